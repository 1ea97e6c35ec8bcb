import PyProof.Rows.All
import Wide.All
import OpenK.AllK
import Wide.FinOn
import Lean
import PyProof.EqAt
import PyProof.EqKinds
import PyProof.TupleCall
import PyProof.Rows.SeqMore
import KE.KLam
import KE.KSortTup
import KE.KEqDict
import PyProof.NeKinds
import PyProof.TupleOfSeq
import PySem.Challenge.RW_evenpieces_k51_papers_told
set_option maxHeartbeats 0
set_option Elab.async false
set_option linter.all false
noncomputable section
local macro_rules|`(def $x:declId $s:optDeclSig $v:declVal)=>`(noncomputable def $x:declId $s:optDeclSig $v:declVal)
local macro_rules|`(abbrev $x:declId $s:optDeclSig $v:declVal)=>`(noncomputable abbrev $x:declId $s:optDeclSig $v:declVal)
local macro_rules|`(universe $x*)=>return Lean.mkNullNode (←x.mapM λa=>do return(←`(theorem $a:ident:True:=⟨⟩)).raw)
abbrev Xa:=List (PySem.Str × Int)
abbrev Xb:=List (PySem.Str × PySem.Str)
set_option compiler.extract_closed false
set_option maxRecDepth 100000
theorem ao:type_of% @PySem.wpAny_bind:=@PySem.wpAny_bind
theorem cj:type_of% @PySem.Heap.get?_push_of_some:=@PySem.Heap.get?_push_of_some
theorem aK:type_of% @PySem.wpAny_pure:=@PySem.wpAny_pure
abbrev Aa:=PySem.Value
abbrev Ab:=PySem.Shared
theorem bH:type_of% @PySem.Paired.length:=@PySem.Paired.length
abbrev Ad:=PySem.Program
theorem cb:type_of% @decide_eq_true:=@decide_eq_true
theorem eE:type_of% @PySem.Heap.get?_push_size:=@PySem.Heap.get?_push_size
abbrev Ae:=PySem.FuncData
theorem dH:type_of% @decide_eq_false:=@decide_eq_false
theorem aB:type_of% @if_neg:=@if_neg
theorem d7:type_of% @Option.some.inj:=@Option.some.inj
theorem cK:type_of% @PySem.Heap.lt_size:=@PySem.Heap.lt_size
theorem aJ:type_of% @if_pos:=@if_pos
theorem cn:type_of% @PySem.sizeLine_eq:=@PySem.sizeLine_eq
theorem eM:type_of% @PySem.PassesOwn.never:=@PySem.PassesOwn.never
abbrev Af:=PySem.World
theorem k7:type_of% @PySem.F.plainAttrs_list:=@PySem.F.plainAttrs_list
abbrev Ag:=PySem.Around
theorem nB:type_of% @PySem.Heap.get?_update_other:=@PySem.Heap.get?_update_other
theorem ki:type_of% @PySem.W.mg_none_of:=@PySem.W.mg_none_of
theorem ia:type_of% @PySem.boot_len:=@PySem.boot_len
theorem dF:type_of% @congrArg:=@congrArg
theorem nA:type_of% @PySem.wpAny_newObj_type:=@PySem.wpAny_newObj_type
theorem wd:type_of% @PySem.F.type_list_append:=@PySem.F.type_list_append
theorem wc:type_of% @PySem.F.slot_list_append:=@PySem.F.slot_list_append
theorem qq:type_of% @PySem.mem_of_lookup:=@PySem.mem_of_lookup
theorem qj:type_of% @PySem.wpAny_loadPart':=@PySem.wpAny_loadPart'
theorem h9:type_of% @Sum.inr.inj:=@Sum.inr.inj
theorem qk:type_of% @PySem.wpAny_truthy_bool:=@PySem.wpAny_truthy_bool
theorem DX:type_of% @PyProof.Rows.slot_tuple_getitem:=@PyProof.Rows.slot_tuple_getitem
theorem mZ:type_of% @PySem.wpAny_holding:=@PySem.wpAny_holding
abbrev Ah:=PySem.DictEntry
theorem uJ:type_of% @PySem.wpAny_call_entry:=@PySem.wpAny_call_entry
theorem gz:type_of% @if_false:=@if_false
theorem uI:type_of% @PySem.W.kia_one:=@PySem.W.kia_one
theorem xY:type_of% @of_decide_eq_true:=@of_decide_eq_true
theorem DW:type_of% @PySem.F.type_list_extend:=@PySem.F.type_list_extend
theorem DV:type_of% @PySem.F.slot_list_extend:=@PySem.F.slot_list_extend
theorem Z0{p:Prop}[Decidable p](h:decide p=true:=by decide +kernel):p:=of_decide_eq_true h
theorem Z1{p:Prop}(h:p:=by omega):p:=h
theorem Z2{p:Prop}(h:p:=by simp):p:=h
local macro_rules|`(tactic|let $x:ident:=$e)=>`(tactic|have $x:ident:=$e)
local macro_rules|`($a\$b)=>`($a=some $b)
local macro_rules|`(⇑$h)=>`(by simpa using $h)
local macro_rules|`(tactic|exists $e)=>let i:=Lean.mkIdent;`(tactic|refine $e λ$(i `aO) $(i `A) $(i `outer) $(i `s) $(i `H) $(i `vs) $(i `Q) $(i `E) $(i `hr) $(i `h)=>?_)
local macro_rules|`(section v)=>let i:=Lean.mkIdent;return Lean.mkNullNode #[←`(section),←`(variable{$(i `P):ident:$(i `Ad)}{$(i `w):ident:$(i `Af)}{$(i `K):ident:$(i `af)}{$(i `mg):ident:$(i `Str)->$(i `Option) $(i `Aa)}{$(i `base):ident:$(i `Heap)})]
local macro_rules|`(tactic|apply $e)=>`(tactic|refine $e)
local macro_rules|`(#[$x,$xs,*])=>`(⟨$x,$xs,*⟩)
local macro_rules|`(tactic|let $p:term:=$e)=>let g:=λ(x:Lean.Syntax)=>(if x.isIdent then`(rcasesPat|$(⟨x⟩):ident) else if x.isOfKind ``Lean.Parser.Term.hole then`(rcasesPat|_) else pure ⟨x⟩:Lean.MacroM (Lean.TSyntax `rcasesPat));p.raw.rewriteBottomUpM (λn=>if n.isOfKind `«term#[_,]» then n[1].getSepArgs.mapM (λx=>g x>>=λy=>`(Lean.Parser.Tactic.rcasesPatLo|$y:rcasesPat))>>=λs=>`(rcasesPat|⟨$s,*⟩)>>=λt=>pure t.raw else pure n)>>=λq=>`(tactic|obtain $(⟨q⟩):rcasesPat:=$e)
theorem Z{α:Sort _}{a:α}:a=a:=rfl
abbrev af:=PySem.W.Frag
theorem ay:type_of% @List.length_map:=@List.length_map
theorem cw:type_of% @List.getElem?_eq_some_iff:=@List.getElem?_eq_some_iff
theorem cE:type_of% @List.getElem?_eq_getElem:=@List.getElem?_eq_getElem
theorem dA:type_of% @List.mem_of_getElem?:=@List.mem_of_getElem?
theorem bo:type_of% @Nat.le_refl:=@Nat.le_refl
theorem cq:type_of% @List.size_toArray:=@List.size_toArray
theorem bG:type_of% @List.mem_map:=@List.mem_map
theorem cu:type_of% @List.map_append:=@List.map_append
theorem dU:type_of% @List.getElem?_map:=@List.getElem?_map
theorem eR:type_of% @List.mem_cons_of_mem:=@List.mem_cons_of_mem
theorem dJ:type_of% @List.length_take:=@List.length_take
theorem b_:type_of% @List.map_map:=@List.map_map
theorem cU:type_of% @List.mem_cons:=@List.mem_cons
theorem fA:type_of% @List.length_append:=@List.length_append
theorem eN:type_of% @List.take_length:=@List.take_length
theorem fM:type_of% @List.mem_cons_self:=@List.mem_cons_self
theorem dZ:type_of% @List.map_cons:=@List.map_cons
theorem gW:type_of% @Bool.false_ne_true:=@Bool.false_ne_true
theorem fL:type_of% @List.mem_append:=@List.mem_append
theorem eJ:type_of% @Nat.ne_of_lt:=@Nat.ne_of_lt
theorem iB:type_of% @Bool.false_eq_true:=@Bool.false_eq_true
theorem pL:type_of% @List.nodup_iff_pairwise_ne:=@List.nodup_iff_pairwise_ne
theorem jm:type_of% @Nat.lt_of_lt_of_le:=@Nat.lt_of_lt_of_le
theorem ku:type_of% @List.getElem_of_mem:=@List.getElem_of_mem
theorem nZ:type_of% @List.mem_append_right:=@List.mem_append_right
theorem jr:type_of% @List.take_add_one:=@List.take_add_one
theorem qT:type_of% @Int.eq_ofNat_of_zero_le:=@Int.eq_ofNat_of_zero_le
theorem kB:type_of% @List.length_cons:=@List.length_cons
theorem gM:type_of% @Nat.zero_le:=@Nat.zero_le
theorem nU:type_of% @List.getElem_mem:=@List.getElem_mem
theorem qS:type_of% @Array.length_toList:=@Array.length_toList
theorem lA:type_of% @List.nodup_cons:=@List.nodup_cons
theorem Ak:type_of% @List.getElem?_append_right:=@List.getElem?_append_right
theorem vf:type_of% @List.map_congr_left:=@List.map_congr_left
theorem ym:type_of% @List.take_of_length_le:=@List.take_of_length_le
theorem qQ:type_of% @List.pairwise_map:=@List.pairwise_map
theorem CD:type_of% @List.getElem?_append_left:=@List.getElem?_append_left
theorem ve:type_of% @Int.toNat_natCast:=@Int.toNat_natCast
theorem nR:type_of% @Bool.not_true:=@Bool.not_true
theorem CC:type_of% @Option.isSome_iff_exists:=@Option.isSome_iff_exists
theorem Aj:type_of% @List.length_replicate:=@List.length_replicate
theorem qP:type_of% @List.length_nil:=@List.length_nil
theorem vd:type_of% @List.lookup_cons:=@List.lookup_cons
theorem nQ:type_of% @Nat.le_trans:=@Nat.le_trans
theorem yl:type_of% @List.mem_filterMap:=@List.mem_filterMap
theorem vc:type_of% @List.find?_cons:=@List.find?_cons
theorem CB:type_of% @List.length_singleton:=@List.length_singleton
theorem Eb:type_of% @List.length_eq_zero_iff:=@List.length_eq_zero_iff
theorem Ac:type_of% @List.length_drop:=@List.length_drop
theorem yk:type_of% @List.mem_range:=@List.mem_range
theorem Al:type_of% @List.append_nil:=@List.append_nil
theorem yn:type_of% @Nat.lt_irrefl:=@Nat.lt_irrefl
theorem wu:type_of% @Nat.ne_of_gt:=@Nat.ne_of_gt
theorem wo:type_of% @Int.zero_add:=@Int.zero_add
abbrev ak:=List PySem.Value
abbrev aj:=PySem.Str->PySem.Str
abbrev ai:=List PySem.Addr
abbrev ae:=List PySem.Str
namespace L2
open PySem PySem.Spec PyProof.Rows
abbrev Key:=Sum Int Str
def xO:Key->Aa->Bool
 |.inl k,v=>Value.isInt k v
 |.inr x,v=>Value.isStrOf x v
def M7(w:Af):Key->Int
 |.inl k=>hashInt k
 |.inr x=>hashStr w x
theorem qR:∀{k:Key} {v:Aa},xO k v=true->(∃i t,k=Sum.inl i/\v=Value.int i t)∨(∃x t,k=Sum.inr x/\v=Value.str x t)
 |.inl i,v,h=>by
  let#[t,e]:=Value.isInt_shape (k:=i) (v:=v) h;exact .inl #[i,t,Z,e]
 |.inr x,v,h=>by
  let#[t,e]:=Value.isStrOf_shape (x:=x) (v:=v) h;exact .inr #[x,t,Z,e]
theorem hy_(i:Int)(t:Tok):xO (.inl i) (.int i t)=true:=by simp[xO,Value.isInt]
theorem hA_(x:Str)(t:Tok):xO (.inr x) (.str x t)=true:=by simp[xO,Value.isStrOf]
theorem lG_(a b:Int):decide ((Sum.inl a:Key)=Sum.inl b)=(a == b):=by
 by_cases e:a=b
 ·subst e;simp
 have h:¬(Sum.inl a:Key)=Sum.inl b:=λq=>e (Sum.inl.inj q);rw[dH h];exact (beq_eq_false_iff_ne.mpr e).symm
theorem l5_(a b:Str):decide ((Sum.inr a:Key)=Sum.inr b)=decide (a=b):=by
 by_cases e:a=b
 ·subst e;simp
 have h:¬(Sum.inr a:Key)=Sum.inr b:=λq=>e (h9 q);rw[dH h,dH e]
theorem l2_(a:Int)(b:Str):decide ((Sum.inl a:Key)=Sum.inr b)=false:=dH (λq=>nomatch q)
theorem ll_(a:Str)(b:Int):decide ((Sum.inr a:Key)=Sum.inl b)=false:=dH (λq=>nomatch q)
def d_(prog:Ad)(w:Af):PySem.KeyKind prog w Key where
 is:=xO
 hash:=M7 w
 inj:=λv a b ha hb=>by
  rcases qR ha with⟨i,t,rfl,rfl⟩|⟨x,t,rfl,rfl⟩
  ·rcases qR hb with⟨j,u,rfl,e⟩|⟨y,u,rfl,e⟩
   ·injection e with e1 _;rw[e1]
   exact nomatch e
  rcases qR hb with⟨j,u,rfl,e⟩|⟨y,u,rfl,e⟩
  ·exact nomatch e
  injection e with e1 _;rw[e1]
 byValue:=λk v h=>by
  rcases qR h with⟨i,t,rfl,rfl⟩|⟨x,t,rfl,rfl⟩<;>rfl
 pyHash:=λhv h=>by
  rcases qR hv with⟨i,t,rfl,rfl⟩|⟨x,t,rfl,rfl⟩
  ·exact wpAny_pyHash_int h
  exact wpAny_pyHash_str h
 eqBool:=λhu hv h=>by
  rcases qR hu with⟨i,t,rfl,rfl⟩|⟨x,t,rfl,rfl⟩
  ·rcases qR hv with⟨j,u,rfl,rfl⟩|⟨y,u,rfl,rfl⟩
   ·rw[lG_] at h;exact wpAny_eqBool_int h
   rw[l2_] at h;exact SeqAt.EqAt.int_str i t y u _ _ _ _ h
  rcases qR hv with⟨j,u,rfl,rfl⟩|⟨y,u,rfl,rfl⟩
  ·rw[ll_] at h;exact SeqAt.EqAt.str_int x t j u _ _ _ _ h
  rw[l5_] at h;exact wpAny_eqBool_str h
 «strs»:=λk x t v h=>by
  rcases qR h with⟨i,u,rfl,e⟩|⟨y,u,rfl,e⟩
  ·exact nomatch e
  injection e with e1 _
  subst e1;cases v<;>rfl
theorem f9_(prog:Ad)(w:Af)(i:Int)(t:Tok):(d_ prog w).is (.inl i) (.int i t)=true:=hy_ i t
theorem Rv(prog:Ad)(w:Af)(x:Str)(t:Tok):(d_ prog w).is (.inr x) (.str x t)=true:=hA_ x t
end L2
abbrev az:=List L2.Key
namespace L2
open PySem PySem.Spec PyProof.Rows
inductive V where
 |non|bl (b:Bool)|int (i:Int)|str (x:Str)|byt (b:Array UInt8)|flt (b:UInt64)|ref (a:Addr)|ty (n:String)
 deriving DecidableEq
def RelV:V->Aa->Prop
 |.non,u=>u=Value.none
 |.bl b,u=>u=Value.bool b
 |.int i,u=>∃t,u=Value.int i t
 |.str x,u=>∃t,u=Value.str x t
 |.byt b,u=>∃t,u=Value.bytes b t
 |.flt b,u=>∃t,u=Value.float b t
 |.ref a,u=>u=Value.ref a
 |.ty n,u=>u=Value.type n
abbrev Vals:List V->ak->Prop:=Paired RelV
theorem Vals.length{xs:List V}{us:ak}(r:Vals xs us):xs.length=us.length:=bH r
theorem Vals.get:∀{xs:List V} {us:ak} {i:Nat} {x:V},Vals xs us->xs[i]? = some x->∃u,us[i]? = some u/\RelV x u
 |_,_,_,_,.nil,e=>by simp at e
 |_,_,0,_,.cons r _,e=>by simp at e;subst e;exact#[_,Z,r]
 |_,_,i+1,x,.cons _ t,e=>by
  let#[u,h1,h2]:=Vals.get (i:=i) (x:=x) t ⇑e;exact#[u,by simpa using h1,h2]
theorem Vals.set{x:V}{u:Aa}(r:RelV x u):∀{xs:List V} {us:ak} (i:Nat),Vals xs us->Vals (xs.set i x) (us.set i u)
 |_,_,_,.nil=>.nil
 |_,_,0,.cons _ t=>.cons r t
 |_,_,i+1,.cons q t=>.cons q (Vals.set r i t)
theorem Vals.append:∀{xs ys:List V} {us ws:ak},Vals xs us->Vals ys ws->Vals (xs++ys) (us++ws)
 |_,_,_,_,.nil,s=>s
 |_,_,_,_,.cons r t,s=>.cons r (Vals.append t s)
theorem Vals.take:∀{xs:List V} {us:ak} (n:Nat),Vals xs us->Vals (xs.take n) (us.take n)
 |_,_,0,_=>.nil
 |_,_,_+1,.nil=>.nil
 |_,_,n+1,.cons r t=>.cons r (Vals.take n t)
theorem Vals.drop:∀{xs:List V} {us:ak} (n:Nat),Vals xs us->Vals (xs.drop n) (us.drop n)
 |_,_,0,r=>r
 |_,_,_+1,.nil=>.nil
 |_,_,n+1,.cons _ t=>Vals.drop n t
def eS:Option V->Option Aa->Prop
 |some v,some u=>RelV v u
 |none,none=>True
 |_,_=>False
def KV{κ:Type}:List (κ × V)->List (κ × Aa)->Prop:=Paired λ(p:κ × V) (q:κ × Aa)=>p.1=q.1/\RelV p.2 q.2
def kV:Key->V
 |.inl i=>.int i
 |.inr x=>.str x
inductive HO where
  |lst (xs:List V)
  |tup (xs:List V)
  |dK (kvs:List (Key × V))|dT (kvs:List (az × V))
  |set (S:Int->Bool) (n:Nat)
  |ins (C dx:Addr) (fs:List (Str × V))
  |own (x:Addr)
  |xd (fs:List (Str × V))
  |met (f x:Addr)
  |rng (lo hi:Int)
  |frz (o:Obj) (u:HO)
  |tbl (ps:Array Aa)
  |ext (φ:Heap->Prop)
abbrev Hp:=Addr->Option HO
def upd(H:Hp)(a:Addr)(o:HO):Hp:=λb=>if b=a then some o else H b
theorem au{H:Hp}{a:Addr}{o:HO}:upd H a o a\o:=by unfold upd;rw[aJ Z]
theorem aA{H:Hp}{a b:Addr}{o:HO}(h:b≠a):upd H a o b=H b:=by unfold upd;rw[aB h]
theorem kc_{H:Hp}{a:Addr}{o u:HO}:upd (upd H a o) a u=upd H a u:=by
 funext b;unfold upd;split<;>rfl
theorem bX{H:Hp}{a b:Addr}{o u:HO}(h:H a\o)(h':H b\u)(d:o≠u):a≠b:=by
 intro e;subst e;rw[h] at h';exact d (d7 h')
theorem bw{H:Hp}{a b:Addr}{o:HO}(h:H a\o)(h':H b=none):a≠b:=by
 intro e;subst e;rw[h] at h';cases h'
section
variable(P:Ad)(w:Af)
def eI(H:Hp)(h:Heap)(a:Addr):HO->Prop
 |.lst xs=>xs.length<=sizeLine/\∃(its:ak) (n:Nat),Vals xs its/\h.get? a=some { cls:=.type "list",data:=.seq its.toArray n }
 |.tup xs=>xs.length<=sizeLine/\∃its:ak,Vals xs its/\IsTup h a its.toArray/\∃o,h.get? a\o/\o.dict=none
 |.dK kvs=>kvs.length<=sizeLine/\(a == sysModules)=false/\∃vs,KV kvs vs/\h.DictOf (d_ P w) a vs
 |.dT kvs=>kvs.length<=sizeLine/\(a == sysModules)=false/\∃xs:List (az × Addr × Aa),
   Paired (λ(p:az × V) (q:az × Addr × Aa)=>p.1=q.1/\H q.2.1\.tup (p.1.map kV)/\RelV p.2 q.2.2) kvs xs /\
   ∃o es ep,h.get? a\o/\o.ExactDict/\o.data=.dict es ep/\es.toList=xs.map (entryOfKey (tupleKind (d_ P w)))/\(xs.map (·.1)).Nodup
 |.set S n=>h.SetOf (intKind P w) a S n
 |.ins C dx fs=>H dx\.own a/\fs.length<=1000/\dx≠a/\h.get? a\PySem.W.instObj C dx /\
   ∃mA,h.Ns1 dx mA/\(∀f,eS (fs.lookup f) (mA f))/\PySem.Within mA (fs.map (·.1))
 |.own _=>∃o,h.get? a\o
 |.xd fs=>∃mA,h.Ns1 a mA/\∀f,eS (fs.lookup f) (mA f)
 |.rng lo hi=>∃t u v,h.get? a=some { cls:=.type "range",data:=.fields (List.toArray [.int lo t,.int hi u,.int 1 v]) }
 |.frz o u=>h.get? a\o/\eI H h a u
 |.tbl ps=>h.get? a=some { cls:=.none,data:=.fields ps }
 |.met f x=>h.get? a\PySem.W.methodObj (.ref f) (.ref x)
 |.ext φ=>φ h/\(∃o,h.get? a\o)/\∀h1 h2:Heap,φ h1->(∀o,h1.get? a\o->h2.get? a\o)->φ h2
def eL(H:Hp)(h:Heap):Prop:=∀a o,H a\o->eI P w H h a o
end
section
variable{P:Ad}{w:Af}{H H':Hp}{h h':Heap}{a:Addr}{o:HO}
theorem eI.lt(x:eI P w H h a o):a<h.objs.size:=by
 cases o with
 |lst xs=>let#[_,_,_,_,e]:=x;exact cK e
 |tup xs=>let#[_,_,_,p,_]:=x;exact p.lt
 |dK kvs=>let#[_,_,_,_,o,_,_,e,_]:=x;exact cK e
 |dT kvs=>let#[_,_,_,_,o,_,_,e,_]:=x;exact cK e
 |set S n=>let#[o,_,_,_,e,_]:=x;exact cK e
 |ins C dx fs=>let#[_,_,_,e,_]:=x;exact cK e
 |own y=>let#[_,e]:=x;exact cK e
 |xd fs=>let#[_,#[_,_,_,e,_],_]:=x;exact cK e
 |rng lo hi=>let#[_,_,_,e]:=x;exact cK e
 |frz ob u=>let#[e,_]:=x;exact cK e
 |tbl ps=>exact cK (show h.get? a\_ from x)
 |met f y=>exact cK (show h.get? a\_ from x)
 |ext φ=>let#[_,#[_,e],_]:=x;exact cK e
theorem Paired.bF{α β:Type}{F G:α->β->Prop}:∀{Fy:List α} {Fx:List β},Paired F Fy Fx->(∀a b,F a b->G a b)->Paired G Fy Fx
 |_,_,.nil,_=>.nil
 |_,_,.cons r t,f=>.cons (f _ _ r) (Paired.bF t f)
theorem eI.eC(x:eI P w H h a o)(k:∀b u,(b=a∨H b\.own a)->h.get? b\u->h'.get? b\u)
  (ho:∀b,H b\.own a->H' b\.own a) (ht:∀b xs,H b\.tup xs->H' b\.tup xs):eI P w H' h' a o:=by
 induction o with
 |lst xs=>let#[z,its,n,r,e]:=x;exact#[z,its,n,r,k _ _ (.inl Z) e]
 |tup xs=>let#[z,its,r,#[ob,e,c],o2,e2,c2]:=x;exact#[z,its,r,#[ob,k _ _ (.inl Z) e,c],o2,k _ _ (.inl Z) e2,c2]
 |dK kvs=>let#[z,y,vs,r,ob,es,ep,e,c]:=x;exact#[z,y,vs,r,ob,es,ep,k _ _ (.inl Z) e,c]
 |dT kvs=>
  let#[z,y,xs,r,ob,es,ep,e,c]:=x;exact#[z,y,xs,Paired.bF r λp q z=>#[z.1,ht _ _ z.2.1,z.2.2],ob,es,ep,k _ _ (.inl Z) e,c]
 |set S n=>let#[ob,es,ep,t,e,c]:=x;exact#[ob,es,ep,t,k _ _ (.inl Z) e,c]
 |ins C dx fs=>
  let#[d,z,ne,e,mA,#[od,es,ep,e2,c],r]:=x;exact#[ho _ d,z,ne,k _ _ (.inl Z) e,mA,#[od,es,ep,k _ _ (.inr d) e2,c],r]
 |own y=>let#[ob,e]:=x;exact#[ob,k _ _ (.inl Z) e]
 |xd fs=>let#[mA,#[od,es,ep,e,c],r]:=x;exact#[mA,#[od,es,ep,k _ _ (.inl Z) e,c],r]
 |rng lo hi=>let#[t,u,v,e]:=x;exact#[t,u,v,k _ _ (.inl Z) e]
 |frz ob u ih=>let#[e,q]:=x;exact#[k _ _ (.inl Z) e,ih q]
 |tbl ps=>
  have e:h.get? a=some { cls:=.none,data:=.fields ps }:=x;show h'.get? a=some { cls:=.none,data:=.fields ps };exact k a _ (.inl Z) e
 |met f y=>
  have e:h.get? a\PySem.W.methodObj (.ref f) (.ref y):=x;show h'.get? a\PySem.W.methodObj (.ref f) (.ref y);exact k a _ (.inl Z) e
 |ext φ=>let#[p,#[o,e],st]:=x;exact#[st _ _ p λo q=>k _ _ (.inl Z) q,#[o,k _ _ (.inl Z) e],st]
theorem eL.lt(x:eL P w H h)(e:H a\o):a<h.objs.size:=(x a o e).lt
theorem eL.fresh(x:eL P w H h)(e:h.objs.size<=a):H a=none:=by
 cases q:H a with
 |none=>rfl
 |some u=>exact absurd (jm (x.lt q) e) (yn _)
theorem eL.kept(x:eL P w H h)(k:∀b u,h.get? b\u->h'.get? b\u):eL P w H h':=λa o e=>
 (x a o e).eC (λb u _ q=>k b u q) (λ_ q=>q) λ_ _ q=>q
theorem eL.laid(x:eL P w H h)(k:∀b u,h.get? b\u->h'.get? b\u)(hp:h.objs.size<=a)(new:eI P w (upd H a o) h' a o):eL P w (upd H a o) h':=λb u e=>by
 let hn:=x.fresh hp;by_cases hb:b=a
 ·subst hb;rw[au] at e;cases e;exact new
 rw[aA hb] at e;exact (x b u e).eC (λc v _ q=>k c v q) (λc q=>by rw[aA (bw q hn)];exact q) λc xs q=>by rw[aA (bw q hn)];exact q
end
def Rd(H:Hp)(a:Addr)(u:HO):Prop:=H a=some u∨∃o,H a\.frz o u
theorem Rd.of{H:Hp}{a:Addr}{u:HO}(h:H a\u):Rd H a u:=.inl h
theorem Rd.ok{P:Ad}{w:Af}{H:Hp}{h:Heap}{a:Addr}{u:HO}(r:Rd H a u)(x:eL P w H h):eI P w H h a u:=by
 rcases r with r|⟨o,r⟩
 ·exact x a u r
 let#[_,q]:=x a _ r;exact q
def IT:Option HO->Prop
 |some (.lst _)=>True
 |some (.dK _)=>True
 |some (.dT _)=>True
 |some (.set _ _)=>True
 |some (.ins _ _ _)=>True
 |some (.ext _)=>True
 |_=>False
section
variable{P:Ad}{w:Af}{H:Hp}{h h':Heap}{x e:Addr}{o':HO}
theorem eL.write(ok:eL P w H h)(mu:IT (H x))(he:e=x∨H e\.own x)(k:∀b u,b≠e->h.get? b\u->h'.get? b\u)(Dn:∃u,h'.get? e\u)
  (new:eI P w (upd H x o') h' x o'):eL P w (upd H x o') h':=λb u q=>by
 have Fm:∀c y,H c\.own y->c≠x:=λc y r z=>by subst z;rw[r] at mu;exact mu
 have Mx:∀c xs,H c\.tup xs->c≠x:=λc xs r z=>by subst z;rw[r] at mu;exact mu
 by_cases hb:b=x
 ·subst hb;rw[au] at q;cases q;exact new
 rw[aA hb] at q;by_cases BC:b=e
 ·have q':H b\.own x:=by
   rcases he with z|z
   ·exact absurd (BC.trans z) hb
   rw[BC];exact z
  rw[q] at q';cases q';let#[v,hv]:=Dn;exact#[v,by rw[BC];exact hv]
 apply (ok b u q).eC (λc v hc r=>k c v ?_ r) (λc r=>by rw[aA (Fm c b r)];exact r) λc xs r=>by rw[aA (Mx c xs r)];exact r
 rcases hc with rfl|hc
 ·exact BC
 rintro rfl;rcases he with z|z
 ·exact Fm c b hc z
 rw[hc] at z;cases z;exact hb Z
end
structure Un (fs ex:ai) (H H':Hp) (h h':Heap):Prop where
 keep:∀b o,h.get? b\o->H b=none->b∉fs->b∉ex->h'.get? b\o
 slot:∀b o,h.get? b\o->H b=none->b∈fs->b∉ex->∃sl,h'.get? b=some { o with slots:=sl }
 free:∀b o,h.get? b\o->H b=none->b∉ex->H' b=none
 there:∀b o,h.get? b\o->b∉ex->∃o',h'.get? b\o'
 g6:∀b xs,H b\.tup xs->H' b\.tup xs
 fY:∀b o u,H b\.frz o u->H' b\.frz o u
 gN:∀b ps,H b\.tbl ps->∃more,H' b\.tbl (ps++more)
section
variable{fs fs' ex ex':ai}{H H1 H2:Hp}{h h1 h2 h':Heap}{a x e:Addr}{o:HO}
theorem Un.any(u:Un fs ex H H1 h h1){b:Addr}{ob:Obj}(q:h.get? b\ob)(n:H b=none)(hx:b∉ex):∃sl,h1.get? b=some { ob with slots:=sl }:=by
 by_cases hb:b∈fs
 ·exact u.slot b ob q n hb hx
 exact#[ob.slots,u.keep b ob q n hb hx]
theorem Un.kept(k:∀b u,h.get? b\u->h'.get? b\u):Un fs ex H H h h':=
 #[λb ob q _ _ _=>k b ob q,λb ob q _ _ _=>#[ob.slots,k b ob q],λ_ _ _ n _=>n,λb ob q _=>#[ob,k b ob q],λ_ _ q=>q,λ_ _ _ q=>q,λ_ ps q=>#[#[],by rw[q];simp]]
theorem Un.refl:Un fs ex H H h h:=Un.kept λ_ _ q=>q
theorem Un.laid(k:∀b u,h.get? b\u->h'.get? b\u)(hp:h.objs.size<=a)(hn:H a=none):Un fs ex H (upd H a o) h h' where
 keep:=λb u q _ _ _=>k b u q
 slot:=λb u q _ _ _=>#[u.slots,k b u q]
 free:=λb u q n _=>by rw[aA (eJ (jm (cK q) hp))];exact n
 there:=λb u q _=>#[u,k b u q]
 g6:=λb xs q=>by rw[aA (bw q hn)];exact q
 fY:=λb u xs q=>by rw[aA (bw q hn)];exact q
 gN:=λb ps q=>#[#[],by rw[aA (bw q hn),q];simp]
theorem Un.write(mu:IT (H x))(he:e=x∨H e\.own x)(k:∀b u,b≠e->h.get? b\u->h'.get? b\u)(Dn:∃u,h'.get? e\u):Un fs ex H (upd H x o) h h':=by
 have hx:∀b,H b=none->b≠x:=λb n z=>by subst z;rw[n] at mu;exact mu
 have hb:∀b,H b=none->b≠e:=λb n z=>by
  subst z;rcases he with r|r
  ·exact hx b n r
  rw[n] at r;cases r
 have hm:∀b u,H b\u->¬IT (some u)->b≠x:=λb u q nm z=>by subst z;rw[q] at mu;exact nm mu
 apply#[λb u q n _ _=>k b u (hb b n) q,λb u q n _ _=>#[u.slots,k b u (hb b n) q],λb u q n _=>by rw[aA (hx b n)];exact n,λb u q _=>?_,
  λb xs q=>by rw[aA (hm b _ q λz=>z)];exact q,λb u xs q=>by rw[aA (hm b _ q λz=>z)];exact q,λb ps q=>#[#[],by rw[aA (hm b _ q λz=>z),q];simp]]
 by_cases BC:b=e
 ·subst BC;exact Dn
 exact#[u,k b u BC q]
end
def I0(h:Heap)(H:Hp):ai:=(List.range h.objs.size).filter λa=>(H a).isSome
def iI(h:Heap)(H:Hp):Heap:=PySem.W.hideAll h (I0 h H)
theorem gV_(h:Heap)(H:Hp):(iI h H).objs.size=h.objs.size:=PySem.W.hideAll_size _ _
theorem iX_{h:Heap}{H:Hp}{b:Addr}{o:Obj}(e:h.get? b\o)(n:H b=none):(iI h H).get? b\o:=
 PySem.W.hideAll_get _ e λhm=>by
  have q:(H b).isSome=true:=(List.mem_filter.mp hm).2;rw[n] at q;simp at q
theorem k3_{h:Heap}{H:Hp}{b:Addr}{o:Obj}(e:(iI h H).get? b\o):h.get? b\o/\H b=none:=by
 have e':h.get? b\o:=PySem.W.of_hideAll (I0 h H) e;apply#[e',?_];cases q:H b with
 |none=>rfl
 |some x=>
  have hm:b∈I0 h H:=List.mem_filter.mpr #[yk.mpr (cK e'),by simp[q]];have z:(iI h H).get? b=none:=PySem.W.hideAll_none (I0 h H) hm;rw[z] at e;cases e
end L2
abbrev ag:=List L2.V
abbrev aL:=Option L2.V
namespace L2
open PySem PySem.Spec PyProof.Rows
structure Mod (K:af) (mg:Str->Option Aa) (base:Heap):Prop where
 FE:K.In base
 glob:base.Ns mainGlobals mg
 blt:∃mb,base.Ns builtinsNs mb/\∀x:Str,x≠"__name__"->mb x=bootBuiltins x
 nolimit:base.NoLimit
structure Cx where
 prog:Ad
 w:Af
 K:af
 mg:Str->Option Aa
 base:Heap
 A:Ag
 N:ae
 cZ:Ab
 jt:Hp
 env:Env
 outer:List Env
 stack:List Env
 ex:ai
 fn:Str->Bool
 calm:Bool
 pn:List (Addr × Obj)
 xe:Aa->Ab->Prop
def hY(l:List Env):ai:=l.filterMap (·.frame)
abbrev Cx.fs(X:Cx):ai:=hY X.outer
def RL(sc:Scope)(x:Str):Prop:=sc.names.lookup x=some .local∨sc.names.lookup x\.cell∨sc.names.lookup x\.free
def Loc(sc:Scope)(x:Str):Prop:=sc.names.lookup x=some .local∨sc.names.lookup x\.cell
def Look(env:Env)(h:Heap)(m:Str->Option Aa)(x:Str)(u:Aa):Prop:=
 (env.kindOf x\.local/\m x\u)∨((env.kindOf x\.cell∨env.kindOf x\.free)/\∃c,env.cells.lookup x\c/\h.IsCell c (some u))
structure Cx.Ok (X:Cx):Prop where
 mod:Mod X.K X.mg X.base
 kind:X.env.scope.kind=.function
 glob:X.env.globals=mainGlobals
 blt:X.env.builtins=builtinsNs
 above:X.cZ.heap.objs.size<=X.env.locals
 inj:∀x y c,X.env.cells.lookup x\c->X.env.cells.lookup y\c->x=y
 has:∀x,(X.env.kindOf x\.cell∨X.env.kindOf x\.free)->∃c,X.env.cells.lookup x\c
 DU:∀x c,X.fn x=true->X.env.cells.lookup x\c->X.cZ.heap.objs.size<=c
 hd:X.calm=true->X.A.handled=none
 frames:X.A.frames\X.stack
 Jh:X.stack=X.outer∨(X.stack=X.env::X.outer/\X.env.frame\X.env.locals)
 Ka:∀b∈X.ex,b≠X.env.locals/\∀x c,X.env.cells.lookup x\c->c≠b
 bs:∀b o,X.base.get? b\o->X.cZ.heap.get? b\o/\X.jt b=none
 uT:X.base.objs.size<=X.cZ.heap.objs.size
 ua:∀b o,X.base.get? b\o->b∉X.ex
 uE:∀b∈X.ex,b∉X.fs
 fX:X.cZ.heap.FunFrames X.base X.outer
 xG:∀b∈X.fs,X.jt b=none
structure Inv (X:Cx) (pins:List (Addr × Obj)) (σ:List aL) (H:Hp) (s:Ab):Prop where
 ok:X.Ok
 os:s.os=X.cZ.os
 bare:AllBare s.gens
 base:Un X.fs X.ex X.jt H X.cZ.heap s.heap
 loc:∃m,s.heap.Ns X.env.locals m/\∀(i:Nat) (x:Str) (v:V),X.N[i]? = some x->σ[i]? = some (some v)->RL X.env.scope x->∃u,RelV v u/\Look X.env s.heap m x u
 cell:∀x c,X.env.cells.lookup x\c->∃v,s.heap.IsCell c v
 free:H X.env.locals=none
 eG:∀x c,X.env.cells.lookup x\c->H c=none
 pin:∀p∈X.pn++pins,s.heap.get? p.1\p.2/\H p.1=none/\p.1≠X.env.locals/\p.1∉X.fs/\∀v,p.2.data≠.cell v
 aE:eL X.prog X.w H s.heap
 len:σ.length=X.N.length
section
variable{X:Cx}{pins:List (Addr × Obj)}{σ:List aL}{H H':Hp}{s:Ab}{h':Heap}
theorem Cx.Ok.MC(ok:X.Ok){b:Addr}{o:Obj}(e:X.base.get? b\o):b∉X.fs:=λhb=>by
 have:=(ok.fX.mem hb).1;rw[e] at this;cases this
theorem Inv.bs(I:Inv X pins σ H s):∀b o,X.base.get? b\o->s.heap.get? b\o/\H b=none:=λb o e=>
 #[I.base.keep b o (I.ok.bs b o e).1 (I.ok.bs b o e).2 (I.ok.MC e) (I.ok.ua b o e),I.base.free b o (I.ok.bs b o e).1 (I.ok.bs b o e).2 (I.ok.ua b o e)]
theorem Inv.bk(I:Inv X pins σ H s):∀b o,X.base.get? b\o->s.heap.get? b\o:=λb o e=>(I.bs b o e).1
theorem Inv.mod(I:Inv X pins σ H s):Mod X.K X.mg X.base:=I.ok.mod
theorem Inv.gr(I:Inv X pins σ H s):X.K.In s.heap:=I.ok.mod.FE.keeps I.bk
theorem Inv.lt(I:Inv X pins σ H s):X.env.locals<s.heap.objs.size:=let #[_,hn,_]:=I.loc;hn.lt
theorem Inv.sz(I:Inv X pins σ H s):X.cZ.heap.objs.size<=s.heap.objs.size:=nQ I.ok.above (Nat.le_of_lt I.lt)
theorem Inv.MB(I:Inv X pins σ H s){a:Addr}(h:s.heap.objs.size<=a):a∉X.fs:=λhb=>by
 let#[_,o,ho,_]:=I.ok.fX.mem hb;exact absurd (jm (cK ho) (nQ I.sz h)) (yn _)
theorem Inv.vZ(I:Inv X pins σ H s):∀x c,X.env.cells.lookup x\c->c≠X.env.locals:=λx c e z=>by
 let#[v,o,ho,hd]:=I.cell x c e;let#[m,#[o',es,ep,gy,fH,_],_]:=I.loc;rw[z,gy] at ho;cases ho;rw[fH] at hd;cases hd
theorem Inv.fX(I:Inv X pins σ H s):s.heap.FunFrames X.base X.outer:=by
 have all:∀(l:List Env),(∀b∈hY l,b∈X.fs)->X.cZ.heap.FunFrames X.base l->s.heap.FunFrames X.base l:=by
  intro l
  induction l with
  |nil=>intro _ _;trivial
  |cons env r ih=>
   intro hs hl;let#[hk,#[L,o,hf,hn,ho,hd],hr]:=hl;have hL:L∈X.fs:=hs L (by unfold hY;rw[List.filterMap_cons,hf];exact fM);let#[sl,e]:=I.base.slot L o ho (I.ok.xG L hL) hL λz=>I.ok.uE L z hL;exact#[hk,#[L,_,hf,hn,e,hd],ih (λb hb=>hs b (by unfold hY;rw[List.filterMap_cons,hf];exact eR _ hb)) hr]
 exact all X.outer (λ_ hb=>hb) I.ok.fX
theorem Inv.stack(I:Inv X pins σ H s):s.heap.FunFrames X.base X.stack:=by
 rcases I.ok.Jh with e|⟨e,hf⟩
 ·rw[e];exact I.fX
 rw[e];let#[m,hn,_]:=I.loc;apply .cons (by rw[I.ok.kind];decide) hf hn ?_ I.fX;exact Heap.get?_none_of_le (nQ I.ok.uT I.ok.above)
theorem Inv.i4(I:Inv X pins σ H s):∀b∈hY X.stack,b∈X.env.locals::X.fs:=λb hb=>by
 rcases I.ok.Jh with e|⟨e,hf⟩
 ·rw[e] at hb;exact eR _ hb
 rw[e] at hb;unfold hY at hb;rw[List.filterMap_cons,hf] at hb;exact hb
theorem Inv.i5(I:Inv X pins σ H s):∀b∈hY X.stack,H b=none:=λb hb=>by
 rcases cU.mp (I.i4 b hb) with e|hb
 ·rw[e];exact I.free
 let#[_,o,ho,_]:=I.ok.fX.mem hb;exact I.base.free b o ho (I.ok.xG b hb) λz=>I.ok.uE b z hb
theorem Inv.step{g':Array GenState}{t':Nat}{d':Drawn}{ch:ai}(I:Inv X pins σ H s)
  (vP:∀b∈ch,(b∈X.ex∨X.cZ.heap.objs.size<=b)/\b≠X.env.locals/\(∀x c,X.env.cells.lookup x\c->c≠b)/\∀p∈X.pn++pins,p.1≠b)
  (keep:∀b o,b≠X.env.locals->b∉X.fs->b∉ch->s.heap.get? b\o->H b=none->h'.get? b\o)
  (slot:∀b o,b≠X.env.locals->b∈X.fs->b∉ch->s.heap.get? b\o->H b=none->∃sl,h'.get? b=some { o with slots:=sl }) (free:∀b o,b∉ch->s.heap.get? b\o->H b=none->H' b=none)
  (there:∀b o,b∉ch->s.heap.get? b\o->∃o',h'.get? b\o')
  (g6:∀b xs,H b\.tup xs->H' b\.tup xs) (fY:∀b o u,H b\.frz o u->H' b\.frz o u) (gN:∀b ps,H b\.tbl ps->∃more,H' b\.tbl (ps++more))
  (ns:∀m,s.heap.Ns X.env.locals m->h'.Ns X.env.locals m) (aE:eL X.prog X.w H' h') (hg:AllBare g') :
  Inv X pins σ H' { s with heap:=h',gens:=g',drawn:=d',toks:=t' }:=by
 have Te:∀b o,X.cZ.heap.get? b\o->b≠X.env.locals:=λb o e=>eJ (jm (cK e) I.ok.above)
 have Jw:∀b o,X.cZ.heap.get? b\o->b∉X.ex->b∉ch:=λb o e hx hb=>by
  rcases (vP b hb).1 with z|z
  ·exact hx z
  exact absurd (jm (cK e) z) (yn _)
 have cellK:∀x c,X.env.cells.lookup x\c->∀v,s.heap.IsCell c v->h'.IsCell c v:=λx c e v ⟨o,ho,hd⟩=>by
  have Fs:c∉ch:=λz=>(vP c z).2.2.1 x c e Z;by_cases hc:c∈X.fs
  ·let#[sl,q]:=slot c o (I.vZ x c e) hc Fs ho (I.eG x c e);exact#[_,q,hd]
  exact#[o,keep c o (I.vZ x c e) hc Fs ho (I.eG x c e),hd]
 apply#[I.ok,I.os,hg,#[λb o e n hb hx=>?_,λb o e n hb hx=>?_,λb o e n hx=>?_,λb o e hx=>?_,λb xs e=>g6 b xs (I.base.g6 b xs e),λb o xs e=>fY b o xs (I.base.fY b o xs e),λb ps e=>?_],?_,λx c e=>?_,?_,λx c e=>?_,λp hp=>?_,aE,I.len]
 ·exact keep b o (Te b o e) hb (Jw b o e hx) (I.base.keep b o e n hb hx) (I.base.free b o e n hx)
 ·let#[sl,e1]:=I.base.slot b o e n hb hx;let#[Z_,e2]:=slot b _ (Te b o e) hb (Jw b o e hx) e1 (I.base.free b o e n hx);exact#[Z_,e2]
 ·let#[o',e1]:=I.base.there b o e hx;exact free b o' (Jw b o e hx) e1 (I.base.free b o e n hx)
 ·let#[o',e1]:=I.base.there b o e hx;exact there b o' (Jw b o e hx) e1
 ·let#[m1,e1]:=I.base.gN b ps e;let#[m2,e2]:=gN b _ e1;exact#[m1++m2,by rw[e2,Array.append_assoc]]
 ·let#[m,hn,hl]:=I.loc;apply#[m,ns m hn,λi x v e1 e2 e3=>?_];let#[u,r,l]:=hl i x v e1 e2 e3;apply#[u,r,?_];rcases l with l|⟨k,c,e,z⟩
  ·exact .inl l
  exact .inr #[k,c,e,cellK x c e _ z]
 ·let#[v,z]:=I.cell x c e;exact#[v,cellK x c e v z]
 ·let#[m,#[o,_,_,ho,_],_]:=I.loc;exact free _ o (λz=>(vP _ z).2.1 Z) ho I.free
 ·let#[v,o,ho,hd]:=I.cell x c e;exact free c o (λz=>(vP c z).2.2.1 x c e Z) ho (I.eG x c e)
 let#[e,n,ne,nf,d]:=I.pin p hp;have Fs:p.1∉ch:=λz=>(vP p.1 z).2.2.2 p hp Z;exact#[keep p.1 p.2 ne nf Fs e n,free p.1 p.2 Fs e n,ne,nf,d]
theorem Inv.un{t':Nat}(I:Inv X pins σ H s)(u:Un X.fs [] H H' s.heap h')(aE:eL X.prog X.w H' h'):Inv X pins σ H' { s with heap:=h',toks:=t' }:=by
 let#[m,#[o,es,ep,ho,r],_]:=id I.loc;let#[sl,hL]:=u.any ho I.free Z2
 exact I.step (g':=s.gens) (d':=s.drawn) (ch:=[]) (λ_ z=>nomatch z) (λb o _ hb _ e n=>u.keep b o e n hb Z2) (λb o _ hb _ e n=>u.slot b o e n hb Z2) (λb o _ e n=>u.free b o e n Z2) (λb o _ e=>u.there b o e Z2) u.g6 u.fY u.gN (λm' hm=>by
  let#[o',pE,qE,gy,r']:=hm;rw[ho] at gy;cases gy;exact#[_,pE,qE,hL,r']) aE I.bare
theorem Inv.call{g':Array GenState}{t':Nat}{d':Drawn}{ch:ai}(I:Inv X pins σ H s)(u:Un (hY X.stack) ch H H' s.heap h')(aE:eL X.prog X.w H' h')(hg:AllBare g')
  (vP:∀b∈ch,(b∈X.ex∨X.cZ.heap.objs.size<=b)/\b≠X.env.locals/\(∀x c,X.env.cells.lookup x\c->c≠b)/\∀p∈X.pn++pins,p.1≠b) :
  Inv X pins σ H' { s with heap:=h',gens:=g',drawn:=d',toks:=t' }:=by
 let#[m,#[o,es,ep,ho,r],_]:=id I.loc;let#[sl,hL]:=u.any ho I.free λz=>(vP _ z).2.1 Z
 exact I.step (ch:=ch) vP (λb o hL hb hc e n=>u.keep b o e n (λz=>(cU.mp (I.i4 b z)).elim hL hb) hc) (λb o _ _ hc e n=>u.any e n hc) (λb o hc e n=>u.free b o e n hc) (λb o hc e=>u.there b o e hc) u.g6 u.fY u.gN (λm' hm=>by
  let#[o',pE,qE,gy,r']:=hm;rw[ho] at gy;cases gy;exact#[_,pE,qE,hL,r']) aE hg
theorem Inv.turned{t':Nat}{it:Addr}(I:Inv X pins σ H s)(k:∀b o,b≠it->s.heap.get? b\o->h'.get? b\o)(hn:H it=none)(hL:it≠X.env.locals)
  (h1:it∈X.ex∨X.cZ.heap.objs.size<=it) (h2:∀x c,X.env.cells.lookup x\c->c≠it) (h3:∀p∈X.pn++pins,p.1≠it):Inv X pins σ H { s with heap:=h',toks:=t' }:=by
 have Td:∀b u,H b\u->b≠it:=λb u e z=>by rw[z,hn] at e;cases e
 apply I.step (g':=s.gens) (d':=s.drawn) (ch:=[it]) (λb hb=>?_) (λb o _ _ hc e _=>k b o (λz=>hc (by simp[z])) e) (λb o _ _ hc e _=>#[o.slots,k b o (λz=>hc (by simp[z])) e]) (λ_ _ _ _ n=>n)
  (λb o hc e=>#[o,k b o (λz=>hc (by simp[z])) e]) (λ_ _ e=>e) (λ_ _ _ e=>e) (λb ps e=>#[#[],by rw[e];simp]) (λm hm=>?_) (λb u e=>?_) I.bare
 ·have e:b=it:=⇑hb
  subst e;exact#[h1,hL,h2,h3]
 ·let#[o,es,ep,ho,r]:=hm;exact#[o,es,ep,k _ o (Ne.symm hL) ho,r]
 apply (I.aE b u e).eC (λc v hc q=>k c v ?_ q) (λ_ q=>q) λ_ _ q=>q;rcases hc with z|z
 ·rw[z];exact Td b u e
 exact Td c _ z
theorem Inv.tok(I:Inv X pins σ H s)(t:Nat):Inv X pins σ H { s with toks:=t }:=I.un (h':=s.heap) (t':=t) Un.refl I.aE
theorem Inv.kept{t':Nat}(I:Inv X pins σ H s)(k:∀b u,s.heap.get? b\u->h'.get? b\u):Inv X pins σ H { s with heap:=h',toks:=t' }:=I.un (Un.kept k) (I.aE.kept k)
theorem Inv.laid{a:Addr}{o:HO}{t':Nat}(I:Inv X pins σ H s)(k:∀b u,s.heap.get? b\u->h'.get? b\u)(hp:s.heap.objs.size<=a)(new:eI X.prog X.w (upd H a o) h' a o) :
  Inv X pins σ (upd H a o) { s with heap:=h',toks:=t' }:=I.un (Un.laid k hp (I.aE.fresh hp)) (I.aE.laid k hp new)
theorem Inv.write{x e:Addr}{o:HO}{t':Nat}(I:Inv X pins σ H s)(mu:IT (H x))(he:e=x∨H e\.own x)(k:∀b u,b≠e->s.heap.get? b\u->h'.get? b\u)(Dn:∃u,h'.get? e\u)
  (new:eI X.prog X.w (upd H x o) h' x o):Inv X pins σ (upd H x o) { s with heap:=h',toks:=t' }:=I.un (Un.write mu he k Dn) (I.aE.write mu he k Dn new)
theorem Inv.oZ{yY:List (Addr × Obj)}(I:Inv X pins σ H s)(h:∀p∈yY,s.heap.get? p.1\p.2/\H p.1=none/\p.1≠X.env.locals/\p.1∉X.fs/\∀v,p.2.data≠.cell v):Inv X yY σ H s:=
 #[I.ok,I.os,I.bare,I.base,I.loc,I.cell,I.free,I.eG,λp hp=>(fL.mp hp).elim (λz=>I.pin p (List.mem_append_left _ z)) (h p),I.aE,I.len]
theorem Vt{N:ae}(hN:N.Nodup){i j:Nat}{x:Str}(a:N[i]? = some x)(b:N[j]? = some x):i=j:=by
 let#[h1,e1]:=cw.mp a;let#[h2,e2]:=cw.mp b;exact (List.getElem_inj hN).mp (e1.trans e2.symm)
theorem V8{M:Model}{A:Ag}{E:Aa->Ab->Prop}{i:Nat}{x:Str}{v:V}{u:Aa}{Q:Unit->Ab->Prop}(I:Inv X pins σ H s)(hN:X.N.Nodup)(hi:X.N[i]? = some x)(hx:Loc X.env.scope x)(r:RelV v u)
  (h:∀s',Inv X pins (σ.set i (some v)) H s'->(∃a,Heap.SameBut a s.heap s'.heap/\(a=X.env.locals∨X.env.cells.lookup x\a))->Q () s') (hf:X.fn x=true∨X.env.scope.names.lookup x\.local:=by first|exact .inl Z|exact .inr Z|assumption):wpAny M A (storeName X.env x u) Q E s:=by
 let#[m,hn,hl]:=id I.loc;have Om:(X.env.scope.kind == .class || (X.env.scope.kind == .module&&X.env.locals != X.env.globals))=false:=by rw[I.ok.kind];rfl
 have Gs:i<σ.length:=by rw[I.len];exact (cw.mp hi).1
 let vZ:=I.vZ
 have tracked:∀{a:Addr} {h':Heap},(∃o,s.heap.get? a\o/\H a=none)->Heap.SameBut a s.heap h'->eL X.prog X.w H h':=λ{a h'} ha hs b ob e=>by
  let#[_,_,zw]:=ha;apply (I.aE b ob e).eC (λc w' hc q=>(hs.2 c ?_).trans q) (λ_ q=>q) λ_ _ q=>q;rintro rfl;rcases hc with rfl|hc
  ·rw[zw] at e;cases e
  rw[zw] at hc;cases hc
 rcases hx with hk|hk
 ·apply wpAny_storeName_local hk hn (λh' vL hs=>?_) Om;let#[oL,_,_,JI,_]:=id hn;apply h _ #[I.ok,I.os,I.bare,#[λb o e n hb hx=>?_,λb o e n hb hx=>?_,I.base.free,λb o e hx=>?_,I.base.g6,I.base.fY,I.base.gN],#[_,vL,λj y v' e1 e2 e3=>?_],λy c e=>?_,I.free,I.eG,λp hp=>?_,tracked #[oL,JI,I.free] hs,by simpa using I.len] #[_,hs,.inl Z]
  ·exact (hs.2 b (eJ (jm (cK e) I.ok.above))).trans (I.base.keep b o e n hb hx)
  ·let#[sl,e1]:=I.base.slot b o e n hb hx;exact#[sl,(hs.2 b (eJ (jm (cK e) I.ok.above))).trans e1]
  ·let#[o',e1]:=I.base.there b o e hx;exact#[o',(hs.2 b (eJ (jm (cK e) I.ok.above))).trans e1]
  ·by_cases hj:j=i
   ·subst hj;rw[hi] at e1;cases e1;rw[List.getElem?_set_self Gs] at e2;cases e2;exact#[u,r,.inl #[hk,by simp]]
   rw[List.getElem?_set_ne (Ne.symm hj)] at e2;let#[u',r',q]:=hl j y v' e1 e2 e3;apply#[u',r',?_];rcases q with⟨k,e⟩|⟨k,c,e,z⟩
   ·apply .inl #[k,?_];have:y≠x:=λe=>hj (Vt hN e1 (e▸hi));simp[this,e]
   exact .inr #[k,c,e,z.sameBut hs (vZ y c e)]
  ·let#[w',z]:=I.cell y c e;exact#[w',z.sameBut hs (vZ y c e)]
  let#[e,n,ne,nf,d]:=I.pin p hp;exact#[(hs.2 p.1 ne).trans e,n,ne,nf,d]
 have N_:X.fn x=true:=by
  rcases hf with z|z
  ·exact z
  rw[z] at hk;cases hk
 let#[c,hc]:=I.ok.has x (.inl hk);let#[w',z]:=I.cell x c hc;apply wpAny_storeName_cell I.ok.kind hk hc z (λh' Dp hs=>?_);let#[oc,F7,NB]:=id z;apply h { s with heap:=h' } #[I.ok,I.os,I.bare,#[λb o e n hb hx=>?_,λb o e n hb hx=>?_,I.base.free,λb o e hx=>?_,I.base.g6,I.base.fY,I.base.gN],#[m,hn.sameBut hs (Ne.symm (vZ x c hc)),λj y v' e1 e2 e3=>?_],λy c' e=>?_,I.free,I.eG,λp hp=>?_,tracked #[oc,F7,I.eG x c hc] hs,by simpa using I.len] #[c,hs,.inr hc]
 ·exact (hs.2 b (eJ (jm (cK e) (I.ok.DU x c N_ hc)))).trans (I.base.keep b o e n hb hx)
 ·let#[sl,e1]:=I.base.slot b o e n hb hx;exact#[sl,(hs.2 b (eJ (jm (cK e) (I.ok.DU x c N_ hc)))).trans e1]
 ·let#[o',e1]:=I.base.there b o e hx;exact#[o',(hs.2 b (eJ (jm (cK e) (I.ok.DU x c N_ hc)))).trans e1]
 ·by_cases hj:j=i
  ·subst hj;rw[hi] at e1;cases e1;rw[List.getElem?_set_self Gs] at e2;cases e2;exact#[u,r,.inr #[.inl hk,c,hc,Dp]]
  rw[List.getElem?_set_ne (Ne.symm hj)] at e2;let#[u',r',q]:=hl j y v' e1 e2 e3;apply#[u',r',?_];rcases q with q|⟨k,c',e,z'⟩
  ·exact .inl q
  apply .inr #[k,c',e,z'.sameBut hs ?_];rintro rfl;exact hj (Vt hN e1 (I.ok.inj _ _ _ e hc▸hi))
 ·by_cases UW:c'=c
  ·subst UW;exact#[_,Dp]
  let#[w2,z2]:=I.cell y c' e;exact#[w2,z2.sameBut hs UW]
 let#[e,n,ne,nf,d]:=I.pin p hp;apply#[(hs.2 p.1 ?_).trans e,n,ne,nf,d];intro q;rw[q,F7] at e;have q':oc=p.2:=d7 e;exact d w' (by rw[<- q'];exact NB)
theorem VR{M:Model}{A:Ag}{E:Aa->Ab->Prop}{i:Nat}{x:Str}{v:V}{u:Aa}{Q:Unit->Ab->Prop}(I:Inv X pins σ H s)(hN:X.N.Nodup)(hi:X.N[i]? = some x)(hx:Loc X.env.scope x)(r:RelV v u)
  (h:∀s',Inv X pins (σ.set i (some v)) H s'->Q () s') (hf:X.fn x=true∨X.env.scope.names.lookup x\.local:=by first|exact .inl Z|exact .inr Z|assumption):wpAny M A (storeName X.env x u) Q E s:=
 V8 I hN hi hx r (λs' I' _=>h s' I') hf
theorem Inv.zS{s':Ab}{ch:ai}(I:Inv X pins σ H s)(ho:s'.os=s.os)(u:Un (hY X.stack) ch H H' s.heap s'.heap)(aE:eL X.prog X.w H' s'.heap)(hg:AllBare s'.gens)
  (vP:∀b∈ch,(b∈X.ex∨X.cZ.heap.objs.size<=b)/\b≠X.env.locals/\(∀x c,X.env.cells.lookup x\c->c≠b)/\∀p∈X.pn++pins,p.1≠b):Inv X pins σ H' s':=by
 let#[h',g',d',t',o']:=s';have e:o'=s.os:=ho;subst e;exact I.call (g':=g') (t':=t') (d':=d') u aE hg vP
end
abbrev XK:=Aa->Option Addr->Hp->Prop
abbrev St:=List aL
abbrev VK:=V->Hp->Prop
abbrev TE:=St->Hp->VK->Prop
abbrev TT:=St->Hp->(Bool->Hp->Prop)->Prop
abbrev TA:=St->Hp->(ag->Hp->Prop)->Prop
structure Ends where
 nx:St->Hp->Prop
 rt:VK
 bk:St->Hp->Prop:=λ_ _=>False
 ct:St->Hp->Prop:=λ_ _=>False
abbrev TS:=Ends->St->Hp->Prop
def EP(X:Cx)(pins:List (Addr × Obj))(σ:St)(Q:VK)(u:Aa)(s':Ab):Prop:=∃v H',Inv X pins σ H' s'/\RelV v u/\Q v H'
def TP(X:Cx)(pins:List (Addr × Obj))(σ:St)(Q:Bool->Hp->Prop)(b:Bool)(s':Ab):Prop:=∃H',Inv X pins σ H' s'/\Q b H'
def AP(X:Cx)(pins:List (Addr × Obj))(σ:St)(Q:ag->Hp->Prop)(us:ak)(s':Ab):Prop:=∃vs H',Inv X pins σ H' s'/\Vals vs us/\Q vs H'
def SP(X:Cx)(pins:List (Addr × Obj))(D:Ends)(f:Flow)(s':Ab):Prop:=
 match f with
 |.next=>∃bA H',Inv X pins bA H' s'/\D.nx bA H'
 |.brk=>∃bA H',Inv X pins bA H' s'/\D.bk bA H'
 |.cont=>∃bA H',Inv X pins bA H' s'/\D.ct bA H'
 |.ret u=>∃v bA H',Inv X pins bA H' s'/\RelV v u/\D.rt v H'
def PE(X:Cx)(e:Expr)(t:TE):Prop:=
 ∀(pins:List (Addr × Obj)) (s:Ab) (σ:St) (H:Hp) (Q:VK),Inv X pins σ H s->t σ H Q->wpAny (model X.prog X.w) X.A (eval e X.env) (EP X pins σ Q) X.xe s
def PT(X:Cx)(e:Expr)(t:TT):Prop:=
 ∀(pins:List (Addr × Obj)) (s:Ab) (σ:St) (H:Hp) (Q:Bool->Hp->Prop),Inv X pins σ H s->t σ H Q->wpAny (model X.prog X.w) X.A (isTrue e X.env (eval e X.env)) (TP X pins σ Q) X.xe s
def PW(X:Cx)(e:Expr)(t:TT):Prop:=
 ∀(whole:Sem Aa) (pins:List (Addr × Obj)) (s:Ab) (σ:St) (H:Hp) (Q:Bool->Hp->Prop),Inv X pins σ H s->t σ H Q->wpAny (model X.prog X.w) X.A (isTrue e X.env whole) (TP X pins σ Q) X.xe s
theorem PW.pt{X:Cx}{e:Expr}{t:TT}(h:PW X e t):PT X e t:=h _
def PA(X:Cx)(es:List Expr)(t:TA):Prop:=
 ∀(pos:Pos) (pins:List (Addr × Obj)) (s:Ab) (σ:St) (H:Hp) (Q:ag->Hp->Prop),Inv X pins σ H s->t σ H Q->wpAny (model X.prog X.w) X.A (spliced (backTo pos (starEach es X.env))) (AP X pins σ Q) X.xe s
def PS(X:Cx)(st:Stmt)(t:TS):Prop:=
 ∀(pins:List (Addr × Obj)) (s:Ab) (σ:St) (H:Hp) (D:Ends),Inv X pins σ H s->t D σ H->wpAny (model X.prog X.w) X.A (exec st X.env) (SP X pins D) X.xe s
def lB(X:Cx)(st:List Stmt)(t:TS):Prop:=
 ∀(pins:List (Addr × Obj)) (s:Ab) (σ:St) (H:Hp) (D:Ends),Inv X pins σ H s->t D σ H->wpAny (model X.prog X.w) X.A (execs st X.env) (SP X pins D) X.xe s
theorem aR{α:Type}{t:Sem α}{Q Q':α->Ab->Prop}{M:Model}{A:Ag}{E:Aa->Ab->Prop}{s:Ab}(h:wpAny M A t Q E s)(hQ:∀a s,Q a s->Q' a s):wpAny M A t Q' E s:=wpAny_mono h hQ λ_ _ x=>x
end L2
abbrev kL:=L2.St->L2.Hp->Prop
namespace L2
open PySem PySem.Spec PyProof.Rows
section
variable{X:Cx}
inductive rj (i:Nat) (σ:St) (H:Hp) (Q:VK):Prop
 |mk:∀v,σ[i]? = some (some v)->Q v H->rj i σ H Q
def tC(v:V):TE:=λ_ H Q=>Q v H
theorem lJ_{i:Nat}{x:Str}{pos:Pos}(hN:X.N[i]? = some x)(hv:RL X.env.scope x)(hd:(x == ("__debug__":Str))=false:=by decide)(hW:(x == ("__classdict__":Str))=false:=by decide):PE X (.Name x pos) (rj i):=by
 intro pins s σ H Q I h;let#[v,e,h]:=h;let#[m,hn,hl]:=I.loc;let#[u,r,l]:=hl i x v hN e hv;have fin:EP X pins σ Q u s:=#[v,H,I,r,h];rcases l with⟨hk,hm⟩|⟨hk,c,hc,pf⟩
 ·exact wpAny_Name (wpAny_loadName_local I.ok.kind hk hn hm fin) hd
 rcases hk with hk|hk
 ·exact wpAny_Name (wpAny_loadName_cell I.ok.kind hk hc pf fin) hd
 exact wpAny_Name (wpAny_loadName_free I.ok.kind hk hc pf fin hW) hd
theorem aC{i j pos}:PE X (.Constant (.int i) j pos) (tC (.int i)):=λ_ _ _ H _ I h=>wpAny_Constant_int #[.int i,H,I.tok _,#[_,Z],h]
theorem xP{b j pos}:PE X (.Constant (.bool b) j pos) (tC (.bl b)):=λ_ _ _ H _ I h=>Constant_bool #[.bl b,H,I,Z,h]
theorem xW{j pos}:PE X (.Constant .none j pos) (tC .non):=λ_ _ _ H _ I h=>Constant_none #[.non,H,I,Z,h]
theorem dI{x j pos}:PE X (.Constant (.str x) j pos) (tC (.str x)):=λ_ _ _ H _ I h=>Calls.Constant_str #[.str x,H,I.tok _,#[_,Z],h]
def Gl(X:Cx)(x:Str):Prop:=X.env.kindOf x=some .globalImplicit
theorem O_{E:Aa->Ab->Prop}{pins:List (Addr × Obj)}{s:Ab}{σ:St}{H:Hp}{x:Str}{u:Aa}{pos:Pos}{Q:Aa->Ab->Prop}(I:Inv X pins σ H s)(hg:Gl X x)(hm:X.mg x\u)(h:Q u s)
  (hd:(x == ("__debug__":Str))=false:=by decide):wpAny (model X.prog X.w) X.A (eval (.Name x pos) X.env) Q E s:=
 Calls.Name_function_global I.ok.kind hg (Calls.loadGlobal_global (by rw[I.ok.glob];exact I.mod.glob.keeps I.bk) hm h) hd
theorem DK{E:Aa->Ab->Prop}{pins:List (Addr × Obj)}{s:Ab}{σ:St}{H:Hp}{x:Str}{u:Aa}{pos:Pos}{Q:Aa->Ab->Prop}(I:Inv X pins σ H s)(hg:Gl X x)(hm:X.mg x=none)(hv:bootBuiltins x\u)(h:Q u s)
  (hn:x≠"__name__":=by decide) (hd:(x == ("__debug__":Str))=false:=by decide):wpAny (model X.prog X.w) X.A (eval (.Name x pos) X.env) Q E s:=by
 let#[mb,h1,h2]:=I.mod.blt;exact Calls.Name_function_global I.ok.kind hg (Calls.loadGlobal_builtin (by rw[I.ok.glob];exact I.mod.glob.keeps I.bk) hm (by rw[I.ok.blt];exact h1.keeps I.bk) ((h2 x hn).trans hv) h) hd
theorem Ct{x:Str}{v:V}{u:Aa}{pos:Pos}(hg:Gl X x)(hm:X.mg x\u)(r:RelV v u)(hd:(x == ("__debug__":Str))=false:=by decide):PE X (.Name x pos) (tC v):=
 λ_ _ _ H _ I h=>O_ I hg hm #[v,H,I,r,h] hd
theorem jn{x:Str}{v:V}{u:Aa}{pos:Pos}(hg:Gl X x)(hm:X.mg x=none)(hv:bootBuiltins x\u)(r:RelV v u)(hn:x≠"__name__":=by decide)(hd:(x == ("__debug__":Str))=false:=by decide):PE X (.Name x pos) (tC v):=
 λ_ _ _ H _ I h=>DK I hg hm hv #[v,H,I,r,h] hn hd
variable{a b:Expr}{ta tb:TE}{pos:Pos}
def PC(X:Cx)(op:CmpOp)(a b:Expr)(t:TE):Prop:=
 ∀(pins:List (Addr × Obj)) (s:Ab) (σ:St) (H:Hp) (Q:VK),Inv X pins σ H s->t σ H Q->
  wpAny (model X.prog X.w) X.A (eval a X.env) (λv aV=>wpAny (model X.prog X.w) X.A (eval b X.env) (λu iE=>wpAny (model X.prog X.w) X.A (compareOp op v u) (EP X pins σ Q) X.xe iE) X.xe aV) X.xe s
theorem j6(b:Expr){op:CmpOp}(h:op≠.In)(h2:op≠.NotIn):behindInMarks op b=false:=by
 have e1:(op == CmpOp.In)=false:=by cases op<;>first|rfl|exact absurd Z h
 have e2:(op == CmpOp.NotIn)=false:=by cases op<;>first|rfl|exact absurd Z h2
 cases b<;>simp[behindInMarks,e1,e2]
def LV(ta:TE):TE:=λσ H Q=>ta σ H λx H1=>Q (.bl (decide (x=.non))) H1
theorem RelV.tZ{x:V}{v:Aa}(r:RelV x v):(v == Value.none)=decide (x=.non):=by
 cases x with
 |non=>cases r;rfl
 |bl _=>cases r;rfl
 |int _=>let#[t,rfl]:=r;rfl
 |str _=>let#[t,rfl]:=r;rfl
 |byt _=>let#[t,rfl]:=r;rfl
 |flt _=>let#[t,rfl]:=r;rfl
 |ref _=>cases r;rfl
 |ty _=>cases r;rfl
theorem J2{j pos'}(ha:PE X a ta):PC X .Is a (.Constant .none j pos') (LV ta):=by
 intro pins s σ H Q I h;apply aR (ha pins s σ H _ I h) λv s1 ⟨x,H1,I1,r1,q1⟩=>?_;exact Constant_none (is_none_gen #[.bl _,H1,I1,by rw[r1.tZ];rfl,q1])
inductive Sx (Q:Bool->Hp->Prop) (x:V) (H1:Hp):Prop
 |mk:∀c,x=.bl c->Q c H1->Sx Q x H1
def tB(t:TE):TT:=λσ H Q=>t σ H λx H1=>Sx Q x H1
theorem GT{op:CmpOp}{t:TE}(h:PC X op a b t)(h1:behindInMarks op b=false:=by first|exact j6 _ (by decide) (by decide)|rfl):PE X (.Compare a [op] [b] pos) t:=λpins s σ H Q I hw=>wpAny_Compare1 (h pins s σ H Q I hw) h1
theorem wj{op:CmpOp}{t:TE}(h:PC X op a b t)(h1:behindInMarks op b=false:=by first|exact j6 _ (by decide) (by decide)|rfl):PT X (.Compare a [op] [b] pos) (tB t):=by
 intro pins s σ H Q I hw;apply wpAny_isTrue_Compare1 (aR (h pins s σ H _ I hw) λv s1 h1=>aR h1 λu s2 h2=>aR h2 λc s3 ⟨x,H1,I1,r1,q1⟩=>?_) h1;let#[d,rfl,q]:=q1;cases r1;exact qk #[H1,I1,q]
theorem eK{e:Expr}{t:TE}(h:PE X e t)(he:∀whole,isTrue e X.env whole=(do let v <- whole;standAt e.pos;holding [v] (truthy v)):=by intro _;rfl):PT X e (tB t):=by
 intro pins s σ H Q I hw;apply isTrue_plain (aR (h pins s σ H _ I hw) λv s1 ⟨x,H1,I1,r1,q1⟩=>?_) (he _);let#[d,rfl,q]:=q1;cases r1;exact qk #[H1,I1,q]
variable{tA Je:TT}{rest:List Expr}
def L0(t u:TT):TT:=λσ H Q=>t σ H λc H1=>if c=true then u σ H1 Q else Q false H1
def ZG(t u:TT):TT:=λσ H Q=>t σ H λc H1=>if c=true then Q true H1 else u σ H1 Q
def LR(t:TT):TT:=λσ H Q=>t σ H λc H1=>Q (!c) H1
theorem Cj(ha:PT X a tA):PW X (.BoolOp .And [a] pos) tA:=by
 intro wh pins s σ H Q I h;apply isTrue_and (aR (ha pins s σ H Q I h) λc s1 e=>?_);cases c with
 |true=>exact isTrue_and_nil e
 |false=>exact e
theorem xX(ha:PT X a tA):PW X (.BoolOp .Or [a] pos) tA:=by
 intro wh pins s σ H Q I h;apply isTrue_or (aR (ha pins s σ H Q I h) λc s1 e=>?_);cases c with
 |false=>exact isTrue_or_nil e
 |true=>exact e
theorem zQ(ha:PT X a tA)(hb:PW X (.BoolOp .And (b::rest) pos) Je):PW X (.BoolOp .And (a::b::rest) pos) (L0 tA Je):=by
 intro wh pins s σ H Q I h;apply isTrue_and (aR (ha pins s σ H _ I h) λc s1 ⟨H1,I1,q1⟩=>?_);cases c with
 |true=>exact hb wh pins s1 σ H1 Q I1 q1
 |false=>exact#[H1,I1,q1]
theorem xM(ha:PT X a tA)(hb:PW X (.BoolOp .Or (b::rest) pos) Je):PW X (.BoolOp .Or (a::b::rest) pos) (ZG tA Je):=by
 intro wh pins s σ H Q I h;apply isTrue_or (aR (ha pins s σ H _ I h) λc s1 ⟨H1,I1,q1⟩=>?_);cases c with
 |true=>exact#[H1,I1,q1]
 |false=>exact hb wh pins s1 σ H1 Q I1 q1
theorem eY(ha:PT X a tA):PT X (.UnaryOp .Not a pos) (LR tA):=by
 intro pins s σ H Q I h;exact isTrue_not (ha pins s σ H (λc H1=>Q (!c) H1) I h)
inductive rM (tb:TE) (σ:St) (Q:VK) (x:V) (H1:Hp):Prop
 |mk:∀c,x=.bl c->(if c=true then tb σ H1 Q else Q (.bl false) H1)->rM tb σ Q x H1
def EH(ta tb:TE):TE:=λσ H Q=>ta σ H λx H1=>rM tb σ Q x H1
inductive yC (tb:TE) (σ:St) (Q:VK) (x:V) (H1:Hp):Prop
 |mk:∀c,x=.bl c->(if c=true then Q (.bl true) H1 else tb σ H1 Q)->yC tb σ Q x H1
def LQ(ta tb:TE):TE:=λσ H Q=>ta σ H λx H1=>yC tb σ Q x H1
inductive rC (Q:VK) (x:V) (H1:Hp):Prop
 |mk:∀c,x=.bl c->Q (.bl (!c)) H1->rC Q x H1
def Ez(ta:TE):TE:=λσ H Q=>ta σ H λx H1=>rC Q x H1
theorem nu{op}{t:TE}(h:PE X a t):PE X (.BoolOp op [a] pos) t:=λpins s σ H Q I hw=>BoolOp_one (h pins s σ H Q I hw)
theorem ny(ha:PE X a ta)(hb:PE X (.BoolOp .And (b::rest) pos) tb):PE X (.BoolOp .And (a::b::rest) pos) (EH ta tb):=by
 intro pins s σ H Q I h;apply BoolOp_and (aR (ha pins s σ H _ I h) λv s1 ⟨x,H1,I1,r1,q1⟩=>?_);let#[c,rfl,q1]:=q1;cases r1;apply qk ?_;cases c with
 |true=>exact hb pins s1 σ H1 Q I1 q1
 |false=>exact#[.bl false,H1,I1,Z,q1]
theorem Tp(ha:PE X a ta)(hb:PE X (.BoolOp .Or (b::rest) pos) tb):PE X (.BoolOp .Or (a::b::rest) pos) (LQ ta tb):=by
 intro pins s σ H Q I h;apply BoolOp_or (aR (ha pins s σ H _ I h) λv s1 ⟨x,H1,I1,r1,q1⟩=>?_);let#[c,rfl,q1]:=q1;cases r1;apply qk ?_;cases c with
 |false=>exact hb pins s1 σ H1 Q I1 q1
 |true=>exact#[.bl true,H1,I1,Z,q1]
theorem OJ(ha:PE X a ta):PE X (.UnaryOp .Not a pos) (Ez ta):=by
 intro pins s σ H Q I h;apply UnaryOp_ (aR (ha pins s σ H _ I h) λv s1 ⟨x,H1,I1,r1,q1⟩=>?_);let#[c,rfl,q1]:=q1;cases r1;exact not_of (qk #[.bl (!c),H1,I1,Z,q1])
def ZH(t:TT)(ta tb:TE):TE:=λσ H Q=>t σ H λc H1=>if c=true then ta σ H1 Q else tb σ H1 Q
theorem ju_{c:Expr}(hc:PT X c tA)(ha:PE X a ta)(hb:PE X b tb):PE X (.IfExp c a b pos) (ZH tA ta tb):=by
 intro pins s σ H Q I h;apply wpAny_IfExp (aR (hc pins s σ H _ I h) λd s1 ⟨H1,I1,q1⟩=>?_);cases d with
 |true=>exact ha pins s1 σ H1 Q I1 q1
 |false=>exact hb pins s1 σ H1 Q I1 q1
end
end L2
namespace L2
open PySem PySem.Spec PyProof.Rows
def dW(K:af)(H:Hp)(a:Addr)(xs:ag):Prop:=
 Rd H a (.lst xs) ∨
  ∃(o:Obj) (its:Array Aa) (n:Nat),K.lookup a\o/\o.cls=.type "list"/\o.dict=none/\o.data=.seq its n/\its.size<=sizeLine/\Vals xs its.toList
def fN(K:af)(H:Hp)(a:Addr)(xs:ag):Prop:=
 Rd H a (.tup xs) ∨
  ∃(o:Obj) (its:Array Aa) (n:Nat),K.lookup a\o/\o.cls=.type "tuple"/\o.data=.seq its n/\its.size<=sizeLine/\Vals xs its.toList
def RI:Aa->aL
 |.none=>some .non
 |.bool b=>some (.bl b)
 |.int i _=>some (.int i)
 |.str x _=>some (.str x)
 |.bytes b _=>some (.byt b)
 |.float b _=>some (.flt b)
 |.ref a=>some (.ref a)
 |.type n=>some (.ty n)
 |_=>none
theorem RelV.abs{x:V}{u:Aa}(r:RelV x u):RI u\x:=by
 cases x with
 |non=>cases r;rfl
 |bl _=>cases r;rfl
 |int _=>let#[t,rfl]:=r;rfl
 |str _=>let#[t,rfl]:=r;rfl
 |byt _=>let#[t,rfl]:=r;rfl
 |flt _=>let#[t,rfl]:=r;rfl
 |ref _=>cases r;rfl
 |ty _=>cases r;rfl
theorem RelV.inj{x y:V}{u:Aa}(r:RelV x u)(q:RelV y u):x=y:=d7 (r.abs.symm.trans q.abs)
theorem Vals.inj:∀{xs ys:ag} {us:ak},Vals xs us->Vals ys us->xs=ys
 |_,_,_,.nil,.nil=>rfl
 |_,_,_,.cons r t,.cons r' t'=>by rw[r.inj r',Vals.inj t t']
section
variable{X:Cx}{pins:List (Addr × Obj)}{σ:St}{H:Hp}{s:Ab}{a:Addr}{xs ys:ag}
theorem dW.of{K:af}(h:H a\.lst xs):dW K H a xs:=.inl (.inl h)
theorem fN.of{K:af}(h:H a\.tup xs):fN K H a xs:=.inl (.inl h)
theorem Inv.list(I:Inv X pins σ H s)(h:dW X.K H a xs):∃its:ak,Vals xs its/\PlainL s.heap a its.toArray/\xs.length<=sizeLine:=by
 rcases h with h|⟨o,its,n,hk,hc,hd,hs,hz,r⟩
 ·let#[z,its,n,r,e]:=h.ok I.aE;exact#[its,r,#[_,n,e,Z,Z,Z],z]
 apply#[its.toList,r,#[o,n,I.gr a o hk,hc,hd,by simpa using hs],?_];let e:=r.length;simp only[qS] at e;omega
theorem Inv.tuple(I:Inv X pins σ H s)(h:fN X.K H a xs):∃its:ak,Vals xs its/\IsTup s.heap a its.toArray/\xs.length<=sizeLine:=by
 rcases h with h|⟨o,its,n,hk,hc,hs,hz,r⟩
 ·let#[z,its,r,p,_]:=h.ok I.aE;exact#[its,r,p,z]
 apply#[its.toList,r,#[o,I.gr a o hk,hc,n,by simpa using hs],?_];let e:=r.length;simp only[qS] at e;omega
theorem Inv.fQ(I:Inv X pins σ H s)(h:dW X.K H a xs)(h':dW X.K H a ys):xs=ys:=by
 let#[its,r,#[o,n,e,_,_,d],_]:=I.list h;let#[its',r',#[o',n',e',_,_,d'],_]:=I.list h';rw[e] at e';cases e';rw[d] at d'
 injection d' with d1 _
 have:its=its':=⇑(dF Array.toList d1)
 subst this;exact r.inj r'
theorem Inv.gi(I:Inv X pins σ H s)(h:fN X.K H a xs)(h':fN X.K H a ys):xs=ys:=by
 let#[its,r,#[o,e,_,n,d],_]:=I.tuple h;let#[its',r',#[o',e',_,n',d'],_]:=I.tuple h';rw[e] at e';cases e';rw[d] at d'
 injection d' with d1 _
 have:its=its':=⇑(dF Array.toList d1)
 subst this;exact r.inj r'
end
abbrev Cx.iD(X:Cx)(E:Aa->Ab->Prop):Cx:={ X with xe:=E }
abbrev Cx.A8(X:Cx):Cx:=X.iD λ_ _=>False
theorem Cx.Ok.iD{X:Cx}(ok:X.Ok)(E:Aa->Ab->Prop):(X.iD E).Ok:=
 #[ok.mod,ok.kind,ok.glob,ok.blt,ok.above,ok.inj,ok.has,ok.DU,ok.hd,ok.frames,ok.Jh,ok.Ka,ok.bs,ok.uT,ok.ua,ok.uE,ok.fX,ok.xG]
theorem Cx.Ok.eO{X:Cx}{E:Aa->Ab->Prop}(ok:(X.iD E).Ok):X.Ok:=
 #[ok.mod,ok.kind,ok.glob,ok.blt,ok.above,ok.inj,ok.has,ok.DU,ok.hd,ok.frames,ok.Jh,ok.Ka,ok.bs,ok.uT,ok.ua,ok.uE,ok.fX,ok.xG]
section
variable{X:Cx}{pins:List (Addr × Obj)}{σ:St}{H:Hp}{s:Ab}{E:Aa->Ab->Prop}
theorem Inv.iD(I:Inv X pins σ H s)(E:Aa->Ab->Prop):Inv (X.iD E) pins σ H s:=#[I.ok.iD E,I.os,I.bare,I.base,I.loc,I.cell,I.free,I.eG,I.pin,I.aE,I.len]
theorem Inv.eO(I:Inv (X.iD E) pins σ H s):Inv X pins σ H s:=#[I.ok.eO,I.os,I.bare,I.base,I.loc,I.cell,I.free,I.eG,I.pin,I.aE,I.len]
theorem SP.eO{D:Ends}{f:Flow}{s':Ab}(h:SP (X.iD E) pins D f s'):SP X pins D f s':=by
 cases f with
 |next=>let#[bA,H',I,q]:=h;exact#[bA,H',I.eO,q]
 |brk=>let#[bA,H',I,q]:=h;exact#[bA,H',I.eO,q]
 |cont=>let#[bA,H',I,q]:=h;exact#[bA,H',I.eO,q]
 |ret u=>let#[v,bA,H',I,r,q]:=h;exact#[v,bA,H',I.eO,r,q]
theorem lB.A8{st:List Stmt}{t:TS}(h:lB X.A8 st t):lB X st t:=λpins s σ H D I hw=>
 wpAny_mono (h pins s σ H D (I.iD _) hw) (λ_ _ q=>q.eO) λ_ _ z=>False.elim z
end
section
variable{X:Cx}{st:Stmt}{rest:List Stmt}{t u:TS}{e:Expr}{te:TE}{pos:Pos}
def EA:TS:=λD σ H=>D.nx σ H
def p6(t u:TS):TS:=λD σ H=>t { D with nx:=u D } σ H
theorem bP:lB X [] EA:=λ_ _ σ H _ I h=>wpAny_execs_nil #[σ,H,I,h]
theorem ax(h1:PS X st t)(h2:lB X rest u):lB X (st::rest) (p6 t u):=by
 intro pins s σ H D I h;apply wpAny_execs_cons (aR (h1 pins s σ H { D with nx:=u D } I h) λf s1 q=>?_);cases f with
 |next=>
  let#[bA,H',I',q]:=q;exact h2 pins s1 bA H' D I' q
 |ret v=>exact q
 |brk=>exact q
 |cont=>exact q
theorem aH(h1:PS X st t):lB X [st] t:=by
 intro pins s σ H D I h;apply wpAny_execs_cons (aR (h1 pins s σ H D I h) λf s1 q=>?_);cases f with
 |next=>exact wpAny_execs_nil q
 |ret v=>exact q
 |brk=>exact q
 |cont=>exact q
theorem Inv.quiet{pins:List (Addr × Obj)}{σ:St}{H:Hp}{s:Ab}(I:Inv X pins σ H s):interactive X.env=false:=by simp[interactive,I.ok.kind]
def ED(te:TE):TS:=λD σ H=>te σ H λ_ H1=>D.nx σ H1
theorem jH(he:PE X e te)(hs:swapsWith e none pos.line X.env=pure false:=by rfl):PS X (.Expr e pos) (ED te):=by
 intro pins s σ H D I h;exact wpAny_Expr_any (aR (he pins s σ H _ I h) λv s1 ⟨x,H1,I1,r1,q1⟩=>#[σ,H1,I1,q1]) I.quiet hs
def LP(te:TE):TS:=λD σ H=>te σ H D.rt
theorem bg(he:PE X e te):PS X (.Return (some e) pos) (LP te):=by
 intro pins s σ H D I h;exact wpAny_Return_some (aR (he pins s σ H _ I h) λv s1 ⟨x,H1,I1,r1,q1⟩=>#[x,σ,H1,I1,r1,q1])
def LW(c:TT)(t u:TS):TS:=λD σ H=>c σ H λb H1=>if b=true then t D σ H1 else u D σ H1
theorem bO{c:Expr}{a b:List Stmt}{tc:TT}(hc:PT X c tc)(ha:lB X a t)(hb:lB X b u):PS X (.If c a b pos) (LW tc t u):=by
 intro pins s σ H D I h;apply wpAny_If (aR (hc pins s σ H _ I h) λd s1 ⟨H1,I1,q1⟩=>?_);cases d with
 |true=>exact ha pins s1 σ H1 D I1 q1
 |false=>exact hb pins s1 σ H1 D I1 q1
def rD:TS:=λ_ _ _=>False
theorem jg_:PS X st rD:=λ_ _ _ _ _ _ h=>h.elim
theorem eD{ZK:List Stmt}:lB X ZK rD:=λ_ _ _ _ _ _ h=>h.elim
end
abbrev TG:=V->St->Hp->(St->Hp->Prop)->Prop
abbrev CH:=ag->St->Hp->(St->Hp->Prop)->Prop
def PG(X:Cx)(target:Expr)(t:TG):Prop:=
 ∀(pins:List (Addr × Obj)) (s:Ab) (σ:St) (H:Hp) (v:V) (u:Aa) (Q:kL),Inv X pins σ H s->RelV v u->t v σ H Q->
  wpAny (model X.prog X.w) X.A (assign target X.env u) (λ_ s'=>∃bA H',Inv X pins bA H' s'/\Q bA H') X.xe s
def IR(X:Cx)(ts:List Expr)(t:CH):Prop:=
 ∀(pins:List (Addr × Obj)) (s:Ab) (σ:St) (H:Hp) (vs:ag) (us:ak) (Q:kL),Inv X pins σ H s->Vals vs us->t vs σ H Q->
  wpAny (model X.prog X.w) X.A (assignInOrder ((assignEach ts X.env).map (·.2)) us) (λ_ s'=>∃bA H',Inv X pins bA H' s'/\Q bA H') X.xe s
abbrev CF:=V->V->V->Hp->(Hp->Prop)->Prop
def IQ(X:Cx)(t:CF):Prop:=
 ∀(pins:List (Addr × Obj)) (s:Ab) (σ:St) (H:Hp) (o i v:V) (ov iv u:Aa) (Q:Hp->Prop),Inv X pins σ H s->RelV o ov->RelV i iv->RelV v u->t o i v H Q->
  wpAny (model X.prog X.w) X.A (setItem ov iv u) (λ_ s'=>∃H',Inv X pins σ H' s'/\Q H') X.xe s
section
variable{X:Cx}{pos:Pos}
def iA(i:Nat):TG:=λv σ H Q=>Q (σ.set i (some v)) H
theorem eW{i:Nat}{x:Str}(hN:X.N.Nodup)(hi:X.N[i]? = some x)(hx:Loc X.env.scope x)(hf:X.fn x=true∨X.env.scope.names.lookup x\.local:=by first|exact .inl Z|exact .inr Z|assumption):PG X (.Name x pos) (iA i):=by
 intro pins s σ H v u Q I r h;exact wpAny_assign_Name (VR I hN hi hx r (λs' I'=>#[_,H,I',h]) hf)
theorem iU:type_of% PyProof.Rows.Boot.«isinstance»:=PyProof.Rows.Boot.«isinstance»
theorem GY:type_of% PyProof.Rows.Boot.«int»:=PyProof.Rows.Boot.«int»
theorem OW:type_of% PyProof.Rows.Boot.«bool»:=PyProof.Rows.Boot.«bool»
theorem G_:type_of% PyProof.Rows.Boot.«str»:=PyProof.Rows.Boot.«str»
theorem zV:type_of% PyProof.Rows.Boot.«tuple»:=PyProof.Rows.Boot.«tuple»
theorem Cq:type_of% PyProof.Rows.Boot.«list»:=PyProof.Rows.Boot.«list»
theorem Lc:type_of% PyProof.Rows.Boot.«sorted»:=PyProof.Rows.Boot.«sorted»
theorem qN:type_of% PyProof.Rows.Boot.«dict»:=PyProof.Rows.Boot.«dict»
theorem JZ:type_of% PyProof.Rows.Boot.«max»:=PyProof.Rows.Boot.«max»
theorem SX(i:Nat){x:Str}(hN:X.N.Nodup:=by first|(show ([_]:List Str).Nodup;decide +kernel)|(show ([_,_]:List Str).Nodup;decide +kernel)|(show ([_,_,_]:List Str).Nodup;decide +kernel)|(show ([_,_,_,_]:List Str).Nodup;decide +kernel))(hi:X.N[i]? = some x:=by rfl)(hx:Loc X.env.scope x:=by first|exact Or.inl Z|exact Or.inr Z)(hf:X.fn x=true∨X.env.scope.names.lookup x\.local:=by first|exact .inl Z|exact .inr Z|assumption):PG X (.Name x pos) (iA i):=eW hN hi hx hf
theorem cO(i:Nat){x:Str}(hN:X.N.Nodup)(hi:X.N[i]? = some x:=by rfl)(hx:Loc X.env.scope x:=by first|exact Or.inl Z|exact Or.inr Z)(hf:X.fn x=true∨X.env.scope.names.lookup x\.local:=by first|exact .inl Z|exact .inr Z|assumption):PG X (.Name x pos) (iA i):=eW hN hi hx hf
def xF:CH:=λvs σ H Q=>vs=[]/\Q σ H
inductive vS (t:TG) (u:CH) (vs:ag) (σ:St) (H:Hp) (Q:kL):Prop
 |mk:∀v r,vs=v::r->(t v σ H λbA H'=>u r bA H' Q)->vS t u vs σ H Q
theorem jI:IR X [] xF:=by
 intro pins s σ H vs us Q I r h;let#[e,h]:=h;subst e;cases r;exact assignInOrder_nil ⟨σ,H,I,h⟩
theorem d6{e:Expr}{es:List Expr}{t:TG}{u:CH}(h1:PG X e t)(h2:IR X es u)
  (hs:(assignEach (e::es) X.env).map (·.2)=assign e X.env::(assignEach es X.env).map (·.2):=by rfl):IR X (e::es) (vS t u):=by
 intro pins s σ H vs us Q I r h;let#[v,vr,e1,h]:=h;subst e1;cases r with
 |cons r rr=>
  rw[hs];apply assignInOrder_cons (aR (h1 pins s σ H _ _ _ I r h) λ_ s1 ⟨oj,H1,I1,q1⟩=>?_);exact h2 pins s1 oj H1 _ _ Q I1 rr q1
inductive jc (K:af) (n:Nat) (t:CH) (v:V) (σ:St) (H:Hp) (Q:kL):Prop
 |mk:∀a xs,v=.ref a->fN K H a xs->xs.length=n->t xs σ H Q->jc K n t v σ H Q
theorem pJ{es:List Expr}{k:Nat}{t:CH}{n:Nat}(hc:X.calm=true)(h:IR X es t)
  (hn:(assignEach es X.env).length=n:=by rfl) (Bl:(assignEach es X.env).findIdx? (·.1)=none:=by rfl):PG X (.Tuple es k pos) (jc X.K n t):=by
 intro pins s σ H v u Q I r hw;let#[a,xs,e1,hq,hl,hw]:=hw;subst e1;cases r;let#[its,rv,ht,hz]:=I.tuple hq;apply assign_Tuple_tuple (I.ok.hd hc) ht (by simp[hn,<- hl,rv.length]) Bl λh' hx=>?_;have I1:Inv X pins σ H { s with heap:=h' }:=I.kept (t':=s.toks) λb o e=>hx b o (eJ (cK e)) e;exact h pins _ σ H xs _ Q I1 ⇑rv hw
def OH(to ti:TE)(t:CF):TG:=λv σ H Q=>to σ H λo H1=>ti σ H1 λi H2=>t o i v H2 λH3=>Q σ H3
theorem OM{o i:Expr}{to ti:TE}{t:CF}(ho:PE X o to)(hi:PE X i ti)(hs:IQ X t)
  (ha:∀v,assign (.Subscript o i pos) X.env v=(do
   let ov <- holding [v] (eval o X.env)
   let iv <- holding [v,ov] (eval i X.env)
   standAt pos
   holding [v,ov,iv] (setItem ov iv v)
   release [v,ov,iv] []):=by intro _;rfl):PG X (.Subscript o i pos) (OH to ti t):=by
 intro pins s σ H v u Q I r h;rw[ha];apply ao (mZ (aR (ho pins s σ H _ I h) λov s1 ⟨x,H1,I1,r1,q1⟩=>?_));apply ao (mZ (aR (hi pins s1 σ H1 _ I1 q1) λiv s2 ⟨y,H2,I2,r2,q2⟩=>?_));apply ao (wpAny_standAt (ao (mZ (aR (hs pins s2 σ H2 x y v ov iv u _ I2 r1 r2 r q2) λ_ s3 ⟨H3,I3,q3⟩=>?_))));exact wpAny_release #[σ,H3,I3,q3]
def AB(te:TE)(g:TG):TS:=λD σ H=>te σ H λx H1=>g x σ H1 D.nx
theorem DM{tg e:Expr}{te:TE}{g:TG}(he:PE X e te)(hg:PG X tg g)(hs:swapsWithSole [tg] e pos.line X.env=pure false:=by rfl)(hw:swappedStores [tg] e X.env=pure none:=by rfl)
  (h1:(assignEach [tg] X.env).map (·.2)=[assign tg X.env]:=by rfl):PS X (.Assign [tg] e pos) (AB te g):=by
 intro pins s σ H D I h;apply wpAny_Assign_stores (aR (he pins s σ H _ I h) λv s1 ⟨x,H1,I1,r1,q1⟩=>?_) hs hw;rw[h1];exact aR (hg pins s1 σ H1 x v _ I1 r1 q1) λ_ s2 q=>q
theorem DP{i:Nat}{x:Str}{e:Expr}{te:TE}{pos':Pos}(hN:X.N.Nodup)(hi:X.N[i]? = some x)(hx:Loc X.env.scope x)(he:PE X e te)(hs:swapsWith e (some (.Name x pos')) pos.line X.env=pure false:=by rfl)(hf:X.fn x=true∨X.env.scope.names.lookup x\.local:=by first|exact .inl Z|exact .inr Z|assumption) :
  PS X (.Assign [.Name x pos'] e pos) (AB te (iA i)):=by
 intro pins s σ H D I h;apply wpAny_Assign_Name (aR (he pins s σ H _ I h) λv s1 ⟨y,H1,I1,r1,q1⟩=>?_) hs;exact VR I1 hN hi hx r1 (λs2 I2=>#[_,H1,I2,q1]) hf
theorem bq(i:Nat){x:Str}{e:Expr}{te:TE}{pos':Pos}(hN:X.N.Nodup)(he:PE X e te)(hi:X.N[i]? = some x:=by rfl)(hx:Loc X.env.scope x:=by first|exact Or.inl Z|exact Or.inr Z)(hs:swapsWith e (some (.Name x pos')) pos.line X.env=pure false:=by rfl)(hf:X.fn x=true∨X.env.scope.names.lookup x\.local:=by first|exact .inl Z|exact .inr Z|assumption):PS X (.Assign [.Name x pos'] e pos) (AB te (iA i)):=DP hN hi hx he hs hf
end
section
variable{X:Cx}{pos:Pos}
def rg(c:TT)(tb:TS):TS:=λD σ H=>∃W:Nat->St->Hp->Prop,(∃m,W m σ H)/\∀m σ H,W m σ H->
 c σ H λb H1=>if b=true then ∃N:St->Hp->Prop,(∀bA H',N bA H'->∃m',m'<m/\W m' bA H')/\tb { D with nx:=N,ct:=N,bk:=D.nx } σ H1 else D.nx σ H1
theorem VM{c:Expr}{body:List Stmt}{tc:TT}{tb:TS}(hp:PassesOwn (model X.prog X.w) X.A X.env X.xe)(hc:PT X c tc)(hb:lB X body tb):PS X (.While c body [] pos) (rg tc tb):=by
 intro pins s σ H D I h;let#[W,#[m0,w0],turn]:=h;apply wpAny_While (codeAny_whileLoop (λn s'=>∃bA H',Inv X pins bA H' s'/\W n bA H') ?_ m0 #[σ,H,I,w0]);rintro n s1 ⟨oj,H1,I1,w1⟩;apply wpAny_passesOwn hp (aR (hc pins s1 oj H1 _ I1 (turn n oj H1 w1)) λb s2 ⟨H2,I2,q2⟩=>?_);cases b with
 |true=>
  let#[N,hN,q2]:=q2;rw[aJ Z];apply wpAny_passesOwn hp (aR (hb pins s2 oj H2 _ I2 q2) λf s3 q3=>?_);cases f with
  |next=>
   let#[kU,H3,I3,n3]:=q3;let#[m',hm,w3]:=hN kU H3 n3;exact#[m',hm,kU,H3,I3,w3]
  |cont=>
   let#[kU,H3,I3,n3]:=q3;let#[m',hm,w3]:=hN kU H3 n3;exact#[m',hm,kU,H3,I3,w3]
  |brk=>exact q3
  |ret v=>exact q3
 |false=>
  rw[aB gW];exact wpAny_execs_nil #[oj,H2,I2,q2]
end
structure It where
 go:Nat->Hp->Prop
 yw:Nat->Hp->V->Hp->Prop
 stop:Nat->Hp->Prop
def du(X:Cx)(pins:List (Addr × Obj))(H:Hp)(b:Addr):Prop:=
 H b=none/\b≠X.env.locals/\b∉X.fs/\(b∈X.ex∨X.cZ.heap.objs.size<=b)/\(∀x c,X.env.cells.lookup x\c->c≠b)/\∀p∈X.pn++pins,p.1≠b
theorem Inv.jd{X:Cx}{pins:List (Addr × Obj)}{σ:St}{H H':Hp}{s:Ab}{b:Addr}(I:Inv X pins σ H s)(hb:s.heap.objs.size<=b)(hn:H' b=none):du X pins H' b:=by
 apply#[hn,wu (jm I.lt hb),I.MB hb,.inr (nQ I.sz hb),λx c e z=>?_,λp hp z=>?_]
 ·let#[v,q]:=I.cell x c e;exact absurd (jm q.lt (by rw[z];exact hb)) (yn _)
 exact absurd (jm (cK (I.pin p hp).1) (by rw[z];exact hb)) (yn _)
structure Turn (P:Ad) (w:Af) (K:af) (tg:Expr) (J:It) (fp:ai) (it:Addr) (tn:Nat->Heap->Prop):Prop where
 mem:it∈fp
 obj:∀i h,tn i h->∀b∈fp,∃o,h.get? b\o/\∀v,o.data≠.cell v
 keep:∀i h h',tn i h->(∀b∈fp,∀o,h.get? b\o->h'.get? b\o)->tn i h'
 item:∀(X:Cx),X.prog=P->X.w=w->X.K=K->X.calm=true->∀(i:Nat) (pins:List (Addr × Obj)) (s:Ab) (σ:St) (H:Hp) (E:Aa->Ab->Prop),Inv X pins σ H s->(∀b∈fp,du X pins H b)->tn i s.heap->J.go i H->
  wpAny (model P w) X.A (pyNext (.ref it)) (λr s1=>∃u,r\u /\
   wpAny (model P w) X.A (letOwnedTupleGo tg (.ref it) u) (λ_ s2=>∃x H',Inv X pins σ H' s2/\RelV x u/\J.yw i H x H'/\tn (i+1) s2.heap/\∀b∈fp,H' b=none) E s1) E s
 done:∀(X:Cx),X.prog=P->X.w=w->X.K=K->X.calm=true->∀(i:Nat) (pins:List (Addr × Obj)) (s:Ab) (σ:St) (H:Hp) (E:Aa->Ab->Prop),Inv X pins σ H s->(∀b∈fp,du X pins H b)->tn i s.heap->J.stop i H->
  wpAny (model P w) X.A (pyNext (.ref it)) (λr s1=>r=none/\Inv X pins σ H s1) E s
 self:∀(A:Ag) (i:Nat) (s:Ab) (Q:Aa->Ab->Prop) (E:Aa->Ab->Prop),tn i s.heap->Q (.ref it) s->wpAny (model P w) A (pyIter (.ref it)) Q E s
abbrev TI:=St->Hp->(It->Hp->Prop)->Prop
def X2(X:Cx)(pins:List (Addr × Obj))(σ:St)(tg:Expr)(R:It->Hp->Prop)(JB:Aa)(s2:Ab):Prop:=
 ∃(it:Addr) (fp:ai) (tn:Nat->Heap->Prop) (J:It) (H':Hp),JB=.ref it/\Inv X pins σ H' s2/\Turn X.prog X.w X.K tg J fp it tn/\tn 0 s2.heap/\(∀b∈fp,du X pins H' b)/\R J H'
def PI(X:Cx)(tg iter:Expr)(wi:TI):Prop:=
 ∀(pins:List (Addr × Obj)) (s:Ab) (σ:St) (H:Hp) (R:It->Hp->Prop),Inv X pins σ H s->wi σ H R->
  wpAny (model X.prog X.w) X.A (eval iter X.env) (λv s1=>wpAny (model X.prog X.w) X.A (pyIter v) (X2 X pins σ tg R) X.xe s1) X.xe s
theorem DG{M:Model}{A:Ag}{E:Aa->Ab->Prop}{s:Ab}{tg:Expr}{it:Addr}{u:Aa}{o:Obj}{n:String}{vs:Array Aa}{Q:Unit->Ab->Prop}(ho:s.heap.get? it\o)(hc:o.cls=.type n)(hd:o.data=.fields vs)
  (hn:["enumerate","zip","dict_itemiterator","dict_reverseitemiterator","odict_iterator","itertools.zip_longest","itertools.pairwise"].contains n=false) (hQ:Q () s):wpAny M A (letOwnedTupleGo tg (.ref it) u) Q E s:=by
 unfold letOwnedTupleGo
 cases tg<;>first
  |exact aK hQ
  |(cases u<;>first
    |exact aK hQ
    |(apply ao (wpAny_load ho ?_)
      rw[hc,hd];show wpAny M A (if (["enumerate","zip","dict_itemiterator","dict_reverseitemiterator","odict_iterator","itertools.zip_longest","itertools.pairwise"].contains n&&vs[0]? == some (rawInt _))=true then _ else _) Q E s;rw[aB (by intro h;rw[hn,Bool.false_and] at h;cases h)];exact aK hQ))
def An(K:af)(a:Addr):It:=
 ⟨λi H=>∃xs x,dW K H a xs/\xs[i]? = some x,λi H x H'=>H'=H/\∀xs,dW K H a xs->xs[i]? = some x,λi H=>∃xs,dW K H a xs/\xs.length<=i⟩
def RR(K:af)(a:Addr):It:=
 ⟨λi H=>∃xs x,fN K H a xs/\xs[i]? = some x,λi H x H'=>H'=H/\∀xs,fN K H a xs->xs[i]? = some x,λi H=>∃xs,fN K H a xs/\xs.length<=i⟩
def CJ(lo:Int)(n:Nat):It:=⟨λi _=>i<n,λi H x H'=>H'=H/\x=.int (lo+i),λi _=>n<=i⟩
theorem hd_{P:Ad}{w:Af}{K:af}{tg:Expr}(a it:Addr):Turn P w K tg (An K a) [it] it (λi h=>h.IsListIter it a i) where
 mem:=by simp
 obj:=λi h st b hb=>by
  have e:b=it:=⇑hb
  subst e;let#[o,e,c,d]:=st;exact#[o,e,λv z=>by rw[d] at z;cases z]
 keep:=λi h h' st k=>st.at λo e=>k it Z2 o e
 item:=by
  intro X hP hw hK hc i pins s σ H E I hf st hg;subst hP hw hK;let#[xs,x,hq,hx]:=hg;let#[its,rv,p,hz]:=I.list hq;let#[u,hu,ru]:=rv.get hx;let#[f0,f1,f2,f3,f4,f5]:=hf it Z2;apply wpAny_pyNext_list_item st p.isList (x:=u) ⇑hu λh' e_ sb=>?_;have I1:Inv X pins σ H { s with heap:=h' }:=I.turned (t':=s.toks) (λb o hb e=>(sb.2 b hb).trans e) f0 f1 f3 f4 f5;let#[o,e,c,d]:=id e_;exact#[u,Z,DG (s:={ s with heap:=h' }) e c d (by decide) #[x,H,I1,ru,#[Z,λys hy=>by rw[I.fQ hy hq];exact hx],e_,λb hb=>(hf b hb).1]]
 done:=by
  intro X hP hw hK hc i pins s σ H E I hf st hg;subst hP hw hK;let#[xs,hq,hx]:=hg;let#[its,rv,p,hz]:=I.list hq;let#[f0,f1,f2,f3,f4,f5]:=hf it Z2;let hl:=rv.length;exact wpAny_pyNext_list_end (I.ok.hd hc) st p.isList (by simp;omega) λh' eb=>#[Z,I.turned (t':=s.toks) (λb o hb e=>eb b o hb e) f0 f1 f3 f4 f5]
 self:=λ_ _ _ _ _ st h=>wpAny_pyIter_listiter st h
theorem g8_{P:Ad}{w:Af}{K:af}{tg:Expr}(a it:Addr):Turn P w K tg (RR K a) [it] it (λi h=>h.IsTupleIter it a i) where
 mem:=by simp
 obj:=λi h st b hb=>by
  have e:b=it:=⇑hb
  subst e;let#[o,e,c,d]:=st;exact#[o,e,λv z=>by rw[d] at z;cases z]
 keep:=λi h h' st k=>st.at λo e=>k it Z2 o e
 item:=by
  intro X hP hw hK hc i pins s σ H E I hf st hg;subst hP hw hK;let#[xs,x,hq,hx]:=hg;let#[its,rv,p,hz]:=I.tuple hq;let#[u,hu,ru]:=rv.get hx;let#[f0,f1,f2,f3,f4,f5]:=hf it Z2;apply wpAny_pyNext_tuple_item st (show s.heap.IsTuple a its.toArray from p) (x:=u) ⇑hu λh' e_ sb=>?_;have I1:Inv X pins σ H { s with heap:=h' }:=I.turned (t':=s.toks) (λb o hb e=>(sb.2 b hb).trans e) f0 f1 f3 f4 f5;let#[o,e,c,d]:=id e_;exact#[u,Z,DG (s:={ s with heap:=h' }) e c d (by decide) #[x,H,I1,ru,#[Z,λys hy=>by rw[I.gi hy hq];exact hx],e_,λb hb=>(hf b hb).1]]
 done:=by
  intro X hP hw hK hc i pins s σ H E I hf st hg;subst hP hw hK;let#[xs,hq,hx]:=hg;let#[its,rv,p,hz]:=I.tuple hq;let#[f0,f1,f2,f3,f4,f5]:=hf it Z2;let hl:=rv.length;exact wpAny_pyNext_tuple_end (I.ok.hd hc) st (show s.heap.IsTuple a its.toArray from p) (by simp;omega) λh' eb=>#[Z,I.turned (t':=s.toks) (λb o hb e=>eb b o hb e) f0 f1 f3 f4 f5]
 self:=λ_ _ _ _ _ st h=>wpAny_pyIter_tupleiter st h
theorem g5_{P:Ad}{w:Af}{K:af}{tg:Expr}(it:Addr)(lo:Int)(n:Nat):Turn P w K tg (CJ lo n) [it] it (λi h=>IsRangeIter h it (lo+(i:Nat) * 1) ((n:Int) - (i:Nat)) 1) where
 mem:=by simp
 obj:=λi h st b hb=>by
  have e:b=it:=⇑hb
  subst e
  exact#[_,st,λv z=>by
   have z':Data.fields _=Data.cell v:=z;cases z']
 keep:=λi h h' st k=>k it Z2 _ st
 item:=by
  intro X hP hw hK hc i pins s σ H E I hf st hg;subst hP hw hK;let#[f0,f1,f2,f3,f4,f5]:=hf it Z2;let W:=Walks.range (prog:=X.prog) (w:=X.w) (I.ok.hd hc) it lo 1 n;apply W.item i s _ _ hg st λv h' tk hv e_ kk=>?_;let#[t,rfl]:=hv;have I1:Inv X pins σ H { s with heap:=h',toks:=tk }:=I.turned (λb o hb e=>kk b o ⇑hb e) f0 f1 f3 f4 f5;apply#[_,Z,DG (s:={ s with heap:=h',toks:=tk }) (n:="range_iterator") e_ Z Z (by decide) #[.int (lo+i),H,I1,#[t,?_],#[Z,Z],e_,λb hb=>(hf b hb).1]];rw[Int.mul_one]
 done:=by
  intro X hP hw hK hc i pins s σ H E I hf st hg;subst hP hw hK;let#[f0,f1,f2,f3,f4,f5]:=hf it Z2;exact wpAny_pyNext_range_end (I.ok.hd hc) st (by have:n<=i:=hg;omega) λh' eb=>#[Z,I.turned (t':=s.toks) (λb o hb e=>eb b o hb e) f0 f1 f3 f4 f5]
 self:=λ_ _ _ _ _ st h=>wpAny_pyIter_rangeiter st h
end L2
namespace L2
open PySem PySem.Spec PyProof.Rows
section
variable{X:Cx}{tg:Expr}
inductive uk (K:af) (R:It->Hp->Prop) (x:V) (H1:Hp):Prop
 |mk:∀a,x=.ref a->(∃xs,dW K H1 a xs)->R (An K a) H1->uk K R x H1
def FS(K:af)(tl:TE):TI:=λσ H R=>tl σ H λx H1=>uk K R x H1
inductive zj (K:af) (R:It->Hp->Prop) (x:V) (H1:Hp):Prop
 |mk:∀a,x=.ref a->(∃xs,fN K H1 a xs)->R (RR K a) H1->zj K R x H1
def Nh(K:af)(tl:TE):TI:=λσ H R=>tl σ H λx H1=>zj K R x H1
theorem d5{l:Expr}{tl:TE}(hl:PE X l tl):PI X tg l (FS X.K tl):=by
 intro pins s σ H R I h;apply aR (hl pins s σ H _ I h) λv s1 ⟨x,H1,I1,r1,q1⟩=>?_;let#[a,e,#[xs,hq],q]:=q1;subst e;cases r1;let#[its,rv,p,hz]:=I1.list hq;apply wpAny_pyIter_list p.isList ?_;apply#[s1.heap.objs.size,[s1.heap.objs.size],_,_,H1,Z,I1.kept (t':=s1.toks) λb o e=>cj _ e,hd_ a _,#[_,eE _ Z,Z,Z],λb hb=>?_,q];have e:b=s1.heap.objs.size:=⇑hb
 subst e;exact I1.jd (bo _) (I1.aE.fresh (bo _))
theorem l4_{l:Expr}{tl:TE}(hl:PE X l tl):PI X tg l (Nh X.K tl):=by
 intro pins s σ H R I h;apply aR (hl pins s σ H _ I h) λv s1 ⟨x,H1,I1,r1,q1⟩=>?_;let#[a,e,#[xs,hq],q]:=q1;subst e;cases r1;let#[its,rv,p,hz]:=I1.tuple hq;apply wpAny_pyIter_tuple (show s1.heap.IsTuple a its.toArray from p) ?_;apply#[s1.heap.objs.size,[s1.heap.objs.size],_,_,H1,Z,I1.kept (t':=s1.toks) λb o e=>cj _ e,g8_ a _,#[_,eE _ Z,Z,Z],λb hb=>?_,q];have e:b=s1.heap.objs.size:=⇑hb
 subst e;exact I1.jd (bo _) (I1.aE.fresh (bo _))
theorem ih_{pins:List (Addr × Obj)}{σ:St}{H:Hp}{s:Ab}{R:It->Hp->Prop}{E:Aa->Ab->Prop}{lo hi:Int}{t u v:Tok}{tk:Nat}(I:Inv X pins σ H s)(h1:-(2 ^ 62)<=lo)(h2:lo<2 ^ 62)(h3:-(2 ^ 62)<=hi)(h4:hi<2 ^ 62)
  (q:R (CJ lo (hi - lo).toNat) H):wpAny (model X.prog X.w) X.A (pyIter (.ref s.heap.objs.size)) (X2 X pins σ tg R) E { s with heap:=s.heap.push { cls:=.type "range",data:=.fields (List.toArray [.int lo t,.int hi u,.int 1 v]) },toks:=tk }:=by
 apply wpAny_pyIter_range (IsRange.new ..) (small_one h1 h2 h3 h4) ?_;have I1:Inv X pins σ H { s with heap:=s.heap.push { cls:=.type "range",data:=.fields (List.toArray [.int lo t,.int hi u,.int 1 v]) },toks:=tk }:=I.kept λb o e=>cj _ e
 apply#[(s.heap.push { cls:=.type "range",data:=.fields (List.toArray [.int lo t,.int hi u,.int 1 v]) }).objs.size,[(s.heap.push { cls:=.type "range",data:=.fields (List.toArray [.int lo t,.int hi u,.int 1 v]) }).objs.size],_,_,H,Z,
  I1.kept (t':=tk) λb o e=>cj _ e,g5_ _ lo (hi - lo).toNat,?_,λb hb=>?_,q]
 ·have e1:lo+((0:Nat):Int) * 1=lo:=by simp
  have e2:(((hi - lo).toNat:Nat):Int) - ((0:Nat):Int)=Builtin.Range.rangeSize lo hi 1:=by rw[rangeSize_one];split<;>omega
  show IsRangeIter _ _ (lo+((0:Nat):Int) * 1) ((((hi - lo).toNat:Nat):Int) - ((0:Nat):Int)) 1;rw[e1,e2];exact eE _ Z
 have e:b=(s.heap.push { cls:=.type "range",data:=.fields (List.toArray [.int lo t,.int hi u,.int 1 v]) }).objs.size:=⇑hb
 subst e;exact I1.jd (bo _) (I1.aE.fresh (bo _))
inductive uj (R:It->Hp->Prop) (vs:ag) (H1:Hp):Prop
 |mk:∀j:Int,vs=[.int j]->-(2 ^ 62)<=j->j<2 ^ 62->R (CJ 0 j.toNat) H1->uj R vs H1
def FQ(ta:TA):TI:=λσ H R=>ta σ H λvs H1=>uj R vs H1
theorem Cn{a:Expr}{ta:TA}{p pos:Pos}(hg:Gl X "range")(hm:X.mg "range"=none)(ha:PA X [a] ta)(hs:starEach [a] X.env=[(false,eval a X.env)]:=by rfl):PI X tg (.Call (.Name "range" p) [a] [] pos) (FQ ta):=by
 intro pins s σ H R I h;apply Call_ (DK I hg hm boot_range (PyProof.Rows.callWith_type1 (aR (ha pos pins s σ H _ I h) λus s1 ⟨vs,H1,I1,r1,q1⟩=>?_) hs Z));let#[j,e,q1,q2,q]:=q1;subst e;cases r1 with
 |cons r rr=>
  cases rr;let#[t,rfl]:=r;exact call_range_1 (ih_ I1 Z1 Z1 q1 q2 ⇑q)
def LX(wi:TI)(g:TG)(tb:TS):TS:=λD σ H=>wi σ H λJ H1=>∃W:Nat->Nat->St->Hp->Prop,(∃m,W 0 m σ H1)/\∀i m σ H,W i m σ H->
 (J.stop i H/\D.nx σ H)∨(J.go i H/\∃N:St->Hp->Prop,(∀bA H',N bA H'->∃m',m'<m/\W (i+1) m' bA H')/\∀x H',J.yw i H x H'->g x σ H' λg5 H2=>tb { D with nx:=N,ct:=N,bk:=D.nx } g5 H2)
def yg(fp:ai)(h:Heap):List (Addr × Obj):=fp.filterMap λb=>(h.get? b).map λo=>(b,o)
theorem Li{fp:ai}{h:Heap}{b:Addr}{o:Obj}(hb:b∈fp)(e:h.get? b\o):(b,o)∈yg fp h:=yl.mpr #[b,hb,by rw[e];rfl]
theorem ho_{fp:ai}{h:Heap}{p:Addr × Obj}(hp:p∈yg fp h):p.1∈fp/\h.get? p.1\p.2:=by
 let#[b,hb,e]:=yl.mp hp;cases q:h.get? b with
 |none=>rw[q] at e;cases e
 |some o=>
  rw[q] at e;have e':(b,o)=p:=d7 e;subst e';exact#[hb,q]
theorem Inv.pinned{pins:List (Addr × Obj)}{σ:St}{H:Hp}{s:Ab}{fp:ai}(I:Inv X pins σ H s)(hf:∀b∈fp,du X pins H b)(ho:∀b∈fp,∃o,s.heap.get? b\o/\∀v,o.data≠.cell v):Inv X (pins++yg fp s.heap) σ H s:=
 I.oZ λp hp=>(fL.mp hp).elim (λz=>I.pin p (nZ _ z)) λz=>by
  let#[hb,e]:=ho_ z;let#[f0,f1,f2,_]:=hf p.1 hb;let#[o,e',d]:=ho p.1 hb;rw[e] at e';cases e';exact#[e,f0,f1,f2,d]
theorem Inv.eP{pins pl:List (Addr × Obj)}{σ:St}{H:Hp}{s:Ab}(I:Inv X (pins++pl) σ H s):Inv X pins σ H s:=I.oZ λp hp=>I.pin p (nZ _ (List.mem_append_left _ hp))
theorem eX{iter:Expr}{body:List Stmt}{wi:TI}{g:TG}{tb:TS}{pos:Pos}(hp:PassesOwn (model X.prog X.w) X.A X.env X.xe)(hc:X.calm=true)(hi:PI X tg iter wi)(hg:PG X tg g)(hb:lB X body tb)
  (hs:∀x,foldedSetIterable iter X.env x=pure x:=by intro _;rfl):PS X (.For tg iter body [] pos) (LX wi g tb):=by
 intro pins s σ H D I h;apply wpAny_For (aR (hi pins s σ H _ I h) λv s1 h1=>aR h1 λJB s2 h2=>?_) hs;let#[it,fp,tn,J,H2,e,I2,T,eh,f2,W,#[m0,w0],turn]:=h2;subst e;have AC:∀{H':Hp},(∀b∈fp,H' b=none)->∀b∈fp,du X pins H' b:=λhn b hb=>#[hn b hb,(f2 b hb).2];apply codeAny_forLoop_any (λn s'=>∃i bA H',Inv X pins bA H' s'/\tn i s'.heap/\(∀b∈fp,H' b=none)/\W i n bA H') ?_ m0 #[0,σ,H2,I2,eh,λb hb=>(f2 b hb).1,w0];rintro n s3 ⟨i,kU,H3,I3,iO,GR,w3⟩;rcases turn i n kU H3 w3 with⟨stop,qn⟩|⟨go,N,hN,step⟩
 ·apply wpAny_passesOwn hp (aR (T.done X Z Z Z hc i pins s3 kU H3 X.xe I3 (AC GR) iO stop) λr s4 ⟨hr,I4⟩=>?_);subst hr;exact wpAny_execs_nil #[kU,H3,I4,qn]
 apply wpAny_passesOwn hp (aR (T.item X Z Z Z hc i pins s3 kU H3 X.xe I3 (AC GR) iO go) λr s4 ⟨u,hr,h4⟩=>?_);subst hr;apply wpAny_passesOwn hp (aR h4 λ_ s5 ⟨x,H5,I5,r5,y5,gP,pC⟩=>?_);let I5':=I5.pinned (AC pC) (T.obj _ _ gP);apply wpAny_passesOwn hp (aR (hg _ s5 kU H5 x u _ I5' r5 (step x H5 y5)) λ_ s6 ⟨X7,H6,I6,q6⟩=>?_);apply wpAny_passesOwn hp (aR (hb _ s6 X7 H6 _ I6 q6) λf s7 q7=>?_)
 have again:∀{qV:St} {H7:Hp},Inv X (pins++yg fp s5.heap) qV H7 s7->N qV H7->∃m,m<n/\∃i bA H',Inv X pins bA H' s7/\tn i s7.heap/\(∀b∈fp,H' b=none)/\W i m bA H':=λ{qV H7} I7 n7=>by
  let#[m',hm,w7]:=hN qV H7 n7;apply#[m',hm,i+1,qV,H7,I7.eP,T.keep _ _ _ gP λb hb o e=>(I7.pin (b,o) (nZ _ (nZ _ (Li hb e)))).1,λb hb=>?_,w7];let#[o,e,d]:=T.obj _ _ gP b hb;exact (I7.pin (b,o) (nZ _ (nZ _ (Li hb e)))).2.1
 cases f with
 |next=>let#[qV,H7,I7,n7]:=q7;exact again I7 n7
 |cont=>let#[qV,H7,I7,n7]:=q7;exact again I7 n7
 |brk=>let#[qV,H7,I7,q7]:=q7;exact#[qV,H7,I7.eP,q7]
 |ret v=>let#[x7,qV,H7,I7,r7,q7]:=q7;exact#[x7,qV,H7,I7.eP,r7,q7]
end
theorem ie{K:af}{a:Addr}{xs:ag}{g:TG}{tb:TS}{D:Ends}{σ:St}{H:Hp}(Pv:Nat->St->Hp->Prop)(h0:Pv 0 σ H)(hl:∀i σ H,i<=xs.length->Pv i σ H->dW K H a xs)
  (hs:∀i x σ H,xs[i]? = some x->Pv i σ H->g x σ H λg5 H2=>tb { D with nx:=Pv (i+1),ct:=Pv (i+1),bk:=D.nx } g5 H2) (hd:∀σ H,Pv xs.length σ H->D.nx σ H) :
  ∃W:Nat->Nat->St->Hp->Prop,(∃m,W 0 m σ H)/\∀i m σ H,W i m σ H->
   ((An K a).stop i H/\D.nx σ H)∨((An K a).go i H/\∃N:St->Hp->Prop,(∀bA H',N bA H'->∃m',m'<m/\W (i+1) m' bA H')/\∀x H',(An K a).yw i H x H'->g x σ H' λg5 H2=>tb { D with nx:=N,ct:=N,bk:=D.nx } g5 H2):=by
 apply#[λi m σ H=>m=xs.length - i/\i<=xs.length/\Pv i σ H,#[xs.length,by simp,gM _,h0],?_];rintro i m σ H ⟨rfl,hi,p⟩;let q:=hl i σ H hi p;by_cases dY:i<xs.length
 ·apply .inr #[#[xs,xs[i],q,by simp[dY]],Pv (i+1),λbA H' p'=>#[xs.length - (i+1),by omega,Z,dY,p'],λx H' y=>?_];let#[e,y]:=y;subst e;exact hs i x σ _ (y xs q) p
 have e:i=xs.length:=by omega
 subst e;exact .inl #[#[xs,q,bo _],hd σ H p]
theorem D4{lo:Int}{n:Nat}{g:TG}{tb:TS}{D:Ends}{σ:St}{H:Hp}(Pv:Nat->St->Hp->Prop)(h0:Pv 0 σ H)
  (hs:∀i σ H,i<n->Pv i σ H->g (.int (lo+i)) σ H λg5 H2=>tb { D with nx:=Pv (i+1),ct:=Pv (i+1),bk:=D.nx } g5 H2) (hd:∀σ H,Pv n σ H->D.nx σ H) :
  ∃W:Nat->Nat->St->Hp->Prop,(∃m,W 0 m σ H)/\∀i m σ H,W i m σ H->
   ((CJ lo n).stop i H/\D.nx σ H)∨((CJ lo n).go i H/\∃N:St->Hp->Prop,(∀bA H',N bA H'->∃m',m'<m/\W (i+1) m' bA H')/\∀x H',(CJ lo n).yw i H x H'->g x σ H' λg5 H2=>tb { D with nx:=N,ct:=N,bk:=D.nx } g5 H2):=by
 apply#[λi m σ H=>m=n - i/\i<=n/\Pv i σ H,#[n,by simp,gM _,h0],?_];rintro i m σ H ⟨rfl,hi,p⟩;by_cases dY:i<n
 ·apply .inr #[dY,Pv (i+1),λbA H' p'=>#[n - (i+1),by omega,Z,dY,p'],λx H' y=>?_];let#[e,y]:=y;subst e y;exact hs i σ _ dY p
 have e:i=n:=by omega
 subst e;exact .inl #[bo _,hd σ H p]
theorem iK_{c:TT}{tb:TS}{D:Ends}{σ:St}{H:Hp}(Pv:kL)(μ:St->Hp->Nat)(h0:Pv σ H)
  (hs:∀σ H,Pv σ H->c σ H λb H1=>if b=true then tb { D with nx:=λbA H'=>Pv bA H'/\μ bA H'<μ σ H,ct:=λbA H'=>Pv bA H'/\μ bA H'<μ σ H,bk:=D.nx } σ H1 else D.nx σ H1)
  (mono:∀σ H Q Q',(∀b H1,Q b H1->Q' b H1)->c σ H Q->c σ H Q'):rg c tb D σ H:=by
 apply#[λm σ H=>m=μ σ H/\Pv σ H,#[_,Z,h0],?_];rintro m σ H ⟨rfl,p⟩;apply mono σ H _ _ (λb H1 q=>?_) (hs σ H p);cases b with
 |true=>exact#[_,λbA H' ⟨p',l⟩=>#[_,l,Z,p'],q]
 |false=>exact q
end L2
namespace L2
open PySem PySem.Spec PyProof.Rows
abbrev R2:=V->V->Hp->VK->Prop
def dN(X:Cx)(f:Aa->Aa->Sem Aa)(r:R2):Prop:=
 ∀(pins:List (Addr × Obj)) (s:Ab) (σ:St) (H:Hp) (x y:V) (v u:Aa) (Q:VK),Inv X pins σ H s->RelV x v->RelV y u->r x y H Q->
  wpAny (model X.prog X.w) X.A (f v u) (EP X pins σ Q) X.xe s
def RM(X:Cx)(f:Aa->Sem Aa)(r:V->Hp->VK->Prop):Prop:=
 ∀(pins:List (Addr × Obj)) (s:Ab) (σ:St) (H:Hp) (x:V) (v:Aa) (Q:VK),Inv X pins σ H s->RelV x v->r x H Q->
  wpAny (model X.prog X.w) X.A (f v) (EP X pins σ Q) X.xe s
def gB(X:Cx)(f:Aa)(r:ag->Hp->VK->Prop):Prop:=
 ∀(pins:List (Addr × Obj)) (s:Ab) (σ:St) (H:Hp) (xs:ag) (us:ak) (Q:VK),Inv X pins σ H s->Vals xs us->r xs H Q->
  wpAny (model X.prog X.w) X.A (call f us) (EP X pins σ Q) X.xe s
def Ey(r:R2)(ta tb:TE):TE:=λσ H Q=>ta σ H λx H1=>tb σ H1 λy H2=>r x y H2 Q
def ZE(r:V->Hp->VK->Prop)(ta:TE):TE:=λσ H Q=>ta σ H λx H1=>r x H1 Q
inductive rI (C:Int->Int->Prop) (g:Int->Int->V) (x:V) (y:V) (H:Hp) (Q:VK):Prop
 |mk:∀i j,x=.int i->y=.int j->C i j->Q (g i j) H->rI C g x y H Q
inductive w9 (g:Int->Int->V) (x:V) (y:V) (H:Hp) (Q:VK):Prop
 |mk:∀i j,x=.int i->y=.int j->Q (g i j) H->w9 g x y H Q
inductive rU (g:Int->V) (x:V) (H:Hp) (Q:VK):Prop
 |mk:∀i,x=.int i->Q (g i) H->rU g x H Q
section
variable{X:Cx}{a b c:Expr}{ta tb tc:TE}{pos:Pos}
theorem Co(ha:PE X a ta)(hb:PE X b tb){pins:List (Addr × Obj)}{s:Ab}{σ:St}{H:Hp}{R:V->V->Hp->Prop}(I:Inv X pins σ H s)
  (h:ta σ H λx H1=>tb σ H1 λy H2=>R x y H2) {Q:Aa->Ab->Prop} {f:Aa->Aa->Sem Aa}
  (hf:∀v u s2 x y H2,Inv X pins σ H2 s2->RelV x v->RelV y u->R x y H2->wpAny (model X.prog X.w) X.A (f v u) Q X.xe s2) :
  wpAny (model X.prog X.w) X.A (eval a X.env) (λv aV=>wpAny (model X.prog X.w) X.A (eval b X.env) (λu iE=>wpAny (model X.prog X.w) X.A (f v u) Q X.xe iE) X.xe aV) X.xe s:=by
 apply aR (ha pins s σ H _ I h) λv s1 ⟨x,H1,I1,r1,q1⟩=>?_;apply aR (hb pins s1 σ H1 _ I1 q1) λu s2 ⟨y,H2,I2,r2,q2⟩=>?_;exact hf v u s2 x y H2 I2 r1 r2 q2
theorem bN{op:Operator}{r:R2}(ho:dN X (binaryOp op) r)(ha:PE X a ta)(hb:PE X b tb):PE X (.BinOp a op b pos) (Ey r ta tb):=by
 intro pins s σ H Q I h;exact wpAny_BinOp (Co ha hb I h λv u s2 x y H2 I2 rx ry q=>ho pins s2 σ H2 x y v u Q I2 rx ry q)
theorem GK{op:UnaryOp}{r:V->Hp->VK->Prop}(ho:RM X (unaryOp op) r)(ha:PE X a ta):PE X (.UnaryOp op a pos) (ZE r ta):=by
 intro pins s σ H Q I h;exact UnaryOp_ (aR (ha pins s σ H _ I h) λv s1 ⟨x,H1,I1,r1,q1⟩=>ho pins s1 σ H1 x v Q I1 r1 q1)
theorem Jr{f:Aa->Aa->Sem Aa}{C:Int->Int->Prop}{g:Int->Int->Int}
  (rule:∀(i j:Int) (t u:Tok) (s:Ab) (Q:Aa->Ab->Prop) (E:Aa->Ab->Prop),C i j->Q (.int (g i j) s.toks) { s with toks:=s.toks+1 }->wpAny (model X.prog X.w) X.A (f (.int i t) (.int j u)) Q E s) :
  dN X f (rI C λi j=>.int (g i j)):=by
 intro pins s σ H x y v u Q I rx ry h;let#[i,j,rfl,rfl,hc,q]:=h;let#[t,rfl]:=rx;let#[t',rfl]:=ry;exact rule i j t t' s _ _ hc #[.int (g i j),H,I.tok _,#[_,Z],q]
theorem E_{f:Aa->Aa->Sem Aa}{g:Int->Int->Int}
  (rule:∀(i j:Int) (t u:Tok) (s:Ab) (Q:Aa->Ab->Prop) (E:Aa->Ab->Prop),Q (.int (g i j) s.toks) { s with toks:=s.toks+1 }->wpAny (model X.prog X.w) X.A (f (.int i t) (.int j u)) Q E s) :
  dN X f (w9 λi j=>.int (g i j)):=by
 intro pins s σ H x y v u Q I rx ry h;let#[i,j,rfl,rfl,q]:=h;let#[t,rfl]:=rx;let#[t',rfl]:=ry;exact rule i j t t' s _ _ #[.int (g i j),H,I.tok _,#[_,Z],q]
theorem xc{f:Aa->Aa->Sem Aa}{g:Int->Int->Bool}
  (rule:∀(i j:Int) (t u:Tok) (s:Ab) (Q:Aa->Ab->Prop) (E:Aa->Ab->Prop),Q (.bool (g i j)) s->wpAny (model X.prog X.w) X.A (f (.int i t) (.int j u)) Q E s) :
  dN X f (w9 λi j=>.bl (g i j)):=by
 intro pins s σ H x y v u Q I rx ry h;let#[i,j,rfl,rfl,q]:=h;let#[t,rfl]:=rx;let#[t',rfl]:=ry;exact rule i j t t' s _ _ #[.bl (g i j),H,I,Z,q]
def RV(i j:Int):Prop:=0<j/\j<1073741824
def RU(i j:Int):Prop:=0<=j/\j<=1000000/\i.natAbs<2 ^ 64
def yr(i j:Int):Prop:=(-(2 ^ 64)<i/\i<2 ^ 64)∨(-(2 ^ 64)<j/\j<2 ^ 64)
theorem yr.ok{i j:Int}(h:yr i j):IntMulOk i j:=by
 rcases h with⟨h1,h2⟩|⟨h1,h2⟩
 ·exact .of_left (intBits_le_64 h1 h2)
 exact .of_right (intBits_le_64 h1 h2)
theorem gX:dN X (binaryOp .Add) (w9 λi j=>.int (i+j)):=E_ λ_ _ _ _ _ _ _ q=>add_int q
theorem zO:dN X (binaryOp .Sub) (w9 λi j=>.int (i - j)):=E_ λ_ _ _ _ _ _ _ q=>sub_int q
theorem qm:dN X (binaryOp .Mult) (rI yr λi j=>.int (i * j)):=Jr λ_ _ _ _ _ _ _ hc q=>mul_int q hc.ok
theorem zY:dN X (binaryOp .FloorDiv) (rI RV λi j=>.int (i / j)):=Jr λi j _ _ _ _ _ hc q=>by
 have h1:(0:Int)<j:=hc.1;have h2:j<1073741824:=hc.2;exact floordiv_int Z1 (by rw[Int.fdiv_eq_ediv_of_nonneg i Z1];exact q) (.inl (PyProof.noPylong_small Z1))
theorem uX:dN X (binaryOp .Mod) (rI (λ_ j=>0<j) λi j=>.int (i % j)):=Jr λi j _ _ _ _ _ hc q=>by
 have h1:(0:Int)<j:=hc;exact mod_int' Z1 (by rw[Int.fmod_eq_emod_of_nonneg i Z1];exact q)
theorem T5:dN X (binaryOp .Pow) (rI RU λi j=>.int (i ^ j.toNat)):=Jr λ_ _ _ _ _ _ _ hc q=>pow_int_small hc.1 hc.2.1 hc.2.2 q
theorem YW{f:Aa->Sem Aa}{g:Int->Int}
  (rule:∀(i:Int) (t:Tok) (s:Ab) (Q:Aa->Ab->Prop) (E:Aa->Ab->Prop),Q (.int (g i) s.toks) { s with toks:=s.toks+1 }->wpAny (model X.prog X.w) X.A (f (.int i t)) Q E s) :
  RM X f (rU λi=>.int (g i)):=by
 intro pins s σ H x v Q I rx h;let#[i,rfl,q]:=h;let#[t,rfl]:=rx;exact rule i t s _ _ #[.int (g i),H,I.tok _,#[_,Z],q]
theorem Hb:RM X (unaryOp .USub) (rU λi=>.int (-i)):=YW λ_ _ _ _ _ q=>neg_int q
end
def EU:V->V->Bool
 |.non,.non=>true | .non,.int _=>true | .int _,.non=>true | .non,.bl _=>true | .bl _,.non=>true | .non,.str _=>true | .str _,.non=>true
 |.int _,.int _=>true | .bl _,.bl _=>true | .str _,.str _=>true | .byt _,.byt _=>true
 |.int _,.str _=>true | .str _,.int _=>true | .bl _,.str _=>true | .str _,.bl _=>true
 |_,_=>false
def _m:R2:=λx y H Q=>EU x y=true/\Q (.bl (decide (x=y))) H
def _l:R2:=λx y H Q=>EU x y=true/\Q (.bl (!decide (x=y))) H
theorem U2{i j:Int}:decide (V.int i=V.int j)=(i == j):=by
 rw[Bool.eq_iff_iff];simp
theorem TV{i j:Bool}:decide (V.bl i=V.bl j)=(i == j):=by
 rw[Bool.eq_iff_iff];simp
theorem Vg{i j:Str}:decide (V.str i=V.str j)=(i == j):=by
 rw[Bool.eq_iff_iff];simp
theorem Ud{i j:Array UInt8}:decide (V.byt i=V.byt j)=(i.toList == j.toList):=by
 rw[Bool.eq_iff_iff];cases i;cases j;simp
section
variable{X:Cx}{a b c:Expr}{ta tb tc:TE}{pos:Pos}
theorem fg{pins:List (Addr × Obj)}{σ:St}{H:Hp}{s:Ab}{Q:VK}{k k':Bool}(I:Inv X pins σ H s)(q:Q (.bl k) H)(e:k=k'):EP X pins σ Q (.bool k') s:=by
 subst e;exact#[.bl k,H,I,Z,q]
theorem iy:dN X (compareOp .Eq) _m:=by
 intro pins s σ H x y v u Q I rx ry h;let#[hs,q]:=h;cases x with
 |non=>
  cases rx;cases y with
  |non=>cases ry;exact PySem.EqNone.eq_none_none (fg I q Z2)
  |bl j=>cases ry;exact PySem.EqNone.eq_none_bool (fg I q Z2)
  |int j=>let#[t',rfl]:=ry;exact PySem.EqNone.eq_none_int (fg I q Z2)
  |str j=>let#[t',rfl]:=ry;exact PySem.EqNone.eq_none_str (fg I q Z2)
  |_=>exact absurd (show false=true from hs) gW
 |bl i=>
  cases rx;cases y with
  |non=>cases ry;exact PySem.EqNone.eq_bool_none (fg I q Z2)
  |bl j=>cases ry;exact eq_bool (fg I q TV)
  |str j=>let#[t',rfl]:=ry;exact PySem.EqMixed.eq_bool_str (fg I q Z2)
  |_=>exact absurd (show false=true from hs) gW
 |int i=>
  let#[t,rfl]:=rx;cases y with
  |non=>cases ry;exact PySem.EqNone.eq_int_none (fg I q Z2)
  |int j=>let#[t',rfl]:=ry;exact eq_int (fg I q U2)
  |str j=>let#[t',rfl]:=ry;exact PySem.EqMixed.eq_int_str (fg I q Z2)
  |_=>exact absurd (show false=true from hs) gW
 |str i=>
  let#[t,rfl]:=rx;cases y with
  |non=>cases ry;exact PySem.EqNone.eq_str_none (fg I q Z2)
  |bl j=>cases ry;exact PySem.EqMixed.eq_str_bool (fg I q Z2)
  |int j=>let#[t',rfl]:=ry;exact PySem.EqMixed.eq_str_int (fg I q Z2)
  |str j=>let#[t',rfl]:=ry;exact eq_str (fg I q Vg)
  |_=>exact absurd (show false=true from hs) gW
 |byt i=>
  let#[t,rfl]:=rx;cases y with
  |byt j=>let#[t',rfl]:=ry;exact PySem.W.eq_bytes (fg I q Ud)
  |_=>exact absurd (show false=true from hs) gW
 |_=>cases y<;>exact absurd (show false=true from hs) gW
theorem B5:dN X (compareOp .NotEq) _l:=by
 intro pins s σ H x y v u Q I rx ry h;let#[hs,q]:=h;cases x with
 |non=>
  cases rx;cases y with
  |non=>cases ry;exact PySem.EqNone.ne_none_none (fg I q Z2)
  |bl j=>cases ry;exact PySem.EqNone.ne_none_bool (fg I q Z2)
  |int j=>let#[t',rfl]:=ry;exact PySem.EqNone.ne_none_int (fg I q Z2)
  |str j=>let#[t',rfl]:=ry;exact PySem.EqNone.ne_none_str (fg I q Z2)
  |_=>exact absurd (show false=true from hs) gW
 |bl i=>
  cases rx;cases y with
  |non=>cases ry;exact PySem.EqNone.ne_bool_none (fg I q Z2)
  |bl j=>cases ry;exact ne_bool (fg I q (dF not TV))
  |str j=>let#[t',rfl]:=ry;exact PySem.EqMixed.ne_bool_str (fg I q Z2)
  |_=>exact absurd (show false=true from hs) gW
 |int i=>
  let#[t,rfl]:=rx;cases y with
  |non=>cases ry;exact PySem.EqNone.ne_int_none (fg I q Z2)
  |int j=>let#[t',rfl]:=ry;exact ne_int (fg I q (dF not U2))
  |str j=>let#[t',rfl]:=ry;exact PySem.EqMixed.ne_int_str (fg I q Z2)
  |_=>exact absurd (show false=true from hs) gW
 |str i=>
  let#[t,rfl]:=rx;cases y with
  |non=>cases ry;exact PySem.EqNone.ne_str_none (fg I q Z2)
  |bl j=>cases ry;exact PySem.EqMixed.ne_str_bool (fg I q Z2)
  |int j=>let#[t',rfl]:=ry;exact PySem.EqMixed.ne_str_int (fg I q Z2)
  |str j=>let#[t',rfl]:=ry;exact ne_str (fg I q (dF not Vg))
  |_=>exact absurd (show false=true from hs) gW
 |byt i=>
  let#[t,rfl]:=rx;cases y with
  |byt j=>let#[t',rfl]:=ry;exact PySem.W.ne_bytes (fg I q (dF not Ud))
  |_=>exact absurd (show false=true from hs) gW
 |_=>cases y<;>exact absurd (show false=true from hs) gW
theorem lR_:dN X (compareOp .Lt) (w9 λi j=>.bl (decide (i<j))):=xc λ_ _ _ _ _ _ _ q=>lt_int q
theorem uL:dN X (compareOp .LtE) (w9 λi j=>.bl (decide (i<=j))):=xc λ_ _ _ _ _ _ _ q=>le_int q
theorem B6:dN X (compareOp .Gt) (w9 λi j=>.bl (decide (j<i))):=xc λ_ _ _ _ _ _ _ q=>gt_int q
theorem Tt:dN X (compareOp .GtE) (w9 λi j=>.bl (decide (j<=i))):=xc λ_ _ _ _ _ _ _ q=>ge_int q
inductive WT (x:V) (y:V) (H:Hp) (Q:VK):Prop
 |mk:∀i j,x=.str i->y=.str j->Q (.bl (decide (i.cps.toList<j.cps.toList))) H->WT x y H Q
theorem ht_:dN X (compareOp .Lt) WT:=by
 intro pins s σ H x y v u Q I rx ry h;let#[i,j,rfl,rfl,q]:=h;let#[t,rfl]:=rx;let#[t',rfl]:=ry;exact lt_str (fg I q rfl)
theorem OL:dN X (compareOp .Is) (λx y H Q=>y=.non/\Q (.bl (decide (x=.non))) H):=by
 intro pins s σ H x y v u Q I rx ry h;let#[rfl,q]:=h;cases ry;apply is_none_gen (fg I q ?_)
 cases x<;>first
  |(cases rx;rfl)
  |(let#[t,rfl]:=rx;rfl)
theorem kW_:dN X (compareOp .IsNot) (λx y H Q=>y=.non/\Q (.bl (!decide (x=.non))) H):=by
 intro pins s σ H x y v u Q I rx ry h;let#[rfl,q]:=h;cases ry;apply isnot_none_gen (fg I q ?_)
 cases x<;>first
  |(cases rx;rfl)
  |(let#[t,rfl]:=rx;rfl)
theorem t_(b:Expr){op:CmpOp}(h:op≠.In:=by decide)(h2:op≠.NotIn:=by decide):behindInMarks op b=false:=by
 have e1:(op == CmpOp.In)=false:=by cases op<;>first|rfl|exact absurd rfl h
 have e2:(op == CmpOp.NotIn)=false:=by cases op<;>first|rfl|exact absurd rfl h2
 cases b<;>simp[behindInMarks,e1,e2]
theorem qp{op:CmpOp}{r:R2}(ho:dN X (compareOp op) r)(ha:PE X a ta)(hb:PE X b tb)(hm:behindInMarks op b=false:=by exact t_ _):PE X (.Compare a [op] [b] pos) (Ey r ta tb):=by
 intro pins s σ H Q I h;exact wpAny_Compare1 (Co ha hb I h λv u s2 x y H2 I2 rx ry q=>ho pins s2 σ H2 x y v u Q I2 rx ry q) hm
inductive rA (Q:Bool->Hp->Prop) (x:V) (H':Hp):Prop
 |mk:∀k,x=.bl k->Q k H'->rA Q x H'
def yA(t:TE):TT:=λσ H Q=>t σ H λx H'=>rA Q x H'
theorem dj{op:CmpOp}{r:R2}(ho:dN X (compareOp op) r)(ha:PE X a ta)(hb:PE X b tb)(hm:behindInMarks op b=false:=by exact t_ _):PT X (.Compare a [op] [b] pos) (yA (Ey r ta tb)):=by
 intro pins s σ H Q I h
 apply wpAny_isTrue_Compare1 (aR (ha pins s σ H _ I h) λv s1 ⟨x,H1,I1,r1,q1⟩=>aR (hb pins s1 σ H1 _ I1 q1) λu s2 ⟨y,H2,I2,r2,q2⟩=>
  aR (ho pins s2 σ H2 x y v u _ I2 r1 r2 q2) λc s3 ⟨z,H3,I3,r3,k,e,q3⟩=>?_) hm
 subst e;cases r3;exact qk #[H3,I3,q3]
inductive oz (r':R2) (tc:TE) (σ:St) (Q:VK) (y:V) (z:V) (H3:Hp):Prop
 |mk:∀k,z=.bl k->(if k=true then tc σ H3 λw' H4=>r' y w' H4 Q else Q (.bl false) H3)->oz r' tc σ Q y z H3
def rJ(r r':R2)(ta tb tc:TE):TE:=λσ H Q=>ta σ H λx H1=>tb σ H1 λy H2=>r x y H2 λz H3=>oz r' tc σ Q y z H3
theorem VA{op A7:CmpOp}{r r':R2}(ho:dN X (compareOp op) r)(gy:dN X (compareOp A7) r')(ha:PE X a ta)(hb:PE X b tb)(hc:PE X c tc)
  (hm:lastMarks [op,A7] [b,c]=false:=by with_unfolding_all rfl):PE X (.Compare a [op,A7] [b,c] pos) (rJ r r' ta tb tc):=by
 intro pins s σ H Q I h
 apply Compare_chain (aR (ha pins s σ H _ I h) λv s1 ⟨x,H1,I1,r1,q1⟩=>chain_link (aR (hb pins s1 σ H1 _ I1 q1) λu s2 ⟨y,H2,I2,r2,q2⟩=>
  aR (ho pins s2 σ H2 x y v u _ I2 r1 r2 q2) λd s3 ⟨z,H3,I3,r3,k,e,q3⟩=>?_)) hm
 subst e;cases r3;apply qk ?_;cases k with
 |false=>exact ite_ff #[.bl false,H3,I3,Z,q3]
 |true=>exact ite_tt (chain_last (aR (hc pins s3 σ H3 _ I3 q3) λw' s4 ⟨z',H4,I4,r4,q4⟩=>gy pins s4 σ H4 y z' u w' Q I4 r2 r4 q4))
theorem Vu{op A7:CmpOp}{r r':R2}(ho:dN X (compareOp op) r)(gy:dN X (compareOp A7) r')(ha:PE X a ta)(hb:PE X b tb)(hc:PE X c tc)
  (hm:lastMarks [op,A7] [b,c]=false:=by with_unfolding_all rfl):PT X (.Compare a [op,A7] [b,c] pos) (yA (rJ r r' ta tb tc)):=by
 intro pins s σ H Q I h
 apply isTrue_chain (aR (ha pins s σ H _ I h) λv s1 ⟨x,H1,I1,r1,q1⟩=>test_link (aR (hb pins s1 σ H1 _ I1 q1) λu s2 ⟨y,H2,I2,r2,q2⟩=>
  aR (ho pins s2 σ H2 x y v u _ I2 r1 r2 q2) λd s3 ⟨z,H3,I3,r3,k,e,q3⟩=>?_)) hm
 subst e;cases r3;apply qk ?_;cases k with
 |false=>
  let#[k',e',q']:=q3;cases e';exact ite_ff #[H3,I3,q']
 |true=>
  apply ite_tt (test_last (aR (hc pins s3 σ H3 _ I3 q3) λw' s4 ⟨z',H4,I4,r4,q4⟩=>aR (gy pins s4 σ H4 y z' u w' _ I4 r2 r4 q4) λd' s5 ⟨z2,H5,I5,r5,k2,e2,q5⟩=>?_));subst e2;cases r5;exact qk #[H5,I5,q5]
theorem gn:(sizeLine:Nat)<2 ^ 63:=by rw[cn];decide
inductive W_ (x:V) (y:V) (H:Hp) (Q:VK):Prop
 |mk:∀i j,x=.str i->y=.str j->i.length+j.length<=sizeLine->Q (.str (i++j)) H->W_ x y H Q
theorem Qv:dN X (binaryOp .Add) W_:=by
 intro pins s σ H x y v u Q I rx ry h;let#[i,j,rfl,rfl,hz,q]:=h;let#[t,rfl]:=rx;let#[t',rfl]:=ry;exact add_str (λt' tk=>⟨.str (i++j),H,I.tok _,⟨_,rfl⟩,q⟩) hz
theorem vals1{x:V}{us:ak}(r:Vals [x] us):∃u,us=[u]/\RelV x u:=by
 cases r with
 |cons r1 r2=>cases r2;exact#[_,Z,r1]
theorem vals2{x y:V}{us:ak}(r:Vals [x,y] us):∃u w',us=[u,w']/\RelV x u/\RelV y w':=by
 cases r with
 |cons r1 r2=>
  cases r2 with
  |cons r3 r4=>cases r4;exact#[_,_,Z,r1,r3]
inductive WW (xs:ag) (H:Hp) (Q:VK):Prop
 |mk:∀i j,xs=[.int i,.int j]->Q (.int (if j > i then j else i)) H->WW xs H Q
theorem QR(hc:X.calm=true):gB X (.builtin "max") WW:=by
 intro pins s σ H xs us Q I r h;let#[i,j,rfl,q]:=h;let#[u,w',rfl,#[t,rfl],#[t',rfl]]:=vals2 r;apply max_two_ints (I.ok.hd hc) λh' tk k=>#[_,H,I.kept k,?_,q];by_cases hj:j > i
 ·rw[aJ hj,aJ hj];exact#[_,Z]
 rw[aB hj,aB hj];exact#[_,Z]
inductive WU (xs:ag) (H:Hp) (Q:VK):Prop
 |mk:∀i j,xs=[.int i,.int j]->Q (.int (if j<i then j else i)) H->WU xs H Q
theorem hx_(hc:X.calm=true):gB X (.builtin "min") WU:=by
 intro pins s σ H xs us Q I r h;let#[i,j,rfl,q]:=h;let#[u,w',rfl,#[t,rfl],#[t',rfl]]:=vals2 r;apply min_two_ints (I.ok.hd hc) λh' tk k=>#[_,H,I.kept k,?_,q];by_cases hj:j<i
 ·rw[aJ hj,aJ hj];exact#[_,Z]
 rw[aB hj,aB hj];exact#[_,Z]
theorem Wr:gB X (.type "int") (λxs H Q=>(∃i,xs=[.int i]/\Q (.int i) H)∨∃k,xs=[.bl k]/\Q (.int (if k then 1 else 0)) H):=by
 intro pins s σ H xs us Q I r h;rcases h with⟨i,rfl,q⟩|⟨k,rfl,q⟩
 ·let#[u,rfl,t,rfl]:=vals1 r;exact call_int_int #[.int i,H,I,#[_,Z],q]
 let#[u,rfl,r1]:=vals1 r;cases r1;exact call_int_bool #[.int (if k then 1 else 0),H,I.tok _,#[_,Z],q]
end
end L2
namespace L2
open PySem PySem.Spec PyProof.Rows
structure og (h:Heap) (x dx C:Addr) (mA:Str->Option Aa):Prop where
 obj:h.get? x\PySem.W.instObj C dx
 ns:h.Ns1 dx mA
 ne:dx≠x
theorem h2_{h:Heap}{dx:Addr}{mA:Str->Option Aa}(n:h.Ns1 dx mA):∃od,h.get? dx\od/\∀name,PySem.W.lookIn name od\mA name:=by
 let#[o,es,ep,ho,hd,hk,_,hm]:=n;apply#[o,ho,λname=>?_];let e:=hm name;unfold nsFind findBy at e;rw[<- Array.find?_toList] at e;unfold PySem.W.lookIn;rw[hd];dsimp only;split
 ·rename_i y q
  rw[q] at e;exact dF some e
 rename_i q
 rw[q] at e
 have a:es.toList.any (·.refKey)=false:=by
  rw[List.any_eq_false];intro y hy;let#[z,t,NW]:=hk y (Array.mem_toList_iff.mp hy);simp[DictEntry.refKey,NW]
 have a':¬es.toList.any (·.refKey)=true:=by rw[a];exact gW
 rw[aB a'];exact dF some e
theorem og.look{h:Heap}{x dx C:Addr}{mA:Str->Option Aa}(I:og h x dx C mA):∃od,PySem.W.InstAt h x (PySem.W.instObj C dx) C (some od)/\∀name,PySem.W.lookIn name od\mA name:=
 let #[od,ho,hl]:=h2_ I.ns
 #[od,#[I.obj,Z,Z,ho],hl]
section
variable{prog:Ad}{w:Af}{A:Ag}{E:Aa->Ab->Prop}{s:Ab}{K:af}{x dx C f:Addr}{mA:Str->Option Aa}{name:Str}{v:Aa}
theorem kJ_{expr:Bool}{Q:Aa->Ab->Prop}(X:K.In s.heap)(I:og s.heap x dx C mA)(hg:PySem.W.plainGet K C name=true)(hh:PySem.W.hasDictIn K C=true)
  (ha:PySem.W.findIn K (.ref C) name\none) (hv:mA name\v) (Np:PySem.W.handedIn v=true) (h:Q v { s with toks:=s.toks+1 }) :
  wpAny (model prog w) A (getAttr (.ref x) name expr) Q E s:=by
 let#[od,J,hl]:=I.look;exact PySem.W.get_value X J (PySem.W.plainGet_of hg).1 (PySem.W.findObj_own hh ha Z (by rw[hl,hv])) Np h
theorem jn_{pl:Sem Bool}{Q:Aa × ak->Ab->Prop}(X:K.In s.heap)(I:og s.heap x dx C mA)(hg:PySem.W.plainGet K C name=true)
  (hf:PySem.W.findIn K (.ref C) name\some (.ref f)) (ht:PySem.W.isFn K (.ref f)=true) (hv:mA name=none) (h:Q (.ref f,[.ref x]) s) :
  wpAny (model prog w) A (getMethod (.ref x) name pl) Q E s:=by
 let#[od,J,hl]:=I.look;exact PySem.W.method_fn X J (PySem.W.plainGet_of hg).1 (PySem.W.plainGet_of hg).2 hf (beq_iff_eq.mp ht) (by show (PySem.W.lookIn name od).map (·.isSome)=some false;rw[hl,hv];rfl) h
theorem kV_{ns:ae}{Q:Unit->Ab->Prop}(X:K.In s.heap)(I:og s.heap x dx C mA)
  (hs:PySem.W.findIn K (.ref C) "__setattr__"\some (.builtin "object.__setattr__")) (hp:PySem.W.plainOver K C=true) (ht:PySem.W.takerIn K C name\none) (hh:PySem.W.hasDictIn K C=true)
  (hw:PySem.Within mA ns) (hsz:ns.length<=sizeLine)
  (h:∀h',og h' x dx C (λy=>if y=name then some v else mA y)->Heap.SameBut dx s.heap h'->Q () { s with heap:=h',toks:=s.toks+2 }) :
  wpAny (model prog w) A (setAttr (.ref x) name v) Q E s:=by
 let#[od,J,hl]:=I.look;apply PySem.W.set_plain X J hs (PySem.W.osa_open (s:={ s with toks:=s.toks+1 }) (r:=none) X J hp ht λb=>?_);let#[cd,hc,fH]:=PySem.W.any_some hh;have hx:s.heap.get? x=some #[.ref C,some dx,.plain,#[]]:=I.obj;apply ao (aK (ao (ao (wpAny_loadPart hx (ao (PySem.W.Looks.here (s:={ s with toks:=s.toks+1 }) (PySem.W.looks_clsIn X hc) ?_))))));rw[fH];apply aK (a:=some dx) (ao (aK (ao ?_)));apply wpAny_nsSet1 (s:={ s with toks:=s.toks+1 }) I.ns λh' zu Bm=>?_;let#[oD,esD,epD,hoD,hdD,hcD]:=zu.count (PySem.Within.cons name v hw);apply ao (wpAny_lookBehind hoD (by rw[hdD];exact pastItsLine_dict (nQ hcD (by rw[kB];omega))) ?_);exact aK (h _ #[(Bm.2 _ (Ne.symm I.ne)).trans I.obj,zu,I.ne] Bm)
theorem j5_{R:Result->Ab->Prop}{vs:ak}{kw:List (Str × Aa)}(X:K.In s.heap)(hm:PySem.W.makesIn K C=true)
  (hi:PySem.W.findIn K (.ref C) "__init__"\some (.ref f)) (hf:PySem.W.typeIn K (.ref f)\.type "function")
  (h:codeAny (model prog w) (A.under (.builtin "type.__call__" #[.ref C::vs,kw])) (.call (.ref f) #[.ref (s.heap.objs.size+1)::vs,kw]) (PySem.W.InitBack (s.heap.objs.size+1) R)
   { s with heap:=(s.heap.push PySem.W.emptyDict).push (PySem.W.instObj C s.heap.objs.size) }) :
  codeAny (model prog w) A (.call (.ref C) #[vs,kw]) R s:=by
 let#[hh,g,d,t,os]:=s;exact PySem.W.make_core (PySem.W.makes_of X hm) (PySem.W.looks_findIn X hi) (λself=>PySem.W.bind_fn X self hf) (.inl Z) h
end
def aD(f:Str)(v:V):List (Str × V)->List (Str × V)
 |[]=>[(f,v)]
 |(g,x)::r=>if g=f then (g,v)::r else (g,x)::aD f v r
theorem eZ(f g:Str)(v:V):∀fs:List (Str × V),(aD f v fs).lookup g=if g=f then some v else fs.lookup g
 |[]=>by
  show List.lookup g [(f,v)]=_;by_cases h:g=f
  ·have hb:(g == f)=true:=beq_iff_eq.mpr h;simp only[List.lookup,hb,aJ h]
  ·have hb:(g == f)=false:=beq_eq_false_iff_ne.mpr h;simp only[List.lookup,hb,aB h]
 |(k,x)::r=>by
  let ih:=eZ f g v r;rw[show aD f v ((k,x)::r)=(if k=f then (k,v)::r else (k,x)::aD f v r) from Z];by_cases hk:k=f
  ·rw[aJ hk];by_cases h:g=k
   ·have hb:(g == k)=true:=beq_iff_eq.mpr h;simp only[List.lookup,hb,aJ (h.trans hk)]
   have hb:(g == k)=false:=beq_eq_false_iff_ne.mpr h;simp only[List.lookup,hb,aB (λe:g=f=>h (e.trans hk.symm))]
  rw[aB hk];by_cases h:g=k
  ·have hb:(g == k)=true:=beq_iff_eq.mpr h;simp only[List.lookup,hb,aB (λe:g=f=>hk (h.symm.trans e))]
  have hb:(g == k)=false:=beq_eq_false_iff_ne.mpr h;simp only[List.lookup,hb];exact ih
theorem Rc(f:Str)(v:V):∀fs:List (Str × V),f∈(aD f v fs).map (·.1)/\∀g,g∈fs.map (·.1)->g∈(aD f v fs).map (·.1)
 |[]=>#[by simp[aD],λg h=>by simp at h]
 |(k,x)::r=>by
  let#[i1,i2]:=Rc f v r;rw[show aD f v ((k,x)::r)=(if k=f then (k,v)::r else (k,x)::aD f v r) from Z];by_cases hk:k=f
  ·rw[aJ hk];subst hk;exact#[by simp,λg h=>by simpa using h]
  rw[aB hk];apply#[?_,λg h=>?_]
  ·rw[dZ];exact eR _ i1
  rw[dZ] at h ⊢;rcases cU.mp h with e|e
  ·exact cU.mpr (.inl e)
  exact eR _ (i2 g e)
theorem Xv(f:Str)(v:V):∀fs:List (Str × V),(aD f v fs).length<=fs.length+1
 |[]=>by simp[aD]
 |(k,x)::r=>by
  let ih:=Xv f v r;rw[show aD f v ((k,x)::r)=(if k=f then (k,v)::r else (k,x)::aD f v r) from Z];by_cases hk:k=f
  ·rw[aJ hk,kB,kB];omega
  rw[aB hk,kB,kB];omega
theorem eS.some_of{v:V}{o:Option Aa}(r:eS (some v) o):∃u,o\u/\RelV v u:=by
 cases o with
 |none=>exact (show False from r).elim
 |some u=>exact#[u,Z,r]
theorem eS.none_of{o:Option Aa}(r:eS none o):o=none:=by
 cases o with
 |none=>rfl
 |some u=>exact (show False from r).elim
theorem hE_{v:V}{u:Aa}(r:RelV v u):PySem.W.handedIn u=true:=by
 cases v with
 |non=>cases (show u=Value.none from r);rfl
 |bl b=>cases (show u=Value.bool b from r);rfl
 |int i=>let#[t,e]:=(show ∃t,u=Value.int i t from r);cases e;rfl
 |str x=>let#[t,e]:=(show ∃t,u=Value.str x t from r);cases e;rfl
 |byt b=>let#[t,e]:=(show ∃t,u=Value.bytes b t from r);cases e;rfl
 |flt b=>let#[t,e]:=(show ∃t,u=Value.float b t from r);cases e;rfl
 |ref a=>cases (show u=Value.ref a from r);rfl
 |ty n=>cases (show u=Value.type n from r);rfl
section
variable{P:Ad}{w:Af}{H H':Hp}{h h':Heap}{a C dx:Addr}{fs fs':List (Str × V)}
theorem KG(aE:eL P w H h)(e:H a\.ins C dx fs):∃mA,og h a dx C mA/\(∀f,eS (fs.lookup f) (mA f))/\PySem.Within mA (fs.map (·.1))/\fs.length<=1000/\H dx\.own a:=by
 let#[d,z,ne,ob,mA,n,r,q]:=(show eI P w H h a (.ins C dx fs) from aE a _ e);exact#[mA,#[ob,n,ne],r,q,z,d]
end
structure oi (K:af) (C:Addr):Prop where
 pg:PySem.W.plainGet K C Str.empty=true
 hd:PySem.W.hasDictIn K C=true
 po:PySem.W.plainOver K C=true
 sa:PySem.W.findIn K (.ref C) "__setattr__"\some (.builtin "object.__setattr__")
theorem oi.get{K:af}{C:Addr}(c:oi K C)(f:Str):PySem.W.plainGet K C f=true:=c.pg
def k_(K:af)(C:Addr)(f:Str):Prop:=PySem.W.findIn K (.ref C) f=some none
theorem k_.Et{K:af}{C:Addr}{f:Str}(n:k_ K C f):PySem.W.takerIn K C f\none:=by
 unfold PySem.W.takerIn;rw[show PySem.W.findIn K (.ref C) f\none from n];rfl
structure Con (K:af) (C:Addr) (f:Str) (v:V) (u:Aa):Prop where
 at_:PySem.W.findIn K (.ref C) f\some u
 rel:RelV v u
 get:PySem.W.specialIn K u "__get__"\none
 cp:PySem.W.copiedNames.contains f=false
structure Meth (K:af) (C:Addr) (m:Str) (f:Addr):Prop where
 at_:PySem.W.findIn K (.ref C) m\some (.ref f)
 fn:PySem.W.isFn K (.ref f)=true
 kp:PySem.W.keepIn K (.ref f)=true
section
variable{X:Cx}{pins:List (Addr × Obj)}{σ:St}{H:Hp}{s:Ab}{a C dx:Addr}{fs:List (Str × V)}{f:Str}{v:V}{A:Ag}{E:Aa->Ab->Prop}
theorem gg_{b:Bool}{Q:Aa->Ab->Prop}(I:Inv X pins σ H s)(e:H a\.ins C dx fs)(c:oi X.K C)(n:k_ X.K C f)(l:fs.lookup f\v)
  (h:∀u s',Inv X pins σ H s'->RelV v u->Q u s'):wpAny (model X.prog X.w) A (getAttr (.ref a) f b) Q E s:=by
 let#[mA,O,r,_,_,_]:=KG I.aE e;let#[u,hu,ru]:=eS.some_of (v:=v) (o:=mA f) (by rw[<- l];exact r f);exact kJ_ I.gr O (c.get f) c.hd n hu (hE_ ru) (h u _ (I.tok _) ru)
theorem Xd{m:Str}{g:Addr}{pl:Sem Bool}{Q:Aa × ak->Ab->Prop}(I:Inv X pins σ H s)(e:H a\.ins C dx fs)(c:oi X.K C)(k:Meth X.K C m g)(l:fs.lookup m=none)
  (h:Q (.ref g,[.ref a]) s):wpAny (model X.prog X.w) A (getMethod (.ref a) m pl) Q E s:=by
 let#[mA,O,r,_,_,_]:=KG I.aE e;have hn:mA m=none:=eS.none_of (by rw[<- l];exact r m);exact jn_ I.gr O (c.get m) k.at_ k.fn hn h
theorem g4_{y:V}{u:Aa}{Q:Unit->Ab->Prop}(I:Inv X pins σ H s)(e:H a\.ins C dx fs)(c:oi X.K C)(n:k_ X.K C f)(hl:fs.length<1000)(ry:RelV y u)
  (h:∀s',Inv X pins σ (upd H a (.ins C dx (aD f y fs))) s'->Q () s'):wpAny (model X.prog X.w) A (setAttr (.ref a) f u) Q E s:=by
 let#[mA,O,r,wi,_,ho]:=KG I.aE e;have hz:(fs.map (·.1)).length<=sizeLine:=by rw[ay,cn];omega
 apply kV_ I.gr O c.sa c.po n.Et c.hd wi hz λh' O' sb=>h _ ?_;have hd:∃o,h'.get? dx\o:=let #[o,_,_,e',_]:=O'.ns;#[o,e'];apply I.write (x:=a) (e:=dx) (by rw[e];exact True.intro) (.inr ho) (λb q hb z=>(sb.2 b hb).trans z) hd ?_;apply#[by rw[aA O.ne];exact ho,?_,O.ne,O'.obj,_,O'.ns,λg=>?_,λg hg=>?_]
 ·have:=Xv f y fs;omega
 ·show eS ((aD f y fs).lookup g) (if g=f then some u else mA g);rw[eZ];by_cases q:g=f
  ·rw[aJ q,aJ q];exact ry
  rw[aB q,aB q];exact r g
 by_cases q:g=f
 ·rw[q];exact (Rc f y fs).1
 apply (Rc f y fs).2 g (wi g λz=>hg ?_);show (if g=f then some u else mA g)=none;rw[aB q];exact z
theorem Inv.made(I:Inv X pins σ H s):Inv X pins σ (upd (upd H s.heap.objs.size (.own (s.heap.objs.size+1))) (s.heap.objs.size+1) (.ins C s.heap.objs.size []))
  { s with heap:=(s.heap.push PySem.W.emptyDict).push (PySem.W.instObj C s.heap.objs.size) }:=by
 have e1:(s.heap.push PySem.W.emptyDict).get? s.heap.objs.size\PySem.W.emptyDict:=eE s.heap Z
 have e2:((s.heap.push PySem.W.emptyDict).push (PySem.W.instObj C s.heap.objs.size)).get? (s.heap.objs.size+1)\PySem.W.instObj C s.heap.objs.size:=by
  have:=eE (s.heap.push PySem.W.emptyDict) (o:=PySem.W.instObj C s.heap.objs.size) Z;rwa [Heap.size_push] at this
 have e3:(s.heap.push PySem.W.emptyDict).Ns s.heap.objs.size (λ_=>none):=#[PySem.W.emptyDict,#[],_,e1,Z,(λe he=>absurd he Z2),λ_=>rfl];let I1:=I.laid (a:=s.heap.objs.size) (o:=.own (s.heap.objs.size+1)) (h':=s.heap.push PySem.W.emptyDict) (t':=s.toks) (λb u q=>cj _ q) (bo _) #[_,e1];apply I1.laid (a:=s.heap.objs.size+1) (o:=.ins C s.heap.objs.size []) (t':=s.toks) (λb u q=>cj _ q) (Nat.le_of_eq (Heap.size_push _ _)) ?_;have ne:s.heap.objs.size≠s.heap.objs.size+1:=eJ (Nat.lt_succ_self _);apply#[by rw[aA ne,au],gM _,ne,e2,λ_=>none,(Heap.Ns1.of_empty e3).at λo q=>cj _ q,λ_=>True.intro,λy hy=>absurd Z hy]
theorem jX_{prog:Ad}{w:Af}{env:Env}{e:Expr}{f:Str}{pos:Pos}{s:Ab}{Q:Aa->Ab->Prop}(hb:attributeBase e f env (eval e env)=eval e env)
  (h:wpAny (model prog w) A (eval e env) (λo aV=>wpAny (model prog w) A (getAttr o f true) Q E aV) E s):wpAny (model prog w) A (eval (.Attribute e f pos) env) Q E s:=
 Attribute_any_ h (by rw[arm_eval_Attribute,hb])
end
inductive yG (K:af) (f:Str) (Q:VK) (x:V) (H1:Hp):Prop
 |mk:∀a C dx fs v,x=.ref a->H1 a\.ins C dx fs->oi K C->k_ K C f->fs.lookup f\v->Q v H1->yG K f Q x H1
def LY(K:af)(ta:TE)(f:Str):TE:=λσ H Q=>ta σ H λx H1=>yG K f Q x H1
inductive yO (K:af) (f:Str) (D:Ends) (σ:St) (y:V) (x:V) (H2:Hp):Prop
 |mk:∀a C dx fs,x=.ref a->H2 a\.ins C dx fs->oi K C->k_ K C f->fs.length<1000->D.nx σ (upd H2 a (.ins C dx (aD f y fs)))->yO K f D σ y x H2
def Mh(K:af)(ta tv:TE)(f:Str):TS:=λD σ H=>tv σ H λy H1=>ta σ H1 λx H2=>yO K f D σ y x H2
section
variable{X:Cx}{o e value:Expr}{f:Str}{pos pos' En:Pos}{ta tv:TE}
theorem dG(he:PE X e ta)(hb:attributeBase e f X.env (eval e X.env)=eval e X.env):PE X (.Attribute e f pos) (LY X.K ta f):=by
 intro pins s σ H Q I h;apply jX_ hb (aR (he pins s σ H _ I h) λu s1 ⟨x,H1,I1,rx,a,C,dx,fs,v,ex,ea,c,n,l,q⟩=>?_);subst ex;obtain rfl:u=Value.ref a:=rx;exact gg_ I1 ea c n l λu' s2 I2 ru=>#[v,H1,I2,ru,q]
theorem wg(ha:PE X o ta)(hv:PE X value tv)(hs:swapsWith value (some (.Attribute o f pos')) pos.line X.env=pure false):PS X (.Assign [.Attribute o f pos'] value pos) (Mh X.K ta tv f):=by
 intro pins s σ H D I h;apply plainObj_wpAny_Assign_Attribute (aR (hv pins s σ H _ I h) λu s1 ⟨y,H1,I1,ry,q⟩=>aR (ha pins s1 σ H1 _ I1 q) λov s2 ⟨x,H2,I2,rx,a,C,dx,fs,ex,ea,c,n,l,q2⟩=>?_) hs;subst ex;obtain rfl:ov=Value.ref a:=rx;exact g4_ I2 ea c n l ry λs3 I3=>#[σ,_,I3,q2]
end
section
variable{X:Cx}{pins:List (Addr × Obj)}{σ:St}{H:Hp}{s:Ab}{A:Ag}{E:Aa->Ab->Prop}{Q:Aa->Ab->Prop}{c:Aa}{b:Bool}
inductive fi (K:af) (H:Hp):V->Aa->Prop where
 |non:fi K H .non (.type "NoneType")
 |bl (x:Bool):fi K H (.bl x) (.type "bool")
 |int (i:Int):fi K H (.int i) (.type "int")
 |str (x:Str):fi K H (.str x) (.type "str")
 |flt (x:UInt64):fi K H (.flt x) (.type "float")
 |lst {a:Addr} {xs:ag} (e:H a\.lst xs):fi K H (.ref a) (.type "list")
 |frz {a:Addr} {o:Obj} {xs:ag} (e:H a\.frz o (.lst xs)):fi K H (.ref a) (.type "list")
 |tup {a:Addr} {xs:ag} (e:H a\.tup xs):fi K H (.ref a) (.type "tuple")
 |dK {a:Addr} {kvs:List (Key × V)} (e:H a\.dK kvs):fi K H (.ref a) (.type "dict")
 |dT {a:Addr} {kvs:List (az × V)} (e:H a\.dT kvs):fi K H (.ref a) (.type "dict")
 |ins {a C dx:Addr} {fs:List (Str × V)} (e:H a\.ins C dx fs) (cl:oi K C) (ha:PySem.W.findIn K (.ref C) "__class__"\some (.builtin "object.__class__"))
   (hn:PySem.W.specialIn K (.builtin "object.__class__") "__get__"\some (.builtin "getset_descriptor.__get__")) (JE:PySem.W.takesIn K (.builtin "object.__class__")\true)
   (hm:PySem.W.mroIn K C (.type "object")\true):fi K H (.ref a) (.ref C)
theorem V7{x:V}{u t:Aa}(I:Inv X pins σ H s)(rx:RelV x u)(ty:fi X.K H x t)(e:PySem.W.kitOne X.K t c\b)(h:∀tk,Q (.bool b) { s with toks:=tk }) :
  wpAny (model X.prog X.w) A (call (.builtin "isinstance") [u,c]) Q E s:=by
 cases ty with
 |non=>cases (show u=Value.none from rx);exact uI PySem.W.kitx_none I.gr True.intro e nofun h
 |bl y=>cases (show u=Value.bool y from rx);exact uI PySem.W.kitx_bool I.gr True.intro e nofun h
 |int i=>let#[t,q]:=(show ∃t,u=Value.int i t from rx);cases q;exact uI PySem.W.kitx_int I.gr True.intro e nofun h
 |str y=>let#[t,q]:=(show ∃t,u=Value.str y t from rx);cases q;exact uI PySem.W.kitx_str I.gr True.intro e nofun h
 |flt y=>let#[t,q]:=(show ∃t,u=Value.float y t from rx);cases q;exact uI PySem.W.kitx_float I.gr True.intro e nofun h
 |@lst a xs ea=>
  cases (show u=Value.ref a from rx);let#[_,_,n,_,h1]:=(show eI X.prog X.w H s.heap a (.lst xs) from I.aE a _ ea);exact uI PySem.W.kitx_list I.gr #[_,h1,Z] e nofun h
 |@frz a ob xs ea=>
  cases (show u=Value.ref a from rx);let#[_,_,_,n,_,h1]:=(show eI X.prog X.w H s.heap a (.frz ob (.lst xs)) from I.aE a _ ea);exact uI PySem.W.kitx_list I.gr #[_,h1,Z] e nofun h
 |@tup a xs ea=>
  cases (show u=Value.ref a from rx);let#[_,_,_,p,_]:=(show eI X.prog X.w H s.heap a (.tup xs) from I.aE a _ ea);let#[o,h1,h2,_]:=p;exact uI PySem.W.kitx_tuple I.gr #[o,h1,h2] e nofun h
 |@dK a kvs ea=>
  cases (show u=Value.ref a from rx);let#[_,_,vs,_,p]:=(show eI X.prog X.w H s.heap a (.dK kvs) from I.aE a _ ea);let#[o,es,ep,h1,h2,_]:=p;exact uI PySem.W.kitx_dict I.gr #[o,h1,h2.1] e nofun h
 |@dT a kvs ea=>
  cases (show u=Value.ref a from rx);let#[_,_,xs,_,o,es,ep,h1,h2,_]:=(show eI X.prog X.w H s.heap a (.dT kvs) from I.aE a _ ea);exact uI PySem.W.kitx_dict I.gr #[o,h1,h2.1] e nofun h
 |@ins a C dx fs ea cl ha hn JE hm=>
  cases (show u=Value.ref a from rx);let#[mA,O,_]:=KG I.aE ea;let#[od,J,_]:=O.look;exact uI (PySem.W.kitx_own (cl.get _) cl.hd ha hn JE hm) I.gr J e nofun h
end
end L2
namespace L2
open PySem PySem.Spec PyProof.Rows
structure bf (k:Nat) (A:Ag):Prop where
 hd:A.handled=none
 dp:A.depth+3 * k+5<recursionLimit
 un:A.units+16 * k+200<cLine
theorem bf.mono{j k:Nat}{A:Ag}(r:bf k A)(h:j<=k):bf j A:=#[r.hd,by have:=r.dp;omega,by have:=r.un;omega]
theorem bf.deeper{k:Nat}{A:Ag}(r:bf (k+1) A)(env:Env):bf k (A.deeper env):=
 #[r.hd,by have:=r.dp;show A.depth+1+3 * k+5<_;omega,by have:=r.un;show A.units+3+16 * k+200<_;omega]
theorem bf.in1{k:Nat}{A:Ag}(r:bf (k+1) A):bf k A.in1:=
 #[r.hd,by have:=r.dp;show A.depth+3 * k+5<_;omega,by have:=r.un;show A.units+1+16 * k+200<_;omega]
theorem gh_{A:Ag}{C:Addr}{us:ak}{kw:List (Str × Aa)}:(A.under (.builtin "type.__call__" #[.ref C::us,kw])).depth=A.depth+1:=by
 first|rfl|simp[Around.under,Code.weight,Code.isCreation,Code.isGuard,Code.isCaller,Code.frames,Code.isFrame,guardIds]
theorem gi_{A:Ag}{C:Addr}{us:ak}{kw:List (Str × Aa)}:(A.under (.builtin "type.__call__" #[.ref C::us,kw])).units=A.units+1:=by
 first|rfl|simp[Around.under,Code.cUnits,Code.frames,Code.isFrame]
theorem bf.make{k:Nat}{A:Ag}(r:bf (k+1) A)(C:Addr)(us:ak)(kw:List (Str × Aa)):bf k (A.under (.builtin "type.__call__" #[.ref C::us,kw])):=
 #[r.hd,by have:=r.dp;rw[gh_];omega,by have:=r.un;rw[gi_];omega]
theorem bf.depth{k:Nat}{A:Ag}(r:bf k A):A.depth<recursionLimit:=by have:=r.dp;omega
theorem bf.units{k:Nat}{A:Ag}(r:bf k A):A.units+64<cLine:=by have:=r.un;omega
def lF:TA:=λ_ H Q=>Q [] H
def jQ(ta:TE)(tr:TA):TA:=λσ H Q=>ta σ H λx H1=>tr σ H1 λxs H2=>Q (x::xs) H2
section
variable{X:Cx}{e:Expr}{es:List Expr}{te:TE}{t:TA}{pos:Pos}
theorem bh:PA X [] lF:=λ_ _ _ _ H Q I h=>Calls.spliced_nil #[[],H,I,.nil,h]
theorem eU(ha:PE X e te)(hr:PA X es t)(hs:starEach (e::es) X.env=(false,eval e X.env)::starEach es X.env:=by rfl):PA X (e::es) (jQ te t):=by
 intro pos pins s σ H Q I h;rw[hs];show wpAny _ _ (spliced ((false,eval e X.env)::backTo pos (starEach es X.env))) _ _ s;apply Calls.spliced_cons (aR (ha pins s σ H _ I h) λu s1 ⟨x,H1,I1,r1,q1⟩=>?_);exact aR (hr pos pins s1 σ H1 _ I1 q1) λus s2 ⟨xs,H2,I2,r2,q2⟩=>#[x::xs,H2,I2,.cons r1 r2,q2]
def Eu(t:TA):TE:=λσ H Q=>t σ H λxs H1=>xs.length<=sizeLine/\∀p,H1 p=none->Q (.ref p) (upd H1 p (.tup xs))
def LS(t:TA):TE:=λσ H Q=>t σ H λxs H1=>xs.length<=sizeLine/\∀p,H1 p=none->Q (.ref p) (upd H1 p (.lst xs))
theorem fB{x1}(h:PA X es t):PE X (.Tuple es x1 pos) (Eu t):=by
 intro pins s σ H Q I hq;apply wpAny_Tuple_spliced (aR (h pos pins s σ H _ I hq) λus s1 ⟨xs,H1,I1,r,z,q⟩=>#[by rw[<- r.length];exact z,?_]);have hf:H1 s1.heap.objs.size=none:=I1.aE.fresh (bo _);apply#[.ref s1.heap.objs.size,upd H1 s1.heap.objs.size (.tup xs),I1.laid (t':=s1.toks) (λb u e=>cj _ e) (bo _) ?_,Z,q _ hf];exact#[z,us,r,#[_,eE _ Z,Z,_,Z],_,eE _ Z,Z]
theorem eB(h:PA X es t):PE X (.List es pos) (LS t):=by
 intro pins s σ H Q I hq;apply wpAny_List_spliced (aR (h pos pins s σ H _ I hq) λus s1 ⟨xs,H1,I1,r,z,q⟩=>#[by rw[<- r.length];exact z,?_]);have hf:H1 s1.heap.objs.size=none:=I1.aE.fresh (bo _);apply#[.ref s1.heap.objs.size,upd H1 s1.heap.objs.size (.lst xs),I1.laid (t':=s1.toks) (λb u e=>cj _ e) (bo _) ?_,Z,q _ hf];exact#[z,us,0,r,eE _ Z]
end
abbrev Sp:=ag->Hp->VK->XK->Prop
abbrev jN:=List Env->Hp->Ab->XK->Aa->Ab->Prop
structure iN (P:Ad) (w:Af) (K:af) (mg:Str->Option Aa) (base:Heap) (A:Ag) (outer:List Env) (s:Ab) (H:Hp):Prop where
 frames:A.frames\outer
 mod:Mod K mg base
 bs:∀b o,base.get? b\o->s.heap.get? b\o/\H b=none
 uT:base.objs.size<=s.heap.objs.size
 fX:s.heap.FunFrames base outer
 xG:∀b∈hY outer,H b=none
 aE:eL P w H s.heap
 bare:AllBare s.gens
def CE(outer:List Env)(P:Ad)(w:Af)(H:Hp)(s:Ab)(Q:VK)(u:Aa)(s':Ab):Prop:=
 ∃v H',s'.os=s.os/\AllBare s'.gens/\Un (hY outer) [] H H' s.heap s'.heap/\eL P w H' s'.heap/\RelV v u/\Q v H'
def CR(CX:jN)(outer:List Env)(P:Ad)(w:Af)(H:Hp)(s:Ab)(Q:VK)(E:XK)(r:Result)(s':Ab):Prop:=
 match r with
 |.ok (.ret u)=>CE outer P w H s Q u s'
 |.ok _=>False
 |.error e=>CX outer H s E e s'
structure aq (P:Ad) (w:Af) (K:af) (mg:Str->Option Aa) (base:Heap) (CX:jN) (k:Nat) (f:Addr) (fd:Ae) (ps:ae) (sp:Sp):Prop where
 len:∀vs H Q E,sp vs H Q E->vs.length=ps.length
 run:∀(A:Ag) (outer:List Env) (s:Ab) (H:Hp) (args:Args) (us:ak) (vs:ag) (Q:VK) (E:XK),bf k A->iN P w K mg base A outer s H->BindsTo s fd args (ps.zip us)->Vals vs us->sp vs H Q E->
  codeAny (model P w) A (.call (.ref f) args) (CR CX outer P w H s Q E) s
theorem aq.mono{P:Ad}{w:Af}{K:af}{mg:Str->Option Aa}{base:Heap}{CX:jN}{j k:Nat}{f:Addr}{fd:Ae}{ps:ae}{sp:Sp}(F:aq P w K mg base CX j f fd ps sp)(h:j<=k) :
  aq P w K mg base CX k f fd ps sp:=#[F.len,λA outer s H args us vs Q E hr=>F.run A outer s H args us vs Q E (hr.mono h)]
theorem iN.make{P:Ad}{w:Af}{K:af}{mg:Str->Option Aa}{base:Heap}{A:Ag}{outer:List Env}{s:Ab}{H:Hp}(e:iN P w K mg base A outer s H)(C:Addr)(us:ak)(kw:List (Str × Aa)) :
  iN P w K mg base (A.under (.builtin "type.__call__" #[.ref C::us,kw])) outer s H:=#[by first|exact e.frames|(simpa [Around.under,Code.envs,Code.isFrame,pushEnvs] using e.frames),e.mod,e.bs,e.uT,e.fX,e.xG,e.aE,e.bare]
section
variable{X:Cx}{pins:List (Addr × Obj)}{σ:St}{H:Hp}{s s':Ab}
theorem Inv.BV(I:Inv X pins σ H s):iN X.prog X.w X.K X.mg X.base X.A X.stack s H:=
 #[I.ok.frames,I.ok.mod,I.bs,nQ I.ok.uT I.sz,I.stack,I.i5,I.aE,I.bare]
theorem Inv.after{Q:VK}{u:Aa}(I:Inv X pins σ H s)(h:CE X.stack X.prog X.w H s Q u s'):EP X pins σ Q u s':=by
 let#[v,H',os,bare,un,aE,r,q]:=h;let#[hh,g,d,t,_B]:=s';obtain rfl:_B=s.os:=os;exact#[v,H',I.call (h':=hh) (g':=g) (d':=d) (t':=t) (ch:=[]) un aE bare (λb z=>absurd z Z2),r,q]
end
def yJ(sp:Sp)(gS:ag)(E:XK)(t:TA):TE:=λσ H Q=>t σ H λvs H1=>sp (vs++gS) H1 Q E
inductive rE (C:Addr) (m:Str) (sp:Sp) (gS:ag) (E:XK) (t:TA) (σ:St) (Q:VK) (x:V) (H1:Hp):Prop
 |mk:∀a dx fs,x=.ref a->H1 a\.ins C dx fs->fs.lookup m=none->(t σ H1 λvs H2=>sp (x::(vs++gS)) H2 Q E)->rE C m sp gS E t σ Q x H1
def ow(C:Addr)(m:Str)(sp:Sp)(gS:ag)(E:XK)(ta:TE)(t:TA):TE:=λσ H Q=>ta σ H λx H1=>rE C m sp gS E t σ Q x H1
def yD(C:Addr)(sp:Sp)(gS:ag)(E:XK)(t:TA):TE:=λσ H Q=>t σ H λvs H1=>∀x dx,H1 x=none->H1 dx=none->dx≠x->
 sp (.ref x::(vs++gS)) (upd (upd H1 dx (.own x)) x (.ins C dx [])) (λv H2=>v=.non/\Q (.ref x) H2) E
def qI(K:af)(fd:Ae)(ps:ae)(ds:ak):Prop:=
 ∀(s:Ab) (us:ak),K.In s.heap->(us++ds).length=ps.length->BindsTo s fd #[us,[]] (ps.zip (us++ds))
theorem qI.all{K:af}{fd:Ae}{ps:ae}(h:∀us:ak,us.length=ps.length->bindArgs fd #[us,[]]=pure (ps.zip us)):qI K fd ps []:=λs us _ hl=>by
 rw[Al] at hl ⊢;exact .of_eq (h us hl)
def xU(CX:jN)(X:Cx)(E:XK):Prop:=∀(pins:List (Addr × Obj)) (σ:St) (H:Hp) (s:Ab) (e:Aa) (s':Ab),Inv X pins σ H s->CX X.stack H s E e s'->X.xe e s'
section
variable{X:Cx}{CX:jN}{k:Nat}{f C:Addr}{fd:Ae}{ps:ae}{sp:Sp}{gS:ag}{ds:ak}{E:XK}{x m:Str}{p pos apos:Pos}{e o:Expr}{es:List Expr}{ta:TE}{t:TA}
theorem OG{pins:List (Addr × Obj)}{σ:St}{H:Hp}{s:Ab}{Q:VK}{us:ak}{vs:ag}(F:aq X.prog X.w X.K X.mg X.base CX k f fd ps sp)(hr:bf k X.A)(hb:qI X.K fd ps ds)(hd:Vals gS ds)(hx:xU CX X E)
  (I:Inv X pins σ H s) (r:Vals vs us) (h:sp (vs++gS) H Q E):wpAny (model X.prog X.w) X.A (call (.ref f) us) (EP X pins σ Q) X.xe s:=by
 have r2:Vals (vs++gS) (us++ds):=r.append hd;have hl:(us++ds).length=ps.length:=by rw[<- r2.length];exact F.len _ _ _ _ h
 apply wpAny_call (codeAny_mono (F.run X.A X.stack s H #[us,[]] (us++ds) (vs++gS) Q E hr I.BV (hb s us I.gr hl) r2 h) λr s' hq=>?_);cases r with
 |error e=>exact hx pins σ H s e s' I hq
 |ok fl=>
  cases fl with
  |ret u=>exact I.after hq
  |next=>exact False.elim hq
  |brk=>exact False.elim hq
  |cont=>exact False.elim hq
theorem kB_(F:aq X.prog X.w X.K X.mg X.base CX k f fd ps sp)(hr:bf k X.A)(hg:Gl X x)(hm:X.mg x\.ref f)(hk:PySem.W.keepIn X.K (.ref f)=true)(hb:qI X.K fd ps ds)(hd:Vals gS ds)(hx:xU CX X E)
  (ha:PA X (e::es) t) (mT:(x == ("__debug__":Str))=false:=by decide) (he:starEach (e::es) X.env=(false,eval e X.env)::starEach es X.env:=by rfl) (jz:(backTo pos (starEach es X.env)).any (·.1)=false:=by rfl) :
  PE X (.Call (.Name x p) (e::es) [] pos) (yJ sp gS E t):=by
 intro pins s σ H Q I h;apply wpAny_Call_Name_kw (O_ I hg hm ?_ mT);apply PySem.W.callWith_K (h₀:=X.base) I.ok.mod.FE hk (aR (ha pos pins s σ H _ I h) λus s1 ⟨vs,H1,I1,r,q⟩=>#[I1.gr,?_]) he jz;exact OG F hr hb hd hx I1 r q
theorem ky_{pl:Sem Bool}(he:PE X o ta)(c:oi X.K C)(hm:Meth X.K C m f)(F:aq X.prog X.w X.K X.mg X.base CX k f fd ps sp)(hr:bf k X.A)(hb:qI X.K fd ps ds)(hd:Vals gS ds)(hx:xU CX X E)(ha:PA X (e::es) t)
  (Bl:starEach (e::es) X.env=(false,eval e X.env)::starEach es X.env:=by rfl) (jz:(backTo pos (starEach es X.env)).any (·.1)=false:=by rfl)
  (ht:eval (.Call (.Attribute o m apos) (e::es) [] pos) X.env=(do
   let ov <- eval o X.env
   standAt apos.atName
   let (f,first) <- holding [ov] (getMethod ov m pl)
   callWith pos f first (backTo pos (starEach (e::es) X.env)) (backToKw pos (keywordEach [] X.env))):=by rfl) :
  PE X (.Call (.Attribute o m apos) (e::es) [] pos) (ow C m sp gS E ta t):=by
 intro pins s σ H Q I h;apply PySem.W.methodCall_KW (pl:=pl) (aR (he pins s σ H _ I h) λu s1 ⟨x,H1,I1,rx,a,dx,fs,ex,ea,l,q⟩=>?_) ht;subst ex;obtain rfl:u=Value.ref a:=rx;apply Xd I1 ea c hm l ?_;apply PySem.W.callWith_K (first:=[.ref a]) (h₀:=X.base) I.ok.mod.FE hm.kp (aR (ha pos pins s1 σ H1 _ I1 q) λus s2 ⟨vs,H2,I2,r,q2⟩=>#[I2.gr,?_]) Bl jz;exact OG (us:=.ref a::us) (vs:=.ref a::vs) F hr hb hd hx I2 (.cons Z r) q2
theorem ij_{pl:Sem Bool}(he:PE X o ta)(c:oi X.K C)(hm:Meth X.K C m f)(F:aq X.prog X.w X.K X.mg X.base CX k f fd ps sp)(hr:bf k X.A)(hb:qI X.K fd ps ds)(hd:Vals gS ds)(hx:xU CX X E)
  (ht:eval (.Call (.Attribute o m apos) [] [] pos) X.env=(do
   let ov <- eval o X.env
   standAt apos.atName
   let (f,first) <- holding [ov] (getMethod ov m pl)
   callWith pos f first (backTo pos (starEach [] X.env)) (backToKw pos (keywordEach [] X.env))):=by rfl) :
  PE X (.Call (.Attribute o m apos) [] [] pos) (ow C m sp gS E ta lF):=by
 intro pins s σ H Q I h;apply PySem.W.methodCall_KW (pl:=pl) (aR (he pins s σ H _ I h) λu s1 ⟨x,H1,I1,rx,a,dx,fs,ex,ea,l,q⟩=>?_) ht;subst ex;obtain rfl:u=Value.ref a:=rx;apply Xd I1 ea c hm l ?_;exact PySem.W.callWith_K0 (first:=[.ref a]) I1.gr hm.kp (OG (us:=[.ref a]) (vs:=[.ref a]) F hr hb hd hx I1 (.cons Z .nil) q)
structure Mk (K:af) (C f:Addr):Prop where
 makes:PySem.W.makesIn K C=true
 init:PySem.W.findIn K (.ref C) "__init__"\some (.ref f)
 fn:PySem.W.isFn K (.ref f)=true
 kp:PySem.W.keepIn K (.ref C)=true
theorem je_{pins:List (Addr × Obj)}{σ:St}{H:Hp}{s:Ab}{Q:VK}{us:ak}{vs:ag}(M:Mk X.K C f)(F:aq X.prog X.w X.K X.mg X.base CX k f fd ps sp)(hr:bf (k+1) X.A)(hb:qI X.K fd ps ds)(hd:Vals gS ds)
  (hx:xU CX X E) (I:Inv X pins σ H s) (r:Vals vs us)
  (h:∀x dx,H x=none->H dx=none->dx≠x->sp (.ref x::(vs++gS)) (upd (upd H dx (.own x)) x (.ins C dx [])) (λv H2=>v=.non/\Q (.ref x) H2) E) :
  wpAny (model X.prog X.w) X.A (call (.ref C) us) (EP X pins σ Q) X.xe s:=by
 let hq:=h (s.heap.objs.size+1) s.heap.objs.size (I.aE.fresh (Nat.le_succ _)) (I.aE.fresh (bo _)) (eJ (Nat.lt_succ_self _));let I2:=Inv.made (C:=C) I;have r2:Vals (V.ref (s.heap.objs.size+1)::(vs++gS)) (Value.ref (s.heap.objs.size+1)::(us++ds)):=.cons Z (r.append hd)
 have hl:(Value.ref (s.heap.objs.size+1)::us++ds).length=ps.length:=by
  let e:=r2.length;rw[F.len _ _ _ _ hq] at e;exact e.symm
 apply wpAny_call (j5_ (f:=f) I.gr M.makes M.init (beq_iff_eq.mp M.fn) (codeAny_mono (F.run _ X.stack _ _ #[Value.ref (s.heap.objs.size+1)::us,[]] (Value.ref (s.heap.objs.size+1)::(us++ds)) _ _ E (hr.make C us [])
  (I2.BV.make C us []) (hb _ (Value.ref (s.heap.objs.size+1)::us) I2.gr hl) r2 hq) λr s' hq'=>?_))
 cases r with
 |error e=>exact hx pins σ _ _ e s' I2 hq'
 |ok fl=>
  cases fl with
  |ret u=>
   let#[v,H',I3,rv,ev,q3]:=I2.after hq';subst ev;exact#[rv,#[V.ref (s.heap.objs.size+1),H',I3,Z,q3]]
  |next=>exact False.elim hq'
  |brk=>exact False.elim hq'
  |cont=>exact False.elim hq'
theorem kX_(M:Mk X.K C f)(F:aq X.prog X.w X.K X.mg X.base CX k f fd ps sp)(hr:bf (k+1) X.A)(hg:Gl X x)(hm:X.mg x\.ref C)(hb:qI X.K fd ps ds)(hd:Vals gS ds)(hx:xU CX X E)
  (ha:PA X (e::es) t) (mT:(x == ("__debug__":Str))=false:=by decide) (he:starEach (e::es) X.env=(false,eval e X.env)::starEach es X.env:=by rfl) (jz:(backTo pos (starEach es X.env)).any (·.1)=false:=by rfl) :
  PE X (.Call (.Name x p) (e::es) [] pos) (yD C sp gS E t):=by
 intro pins s σ H Q I h;apply wpAny_Call_Name_kw (O_ I hg hm ?_ mT);apply PySem.W.callWith_K (h₀:=X.base) I.ok.mod.FE M.kp (aR (ha pos pins s σ H _ I h) λus s1 ⟨vs,H1,I1,r,q⟩=>#[I1.gr,?_]) he jz;exact je_ M F hr hb hd hx I1 r q
end
def PK(X:Cx)(C8:List Keyword)(t:TA):Prop:=
 ∀(pos:Pos) (pins:List (Addr × Obj)) (s:Ab) (σ:St) (H:Hp) (Q:ag->Hp->Prop),Inv X pins σ H s->t σ H Q->wpAny (model X.prog X.w) X.A (evalAll ((backToKw pos (keywordEach C8 X.env)).map (·.2))) (AP X pins σ Q) X.xe s
section
variable{X:Cx}{CX:jN}{k:Nat}{f C:Addr}{fd:Ae}{ps ks:ae}{sp:Sp}{E:XK}{x m:Str}{p pos apos MZ:Pos}{e o:Expr}{es:List Expr}{C8:List Keyword}{te ta:TE}{t tk:TA}{nm:Option Str}
theorem TM:PK X [] lF:=λ_ _ _ _ H Q I h=>wpAny_evalAll_nil #[[],H,I,.nil,h]
theorem U5(ha:PE X e te)(hr:PK X C8 t):PK X (#[nm,e,MZ]::C8) (jQ te t):=by
 intro pos pins s σ H Q I h;show wpAny _ _ (evalAll ((do let v <- eval e X.env;standAt pos;pure v)::(backToKw pos (keywordEach C8 X.env)).map (·.2))) _ _ s;apply wpAny_evalAll_cons (ao (aR (ha pins s σ H _ I h) λu s1 ⟨x,H1,I1,r1,q1⟩=>ao (wpAny_standAt (aK ?_))));exact aR (hr pos pins s1 σ H1 _ I1 q1) λus s2 ⟨xs,H2,I2,r2,q2⟩=>#[x::xs,H2,I2,.cons r1 r2,q2]
structure RQ (K:af) (fd:Ae) (ps ks:ae) (g:ak->ak->ak) (gV:ag->ag->ag):Prop where
 to:∀(s:Ab) (us ws:ak),K.In s.heap->(g us ws).length=ps.length->BindsTo s fd #[us,ks.zip ws] (ps.zip (g us ws))
 rel:∀{vs:ag} {us:ak} {zs:ag} {ws:ak},Vals vs us->Vals zs ws->Vals (gV vs zs) (g us ws)
variable{g:ak->ak->ak}{gV:ag->ag->ag}
end
structure bx (N P:ae) (sc:Scope):Prop where
 kind:sc.kind=.function
 co:sc.isCoroutine=false
 gen:sc.isGenerator=false
 nd:N.Nodup
 pre:N.take P.length=P
 par:∀x∈P,sc.names.lookup x\.local∨sc.names.lookup x\.cell
 A9:∀y∈sc.names,y.2≠.free
theorem Xj{kindOf:Str->Option NameKind}{x:Str}:∀{binds:List (Str × Aa)} {m:Str->Option Aa},(∀v,(x,v)∉binds)->bindL kindOf binds m x=m x
 |[],_,_=>rfl
 |(n,v)::r,m,h=>by
  unfold bindL;rw[Xj λw hw=>h w (eR _ hw)];split
  ·have:x≠n:=by rintro rfl;exact h v fM
   simp[this]
  rfl
theorem Wa{kindOf:Str->Option NameKind}{x:Str}:∀{binds:List (Str × Aa)} {m:Str->Option Aa},(∀v,(x,v)∉binds)->bindC kindOf binds m x=m x
 |[],_,_=>rfl
 |(n,v)::r,m,h=>by
  unfold bindC;rw[Wa λw hw=>h w (eR _ hw)];split
  ·rfl
  have:x≠n:=by rintro rfl;exact h v fM
  simp[this]
theorem Wq{kindOf:Str->Option NameKind}{x:Str}{v:Aa}:∀{P:ae} {vs:ak} {i:Nat} {m:Str->Option Aa},P.Nodup->P[i]? = some x->vs[i]? = some v->kindOf x\.local->
  bindL kindOf (P.zip vs) m x\v
 |[],_,_,_,_,h,_,_=>by simp at h
 |_::_,[],_,_,_,_,h,_=>by simp at h
 |p::P,w::vs,0,m,nd,h1,h2,hk=>by
  simp at h1 h2;subst h1;subst h2;show bindL kindOf ((p,w)::P.zip vs) m p=_;unfold bindL;rw[Xj λv hv=>(lA.mp nd).1 (List.of_mem_zip hv).1,aJ hk];simp
 |p::P,w::vs,i+1,m,nd,h1,h2,hk=>by
  show bindL kindOf ((p,w)::P.zip vs) m x=_;unfold bindL;exact Wq (i:=i) (lA.mp nd).2 ⇑h1 ⇑h2 hk
theorem Wx{kindOf:Str->Option NameKind}{x:Str}{v:Aa}:∀{P:ae} {vs:ak} {i:Nat} {m:Str->Option Aa},P.Nodup->P[i]? = some x->vs[i]? = some v->kindOf x≠some .local->
  bindC kindOf (P.zip vs) m x\v
 |[],_,_,_,_,h,_,_=>by simp at h
 |_::_,[],_,_,_,_,h,_=>by simp at h
 |p::P,w::vs,0,m,nd,h1,h2,hk=>by
  simp at h1 h2;subst h1;subst h2;show bindC kindOf ((p,w)::P.zip vs) m p=_;unfold bindC;rw[Wa λv hv=>(lA.mp nd).1 (List.of_mem_zip hv).1,aB hk];simp
 |p::P,w::vs,i+1,m,nd,h1,h2,hk=>by
  show bindC kindOf ((p,w)::P.zip vs) m x=_;unfold bindC;exact Wx (i:=i) (lA.mp nd).2 ⇑h1 ⇑h2 hk
def start(N:ae)(vs:ag):St:=vs.map some++List.replicate (N.length - vs.length) none
def ka(CX:jN)(P:Ad)(w:Af)(K:af)(mg:Str->Option Aa)(base:Heap)(N:ae)(qual:Str)(scope:Scope)(f:Addr)(cd:Aa)(A:Ag)(outer:List Env)(s:Ab)(H:Hp)(E:XK):Cx where
 prog:=P
 w:=w
 K:=K
 mg:=mg
 base:=base
 A:=A.deeper (envOfC qual scope s.heap.objs.size f cd)
 N:=N
 cZ:=s
 jt:=H
 env:=envOfC qual scope s.heap.objs.size f cd
 outer:=outer
 stack:=envOfC qual scope s.heap.objs.size f cd::outer
 ex:=[]
 calm:=true
 fn:=λ_=>true
 pn:=[]
 xe:=λe s'=>wpAny (model P w) (A.deeper (envOfC qual scope s.heap.objs.size f cd)) (leaving (envOfC qual scope s.heap.objs.size f cd) e) (λ_ qy=>CX outer H s E e qy) (λe' qy=>CX outer H s E e' qy) s'
theorem VT{sc:Scope}{n:Nat}{x:Str}(h:sc.names.lookup x\.cell):∃c,(cellsFrom n sc.names []).lookup x\c:=by
 let q:=PySem.W.cellsFrom_some sc.names n [] (.inl h);exact CC.mp q
theorem gx_{CX:jN}{P:Ad}{w:Af}{K:af}{mg:Str->Option Aa}{base:Heap}{N ps:ae}{qual:Str}{scope:Scope}{f:Addr}{cd:Aa}{A:Ag}{outer:List Env}{s s1:Ab}{H:Hp}{E:XK}{us:ak}{vs:ag}
  (S:bx N ps scope) (hd:A.handled=none) (e0:iN P w K mg base A outer s H) (hl:vs.length=ps.length) (r:Vals vs us)
  (x:InCallC s s.heap.objs.size (bindL (envOfC qual scope s.heap.objs.size f cd).kindOf (ps.zip us) λ_=>none) (cellsFrom (s.heap.objs.size+1) scope.names []) (bindC (envOfC qual scope s.heap.objs.size f cd).kindOf (ps.zip us) λ_=>none) s1) :
  Inv (ka CX P w K mg base N qual scope f cd A outer s H E) [] (start N vs) H s1:=by
 have jz:ps.length<=N.length:=by have:=dF List.length S.pre;rw[dJ] at this;omega
 let#[h1,tk,rfl,hk]:=x.done;have xf:∀b:Addr,b∉(ka CX P w K mg base N qual scope f cd A outer s H E).ex:=λb z=>absurd (show b∈([]:ai) from z) Z2
 apply#[#[e0.mod,S.kind,Z,Z,bo _,λy z c h1 h2=>?_,λy hy=>?_,λy c _ h=>?_,λ_=>hd,Around.frames_deeper e0.frames,.inr #[Z,Z],λb z=>absurd z (xf b),e0.bs,e0.uT,λb _ _=>xf b,λb z=>absurd z (xf b),e0.fX,e0.xG],
  rfl,e0.bare,Un.kept hk,#[_,x.toInCall.ns,λi y v h1 h2 h3=>?_],λy c h=>#[_,x.cell y c h],e0.aE.fresh (bo _),λy c h=>?_,λp hp=>absurd (show p∈([]:List (Addr × Obj)) from hp) Z2,e0.aE.kept hk,?_]
 ·exact name_of_addr x.apart (qq h1) (qq h2)
 ·have hy:scope.names.lookup y\.cell∨scope.names.lookup y\.free:=hy;rcases hy with hy|hy
  ·exact VT hy
  exact absurd Z (S.A9 _ (qq hy))
 ·exact Nat.le_of_lt (x.above y c (qq h))
 ·have hi:i<vs.length:=by
   unfold start at h2;by_cases hi:i<vs.length
   ·exact hi
   rw[Ak ⇑hi] at h2;rw[List.getElem?_replicate] at h2;split at h2<;>cases h2
  have ha:vs[i]? = some v:=by
   unfold start at h2;rw[CD ⇑hi,dU] at h2;cases e:vs[i]? with
   |none=>rw[e] at h2;cases h2
   |some a=>rw[e] at h2;cases h2;rfl
  let#[u,hu,rv]:=r.get ha
  have hp:ps[i]? = some y:=by
   rw[<- S.pre,List.getElem?_take_of_lt Z1];exact h1
  have Jx:ps.Nodup:=by rw[<- S.pre];exact S.nd.sublist (List.take_sublist _ _)
  apply#[u,rv,?_];rcases S.par y (dA hp) with k|k
  ·exact .inl #[k,Wq Jx hp hu k]
  let#[c,e]:=VT (n:=s.heap.objs.size+1) k;apply .inr #[.inl k,c,e,?_];let q:=x.cell y c e;rw[Wx Jx hp hu (by show scope.names.lookup y≠_;rw[k];decide)] at q;exact q
 ·exact e0.aE.fresh (Nat.le_of_lt (x.above y c (qq h)))
 unfold start;show _=N.length;rw[fA,ay,Aj];omega
theorem Tu{CX:jN}{P:Ad}{w:Af}{K:af}{mg:Str->Option Aa}{base:Heap}{k:Nat}{f:Addr}{name qual:Str}{params:Arguments}{body:List Stmt}{scope:Scope}{dV kV doc pm aO ct oc:Aa}{an od:Option Addr}
  {i9:Array (Option Aa)} {N ps:ae} {sp:Sp} (lk:K.lookup f=some #[oc,od,.func (PySem.W.fnOf name qual params body scope dV kV doc pm an aO ct),i9]) (hW:PySem.W.codeIn K aO qual=true) (S:bx N ps scope)
  (len:∀vs H Q E,sp vs H Q E->vs.length=ps.length)
  (fU:∀(A:Ag) (outer:List Env) (s:Ab) (H:Hp) (vs:ag) (Q:VK) (E:XK),bf k (A.deeper (envOfC qual scope s.heap.objs.size f aO))->sp vs H Q E->
   ∃t,lB (ka CX P w K mg base N qual scope f aO A outer s H E) body t/\t { nx:=λ_ H'=>Q .non H',rt:=Q } (start N vs) H) :
  aq P w K mg base CX (k+1) f (PySem.W.fnOf name qual params body scope dV kV doc pm an aO ct) ps sp:=by
 apply#[len,λA outer s H args us vs Q E hr e0 hb r kW=>?_];let hl:=len _ _ _ _ kW;have KX:K.In s.heap:=e0.mod.FE.keeps λb o e=>(e0.bs b o e).1;have lim:s.heap.NoLimit:=e0.mod.nolimit.keeps λb o e=>(e0.bs b o e).1
 have Gq:∀y∈ps.zip us,scope.names.lookup y.1\.local∨(scope.names.lookup y.1\.cell/\((cellsFrom (s.heap.objs.size+1) scope.names []).lookup y.1).isSome=true):=λ⟨n,v⟩ hy=>by
  rcases S.par n (List.of_mem_zip hy).1 with q|q
  ·exact .inl q
  exact .inr #[q,PySem.W.cellsFrom_some _ _ _ (.inl q)]
 apply codeAny_call_function hr.depth (KX _ _ lk) Z S.co S.gen Z (PySem.W.codeRec_of KX hW) (hb _ _ _ _ ?_);apply wpAny_newFunctionEnv_cells S.kind Gq λenv he s1 x=>?_;subst he;apply#[lim.keeps x.toInCall.keep,codeAny_func ?_];let#[t,ht,hq]:=fU A outer s H vs Q E (hr.deeper _) kW;have I:Inv (ka CX P w K mg base N qual scope f aO A outer s H E) [] (start N vs) H s1:=gx_ S hr.hd e0 hl r x;apply wpAny_mono (ht [] s1 (start N vs) H _ I hq) (λfl s' hs=>?_) λe s' hs=>hs
 have fin:∀{bA:St} {H':Hp} {v:V} {u:Aa},Inv (ka CX P w K mg base N qual scope f aO A outer s H E) [] bA H' s'->RelV v u->Q v H'->CE outer P w H s Q u s':=
  λ{bA H' v u} J rv q=>#[v,H',J.os,J.bare,J.base,J.aE,rv,q]
 cases fl with
 |ret u=>
  let#[v,bA,H',J,rv,q]:=hs;exact fin J rv q
 |next=>
  let#[bA,H',J,q]:=hs;exact fin (v:=V.non) (u:=Value.none) J Z q
 |brk=>
  let#[_,_,_,q]:=hs;exact False.elim q
 |cont=>
  let#[_,_,_,q]:=hs;exact False.elim q
end L2
local macro_rules|`(!$f:ident $a*)=>if [`aY,`ik,`br,`aq,`iZ].contains f.getId then let i:=Lean.mkIdent;`($f $(i `P) $(i `w) $(i `K) $(i `mg) $(i `base) $a*)else Lean.Macro.throwUnsupported
namespace L2
open PySem PySem.Spec PyProof.Rows
section
variable{X:Cx}{x:Str}{p pos:Pos}{e:Expr}{es:List Expr}{t:TA}{id T:String}{r:ag->Hp->VK->Prop}
def Sw(r:ag->Hp->VK->Prop)(t:TA):TE:=λσ H Q=>t σ H λvs H1=>r vs H1 Q
theorem cy(hc:gB X (.builtin id) r)(hg:Gl X x)(hm:X.mg x=none)(hv:bootBuiltins x\.builtin id)(ha:PA X (e::es) t)(hn:x≠"__name__":=by decide)(mT:(x == ("__debug__":Str))=false:=by decide)
  (he:starEach (e::es) X.env=(false,eval e X.env)::starEach es X.env:=by rfl) (jz:(backTo pos (starEach es X.env)).any (·.1)=false:=by rfl):PE X (.Call (.Name x p) (e::es) [] pos) (Sw r t):=by
 intro pins s σ H Q I h;apply wpAny_Call_Name_kw (DK I hg hm hv ?_ hn mT);exact PyProof.Rows.callWith_builtin1 (aR (ha pos pins s σ H _ I h) λus s1 ⟨vs,H1,I1,r1,q1⟩=>hc pins s1 σ H1 vs us Q I1 r1 q1) he jz
theorem iK(hc:gB X (.type T) r)(hg:Gl X x)(hm:X.mg x=none)(hv:bootBuiltins x\.type T)(ha:PA X (e::es) t)(hn:x≠"__name__":=by decide)(mT:(x == ("__debug__":Str))=false:=by decide)
  (he:starEach (e::es) X.env=(false,eval e X.env)::starEach es X.env:=by rfl) (jz:(backTo pos (starEach es X.env)).any (·.1)=false:=by rfl):PE X (.Call (.Name x p) (e::es) [] pos) (Sw r t):=by
 intro pins s σ H Q I h;apply wpAny_Call_Name_kw (DK I hg hm hv ?_ hn mT);exact PyProof.Rows.callWith_type1 (aR (ha pos pins s σ H _ I h) λus s1 ⟨vs,H1,I1,r1,q1⟩=>hc pins s1 σ H1 vs us Q I1 r1 q1) he jz
end
end L2
namespace HT
open PySem PyProof.Rows
section
open PySem.SeqAt
open PySem.AutoSeq1 (wpAny_loadPart')
open PySem.MeetsSeq PySem.MeetsSeq2 PySem.MeetsSeq3
end
section
variable{prog:Ad}{w:Af}{A:Ag}{E:Aa->Ab->Prop}{s:Ab}
def bW(n d:Nat):Option Int->Nat
 |none=>d
 |some v=>if v<0 then (v+(n:Int)).toNat else min v.toNat n
theorem g8(n d:Nat):bW n d none=d:=rfl
theorem i8(n d k:Nat):bW n d (some (k:Int))=min k n:=by
 show (if (k:Int)<0 then ((k:Int)+(n:Int)).toNat else min (k:Int).toNat n)=min k n;rw[aB Z1,ve]
theorem ly_(n d:Nat)(hd:d<=n)(o:Option Int):bW n d o<=n:=by
 cases o with
 |none=>exact hd
 |some v=>
  show (if v<0 then (v+(n:Int)).toNat else min v.toNat n)<=n;by_cases hv:v<0
  ·rw[aJ hv];omega
  rw[aB hv];exact Nat.min_le_right _ _
theorem UD(v:Int)(n d:Nat):(if v<0 then max (v+(n:Int)) 0 else min v (n:Int))=((bW n d (some v):Nat):Int):=by
 show (if v<0 then max (v+(n:Int)) 0 else min v (n:Int))=(((if v<0 then (v+(n:Int)).toNat else min v.toNat n):Nat):Int);by_cases hv:v<0
 ·simp only[aJ hv];omega
 simp only[aB hv];omega
theorem fX_(lo hi:Option Int)(n:Nat):Builtin.Slice.sliceAdjust lo hi 1 (n:Int)=(((bW n 0 lo:Nat):Int),((bW n n hi:Nat):Int)):=by
 have h1:¬((1:Int)<0):=by omega
 unfold Builtin.Slice.sliceAdjust;simp only[h1,gz];apply Prod.ext ?_ ?_
 ·cases lo with
  |none=>rfl
  |some v=>exact UD v n 0
 cases hi with
 |none=>rfl
 |some v=>exact UD v n n
theorem gm_(i j:Nat):Builtin.Slice.slicePlaces (i:Int) (j:Int) 1=j - i:=by
 unfold Builtin.Slice.slicePlaces;have h1:(1:Int) > 0:=by omega
 simp only[h1,if_true,Int.ediv_one];split<;>omega
theorem W8{v:Aa}{o:Option Int}{Q:Option Int->Ab->Prop}(p:IsPart v o)(h:Q o s):wpAny (model prog w) A (Builtin.Slice.slicePartIndex v) Q E s:=by
 cases p with
 |none=>exact slicePart_none h
 |int i t=>exact slicePart_int h
theorem XO{sl:Addr}{vl vu:Aa}{lo hi:Option Int}{n:Nat}{Q:Int × Int × Nat->Ab->Prop}(hs:s.heap.IsSliceOf sl vl vu .none)(pl:IsPart vl lo)(pu:IsPart vu hi)
  (h:Q (((bW n 0 lo:Nat):Int),1,bW n n hi - bW n 0 lo) s):wpAny (model prog w) A (Builtin.Slice.sliceApplied (.ref sl) (pure (n:Int))) Q E s:=by
 let#[os,qB,xC,xA]:=id hs;unfold Builtin.Slice.sliceApplied Builtin.Slice.sliceFields;apply ao (ao (wpAny_field qB xA (x:=vl) Z (ao (wpAny_field qB xA (x:=vu) Z (ao (wpAny_field qB xA (x:=.none) Z (aK ?_)))))));apply ao (slicePart_none ?_);show wpAny _ _ (if ((1:Int) == 0)=true then _ else _) _ _ s;rw[aB (by decide)];apply ao (W8 pl (ao (W8 pu (ao (aK ?_)))));show wpAny _ _ (match Builtin.Slice.sliceAdjust lo hi 1 (n:Int) with|(lo,hi)=>pure (lo,(1:Int),Builtin.Slice.slicePlaces lo hi 1)) _ _ s;rw[fX_ lo hi n];show wpAny _ _ (pure (((bW n 0 lo:Nat):Int),(1:Int),Builtin.Slice.slicePlaces ((bW n 0 lo:Nat):Int) ((bW n n hi:Nat):Int) 1)) _ _ s;rw[gm_];exact aK h
theorem ii_(xs:Array Aa)(i k:Nat):((List.range k).filterMap λ(m:Nat)=>xs[((i:Int)+(m:Int) * 1).toNat]?).toArray=((xs.toList.drop i).take k).toArray:=by
 have e:(λ(m:Nat)=>xs[((i:Int)+(m:Int) * 1).toNat]?)=λm=>xs[i+m]?:=by
  funext m
  have:((i:Int)+(m:Int) * 1).toNat=i+m:=by omega
  rw[this]
 rw[e];have:=pick_run xs i k;rw[List.filterMap_map] at this;have e2:((λx=>xs[x]?) ∘ λx=>i+x)=λm=>xs[i+m]?:=rfl;rw[e2] at this;rw[this]
theorem fW{t sl:Addr}{items:Array Aa}{vl vu:Aa}{lo hi:Option Int}{Q:Aa->Ab->Prop}(ht:IsTup s.heap t items)(hs:s.heap.IsSliceOf sl vl vu .none)(pl:IsPart vl lo)(pu:IsPart vu hi)
  (hw:¬(bW items.size 0 lo=0/\bW items.size items.size hi=items.size))
  (h:Q (.ref s.heap.objs.size) { s with heap:=s.heap.push { cls:=.type "tuple",data:=.seq ((items.toList.drop (bW items.size 0 lo)).take (bW items.size items.size hi - bW items.size 0 lo)).toArray } })
  (hsz:items.size<=sizeLine):wpAny (model prog w) A (getItem (.ref t) (.ref sl)) Q E s:=by
 have fR:sizeOk (.seq ((items.toList.drop (bW items.size 0 lo)).take (bW items.size items.size hi - bW items.size 0 lo)).toArray):=by
  show ((items.toList.drop (bW items.size 0 lo)).take (bW items.size items.size hi - bW items.size 0 lo)).toArray.size<=sizeLine;rw[cq,dJ,Ac,qS];omega
 have hj:bW items.size items.size hi<=items.size:=ly_ _ _ (bo _) hi;let#[os,qB,xC,xA]:=id hs;have BG:s.TypeIs (.ref sl) "slice":=#[os,qB,xC];unfold getItem
 try with_reducible apply mZ ?_
 first|refine ao (aK ?_)|skip
 apply ao (wpAny_sequenceKey ht.typeIs (by decide) ?_)
 apply ao (wpAny_callSpecial?_slot (name:=Str.ofString "__getitem__") ht.typeIs DX
  (uJ DX ht.typeIs entry_tuple_getitem ?_ (args_tuple_getitem _ _)))
 show wpAny _ _ (Builtin.Tuple.tupleItemsOf (.ref t) >>= _) _ _ s;apply ao (tupleItemsOf_ ht ?_);apply ao (wpAny_typeOf BG ?_);rw[aJ (by decide)];apply ao (XO hs pl pu ?_)
 have kX:¬((((bW items.size 0 lo:Nat):Int) == 0&&(1:Int) == 1&&(bW items.size items.size hi - bW items.size 0 lo) == items.size)=true):=by
  intro q;rw[Bool.and_eq_true,Bool.and_eq_true] at q;have q1:((bW items.size 0 lo:Nat):Int)=0:=eq_of_beq q.1.1;have q2:bW items.size items.size hi - bW items.size 0 lo=items.size:=eq_of_beq q.2;exact hw #[by omega,by omega]
 show wpAny _ _ (if (((bW items.size 0 lo:Nat):Int) == 0&&(1:Int) == 1&&(bW items.size items.size hi - bW items.size 0 lo) == items.size)=true then _ else _) _ _ s;rw[aB kX,ii_]
 first
  |exact ao (m:=Builtin.Tuple.tupleExact _) (nA (aK ⟨_,rfl,aK h⟩) fR)
  |exact ao (m:=Builtin.Tuple.tupleExact _) (nA (ao (aK (aK ⟨_,rfl,aK h⟩))) fR)
  |exact ao (ao (m:=Builtin.Tuple.tupleExact _) (nA (aK (aK ⟨_,rfl,aK h⟩)) fR))
  |exact ao (ao (m:=Builtin.Tuple.tupleExact _) (nA (aK ⟨_,rfl,aK h⟩) fR))
end
end HT
namespace L2
open PySem PySem.Spec PyProof.Rows
abbrev TO:=St->Hp->(Option Int->Hp->Prop)->Prop
def PO(X:Cx)(e:Option Expr)(t:TO):Prop:=
 ∀(pins:List (Addr × Obj)) (s:Ab) (σ:St) (H:Hp) (Q:Option Int->Hp->Prop),Inv X pins σ H s->t σ H Q->
  wpAny (model X.prog X.w) X.A (evalPart e X.env) (λu s'=>∃o H',Inv X pins σ H' s'/\IsPart u o/\Q o H') X.xe s
def wF:TO:=λ_ H Q=>Q none H
inductive rB (Q:Option Int->Hp->Prop) (x:V) (H1:Hp):Prop
 |mk:∀i,x=.int i->Q (some i) H1->rB Q x H1
def Ex(t:TE):TO:=λσ H Q=>t σ H λx H1=>rB Q x H1
section
variable{X:Cx}{e:Expr}{te:TE}{lo hi:Option Expr}{tl th:TO}{pos p2:Pos}
theorem uU:PO X none wF:=by
 intro pins s σ H Q I h;rw[evalPart_none];exact aK #[none,H,I,.none,h]
theorem uV(h:PE X e te):PO X (some e) (Ex te):=by
 intro pins s σ H Q I hw;rw[evalPart_some];apply aR (h pins s σ H _ I hw) λu s1 ⟨x,H1,I1,r1,q1⟩=>?_;let#[i,rfl,q]:=q1;let#[t,rfl]:=r1;exact#[some i,H1,I1,.int i t,q]
def IL(X:Cx)(r:V->Option Int->Option Int->Hp->VK->Prop):Prop:=
 ∀(pins:List (Addr × Obj)) (s:Ab) (σ:St) (H:Hp) (x:V) (v vl vu:Aa) (lo hi:Option Int) (sl:Addr) (Q:VK),Inv X pins σ H s->RelV x v->s.heap.IsSliceOf sl vl vu .none->IsPart vl lo->IsPart vu hi->r x lo hi H Q->
  ∃T id,typeLookup (.type T) "__getitem__"=pure (some (.builtin id))/\s.TypeIs v T/\wpAny (model X.prog X.w) X.A (getItem v (.ref sl)) (EP X pins σ Q) X.xe s
def ZF(r:V->Option Int->Option Int->Hp->VK->Prop)(te:TE)(tl th:TO):TE:=λσ H Q=>te σ H λx H1=>tl σ H1 λl H2=>th σ H2 λu H3=>r x l u H3 Q
theorem uY{r:V->Option Int->Option Int->Hp->VK->Prop}(hr:IL X r)(he:PE X e te)(hl:PO X lo tl)(hu:PO X hi th):PE X (.Subscript e (.Slice lo hi none p2) pos) (ZF r te tl th):=by
 intro pins s σ H Q I h;apply Subscript_ (aR (he pins s σ H _ I h) λv s1 ⟨x,H1,I1,r1,q1⟩=>?_);apply wpAny_Slice (aR (hl pins s1 σ H1 _ I1 q1) λvl s2 ⟨l,H2,I2,pl,q2⟩=>aR (hu pins s2 σ H2 _ I2 q2) λvu s3 ⟨u,H3,I3,pu,q3⟩=>?_);rw[evalPart_none];apply aK ?_;have I4:Inv X pins σ H3 { s3 with heap:=s3.heap.push { cls:=.type "slice",data:=.fields (List.toArray [vl,vu,.none]) } }:=I3.kept (t':=s3.toks) λb ob q=>cj _ q;let#[T,id,hT,ht,hg]:=hr pins { s3 with heap:=s3.heap.push { cls:=.type "slice",data:=.fields (List.toArray [vl,vu,.none]) } } σ H3 x v vl vu l u s3.heap.objs.size Q I4 r1 (Heap.IsSliceOf.new ..) pl pu q3;show wpAny (model X.prog X.w) X.A (subscriptTail e (.Slice lo hi none p2) v (.ref s3.heap.objs.size)) (EP X pins σ Q) X.xe { s3 with heap:=s3.heap.push { cls:=.type "slice",data:=.fields (List.toArray [vl,vu,.none]) } };exact tail_any (ops:=[.ref s3.heap.objs.size,v]) ht hT hg (by with_unfolding_all rfl)
def dS(xs:ag)(lo hi:Option Int):ag:=(xs.drop (HT.bW xs.length 0 lo)).take (HT.bW xs.length xs.length hi - HT.bW xs.length 0 lo)
theorem Xl(xs:ag)(lo hi:Option Int):(dS xs lo hi).length<=xs.length:=by
 unfold dS;rw[dJ,Ac];omega
inductive E1 (K:af) (x:V) (lo:Option Int) (hi:Option Int) (H:Hp) (Q:VK):Prop
 |mk:∀a xs,x=.ref a->fN K H a xs->¬(HT.bW xs.length 0 lo=0/\HT.bW xs.length xs.length hi=xs.length)->(∀p,H p=none->Q (.ref p) (upd H p (.tup (dS xs lo hi))))->E1 K x lo hi H Q
theorem lK_:IL X (E1 X.K):=by
 intro pins s σ H x v vl vu lo hi sl Q I rx hs pl pu h;let#[a,xs,rfl,hx,hw,q]:=h;cases rx;let#[its,r,ht,hz]:=I.tuple hx;have hlen:its.toArray.size=xs.length:=by rw[cq];exact r.length.symm
 apply⟨"tuple",_,PyProof.Rows.slot_tuple_getitem.lookup,ht.typeIs,?_⟩;apply HT.fW ht hs pl pu (by rw[hlen];exact hw) ?_ (by rw[hlen];exact hz);rw[hlen];apply⟨.ref s.heap.objs.size,_,I.laid (t':=s.toks) (o:=.tup (dS xs lo hi)) (λb ob q=>cj _ q) (bo _) ?_,rfl,q _ (I.aE.fresh (bo _))⟩;exact⟨nQ (Xl xs lo hi) hz,_,(r.drop (HT.bW xs.length 0 lo)).take (HT.bW xs.length xs.length hi - HT.bW xs.length 0 lo),IsTup.new _ _,_,eE _ rfl,rfl⟩
end
end L2
namespace L2
open PySem PySem.Spec PyProof.Rows
def xm(n:Nat)(i:Int):Option Nat:=if 0<=i then (if i<n then some i.toNat else none) else if -(n:Int)<=i then some (i+n).toNat else none
def fu{α:Type}(xs:List α)(i:Int):Option α:=(xm xs.length i).bind λj=>xs[j]?
theorem Ui{n:Nat}{i:Int}{j:Nat}(h:xm n i\j):seqIndex? i n\j/\j<n/\-(n:Int)<=i/\i<n:=by
 unfold xm at h;by_cases h0:0<=i
 ·rw[aJ h0] at h;by_cases h1:i<n
  ·rw[aJ h1] at h;have e:i.toNat=j:=d7 h;exact#[by rw[seqIndex_of h0 h1,e],by omega,by omega,h1]
  rw[aB h1] at h;cases h
 rw[aB h0] at h;by_cases h1:-(n:Int)<=i
 ·rw[aJ h1] at h;have e:(i+n).toNat=j:=d7 h;exact#[by rw[seqIndex_neg Z1 h1,e],by omega,h1,by omega]
 rw[aB h1] at h;cases h
theorem Ph{α:Type}{xs:List α}{i:Int}{v:α}(h:fu xs i\v):∃j,seqIndex? i xs.length\j/\xs[j]? = some v/\j<xs.length/\-(xs.length:Int)<=i/\i<xs.length:=by
 unfold fu at h;cases e:xm xs.length i with
 |none=>rw[e] at h;cases h
 |some j=>
  rw[e] at h;let#[h1,h2,h3,h4]:=Ui e;exact#[j,h1,h,h2,h3,h4]
theorem gC{α:Type}{xs:List α}{j:Nat}{v:α}(h:xs[j]? = some v):fu xs (j:Int)\v:=by
 have hj:j<xs.length:=(cw.mp h).1
 have e:xm xs.length (j:Int)\j:=by
  unfold xm;rw[aJ Z1,aJ Z1];simp
 unfold fu;rw[e];exact h
def yo(b:Expr):Prop:=∀o i,subscripted b false o i=operate [o,i] (getItem o i)
def Ec(X:Cx)(r:R2):Prop:=
 ∀(value slice:Expr) (pins:List (Addr × Obj)) (s:Ab) (σ:St) (H:Hp) (x y:V) (v u:Aa) (Q:VK),Inv X pins σ H s->RelV x v->RelV y u->r x y H Q->
  subscripted slice false v u=operate [v,u] (getItem v u)->wpAny (model X.prog X.w) X.A (subscriptTail value slice v u) (EP X pins σ Q) X.xe s
def MtR(X:Cx)(id:String)(r:V->ag->Hp->VK->Prop):Prop:=
 ∀(pins:List (Addr × Obj)) (s:Ab) (σ:St) (H:Hp) (x:V) (xs:ag) (v:Aa) (us:ak) (Q:VK),Inv X pins σ H s->RelV x v->Vals xs us->r x xs H Q->
  wpAny (model X.prog X.w) X.A (call (.builtin id) (v::us)) (EP X pins σ Q) X.xe s
section
variable{X:Cx}{a b:Expr}{ta tb:TE}{pos:Pos}
theorem bM{r:R2}(hr:Ec X r)(ha:PE X a ta)(hb:PE X b tb)(hs:yo b:=by exact λ_ _=>rfl):PE X (.Subscript a b pos) (Ey r ta tb):=by
 intro pins s σ H Q I h;exact Subscript_ (Co ha hb I h λv u s2 x y H2 I2 rx ry q=>hr a b pins s2 σ H2 x y v u Q I2 rx ry q (hs _ _))
inductive mJ (K:af) (x:V) (y:V) (H:Hp) (Q:VK):Prop
 |mk:∀p xs i v,x=.ref p->y=.int i->dW K H p xs->fu xs i\v->Q v H->mJ K x y H Q
inductive mI (K:af) (x:V) (y:V) (H:Hp) (Q:VK):Prop
 |mk:∀p xs i v,x=.ref p->y=.int i->fN K H p xs->fu xs i\v->Q v H->mI K x y H Q
inductive E7 (x:V) (y:V) (H:Hp) (Q:VK):Prop
 |mk:∀z i c,x=.str z->y=.int i->z.length<=sizeLine->fu z.cps.toList i\c->Q (.str ⟨(List.toArray [c])⟩) H->E7 x y H Q
theorem gL:Ec X (mJ X.K):=by
 intro value slice pins s σ H x y v u Q I rx ry h hs;let#[p,xs,i,z,rfl,rfl,hq,he,q]:=h;cases rx;let#[t,rfl]:=ry;let#[its,r,pl,hz]:=I.list hq;let#[j,h1,h2,h3,h4,h5]:=Ph he;let#[w,ew,mF]:=r.get h2;let hl:=r.length;let hn:=gn;have fin:EP X pins σ Q w s:=⟨z,H,I,mF,q⟩;by_cases h0:0<=i
 ·have hj:i.toNat=j:=by
   rw[seqIndex_of h0 h5] at h1;exact d7 h1
  exact item_listR pl.isList h0 Z1 (by rw[hj];simpa using ew) fin hs
 have hj:(i+(its.toArray.size:Int)).toNat=j:=by
  rw[seqIndex_neg Z1 h4] at h1;rw[cq,<- hl];exact d7 h1
 exact subscriptTail_builtinR (x:=w) pl.isList.typeIs slot_list_getitem.lookup
  (wpAny_getItem_list_neg (Q:=λr s'=>r=w/\EP X pins σ Q r s') pl.isList Z1 (by rw[cq]<;>omega) Z1 (by rw[hj];simpa using ew) ⟨rfl,fin⟩) hs
theorem dz:Ec X (mI X.K):=by
 intro value slice pins s σ H x y v u Q I rx ry h hs;let#[p,xs,i,z,rfl,rfl,hq,he,q]:=h;cases rx;let#[t,rfl]:=ry;let#[its,r,pl,hz]:=I.tuple hq;let#[j,h1,h2,h3,h4,h5]:=Ph he;let#[w,ew,mF]:=r.get h2;let hl:=r.length;let hn:=gn;have fin:EP X pins σ Q w s:=⟨z,H,I,mF,q⟩
 exact subscriptTail_builtinR (x:=w) pl.typeIs slot_tuple_getitem.lookup
  (getItem_tuple (j:=j) (Q:=λr s'=>r=w/\EP X pins σ Q r s') pl Z1 Z1 (by rw[cq,<- hl];exact h1) ⇑ew ⟨rfl,fin⟩) hs
theorem OP:Ec X E7:=by
 intro value slice pins s σ H x y v u Q I rx ry h hs;let#[z,i,c,rfl,rfl,hz,he,q]:=h;let#[t,rfl]:=rx;let#[t',rfl]:=ry;let#[j,h1,h2,h3,h4,h5]:=Ph he;have hl:z.cps.toList.length=z.length:=by simp[Str.length]
 rw[hl] at h1 h4 h5;let hn:=gn
 exact tail_any (typeIs_str s z t) slot_str_getitem.lookup (getItem_str (c:=c) (by
  have e1:decide (i < -(2 ^ 63:Int))=false:=dH Z1;have e2:decide (i ≥ 2 ^ 63)=false:=dH Z1;rw[e1,e2,Bool.or_false]) (by rw[h1];simpa using h2) ⟨.str ⟨(List.toArray [c])⟩,H,I.tok _,⟨_,rfl⟩,q⟩) hs
theorem fW_(its:ak)(n j:Nat)(u:Aa):Obj.mapSeq (·.setIfInBounds j u) { cls:=.type "list",data:=.seq its.toArray n }={ cls:=.type "list",data:=.seq (its.set j u).toArray n }:=by
 simp[Obj.mapSeq]
theorem Inv.lst{pins:List (Addr × Obj)}{σ:St}{H:Hp}{s:Ab}{p:Addr}{xs:ag}(I:Inv X pins σ H s)(h:H p\.lst xs) :
  ∃(its:ak) (n:Nat),Vals xs its/\s.heap.get? p=some { cls:=.type "list",data:=.seq its.toArray n }/\xs.length<=sizeLine:=by
 let#[z,its,n,r,e]:=I.aE p _ h;exact⟨its,n,r,e,z⟩
theorem Inv.Bc{pins:List (Addr × Obj)}{σ:St}{H:Hp}{s:Ab}{p:Addr}{xs ys:ag}{its its':ak}{n n':Nat}{f:Obj->Obj}(I:Inv X pins σ H s)(h:H p\.lst xs)
  (ho:s.heap.get? p=some { cls:=.type "list",data:=.seq its.toArray n }) (hf:f { cls:=.type "list",data:=.seq its.toArray n }={ cls:=.type "list",data:=.seq its'.toArray n' }) (r:Vals ys its') (hz:ys.length<=sizeLine) (t:Nat) :
  Inv X pins σ (upd H p (.lst ys)) { s with heap:=s.heap.update p f,toks:=t }:=by
 have e:(s.heap.update p f).get? p=some { cls:=.type "list",data:=.seq its'.toArray n' }:=by
  rw[Heap.get?_update_self f ho (by rw[hf]<;>rfl),hf]
 apply I.write (x:=p) (e:=p) (by rw[h];trivial) (.inl rfl) (λb u hb q=>(nB _ _ (Ne.symm hb)).trans q) ⟨_,e⟩ ?_;exact⟨hz,its',n',r,e⟩
inductive yT (o:V) (i:V) (v:V) (H:Hp) (Q:Hp->Prop):Prop
 |mk:∀p xs k j,o=.ref p->i=.int k->H p\.lst xs->xm xs.length k\j->Q (upd H p (.lst (xs.set j v)))->yT o i v H Q
theorem P5:IQ X yT:=by
 intro pins s σ H o i v ov iv u Q I ro ri rv h;let#[p,xs,k,j,rfl,rfl,hp,hj,q]:=h;cases ro;let#[t,rfl]:=ri;let#[its,n,r,ho,hz]:=I.lst hp;let#[h1,h2,h3,h4]:=Ui hj;let hl:=r.length;let hn:=gn
 have I':Inv X pins σ (upd H p (.lst (xs.set j v))) { s with heap:=s.heap.update p (Obj.mapSeq (·.setIfInBounds j u)) }:=
  I.Bc hp ho (fW_ its n j u) (r.set rv j) (by rw[List.length_set];exact hz) s.toks
 by_cases h0:0<=k
 ·have hk:k.toNat=j:=by
   rw[seqIndex_of h0 h4] at h1;exact d7 h1
  exact PySem.W.ki_setAt ho h0 Z1 (by rw[cq,<- hl];exact h4) (by rw[hk];exact⟨_,I',q⟩)
 have hk:(k+(its.toArray.size:Int)).toNat=j:=by
  rw[seqIndex_neg Z1 h3] at h1;rw[cq,<- hl];exact d7 h1
 exact PySem.W.ki_setBack ho Z1 (by rw[cq,<- hl];exact h3) Z1 (by rw[hk];exact⟨_,I',q⟩)
theorem eh_(lo hi:Option Int)(n:Nat):(sliceBounds lo hi none n).1=((HT.bW n 0 lo:Nat):Int)/\(sliceBounds lo hi none n).2.1=((HT.bW n n hi:Nat):Int)/\(sliceBounds lo hi none n).2.2=1:=by
 apply⟨?_,?_,rfl⟩
 ·cases lo with
  |none=>simp[sliceBounds,HT.bW]
  |some i=>
   simp only[sliceBounds,HT.bW,Option.getD_none,show (1:Int) > 0 by decide,if_true];by_cases h:i<0
   ·simp only[h,if_true]<;>omega
   simp only[h,gz]<;>omega
 cases hi with
 |none=>simp[sliceBounds,HT.bW]
 |some i=>
  simp only[sliceBounds,HT.bW,Option.getD_none,show (1:Int) > 0 by decide,if_true];by_cases h:i<0
  ·simp only[h,if_true]<;>omega
  simp only[h,gz]<;>omega
theorem dL_(its:ak)(lo hi:Option Int):slicePick its.toArray lo hi none=((its.drop (HT.bW its.length 0 lo)).take (HT.bW its.length its.length hi - HT.bW its.length 0 lo)).toArray:=by
 let#[h1,h2,h3]:=eh_ lo hi its.toArray.size;unfold slicePick;rw[h1,h2,h3];simp only[sliceRange_one,pick_run,cq]<;>rfl
inductive E3 (K:af) (x:V) (lo:Option Int) (hi:Option Int) (H:Hp) (Q:VK):Prop
 |mk:∀a xs,x=.ref a->dW K H a xs->(∀p,H p=none->Q (.ref p) (upd H p (.lst (dS xs lo hi))))->E3 K x lo hi H Q
theorem yf:IL X (E3 X.K):=by
 intro pins s σ H x v vl vu lo hi sl Q I rx hs pl pu h;let#[a,xs,rfl,hx,q]:=h;cases rx;let#[its,r,ht,hz]:=I.list hx;let hlen:=r.length;apply⟨"list",_,slot_list_getitem.lookup,ht.isList.typeIs,?_⟩;apply wpAny_getItem_list_slice ht.isList hs pl pu .none Z2 ?_ (by rw[cq]<;>omega)
 rw[dL_,<- hlen];apply⟨.ref s.heap.objs.size,_,I.laid (t':=s.toks) (o:=.lst (dS xs lo hi)) (λb ob q=>cj _ q) (bo _) ?_,rfl,q _ (I.aE.fresh (bo _))⟩;exact⟨nQ (Xl xs lo hi) hz,_,0,(r.drop (HT.bW xs.length 0 lo)).take (HT.bW xs.length xs.length hi - HT.bW xs.length 0 lo),eE _ rfl⟩
def uF:V->Bool
 |.non=>true
 |.bl _=>true
 |.int _=>true
 |.str _=>true
 |_=>false
def mX:V->V->Bool
 |.non,.non=>true
 |.bl a,.bl b=>a == b
 |.bl a,.int b=>(if a then 1 else 0) == b
 |.int a,.bl b=>a == (if b then 1 else 0)
 |.int a,.int b=>a == b
 |.str a,.str b=>a == b
 |_,_=>false
theorem Hc{A:Ag}{s:Ab}{y x:V}{u v:Aa}(ry:RelV y u)(rx:RelV x v)(fy:uF y=true)(fx:uF x=true):SeqAt.EqAt A s u v (mX y x):=by
 cases y with
 |non=>
  cases ry;cases x with
  |non=>cases rx;exact SeqAt.EqAt.same _
  |bl b=>cases rx;exact SeqAt.EqAt.none_bool b
  |int b=>let#[t,rfl]:=rx;exact SeqAt.EqAt.none_int b t
  |str b=>let#[t,rfl]:=rx;exact SeqAt.EqAt.none_str b t
  |_=>exact absurd (show false=true from fx) gW
 |bl a=>
  cases ry;cases x with
  |non=>cases rx;exact SeqAt.EqAt.bool_none a
  |bl b=>cases rx;exact SeqAt.EqAt.bool_bool a b
  |int b=>let#[t,rfl]:=rx;exact SeqAt.EqAt.bool_int a b t
  |str b=>let#[t,rfl]:=rx;exact SeqAt.EqAt.bool_str a b t
  |_=>exact absurd (show false=true from fx) gW
 |int a=>
  let#[t',rfl]:=ry;cases x with
  |non=>cases rx;exact SeqAt.EqAt.int_none a t'
  |bl b=>cases rx;exact SeqAt.EqAt.int_bool a t' b
  |int b=>let#[t,rfl]:=rx;exact SeqAt.EqAt.int_int a t' b t
  |str b=>let#[t,rfl]:=rx;exact SeqAt.EqAt.int_str a t' b t
  |_=>exact absurd (show false=true from fx) gW
 |str a=>
  let#[t',rfl]:=ry;cases x with
  |non=>cases rx;exact SeqAt.EqAt.str_none a t'
  |bl b=>cases rx;exact SeqAt.EqAt.str_bool a t' b
  |int b=>let#[t,rfl]:=rx;exact SeqAt.EqAt.str_int a t' b t
  |str b=>let#[t,rfl]:=rx;exact SeqAt.EqAt.str_str a t' b t
  |_=>exact absurd (show false=true from fx) gW
 |_=>exact absurd (show false=true from fy) gW
def xJ(x:V)(u:Aa):Bool:=match u with
 |.none=>mX .non x
 |.bool b=>mX (.bl b) x
 |.int i _=>mX (.int i) x
 |.str z _=>mX (.str z) x
 |_=>false
theorem T6{x y:V}{u:Aa}(r:RelV y u)(f:uF y=true):xJ x u=mX y x:=by
 cases y with
 |non=>cases r;rfl
 |bl b=>cases r;rfl
 |int i=>let#[t,rfl]:=r;rfl
 |str z=>let#[t,rfl]:=r;rfl
 |_=>exact absurd (show false=true from f) gW
theorem Pk{x:V}:∀{xs:ag} {us:ak},Vals xs us->xs.all uF=true->us.any (xJ x)=xs.any λy=>mX y x
 |_,_,.nil,_=>rfl
 |y::xs,u::us,.cons r t,f=>by
  rw[List.all_cons,Bool.and_eq_true] at f;rw[List.any_cons,List.any_cons,T6 r f.1,Pk t f.2]
theorem P3{A:Ag}{s:Ab}{x:V}{v:Aa}(rx:RelV x v)(fx:uF x=true):∀{xs:ag} {us:ak},Vals xs us->xs.all uF=true->∀u∈us,SeqAt.EqAt A s u v (xJ x u)
 |_,_,.nil,_=>λu hu=>by cases hu
 |y::xs,u::us,.cons r t,f=>λu' hu=>by
  rw[List.all_cons,Bool.and_eq_true] at f;rcases cU.mp hu with rfl|hu
  ·rw[T6 r f.1];exact Hc r rx f.1 fx
  exact P3 rx fx t f.2 u' hu
def FM(x:V)(xs:ag):Bool:=xs.any λy=>mX y x
inductive Jq (K:af) (neg:Bool) (x:V) (y:V) (H:Hp) (Q:VK):Prop
 |mk:∀p xs,y=.ref p->(dW K H p xs∨fN K H p xs)->uF x=true->xs.all uF=true->Q (.bl (if neg then !FM x xs else FM x xs)) H->Jq K neg x y H Q
theorem Ws:dN X (compareOp .In) (Jq X.K false):=by
 intro pins s σ H x y v u Q I rx ry h;let#[p,xs,rfl,hq,fx,fs,q]:=h;cases ry;rcases hq with hq|hq
 ·let#[its,r,pl,hz]:=I.list hq;apply SeqAt.in_listAt (xJ x) pl.isList (λw hw=>P3 rx fx r fs w ⇑hw) ⟨.bl _,H,I,rfl,?_⟩;rw[show its.toArray.any (xJ x)=its.any (xJ x) by simp,Pk r fs];exact q
 let#[its,r,pl,hz]:=I.tuple hq;apply SeqAt.in_tupleAt (xJ x) pl (λw hw=>P3 rx fx r fs w ⇑hw) ⟨.bl _,H,I,rfl,?_⟩;rw[show its.toArray.any (xJ x)=its.any (xJ x) by simp,Pk r fs];exact q
inductive Ry (K:af) (xs:ag) (H:Hp) (Q:VK):Prop
 |mk:∀p ys,xs=[.ref p]->(dW K H p ys∨fN K H p ys)->Q (.int ys.length) H->Ry K xs H Q
theorem iL:gB X (.builtin "len") (Ry X.K):=by
 intro pins s σ H xs us Q I r h;let#[p,ys,rfl,hq,q]:=h;let#[u,rfl,rx]:=vals1 r;cases rx;let hn:=gn;rcases hq with hq|hq
 ·let#[its,r',pl,hz]:=I.list hq;let hlen:=r'.length;exact Calls.call_len_list pl.isList (by simp only[cq]<;>omega) ⟨.int ys.length,H,I.tok _,⟨s.toks+1,by rw[cq,hlen]⟩,q⟩
 let#[its,r',pl,hz]:=I.tuple hq;let hlen:=r'.length;exact len_tuple pl (by simp only[cq]<;>omega) ⟨.int ys.length,H,I.tok _,⟨s.toks+1,by rw[cq,hlen]⟩,q⟩
inductive Xr (xs:ag) (H:Hp) (Q:VK):Prop
 |mk:∀z,xs=[.str z]->z.length<=sizeLine->Q (.int z.length) H->Xr xs H Q
theorem dZ_:gB X (.builtin "len") Xr:=by
 intro pins s σ H xs us Q I r h;let#[z,rfl,hz,q]:=h;let#[u,rfl,t,rfl]:=vals1 r;let hn:=gn;exact len_str Z1 ⟨.int z.length,H,I.tok _,⟨_,rfl⟩,q⟩
inductive Xs (K:af) (xs:ag) (H:Hp) (Q:VK):Prop
 |mk:∀p ys,xs=[.ref p]->(dW K H p ys∨fN K H p ys)->(∀l,H l=none->Q (.ref l) (upd H l (.lst ys)))->Xs K xs H Q
theorem ef_:gB X (.type "list") (Xs X.K):=by
 intro pins s σ H xs us Q I r h;let#[p,ys,rfl,hq,q]:=h;let#[u,rfl,rx]:=vals1 r;cases rx
 have fin:∀(its:ak),Vals ys its->ys.length<=sizeLine->∀(h':Heap) (c':Nat),(∀b o',s.heap.get? b\o'->h'.get? b\o')->
   h'.get? s.heap.objs.size=some { cls:=.type "list",dict:=none,data:=.seq its.toArray c',slots:=#[] }->EP X pins σ Q (.ref s.heap.objs.size) { s with heap:=h' }:=λits r' hz h' c' kp e=>
  #[.ref s.heap.objs.size,_,I.laid (t':=s.toks) kp (bo _) (show eI X.prog X.w _ h' _ (.lst ys) from #[hz,its,c',r',e]),Z,q _ (I.aE.fresh (bo _))]
 rcases hq with hq|hq
 ·let#[its,r',pl,hz]:=I.list hq;let hlen:=r'.length;let#[o,ho,hc,n,hd]:=pl.isList;exact call_list_seq p (.inl Z) ho hc hd (λh' c' kp e=>fin its r' hz h' c' kp e) (by simp only[cq]<;>omega)
 let#[its,r',pl,hz]:=I.tuple hq;let hlen:=r'.length;let#[o,ho,hc,n,hd]:=pl;exact call_list_seq p (.inr Z) ho hc hd (λh' c' kp e=>fin its r' hz h' c' kp e) (by simp only[cq]<;>omega)
inductive Rz (K:af) (xs:ag) (H:Hp) (Q:VK):Prop
 |mk:∀p ys,xs=[.ref p]->((dW K H p ys/\∀l,H l=none->Q (.ref l) (upd H l (.tup ys)))∨(fN K H p ys/\Q (.ref p) H))->Rz K xs H Q
theorem dI_:gB X (.type "tuple") (Rz X.K):=by
 intro pins s σ H xs us Q I r h;let#[p,ys,rfl,h]:=h;let#[u,rfl,rx]:=vals1 r;cases rx;rcases h with⟨hq,q⟩|⟨hq,q⟩
 ·let#[its,r',pl,hz]:=I.list hq;let hlen:=r'.length;apply call_tuple_list pl.isList (λh' kp=>?_) (by simp only[cq]<;>omega)
  have I1:Inv X pins σ H { s with heap:=h' }:=I.kept (t':=s.toks) kp
  have I2:Inv X pins σ (upd H h'.objs.size (.tup ys)) { s with heap:=h'.push { cls:=.type "tuple",data:=.seq its.toArray } }:=
   I1.laid (t':=s.toks) (λb o e=>cj _ e) (bo _) (show eI X.prog X.w _ _ _ (.tup ys) from ⟨hz,its,r',IsTup.new _ _,_,eE _ rfl,rfl⟩)
  exact⟨.ref h'.objs.size,_,I2,rfl,q _ (I1.aE.fresh (bo _))⟩
 let#[its,r',pl,hz]:=I.tuple hq;exact call_tuple_same pl ⟨.ref p,H,I,rfl,q⟩
def Sm(K:af)(T:String)(x:V)(H:Hp):Prop:=match x with
 |.str _=>T="str"
 |.int _=>T="int"
 |.ref p=>(T="list"/\∃xs,dW K H p xs)∨(T="tuple"/\∃o,K.lookup p\o/\o.cls=.type "tuple"/\o.dict=none) ∨
   (T="dict"/\((∃kvs,H p\.dK kvs)∨∃kvs,H p\.dT kvs))∨(T="set"/\∃S n,H p\.set S n)
 |_=>False
theorem lb_{pins:List (Addr × Obj)}{σ:St}{H:Hp}{s:Ab}{T:String}{x:V}{v:Aa}(I:Inv X pins σ H s)(r:RelV x v)(ty:Sm X.K T x H) :
  s.TypeIs v T/\∀a,v=.ref a->∃ob,s.heap.get? a\ob/\ob.dict=none:=by
 cases x with
 |str z=>
  let#[t,rfl]:=r;cases (show T="str" from ty);exact#[typeIs_str s z t,λ_ e=>nomatch e]
 |int i=>
  let#[t,rfl]:=r;cases (show T="int" from ty);exact#[typeIs_int s i t,λ_ e=>nomatch e]
 |ref p=>
  cases r;rcases ty with⟨rfl,xs,hq⟩|⟨rfl,o,hk,hc,hd⟩|⟨rfl,hk⟩|⟨rfl,S,n,hk⟩
  ·let#[its,_,pl,_]:=I.list hq;apply#[pl.isList.typeIs,λa e=>?_];cases e;let#[o,n,e,c,hd,_]:=pl;exact#[o,e,hd]
  ·apply#[#[o,I.gr p o hk,hc],λa e=>?_];cases e;exact#[o,I.gr _ o hk,hd]
  ·have z:∃o,s.heap.get? p\o/\o.ExactDict:=by
    rcases hk with⟨kvs,hk⟩|⟨kvs,hk⟩
    ·let#[_,_,_,_,o,_,_,e,ex,_]:=I.aE p _ hk;exact#[o,e,ex]
    let#[_,_,_,_,o,_,_,e,ex,_]:=I.aE p _ hk;exact#[o,e,ex]
   let#[o,e,ex]:=z;apply#[#[o,e,ex.1],λa e2=>?_];cases e2;exact#[o,e,ex.2.1]
  ·let#[o,_,_,_,e,ex,_]:=I.aE p _ hk;apply#[#[o,e,ex.1],λa e2=>?_];cases e2;exact#[o,e,ex.2.1]
 |_=>exact False.elim ty
def ZI(K:af)(T:String)(r:V->ag->Hp->VK->Prop)(to:TE)(t:TA):TE:=λσ H Q=>to σ H λx H1=>Sm K T x H1/\t σ H1 λxs H2=>r x xs H2 Q
variable{o e:Expr}{es:List Expr}{to:TE}{t:TA}{name:Str}{apos cQ:Pos}{T id:String}{r:V->ag->Hp->VK->Prop}
theorem km(pa:PlainAttrs T)(slot:Slot T name id)(hty:typeOf (.builtin id)=pure (.type "method_descriptor"))(hm:MtR X id r)(ho:PE X o to)(ha:PA X (e::es) t)
  (hX:attributeBase o name X.env (eval o X.env)=eval o X.env:=by rfl)
  (Oa:((backTo cQ (starEach (e::es) X.env)).all (λx=>!x.1)&&(backToKw cQ (keywordEach [] X.env)).all (λx=>x.1.isSome)
   && decide ((e::es).length+([]:List Keyword).length+(if ([]:List Keyword).isEmpty then 0 else 1)<30))=true:=by rfl)
  (j9:(apos.endLine == cQ.line)=true:=by rfl) (hs:starEach (e::es) X.env=(false,eval e X.env)::starEach es X.env:=by rfl) (Bo:(backTo cQ (starEach es X.env)).any (·.1)=false:=by rfl) :
  PE X (.Call (.Attribute o name apos) (e::es) [] cQ) (ZI X.K T r to t):=by
 intro pins s σ H Q I h;apply wpAny_Call_method_late hX Oa j9 Z (aR (ho pins s σ H _ I h) λv s1 ⟨x,H1,I1,r1,ty,q1⟩=>?_);let#[h1,h2]:=lb_ I1 r1 ty;apply#[T,id,pa,slot,hty,h1,h2,?_];let hA:=ha cQ pins s1 σ H1 _ I1 q1;rw[hs] at hA ⊢;apply Calls.callWith_builtin (by show (false || (backTo cQ (starEach es X.env)).any (·.1))=false;rw[Bo]<;>rfl) (Calls.evalArgs_plain ?_)
 exact aR hA λus s2 ⟨vs,H2,I2,r2,q2⟩=>hm pins s2 σ H2 x vs v us Q I2 r1 r2 q2
end
end L2
namespace L2
open PySem PySem.Spec PyProof.Rows
def X3(X:Cx)(id:String)(r:V->ag->Hp->VK->Prop):Prop:=
 ∀(pins:List (Addr × Obj)) (s:Ab) (σ:St) (H:Hp) (x:V) (xs:ag) (v:Aa) (us:ak) (Q:VK),Inv X pins σ H s->RelV x v->Vals xs us->r x xs H Q->
  wpAny (model X.prog X.w) X.A (call (.builtin id) (v::us)) (EP X pins σ Q) X.xe s
theorem Vals.one:∀{x:V} {us:ak},Vals [x] us->∃u,us=[u]/\RelV x u
 |_,_,.cons r .nil=>#[_,Z,r]
theorem Vals.two:∀{x y:V} {us:ak},Vals [x,y] us->∃u v,us=[u,v]/\RelV x u/\RelV y v
 |_,_,_,.cons r (.cons q .nil)=>#[_,_,Z,r,q]
section
variable{X:Cx}{pins:List (Addr × Obj)}{σ:St}{H:Hp}{s:Ab}{l b:Addr}{xs ys zs:ag}
theorem Inv.FA{its its':ak}{n:Nat}{f:Array Aa->Array Aa}{t':Nat}(I:Inv X pins σ H s)(hH:H l\.lst xs)
  (e:s.heap.get? l=some { cls:=.type "list",data:=.seq its.toArray n }) (hf:f its.toArray=its'.toArray) (hv:Vals ys its') (hz:ys.length<=sizeLine) :
  Inv X pins σ (upd H l (.lst ys)) { s with heap:=s.heap.update l (Obj.mapSeq f),toks:=t' }:=by
 let q:=PySem.IsL.update e f;rw[hf] at q;apply I.write (x:=l) (e:=l) (by rw[hH];exact trivial) (.inl Z) (λb' u hb hu=>(nB s.heap (Obj.mapSeq f) (Ne.symm hb)).trans hu) #[_,q] ?_;exact#[hz,its',_,hv,q]
theorem Inv.xk{its:ak}{t':Nat}(I:Inv X pins σ H s)(hv:Vals ys its)(hz:ys.length<=sizeLine) :
  Inv X pins σ (upd H s.heap.objs.size (.lst ys)) { s with heap:=s.heap.push { cls:=.type "list",data:=.seq its.toArray },toks:=t' }:=
 I.laid (λ_ _ q=>cj _ q) (bo _) #[hz,its,0,hv,eE _ Z]
theorem Inv.fresh(I:Inv X pins σ H s):H s.heap.objs.size=none:=I.aE.fresh (bo _)
theorem Inv.mL(I:Inv X pins σ H s)(hH:H l\.lst xs):xs.length<=sizeLine/\∃(its:ak) (n:Nat),Vals xs its/\xs.length=its.length/\s.heap.get? l=some { cls:=.type "list",data:=.seq its.toArray n }:=by
 let#[z,its,n,r,e]:=I.aE l _ hH;exact#[z,its,n,r,r.length,e]
theorem tY{n:Nat}(h:n<=sizeLine):Builtin.List.listTooLong n=false:=by
 unfold Builtin.List.listTooLong;exact dH Z1
end
section
variable{X:Cx}
inductive oX (x:V) (vs:ag) (H:Hp) (Q:VK):Prop
 |mk:∀l xs y,x=.ref l->vs=[y]->H l\.lst xs->xs.length<sizeLine->Q .non (upd H l (.lst (xs++[y])))->oX x vs H Q
theorem u_:X3 X "list.append" oX:=by
 intro pins s σ H x vs v us Q I rx rv h;let#[l,xs,y,rfl,rfl,hH,hz,q]:=h;cases rx;let#[u,rfl,ru]:=rv.one;let#[z,its,n,r,hl,e]:=I.mL hH;apply call_meets F.slot_list_append ⟨_,e,rfl⟩ F.entry_list_append (F.args_list_append_2 _ _) (PySem.list_append l its.toArray n u (by rw[cq];omega)) ⟨e,?_⟩;apply⟨.non,_,I.FA (its':=its++[u]) hH e Z2 (r.append (.cons ru .nil)) ?_,rfl,q⟩;rw[fA,CB];omega
inductive oV (x:V) (vs:ag) (H:Hp) (Q:VK):Prop
 |mk:∀l b xs zs,x=.ref l->vs=[.ref b]->H l\.lst xs->H b\.lst zs->xs.length+zs.length<=sizeLine->Q .non (upd H l (.lst (xs++zs)))->oV x vs H Q
theorem D0:X3 X "list.extend" oV:=by
 intro pins s σ H x vs v us Q I rx rv h;let#[l,b,xs,zs,rfl,rfl,hH,hB,hz,q]:=h;cases rx;let#[u,rfl,ru]:=rv.one;cases ru;let#[z,its,n,r,hl,e]:=I.mL hH;let#[z2,gx,n2,r2,ja,e2]:=I.mL hB;have hsz:its.toArray.size+gx.toArray.size<=sizeLine:=by rw[cq,cq];omega
 have Gg:¬(!its.toArray.isEmpty&&Builtin.List.listTooLong (its.toArray.size+gx.toArray.size))=true:=by
  rw[tY hsz,Bool.and_false];exact gW
 apply call_meets F.slot_list_extend ⟨_,e,rfl⟩ F.entry_list_extend (F.args_list_extend_2 _ _)
  (AutoSeq1.list_extend_list_list_0 l its.toArray n b gx.toArray n2 Gg (by rw[cq];omega) Z1) ⟨e,e2,?_⟩
 apply⟨.non,_,I.FA (its':=its++gx) hH e Z2 (r.append r2) ?_,rfl,q⟩;rw[fA];omega
inductive xa (x:V) (y:V) (H:Hp) (Q:VK):Prop
 |mk:∀l b xs zs,x=.ref l->y=.ref b->H l\.lst xs->H b\.lst zs->xs.length+zs.length<=sizeLine->(∀p,H p=none->Q (.ref p) (upd H p (.lst (xs++zs))))->xa x y H Q
theorem GV:dN X (binaryOp .Add) xa:=by
 intro pins s σ H x y v u Q I rx ry h;let#[l,b,xs,zs,rfl,rfl,hH,hB,hz,q]:=h;cases rx;cases ry;let#[z,its,n,r,hl,e]:=I.mL hH;let#[z2,gx,n2,r2,ja,e2]:=I.mL hB;apply PySem.P.add_list e e2 ?_ (by rw[cq,cq];omega);have ea:its.toArray++gx.toArray=(its++gx).toArray:=by simp
 rw[ea];exact⟨.ref _,_,I.xk (t':=s.toks) (r.append r2) (by rw[fA];omega),rfl,q _ I.fresh⟩
end
section
variable{prog:Ad}{w:Af}{A:Ag}{E:Aa->Ab->Prop}{s:Ab}
end
section
variable{X:Cx}
end
end L2
namespace L2
open PySem PySem.Spec PyProof.Rows
section
variable{κ:Type}[DecidableEq κ]
def bK(kvs:List (κ × V))(k:κ):aL:=(kvs.find? λkv=>decide (kv.1=k)).map (·.2)
def putK(kvs:List (κ × V))(k:κ)(v:V):List (κ × V):=
 if (kvs.any λkv=>decide (kv.1=k))=true then kvs.map (λkv=>if kv.1=k then (kv.1,v) else kv) else kvs++[(k,v)]
theorem Cv{p:κ × V}{r:List (κ × V)}{k:κ}(e:p.1=k):bK (p::r) k\p.2:=by simp[bK,vc,e]
theorem Cm{p:κ × V}{r:List (κ × V)}{k:κ}(e:¬p.1=k):bK (p::r) k=bK r k:=by simp[bK,vc,e]
theorem Hu(k:κ):∀kvs:List (κ × V),(kvs.any λkv=>decide (kv.1=k))=(bK kvs k).isSome
 |[]=>rfl
 |p::r=>by
  rw[List.any_cons];by_cases e:p.1=k
  ·simp only[Cv e,cb e,Bool.true_or,Option.isSome_some]
  rw[Cm e,dH e,Bool.false_or];exact Hu k r
theorem Rx(kvs:List (κ × V))(k:κ)(v:V):(putK kvs k v).length<=kvs.length+1:=by
 unfold putK;split
 ·rw[ay];omega
 rw[fA,kB,qP];omega
theorem D8{kvs:List (κ × V)}{k:κ}(v:V)(h:bK kvs k=none):putK kvs k v=kvs++[(k,v)]:=by
 unfold putK;rw[Hu,h];exact aB (by decide)
theorem eS.d9{o:aL}{u:Option Aa}(r:eS o u):o.isSome=u.isSome:=by
 cases o with
 |none=>cases u with
  |none=>rfl
  |some _=>exact (show False from r).elim
 |some _=>cases u with
  |none=>exact (show False from r).elim
  |some _=>rfl
theorem KV.val{kvs:List (κ × V)}{vs:List (κ × Aa)}(r:KV kvs vs)(k:κ):eS (bK kvs k) (valueAt vs k):=by
 unfold KV at r
 induction r with
 |nil=>exact True.intro
 |@cons p q ps qs h t ih=>
  let#[h1,h2]:=h;by_cases e:p.1=k
  ·have e':q.1=k:=h1.symm.trans e;have b:valueAt (q::qs) k\q.2:=by simp[valueAt,vc,e']
   rw[Cv e,b];exact h2
  have e':¬q.1=k:=λz=>e (h1.trans z);have b:valueAt (q::qs) k=valueAt qs k:=by simp[valueAt,vc,e']
  rw[Cm e,b];exact ih
theorem KV.any{kvs:List (κ × V)}{vs:List (κ × Aa)}(r:KV kvs vs)(k:κ):(kvs.any λkv=>decide (kv.1=k))=vs.any λkv=>decide (kv.1=k):=by
 unfold KV at r
 induction r with
 |nil=>rfl
 |cons h t ih=>rw[List.any_cons,List.any_cons,ih,h.1]
theorem KV.A3{kvs:List (κ × V)}{vs:List (κ × Aa)}(r:KV kvs vs)(k:κ){y:V}{u:Aa}(ry:RelV y u) :
  KV (kvs.map λkv=>if kv.1=k then (kv.1,y) else kv) (vs.map λkv=>if kv.1=k then (kv.1,u) else kv):=by
 unfold KV at r ⊢
 induction r with
 |nil=>exact .nil
 |@cons p q ps qs h t ih=>
  rw[dZ,dZ];apply .cons ?_ ih;let#[h1,h2]:=h;by_cases e:p.1=k
  ·rw[aJ e,aJ (h1.symm.trans e)];exact#[h1,ry]
  rw[aB e,aB (λz=>e (h1.trans z))];exact#[h1,h2]
theorem KV.put{kvs:List (κ × V)}{vs:List (κ × Aa)}(r:KV kvs vs)(k:κ){y:V}{u:Aa}(ry:RelV y u):KV (putK kvs k y) (stored vs k u):=by
 unfold putK stored;rw[r.any k];by_cases e:(vs.any λkv=>decide (kv.1=k))=true
 ·rw[aJ e,aJ e];exact r.A3 k ry
 rw[aB e,aB e];exact Paired.snoc r #[Z,ry]
theorem KV.keys{kvs:List (κ × V)}{vs:List (κ × Aa)}(r:KV kvs vs):kvs.map (·.1)=vs.map (·.1):=by
 unfold KV at r
 induction r with
 |nil=>rfl
 |cons h t ih=>rw[dZ,dZ,ih,h.1]
theorem KV.length{kvs:List (κ × V)}{vs:List (κ × Aa)}(r:KV kvs vs):kvs.length=vs.length:=bH r
end
theorem vY{P:Ad}{w:Af}{k:Key}{u:Aa}(r:RelV (kV k) u):(d_ P w).is k u=true:=by
 cases k with
 |inl i=>let#[t,e]:=(show ∃t,u=Value.int i t from r);subst e;exact f9_ P w i t
 |inr x=>let#[t,e]:=(show ∃t,u=Value.str x t from r);subst e;exact Rv P w x t
theorem Wy{P:Ad}{w:Af}:∀{ks:az} {us:ak},Vals (ks.map kV) us->ItemsAre (d_ P w) ks us
 |[],_,r=>by rw[List.map_nil] at r;cases r;exact .nil
 |k::ks,_,r=>by
  rw[dZ] at r;cases r with
  |cons h t=>exact .cons (vY h) (Wy t)
abbrev KT(H:Hp):List (az × V)->List (az × Addr × Aa)->Prop:=Paired λp q=>p.1=q.1/\H q.2.1\.tup (p.1.map kV)/\RelV p.2 q.2.2
theorem KT.val{H:Hp}{kvs:List (az × V)}{xs:List (az × Addr × Aa)}(r:KT H kvs xs)(k:az):eS (bK kvs k) ((atKey xs k).map (·.2)):=by
 induction r with
 |nil=>exact True.intro
 |@cons p q ps qs h t ih=>
  let#[h1,_,h2]:=h;by_cases e:p.1=k
  ·have e':q.1=k:=h1.symm.trans e;have b:atKey (q::qs) k\q.2:=by simp[atKey,vc,e']
   rw[Cv e,b];exact h2
  have e':¬q.1=k:=λz=>e (h1.trans z);have b:atKey (q::qs) k=atKey qs k:=by simp[atKey,vc,e']
  rw[Cm e,b];exact ih
theorem KT.A3{H:Hp}{kvs:List (az × V)}{xs:List (az × Addr × Aa)}(r:KT H kvs xs)(k:az){y:V}{u:Aa}(ry:RelV y u) :
  KT H (kvs.map λkv=>if kv.1=k then (kv.1,y) else kv) (xs.map (putAt k u)):=by
 induction r with
 |nil=>exact .nil
 |@cons p q ps qs h t ih=>
  rw[dZ,dZ];apply .cons ?_ ih;let#[h1,h2,h3]:=h;unfold putAt;by_cases e:p.1=k
  ·rw[aJ e,aJ (h1.symm.trans e)];exact#[h1,h2,ry]
  rw[aB e,aB (λz=>e (h1.trans z))];exact#[h1,h2,h3]
theorem KT.put{H:Hp}{kvs:List (az × V)}{xs:List (az × Addr × Aa)}(r:KT H kvs xs)(k:az){b:Addr}{y:V}{u:Aa}(hb:H b\.tup (k.map kV))(ry:RelV y u) :
  KT H (putK kvs k y) (storedH xs k b u):=by
 have e:(kvs.any λkv=>decide (kv.1=k))=(atKey xs k).isSome:=by
  rw[Hu,(r.val k).d9,Option.isSome_map]
 unfold putK storedH;rw[e];by_cases q:(atKey xs k).isSome=true
 ·rw[aJ q,aJ q];exact r.A3 k ry
 rw[aB q,aB q];exact Paired.snoc r #[Z,hb,ry]
theorem KT.keeps{H H':Hp}{kvs:List (az × V)}{xs:List (az × Addr × Aa)}(r:KT H kvs xs)(ht:∀b ys,H b\.tup ys->H' b\.tup ys):KT H' kvs xs:=
 Paired.bF r λ_ _ z=>#[z.1,ht _ _ z.2.1,z.2.2]
section
variable{P:Ad}{w:Af}{H:Hp}{h:Heap}{a:Addr}
theorem To{u:HO}(ok:eL P w H h)(e:Rd H a u):eI P w H h a u:=e.ok ok
theorem nE{kvs:List (Key × V)}(ok:eL P w H h)(e:Rd H a (.dK kvs)):kvs.length<=sizeLine/\(a == sysModules)=false/\∃vs,KV kvs vs/\h.DictOf (d_ P w) a vs:=
 show eI P w H h a (.dK kvs) from To ok e
theorem Dy{kvs:List (Key × V)}(ok:eL P w H h)(e:H a\.dK kvs):kvs.length<=sizeLine/\(a == sysModules)=false/\∃vs,KV kvs vs/\h.DictOf (d_ P w) a vs:=nE ok (.inl e)
theorem B_{ks:az}(ok:eL P w H h)(e:H a\.tup (ks.map kV)):(tupleKind (d_ P w)).is h ks a:=by
 let#[_,its,r,#[o,h1,h2,n,h3],_]:=(show eI P w H h a (.tup (ks.map kV)) from ok a _ e);exact#[o,its.toArray,n,h1,h2,h3,by simpa using Wy r]
theorem Dv{kvs:List (az × V)}(ok:eL P w H h)(e:Rd H a (.dT kvs)):kvs.length<=sizeLine/\(a == sysModules)=false /\
  ∃xs,KT H kvs xs/\h.DictOfH (tupleKind (d_ P w)) a xs:=by
 let#[z,y,xs,r,o,es,ep,h1,h2,h3,h4,h5]:=(show eI P w H h a (.dT kvs) from To ok e);apply#[z,y,xs,r,o,es,ep,h1,h2,h3,h4,λx hx=>?_,h5]
 have all:∀{l:List (az × V)} {m:List (az × Addr × Aa)},KT H l m->∀x∈m,(tupleKind (d_ P w)).is h x.1 x.2.1:=by
  intro l m q
  induction q with
  |nil=>intro x hx;exact nomatch hx
  |@cons p q ps qs hq t ih=>
   intro x hx;rcases cU.mp hx with e|hx
   ·subst e;exact B_ ok (by rw[<- hq.1];exact hq.2.1)
   exact ih x hx
 exact all r x hx
theorem lV_{kvs:List (az × V)}(ok:eL P w H h)(e:H a\.dT kvs):kvs.length<=sizeLine/\(a == sysModules)=false /\
  ∃xs,KT H kvs xs/\h.DictOfH (tupleKind (d_ P w)) a xs:=Dv ok (.inl e)
end
def gF(H:Hp)(a:Addr)(y:V)(r:aL):Prop:=
 (∃kvs k,Rd H a (.dK kvs)/\y=kV k/\r=bK kvs k)∨∃kvs k b,Rd H a (.dT kvs)/\y=.ref b/\H b\.tup (k.map kV)/\r=bK kvs k
def qu(H:Hp)(a:Addr)(y v:V)(H':Hp):Prop:=
 (∃kvs k,H a\.dK kvs/\y=kV k/\kvs.length<sizeLine/\H'=upd H a (.dK (putK kvs k v))) ∨
 ∃kvs k b,H a\.dT kvs/\y=.ref b/\H b\.tup (k.map kV)/\kvs.length<sizeLine/\H'=upd H a (.dT (putK kvs k v))
theorem gF.k{H:Hp}{a:Addr}{kvs:List (Key × V)}{k:Key}(e:H a\.dK kvs):gF H a (kV k) (bK kvs k):=.inl #[kvs,k,.inl e,Z,Z]
theorem gF.t{H:Hp}{a b:Addr}{kvs:List (az × V)}{k:az}(e:H a\.dT kvs)(eb:H b\.tup (k.map kV)):gF H a (.ref b) (bK kvs k):=.inr #[kvs,k,b,.inl e,Z,eb,Z]
theorem qu.k{H:Hp}{a:Addr}{kvs:List (Key × V)}{k:Key}{v:V}(e:H a\.dK kvs)(hl:kvs.length<sizeLine):qu H a (kV k) v (upd H a (.dK (putK kvs k v))):=.inl #[kvs,k,e,Z,hl,Z]
theorem qu.t{H:Hp}{a b:Addr}{kvs:List (az × V)}{k:az}{v:V}(e:H a\.dT kvs)(eb:H b\.tup (k.map kV))(hl:kvs.length<sizeLine) :
  qu H a (.ref b) v (upd H a (.dT (putK kvs k v))):=.inr #[kvs,k,b,e,Z,eb,hl,Z]
section
variable{X:Cx}{pins:List (Addr × Obj)}{σ:St}{H:Hp}{s:Ab}{a:Addr}{y v:V}{u r:Aa}{o:aL}{A:Ag}{E:Aa->Ab->Prop}
theorem Inv.big(I:Inv X pins σ H s):sysModules<s.heap.objs.size:=by
 have h:mainGlobals<s.heap.objs.size:=(I.mod.glob.keeps I.bk).lt;exact Nat.lt_trans (by decide) h
theorem hq_{Q:Aa->Ab->Prop}(hu:A.units+1<cLine)(I:Inv X pins σ H s)(g:gF H a y (some v))(ry:RelV y u)(h:∀w' s',Inv X pins σ H s'->RelV v w'->Q w' s') :
  wpAny (model X.prog X.w) A (getItem (.ref a) u) Q E s:=by
 rcases g with⟨kvs,k,e,ey,l⟩|⟨kvs,k,b,e,ey,eb,l⟩
 ·subst ey;let#[z,hd,vs,rel,dd]:=nE I.aE e;let#[w',hw,mF]:=eS.some_of (v:=v) (o:=valueAt vs k) (by rw[l];exact rel.val k);exact wpAny_getItem_of (vY ry) dd.mapOf hw (h w' _ (I.tok _) mF)
 subst ey;cases (show u=Value.ref b from ry);let#[z,hd,xs,rel,dd]:=Dv I.aE e;let#[w',hw,mF]:=eS.some_of (v:=v) (o:=(atKey xs k).map (·.2)) (by rw[l];exact rel.val k);let#[p,hp,jA]:=Option.map_eq_some_iff.mp hw;apply wpAny_getItem_heap (tupleKind_room_in1 hu) (B_ I.aE eb) dd hp ?_;rw[jA];exact h w' _ (I.tok _) mF
theorem P1{Q:Aa->Ab->Prop}(hu:A.units+1<cLine)(I:Inv X pins σ H s)(g:gF H a y o)(ry:RelV y u)(h:∀s',Inv X pins σ H s'->Q (.bool o.isSome) s') :
  wpAny (model X.prog X.w) A (compareOp .In u (.ref a)) Q E s:=by
 rcases g with⟨kvs,k,e,ey,l⟩|⟨kvs,k,b,e,ey,eb,l⟩
 ·subst ey;let#[z,hd,vs,rel,dd]:=nE I.aE e;apply wpAny_in_of (vY ry) hd dd.mapOf ?_;rw[<- (rel.val k).d9,<- l];exact h _ (I.tok _)
 subst ey;cases (show u=Value.ref b from ry);let#[z,hd,xs,rel,dd]:=Dv I.aE e;apply wpAny_in_heap (tupleKind_room_in1 hu) (B_ I.aE eb) hd dd ?_;let q:=(rel.val k).d9;rw[Option.isSome_map] at q;rw[<- q,<- l];exact h _ (I.tok _)
theorem k7_{Q:Aa->Ab->Prop}(hu:A.units+1<cLine)(I:Inv X pins σ H s)(g:gF H a y o)(ry:RelV y u)(h:∀s',Inv X pins σ H s'->Q (.bool (!o.isSome)) s') :
  wpAny (model X.prog X.w) A (compareOp .NotIn u (.ref a)) Q E s:=by
 rcases g with⟨kvs,k,e,ey,l⟩|⟨kvs,k,b,e,ey,eb,l⟩
 ·subst ey;let#[z,hd,vs,rel,dd]:=nE I.aE e;apply wpAny_notIn_of (vY ry) hd dd.mapOf ?_;rw[<- (rel.val k).d9,<- l];exact h _ (I.tok _)
 subst ey;cases (show u=Value.ref b from ry);let#[z,hd,xs,rel,dd]:=Dv I.aE e;apply wpAny_notIn_heap (tupleKind_room_in1 hu) (B_ I.aE eb) hd dd ?_;let q:=(rel.val k).d9;rw[Option.isSome_map] at q;rw[<- q,<- l];exact h _ (I.tok _)
theorem KC{h':Heap}{t':Nat}{ob:HO}(I:Inv X pins σ H s)(mu:IT (H a))(hs:Heap.SameBut a s.heap h')(he:∃q,h'.get? a\q)(new:eI X.prog X.w (upd H a ob) h' a ob) :
  Inv X pins σ (upd H a ob) { s with heap:=h',toks:=t' }:=
 I.write (x:=a) (e:=a) mu (.inl Z) (λb q hb z=>(hs.2 b hb).trans z) he new
theorem On{P:Ad}{w:Af}{H':Hp}{h':Heap}{kvs:List (Key × V)}{vs:List (Key × Aa)}(z:kvs.length<=sizeLine)(hd:(a == sysModules)=false)(rel:KV kvs vs)(dd:h'.DictOf (d_ P w) a vs) :
  eI P w H' h' a (.dK kvs):=#[z,hd,vs,rel,dd]
theorem i6_{H':Hp}{Q:Unit->Ab->Prop}(hu:A.units+1<cLine)(I:Inv X pins σ H s)(g:qu H a y v H')(ry:RelV y u)(rv:RelV v r)(h:∀s',Inv X pins σ H' s'->Q () s') :
  wpAny (model X.prog X.w) A (setItem (.ref a) u r) Q E s:=by
 rcases g with⟨kvs,k,e,ey,l,eH⟩|⟨kvs,k,b,e,ey,eb,l,eH⟩
 ·subst ey eH;let#[z,hd,vs,rel,dd]:=Dy I.aE e;have hz:vs.length<=sizeLine:=by rw[<- rel.length];exact z
  have hl:(putK kvs k v).length<=sizeLine:=by have:=Rx kvs k v;omega
  apply wpAny_setItem_pairs (hsz:=hz) (vY ry) dd λh' vX hs=>h _ ?_;have he:∃q,h'.get? a\q:=let #[q,_,_,hq,_]:=vX;#[q,hq];exact KC I (by rw[e];exact True.intro) hs he (On hl hd (rel.put k rv) vX)
 subst ey eH;cases (show u=Value.ref b from ry);let#[z,hd,xs,rel,dd]:=lV_ I.aE e;have hz:xs.length<=sizeLine:=by rw[<- bH rel];exact z
 have hl:(putK kvs k v).length<=sizeLine:=by have:=Rx kvs k v;omega
 apply wpAny_setItem_heap (hsz:=hz) (tupleKind_room_in1 hu) (B_ I.aE eb) dd λh' vX hs=>h _ ?_;let#[q,es,ep,hq,h2,h3,h4,_,h5]:=vX;apply KC I (by rw[e];exact True.intro) hs #[q,hq] #[hl,hd,_,(rel.put k eb rv).keeps λc ys ec=>?_,q,es,ep,hq,h2,h3,h4,h5];rw[aA (bX ec e nofun)];exact ec
end
section
variable{X:Cx}{pins:List (Addr × Obj)}{σ:St}{H:Hp}{s:Ab}{a:Addr}{kvs:List (Key × V)}{k:Key}{u:Aa}{A:Ag}{E:Aa->Ab->Prop}
theorem lW_{Q:Aa->Ab->Prop}(I:Inv X pins σ H s)(e:Rd H a (.dK kvs))(h:∀t s',Inv X pins σ H s'->Q (.int kvs.length t) s'):wpAny (model X.prog X.w) A (call (.builtin "len") [.ref a]) Q E s:=by
 let#[z,hd,vs,rel,dd]:=nE I.aE e;apply call_len_dict hd dd (by rw[<- rel.length];rw[cn] at z;omega) ?_;rw[<- rel.length];exact h _ _ (I.tok _)
end
def vn(i:Expr):Prop:=∀ov iv,subscripted i false ov iv=operate [ov,iv] (getItem ov iv)
theorem Ky{prog:Ad}{w:Af}{A:Ag}{E:Aa->Ab->Prop}{s:Ab}{env:Env}{value slice:Expr}{pos:Pos}{T id:String}{Q:Aa->Ab->Prop}
  (hl:typeLookup (.type T) "__getitem__"=pure (some (.builtin id))) (hs:vn slice)
  (h:wpAny (model prog w) A (eval value env) (λo aV=>wpAny (model prog w) A (eval slice env) (λi iE=>iE.TypeIs o T/\wpAny (model prog w) A (getItem o i) Q E iE) E aV) E s) :
  wpAny (model prog w) A (eval (.Subscript value slice pos) env) Q E s:=by
 apply Subscript_ (wpAny_mono h (λo aV bZ=>wpAny_mono bZ (λi iE Bh=>?_) λ_ _ x=>x) λ_ _ x=>x);let#[hT,Bh]:=Bh;unfold subscriptTail;apply ao ?_;rw[getitemInPython_of_ne hT.not_modules];apply ao (wpAny_specialOf hT hl ?_)
 have fin:wpAny (model prog w) A (subscripted slice false o i) (λr EI=>wpAny (model prog w) A (letTemporaryGo value o r >>= λ_=>pure r) Q E EI) E iE:=by
  rw[hs o i];exact wpAny_operating (wpAny_mono Bh (λr EI Nj=>ao (wpAny_letTemporaryGo (aK Nj))) λ_ _ x=>x)
 first
  |exact aK (ao fin)
  |exact ao (aK (ao fin))
  |exact ao fin
theorem fd_{X:Cx}{pins:List (Addr × Obj)}{σ:St}{H:Hp}{s:Ab}{a:Addr}{y:V}{o:aL}(I:Inv X pins σ H s)(g:gF H a y o):s.TypeIs (.ref a) "dict":=by
 rcases g with⟨kvs,k,e,_,_⟩|⟨kvs,k,b,e,_,_,_⟩
 ·let#[_,_,vs,_,dd]:=nE I.aE e;exact dd.typeIs
 let#[_,_,xs,_,dd]:=Dv I.aE e;exact dd.typeIs
inductive rH (Q:VK) (x:V) (y:V) (H2:Hp):Prop
 |mk:∀a v,x=.ref a->gF H2 a y (some v)->Q v H2->rH Q x y H2
def EF(td ty:TE):TE:=λσ H Q=>td σ H λx H1=>ty σ H1 λy H2=>rH Q x y H2
inductive yH (Q:VK) (y:V) (x:V) (H2:Hp):Prop
 |mk:∀a o,x=.ref a->gF H2 a y o->Q (.bl o.isSome) H2->yH Q y x H2
def LZ(ty td:TE):TE:=λσ H Q=>ty σ H λy H1=>td σ H1 λx H2=>yH Q y x H2
inductive VJ (Q:VK) (y:V) (x:V) (H2:Hp):Prop
 |mk:∀a o,x=.ref a->gF H2 a y o->Q (.bl (!o.isSome)) H2->VJ Q y x H2
def wG(ty td:TE):TE:=λσ H Q=>ty σ H λy H1=>td σ H1 λx H2=>VJ Q y x H2
inductive tI (D:Ends) (σ:St) (v:V) (x:V) (y:V) (H3:Hp):Prop
 |mk:∀a H4,x=.ref a->qu H3 a y v H4->D.nx σ H4->tI D σ v x y H3
def EV(td ty tv:TE):TS:=λD σ H=>tv σ H λv H1=>td σ H1 λx H2=>ty σ H2 λy H3=>tI D σ v x y H3
section
variable{X:Cx}{o i e value:Expr}{pos pos' En:Pos}{td ty tv:TE}
theorem kq(hu:X.A.units+1<cLine)(ho:PE X o td)(hi:PE X i ty)(hs:vn i:=by exact λ_ _=>rfl):PE X (.Subscript o i pos) (EF td ty):=by
 intro pins s σ H Q I h;apply Ky PySem.F.slot_dict_getitem.lookup hs (aR (ho pins s σ H _ I h) λu s1 ⟨x,H1,I1,rx,q1⟩=>aR (hi pins s1 σ H1 _ I1 q1) λiv s2 ⟨y,H2,I2,ry,a,v,ex,g,q2⟩=>?_);subst ex;obtain rfl:u=Value.ref a:=rx;exact#[fd_ I2 g,hq_ hu I2 g ry λw' s3 I3 mF=>#[v,H2,I3,mF,q2]]
theorem DL(hu:X.A.units+1<cLine)(hi:PE X i ty)(ho:PE X o td):PC X .In i o (LZ ty td):=by
 intro pins s σ H Q I h;apply aR (hi pins s σ H _ I h) λiv s1 ⟨y,H1,I1,ry,q1⟩=>aR (ho pins s1 σ H1 _ I1 q1) λu s2 ⟨x,H2,I2,rx,a,ov,ex,g,q2⟩=>?_;subst ex;obtain rfl:u=Value.ref a:=rx;exact P1 hu I2 g ry λs3 I3=>#[.bl ov.isSome,H2,I3,Z,q2]
theorem V5(hu:X.A.units+1<cLine)(hi:PE X i ty)(ho:PE X o td):PC X .NotIn i o (wG ty td):=by
 intro pins s σ H Q I h;apply aR (hi pins s σ H _ I h) λiv s1 ⟨y,H1,I1,ry,q1⟩=>aR (ho pins s1 σ H1 _ I1 q1) λu s2 ⟨x,H2,I2,rx,a,ov,ex,g,q2⟩=>?_;subst ex;obtain rfl:u=Value.ref a:=rx;exact k7_ hu I2 g ry λs3 I3=>#[.bl (!ov.isSome),H2,I3,Z,q2]
theorem yd(hu:X.A.units+1<cLine)(ho:PE X o td)(hi:PE X i ty)(hv:PE X value tv)(hs:swapsWith value (some (.Subscript o i pos')) pos.line X.env=pure false) :
  PS X (.Assign [.Subscript o i pos'] value pos) (EV td ty tv):=by
 intro pins s σ H D I h;apply wpAny_Assign_Subscript (aR (hv pins s σ H _ I h) λr s1 ⟨v,H1,I1,rv,q1⟩=>aR (ho pins s1 σ H1 _ I1 q1) λu s2 ⟨x,H2,I2,rx,q2⟩=>aR (hi pins s2 σ H2 _ I2 q2) λiv s3 ⟨y,H3,I3,ry,a,H4,ex,g,q3⟩=>?_) hs;subst ex;obtain rfl:u=Value.ref a:=rx;exact i6_ hu I3 g ry rv λs4 I4=>#[σ,H4,I4,q3]
end
theorem iw_{P:Ad}{w:Af}{H:Hp}(h:Heap)(hb:sysModules<h.objs.size):eI P w H (h.push { cls:=.type "dict",data:=.dict #[] }) h.objs.size (.dK []):=
 #[gM _,beq_eq_false_iff_ne.mpr (Ne.symm (eJ hb)),[],.nil,Heap.DictOf.new h]
theorem iV_{P:Ad}{w:Af}{H:Hp}(h:Heap)(hb:sysModules<h.objs.size):eI P w H (h.push { cls:=.type "dict",data:=.dict #[] }) h.objs.size (.dT []):=
 #[gM _,beq_eq_false_iff_ne.mpr (Ne.symm (eJ hb)),[],.nil,_,#[],0,eE _ Z,#[Z,Z,Z],Z,Z,List.nodup_nil]
def Ay:TE:=λ_ H Q=>∀p,H p=none->Q (.ref p) (upd H p (.dK []))
def Aw:TE:=λ_ H Q=>∀p,H p=none->Q (.ref p) (upd H p (.dT []))
section
variable{X:Cx}{pos:Pos}
theorem Ip:PE X (.Dict [] [] pos) Ay:=λpins s σ H Q I h=>
 wpAny_Dict_empty #[.ref s.heap.objs.size,_,I.laid (a:=s.heap.objs.size) (o:=.dK []) (t':=s.toks) (λ_ _ q=>cj _ q) (bo _) (iw_ s.heap I.big),Z,h _ (I.aE.fresh (bo _))]
theorem j1_:PE X (.Dict [] [] pos) Aw:=λpins s σ H Q I h=>
 wpAny_Dict_empty #[.ref s.heap.objs.size,_,I.laid (a:=s.heap.objs.size) (o:=.dT []) (t':=s.toks) (λ_ _ q=>cj _ q) (bo _) (iV_ s.heap I.big),Z,h _ (I.aE.fresh (bo _))]
end
def Cb(kvs more:List (Key × V)):List (Key × V):=more.foldl (λacc kv=>putK acc kv.1 kv.2) kvs
theorem XI:∀(more kvs:List (Key × V)),(Cb kvs more).length<=kvs.length+more.length
 |[],kvs=>by show kvs.length<=kvs.length+0;omega
 |p::r,kvs=>by
  let h1:=XI r (putK kvs p.1 p.2);let h2:=Rx kvs p.1 p.2;show (Cb (putK kvs p.1 p.2) r).length<=_;rw[kB];omega
structure M1 (X:Cx) (o:Expr) (m:Str) (apos:Pos) (e:Expr) (cQ:Pos):Prop where
 base:attributeBase o m X.env (eval o X.env)=eval o X.env
 few:((backTo cQ (starEach [e] X.env)).all (λx=>!x.1)&&(backToKw cQ (keywordEach [] X.env)).all (λx=>x.1.isSome)
  && decide (([e]:List Expr).length+([]:List Keyword).length+(if ([]:List Keyword).isEmpty then 0 else 1)<30))=true
 line:(apos.endLine == cQ.line)=true
 trees:backTo cQ (starEach [e] X.env)=[(false,eval e X.env)]
structure M2 (X:Cx) (o:Expr) (m:Str) (apos:Pos) (e f:Expr) (cQ:Pos):Prop where
 base:attributeBase o m X.env (eval o X.env)=eval o X.env
 few:((backTo cQ (starEach [e,f] X.env)).all (λx=>!x.1)&&(backToKw cQ (keywordEach [] X.env)).all (λx=>x.1.isSome)
  && decide (([e,f]:List Expr).length+([]:List Keyword).length+(if ([]:List Keyword).isEmpty then 0 else 1)<30))=true
 line:(apos.endLine == cQ.line)=true
 trees:backTo cQ (starEach [e,f] X.env)=[(false,eval e X.env),(false,eval f X.env)]
def IsD(H:Hp)(a:Addr):Prop:=(∃kvs,Rd H a (.dK kvs))∨∃kvs,Rd H a (.dT kvs)
theorem T7{X:Cx}{pins:List (Addr × Obj)}{σ:St}{H:Hp}{s:Ab}{a:Addr}(I:Inv X pins σ H s)(d:IsD H a) :
  s.TypeIs (.ref a) "dict"/\(∀b,Value.ref a=.ref b->∃ob,s.heap.get? b\ob/\ob.dict=none)/\(a == sysModules)=false:=by
 rcases d with⟨kvs,e⟩|⟨kvs,e⟩
 ·let#[_,hd,vs,_,dd]:=nE I.aE e;apply#[dd.typeIs,λb q=>?_,hd];cases q;let#[ob,_,_,h1,h2,_]:=dd;exact#[ob,h1,h2.2.1]
 let#[_,hd,xs,_,dd]:=Dv I.aE e;apply#[dd.typeIs,λb q=>?_,hd];cases q;let#[ob,_,_,h1,h2,_]:=dd;exact#[ob,h1,h2.2.1]
section
variable{X:Cx}{pins:List (Addr × Obj)}{σ:St}{H:Hp}{s:Ab}{a:Addr}{y d:V}{u r:Aa}{o:aL}{A:Ag}{E:Aa->Ab->Prop}
end
section
variable{X:Cx}{o e f:Expr}{apos cQ:Pos}{td ty tx:TE}
end
section
variable{X:Cx}{pins:List (Addr × Obj)}{σ:St}{H:Hp}{s:Ab}{a:Addr}{kvs:List (Key × V)}{A:Ag}{E:Aa->Ab->Prop}
theorem iH_{Q:Aa->Ab->Prop}(I:Inv X pins σ H s)(e:Rd H a (.dK kvs))(h:∀p s',H p=none->Inv X pins σ (upd H p (.dK kvs)) s'->Q (.ref p) s'):wpAny (model X.prog X.w) A (call (.type "dict") [.ref a]) Q E s:=by
 let#[z,hd,vs,rel,dd]:=nE I.aE e;apply kt_call_dict hd dd (by rw[<- rel.length];exact z) λh' vX hs=>?_;apply h _ _ (I.aE.fresh (bo _)) (I.laid (a:=s.heap.objs.size) (o:=.dK kvs) (t':=s.toks) (λb q hq=>?_) (bo _) (On z (beq_eq_false_iff_ne.mpr (Ne.symm (eJ I.big))) rel vX));exact (hs.2 b (eJ (cK hq))).trans (cj _ hq)
end
section
variable{X:Cx}{pins:List (Addr × Obj)}{σ:St}{H:Hp}{s:Ab}{a:Addr}{y:V}{u:Aa}{A:Ag}{E:Aa->Ab->Prop}
end
end L2
namespace X6
open PySem PySem.W PySem.Calls PyProof.Rows
theorem d1_{P:Params}{h:Heap}:∀(ns:List Int) (vs:ak),WellAll P h vs (ns.map WData.int)->IntsAre vs ns:=by
 intro ns
 induction ns with
 |nil=>
  intro vs w;rw[List.map_nil] at w;cases w;exact .nil
 |cons n ns ih=>
  intro vs w;rw[dZ] at w;cases w with
  |cons a b=>
   cases a;exact .cons _ _ (ih _ b)
theorem hg_{l:OpenLaw}{n:Nat}(hn:l.most\n){P:Params}{h:Heap}{args:List WData}{vals:ak}
  (xp:l.row.toRowW.claim.pre args=true) (Nn:WellAll P h vals args) :
  ∃a vs ns,vals=[Value.ref a]/\args=[WData.list (ns.map WData.int)]/\h.get? a=some { cls:=.type "list",data:=.seq vs.toArray }/\IntsAre vs ns/\ns.length<=n:=by
 have hsh:WShape.hasAll [] args [.list .int]=true:=(pre_splitW xp).1;have hc:l.pre.holds [] { args:=args }=true:=(pre_splitW xp).2;let#[d,r,rfl,h1,h2]:=hasAllW_cons hsh;obtain rfl:=hasAllW_nil h2;let#[xs,rfl,h3]:=hasW_list h1;let#[ns,rfl]:=items_int h3
 have hlen:ns.length<=n:=by
  unfold OpenLaw.pre at hc
  have h4:(WTm.not (.lt (.lit (.int (n:Int))) (.len (.arg 0)))).holds [] { args:=[.list (ns.map .int)] }=true:=by
   let h4:=(holds_andW hc).1;rw[hn] at h4;exact h4
  let h5:=condW_of h4 (w_not (w_lt w_lit (w_len_list (w_arg Z))));rw[ay] at h5;apply Nat.le_of_not_lt λq=>?_;have q':(n:Int)<((ns.length:Nat):Int):=by omega
  first
   |(rw[cb q'] at h5;exact absurd h5 (by decide))
   |(simp at h5;omega)
 cases Nn with
 |cons w1 w2=>
  cases w2;cases w1 with
  |list ho qh=>exact#[_,_,ns,Z,Z,ho,d1_ ns _ qh,hlen]
theorem gL_(l:OpenLaw)(args:List WData):l.row.toRowW.claim.post args (.bool true) args=true:=
 postW_of (r:=l.row.toRowW) (X:=(true == true))
  (show WShape.has [] (.bool true) .bool=true by first|rfl|decide|simp[WShape.has,WShape.arms,WShape.armsAll])
  (show (WTm.eq .res (.lit (.bool true))).value [] { args:=args,res:=some (.bool true),after:=args }=some (.bool (true == true)) from w_eq_bool (w_res Z) w_lit) Z
theorem kz{l:OpenLaw}{n:Nat}{q:Ad}{loose:ae}{XP:(Str->Option Aa)->Heap->Prop}{YP:Af->Heap->Prop}{d:DefRec}
  (hn:l.most\n) (ux:d.params.defaults=[])
  (call:∀(w:Af) (cZ aV:Ab) (mg mb:Str->Option Aa) (fa:Addr) (o:Obj) (pm cd doc:Aa) (a:Addr) (vs:ak) (ns:List Int),
   Ground q loose [] XP w cZ mg mb aV.heap->YP w aV.heap->
   aV.heap.get? fa\o->o.data=.func (docDef d.name d.params d.body d.scope pm cd doc)->aV.heap.CodeRec cd d.name->mg d.name\.ref fa->
   aV.heap.get? a=some { cls:=.type "list",data:=.seq vs.toArray }->IntsAre vs ns->ns.length<=n->aV.gens=#[]->
   codeAny (model l.prog w) callerA (.call (.ref fa) #[[.ref a],[]]) (λr s'=>r=.ok (.ret (.bool true))/\OldK aV.heap s'.heap/\s'.os=aV.os/\AllBare s'.gens) aV) :
  WalkO q loose XP YP l.row.toRowW d [] (λf vs=>PySem.call f vs):=by
 intro w cZ aV mg mb G Y fa o pm cd doc dV kV ho hd hW hD hmg hg args vals as xp hlay hrd Nn hlo;obtain rfl:dV=.none:=Dflts.none hD ux;obtain rfl:kV=.none:=Dflts.noKw hD;let#[a,vs,ns,rfl,rfl,Bq,hints,hlen]:=hg_ hn xp Nn;apply enter_call (codeAny_mono (call w cZ aV mg mb fa o pm cd doc a vs ns G Y ho (fd_plain hd) hW hmg Bq hints hlen hg) λr s' hq=>?_);let#[rfl,h2,h3,h4]:=hq;exact#[.inl #[.bool true,.bool true,[],Z,λ_=>rfl,.bool true,gL_ l _,λ_=>#[List.Pairwise.nil,λ_ hm=>(nomatch hm)]],h2,h3,h4]
section
variable{prog:Ad}{w:Af}{A:Ag}{E:Aa->Ab->Prop}{s:Ab}{K:Frag}
end
end X6
namespace L2
open PySem PySem.Spec PyProof.Rows
theorem WH:∀{vs:ak} {ns:List Int},IntsAre vs ns->Vals (ns.map V.int) vs
 |_,_,.nil=>.nil
 |_,_,.cons n t h=>.cons #[t,Z] (WH h)
end L2
namespace L2
open PySem PySem.Spec PyProof.Rows
end L2
namespace L2
open PySem PySem.Spec PyProof.Rows
def jE(s:Stmt)(j:Nat):Stmt:=match s with
 |.ClassDef _ _ _ body _ _ _ _ _ _ _=>body.getD j (.Pass #[0,0,0,0])
 |_=>.Pass #[0,0,0,0]
def jj(s:Stmt):Arguments:=match s with
 |.FunctionDef _ a _ _ _ _ _ _ _ _=>a
 |_=>{ posonlyargs:=[],args:=[],vararg:=none,kwonlyargs:=[],kw_defaults:=[],kwarg:=none,defaults:=[] }
def h_(s:Stmt):List Stmt:=match s with
 |.FunctionDef _ _ b _ _ _ _ _ _ _=>b
 |_=>[]
def aX(s:Stmt):Scope:=match s with
 |.FunctionDef _ _ _ _ _ _ sc _ _ _=>sc
 |_=>{ kind:=.function,names:=[],isGenerator:=false,isCoroutine:=false }
abbrev a9:jN:=λ_ _ _ _ _ _=>False
abbrev E0:XK:=λ_ _ _=>False
theorem o4{X:Cx}:xU a9 X E0:=λ_ _ _ _ _ _ _ h=>h.elim
structure bj (K:af) (x qual:Str) (st:Stmt) (f:Addr) (fd:Ae):Prop where
 ex:∃(oc:Aa) (od:Option Addr) (kV doc pm:Aa) (an:Option Addr) (aO ct:Aa) (i9:Array (Option Aa)),
  fd=PySem.W.fnOf x qual (jj st) (h_ st) (aX st) .none kV doc pm an aO ct/\K.lookup f=some #[oc,od,.func fd,i9]/\PySem.W.codeIn K aO qual=true
 kp:PySem.W.keepIn K (.ref f)=true
section v
theorem bj.ok{x qual:Str}{st:Stmt}{f:Addr}{fd:Ae}{N ps:ae}{k:Nat}{sp:Sp}(F:bj K x qual st f fd)(S:bx N ps (aX st))(len:∀vs H Q E,sp vs H Q E->vs.length=ps.length)
  (fU:∀(aO:Aa) (A:Ag) (outer:List Env) (s:Ab) (H:Hp) (vs:ag) (Q:VK) (E:XK),bf k (A.deeper (envOfC qual (aX st) s.heap.objs.size f aO))->sp vs H Q E->
   ∃t,lB (ka a9 P w K mg base N qual (aX st) f aO A outer s H E).A8 (h_ st) t/\t { nx:=λ_ H'=>Q .non H',rt:=Q } (start N vs) H):!aq a9 (k+1) f fd ps sp:=by
 let#[oc,od,kV,doc,pm,an,aO,ct,i9,rfl,lk,hW]:=F.ex;apply Tu lk hW S len λA outer s H vs Q E hr kW=>?_;let#[t,h,q]:=fU aO A outer s H vs Q E hr kW;exact#[t,h.A8,q]
theorem bj.bL{x qual:Str}{st:Stmt}{f:Addr}{fd:Ae}{N ps:ae}{k:Nat}{sp:Sp}(F:bj K x qual st f fd)(S:bx N ps (aX st)) (fU:∀(aO:Aa) (A:Ag) (outer:List Env) (s:Ab) (H:Hp) (vs:ag) (Q:VK) (E:XK),bf k (A.deeper (envOfC qual (aX st) s.heap.objs.size f aO))->sp vs H Q E->
   ∃t,lB (ka a9 P w K mg base N qual (aX st) f aO A outer s H E).A8 (h_ st) t/\t { nx:=λ_ H'=>Q .non H',rt:=Q } (start N vs) H) (len:∀vs H Q E,sp vs H Q E->vs.length=ps.length:=by intro vs H Q E h;first|(cases h;subst_vars;rfl)|(let#[rfl,_]:=h;rfl)|(let#[_,rfl,_]:=h;rfl)|(let#[_,_,rfl,_]:=h;rfl)|(let#[_,_,_,rfl,_]:=h;rfl)|(let#[_,_,_,_,rfl,_]:=h;rfl)|(let#[_,_,_,_,_,_,_,_,_,rfl,_]:=h;rfl)):!aq a9 (k+1) f fd ps sp:=F.ok S len fU
theorem bj.binds{x qual:Str}{st:Stmt}{f:Addr}{fd:Ae}{ps:ae}(F:bj K x qual st f fd)
  (h:∀(kV doc pm:Aa) (an:Option Addr) (aO ct:Aa) (us:ak),us.length=ps.length->bindArgs (PySem.W.fnOf x qual (jj st) (h_ st) (aX st) .none kV doc pm an aO ct) #[us,[]]=pure (ps.zip us)):qI K fd ps []:=by
 let#[oc,od,kV,doc,pm,an,aO,ct,i9,rfl,lk,hW]:=F.ex;exact .all (h kV doc pm an aO ct)
theorem OO{x qual:Str}{st:Stmt}{f:Addr}{oc:Aa}{od an:Option Addr}{i9:Array (Option Aa)}{kV doc pm aO ct:Aa}(l:K.lookup f=some #[oc,od,.func (PySem.W.fnOf x qual (jj st) (h_ st) (aX st) .none kV doc pm an aO ct),i9])
  (c:PySem.W.codeIn K aO qual=true) (k:PySem.W.keepIn K (.ref f)=true):bj K x qual st f (PySem.W.fnOf x qual (jj st) (h_ st) (aX st) .none kV doc pm an aO ct):=#[#[oc,od,kV,doc,pm,an,aO,ct,i9,Z,l,c],k]
end
theorem gD{A:Ag}{k:Nat}(hr:bf k A):A.units+1<cLine:=Nat.lt_of_le_of_lt (Nat.add_le_add_left (by decide:1<=64) _) hr.units
section
variable{X:Cx}
theorem pv(i:Nat){x:Str}{pos:Pos}(hN:X.N[i]? = some x:=by rfl)(hv:RL X.env.scope x:=by first|exact Or.inl Z|exact Or.inr (Or.inl Z)|exact Or.inr (Or.inr Z))(hd:(x == ("__debug__":Str))=false:=by decide)
  (hW:(x == ("__classdict__":Str))=false:=by decide):PE X (.Name x pos) (rj i):=lJ_ hN hv hd hW
inductive WY (xs:ag) (H:Hp) (Q:VK):Prop
 |mk:∀a kvs,xs=[V.ref a]->H a\.dK kvs->Q (.int kvs.length) H->WY xs H Q
theorem h4_:gB X (.builtin "len") WY:=by
 intro pins s σ H xs us Q I r h;let#[a,kvs,rfl,ha,q]:=h;let#[u,rfl,ru]:=vals1 r;cases ru;exact lW_ I (.inl ha) λt s' I'=>#[.int kvs.length,H,I',#[t,Z],q]
end
theorem a_{A B:Prop}(h:B):if false=true then A else B:=by
 rw[aB gW];exact h
theorem dD{A B:Prop}(h:A):if true=true then A else B:=by
 rw[aJ Z];exact h
theorem aN{c A B:Prop}[Decidable c](h1:c->A)(h2:¬c->B):if c then A else B:=by
 by_cases h:c
 ·rw[aJ h];exact h1 h
 rw[aB h];exact h2 h
theorem uh{c A B:Prop}[Decidable c](hc:c)(h:B):if (!decide c)=true then A else B:=by
 rw[cb hc];exact a_ h
def aa(H H':Hp):Prop:=∀b o,H b\o->H' b\o
theorem aa.refl(H:Hp):aa H H:=λ_ _ h=>h
theorem aa.trans{H H1 H2:Hp}(a:aa H H1)(b:aa H1 H2):aa H H2:=λc o h=>b c o (a c o h)
theorem aa.free{H H':Hp}(e:aa H H'){l:Addr}(h:H' l=Option.none):H l=Option.none:=by
 cases q:H l with
 |none=>rfl
 |some o=>
  rw[e l o q] at h;cases h
section
variable{κ:Type}[DecidableEq κ]
theorem kE_{kvs:List (κ × V)}{k:κ}{v:V}(h:bK kvs k\v):k∈kvs.map (·.1):=by
 have q:(kvs.any λkv=>decide (kv.1=k))=true:=by
  rw[Hu,h]
  all_goals rfl
 let#[p,hp,e]:=List.any_eq_true.mp q;exact bG.mpr #[p,hp,xY e]
theorem Vf:∀{l:List κ} {k:κ},l.Nodup->¬k∈l->(l++[k]).Nodup
 |[],k,_,_=>by simp
 |a::r,k,h,hk=>by
  let#[h1,h2]:=lA.mp h;show (a::(r++[k])).Nodup;apply lA.mpr #[λm=>?_,Vf h2 λm=>hk (cU.mpr (Or.inr m))];rcases fL.mp m with q|q
  ·exact h1 q
  exact hk (cU.mpr (Or.inl (List.mem_singleton.mp q).symm))
end
end L2
local macro_rules|`(%[$x,*|$_])=>do return (<-x.getElems.foldrM (λe (a:Lean.Term)=>if e.raw.isNatLit?.isSome then`(L2.eU (L2.pv $e) $a)else`(L2.eU $e $a)) (<-`(L2.bh)))
namespace L2
open PySem PySem.Spec PyProof.Rows
def ji(env:Env):List (Str × NameKind)->List (Str × Addr)->List (Str × Addr)
 |[],cs=>cs
 |(n,k)::r,cs=>ji env r (if k == .free then (n,(env.cells.lookup n).getD 0)::cs else cs)
theorem RA{env:Env}(f:Str × NameKind->List (Str × Addr)->Sem (ForInStep (List (Str × Addr))))
  (hf:∀n k cs,f (n,k) cs=if (k == .free)=true then (do let a <- cellOf env n;pure (.yield ((n,a)::cs))) else pure (.yield cs)) :
  ∀(names:List (Str × NameKind)) (cs:List (Str × Addr)),(∀x∈names,x.2=.free->∃c,env.cells.lookup x.1\c)->forIn names cs f=(pure (ji env names cs):Sem _)
 |[],cs,_=>by rw[List.forIn_nil];rfl
 |(n,k)::r,cs,h=>by
  rw[List.forIn_cons,hf];have hr:∀x∈r,x.2=.free->∃c,env.cells.lookup x.1\c:=λx hx=>h x (eR _ hx);unfold ji;by_cases hk:(k == NameKind.free)=true
  ·let#[c,hc]:=h (n,k) fM ⇑hk;have hc:env.cells.lookup n\c:=hc;rw[aJ hk,aJ hk];have e:cellOf env n=pure c:=by unfold cellOf;rw[hc]
   rw[e];simp only[pure_bind];rw[RA f hf r _ hr,hc];rfl
  rw[aB hk,aB hk];simp only[pure_bind];exact RA f hf r _ hr
theorem Xt{scope:Scope}{env:Env}(h:∀x∈scope.names,x.2=.free->∃c,env.cells.lookup x.1\c):closureFor scope env=pure (ji env scope.names []):=by
 simp only[closureFor];rw[RA (env:=env) _ (λn k cs=>by by_cases hk:(k == NameKind.free)=true<;>simp[hk]) scope.names [] h]
 simp only[pure_bind]
theorem W6{env:Env}:∀{names:List (Str × NameKind)} {cs:List (Str × Addr)} {x:Str} {c:Addr},(x,c)∈ji env names cs->(x,c)∈cs∨((x,NameKind.free)∈names/\c=(env.cells.lookup x).getD 0)
 |[],cs,x,c,h=>.inl h
 |(n,k)::r,cs,x,c,h=>by
  unfold ji at h;rcases W6 h with h|⟨h,e⟩
  ·by_cases hk:(k == NameKind.free)=true
   ·rw[aJ hk] at h;rcases cU.mp h with q|q
    ·cases q;have:k=.free:=⇑hk
     subst this;exact .inr #[fM,Z]
    exact .inl q
   rw[aB hk] at h;exact .inl h
  exact .inr #[eR _ h,e]
theorem QB{env:Env}:∀{names:List (Str × NameKind)} {cs:List (Str × Addr)} {x:Str},(x,NameKind.free)∈names∨(∃c,(x,c)∈cs)->∃c,(x,c)∈ji env names cs
 |[],cs,x,h=>by
  rcases h with h|h
  ·cases h
  ·exact h
 |(n,k)::r,cs,x,h=>by
  unfold ji;apply QB ?_;rcases h with h|⟨c,h⟩
  ·rcases cU.mp h with e|h
   ·cases e;exact .inr #[(env.cells.lookup n).getD 0,by rw[aJ (by decide)];exact fM]
   exact .inl h
  apply .inr #[c,?_];split
  ·exact eR _ h
  exact h
theorem RB:∀(names:List (Str × NameKind)) (n:Nat) (acc cl:List (Str × Addr)),cellsFrom n names (acc++cl)=cellsFrom n names acc++cl
 |[],_,_,_=>rfl
 |(x,k)::r,n,acc,cl=>by
  unfold cellsFrom;split
  ·exact RB r (n+1) ((x,n)::acc) cl
  exact RB r n acc cl
theorem Rq:∀{names:List (Str × NameKind)} {n:Nat} {acc:List (Str × Addr)} {x:Str} {c:Addr},(x,c)∈cellsFrom n names acc->(x,c)∈acc∨(x,NameKind.cell)∈names
 |[],_,_,_,_,h=>.inl h
 |(y,k)::r,n,acc,x,c,h=>by
  unfold cellsFrom at h;by_cases hk:(k == NameKind.cell)=true
  ·rw[aJ hk] at h;rcases Rq h with h|h
   ·rcases cU.mp h with e|h
    ·cases e;have:k=.cell:=⇑hk
     subst this;exact .inr fM
    exact .inl h
   exact .inr (eR _ h)
  rw[aB hk] at h;rcases Rq h with h|h
  ·exact .inl h
  exact .inr (eR _ h)
theorem Rt{α:Type}:∀{l:List (Str × α)} {x:Str} {c:α},(x,c)∈l->∃c',l.lookup x\c'
 |(k,v)::r,x,c,h=>by
  rw[vd];cases hb:x == k with
  |true=>exact#[v,Z]
  |false=>
   rcases cU.mp h with e|h
   ·cases e;simp at hb
   exact Rt h
def ke(scope:Scope)(C:Addr)(env:Env):Env:=
 { scope:=relabel scope env,locals:=C,globals:=env.globals,cells:=cellsFrom (C+1) scope.names (ji env scope.names []),qual:=env.qual,func:=none,code:=env.code,frame:=env.frame,builtins:=env.builtins }
theorem Xw{M:Model}{A:Ag}{E:Aa->Ab->Prop}{s:Ab}{scope:Scope}{cl:List (Str × Addr)}{env:Env}{Q:Env->Ab->Prop}
  (h:Q { scope:=scope,locals:=s.heap.objs.size,globals:=env.globals,cells:=cellsFrom (s.heap.objs.size+1) scope.names cl,qual:=env.qual,func:=none,code:=env.code,frame:=env.frame,builtins:=env.builtins }
   { s with heap:=pushCells (s.heap.push { cls:=.type "dict",data:=.dict #[] }) scope.names }) :
  wpAny M A (newFunctionEnv scope env.globals cl [] env.qual none .none (some env)) Q E s:=by
 simp only[newFunctionEnv,Option.isSome_some,if_true];apply ao (wpAny_alloc ?_);apply ao (wpAny_layCells _ (λname kind cells=>by cases hkc:kind == NameKind.cell<;>simp[hkc]) _ _ _ _ ?_)
 rw[show ({ s with heap:=s.heap.push { cls:=.type "dict",data:=.dict #[] } }:Ab).heap.objs.size=s.heap.objs.size+1 from Heap.size_push ..];rw[List.forIn_nil];exact ao (aK (aK h))
def Kr(PN:ae)(ps:Scope)(N:ae)(own:Nat)(fr:List Nat)(scope:Scope):Bool:=
 decide (scope.kind=.function)&&decide N.Nodup&&decide (own+fr.length=N.length)
 && (scope.names.all λy=>decide (scope.names.lookup y.1\y.2))
 && (scope.names.all λy=>if y.2=.free then decide (ps.names.lookup y.1\.cell) || decide (ps.names.lookup y.1\.free) else true)
 && ((fr.map λj=>PN[j]?) == (N.drop own).map some)
 && ((N.drop own).all λx=>decide (scope.names.lookup x\.free))
structure oh (PN:ae) (ps:Scope) (N:ae) (own:Nat) (fr:List Nat) (scope:Scope):Prop where
 kind:scope.kind=.function
 nd:N.Nodup
 len:own+fr.length=N.length
 look:∀y∈scope.names,scope.names.lookup y.1\y.2
 par:∀y∈scope.names,y.2=.free->ps.names.lookup y.1\.cell∨ps.names.lookup y.1\.free
 hY:(fr.map λj=>PN[j]?)=(N.drop own).map some
 frk:∀x∈N.drop own,scope.names.lookup x\.free
theorem oh.of{PN:ae}{ps:Scope}{N:ae}{own:Nat}{fr:List Nat}{scope:Scope}(h:Kr PN ps N own fr scope=true):oh PN ps N own fr scope:=by
 unfold Kr at h;simp only[Bool.and_eq_true,decide_eq_true_eq,List.all_eq_true,beq_iff_eq] at h;let#[#[#[#[#[#[h1,h2],h3],h4],h5],h6],h7]:=h;apply#[h1,h2,h3,h4,λy hy e=>?_,h6,h7];let q:=h5 y hy;rw[aJ e] at q;simpa using q
def Cy(own:Nat)(fr:List Nat)(σ:St):St:=List.replicate own none++fr.map λj=>(σ[j]?).join
def iz(X:Cx)(N:ae)(scope:Scope)(fp:ai)(s:Ab)(H:Hp):Cx where
 prog:=X.prog
 w:=X.w
 K:=X.K
 mg:=X.mg
 base:=X.base
 A:=X.A
 N:=N
 cZ:=s
 jt:=H
 env:=ke scope s.heap.objs.size X.env
 outer:=X.stack
 stack:=X.stack
 ex:=fp
 fn:=λx=>decide (scope.names.lookup x\.local) || decide (scope.names.lookup x\.cell)
 calm:=X.calm
 pn:=[]
 xe:=λ_ _=>False
theorem Xo{ps:Scope}{env:Env}(he:env.scope=ps){x:Str}:∀{names:List (Str × NameKind)} {k:NameKind},names.lookup x\k->
  (names.map λ(n,k)=>if (k == NameKind.free&&env.scope.kind == .function&&env.kindOf n == some .cell) then (n,NameKind.cell) else (n,k)).lookup x =
   some (if (k == NameKind.free&&env.scope.kind == .function&&env.kindOf x == some .cell) then .cell else k)
 |(n,k')::r,k,h=>by
  rw[vd] at h;rw[dZ];cases hb:x == n with
  |true=>
   rw[hb] at h;cases h;have e:x=n:=⇑hb
   subst e;dsimp only;split<;>simp[vd]
  |false=>
   rw[hb] at h;let ih:=Xo he (env:=env) h;dsimp only;split<;>(rw[vd,hb];exact ih)
theorem QK{env:Env}{x:Str}:∀{names:List (Str × NameKind)} {k:NameKind},(names.map λ(n,k)=>if (k == NameKind.free&&env.scope.kind == .function&&env.kindOf n == some .cell) then (n,NameKind.cell) else (n,k)).lookup x\k->∃k',names.lookup x\k'/\(k'=k∨(k'=.free/\k=.cell))
 |(n,k')::r,k,h=>by
  rw[dZ] at h;rw[vd];dsimp only at h;cases hb:x == n with
  |true=>
   apply#[k',Z,?_];by_cases hc:(k' == NameKind.free&&env.scope.kind == .function&&env.kindOf n == some .cell)=true
   ·rw[aJ hc,vd,hb] at h;cases h;simp only[Bool.and_eq_true,beq_iff_eq] at hc;exact .inr #[hc.1.1,Z]
   ·rw[aB hc,vd,hb] at h;cases h;exact .inl Z
  |false=>
   have h':(r.map λ(n,k)=>if (k == NameKind.free&&env.scope.kind == .function&&env.kindOf n == some .cell) then (n,NameKind.cell) else (n,k)).lookup x\k:=by
    split at h<;>(rw[vd,hb] at h;exact h)
   exact QK h'
theorem dC_{α:Type}{x:Str}{c:α}:∀{l r:List (Str × α)},(l++r).lookup x\c->(x,c)∈l∨(x,c)∈r:=λh=>fL.mp (qq h)
section
variable{X:Cx}{pins:List (Addr × Obj)}{σ:St}{H:Hp}{s:Ab}{N:ae}{own:Nat}{fr:List Nat}{scope:Scope}{fp:ai}
theorem VE(I:Inv X pins σ H s)(S:oh X.N X.env.scope N own fr scope){x:Str}{c:Addr}(h:(x,c)∈ji X.env scope.names []):X.env.cells.lookup x\c/\(x,NameKind.free)∈scope.names:=by
 rcases W6 h with h|⟨h,e⟩
 ·cases h
 let#[c',hc]:=I.ok.has x (S.par _ h Z);apply#[?_,h];rw[e,hc];rfl
theorem Inv.block(I:Inv X pins σ H s)(S:oh X.N X.env.scope N own fr scope)(JR:∀b∈fp,du X pins H b)(hfo:∀b∈fp,∃o,s.heap.get? b\o) :
  Inv (iz X N scope fp s H) [] (Cy own fr σ) H { s with heap:=pushCells (s.heap.push { cls:=.type "dict",data:=.dict #[] }) scope.names }:=by
 have kept:∀b o,s.heap.get? b\o->(pushCells (s.heap.push { cls:=.type "dict",data:=.dict #[] }) scope.names).get? b\o:=λb o e=>pushCells_keeps _ _ b o (cj _ e);let KO:=cellsFrom_ok scope.names (s.heap.push { cls:=.type "dict",data:=.dict #[] }) (s.heap.objs.size+1) [] #[λ_ _ hm=>(nomatch hm),List.Pairwise.nil] (by rw[Heap.size_push];exact bo _);rw[Heap.size_push] at KO;have ecs:cellsFrom (s.heap.objs.size+1) scope.names (ji X.env scope.names [])=cellsFrom (s.heap.objs.size+1) scope.names []++ji X.env scope.names []:=RB _ _ [] _
 have hJ:∀{x c},(cellsFrom (s.heap.objs.size+1) scope.names (ji X.env scope.names [])).lookup x\c->((x,c)∈cellsFrom (s.heap.objs.size+1) scope.names []/\(x,NameKind.cell)∈scope.names/\s.heap.objs.size+1<=c)∨(X.env.cells.lookup x\c/\(x,NameKind.free)∈scope.names):=λ{x c} h=>by
  rw[ecs] at h;rcases dC_ h with h|h
  ·apply .inl #[h,?_,(KO.empty _ _ h).2];rcases Rq h with q|q
   ·cases q
   exact q
  exact .inr (VE I S h)
 have Fb:∀{x c},X.env.cells.lookup x\c->c<s.heap.objs.size:=λ{x c} h=>by
  let#[v,hv]:=I.cell x c h;exact hv.lt
 have hb:∀b∈fp,b<s.heap.objs.size:=λb hb=>let #[o,e]:=hfo b hb;cK e
 apply#[#[I.ok.mod,S.kind,I.ok.glob,I.ok.blt,bo _,λx y c h1 h2=>?_,λx hx=>?_,λx c hf h=>?_,I.ok.hd,I.ok.frames,.inl Z,λb zC=>#[eJ (hb b zC),λx c h=>?_],I.bs,?_,λb o e zC=>?_,λb zC hs=>?_,I.stack,I.i5],
  rfl,I.bare,Un.kept kept,#[_,(Heap.Ns.new s.heap (.type "dict")).keeps (pushCells_keeps _ _),λi x v h1 h2 h3=>?_],λx c h=>?_,I.aE.fresh (bo _),λx c h=>?_,λp hp=>absurd (show p∈([]:List (Addr × Obj)) from hp) Z2,I.aE.kept kept,?_]
 ·-- inj
  rcases hJ h1 with⟨m1,k1,l1⟩|⟨m1,k1⟩<;>rcases hJ h2 with⟨m2,k2,l2⟩|⟨m2,k2⟩
  ·exact name_of_addr KO.apart m1 m2
  ·exact absurd (Fb m2) (Nat.not_lt.mpr (Nat.le_of_succ_le l1))
  ·exact absurd (Fb m1) (Nat.not_lt.mpr (Nat.le_of_succ_le l2))
  exact I.ok.inj x y c m1 m2
 ·-- has
  have key:(x,NameKind.cell)∈scope.names∨(x,NameKind.free)∈scope.names:=by
   rcases hx with hx|hx
   ·let#[k',e,q]:=QK (env:=X.env) (show _\NameKind.cell from hx);let m:=qq e;rcases q with q|⟨q,_⟩
    ·exact .inl (q▸m)
    exact .inr (q▸m)
   let#[k',e,q]:=QK (env:=X.env) (show _\NameKind.free from hx);let m:=qq e;rcases q with q|⟨_,q⟩
   ·exact .inr (q▸m)
   cases q
  show ∃c,(cellsFrom (s.heap.objs.size+1) scope.names (ji X.env scope.names [])).lookup x\c
  have:((cellsFrom (s.heap.objs.size+1) scope.names (ji X.env scope.names [])).lookup x).isSome=true:=by
   apply PySem.W.cellsFrom_some _ _ _ ?_;rcases key with q|q
   ·exact .inl (S.look _ q)
   let#[c,m]:=QB (env:=X.env) (names:=scope.names) (cs:=[]) (x:=x) (.inl q);let#[c',e]:=Rt m;exact .inr (by rw[e];rfl)
  exact CC.mp this
 ·-- DU
  rcases hJ h with⟨_,_,l⟩|⟨_,k⟩
  ·exact Nat.le_of_succ_le l
  let e:=S.look _ k;have hf:(decide (scope.names.lookup x\.local) || decide (scope.names.lookup x\.cell))=true:=hf;rw[show scope.names.lookup x\.free from e] at hf;exact absurd hf (by decide)
 ·rcases hJ h with⟨_,_,l⟩|⟨q,_⟩
  ·exact wu (jm (hb b zC) (Nat.le_of_succ_le l))
  exact (JR b zC).2.2.2.2.1 x c q
 ·exact nQ I.ok.uT I.sz
 ·rcases (JR b zC).2.2.2.1 with q|q
  ·exact I.ok.ua b o e q
  exact absurd (jm (cK e) I.ok.uT) Z1
 ·rcases cU.mp (I.i4 b hs) with q|q
  ·exact (JR b zC).2.1 q
  exact (JR b zC).2.2.1 q
 ·-- names
  have hi:own<=i:=by
   apply Nat.le_of_not_lt λdY=>?_;unfold Cy at h2;rw[CD (by rw[Aj];exact dY),List.getElem?_replicate,aJ dY] at h2;cases h2
  have fV:(fr.map λj=>(σ[j]?).join)[i - own]? = some (some v):=by
   unfold Cy at h2;rw[Ak (by rw[Aj];exact hi),Aj] at h2;exact h2
  have h1:N[i]? = some x:=h1;have hx:(N.drop own)[i - own]? = some x:=by rw[List.getElem?_drop,show own+(i - own)=i by omega];exact h1
  rw[dU] at fV;cases ej:fr[i - own]? with
  |none=>rw[ej] at fV;cases fV
  |some j=>
   rw[ej] at fV;have fV:(σ[j]?).join\v:=d7 fV
   have mO:σ[j]? = some (some v):=by
    cases q:σ[j]? with
    |none=>rw[q] at fV;cases fV
    |some o=>rw[q] at fV;exact dF some fV
   have hN:X.N[j]? = some x:=by
    let q:=dF (λl=>l[i - own]?) S.hY;simp only[dU,ej,hx,Option.map_some] at q;exact d7 q
   let kf:=S.frk x (dA hx);let mf:=qq kf;let#[m,hm,hv]:=I.loc;let pk:=S.par _ mf Z;let#[u,ru,lk]:=hv j x v hN mO (pk.elim (λq=>.inr (.inl q)) λq=>.inr (.inr q));apply#[u,ru,?_];have SW:X.env.kindOf x\.cell∨X.env.kindOf x\.free:=pk;rcases lk with⟨k,_⟩|⟨_,c,hc,pf⟩
   ·rw[k] at SW;rcases SW with q|q<;>cases q
   let#[c',m1]:=QB (env:=X.env) (names:=scope.names) (cs:=[]) (x:=x) (.inl mf);let e1:=(VE I S m1).1;rw[hc] at e1;cases e1;apply .inr #[?_,c,?_,pf.keeps kept]
   ·let q:=Xo (env:=X.env) Z kf;show (relabel scope X.env).names.lookup x\.cell∨(relabel scope X.env).names.lookup x\.free;unfold relabel;rw[q];split
    ·exact .inl Z
    exact .inr Z
   let#[c2,e2]:=CC.mp (PySem.W.cellsFrom_some (x:=x) scope.names (s.heap.objs.size+1) (ji X.env scope.names []) (.inr (by let#[c',e]:=Rt m1;rw[e];rfl)));show (cellsFrom (s.heap.objs.size+1) scope.names (ji X.env scope.names [])).lookup x\c;rcases hJ e2 with⟨_,q,_⟩|⟨q,_⟩
   ·have:=S.look _ q;rw[show scope.names.lookup x\.free from kf] at this;cases this
   rw[hc] at q;cases q;exact e2
 ·-- cells
  rcases hJ h with⟨q,_,_⟩|⟨q,_⟩
  ·exact#[_,(KO.empty _ _ q).1]
  let#[v,hv]:=I.cell x c q;exact#[v,hv.keeps kept]
 ·rcases hJ h with⟨q,_,l⟩|⟨q,_⟩
  ·exact I.aE.fresh Z1
  exact I.eG x c q
 show (Cy own fr σ).length=N.length;unfold Cy;rw[fA,Aj,ay];exact S.len
end
def IP(X:Cx)(ifs:List Expr)(t:TT):Prop:=
 ∀(pins:List (Addr × Obj)) (s:Ab) (σ:St) (H:Hp) (Q:Bool->Hp->Prop),Inv X pins σ H s->t σ H Q->
  wpAny (model X.prog X.w) X.A (forIn ifs true λc r=>if r=true then do let ok <- isTrue c X.env (eval c X.env);pure (ForInStep.yield ok) else pure (ForInStep.yield r)) (TP X pins σ Q) X.xe s
def q_:TT:=λ_ H Q=>Q true H
theorem dB{σ:St}{H:Hp}{A B:Hp->Prop}(h:A H):q_ σ H λb H4=>if b=true then A H4 else B H4:=by
 unfold q_;exact dD h
theorem ij{X:Cx}:IP X [] q_:=λ_ _ _ H _ I h=>wpAny_tests_nil #[H,I,h]
theorem Vk{X:Cx}{c:Expr}{t:TT}(h:PT X c t):IP X [c] t:=λpins s σ H Q I q=>wpAny_tests_one (h pins s σ H Q I q)
def vR(J:It)(g:TG)(tc:TT)(te:TE)(ip:St)(D:Addr)(H1:Hp)(Q:VK):Prop:=∃W:Nat->Nat->St->Hp->Prop,
 (∃m,W 0 m ip (upd H1 D (.lst [])))/\∀i m bA H',W i m bA H'->(J.stop i H'/\Q (.ref D) H') ∨
  (J.go i H'/\∃Nx:St->Hp->Prop,(∀g5 H2,Nx g5 H2->∃m',m'<m/\W (i+1) m' g5 H2) /\
   ∀x H2,J.yw i H' x H2->g x bA H2 λkU H3=>tc kU H3 λb H4=>if b=true then te kU H4 λy H5=>∃out,H5 D\.lst out/\out.length<sizeLine/\Nx kU (upd H5 D (.lst (out++[y]))) else Nx kU H4)
def yI(wi:TI)(own:Nat)(fr:List Nat)(g:TG)(tc:TT)(te:TE):TE:=λσ H Q=>wi σ H λJ H1=>∀D,H1 D=none->vR J g tc te (Cy own fr σ) D H1 Q
section
variable{X:Cx}{tg iter elt:Expr}{ifs:List Expr}{scope:Scope}{pos:Pos}{wi:TI}{g:TG}{tc:TT}{te:TE}{N:ae}
theorem UA{R:Result->Ab->Prop}{own:Nat}{fr:List Nat}{pins:List (Addr × Obj)}{σ:St}{H1:Hp}{s2:Ab}{it:Addr}{fp:ai}{tn:Nat->Heap->Prop}{J:It}{D:Addr}{Q:VK}
  (S:oh X.N X.env.scope N own fr scope) (hc:X.calm=true) (hg:∀fp s H,PG (iz X N scope fp s H) tg g) (ht:∀fp s H,IP (iz X N scope fp s H) ifs tc) (he:∀fp s H,PE (iz X N scope fp s H) elt te)
  (I3:Inv X pins σ (upd H1 D (.lst [])) s2) (T:Turn X.prog X.w X.K tg J fp it tn) (st:tn 0 s2.heap) (f2:∀b∈fp,du X pins (upd H1 D (.lst [])) b)
  (k:vR J g tc te (Cy own fr σ) D H1 Q)
  (hR:∀H' s',Inv X pins σ H' s'->(∃m,s'.heap.Ns s2.heap.objs.size m)->H' s2.heap.objs.size=none->Q (.ref D) H'->R (.ok .next) s') :
  codeAny (model X.prog X.w) X.A (.compStart (.ListComp elt [#[tg,iter,ifs,0]] scope pos) 0 (.ref it) (.ref D) (ke scope s2.heap.objs.size X.env)) R
   { s2 with heap:=pushCells (s2.heap.push { cls:=.type "dict",data:=.dict #[] }) scope.names }:=by
 let#[W,#[m0,w0],turn]:=k;let I4:=I3.block (N:=N) S f2 (λb hb=>let #[o,e,_]:=T.obj _ _ st b hb;#[o,e]);have kept:∀b o,s2.heap.get? b\o->(pushCells (s2.heap.push { cls:=.type "dict",data:=.dict #[] }) scope.names).get? b\o:=λb o e=>pushCells_keeps _ _ b o (cj _ e);have gI:tn 0 (pushCells (s2.heap.push { cls:=.type "dict",data:=.dict #[] }) scope.names):=T.keep _ _ _ st λb hb o e=>kept b o e
 have fx:∀{H':Hp},(∀b∈fp,H' b=none)->∀b∈fp,du (iz X N scope fp s2 (upd H1 D (.lst []))) [] H' b:=λhn b hb=>
  #[hn b hb,(I4.ok.Ka b hb).1,I4.ok.uE b hb,.inl hb,(I4.ok.Ka b hb).2,λp hp=>absurd (show p∈([]:List (Addr × Obj)) from hp) Z2]
 have loop:codeAny (model X.prog X.w) X.A (.compLoop (.ListComp elt [#[tg,iter,ifs,0]] scope pos) 0 (.ref it) (.ref D) (ke scope s2.heap.objs.size X.env)) R
   { s2 with heap:=pushCells (s2.heap.push { cls:=.type "dict",data:=.dict #[] }) scope.names }:=by
  apply codeAny_loop Z (λn s'=>∃i bA H',Inv (iz X N scope fp s2 (upd H1 D (.lst []))) [] bA H' s'/\tn i s'.heap/\(∀b∈fp,H' b=none)/\W i n bA H') (λn s' hI=>?_) m0 #[0,_,_,I4,gI,λb hb=>(f2 b hb).1,w0];let#[i,bA,H',I5,gP,pC,w5]:=hI;show wpAny _ X.A ((compTurn (.ListComp elt [#[tg,iter,ifs,0]] scope pos) 0 (.ref it) (.ref D) (ke scope s2.heap.objs.size X.env)).onRaise (λx=>do noteFrame x (ke scope s2.heap.objs.size X.env);theTreesLotGoes x)) _ _ s';apply wpAny_noted (wpAny_mono (E:=λ_ _=>False) ?_ (λ_ _ q=>q) λ_ _ q=>q.elim);rw[compTurn_list];apply ao (wpAny_standAt (ao ?_));rcases turn i n bA H' w5 with⟨stop,q⟩|⟨go,Nx,hN,step⟩
  ·apply aR (T.done (iz X N scope fp s2 (upd H1 D (.lst []))) Z Z Z hc i [] s' bA H' _ I5 (fx pC) gP stop) λr s6 ⟨hr,I6⟩=>?_;subst hr;apply aK (hR H' s6 (I3.zS I6.os I6.base I6.aE I6.bare λb hb=>?_) ?_ I6.free q)
   ·exact#[(f2 b hb).2.2.2.1,(f2 b hb).2.1,(f2 b hb).2.2.2.2.1,(f2 b hb).2.2.2.2.2]
   let#[m,hm,_]:=I6.loc;exact#[m,hm]
  apply aR (T.item (iz X N scope fp s2 (upd H1 D (.lst []))) Z Z Z hc i [] s' bA H' _ I5 (fx pC) gP go) λr s6 ⟨u,hr,h6⟩=>?_;subst hr;apply ao (aR h6 λ_ s7 ⟨x,H7,I7,r7,y7,jR,fr7⟩=>?_);let I7':=I7.pinned (fx fr7) (T.obj _ _ jR)
  have back:∀{vo:St} {H8:Hp} {s8:Ab},Inv (iz X N scope fp s2 (upd H1 D (.lst []))) ([]++yg fp s7.heap) vo H8 s8->Nx vo H8->∃m,m<n/\∃i bA H',Inv (iz X N scope fp s2 (upd H1 D (.lst []))) [] bA H' s8/\tn i s8.heap/\(∀b∈fp,H' b=none)/\W i m bA H':=λ{vo H8 s8} I8 n8=>by
   let#[m',hm,w8]:=hN vo H8 n8;apply#[m',hm,i+1,vo,H8,I8.eP,T.keep _ _ _ jR λb hb o e=>(I8.pin (b,o) (nZ _ (nZ _ (Li hb e)))).1,λb hb=>?_,w8];let#[o,e,d]:=T.obj _ _ jR b hb;exact (I8.pin (b,o) (nZ _ (nZ _ (Li hb e)))).2.1
  apply ao (aR (hg fp s2 (upd H1 D (.lst [])) _ s7 bA H7 x u _ I7' r7 (step x H7 y7)) λ_ s8 ⟨vo,H8,I8,q8⟩=>?_);apply ao (aR (ht fp s2 (upd H1 D (.lst [])) _ s8 vo H8 _ I8 q8) λb s9 ⟨H9,I9,q9⟩=>?_);cases b with
  |false=>
   simp only[iB,gz] at q9 ⊢;exact aK #[Z,back I9 q9]
  |true=>
   simp only[if_true] at q9 ⊢;apply ao (ao (aR (he fp s2 (upd H1 D (.lst [])) _ s9 vo H9 _ I9 q9) λy yQ ⟨yv,CK,I10,_n,out,hD,hz,_r⟩=>?_));apply ao (aR (u_ (X:=iz X N scope fp s2 (upd H1 D (.lst []))) _ yQ vo CK (.ref D) [yv] (.ref D) [y] (λ_ H'=>Nx vo H') I10 Z (.cons _n .nil) #[D,out,yv,Z,Z,hD,hz,_r]) λ_ CO ⟨_,H11,I11,_,_q⟩=>?_);exact aK (aK #[Z,back I11 _q])
 exact codeAny_compStart_list loop (T.self _ 0 _ _ _ gI loop)
theorem iV(N:ae)(own:Nat)(fr:List Nat)(hi:PI X tg iter wi)(hg:∀fp s H,PG (iz X N scope fp s H) tg g)(ht:∀fp s H,IP (iz X N scope fp s H) ifs tc)(he:∀fp s H,PE (iz X N scope fp s H) elt te)
  (S:Kr X.N X.env.scope N own fr scope=true:=by kernel_rfl) (hc:X.calm=true:=by rfl) (hs:∀x,foldedSetIterable iter X.env x=pure x:=by intro _;rfl) :
  PE X (.ListComp elt [#[tg,iter,ifs,0]] scope pos) (yI wi own fr g tc te):=by
 intro pins s σ H Q I h;let S':=oh.of S;rw[eval_ListComp];have uy:closureFor scope X.env=pure (ji X.env scope.names []):=Xt λx hx e=>I.ok.has x.1 (S'.par x hx e);apply wpAny_comprehension_free (use:=none) Z hs uy S'.kind (λx hx e=>by rw[S'.look x hx,e]) (aR (hi pins s σ H _ I h) λv s1 h1=>aR h1 λJB s2 h2=>?_);let#[it,fp,tn,J,H1,rfl,I2,T,eh,f2,k]:=h2;apply nA (Xw ?_);have hD:H1 s2.heap.objs.size=none:=I2.fresh;let I3:=I2.xk (ys:=[]) (its:=[]) (t':=s2.toks) .nil (gM _);have kept:∀b o,s2.heap.get? b\o->(s2.heap.push { cls:=.type "list",data:=.seq ([]:ak).toArray }).get? b\o:=λb o e=>cj _ e;apply UA (own:=own) (fr:=fr) (Q:=Q) S' hc hg ht he I3 T (T.keep _ _ _ eh λb hb o e=>kept b o e) (λb hb=>?_) (k _ hD) ?_
 ·apply#[?_,(f2 b hb).2];let#[o,e,_]:=T.obj _ _ eh b hb;rw[aA (eJ (cK e))];exact (f2 b hb).1
 rintro H' s' I' ⟨m,hm⟩ hn q;apply#[m,hm,λh' qA=>#[.ref s2.heap.objs.size,H',?_,Z,q]]
 exact I'.turned (t':=s'.toks) (λb o hb e=>qA.extBut b o hb e) hn (wu I3.lt) (.inr I3.sz) (λx c Ol e=>by
  let#[v,hv]:=I3.cell x c Ol
  exact absurd hv.lt (by rw[e];exact yn _)) λp hp e=>by
   have:=(I3.pin p hp).1;rw[e] at this;exact absurd (cK this) (yn _)
def EG(i:Nat)(te:TE):TS:=λD σ H=>te σ H λx H1=>D.nx (σ.set i (some x)) H1
theorem HU{i:Nat}{x:Str}{px:Pos}(N:ae)(own:Nat)(fr:List Nat)(hN:X.N.Nodup)(hi':X.N[i]? = some x)(hx:Loc X.env.scope x)
  (hi:PI X tg iter wi) (hg:∀fp s H,PG (iz X N scope fp s H) tg g) (ht:∀fp s H,IP (iz X N scope fp s H) ifs tc) (he:∀fp s H,PE (iz X N scope fp s H) elt te) {pos':Pos}
  (S:Kr X.N X.env.scope N own fr scope=true:=by kernel_rfl) (hc:X.calm=true:=by rfl) (hs:∀x,foldedSetIterable iter X.env x=pure x:=by intro _;rfl)
  (hf:X.fn x=true∨X.env.scope.names.lookup x\.local:=by first|exact .inl Z|exact .inr Z|assumption)
  (hsw:swapsWith (.ListComp elt [#[tg,iter,ifs,0]] scope pos) (some (.Name x px)) pos'.line X.env=pure true:=by rfl) :
  PS X (.Assign [.Name x px] (.ListComp elt [#[tg,iter,ifs,0]] scope pos) pos') (EG i (yI wi own fr g tc te)):=by
 intro pins s σ H E I h;let S':=oh.of S;rw[exec_Assign_Name_used _ _ _ _ hsw];apply ao (wpAny_standAt (ao ?_));show wpAny _ X.A (do let _ <- comprehension (.ListComp elt [#[tg,iter,ifs,0]] scope pos) scope X.env _ (newList []) false (eval iter X.env) (some (assign (.Name x px) X.env))) _ _ s;have uy:closureFor scope X.env=pure (ji X.env scope.names []):=Xt λx hx e=>I.ok.has x.1 (S'.par x hx e)
 apply ao (wpAny_mono (wpAny_comprehension_free (use:=some (assign (.Name x px) X.env)) (Q:=λ_ s'=>SP X pins E .next s') Z hs uy S'.kind (λx hx e=>by rw[S'.look x hx,e]) (aR (hi pins s σ H _ I h) λv s1 h1=>aR h1 λJB s2 h2=>?_))
  (λ_ s' hq=>aK (aK hq)) λ_ _ e=>e)
 let#[it,fp,tn,J,H1,rfl,I2,T,eh,f2,k]:=h2;apply nA (Xw ?_);have hD:H1 s2.heap.objs.size=none:=I2.fresh;let I3:=I2.xk (ys:=[]) (its:=[]) (t':=s2.toks) .nil (gM _);have kept:∀b o,s2.heap.get? b\o->(s2.heap.push { cls:=.type "list",data:=.seq ([]:ak).toArray }).get? b\o:=λb o e=>cj _ e;apply UA (own:=own) (fr:=fr) (Q:=λx H1=>E.nx (σ.set i (some x)) H1) S' hc hg ht he I3 T (T.keep _ _ _ eh λb hb o e=>kept b o e) (λb hb=>?_) (k _ hD) ?_
 ·apply#[?_,(f2 b hb).2];let#[o,e,_]:=T.obj _ _ eh b hb;rw[aA (eJ (cK e))];exact (f2 b hb).1
 rintro H' s' I' ⟨m,hm⟩ hn q
 have vZ:∀y c,X.env.cells.lookup y\c->c≠(s2.heap.push { cls:=.type "list",data:=.seq ([]:ak).toArray }).objs.size:=λy c Ol e=>by
  let#[v,hv]:=I3.cell y c Ol;exact absurd hv.lt (by rw[e];exact yn _)
 show wpAny _ X.A (assign (.Name x px) X.env (.ref s2.heap.objs.size)) _ _ s';apply wpAny_assign_Name (V8 (v:=V.ref s2.heap.objs.size) I' hN hi' hx Z (λqy I'' ⟨a,Bm,ha⟩=>?_) hf)
 have hCa:(s2.heap.push { cls:=.type "list",data:=.seq ([]:ak).toArray }).objs.size≠a:=by
  rcases ha with e|e
  ·rw[e];exact wu I3.lt
  exact (vZ x a e).symm
 apply#[m,hm.sameBut Bm hCa,λh' qA=>#[_,H',?_,q]]
 exact I''.turned (t':=qy.toks) (λb o hb e=>qA.extBut b o hb e) hn (wu I3.lt) (.inr I3.sz) vZ λp hp e=>by
   have:=(I3.pin p hp).1;rw[e] at this;exact absurd (cK this) (yn _)
end
def yq(g:TG)(own:Nat)(fv:List aL)(dec:V->Hp->List aL->Prop):Prop:=
 ∀(x:V) (o:List aL) (H:Hp) (k:kL) (o3:List aL),o.length=own->dec x H o3->k (o3++fv) H->g x (o++fv) H k
theorem dR{fv:List aL}:yq (iA 0) 1 fv (λx _ o3=>o3=[some x]):=λx o H k o3 hl e h=>by
 subst e
 match o,hl with
 |[a],_=>exact h
inductive Hg (K:af) (x:V) (H:Hp) (o3:List aL):Prop
 |mk:∀p u v,x=.ref p->fN K H p [u,v]->o3=[some u,some v]->Hg K x H o3
inductive Hf (K:af) (x:V) (H:Hp) (o3:List aL):Prop
 |mk:∀p u v w,x=.ref p->fN K H p [u,v,w]->o3=[some u,some v,some w]->Hf K x H o3
theorem BH{K:af}{fv:List aL}:yq (jc K 2 (vS (iA 0) (vS (iA 1) xF))) 2 fv (Hg K):=λx o H k o3 hl e h=>by
 let#[p,u,v,rfl,hp,rfl]:=e
 match o,hl with
 |[a,b],_=>exact#[p,[u,v],Z,hp,Z,u,[v],Z,v,[],Z,Z,h]
theorem OE{K:af}{fv:List aL}:yq (jc K 3 (vS (iA 0) (vS (iA 1) (vS (iA 2) xF)))) 3 fv (Hf K):=λx o H k o3 hl e h=>by
 let#[p,u,v,w,rfl,hp,rfl]:=e
 match o,hl with
 |[a,b,c],_=>exact#[p,[u,v,w],Z,hp,Z,u,[v,w],Z,v,[w],Z,w,[],Z,Z,h]
theorem Cr{J:It}{g:TG}{tc:TT}{te:TE}{own:Nat}{fv:List aL}{dec:V->Hp->List aL->Prop}{D:Addr}{H:Hp}{Q:VK}{ip:St}(mO:ip=List.replicate own none++fv)(G:yq g own fv dec)(n:Nat)(Pv:Nat->ag->Hp->Prop)
  (h0:Pv 0 [] (upd H D (.lst []))) (F0:∀out H',Pv n out H'->J.stop n H'/\Q (.ref D) H')
  (uv:∀i out H',i<n->Pv i out H'->J.go i H'/\∀x H2,J.yw i H' x H2->∃o3,dec x H2 o3/\o3.length=own/\∀Nx:Hp->Prop,(∀gm H2,Pv (i+1) gm H2->Nx H2)->
   tc (o3++fv) H2 λb H4=>if b=true then te (o3++fv) H4 λy H5=>∃c_,H5 D\.lst c_/\c_.length<sizeLine/\Nx (upd H5 D (.lst (c_++[y]))) else Nx H4) :
  vR J g tc te ip D H Q:=by
 subst mO;apply#[λi m bA H'=>m=n - i/\i<=n/\(∃o:List aL,bA=o++fv/\o.length=own)/\∃out,Pv i out H',#[n,by simp,gM _,#[_,Z,Aj],_,h0],?_];rintro i m bA H' ⟨rfl,hi,⟨o,rfl,ho⟩,out,p⟩;by_cases dY:i<n
 ·let#[go,k]:=uv i out H' dY p;apply .inr #[go,λg5 H2=>(∃o:List aL,g5=o++fv/\o.length=own)/\∃out,Pv (i+1) out H2,λg5 H2 q=>#[n - (i+1),by omega,Z,dY,q],λx H2 y=>?_];let#[o3,d,l3,q]:=k x H2 y;exact G x o H2 _ o3 ho d (q (λH2=>(∃o:List aL,o3++fv=o++fv/\o.length=own)/\∃out,Pv (i+1) out H2) λgm H2 z=>#[#[o3,Z,l3],gm,z])
 have e:i=n:=by omega
 subst e;exact .inl (F0 out H' p)
theorem jK{K:af}{a:Addr}{xs:ag}{g:TG}{tc:TT}{te:TE}{own:Nat}{fv:List aL}{dec:V->Hp->List aL->Prop}{D:Addr}{H:Hp}{Q:VK}{ip:St}(mO:ip=List.replicate own none++fv)(G:yq g own fv dec)(Pv:Nat->ag->Hp->Prop)
  (h0:Pv 0 [] (upd H D (.lst []))) (hl:∀i out H',i<=xs.length->Pv i out H'->dW K H' a xs) (hd:∀out H',Pv xs.length out H'->Q (.ref D) H')
  (uv:∀i x out H',xs[i]? = some x->Pv i out H'->∃o3,dec x H' o3/\o3.length=own/\∀Nx:Hp->Prop,(∀gm H2,Pv (i+1) gm H2->Nx H2)->
   tc (o3++fv) H' λb H4=>if b=true then te (o3++fv) H4 λy H5=>∃c_,H5 D\.lst c_/\c_.length<sizeLine/\Nx (upd H5 D (.lst (c_++[y]))) else Nx H4) :
  vR (An K a) g tc te ip D H Q:=by
 apply Cr mO G xs.length Pv h0 (λout H' p=>#[#[xs,hl _ _ _ (bo _) p,bo _],hd out H' p]) λi out H' hi p=>?_;let q:=hl i out H' (Nat.le_of_lt hi) p;apply#[#[xs,xs[i],q,by simp[hi]],λx H2 y=>?_];let#[e,y]:=y;subst e;exact uv i x out _ (y xs q) p
end L2
namespace jL
open PySem PySem.W PyProof.Rows
def Ok{α:Type}(f:Nat->Nat->Bool)(n:Nat):KasT α->(α->Prop)->Prop
 |.ret a,Q=>Q a
 |.ask i j k,Q=>i<n/\j<n/\Ok f n (k (f i j)) Q
theorem Ok.bind{α β:Type}{f:Nat->Nat->Bool}{n:Nat}{g:α->KasT β}{Q:β->Prop}:∀{t:KasT α} {R:α->Prop},Ok f n t R->(∀a,R a->Ok f n (g a) Q)->Ok f n (t.bind g) Q
 |.ret a,R,h,k=>k a h
 |.ask i j t,R,h,k=>#[h.1,h.2.1,Ok.bind h.2.2 k]
theorem Ok.imp{α:Type}{f:Nat->Nat->Bool}{n:Nat}{Q R:α->Prop}(k:∀a,Q a->R a):∀{t:KasT α},Ok f n t Q->Ok f n t R
 |.ret a,h=>k a h
 |.ask i j t,h=>#[h.1,h.2.1,Ok.imp k h.2.2]
theorem Ok.wp{α:Type}{f:Nat->Nat->Bool}{n:Nat}{cmp:Nat->Nat->(Bool->Ab->Prop)->Ab->Prop}{s:Ab}(hc:∀i j C,i<n->j<n->C (f i j) s->cmp i j C s){Q:α->Prop}{G:α->Ab->Prop}(k:∀a,Q a->G a s) :
  ∀{t:KasT α},Ok f n t Q->t.kasWp cmp G s
 |.ret a,h=>k a h
 |.ask i j t,h=>hc i j _ h.1 h.2.1 (Ok.wp hc k h.2.2)
structure Ord (f:Nat->Nat->Bool):Prop where
 fD:∀i,f i i=false
 trans:∀{i j k},f j i=false->f k j=false->f k i=false
 I_:∀{i j},f i j=true->f j i=false
section
variable{f:Nat->Nat->Bool}(O:Ord f){N:Nat}
abbrev at'(p:Array Nat)(i:Nat):Nat:=p.getD i 0
def Up(f:Nat->Nat->Bool)(p:Array Nat)(k:Nat):Prop:=∀i j,i<=j->j<k->f (at' p j) (at' p i)=false
def Down(f:Nat->Nat->Bool)(p:Array Nat)(k:Nat):Prop:=∀i j,i<=j->j<k->f (at' p i) (at' p j)=false
def qt(f:Nat->Nat->Bool)(p:Array Nat)(lo k:Nat):Prop:=∀i,lo<=i->i<k->f (at' p i) (at' p (k - 1))=false/\f (at' p (k - 1)) (at' p i)=false
def Good(N:Nat)(p:Array Nat):Prop:=p.Perm (List.range N).toArray
theorem Good.size{p:Array Nat}(h:Good N p):p.size=N:=by
 have:=h.size_eq;simpa using this
theorem Good.lt{p:Array Nat}(h:Good N p)(hN:0<N)(i:Nat):at' p i<N:=by
 unfold at';by_cases hi:i<p.size
 ·have e:p.getD i 0=p[i]:=by simp[Array.getD,hi]
  rw[e];have m:p[i]∈(List.range N).toArray:=h.mem_iff.mp (Array.getElem_mem hi);simpa using m
 have e:p.getD i 0=0:=by simp[Array.getD,hi]
 rw[e];exact hN
theorem Good.rev{p:Array Nat}(h:Good N p)(i j:Nat):Good N (kas_rev p i j):=(mirror_perm _ _ _ _).trans h
theorem Good.bub{p:Array Nat}(h:Good N p)(i j:Nat):Good N (bubble p i j):=(bubble_perm _ _ _).trans h
theorem Hl{p q:Array Nat}{i j:Nat}(h:p[i]? = q[j]?):at' p i=at' q j:=by
 unfold at';rw[Array.getD_eq_getD_getElem?,Array.getD_eq_getD_getElem?,h]
theorem Ca{p:Array Nat}{i j:Nat}(hj:j<=p.size)(k:Nat):at' (kas_rev p i j) k=if i<=k/\k<j then at' p (i+j - 1 - k) else at' p k:=by
 let e:=getElem?_mirror_all (i:=i) hj k;unfold kas_rev;split
 ·rename_i c
  rw[aJ c] at e;exact Hl e
 rename_i c
 rw[aB c] at e;exact Hl e
theorem T8{p:Array Nat}{k l:Nat}(hk:k<p.size)(hl:l<=k)(i:Nat):at' (bubble p k (k - l)) i=if i=l then at' p k else if l<i/\i<=k then at' p (i - 1) else at' p i:=by
 let e:=getElem?_bubble hk (k - l) Z1 i;rw[show k - (k - l)=l by omega] at e;by_cases c:i=l
 ·rw[aJ c] at e ⊢;exact Hl e
 rw[aB c] at e ⊢;split
 ·rename_i d
  rw[aJ d] at e;exact Hl e
 rename_i d
 rw[aB d] at e;exact Hl e
include O
theorem Up.more{p:Array Nat}{n:Nat}(h:Up f p n)(h1:1<=n)(c:f (at' p n) (at' p (n - 1))=false):Up f p (n+1):=λi j pe hj=>by
 by_cases e:j<n
 ·exact h i j pe e
 have e:j=n:=by omega
 subst e;by_cases e2:i=j
 ·subst e2;exact O.fD _
 exact O.trans (h i (j - 1) Z1 Z1) c
theorem Down.more{p:Array Nat}{n:Nat}(h:Down f p n)(h1:1<=n)(c:f (at' p (n - 1)) (at' p n)=false):Down f p (n+1):=λi j pe hj=>by
 by_cases e:j<n
 ·exact h i j pe e
 have e:j=n:=by omega
 subst e;by_cases e2:i=j
 ·subst e2;exact O.fD _
 exact O.trans c (h i (j - 1) Z1 Z1)
theorem OD{p:Array Nat}(g:Good N p)(hN:0<N):∀(m n:Nat),1<=n->Up f p n->Ok f N (kas_asc p m n) λr=>n<=r/\r<=n+m/\Up f p r/\(r<n+m->f (at' p r) (at' p (r - 1))=true)
 |0,n,_,h=>#[bo _,bo _,h,λq=>absurd q Z1]
 |m+1,n,h1,h=>by
  apply#[g.lt hN _,g.lt hN _,?_];dsimp only;by_cases c:f (at' p n) (at' p (n - 1))=true
  ·rw[aJ c];exact#[bo _,by omega,h,λ_=>c]
  rw[aB c];apply (OD g hN m (n+1) Z1 (h.more O h1 ⇑c)).imp λr ⟨a,b,u,z⟩=>#[by omega,by omega,u,λq=>z Z1]
theorem qt.rev{p:Array Nat}{lo k:Nat}(h:qt f p lo k)(hk:k<=p.size)(i:Nat):f (at' (kas_rev p lo k) i) (at' p i)=false/\f (at' p i) (at' (kas_rev p lo k) i)=false:=by
 rw[Ca hk];split
 ·rename_i c
  let#[a1,a2]:=h i c.1 c.2;let#[b1,b2]:=h (lo+k - 1 - i) Z1 Z1;exact#[O.trans a2 b1,O.trans b2 a1]
 exact#[O.fD _,O.fD _]
theorem Down.rev{p:Array Nat}{lo k n:Nat}(h:Down f p n)(l:qt f p lo k)(hk:k<=p.size):Down f (kas_rev p lo k) n:=λi j pe hj=>by
 let#[a1,_]:=l.rev O hk i;let#[_,b2]:=l.rev O hk j;exact O.trans (O.trans b2 (h i j pe hj)) a1
theorem Ko(hN:0<N):∀(m:Nat) (p:Array Nat) (n q:Nat),Good N p->1<=n->q+1<=n->n+m<=N->Down f p n->qt f p (n - (q+1)) n->
  Ok f N (kas_desc m p n q) λr=>Good N r.1/\n<=r.2.1/\r.2.1<=n+m/\Down f r.1 r.2.1/\r.2.2+1<=r.2.1/\qt f r.1 (r.2.1 - (r.2.2+1)) r.2.1
 |0,p,n,q,g,h1,hq,hn,d,l=>#[g,bo _,bo _,d,hq,l]
 |m+1,p,n,q,g,h1,hq,hn,d,l=>by
  apply#[g.lt hN _,g.lt hN _,?_];dsimp only;by_cases c:f (at' p n) (at' p (n - 1))=true
  ·rw[aJ c];have d2:Down f p (n+1):=d.more O h1 (O.I_ c)
   have one:∀p':Array Nat,qt f p' (n+1 - (0+1)) (n+1):=λp' i h2 h3=>by
    have e:i=n+1 - 1:=by omega
    subst e;exact#[O.fD _,O.fD _]
   by_cases Ut:q > 0
   ·rw[aJ Ut];have hk:n<=p.size:=by rw[g.size];omega
    exact (Ko hN m _ (n+1) 0 (g.rev _ _) Z1 Z1 Z1 (d2.rev O l hk) (one _)).imp λr ⟨a,b,b2,z⟩=>#[a,by omega,by omega,z]
   rw[aB Ut];exact (Ko hN m _ (n+1) 0 g Z1 Z1 Z1 d2 (one _)).imp λr ⟨a,b,b2,z⟩=>#[a,by omega,by omega,z]
  rw[aB c];apply#[g.lt hN _,g.lt hN _,?_];dsimp only;have c:f (at' p n) (at' p (n - 1))=false:=⇑c
  by_cases e:f (at' p (n - 1)) (at' p n)=true
  ·rw[aJ e];exact#[g,bo _,by show n<=n+(m+1);omega,d,hq,l]
  rw[aB e];have e:f (at' p (n - 1)) (at' p n)=false:=⇑e
  apply (Ko hN m p (n+1) (q+1) g Z1 Z1 Z1 (d.more O h1 e) λi h2 h3=>?_).imp λr ⟨a,b,b2,z⟩=>#[a,by omega,by omega,z];show f (at' p i) (at' p n)=false/\f (at' p n) (at' p i)=false;by_cases ei:i=n
  ·subst ei;exact#[O.fD _,O.fD _]
  let#[a1,a2]:=l i Z1 Z1;exact#[O.trans e a1,O.trans a2 c]
def O0(f:Nat->Nat->Bool)(N dh:Nat)(r:Nat × Array Nat):Prop:=Good N r.2/\1<=r.1/\r.1<=dh/\Up f r.2 r.1
theorem UZ(hN:0<N){p:Array Nat}{n dh:Nat}(g:Good N p)(h1:1<=n)(hn:n<=dh)(hr:dh<=N)(d:Down f p n):Ok f N (kas_tail3 n dh p) (O0 f N dh):=by
 unfold kas_tail3
 have u:Up f (kas_rev p 0 n) n:=λi j pe hj=>by
  rw[Ca (by rw[g.size];omega),Ca (by rw[g.size];omega),aJ Z1,aJ Z1];exact d _ _ Z1 Z1
 exact (OD O (g.rev _ _) hN (dh - n) n h1 u).bind λm ⟨a,b,u,_⟩=>#[g.rev _ _,by show 1<=m;omega,by show m<=dh;omega,u]
theorem XB(hN:0<N){p:Array Nat}{n dh:Nat}(g:Good N p)(hn:n+1<=dh)(hr:dh<=N)(d:Down f p (n+1)):Ok f N (kas_descPart n dh p) (O0 f N dh):=by
 unfold kas_descPart;apply (Ko O hN (dh - (n+1)) p (n+1) 0 g Z1 Z1 Z1 d λi h2 h3=>?_).bind λr ⟨g',a,b,d',hq,l⟩=>?_
 ·have e:i=n+1 - 1:=by omega
  subst e;exact#[O.fD _,O.fD _]
 split
 ·exact UZ O hN (g'.rev _ _) Z1 Z1 hr (d'.rev O l (by rw[g'.size];omega))
 exact UZ O hN g' Z1 Z1 hr d'
theorem iL_(hN:0<N){p:Array Nat}{dh:Nat}(g:Good N p)(h1:1<=dh)(hr:dh<=N):Ok f N (kas_count dh p) (O0 f N dh):=by
 unfold kas_count;apply (OD O g hN (dh - 1) 1 (bo _) λi j pe hj=>?_).bind λn ⟨a,b,u,st⟩=>?_
 ·have e:i=j:=by omega
  subst e;exact O.fD _
 by_cases e:(n == dh)=true
 ·rw[aJ e];exact#[g,a,by show n<=dh;omega,u]
 rw[aB e];have e:n≠dh:=⇑e
 let c:=st Z1;by_cases h2:n > 1
 ·rw[aJ h2];apply#[g.lt hN _,g.lt hN _,?_];dsimp only;by_cases c2:f (at' p 0) (at' p (n - 1))=true
  ·rw[aJ c2];exact#[g,a,by show n<=dh;omega,u]
  rw[aB c2];have c2:f (at' p 0) (at' p (n - 1))=false:=⇑c2
  apply XB O hN (g.rev _ _) Z1 hr λi j pe hj=>?_;by_cases ej:j<n
  ·rw[Ca (by rw[g.size];omega),Ca (by rw[g.size];omega),aJ Z1,aJ Z1];exact u _ _ Z1 Z1
  have ej:j=n:=by omega
  subst ej;by_cases ei:i=j
  ·subst ei;exact O.fD _
  rw[Ca (by rw[g.size];omega),Ca (by rw[g.size];omega),aJ Z1,aB Z1];exact O.trans (O.trans (O.I_ c) c2) (u 0 _ Z1 Z1)
 rw[aB h2];have e1:n=1:=by omega
 subst e1;apply XB O hN g Z1 hr λi j pe hj=>?_;by_cases ei:i=j
 ·subst ei;exact O.fD _
 have q1:i=0:=by omega
 have q2:j=1:=by omega
 subst q1;subst q2;exact O.I_ c
theorem P8(hN:0<N){p:Array Nat}{k:Nat}(g:Good N p)(u:Up f p k):∀(m l r:Nat),r - l<=m->l<=r->r<=k->(∀i,i<l->f (at' p k) (at' p i)=false)->(∀i,r<=i->i<k->f (at' p k) (at' p i)=true)->
  Ok f N (kas_place p k m l r) λx=>x<=k/\(∀i,i<x->f (at' p k) (at' p i)=false)/\∀i,x<=i->i<k->f (at' p k) (at' p i)=true
 |0,l,r,hm,hl,hr,h1,h2=>by
  have e:l=r:=by omega
  subst e;exact#[hr,h1,h2]
 |m+1,l,r,hm,hl,hr,h1,h2=>by
  unfold kas_place;by_cases e:l ≥ r
  ·rw[aJ e];have e:l=r:=by omega
   subst e;exact#[hr,h1,h2]
  rw[aB e];apply#[g.lt hN _,g.lt hN _,?_];dsimp only;by_cases c:f (at' p k) (at' p ((l+r) / 2))=true
  ·rw[aJ c];apply P8 hN g u m l _ Z1 Z1 Z1 h1 λi h3 h4=>?_;by_cases ei:f (at' p k) (at' p i)=true
   ·exact ei
   have ei:f (at' p k) (at' p i)=false:=⇑ei
   have:=O.trans (u _ i h3 h4) ei;rw[c] at this;cases this
  rw[aB c];have c:f (at' p k) (at' p ((l+r) / 2))=false:=⇑c
  exact P8 hN g u m _ r Z1 Z1 hr (λi h3=>O.trans (u i _ Z1 Z1) c) h2
theorem T9(hN:0<N):∀(m:Nat) (p:Array Nat) (k:Nat),Good N p->k+m=N->Up f p k->Ok f N (kas_bin m p k) λr=>Good N r/\Up f r N
 |0,p,k,g,e,u=>by
  have e:k=N:=by omega
  subst e;exact#[g,u]
 |m+1,p,k,g,e,u=>by
  unfold kas_bin;apply (P8 O hN g u k 0 k Z1 Z1 (bo _) (λi h=>absurd h Z1) λi h1 h2=>absurd h2 Z1).bind λl ⟨hl,h1,h2⟩=>?_;have hk:k<p.size:=by rw[g.size];omega
  apply T9 hN m _ (k+1) (g.bub _ _) Z1 λi j pe hj=>?_;rw[T8 hk hl,T8 hk hl];by_cases ej:j=l
  ·rw[aJ ej];by_cases ei:i=l
   ·rw[aJ ei];exact O.fD _
   rw[aB ei,aB Z1];exact h1 i Z1
  rw[aB ej];by_cases Wg:l<j/\j<=k
  ·rw[aJ Wg];by_cases ei:i=l
   ·rw[aJ ei];exact O.I_ (h2 (j - 1) Z1 Z1)
   rw[aB ei];by_cases Wj:l<i/\i<=k
   ·rw[aJ Wj];exact u _ _ Z1 Z1
   rw[aB Wj];exact u _ _ Z1 Z1
  rw[aB Wg];rw[aB (show ¬i=l by omega),aB (show ¬(l<i/\i<=k) by omega)];exact u _ _ Z1 Z1
theorem Va(hN:0<N):Ok f N (kas_sort N) λp=>Good N p/\Up f p N:=by
 unfold kas_sort;apply (iL_ O hN (p:=(List.range N).toArray) (Array.Perm.refl _) hN (bo _)).bind λr ⟨g,h1,h2,u⟩=>?_;split
 ·rename_i c
  rw[show max r.1 1=r.1 by omega];exact T9 O hN _ _ _ g Z1 u
 rename_i c
 have e:r.1=N:=by omega
 exact#[g,e▸u]
end
end jL
namespace jL
open PySem PySem.W PyProof.Rows
section
variable{prog:Ad}{w:Af}{A:Ag}{E:Aa->Ab->Prop}{s:Ab}
def yu(prog:Ad)(w:Af)(A:Ag)(f:Nat->Nat->Bool)(vs:ak)(s:Ab):Prop:=
 ∃κ,(∀Q:SortKind->Ab->Prop,Q κ s->wpAny (model prog w) A (keyKind' vs.toArray) Q (λ_ _=>False) s)/\∀i j C,i<vs.length->j<vs.length->C (f i j) s->kas_ask prog w A κ vs i j C s
def Hi(a:Addr)(h h':Heap):Prop:=∀b o,b≠a->h.get? b\o->h'.get? b\o
def nM(p:Array Nat)(vs:ak):ak:=p.toList.map λi=>vs.getD i Value.none
theorem Xz(vs:ak):nM (List.range vs.length).toArray vs=vs:=by
 unfold nM;apply List.ext_getElem? ?_;intro i;simp only[dU];by_cases h:i<vs.length
 ·simp[h]
 simp[Nat.le_of_not_lt h]
theorem ik_{a:Addr}{vs:ak}{n:Nat}{f:Nat->Nat->Bool}{P:Fin->Ab->Prop}(O:Ord f)(ho:s.heap.get? a\seqObj "list" vs.toArray n)(bS:vs.length<64)
  (BD:2<=vs.length->∀h',Hi a s.heap h'->yu prog w A f vs { s with heap:=h' })
  (h:∀(p:Array Nat) (h':Heap) (e:Nat),Good vs.length p->Up f p vs.length->h'.get? a\seqObj "list" (nM p vs).toArray e->Hi a s.heap h'->P (.done (.ret .none)) { s with heap:=h' }) :
  wpAny (model prog w) A (Builtin.«list.sort» #[[.ref a],[]]) P E s:=by
 have haz:a<s.heap.objs.size:=cK ho;obtain⟨e1,Di⟩:∃e1,(s.heap.update a (Obj.mapSeq λ_=>(#[]:Array Aa))).get? a\seqObj "list" #[] e1:=#[_,get?_update_seq ho (λ_=>#[])]
 have FD:vs.length<=sizeLine:=by
  have:=cn;omega
 rw[list_sort_plain];apply ao (listItems_at ho Z (ao (listUpdate_at ho Z (ao (seqEpoch_at Di Z (ao (wpAny_newTuple (ao (wpAny_newList (mZ ?_) (gM _))) FD)))) ⇑FD (gM _))))
 have keep:∀g:Array Aa->Array Aa,Hi a s.heap ((((s.heap.update a (Obj.mapSeq λ_=>(#[]:Array Aa))).push (seqObj "tuple" vs.toArray 0)).push (seqObj "list" #[] 0)).update a (Obj.mapSeq g)):=λg b o hb e=>by
  apply (nB _ _ (Ne.symm hb)).trans (cj _ (cj _ ?_));exact (nB _ _ (Ne.symm hb)).trans e
 have FJ:Hi a s.heap (((s.heap.update a (Obj.mapSeq λ_=>(#[]:Array Aa))).push (seqObj "tuple" vs.toArray 0)).push (seqObj "list" #[] 0)):=λb o hb e=>
  cj _ (cj _ ((nB _ _ (Ne.symm hb)).trans e))
 have Dh:(((s.heap.update a (Obj.mapSeq λ_=>(#[]:Array Aa))).push (seqObj "tuple" vs.toArray 0)).push (seqObj "list" #[] 0)).get? a\seqObj "list" #[] e1:=cj _ (cj _ Di);show wpAny (model prog w) A _ P E { s with heap:=((s.heap.update a (Obj.mapSeq λ_=>(#[]:Array Aa))).push (seqObj "tuple" vs.toArray 0)).push (seqObj "list" #[] 0) };dsimp only;by_cases h2:vs.toArray.size<2
 ·rw[aJ h2,aJ h2];apply ao (aK ?_);rw[StateT.run_pure]
  have xK:((vs.toArray.zip vs.toArray).map λx:Keyed=>x.2)=(nM (List.range vs.length).toArray vs).toArray:=by
   rw[Xz];apply Array.ext' ?_;simp[List.map_snd_zip]
  apply ao (aK (ao (seqEpoch_at Dh Z (ao (listUpdate_at Dh Z ?_ (gM _) ?_)))))
  ·simp only[bne_self_eq_false,iB,gz];apply aK (h (List.range vs.length).toArray _ _ (Array.Perm.refl _) (λi j pe hj=>?_) ((get?_update_seq Dh _).trans (dF (λz=>some (seqObj "list" z _)) xK)) (keep _))
   have e:i=j:=by
    simp only[cq] at h2;omega
   subst e;exact O.fD _
  have e:((vs.toArray.zip vs.toArray).map λx:Keyed=>x.2).size<=sizeLine+1:=by
   simp only[Array.size_map,Array.size_zip,cq];omega
  exact e
 rw[aB h2,aB h2]
 have fV:2<=vs.length:=by
  simp only[cq] at h2;omega
 let#[κ,hk,hc]:=BD fV _ FJ;apply ao (wpAny_mono (hk (λk s'=>k=κ/\s'=_) #[Z,Z]) (λk s' Gp=>?_) λ_ _ x=>x.elim);let#[rfl,rfl]:=Gp
 apply ao (wpAny_mono (kat_run (ks:=vs) (vs:=vs) (G:=λp s'=>s'={ s with heap:=((s.heap.update a (Obj.mapSeq λ_=>(#[]:Array Aa))).push (seqObj "tuple" vs.toArray 0)).push (seqObj "list" #[] 0) }/\Good vs.length p/\Up f p vs.length)
  (Q:=λe_ s'=>∃p:Array Nat,arrOf e_=p.map (kas_item (vs.toArray.zip vs.toArray))/\failedOf e_=none/\s'={ s with heap:=((s.heap.update a (Obj.mapSeq λ_=>(#[]:Array Aa))).push (seqObj "tuple" vs.toArray 0)).push (seqObj "list" #[] 0) }/\Good vs.length p/\Up f p vs.length)
  rfl fV bS (λp e_ s' _ q1 q2 q3=>#[p,q1,q2,q3]) (Ok.wp hc (λp q=>#[Z,q]) (Va O Z1))) ?_ λ_ _ x=>x)
 rintro⟨⟨⟩,e_⟩ s' ⟨p,Oo,hf,qA,g,u⟩;have qA:s'={ s with heap:=((s.heap.update a (Obj.mapSeq λ_=>(#[]:Array Aa))).push (seqObj "tuple" vs.toArray 0)).push (seqObj "list" #[] 0) }:=qA;subst qA
 have xK:((arrOf e_).map λx:Keyed=>x.2)=(nM p vs).toArray:=by
  rw[Oo];apply Array.ext' ?_;unfold nM;simp only[Array.map_map,Array.toList_map,List.toList_toArray];apply vf λi _=>?_;show (kas_item (vs.toArray.zip vs.toArray) i).2=_;unfold kas_item;by_cases hi:i<vs.length
  ·simp[Array.getD,hi]
  simp[Array.getD,hi,Nat.le_of_not_lt hi]
 have esz:((arrOf e_).map λx:Keyed=>x.2).size=vs.length:=by
  rw[xK];unfold nM;simp only[cq,ay,qS];exact g.size
 apply ao (seqEpoch_at Dh Z (ao (listUpdate_at Dh Z ?_ (gM _) (by rw[esz];omega))));rw[hf];simp only[bne_self_eq_false,iB,gz];exact aK (h p _ _ g u ((get?_update_seq Dh _).trans (dF (λz=>some (seqObj "list" z _)) xK)) (keep _))
theorem W0{x:Aa}{f:Nat->Nat->Bool}{Q:Aa->Ab->Prop}(O:Ord f)
  (mV:wpAny (model prog w) A.in1 (collect x) (λvs s1=>vs.length<64/\(2<=vs.length->∀h':Heap,(∀b o,s1.heap.get? b\o->h'.get? b\o)->yu prog w A.in1.in1 f vs { s1 with heap:=h' }) /\
   ∀(p:Array Nat) (h':Heap) (e:Nat),Good vs.length p->Up f p vs.length->h'.get? s1.heap.objs.size\seqObj "list" (nM p vs).toArray e->(∀b o,s1.heap.get? b\o->h'.get? b\o)->Q (.ref s1.heap.objs.size) { s1 with heap:=h' }) E s) :
  wpAny (model prog w) A (call (.builtin "sorted") [x]) Q E s:=by
 apply Calls.call_function_entry kind_sorted plain_sorted entry_sorted (args_sorted1 _) ?_;unfold Builtin.«sorted»;apply ao (m:=checkCount "sorted" 1 1 _) (aK (ao (wpAny_mono mV (λvs s1 q=>?_) λ_ _ z=>z)));let#[bS,BD,hQ]:=q;apply ao (wpAny_newList ?_ (by have:=cn;omega));have hn:(s1.heap.push (seqObj "list" vs.toArray 0)).get? s1.heap.objs.size\seqObj "list" vs.toArray 0:=eE _ Z
 have old:∀h',Hi s1.heap.objs.size (s1.heap.push (seqObj "list" vs.toArray 0)) h'->∀b o,s1.heap.get? b\o->h'.get? b\o:=λh' k b o e=>
  k b o (eJ (cK e)) (cj _ e)
 apply ao (mZ (uJ slot_list_sort #[_,hn,Z] entry_list_sort (ik_ O hn bS (λh2 h' k=>BD h2 h' (old h' k)) λp h' e g u q k=>#[_,Z,?_]) (args_list_sort _)));exact aK #[_,Z,hQ p h' e g u q (old h' k)]
end
end jL
namespace L2
open PySem PySem.Spec PyProof.Rows PySem.W jL
def jy:Key->Key->Bool
 |.inl i,.inl j=>decide (i<j)
 |.inl _,.inr _=>true
 |.inr _,.inl _=>false
 |.inr x,.inr y=>decide (x.cps.toList<y.cps.toList)
def bQ:az->az->Bool
 |[],[]=>false
 |[],_::_=>true
 |_::_,[]=>false
 |a::r,b::q=>if a=b then bQ r q else jy a b
theorem kl_:∀a:Key,jy a a=false
 |.inl i=>by simp[jy]
 |.inr x=>by simp[jy,List.lt_irrefl]
theorem Wm:∀{a b:Key},jy a b=true->jy b a=false
 |.inl i,.inl j,h=>by
  simp only[jy,decide_eq_true_eq,decide_eq_false_iff_not] at *;omega
 |.inl _,.inr _,_=>rfl
 |.inr _,.inl _,h=>by cases h
 |.inr x,.inr y,h=>by
  simp only[jy,decide_eq_true_eq,decide_eq_false_iff_not] at *;exact λq=>List.lt_irrefl _ (List.lt_trans h q)
theorem U_:∀{a b:Key},jy a b=false->jy b a=false->a=b
 |.inl i,.inl j,h,h2=>by
  simp only[jy,decide_eq_false_iff_not] at *;rw[show i=j by omega]
 |.inl _,.inr _,h,_=>by cases h
 |.inr _,.inl _,_,h=>by cases h
 |.inr x,.inr y,h,h2=>by
  simp only[jy,decide_eq_false_iff_not] at *;rw[ext_toList (List.le_antisymm (List.not_lt.mp h2) (List.not_lt.mp h))]
theorem gB_:∀{a b c:Key},jy a b=true->jy b c=true->jy a c=true
 |.inl i,.inl j,.inl k,h,h2=>by
  simp only[jy,decide_eq_true_eq] at *;omega
 |.inl _,.inl _,.inr _,_,_=>rfl
 |.inl _,.inr _,.inr _,_,_=>rfl
 |.inl _,.inr _,.inl _,_,h=>by cases h
 |.inr _,.inl _,_,h,_=>by cases h
 |.inr _,.inr _,.inl _,_,h=>by cases h
 |.inr x,.inr y,.inr z,h,h2=>by
  simp only[jy,decide_eq_true_eq] at *;exact List.lt_trans h h2
theorem PU:∀a:az,bQ a a=false
 |[]=>rfl
 |a::r=>by
  unfold bQ;rw[aJ Z];exact PU r
theorem QC:∀{a b:az},bQ a b=true->bQ b a=false
 |[],[],h=>by cases h
 |[],_::_,_=>rfl
 |_::_,[],h=>by cases h
 |a::r,b::q,h=>by
  unfold bQ at h ⊢;by_cases e:a=b
  ·rw[aJ e] at h;rw[aJ e.symm];exact QC h
  rw[aB e] at h;rw[aB (Ne.symm e)];exact Wm h
theorem PR:∀{a b:az},bQ a b=false->bQ b a=false->a=b
 |[],[],_,_=>rfl
 |[],_::_,h,_=>by cases h
 |_::_,[],_,h=>by cases h
 |a::r,b::q,h,h2=>by
  unfold bQ at h h2;by_cases e:a=b
  ·rw[aJ e] at h;rw[aJ e.symm] at h2;rw[e,PR h h2]
  rw[aB e] at h;rw[aB (Ne.symm e)] at h2;exact absurd (U_ h h2) e
theorem Xn:∀{a b c:az},bQ a b=true->bQ b c=true->bQ a c=true
 |[],_,[],h,h2=>by
  rename_i b
  cases b with
  |nil=>cases h
  |cons _ _=>cases h2
 |[],_,_::_,_,_=>rfl
 |_::_,[],_,h,_=>by cases h
 |_::_,_::_,[],_,h=>by cases h
 |a::r,b::q,c::t,h,h2=>by
  unfold bQ at h h2 ⊢;by_cases e:a=b
  ·subst e;rw[aJ Z] at h;by_cases e2:a=c
   ·rw[aJ e2] at h2 ⊢;exact Xn h h2
   rw[aB e2] at h2 ⊢;exact h2
  rw[aB e] at h;by_cases e2:b=c
  ·subst e2;rw[aB e];exact h
  rw[aB e2] at h2;let h3:=gB_ h h2;rw[aB (λq=>by rw[q,kl_] at h3;cases h3)];exact h3
theorem W7{a b c:az}(h:bQ b a=false)(h2:bQ c b=false):bQ c a=false:=by
 cases e:bQ c a with
 |false=>rfl
 |true=>
  by_cases e1:bQ a b=true
  ·have:=Xn e e1;rw[h2] at this;cases this
  have e1:bQ a b=false:=⇑e1
  have:=PR e1 h;subst this;rw[h2] at e;cases e
def Ef(ks:List az):Prop:=ks.Pairwise λa b=>bQ b a=false
theorem Xf:∀{a b:List az},a.Perm b->Ef a->Ef b->a=b
 |[],b,p,_,_=>by
  have:=p.length_eq;cases b with
  |nil=>rfl
  |cons _ _=>cases this
 |x::r,[],p,_,_=>by
  have:=p.length_eq;cases this
 |x::r,y::q,p,h1,h2=>by
  let#[a1,a2]:=List.pairwise_cons.mp h1;let#[b1,b2]:=List.pairwise_cons.mp h2
  have e:x=y:=by
   rcases cU.mp (p.mem_iff.mp fM) with m|m
   ·exact m
   rcases cU.mp (p.mem_iff.mpr fM) with m2|m2
   ·exact m2.symm
   exact PR (b1 _ m) (a1 _ m2)
  subst e;rw[Xf ((List.perm_cons _).mp p) a2 b2]
def aZ(ks:List az):List az:=ks.mergeSort λa b=>!bQ b a
theorem nO(ks:List az):(aZ ks).Perm ks:=List.mergeSort_perm _ _
theorem g6_(ks:List az):Ef (aZ ks):=by
 have:=List.pairwise_mergeSort (le:=λa b=>!bQ b a) (λa b c h1 h2=>by
  simp only[Bool.not_eq_true'] at *;exact W7 h1 h2) (λa b=>by
  simp only[Bool.or_eq_true,Bool.not_eq_true'];by_cases e:bQ b a=true
  ·exact .inr (QC e)
  exact .inl ⇑e) ks
 exact this.imp λh=>by simpa using h
theorem Qt{ks uf:List az}(p:uf.Perm ks)(h:Ef uf):uf=aZ ks:=Xf (p.trans (nO ks).symm) h (g6_ ks)
theorem Iy{α:Type}{p:Array Nat}{n:Nat}(g:Good n p)(F:Nat->α):(p.toList.map F).Perm ((List.range n).map F):=by
 have e:p.toList.Perm (List.range n):=by
  have:=Array.perm_iff_toList_perm.mp g;simpa using this
 exact e.map F
theorem OV{p:Array Nat}{ks:List az}{f:Nat->Nat->Bool}(hf:∀i j,i<ks.length->j<ks.length->f i j=bQ (ks.getD i []) (ks.getD j []))(g:Good ks.length p)(u:Up f p ks.length):Ef (p.toList.map λi=>ks.getD i []):=by
 unfold Ef;rw[qQ,List.pairwise_iff_getElem];intro i j hi hj pe;let hs:=g.size;rw[qS] at hi hj;have NY:j<ks.length:=by omega
 let q:=u i j (Nat.le_of_lt pe) NY;have hN:0<ks.length:=by omega
 rw[hf _ _ (g.lt hN _) (g.lt hN _)] at q;have e1:at' p i=p.toList[i]:=by simp[at',Array.getD,hi]
 have e2:at' p j=p.toList[j]:=by simp[at',Array.getD,hj]
 rw[e1,e2] at q;exact q
theorem P6(ks:List az):Ord λi j=>bQ (ks.getD i []) (ks.getD j []):=#[λ_=>PU _,λh h2=>W7 h h2,λh=>QC h]
theorem IH{α:Type}(d:α)(l:List α):((List.range l.length).map λi=>l.getD i d)=l:=by
 apply List.ext_getElem? ?_;intro i;simp only[dU];by_cases h:i<l.length
 ·simp[h]
 simp[Nat.le_of_not_lt h]
theorem PV{ys:ag}{vs:ak}(r:Vals ys vs){p:Array Nat}(g:Good vs.length p):Vals (p.toList.map λi=>ys.getD i .non) (nM p vs):=by
 unfold nM
 have key:∀l:List Nat,(∀i∈l,i<vs.length)->Vals (l.map λi=>ys.getD i .non) (l.map λi=>vs.getD i Value.none):=λl=>by
  induction l with
  |nil=>exact λ_=>.nil
  |cons i l ih=>
   intro h;apply .cons ?_ (ih λj hj=>h j (eR _ hj));let hi:=h i fM;have hy:i<ys.length:=by rw[r.length];exact hi
   let#[u,hu,ru]:=r.get (cE hy);have e1:ys.getD i .non=ys[i]:=by simp[hy]
   have e2:vs.getD i Value.none=u:=by simp[hu]
   show RelV (ys.getD i .non) (vs.getD i Value.none);rw[e1,e2];exact ru
 apply key p.toList λi hi=>?_;have m:i∈(List.range vs.length).toArray:=g.mem_iff.mp ⇑hi;simpa using m
theorem Uc:∀{ss:ae} {vs:ak},Vals (ss.map V.str) vs->StrsAre vs ss
 |[],_,.nil=>.nil
 |x::r,_,.cons h t=>by
  let#[tk,rfl]:=h;exact .cons x tk (Uc t)
def nF(ss:ae):ae:=(aZ (ss.map λx=>[Sum.inr x])).map λk=>match k with
 |[.inr x]=>x
 |_=>⟨#[]⟩
def dQ(x:Str):az:=[Sum.inr x]
theorem hO_{prog:Ad}{w:Af}{A:Ag}{s:Ab}{ss:ae}{vs:ak}(r:StrsAre vs ss)(h2:2<=vs.length):yu prog w A (λi j=>bQ ((ss.map dQ).getD i []) ((ss.map dQ).getD j [])) vs s:=by
 apply#[oneType',λQ q=>?_,λi j C hi hj hC=>?_]
 ·match vs,h2 with
  |v₁::YO::t,_=>
   rw[keyKind_strs r];exact aK q
 unfold kas_ask;rw[keyLt'_oneType]
 have look:∀k,k<vs.length->∃x t,vs.getD k Value.none=.str x t/\(ss.map dQ).getD k []=[Sum.inr x]:=λk hk=>by
  let e:=r.strs;let#[x,t,q]:=r.all vs[k] (nU hk);apply#[x,t,by simp[hk,q],?_]
  have UK:k<ss.length:=by
   rw[<- e,ay];exact hk
  have e2:ss[k]=x:=by
   have e3:(vs.map strOf)[k]? = ss[k]?:=by rw[e]
   rw[dU,cE hk,cE UK,q] at e3;exact (d7 e3).symm
  simp[UK,e2,dQ]
 let#[x,t,e1,e2]:=look i hi;let#[y,u,e3,e4]:=look j hj;rw[e1,e3];dsimp only at hC;rw[e2,e4] at hC;apply oneLt_str ?_;unfold bQ at hC;by_cases e:x=y
 ·subst e;rw[aJ Z] at hC;have:decide (x.cps.toList<x.cps.toList)=false:=by simp[List.lt_irrefl]
  rw[this];exact hC
 rw[aB (λq=>e (h9 q))] at hC;exact hC
def zi:Key->Bool
 |.inl _=>false
 |.inr _=>true
theorem gH_{prog:Ad}{w:Af}{A:Ag}{E:Aa->Ab->Prop}{s:Ab}{c:Bool}{a b:Key}{p q:Aa}{Q:Bool->Ab->Prop}(ra:RelV (kV a) p)(rb:RelV (kV b) q)(hk:zi a=zi b)(h:Q (jy a b) s) :
  wpAny (model prog w) A (oneLt' c p q) Q E s:=by
 cases a with
 |inl i=>
  cases b with
  |inr y=>cases hk
  |inl j=>
   let#[t,rfl]:=ra;let#[u,rfl]:=rb;cases c with
   |true=>exact oneLt_int h
   |false=>exact kat_one _ _ (lt_int (show PySem.W.BoolBack Q (.bool _) s from h))
 |inr x=>
  cases b with
  |inl j=>cases hk
  |inr y=>
   let#[t,rfl]:=ra;let#[u,rfl]:=rb;cases c with
   |true=>exact oneLt_str h
   |false=>exact kat_one _ _ (PyProof.Rows.lt_str (show PySem.W.BoolBack Q (.bool _) s from h))
theorem Vj{a b:Key}(hk:zi a=zi b):mX (kV a) (kV b)=decide (a=b):=by
 cases a with
 |inl i=>
  cases b with
  |inr y=>cases hk
  |inl j=>
   show (i == j)=_;by_cases e:i=j
   ·subst e;simp
   ·rw[dH (λq=>e (Sum.inl.inj q))];simpa using e
 |inr x=>
  cases b with
  |inl j=>cases hk
  |inr y=>
   show (x == y)=_;by_cases e:x=y
   ·subst e;simp
   rw[dH (λq=>e (h9 q))];simpa using e
theorem VN(a:Key):uF (kV a)=true:=by cases a<;>rfl
theorem Xx{prog:Ad}{w:Af}{A:Ag}{s:Ab}{Q:Bool->Ab->Prop}:∀{k1 k2:az} {us vs:ak} (i:Nat),Vals (k1.map kV) us->Vals (k2.map kV) vs->k1.map zi=k2.map zi->Q (bQ k1 k2) s->KatLex prog w A true false Q (us.zip vs) i s
 |[],[],_,_,i,.nil,.nil,_,h=>h
 |[],_::_,_,_,_,_,_,h,_=>by cases h
 |_::_,[],_,_,_,_,_,h,_=>by cases h
 |a::k1,b::k2,u::us,v::vs,i,.cons ra r1,.cons rb r2,hk,h=>by
  let#[e1,e2]:=List.cons.inj hk;apply kat_cons ?_;apply Hc ra rb (VN a) (VN b) prog w _ _ ?_;rw[Vj e1];unfold bQ at h;by_cases e:a=b
  ·rw[aJ e] at h;rw[cb e];exact kat_yes (Xx (i+1) r1 r2 e2 h)
  rw[aB e] at h;rw[dH e];exact kat_no (gH_ ra rb e1 h)
def bC(K:af)(H:Hp):ag->List az->Prop:=Paired λy k=>∃a,y=V.ref a/\H a\.tup (k.map kV)
def BX(ks:List az)(sh:List Bool):Prop:=sh≠[]/\∀k∈ks,k.map zi=sh
theorem V4{X:Cx}{pins:List (Addr × Obj)}{σ:St}{H:Hp}{s s':Ab}{A:Ag}{ys:ag}{ks:List az}{sh:List Bool}{vs:ak}(I:Inv X pins σ H s)(r:Vals ys vs)(t:bC X.K H ys ks)(al:BX ks sh)(h2:2<=vs.length)
  (kp:∀b o,s.heap.get? b\o->s'.heap.get? b\o):yu X.prog X.w A (λi j=>bQ (ks.getD i []) (ks.getD j [])) vs s':=by
 have look:∀k,k<vs.length->∃a its,vs.getD k Value.none=.ref a/\Vals ((ks.getD k []).map kV) its/\IsTup s'.heap a its.toArray/\ks.getD k []∈ks:=λk hk=>by
  have hy:k<ys.length:=by rw[r.length];exact hk
  have zv:k<ks.length:=by rw[<- bH t];exact hy
  let#[u,hu,ru]:=r.get (cE hy)
  have gen:∀{ys:ag} {ks:List az} (k:Nat) (hy:k<ys.length) (zv:k<ks.length),bC X.K H ys ks->∃a,ys[k]=V.ref a/\H a\.tup (ks[k].map kV):=λ{ys ks} k hy zv t=>by
   induction t generalizing k with
   |nil=>exact absurd hy Z2
   |cons h t ih=>
    cases k with
    |zero=>exact h
    |succ k=>exact ih k ⇑hy ⇑zv
  let#[a,e,sq]:=gen k hy zv t;let#[its,ri,ti,_]:=I.tuple (fN.of sq);rw[e] at ru;cases ru;have e2:ks.getD k []=ks[k]:=by simp[zv]
  apply#[a,its,by simp[hu],by rw[e2];exact ri,ti.keeps kp,?_];rw[e2];exact nU zv
 let#[mQ,GF]:=al
 obtain⟨c,EO,rfl⟩:∃c EO,sh=c::EO:=by
  cases sh with
  |nil=>exact absurd Z mQ
  |cons c EO=>exact#[c,EO,Z]
 apply#[tuples' true,λQ q=>?_,λi j C hi hj hC=>?_]
 ·have BM:∀l:ak,(∀v∈l,∃(a:Addr) (its:ak) (k:az),v=.ref a/\Vals (k.map kV) its/\IsTup s'.heap a its.toArray/\k.map zi=c::EO)->∃fs,KatTups s'.heap l fs/\fs.length=l.length/\∀v∈fs,Looks (model X.prog X.w) s'.heap (typeOf v) (.type (if c then "str" else "int")):=λl=>by
   induction l with
   |nil=>exact λ_=>#[[],.nil,Z,λ_ h=>nomatch h]
   |cons v l ih=>
    intro h;let#[fs,h1,h2,h3]:=ih λv hv=>h v (eR _ hv);let#[a,its,k,rfl,rv,#[o,ho,hc,n,hd],hk]:=h v fM
    match k,its,rv,hk with
    |k0::k,u::its,.cons r0 _,hk=>
     apply#[u::fs,.cons ho hc hd Z2 h1,by simp[h2],λv hv=>?_];rcases cU.mp hv with e|hv
     ·subst e;let e0:=(List.cons.inj hk).1;cases k0 with
      |inl i=>
       let#[t,rfl]:=r0;rw[<- e0];exact .now
      |inr x=>
       let#[t,rfl]:=r0;rw[<- e0];exact .now
     exact h3 v hv
  let#[fs,h1,h3,h4]:=BM vs λv hv=>by
   let#[k,hk,rfl]:=ku hv;let#[a,its,e,rv,ti,m]:=look k hk;apply#[a,its,_,?_,rv,ti,GF _ m];rw[<- e];simp[hk]
  apply kat_kind h1 Z1 h4 (by cases c<;>decide) ?_
  have e:((Value.type (if c then "str" else "int")) != Value.type "tuple")=true:=by cases c<;>decide
  rw[e];exact q
 unfold kas_ask;let#[a,its,e1,r1,#[o,ho,_,n,hd],m1]:=look i hi;let#[b,gx,e2,r2,#[o2,Br,_,n2,hd2],m2]:=look j hj;rw[e1,e2];apply kat_lt ho hd Br hd2 ?_;let l1:=r1.length;let l2:=r2.length;let l3:=dF List.length ((GF _ m1).trans (GF _ m2).symm);simp only[ay] at l1 l2 l3;rw[show decide (its.toArray.size<gx.toArray.size)=false by simp;omega];exact Xx 0 r1 r2 ((GF _ m1).trans (GF _ m2).symm) hC
end L2
namespace cY
open PySem PySem.W PyProof.Rows
section
variable{prog:Ad}{w:Af}{A:Ag}{E:Aa->Ab->Prop}{s:Ab}
def Raw(h:Heap)(d:Addr)(es:Array Ah)(ep:Nat):Prop:=∃o,h.get? d\o/\o.ExactDict/\o.data=.dict es ep
theorem Raw.eC{h h':Heap}{d:Addr}{es:Array Ah}{ep:Nat}(x:Raw h d es ep)(k:∀o,h.get? d\o->h'.get? d\o):Raw h' d es ep:=let #[o,e,r]:=x;#[o,k o e,r]
theorem Raw.ty{d:Addr}{es:Array Ah}{ep:Nat}(x:Raw s.heap d es ep):s.TypeIs (.ref d) "dict":=let #[o,e,c,_]:=x;#[o,e,c.1]
theorem iM_{d:Addr}{es:Array Ah}{ep:Nat}{Q:Aa->Ab->Prop}(hd:(d == sysModules)=false)(x:Raw s.heap d es ep)
  (q:Q (.ref s.heap.objs.size) { s with heap:=s.heap.push { cls:=.type "dict_keyiterator",data:=.fields (List.toArray [.ref d,.int 0 0,.int es.size 0,.int ep 0]) } }) :
  wpAny (model prog w) A (pyIter (.ref d)) Q E s:=by
 let#[o,ho,hc,xB]:=id x;apply wpAny_pyIter_slot x.ty F.slot_dict_iter (uJ F.slot_dict_iter x.ty F.entry_dict_iter ?_ (F.args_dict_iter_1 _));unfold Builtin.«dict.__iter__» Builtin.Dict.dictSlotNone;apply ao (ao (wpAny_notOrdered_dict x.ty (show wpAny _ _ (pure (Value.ref d)) _ _ s from aK (show wpAny _ _ (Builtin.Dict.showsAll d >>= _) _ _ s from ?_))));unfold Builtin.Dict.showsAll;rw[aB (by rw[hd];decide)];apply ao (aK (ao (wpAny_dictEntries ho xB (ao (wpAny_dictEpoch ho xB (ao (nA (aK #[_,Z,"dict_keyiterator",_,#[_,eE _ Z,Z],F.slot_dict_keyiterator_next.lookup,?_]))))))));exact q
theorem iC_{it d:Addr}{i ep:Nat}{es:Array Ah}{Q:Option Aa->Ab->Prop}(hit:s.heap.IsKeyIter it d i es.size ep)(x:Raw s.heap d es ep)(hi:i<es.size)
  (q:∀h',h'.IsKeyIter it d (i+1) es.size ep->Heap.SameBut it s.heap h'->Q (some es[i].key) { s with heap:=h' }):wpAny (model prog w) A (pyNext (.ref it)) Q E s:=by
 let#[o,ho,hc,hd]:=id hit;let#[od,F6,hW,BA]:=id x;unfold pyNext;apply ao (wpAny_attempt (wpAny_callSpecial?_slot (name:=Str.ofString "__next__") hit.typeIs F.slot_dict_keyiterator_next (uJ F.slot_dict_keyiterator_next hit.typeIs F.entry_dict_keyiterator_next ?_ (F.args_dict_keyiterator_next_1 _))));apply ao (aK (ao (ao ?_)))
 first|refine ao (wpAny_typeNameOfWhole_keyiter hit.typeIs (aK (ao (wpAny_fieldsOf ho hd ?_))))|refine ao (wpAny_typeNameOf_keyiter hit.typeIs (aK (ao (wpAny_fieldsOf ho hd ?_))))
 simp only[show Builtin.Dict_items.ownsTuple "dict_keyiterator"=false by decide,iB,gz];apply (show wpAny _ _ (if (Value.ref d == Value.none)=true then _ else _) _ _ s from ?_);rw[aB (λz=>by cases z)];apply ao (aK (ao (wpAny_dictEntries F6 BA ?_)));rw[aB Z2];apply ao (aK (ao (wpAny_dictEpoch F6 BA ?_)));rw[aB Z2];apply aK ?_;simp only[show ¬((i:Int)<0) from by omega,gz,ve,Array.getElem?_eq_getElem hi];apply ao ?_
 first|refine ao (wpAny_typeNameOfWhole_keyiter hit.typeIs (aK (ao (wpAny_isOneOf_keyiter hit.typeIs ?_))))|refine ao (wpAny_typeNameOf_keyiter hit.typeIs (aK (ao (wpAny_isOneOf_keyiter hit.typeIs ?_))))
 apply (show wpAny _ _ (setField (.ref it) 1 (rawInt ((i:Int)+1)) >>= _) _ _ s from ao (wpAny_setField ho hd Z2 ?_))
 have turned:(s.heap.update it (Obj.mapFields (·.setIfInBounds 1 (rawInt ((i:Int)+1))))).IsKeyIter it d (i+1) es.size ep:=
  #[_,Heap.get?_update_self _ ho (Obj.isFreed_of_fields (Obj.data_mapFields hd _)),(Obj.cls_mapFields ..).trans hc,by rw[Obj.data_mapFields hd];simp[rawInt]]
 apply ao (mZ (ao (wpAny_isOneOf_keyiter (s:={ s with heap:=s.heap.update it (Obj.mapFields (·.setIfInBounds 1 (rawInt ((i:Int)+1)))) }) turned.typeIs ?_)));exact (show wpAny _ _ (pure es[i].key) _ _ _ from aK (aK #[_,Z,aK (q _ turned (Heap.SameBut.update ..))]))
theorem iB_{it d:Addr}{ep:Nat}{es:Array Ah}{Q:Option Aa->Ab->Prop}(hh:A.handled=none)(hit:s.heap.IsKeyIter it d es.size es.size ep)(x:Raw s.heap d es ep)
  (q:∀h',Heap.ExtBut it s.heap h'->Q none { s with heap:=h' }):wpAny (model prog w) A (pyNext (.ref it)) Q E s:=by
 let#[o,ho,hc,hd]:=id hit;let#[od,F6,hW,BA]:=id x;unfold pyNext;apply ao (wpAny_attempt (wpAny_callSpecial?_slot (name:=Str.ofString "__next__") hit.typeIs F.slot_dict_keyiterator_next (uJ F.slot_dict_keyiterator_next hit.typeIs F.entry_dict_keyiterator_next ?_ (F.args_dict_keyiterator_next_1 _))));apply ao (aK (ao (ao ?_)))
 first|refine ao (wpAny_typeNameOfWhole_keyiter hit.typeIs (aK (ao (wpAny_fieldsOf ho hd ?_))))|refine ao (wpAny_typeNameOf_keyiter hit.typeIs (aK (ao (wpAny_fieldsOf ho hd ?_))))
 simp only[show Builtin.Dict_items.ownsTuple "dict_keyiterator"=false by decide,iB,gz];apply (show wpAny _ _ (if (Value.ref d == Value.none)=true then _ else _) _ _ s from ?_);rw[aB (λz=>by cases z)];apply ao (aK (ao (wpAny_dictEntries F6 BA ?_)));rw[aB Z2];apply ao (aK (ao (wpAny_dictEpoch F6 BA ?_)));rw[aB Z2];apply aK ?_;simp only[show ¬((es.size:Int)<0) from by omega,gz,ve,Array.getElem?_eq_none (bo _)];apply ao ?_
 first|refine ao (wpAny_typeNameOfWhole_keyiter hit.typeIs (aK ?g))|refine ao (wpAny_typeNameOf_keyiter hit.typeIs (aK ?g))
 apply (show wpAny _ _ (setField (.ref it) 0 .none >>= _) _ _ s from ao (wpAny_setField ho hd Z2 (show wpAny _ _ (newExc (.type "StopIteration") [] >>= _) _ _ _ from ao ?_)));simp only[newExc,newTuple];apply ao (nA (ao (m:=firstArgMember _ _) (wpAny_of_eq (a:=Value.none) (by first|rfl|(simp only[firstArgMember];rfl)) (nA ?_ (by size_fits)))) (by size_fits));simp only[raiseNew];apply ao (wpAny_handled ?_);rw[show A.in1.handled=none from hh];apply ao (aK (wpAny_throw ?_));exact ao (wpAny_isInstance (T:="StopIteration") (b:=true) #[_,eE _ Z,Z] isSubtype_stop (aK (q _ (((Heap.SameBut.update ..).extBut.push _).push _))))
theorem gW_(hh:A.handled=none)(I d:Addr)(mQ:d≠I)(es:Array Ah)(ep:Nat) :
  Walks prog w A I [I,d] [I] es.size (λi v=>∃h:i<es.size,v=es[i].key) (λi h=>h.IsKeyIter I d i es.size ep/\Raw h d es ep) where
 sub:=λb hb=>by simp only[List.mem_singleton] at hb;simp[hb]
 frame:=λ_ _ _ st k=>#[st.1.at λo e=>k I Z2 o e,st.2.eC λo e=>k d Z2 o e]
 item:=λi s Q E hi st hQ=>iC_ st.1 st.2 hi λh' Bx qA=>hQ _ h' s.toks #[hi,Z] #[Bx,st.2.eC λo e=>qA.extBut d o mQ e] λb o hb e=>qA.extBut b o (λh=>hb (by simp[h])) e
 done:=λs Q E st hQ=>iB_ hh st.1 st.2 λh' he'=>hQ h' s.toks λb o hb e=>he' b o (λh=>hb (by simp[h])) e
 self:=λ_ _ _ _ st hQ=>wpAny_pyIter_keyiter st.1 hQ
theorem k4_{d:Addr}{es:Array Ah}{ep:Nat}(lo:(d == sysModules)=false):KdlSrc prog w "dict" d d es.size (λi v=>∃h:i<es.size,v=es[i].key) (λh=>Raw h d es ep) where
 type:=λs x=>x.ty
 there:=λh x=>let #[o,e,_]:=x;#[cK e,cK e]
 keep:=λh h' x k=>x.eC λo e=>k d (.inl Z) o e
 notList:=by decide
 notTuple:=by decide
 hint:=λ_ _ s _ x q=>kdl_hint_dict x.ty q
 iter:=λA s hh x=>#[_,_,λE Q q=>iM_ lo x q,gW_ hh _ d (let #[o,e,_]:=x;eJ (cK e)) es ep,#[#[_,eE _ Z,Z,Z],x.eC λo e=>cj _ e]]
end
end cY
namespace cY
open PySem PySem.W PyProof.Rows
theorem da_:typeLookup (.type "list") "keys"=pure none:=by rw[typeLookup_type,builtinLookup_eq_fast];kernel_rfl
theorem i3_{prog:Ad}{w:Af}{A:Ag}{s:Ab}{a:Addr}{xs:Array Aa}{k:Nat}{tk:Tok}{R:Result->Ab->Prop}(hx:s.heap.get? a\seqObj "list" xs k)(h:raisesAttr (.ref a) "keys" A R s) :
  codeAny (model prog w) A (.call (.builtin "list.__getattribute__") #[[.ref a,.str "keys" tk],[]]) R s:=by
 apply codeAny_call_builtin F.slot_list_getattribute.plain am_entry_list_getattribute (F.slot_list_getattribute.check _ _ _ _ _ _ _ _ #[_,hx,Z] (F.args_list_getattribute_2 _ _) ?_);exact meets_getattribute_miss_list a xs k #[] "keys" tk da_ (by decide) (by size_fits) prog w A R s #[hx,h]
theorem A_{prog:Ad}{w:Af}{A:Ag}{E:Aa->Ab->Prop}{s:Ab}{a:Addr}{xs:Array Aa}{k:Nat}{Q:Option Aa->Ab->Prop}(hx:s.heap.get? a\seqObj "list" xs k)(hA:A.handled=none)
  (h:∀h' tk,(∀b o,s.heap.get? b\o->h'.get? b\o)->Q none { s with heap:=h',toks:=tk }):wpAny (model prog w) A (getAttr? (.ref a) "keys") Q E s:=by
 let#[hp,g,d,tk,os]:=s;have ty:∀vv,(#[hp,g,d,vv,os]:Ab).TypeIs (.ref a) "list":=λ_=>#[_,hx,Z];let f1:=sub_AttributeError;let f2:=F.slot_list_getattribute.lookup;let f3:=F.slot_list_getattribute.bind (.ref a);let f4:=am_list_getattr_none;unfold getAttr? getAttrBy? getAttrBy
 repeat (any_goals (first|assumption|exact ty _|wp_step))
 apply i3_ hx #[hA,λh' vv e C_=>?_];let#[t',u',he]:=C_.there;show wpAny _ _ (getattributeRaised _ _ _ _ _ _ _) _ _ _;unfold getattributeRaised
 repeat (any_goals (first|assumption|wp_step))
 exact h _ _ C_.keeps
end cY
namespace cY
open PySem PySem.W PyProof.Rows
theorem Wh:entryFor table "dict.update.loop"\Builtin.«dict.update.loop»:=entryFor_of_tree (by kernel_rfl)
theorem KR:plainId "dict.update.loop"=true:=by decide +kernel
theorem TX(d it:Addr)(i:Int)(tk:Tok):Builtin.«dict.update.loop» #[[.ref d,.ref it,.int i tk,.none],[]]=(do
  let r <- pyNext (.ref it)
  match r with
  |none=>do Builtin.Dict.addKeywords d [];ret .none
  |some item=>do
   holding [item] (do
    let pair <- (Builtin.Dict.pairItems item).tryCatch λe=>do
     if !(<- isInstance e (.type "TypeError")) then throw e
     rule "dict.update.element-no-sequence"
     raiseError "TypeError" s!"cannot convert dictionary update sequence element #{i} to a sequence"
    match pair with
    |[k,v]=>holding [k,v] (dictSet d k v)
    |l=>do
     rule "dict.update.element-length"
     raiseError "ValueError" s!"dictionary update sequence element #{i} has length {l.length}; 2 is required")
   again (.builtin "dict.update.loop" #[[.ref d,.ref it,rawInt (i+1),.none],[]])):=by
 unfold Builtin.«dict.update.loop»;apply dF (λf=>pyNext (.ref it) >>= f) (funext λr=>?_);cases r<;>rfl
section
variable{prog:Ad}{w:Af}{K:Type}[DecidableEq K]{knd:PySem.KeyKind prog w K}{A:Ag}
def Po(knd:PySem.KeyKind prog w K)(h:Heap):ak->List (K × Aa)->Prop:=Paired λv p=>∃a key,v=.ref a/\IsTup h a (List.toArray [key,p.2])/\knd.is p.1 key=true
def hG(kvs:List (K × Aa))(ps:List (K × Aa)):List (K × Aa):=ps.foldl (λacc p=>stored acc p.1 p.2) kvs
theorem gc_(kvs:List (K × Aa))(k:K)(v:Aa):(stored kvs k v).length<=kvs.length+1:=by
 unfold stored;split
 ·simp
 simp
theorem Xk{h:Heap}{b it l:Addr}{i:Nat}{ys:Array Aa}(t:IsTup h b ys)(q:h.IsListIter it l i):b≠it:=λz=>by
 let#[o,ho,hc,_]:=t;let#[o2,Br,Do,_]:=q;subst z;rw[ho] at Br;cases Br;rw[hc] at Do;exact absurd Do (by decide)
theorem eM_{h:Heap}{b d:Addr}{ys:Array Aa}{kvs:List (K × Aa)}(t:IsTup h b ys)(q:h.DictOf knd d kvs):b≠d:=λz=>by
 let#[o,ho,hc,_]:=t;let#[o2,es,ep,Br,Do,_]:=q;subst z;rw[ho] at Br;cases Br;let JT:=Do.1;rw[hc] at JT;exact absurd JT (by decide)
theorem Wl{h h':Heap}{d:Addr}{kvs:List (K × Aa)}(q:h.DictOf knd d kvs)(k:∀o,h.get? d\o->h'.get? d\o):h'.DictOf knd d kvs:=by
 let#[o,es,ep,ho,r]:=q;exact#[o,es,ep,k _ ho,r]
theorem iq_{it l d a:Addr}{i:Nat}{its:ak}{key x:Aa}{k:K}{kvs:List (K × Aa)}{s:Ab}{R:Result->Ab->Prop}{tk:Tok}(Bz:d≠it)(hi:its.toArray[i]? = some (.ref a))(ht:IsTup s.heap a (List.toArray [key,x]))(hk:knd.is k key=true)
  (hit:s.heap.IsListIter it l i) (hl:s.heap.IsList l its.toArray) (hd:s.heap.DictOf knd d kvs) (hz:kvs.length<=1000)
  (hR:∀h2,h2.DictOf knd d (stored kvs k x)->(∀b o,b≠d->b≠it->s.heap.get? b\o->h2.get? b\o)->h2.IsListIter it l (i+1)->codeAny (model prog w) A (.builtin "dict.update.loop" #[[.ref d,.ref it,rawInt ((i:Int)+1),.none],[]]) R { s with heap:=h2,toks:=s.toks+1 }) :
  codeAny (model prog w) A (.builtin "dict.update.loop" #[[.ref d,.ref it,.int i tk,.none],[]]) R s:=by
 apply codeAny_builtin Wh ?_;rw[Around.under_plainId KR _,TX];apply ao (wpAny_pyNext_list_item hit hl hi λh1 N0 Nu=>?_);let#[ot,hot,GD,nt,hdt]:=id ht;have F3:h1.get? a\ot:=Nu.extBut _ _ (Xk ht hit) hot;apply ao (mZ (ao (wpAny_tryCatch ?_)));unfold Builtin.Dict.pairItems;apply ao (wpAny_typeOf (T:="tuple") #[ot,F3,GD] ?_);rw[aJ (by decide)];unfold seqItems?;apply ao (ao (wpAny_load F3 ?_));rw[hdt];apply aK (aK ?_);apply (show wpAny _ _ (holding [key,x] (dictSet d key x)) _ _ _ from mZ (wpAny_dictSet_pairs hk (Wl hd λo q=>Nu.extBut _ _ Bz q) (λh2 hd2 Bm=>?_) (by have:=cn;omega)));exact aK #[plainId_quiet KR _,hR h2 hd2 (λb o h3 h4 q=>Bm.extBut _ _ h3 (Nu.extBut _ _ h4 q)) (N0.extBut Bm.extBut (Ne.symm Bz))]
theorem kH_{it l d:Addr}{i:Nat}{its:ak}{kvs:List (K × Aa)}{s:Ab}{R:Result->Ab->Prop}{tk:Tok}(Bz:d≠it)(hh:A.handled=none)(hi:its.toArray[i]? = none)
  (hit:s.heap.IsListIter it l i) (hl:s.heap.IsList l its.toArray) (hd:s.heap.DictOf knd d kvs)
  (hR:∀h',h'.DictOf knd d kvs->(∀b o,b≠it->s.heap.get? b\o->h'.get? b\o)->R (.ok (.ret .none)) { s with heap:=h' }) :
  codeAny (model prog w) A (.builtin "dict.update.loop" #[[.ref d,.ref it,.int i tk,.none],[]]) R s:=by
 apply codeAny_builtin Wh ?_;rw[Around.under_plainId KR _,TX];apply ao (wpAny_pyNext_list_end hh hit hl hi λh' he=>?_);exact ao (m:=Builtin.Dict.addKeywords d []) (aK (aK (hR h' (Wl hd λo q=>he _ _ Bz q) λb o hb q=>he b o hb q)))
theorem lz_{it l d:Addr}(hil:l≠it)(Bz:d≠it)(JS:d≠l)(hh:A.handled=none){its:ak}(rest:ak):∀(ps:List (K × Aa)) (i:Nat) (kvs:List (K × Aa)) (s:Ab) (R:Result->Ab->Prop) (tk:Tok),its.drop i=rest->Po knd s.heap rest ps->
  s.heap.IsListIter it l i->s.heap.IsList l its.toArray->s.heap.DictOf knd d kvs->kvs.length+ps.length<=1000->
  (∀h' vv,h'.DictOf knd d (hG kvs ps)->(∀b o,b≠d->b≠it->s.heap.get? b\o->h'.get? b\o)->R (.ok (.ret .none)) { s with heap:=h',toks:=vv })->
  codeAny (model prog w) A (.builtin "dict.update.loop" #[[.ref d,.ref it,.int i tk,.none],[]]) R s:=by
 induction rest with
 |nil=>
  intro ps i kvs s R tk e hp hit hl hd hz hR;cases hp
  have hi:its.toArray[i]? = none:=by
   have:=dF List.length e;simp only[Ac,qP] at this;simp;omega
  exact kH_ Bz hh hi hit hl hd λh' fH kp=>hR h' s.toks fH λb o _ hb q=>kp b o hb q
 |cons v rest ih=>
  intro ps i kvs s R tk e hp hit hl hd hz hR;cases hp with
  |@cons _ p _ ps h0 hr=>
  let#[a,key,hv,ht,hk]:=h0;let#[k,x]:=p;subst hv
  have hi:its.toArray[i]? = some (.ref a):=by
   have q:(its.drop i)[0]? = some (.ref a):=by rw[e];rfl
   rw[List.getElem?_drop] at q;simpa using q
  have e':its.drop (i+1)=rest:=by
   rw[<- List.drop_drop,e];rfl
  simp only[kB] at hz;apply iq_ Bz hi ht hk hit hl hd Z1 λh2 hd2 kp xv=>?_;have c1:((i:Int)+1)=((i+1:Nat):Int):=by omega
  rw[c1];apply ih ps (i+1) (stored kvs k x) _ R 0 e' (L2.Paired.bF hr λv p ⟨b,ky,e1,t1,k1⟩=>#[b,ky,e1,?_,k1]) xv (hl.at λo q=>kp _ _ (Ne.symm JS) hil q) hd2 (by have:=gc_ kvs k x;omega) λh' vv fH kp'=>hR h' vv fH λb o h3 h4 q=>kp' b o h3 h4 (kp b o h3 h4 q);let#[o,ho,r]:=id t1;exact#[o,kp _ _ (eM_ t1 hd) (Xk t1 hit) ho,r]
theorem eH_{E:Aa->Ab->Prop}{s:Ab}{l:Addr}{its:ak}{n:Nat}{ps:List (K × Aa)}{Q:Aa->Ab->Prop}(hh:A.handled=none)(ho:s.heap.get? l\seqObj "list" its.toArray n)(hp:Po knd s.heap its ps)(hz:ps.length<=1000)
  (h:∀h' vv,h'.DictOf knd s.heap.objs.size (hG [] ps)->(∀b o,s.heap.get? b\o->h'.get? b\o)->Q (.ref s.heap.objs.size) { s with heap:=h',toks:=vv }) :
  wpAny (model prog w) A (call (.type "dict") [.ref l]) Q E s:=by
 apply callType_codes (Q₁:=λobj aV=>obj=.ref s.heap.objs.size/\aV={ s with heap:=s.heap.push { cls:=.type "dict",data:=.dict #[] } }) F.kt_called_dict (F.kt_typeCall_dict_1 _) F.entry_dict_init (kt_code_dict_new _ #[Z,Z]) ?_;rintro obj aV ⟨rfl,rfl⟩;have uq:(s.heap.push { cls:=.type "dict",data:=.dict #[] }).DictOf knd s.heap.objs.size []:=Heap.DictOf.new s.heap;have fS:(s.heap.push { cls:=.type "dict",data:=.dict #[] }).get? l\seqObj "list" its.toArray n:=cj _ ho;apply#[uq.typeIs,F.args_dict_init_2 _ _,?_];unfold Builtin.«dict.__init__» Builtin.Dict.selfAndRest;apply ao (ao (wpAny_notOrdered_dict uq.typeIs ?_));apply (show wpAny _ _ (pure (s.heap.objs.size,[Value.ref l])) _ _ _ from aK ?_);apply (show wpAny _ _ (Builtin.Dict.updateFrom "dict.__init__" s.heap.objs.size (.ref l) [] .none) _ _ _ from ?_);unfold Builtin.Dict.updateFrom;apply ao (wpAny_typeOf (T:="list") #[_,fS,Z] ?_);rw[aJ (by decide)];apply ao (A_ fS hh λh2 tk2 k2=>?_);simp only[Option.isNone_none,if_true];have ja:h2.get? l\seqObj "list" its.toArray n:=k2 _ _ fS;apply ao (wpAny_rule (ao (wpAny_pyIter_list #[_,ja,Z,_,Z] ?_)));apply aK #[plainId_quiet KR _,?_];have all:∀{b o},s.heap.get? b\o->(h2.push { cls:=.type "list_iterator",data:=.fields (List.toArray [.ref l,.int 0 0]) }).get? b\o:=λq=>cj _ (k2 _ _ (cj _ q))
 have hd2:h2.DictOf knd s.heap.objs.size []:=by
  let#[o,es,ep,ho,r]:=uq;exact#[o,es,ep,k2 _ _ ho,r]
 have L1:s.heap.objs.size<h2.objs.size:=by
  let#[o,es,ep,ho,r]:=hd2;exact cK ho
 have lz:l<s.heap.objs.size:=cK ho
 apply lz_ (A:=A.in1) (knd:=knd) (its:=its) (it:=h2.objs.size) (l:=l) (d:=s.heap.objs.size) (eJ (Nat.lt_trans lz L1)) (eJ L1) (wu lz) hh its ps 0 [] _ _ 0 Z (L2.Paired.bF hp λv p ⟨b,ky,e1,t1,k1⟩=>#[b,ky,e1,t1.keeps λb o q=>all q,k1])
  #[_,eE _ Z,Z,Z] #[_,cj _ ja,Z,_,Z] (by
   let#[o,es,ep,ho,r]:=hd2;exact#[o,es,ep,cj _ ho,r]) ⇑hz λh' vv fH kp=>#[Z,h h' vv fH λb o q=>?_]
 have bl:b<s.heap.objs.size:=cK q;exact kp b o (eJ bl) (eJ (Nat.lt_trans bl L1)) (all q)
end
end cY
theorem zl{n:Nat}(h:decide (n<=16777216)=true:=by rfl):n<=PySem.sizeLine:=by
 rw[PySem.sizeLine_eq];exact xY h
namespace L2
open PySem PySem.Spec PyProof.Rows PySem.W jL cY
theorem bC.same{K:af}{H H':Hp}{ys:ag}{ks:List az}(t:bC K H ys ks)(e:aa H H'):bC K H' ys ks:=Paired.bF t λy k ⟨a,z,q⟩=>#[a,z,e _ _ q]
theorem aa.new{H:Hp}{l:Addr}{o:HO}(h:H l=none):aa H (upd H l o):=λb u e=>by rw[aA (bw e h)];exact e
section
variable{X:Cx}{pins:List (Addr × Obj)}{σ:St}{H H':Hp}{s:Ab}{h':Heap}{t':Nat}
theorem Inv.many(I:Inv X pins σ H s)(k:∀b o,s.heap.get? b\o->h'.get? b\o)(hold:aa H H')(uq:∀b,H b=none->b<s.heap.objs.size->H' b=none)
  (F8:∀b o,H' b\o->H b=none->∃xs its,o=.tup xs/\xs.length<=sizeLine/\Vals xs its/\IsTup h' b its.toArray/\∃o,h'.get? b\o/\o.dict=none):Inv X pins σ H' { s with heap:=h',toks:=t' }:=by
 apply I.un #[λb o q _ _ _=>k b o q,λb o q _ _ _=>#[o.slots,k b o q],λb o q n _=>uq b n (cK q),λb o q _=>#[o,k b o q],λb xs q=>hold b _ q,λb o u q=>hold b _ q,λb ps q=>#[#[],by rw[Array.append_empty];exact hold b _ q]] λb o q=>?_;cases e:H b with
 |some u=>
  let e2:=hold b u e;rw[q] at e2;cases e2;exact (I.aE b o e).eC (λc v _ z=>k c v z) (λc z=>hold c _ z) λc xs z=>hold c _ z
 |none=>
  let#[xs,its,rfl,z,r,t]:=F8 b o q e;exact#[z,its,r,t]
end
section
variable{X:Cx}{pins:List (Addr × Obj)}{σ:St}{H:Hp}{s:Ab}{A:Ag}{E:Aa->Ab->Prop}
theorem is_{p:Addr}{ys:ag}{R:ak->Ab->Prop}(I:Inv X pins σ H s)(h:dW X.K H p ys)(hz:ys.length<=100000)(q:∀vs s1,Inv X pins σ H s1->Vals ys vs->R vs s1):wpAny (model X.prog X.w) A (collect (.ref p)) R E s:=by
 let#[its,r,pl,_]:=I.list h;let hl:=r.length;apply collect_list pl.isList (q its _ ?_ r) (by have:=cn;omega);apply I.kept (t':=s.toks) λb u e=>?_;have lt:b<s.heap.objs.size:=cK e;rw[Heap.get?_update_ne _ _ _ _ (eJ lt)];exact cj _ e
theorem Lk{P:Nat->Aa->Prop}{acc:Array Aa}{ys:ag}(h:ItemsOf P acc ys.length)(hp:∀(j:Nat) v,P j v->∀y,ys[j]? = some y->RelV y v):Vals ys acc.toList:=by
 have gen:∀(ys:ag) (vs:ak),ys.length=vs.length->(∀(j:Nat) y v,ys[j]? = some y->vs[j]? = some v->RelV y v)->Vals ys vs:=λys=>by
  induction ys with
  |nil=>
   intro vs hl _;cases vs with
   |nil=>exact .nil
   |cons _ _=>cases hl
  |cons y ys ih=>
   intro vs hl h;cases vs with
   |nil=>cases hl
   |cons v vs=>exact .cons (h 0 y v Z Z) (ih vs ⇑hl λj y v a b=>h (j+1) y v ⇑a ⇑b)
 apply gen ys acc.toList (by rw[qS];exact h.1.symm) λj y v a b=>hp j v (h.2 j v ?_) y a;rw[<- Array.getElem?_toList];exact b
theorem TY{d:Addr}{kvs:List (Key × V)}(I:Inv X pins σ H s)(h:Rd H d (.dK kvs)):∃(P:Nat->Aa->Prop) (OK:Heap->Prop),KdlSrc X.prog X.w "dict" d d (kvs.map λkv=>kV kv.1).length P OK/\OK s.heap/\∀(j:Nat) v,P j v->∀y,(kvs.map λkv=>kV kv.1)[j]? = some y->RelV y v:=by
 let#[z,hd,vs,rel,dd]:=nE I.aE h;let#[ep,dat]:=dd.dictAt;let hl:=rel.length;apply#[λi v=>∃k x,vs[i]? = some (k,x)/\(d_ X.prog X.w).is k v=true,λh=>h.DictAt (d_ X.prog X.w) d vs ep,(by rw[ay,hl];exact kdl_dict (knd:=d_ X.prog X.w) (kvs:=vs) (ep:=ep) hd),dat,λj v ⟨k,x,e,hk⟩ y hy=>?_];rw[dU] at hy;have ek:kvs.map (·.1)=vs.map (·.1):=rel.keys;have e2:(kvs.map (·.1))[j]? = (vs.map (·.1))[j]?:=by rw[ek]
 rw[dU,dU,e] at e2;cases e3:kvs[j]? with
 |none=>rw[e3] at e2;cases e2
 |some kv=>
  rw[e3] at e2 hy;have e4:kv.1=k:=d7 e2;have e5:kV kv.1=y:=d7 hy;rw[<- e5,e4];have hk:xO k v=true:=hk;rcases qR hk with⟨i,t,rfl,rfl⟩|⟨x,t,rfl,rfl⟩
  ·exact#[t,Z]
  exact#[t,Z]
theorem TN{d:Addr}{kvs:List (Key × V)}{R:ak->Ab->Prop}(hh:A.handled=none)(I:Inv X pins σ H s)(h:Rd H d (.dK kvs))(q:∀vs s1,Inv X pins σ H s1->Vals (kvs.map λkv=>kV kv.1) vs->R vs s1):wpAny (model X.prog X.w) A (collect (.ref d)) R E s:=by
 let#[P,OK,S,ok,hp]:=TY I h;apply kdu_collect S hh ok ?_ λh' tk acc k a=>q _ _ (I.kept k) (Lk a hp);rw[ay];exact (nE I.aE h).1
theorem l8_{d:Addr}{kvs:List (az × V)}(I:Inv X pins σ H s)(h:Rd H d (.dT kvs)):∃(ys:ag) (P:Nat->Aa->Prop) (OK:Heap->Prop),bC X.K H ys (kvs.map (·.1))/\ys.length<=sizeLine/\KdlSrc X.prog X.w "dict" d d ys.length P OK/\OK s.heap/\∀(j:Nat) v,P j v->∀y,ys[j]? = some y->RelV y v:=by
 let#[z,hd,xs,rel,o,es,ep,ho,hc,xB,By,nd]:=h.ok I.aE
 have l1:es.size=xs.length:=by
  have:=dF List.length By;simpa using this
 let l2:=bH rel;apply#[xs.map λx=>V.ref x.2.1,λi v=>∃h:i<es.size,v=es[i].key,λh=>Raw h d es ep,?_,by rw[ay];omega,(by rw[ay,<- l1];exact k4_ (es:=es) (ep:=ep) hd),#[o,ho,hc,xB],λj v ⟨hj,e⟩ y hy=>?_]
 ·have gen:∀{kvs:List (az × V)} {xs:List (az × Addr × Aa)},KT H kvs xs->bC X.K H (xs.map λx=>V.ref x.2.1) (kvs.map (·.1)):=λ{kvs xs} r=>by
   induction r with
   |nil=>exact .nil
   |cons h _ ih=>exact .cons #[_,Z,h.2.1] ih
  exact gen rel
 rw[dU] at hy;have hx:j<xs.length:=by omega
 rw[cE hx] at hy;have e1:V.ref xs[j].2.1=y:=d7 hy
 have e2:es[j]=entryOfKey (tupleKind (d_ X.prog X.w)) xs[j]:=by
  have e3:es.toList[j]? = (xs.map (entryOfKey (tupleKind (d_ X.prog X.w))))[j]?:=by rw[By]
  rw[dU,cE hx,Array.getElem?_toList,Array.getElem?_eq_getElem hj] at e3;exact d7 e3
 rw[<- e1,e,e2];rfl
theorem lc_{d:Addr}{kvs:List (az × V)}{R:ak->Ab->Prop}(hh:A.handled=none)(I:Inv X pins σ H s)(h:Rd H d (.dT kvs))(q:∀ys vs s1,Inv X pins σ H s1->Vals ys vs->bC X.K H ys (kvs.map (·.1))->R vs s1):wpAny (model X.prog X.w) A (collect (.ref d)) R E s:=by
 let#[ys,P,OK,t,z,S,ok,hp]:=l8_ I h;exact kdu_collect S hh ok z λh' tk acc k a=>q ys _ _ (I.kept k) (Lk a hp) t
def qo(v d:Addr):HO:=.ext λh=>h.IsItemsView v d
def wb(v d:Addr):HO:=.ext λh=>h.IsValuesView v d
def k4(K:af)(H:Hp):ag->List (Key × V)->Prop:=Paired λy p=>∃a,y=V.ref a/\H a\.tup [kV p.1,p.2]
theorem i4_{v d:Addr}{kvs:List (Key × V)}{R:ak->Ab->Prop}(hh:A.handled=none)(I:Inv X pins σ H s)(hv:H v\qo v d)(h:Rd H d (.dK kvs))(q:∀H1 ys vs s1,Inv X pins σ H1 s1->aa H H1->Vals ys vs->k4 X.K H1 ys kvs->R vs s1) :
  wpAny (model X.prog X.w) A (collect (.ref v)) R E s:=by
 let#[z,hd,vs,rel,dd]:=nE I.aE h;let#[ep,dat]:=dd.dictAt;let#[iv,_,_]:=I.aE v _ hv;let hl:=rel.length;apply kdx_collect (knd:=d_ X.prog X.w) (kvs:=vs) (ep:=ep) hh iv dat Z1 λh' tk as k la G=>?_;have up:∀b,b∈as->s.heap.objs.size<b:=G.above
 have at1:∀(j:Nat) b p,as[j]? = some b->kvs[j]? = some p->∃its,Vals [kV p.1,p.2] its/\IsTup h' b its.toArray/\∃o,h'.get? b\o/\o.dict=none:=λj b p hj hp=>by
  let#[key,kk,x,e1,e2,e3]:=G.pairs j b hj
  have gen:∀{kvs:List (Key × V)} {vs:List (Key × Aa)},KV kvs vs->∀(j:Nat),vs[j]? = some (kk,x)->kvs[j]? = some p->p.1=kk/\RelV p.2 x:=λ{kvs vs} r=>by
   induction r with
   |nil=>intro j e;simp at e
   |@cons p' q _ _ h _ ih=>
    intro j e e';cases j with
    |zero=>
     have e:q=(kk,x):=⇑e
     have e':p'=p:=⇑e'
     subst e';rw[e] at h;exact h
    |succ j=>exact ih j ⇑e ⇑e'
  let#[g1,g2]:=gen rel j e1 hp;apply#[[key,x],.cons ?_ (.cons g2 .nil),#[_,e3,Z,_,Z],_,e3,Z];rw[g1];have e2:xO kk key=true:=e2;rcases qR e2 with⟨i,t,rfl,rfl⟩|⟨x,t,rfl,rfl⟩
  ·exact#[t,Z]
  exact#[t,Z]
 have look:∀{as:ai} {kvs:List (Key × V)},as.Pairwise (· < ·)->∀(j:Nat) b p,as[j]? = some b->kvs[j]? = some p->(as.zip kvs).lookup b\p:=λ{as}=>by
  induction as with
  |nil=>intro kvs _ j b p e;simp at e
  |cons a as ih=>
   intro kvs pw j b p e e';cases kvs with
   |nil=>simp at e'
   |cons q kvs=>
    let#[p1,p2]:=List.pairwise_cons.mp pw;show ((a,q)::as.zip kvs).lookup b\p;cases j with
    |zero=>
     have e:a=b:=⇑e
     have e':q=p:=⇑e'
     subst e;subst e';rw[List.lookup_cons_self]
    |succ j=>
     have e:as[j]? = some b:=⇑e
     have e':kvs[j]? = some p:=⇑e'
     let lt:=p1 b (dA e);rw[vd,show (b == a)=false by simp only[beq_eq_false_iff_ne];exact wu lt];exact ih p2 j b p e e'
 have lk:as.length=kvs.length:=by omega
 let H1:Hp:=λb=>if b∈as then ((as.zip kvs).lookup b).map λp=>HO.tup [kV p.1,p.2] else H b
 have GL:∀(j:Nat) b p,as[j]? = some b->kvs[j]? = some p->H1 b\.tup [kV p.1,p.2]:=λj b p e e'=>by
  show (if b∈as then _ else _)=_;rw[aJ (dA e),look G.rise j b p e e'];rfl
 have pB:∀b,b∉as->H1 b=H b:=λb hb=>aB hb;have old:∀b,b<s.heap.objs.size->b∉as:=λb hb m=>absurd (up b m) Z1;apply q H1 (as.map V.ref) _ _ (I.many (t':=tk) k (λb o e=>by rw[pB b (old b (I.aE.lt e))];exact e) (λb e hb=>by rw[pB b (old b hb)];exact e) λb o e e0=>?_) (λb o e=>by rw[pB b (old b (I.aE.lt e))];exact e) ?_ ?_
 ·by_cases m:b∈as
  ·let#[j,hj]:=List.mem_iff_getElem?.mp m
   have jl:j<kvs.length:=by
    have:=(cw.mp hj).1;omega
   let e':=GL j b kvs[j] hj (cE jl);rw[e] at e';cases e';let#[its,r,t]:=at1 j b _ hj (cE jl);exact#[_,its,Z,zl,r,t]
  rw[pB b m,e0] at e;cases e
 ·have gen:∀as:ai,Vals (as.map V.ref) (as.map Value.ref):=λas=>by
   induction as with
   |nil=>exact .nil
   |cons a as ih=>exact .cons Z ih
  exact gen as
 have gen:∀(Ea:ai) (fF:List (Key × V)),Ea.length=fF.length->(∀(j:Nat) b p,Ea[j]? = some b->fF[j]? = some p->H1 b\.tup [kV p.1,p.2])->k4 X.K H1 (Ea.map V.ref) fF:=λEa=>by
  induction Ea with
  |nil=>
   intro fF hl _;cases fF with
   |nil=>exact .nil
   |cons _ _=>cases hl
  |cons a Ea ih=>
   intro fF hl h;cases fF with
   |nil=>cases hl
   |cons p fF=>exact .cons #[a,Z,h 0 a p Z Z] (ih fF ⇑hl λj b p e e'=>h (j+1) b p ⇑e ⇑e')
 exact gen as kvs lk GL
end
end L2
namespace L2
open PySem PySem.Spec PyProof.Rows PySem.W jL cY
theorem jk_{a b:ae}(h:a.map dQ=b.map dQ):a=b:=by
 induction a generalizing b with
 |nil=>
  cases b with
  |nil=>rfl
  |cons _ _=>cases h
 |cons x a ih=>
  cases b with
  |nil=>cases h
  |cons y b=>
   let#[h1,h2]:=List.cons.inj h;have h1:[(Sum.inr x:Key)]=[Sum.inr y]:=h1;cases h1;rw[ih h2]
theorem W9(ss:ae):(nF ss).map dQ=aZ (ss.map dQ):=by
 have all:∀k∈aZ (ss.map dQ),∃x,k=dQ x:=λk hk=>by
  let#[x,_,e]:=bG.mp ((nO _).mem_iff.mp hk);exact#[x,e.symm]
 have gen:∀l:List az,(∀k∈l,∃x,k=dQ x)->(l.map λk=>match k with | [.inr x]=>x|_=>(⟨#[]⟩:Str)).map dQ=l:=λl=>by
  induction l with
  |nil=>exact λ_=>rfl
  |cons k l ih=>
   intro h;let#[x,rfl]:=h k fM;rw[dZ,dZ,ih λk hk=>h k (eR _ hk)];rfl
 exact gen _ all
theorem yi(ss:ae):(nF ss).Perm ss:=by
 have p:((nF ss).map dQ).Perm (ss.map dQ):=by rw[W9];exact nO _
 have back:∀l:ae,(l.map dQ).map (λk=>match k with | [.inr x]=>x|_=>(⟨#[]⟩:Str))=l:=λl=>by
  rw[b_]
  induction l with
  |nil=>rfl
  |cons x l ih=>rw[dZ,ih];rfl
 let q:=p.map (λk=>match k with | [.inr x]=>x|_=>(⟨#[]⟩:Str));rwa [back,back] at q
section
variable{X:Cx}{pins:List (Addr × Obj)}{σ:St}{H:Hp}{s:Ab}
theorem eo_{u:Aa}{ss:ae}{Q:VK}(bS:ss.length<64)(mV:wpAny (model X.prog X.w) X.A.in1 (collect u) (λvs s1=>∃H1,Inv X pins σ H1 s1/\Vals (ss.map V.str) vs/\∀l,H1 l=none->Q (.ref l) (upd H1 l (.lst ((nF ss).map V.str)))) X.xe s) :
  wpAny (model X.prog X.w) X.A (call (.builtin "sorted") [u]) (EP X pins σ Q) X.xe s:=by
 apply W0 (P6 (ss.map dQ)) (aR mV λvs s1 ⟨H1,I1,r,q⟩=>?_);have hl:vs.length=ss.length:=by rw[<- r.length,ay]
 apply#[by omega,λh2 h' _=>hO_ (Uc r) h2,λp h' e g up hD kp=>?_];have g':Good (ss.map dQ).length p:=by rw[ay,<- hl];exact g
 let asc:=OV (ks:=ss.map dQ) (λi j _ _=>rfl) g' (by rw[ay,<- hl];exact up)
 have perm:(p.toList.map λi=>(ss.map dQ).getD i []).Perm (ss.map dQ):=by
  have:=Iy g' λi=>(ss.map dQ).getD i [];rwa [IH] at this
 let es:=Qt perm asc
 have inr:∀i∈p.toList,i<ss.length:=λi hi=>by
  have m:i∈(List.range vs.length).toArray:=g.mem_iff.mp ⇑hi;rw[hl] at m;simpa using m
 have e1:(p.toList.map λi=>ss.getD i ⟨#[]⟩)=nF ss:=by
  apply jk_ ?_;rw[W9,<- es,b_];apply vf λi hi=>?_;have:=inr i hi;simp[this]
 let rv:=PV r g
 have e2:(p.toList.map λi=>(ss.map V.str).getD i .non)=(nF ss).map V.str:=by
  rw[<- e1,b_];apply vf λi hi=>?_;have:=inr i hi;simp[this]
 rw[e2] at rv;apply#[.ref s1.heap.objs.size,_,I1.laid (t':=s1.toks) kp (bo _) (show eI X.prog X.w _ h' _ (.lst ((nF ss).map V.str)) from #[?_,nM p vs,e,rv,hD]),Z,q _ (I1.aE.fresh (bo _))];rw[ay,(yi ss).length_eq];have:=cn;omega
theorem jm_{K:af}{H:Hp}{ys:ag}{ks:List az}(t:bC K H ys ks):∀l:List Nat,(∀i∈l,i<ys.length)->bC K H (l.map λi=>ys.getD i .non) (l.map λi=>ks.getD i []):=λl=>by
 induction l with
 |nil=>exact λ_=>.nil
 |cons i l ih=>
  intro h;apply .cons ?_ (ih λj hj=>h j (eR _ hj));let hi:=h i fM
  have gen:∀{ys:ag} {ks:List az} (i:Nat),i<ys.length->bC K H ys ks->∃a,ys.getD i .non=V.ref a/\H a\.tup ((ks.getD i []).map kV):=λ{ys ks} i hy t=>by
   induction t generalizing i with
   |nil=>exact absurd hy Z2
   |cons h t ih=>
    cases i with
    |zero=>exact h
    |succ i=>exact ih i ⇑hy
  exact gen i hi t
theorem Xp{u:Aa}{ks:List az}{sh:List Bool}{Q:VK}(bS:ks.length<64)(al:BX ks sh)
  (mV:wpAny (model X.prog X.w) X.A.in1 (collect u) (λvs s1=>∃H1 ys,Inv X pins σ H1 s1/\Vals ys vs/\bC X.K H1 ys ks/\∀l zs,H1 l=none->bC X.K H1 zs (aZ ks)->zs.Perm ys->Q (.ref l) (upd H1 l (.lst zs))) X.xe s) :
  wpAny (model X.prog X.w) X.A (call (.builtin "sorted") [u]) (EP X pins σ Q) X.xe s:=by
 apply W0 (P6 ks) (aR mV λvs s1 ⟨H1,ys,I1,r,t,q⟩=>?_);let l1:=r.length;let l2:=bH t;have hl:vs.length=ks.length:=by omega
 apply#[by omega,λh2 h' k=>V4 I1 r t al h2 k,λp h' e g up hD kp=>?_];have g':Good ks.length p:=by rw[<- hl];exact g
 let asc:=OV (ks:=ks) (λi j _ _=>rfl) g' (by rw[<- hl];exact up)
 have perm:(p.toList.map λi=>ks.getD i []).Perm ks:=by
  have:=Iy g' λi=>ks.getD i [];rwa [IH] at this
 let es:=Qt perm asc
 have inr:∀i∈p.toList,i<ys.length:=λi hi=>by
  have m:i∈(List.range vs.length).toArray:=g.mem_iff.mp ⇑hi;rw[<- l1] at m;simpa using m
 let tz:=jm_ t p.toList inr;rw[es] at tz;let rv:=PV r g
 have pz:(p.toList.map λi=>ys.getD i .non).Perm ys:=by
  have:=Iy (n:=ys.length) (by rw[l1];exact g) λi=>ys.getD i .non;rwa [IH] at this
 apply#[.ref s1.heap.objs.size,_,I1.laid (t':=s1.toks) kp (bo _) (show eI X.prog X.w _ h' _ (.lst (p.toList.map λi=>ys.getD i .non)) from #[?_,nM p vs,e,rv,hD]),Z,q _ _ (I1.aE.fresh (bo _)) tz pz];rw[pz.length_eq];have:=cn;omega
end
section
variable{X:Cx}
inductive oS (K:af) (xs:ag) (H:Hp) (Q:VK):Prop
 |mk:∀d kvs sh,xs=[.ref d]->H d\.dT kvs->BX (kvs.map (·.1)) sh->kvs.length<64->(∀l zs,H l=none->bC K H zs (aZ (kvs.map (·.1)))->Q (.ref l) (upd H l (.lst zs)))->oS K xs H Q
theorem f6_(hc:X.calm=true):gB X (.builtin "sorted") (oS X.K):=by
 intro pins s σ H xs us Q I r h;let#[d,kvs,sh,rfl,hd,al,bS,q]:=h;let#[u,rfl,ru]:=vals1 r;cases ru;exact Xp (by rw[ay];exact bS) al (lc_ (I.ok.hd hc) I (.inl hd) λys vs s1 I1 r1 t=>⟨H,ys,I1,r1,t,λl zs n t' _=>q l zs n t'⟩)
inductive oU (xs:ag) (H:Hp) (Q:VK):Prop
 |mk:∀d kvs ss,xs=[.ref d]->H d\.dK kvs->kvs.map (·.1)=ss.map Sum.inr->ss.length<64->(∀l,H l=none->Q (.ref l) (upd H l (.lst ((nF ss).map V.str))))->oU xs H Q
theorem f1_(hc:X.calm=true):gB X (.builtin "sorted") oU:=by
 intro pins s σ H xs us Q I r h;let#[d,kvs,ss,rfl,hd,ek,bS,q]:=h;let#[u,rfl,ru]:=vals1 r;cases ru;apply eo_ bS (TN (I.ok.hd hc) I (.inl hd) λvs s1 I1 r1=>⟨H,I1,?_,q⟩)
 have e:(kvs.map λkv=>kV kv.1)=ss.map V.str:=by
  rw[show (kvs.map λkv=>kV kv.1)=(kvs.map (·.1)).map kV by rw[b_];rfl,ek,b_];rfl
 rwa [e] at r1
inductive tP (K:af) (xs:ag) (H:Hp) (Q:VK):Prop
 |mk:∀(v d:Addr) (kvs:List (Key × V)) (ks:List (Key × Key)) (sh:List Bool),xs=[.ref v]->H v\qo v d->H d\.dK kvs->kvs=ks.map (λk:Key × Key=>(k.1,kV k.2))->BX (ks.map λk=>[k.1,k.2]) sh->ks.length<64->(∀l H1 zs,aa H H1->H1 l=none->bC K H1 zs (aZ (ks.map λk=>[k.1,k.2]))->Q (.ref l) (upd H1 l (.lst zs)))->tP K xs H Q
theorem g9_(hc:X.calm=true):gB X (.builtin "sorted") (tP X.K):=by
 intro pins s σ H xs us Q I r h;let#[v,d,kvs,ks,sh,rfl,hv,hd,ek,al,bS,q]:=h;let#[u,rfl,ru]:=vals1 r;cases ru;apply Xp (by rw[ay];exact bS) al (i4_ (I.ok.hd hc) I hv (.inl hd) λH1 ys vs s1 I1 sm r1 t=>⟨H1,ys,I1,r1,?_,λl zs n t' _=>q l H1 zs sm n t'⟩);subst ek
 have gen:∀(ks:List (Key × Key)) (ys:ag),k4 X.K H1 ys (ks.map (λk:Key × Key=>(k.1,kV k.2)))->bC X.K H1 ys (ks.map λk=>[k.1,k.2]):=λks=>by
  induction ks with
  |nil=>
   intro ys t;cases t;exact .nil
  |cons k ks ih=>
   intro ys t;cases t with
   |cons h t=>exact .cons h (ih _ t)
 exact gen ks ys t
inductive tR (xs:ag) (H:Hp) (Q:VK):Prop
 |mk:∀d kvs,xs=[.ref d]->Rd H d (.dK kvs)->(∀l,H l=none->Q (.ref l) (upd H l (.lst (kvs.map λkv=>kV kv.1))))->tR xs H Q
theorem QJ(hc:X.calm=true):gB X (.type "list") tR:=by
 intro pins s σ H xs us Q I r h;let#[d,kvs,rfl,hd,q]:=h;let#[u,rfl,ru]:=vals1 r;cases ru;let#[P,OK,S,ok,hp]:=TY I hd;let z:=(nE I.aE hd).1;apply kdl_call S (I.ok.hd hc) ok (by rw[ay];exact z) λh' tk acc c k hD a=>?_;apply#[.ref s.heap.objs.size,_,I.laid (t':=tk) k (bo _) (show eI X.prog X.w _ h' _ (.lst (kvs.map λkv=>kV kv.1)) from #[by rw[ay];exact z,acc.toList,c,Lk a hp,by rw[Array.toArray_toList];exact hD]),Z,q _ I.fresh]
theorem KV.hG{κ:Type}[DecidableEq κ]:∀{more:List (κ × V)} {rs:List (κ × Aa)} {kvs:List (κ × V)} {vs:List (κ × Aa)},KV more rs->KV kvs vs->KV (more.foldl (λacc kv=>putK acc kv.1 kv.2) kvs) (cY.hG vs rs):=λ{more rs kvs vs} h=>by
 induction h generalizing kvs vs with
 |nil=>exact λh=>h
 |@cons p q _ _ h _ ih=>
  intro h2;let#[k,y]:=p;let#[k',u]:=q;let#[h1,h3]:=h;have h1:k=k':=h1;subst h1;exact ih (h2.put k h3)
inductive oW (K:af) (xs:ag) (H:Hp) (Q:VK):Prop
 |mk:∀p ys kvs,xs=[.ref p]->H p\.lst ys->k4 K H ys kvs->kvs.length<=1000->(∀l,H l=none->Q (.ref l) (upd H l (.dK (Cb [] kvs))))->oW K xs H Q
theorem Cw(hc:X.calm=true):gB X (.type "dict") (oW X.K):=by
 intro pins s σ H xs us Q I r h;let#[p,ys,kvs,rfl,hp,t,hz,q]:=h;let#[u,rfl,ru]:=vals1 r;cases ru;let#[z,its,n,rv,hl,ho]:=I.mL hp
 have gen:∀{ys:ag} {its:ak} {kvs:List (Key × V)},Vals ys its->k4 X.K H ys kvs->∃ps,KV kvs ps/\Po (d_ X.prog X.w) s.heap its ps:=λ{ys its kvs} rv t=>by
  induction t generalizing its with
  |nil=>
   cases rv;exact#[[],.nil,.nil]
  |@cons y p ys kvs h t ih=>
   cases rv with
   |cons r0 rv=>
    let#[ps,h1,h2]:=ih rv;let#[a,e,sq]:=h;subst e;cases r0;let#[tv,rt,it,_]:=I.tuple (fN.of sq);let#[key,x,e2,rk,rx]:=vals2 rt;subst e2;apply#[(p.1,x)::ps,Paired.cons (show p.1=p.1/\RelV p.2 x from #[Z,rx]) h1,Paired.cons (show ∃a' FI,Value.ref a=.ref a'/\IsTup s.heap a' (List.toArray [FI,x])/\(d_ X.prog X.w).is p.1 FI=true from #[a,key,Z,it,vY rk]) h2]
 let#[ps,h1,h2]:=gen rv t;let lp:=KV.length h1;apply eH_ (knd:=d_ X.prog X.w) (I.ok.hd hc) ho h2 Z1 λh' tk hd kp=>?_;apply#[.ref s.heap.objs.size,_,I.laid (t':=tk) kp (bo _) (On ?_ (beq_eq_false_iff_ne.mpr (Ne.symm (eJ I.big))) (KV.hG h1 .nil) hd),Z,q _ I.fresh];have:=XI kvs [];have:=cn;simp only[qP] at *;show (Cb [] kvs).length<=sizeLine;omega
theorem Qi:∀{bs:List Bool} {vs:ak},Vals (bs.map V.bl) vs->vs=bs.map Value.bool
 |[],_,.nil=>rfl
 |b::bs,_,.cons h t=>by
  cases h;rw[Qi t];rfl
inductive A6 (K:af) (g:List Bool->Bool) (xs:ag) (H:Hp) (Q:VK):Prop
 |mk:∀p bs,xs=[.ref p]->dW K H p (bs.map V.bl)->Q (.bl (g bs)) H->A6 K g xs H Q
theorem Vz(hc:X.calm=true):gB X (.builtin "all") (A6 X.K λbs=>bs.all id):=by
 intro pins s σ H xs us Q I r h;let#[p,bs,rfl,hp,q]:=h;let#[u,rfl,ru]:=vals1 r;cases ru;let#[its,rv,pl,z]:=I.list hp;obtain rfl:=Qi rv;let hl:=pl.isList;have lt:p<s.heap.objs.size:=by let#[_,e,_]:=hl;exact cK e
 apply call_all_walk (wpAny_pyIter_list hl ⟨s.heap.objs.size,[s.heap.objs.size,p],[s.heap.objs.size],(bs.map Value.bool).toArray.size,_,_,λi=>(bs[i]?).getD true,rfl,Walks.list (A:=X.A.in1) (I.ok.hd hc) _ p (eJ lt) _,⟨⟨_,eE _ rfl,rfl,rfl⟩,hl.push _⟩,λi v s' Q' E' hP hQ=>?_,λh' tk hk=>?_⟩)
 ·have hP:(bs.map Value.bool).toArray[i]? = some v:=hP;simp only[List.getElem?_toArray,dU] at hP;cases e:bs[i]? with
  |none=>rw[e] at hP;cases hP
  |some b=>
   have hQ:Q' ((bs[i]?).getD true) s':=hQ;rw[e] at hP hQ;cases hP;exact qk hQ
 have e:((List.range (bs.map Value.bool).toArray.size).all λi=>(bs[i]?).getD true)=bs.all id:=by
  rw[cq,ay];exact LSm.range_all bs
 rw[e];exact#[.bl _,H,I.kept (LSm.kept_iter hk),Z,q]
theorem j6_(hc:X.calm=true):gB X (.builtin "any") (A6 X.K λbs=>bs.any id):=by
 intro pins s σ H xs us Q I r h;let#[p,bs,rfl,hp,q]:=h;let#[u,rfl,ru]:=vals1 r;cases ru;let#[its,rv,pl,z]:=I.list hp;obtain rfl:=Qi rv;let hl:=pl.isList;have lt:p<s.heap.objs.size:=by let#[_,e,_]:=hl;exact cK e
 apply call_any_walk (wpAny_pyIter_list hl #[s.heap.objs.size,[s.heap.objs.size,p],[s.heap.objs.size],(bs.map Value.bool).toArray.size,_,_,λi=>(bs[i]?).getD false,Z,Walks.list (A:=X.A.in1) (I.ok.hd hc) _ p (eJ lt) _,#[#[_,eE _ Z,Z,Z],hl.push _],λi v s' Q' E' hP hQ=>?_,λh' tk hk=>?_])
 ·have hP:(bs.map Value.bool).toArray[i]? = some v:=hP;simp only[List.getElem?_toArray,dU] at hP;cases e:bs[i]? with
  |none=>rw[e] at hP;cases hP
  |some b=>
   have hQ:Q' ((bs[i]?).getD false) s':=hQ;rw[e] at hP hQ;cases hP;exact qk hQ
 have e:((List.range (bs.map Value.bool).toArray.size).any λi=>(bs[i]?).getD false)=bs.any id:=by
  rw[cq,ay];exact LSm.range_any bs
 rw[e];exact#[.bl _,H,I.kept (LSm.kept_iter hk),Z,q]
theorem Uj:∀{ns:List Int} {vs:ak},Vals (ns.map V.int) vs->IntsAre vs ns
 |[],_,.nil=>.nil
 |n::ns,_,.cons h t=>by
  let#[tk,rfl]:=h;exact .cons _ _ (Uj t)
inductive E5 (K:af) (xs:ag) (H:Hp) (Q:VK):Prop
 |mk:∀(p:Addr) (ns:List Int),xs=[.ref p]->dW K H p (ns.map V.int)->0<ns.length->(∀m,m∈ns->(∀a∈ns,a<=m)->Q (.int m) H)->E5 K xs H Q
theorem in_(hc:X.calm=true):gB X (.builtin "max") (E5 X.K):=by
 intro pins s σ H xs us Q I r h;let#[p,ns,rfl,hp,hn,q]:=h;let#[u,rfl,ru]:=vals1 r;cases ru;let#[its,rv,pl,z]:=I.list hp;let hi:=Uj rv;let#[xs,e]:=hi.allInts.items;let hl:=pl.isList;have Bs:ns=xs.toList.map (·.1):=by rw[<- hi.numsOf,<- nums_intItems,<- e]
 have hsz:0<xs.size:=by
  let h3:=hn;rw[Bs] at h3;simpa using h3
 rw[e] at hl;apply max_intList (I.ok.hd hc) hl hsz λv h' tk hv hk=>?_;let#[t,rfl]:=intItems_at hv;let#[h1,h2]:=argBest_gt (numAt xs) (xs.size - 1);apply#[.int _,H,I.kept hk,#[t,Z],q _ ?_ λa ha=>?_]
 ·rw[Bs,numAt_eq];exact getD_mem (by rw[ay,qS];omega)
 rw[Bs] at ha;let#[j,hj,rfl]:=mem_getD ha;rw[ay,qS] at hj;rw[<- numAt_eq];exact h2 j Z1
end
end L2
namespace Lu
open PySem PySem.SeqAt PyProof.Rows
open AutoSeq1 (wpAny_loadPart')
open MeetsSeq MeetsSeq2 MeetsSeq3 SeqRoads2
theorem lN_(l b:Addr)(xs ys:Array Aa)(n m:Nat)(dl db:Option Addr)(sl sb:Array (Option Aa))(hs:xs.size=ys.size)(e:Nat->Bool)(k:Nat) :
  ∀i:Nat,xs.size - i=k->Meets (Builtin.«list.__eq__.loop» #[[.ref l,.ref b,rawInt i,rawInt 3],[]])
   (λA R s=>(s.heap.get? l=some { cls:=.type "list",dict:=dl,data:=.seq xs n,slots:=sl }/\s.heap.get? b=some { cls:=.type "list",dict:=db,data:=.seq ys m,slots:=sb }) /\
    (∀j (h1:j<xs.size) (h2:j<ys.size),EqAt A.in1 s xs[j] ys[j] (e j))/\R (.ok (.ret (.bool (!((List.range xs.size).drop i).all e)))) s):=by
 induction k with
 |zero=>
  intro i hk prog w A R s ⟨⟨gl,gb⟩,he,h⟩;let#[hp,g,d,tk,os]:=s
  wp_walk using qj gl,qj gb
  rw[show xs[((i:Nat):Int).toNat]? = none by simp;omega,show ys[((i:Nat):Int).toNat]? = none by simp;omega];rw[show (List.range xs.size).drop i=[] by simp;omega] at h
  wp_walk using qj gl,qj gb
  apply (show R (.ok (.ret (.bool (xs.size != ys.size)))) _ from ?_);rw[show (xs.size != ys.size)=false by simp[hs]];exact h
 |succ k ih=>
  intro i hk prog w A R s ⟨⟨gl,gb⟩,he,h⟩;let#[hp,g,d,tk,os]:=s
  wp_walk using qj gl,qj gb
  have z1:i<xs.size:=by omega
  have z2:i<ys.size:=by omega
  have q1:xs[((i:Nat):Int).toNat]? = some xs[i]:=by simp[z1]
  have q2:ys[((i:Nat):Int).toNat]? = some ys[i]:=by simp[z2]
  rw[show (List.range xs.size).drop i=i::(List.range xs.size).drop (i+1) by simp[List.drop_eq_getElem_cons,z1],List.all_cons] at h;rw[q1,q2];apply ao (he i z1 z2 prog w _ _ ?_);cases c:e i with
  |true=>
   rw[c] at h
   wp_walk
   rw[show ((i:Int)+1)=((i+1:Nat):Int) by omega];apply#[plainId_quiet plain_eq_loop _,codeAny_builtin entry_eq_loop ?_];rw[Around.under_plainId plain_eq_loop _];exact ih (i+1) Z1 prog w A R _ #[#[gl,gb],he,by simpa using h]
  |false=>
   rw[c] at h
   wp_walk using qj gl,qj gb
   rw[q1,q2]
   wp_walk
   simpa using h
theorem iz_(l b:Addr)(xs ys:Array Aa)(n m:Nat)(dl db:Option Addr)(sl sb:Array (Option Aa))(hs:xs.size=ys.size)(e:Nat->Bool) :
  Meets (Builtin.«list.__ne__» #[[.ref l,.ref b],[]])
   (λA R s=>(s.heap.get? l=some { cls:=.type "list",dict:=dl,data:=.seq xs n,slots:=sl }/\s.heap.get? b=some { cls:=.type "list",dict:=db,data:=.seq ys m,slots:=sb }) /\
    (∀j (h1:j<xs.size) (h2:j<ys.size),EqAt A.in1 s xs[j] ys[j] (e j))/\R (.ok (.ret (.bool (!(List.range xs.size).all e)))) s):=by
 intro prog w A R s ⟨⟨gl,gb⟩,he,h⟩;let#[hp,g,d,tk,os]:=s;let f3:=AutoSeq1.sub_list_list;have no:¬(xs.size != ys.size)=true:=by simp[hs]
 wp_walk using qj gl,qj gb
 apply#[plainId_quiet plain_eq_loop _,codeAny_builtin entry_eq_loop ?_];rw[Around.under_plainId plain_eq_loop _];exact lN_ l b xs ys n m dl db sl sb hs e _ 0 Z prog w A R _ #[#[gl,gb],he,by simpa using h]
theorem jr_(l b:Addr)(xs ys:Array Aa)(n m:Nat)(dl db:Option Addr)(sl sb:Array (Option Aa))(hs:(xs.size != ys.size)=true) :
  Meets (Builtin.«list.__ne__» #[[.ref l,.ref b],[]])
   (λA R s=>(s.heap.get? l=some { cls:=.type "list",dict:=dl,data:=.seq xs n,slots:=sl }/\s.heap.get? b=some { cls:=.type "list",dict:=db,data:=.seq ys m,slots:=sb })/\R (.ok (.ret (.bool true))) s):=
 .of_wp λprog w A R s ⟨⟨gl,gb⟩,h⟩=>by
  let#[hp,g,d,tk,os]:=s;let f3:=AutoSeq1.sub_list_list
  wp_walk using qj gl,qj gb
  exact#[_,Z,h]
section
variable{prog:Ad}{w:Af}{A:Ag}{E:Aa->Ab->Prop}{s:Ab}
theorem qa{l b:Addr}{xs ys:Array Aa}{e:Nat->Bool}{Q:Aa->Ab->Prop}(hl:s.heap.IsList l xs)(hb:s.heap.IsList b ys)(hs:xs.size=ys.size)(hu:A.units<cLine)
  (he:∀j (h1:j<xs.size) (h2:j<ys.size),EqAt A.in1 s xs[j] ys[j] (e j)) (h:Q (.bool (!(List.range xs.size).all e)) s):wpAny (model prog w) A (compareOp .NotEq (.ref l) (.ref b)) Q E s:=by
 let#[#[c1,d1,t1,l1],o1,k1,n1,z1]:=id hl;let#[#[c2,d2,t2,l2],o2,k2,n2,z2]:=id hb;simp only at k1 z1 k2 z2;subst k1 z1 k2 z2;exact richCompare_meets_room (op:=.NotEq) #[_,o1,Z] #[_,o2,Z] F.slot_list_ne F.entry_list_ne (F.args_list_ne_2 _ _) (iz_ l b xs ys n1 n2 d1 d2 l1 l2 hs e) #[#[o1,o2],he,show Value.bool (!(List.range xs.size).all e)≠Value.notImplemented/\Q (.bool (!(List.range xs.size).all e)) s from #[(λx=>nomatch x),h]] hu
theorem g9{l b:Addr}{xs ys:Array Aa}{Q:Aa->Ab->Prop}(hl:s.heap.IsList l xs)(hb:s.heap.IsList b ys)(hs:(xs.size != ys.size)=true)(hu:A.units<cLine)(h:Q (.bool true) s):wpAny (model prog w) A (compareOp .NotEq (.ref l) (.ref b)) Q E s:=by
 let#[#[c1,d1,t1,l1],o1,k1,n1,z1]:=id hl;let#[#[c2,d2,t2,l2],o2,k2,n2,z2]:=id hb;simp only at k1 z1 k2 z2;subst k1 z1 k2 z2;exact richCompare_meets_room (op:=.NotEq) #[_,o1,Z] #[_,o2,Z] F.slot_list_ne F.entry_list_ne (F.args_list_ne_2 _ _) (jr_ l b xs ys n1 n2 d1 d2 l1 l2 hs) #[#[o1,o2],show Value.bool true≠Value.notImplemented/\Q (.bool true) s from #[(λx=>nomatch x),h]] hu
end
end Lu
namespace L2
open PySem PySem.Spec PyProof.Rows PySem.W jL cY
abbrev Rp(D:Type):=Hp->V->D->Prop
structure jM (X:Cx) (n:Nat) {D:Type} [DecidableEq D] (R:Rp D):Prop where
 eq:∀{pins:List (Addr × Obj)} {σ:St} {H:Hp} {s:Ab} {A:Ag} {x y:V} {u v:Aa} {d e:D},Inv X pins σ H s->RelV x u->RelV y v->R H x d->R H y e->A.units+n<cLine->SeqAt.EqAt A s u v (decide (d=e))
 one:∀{pins:List (Addr × Obj)} {σ:St} {H:Hp} {s:Ab} {x:V} {d e:D},Inv X pins σ H s->R H x d->R H x e->d=e
def rS:Rp Str:=λ_ x d=>x=.str d
def rZ:Rp Int:=λ_ x d=>x=.int d
def r2(K:af){D1 D2:Type}(R1:Rp D1)(R2:Rp D2):Rp (D1 × D2):=λH x d=>∃a u v,x=.ref a/\fN K H a [u,v]/\R1 H u d.1/\R2 H v d.2
def rL(K:af){D:Type}(R:Rp D):Rp (List D):=λH x ds=>∃a xs,x=.ref a/\dW K H a xs/\Paired (R H) xs ds
section
variable{X:Cx}
theorem hZ:jM X 0 rS where
 eq:=λ{pins σ H s A x y u v d e} I ru rv hx hy hu=>by
  have hx:x=.str d:=hx;have hy:y=.str e:=hy;subst hx;subst hy;let q:=Hc (A:=A) (s:=s) ru rv Z Z
  have e2:mX (.str d) (.str e)=decide (d=e):=by
   show (d == e)=_;by_cases h:d=e
   ·subst h;simp
   simp[h]
  rwa [e2] at q
 one:=λ{pins σ H s x d e} I hx hy=>by
  have hx:x=.str d:=hx;have hy:x=.str e:=hy;rw[hx] at hy;exact V.str.inj hy
theorem QD:jM X 0 rZ where
 eq:=λ{pins σ H s A x y u v d e} I ru rv hx hy hu=>by
  have hx:x=.int d:=hx;have hy:y=.int e:=hy;subst hx;subst hy;let q:=Hc (A:=A) (s:=s) ru rv Z Z
  have e2:mX (.int d) (.int e)=decide (d=e):=by
   show (d == e)=_;by_cases h:d=e
   ·subst h;simp
   simp[h]
  rwa [e2] at q
 one:=λ{pins σ H s x d e} I hx hy=>by
  have hx:x=.int d:=hx;have hy:x=.int e:=hy;rw[hx] at hy;exact V.int.inj hy
theorem D5{h:Heap}{a:Addr}{its:Array Aa}(t:IsTup h a its):h.IsTuple a its:=t
theorem Hn{n m:Nat}{D1 D2:Type}[DecidableEq D1][DecidableEq D2]{R1:Rp D1}{R2:Rp D2}(c1:jM X n R1)(c2:jM X m R2):jM X (max n m+1) (r2 X.K R1 R2) where
 one:=λ{pins σ H s x d e} I hx hy=>by
  let#[a,u,v,rfl,t,q1,q2]:=hx;let#[b,u',v',e0,t',CT,CQ]:=hy;cases e0;let e1:=I.gi t t';cases e1;exact Prod.ext (c1.one I q1 CT) (c2.one I q2 CQ)
 eq:=λ{pins σ H s A x y u v d e} I ru rv hx hy hu=>by
  let C_:=hx;let hy':=hy;let#[a,x1,x2,rfl,t,q1,q2]:=hx;let#[b,y1,y2,rfl,t',CT,CQ]:=hy;cases ru;cases rv;by_cases jB:a=b
  ·subst jB;let e1:=I.gi t t';cases e1;have:d=e:=Prod.ext (c1.one I q1 CT) (c2.one I q2 CQ);rw[cb this];exact SeqAt.EqAt.same _
  let#[its,r,it,_]:=I.tuple t;let#[its',r',Nb,_]:=I.tuple t';let#[u1,u2,rfl,r1,r2]:=vals2 r;let#[w1,w2,rfl,Mm,Ml]:=vals2 r'
  let key:=SeqAt.EqAt.of_refs jB (SeqAt.RcAt.tuples (A:=A) (s:=s) (e:=λj=>if j=0 then decide (d.1=e.1) else decide (d.2=e.2)) (D5 it) (D5 Nb) Z1 λj h1 h2=>by
   match j,h1,h2 with
   |0,_,_=>exact c1.eq I r1 Mm q1 CT (by show A.units+1+n<cLine;omega)
   |1,_,_=>exact c2.eq I r2 Ml q2 CQ (by show A.units+1+m<cLine;omega))
  have e3:((List.range (min [u1,u2].toArray.size [w1,w2].toArray.size)).all (λj=>if j=0 then decide (d.1=e.1) else decide (d.2=e.2))&&[u1,u2].toArray.size == [w1,w2].toArray.size)=decide (d=e):=by
   show (decide (d.1=e.1)&&(decide (d.2=e.2)&&true)&&true)=_;by_cases h1:d.1=e.1
   ·by_cases h2:d.2=e.2
    ·have:d=e:=Prod.ext h1 h2;simp[this]
    have:¬d=e:=λz=>h2 (by rw[z]);simp[h1,h2,this]
   have:¬d=e:=λz=>h1 (by rw[z]);simp[h1,this]
  rw[e3] at key;exact key
theorem ig{α β:Type}{F:α->β->Prop}:∀{l:List α} {m:List β},Paired F l m->∀(i:Nat) (h1:i<l.length) (h2:i<m.length),F l[i] m[i]
 |_,_,.cons h t,0,_,_=>h
 |_,_,.cons h t,i+1,h1,h2=>ig t i ⇑h1 ⇑h2
theorem Lg{D:Type}[DecidableEq D]:∀{ds es:List D},ds.length=es.length->((List.range ds.length).all λj=>decide (ds[j]? = es[j]?))=decide (ds=es):=λ{ds es} hl=>by
 by_cases h:ds=es
 ·subst h;simp
 rw[dH h]
 have:∃i,i<ds.length/\ds[i]?≠es[i]?:=by
  apply Classical.byContradiction λhn=>h ?_;apply List.ext_getElem? ?_;intro i;by_cases hi:i<ds.length
  ·exact Classical.byContradiction λq=>hn #[i,hi,q]
  rw[List.getElem?_eq_none Z1,List.getElem?_eq_none Z1]
 let#[i,hi,q]:=this;rw[List.all_eq_false];exact#[i,by simpa using hi,by simpa using q]
theorem Qy{D:Type}[DecidableEq D]{n:Nat}{R:Rp D}(c:jM X n R){pins:List (Addr × Obj)}{σ:St}{H:Hp}{s:Ab}(I:Inv X pins σ H s):∀{xs:ag} {ds es:List D},Paired (R H) xs ds->Paired (R H) xs es->ds=es
 |_,_,_,.nil,.nil=>rfl
 |_,_,_,.cons h t,.cons h' t'=>by rw[c.one I h h',Qy c I t t']
theorem K8{D:Type}[DecidableEq D]{n:Nat}{R:Rp D}(c:jM X n R){pins:List (Addr × Obj)}{σ:St}{H:Hp}{s:Ab}{A:Ag}(I:Inv X pins σ H s){xs ys:ag}{us vs:ak}{ds es:List D}(ru:Vals xs us)(rv:Vals ys vs)(hx:Paired (R H) xs ds)(hy:Paired (R H) ys es)(hu:A.units+n<cLine) :
  ∀j (h1:j<us.toArray.size) (h2:j<vs.toArray.size),SeqAt.EqAt A s us.toArray[j] vs.toArray[j] (decide (ds[j]? = es[j]?)):=λj h1 h2=>by
 let l1:=ru.length;let l2:=rv.length;let l3:=bH hx;let l4:=bH hy;simp only[cq] at h1 h2;let q:=c.eq (A:=A) I (ig ru j Z1 h1) (ig rv j Z1 h2) (ig hx j Z1 Z1) (ig hy j Z1 Z1) hu
 have e:decide (ds[j]? = es[j]?)=decide (ds[j]' Z1=es[j]' Z1):=by
  rw[cE Z1,cE Z1];by_cases z:ds[j]' Z1=es[j]' Z1
  ·simp[z]
  simp[z]
 rw[e];exact q
theorem QE{n:Nat}{D:Type}[DecidableEq D]{R:Rp D}(c:jM X n R):jM X (n+1) (rL X.K R) where
 one:=λ{pins σ H s x d e} I hx hy=>by
  let#[a,xs,rfl,t,q]:=hx;let#[b,ys,e0,t',q']:=hy;cases e0;let e1:=I.fQ t t';subst e1;exact Qy c I q q'
 eq:=λ{pins σ H s A x y u v d e} I ru rv hx hy hu=>by
  let#[a,xs,rfl,t,q]:=hx;let#[b,ys,rfl,t',q']:=hy;cases ru;cases rv;by_cases jB:a=b
  ·subst jB;let e1:=I.fQ t t';subst e1;rw[cb (Qy c I q q')];exact SeqAt.EqAt.same _
  let#[us,r,pl,_]:=I.list t;let#[vs,r',oY,_]:=I.list t';let l1:=r.length;let l2:=r'.length;let l3:=bH q;let l4:=bH q';by_cases hl:d.length=e.length
  ·let key:=SeqAt.EqAt.of_refs jB (SeqAt.RcAt.lists (A:=A) (s:=s) pl.isList oY.isList (by simp only[cq];omega) Z1 (K8 c I r r' q q' (A:=A.in1) (by show A.units+1+n<cLine;omega)));rw[show us.toArray.size=d.length by simp only[cq];omega,Lg hl] at key;exact key
  rw[dH (λz=>hl (by rw[z]))];apply SeqAt.EqAt.of_refs jB (SeqAt.RcAt.lists_lengths (A:=A) (s:=s) pl.isList oY.isList ?_ Z1);simp only[cq,bne_iff_ne];omega
def w_{D:Type}[DecidableEq D](R:Rp D)(neg:Bool):V->V->Hp->VK->Prop:=λx y H Q=>∃d e,R H x d/\R H y e/\Q (.bl (if neg then !decide (d=e) else decide (d=e))) H
theorem TK{n:Nat}{D:Type}[DecidableEq D]{R:Rp D}(c:jM X n R)(hu:X.A.units+n+1<cLine):dN X (compareOp .Eq) (w_ (rL X.K R) false):=by
 intro pins s σ H x y v u Q I rx ry h;let#[d,e,#[a,xs,rfl,t,q],#[b,ys,rfl,t',q'],hq]:=h;cases rx;cases ry;let#[us,r,pl,_]:=I.list t;let#[vs,r',oY,_]:=I.list t';let l1:=r.length;let l2:=r'.length;let l3:=bH q;let l4:=bH q';by_cases hl:d.length=e.length
 ·apply SeqAt.eq_listAt pl.isList oY.isList (by simp only[cq];omega) Z1 (K8 c I r r' q q' (A:=X.A.in1) (by show X.A.units+1+n<cLine;omega)) #[.bl _,H,I,Z,?_];rw[show us.toArray.size=d.length by simp only[cq];omega,Lg hl];exact hq
 apply SeqAt.eq_list_lengthsAt pl.isList oY.isList (by simp only[cq,bne_iff_ne];omega) Z1 #[.bl _,H,I,Z,?_];have hq:Q (.bl (decide (d=e))) H:=hq;rwa [dH (λz=>hl (by rw[z]))] at hq
theorem ln_{n:Nat}{D:Type}[DecidableEq D]{R:Rp D}(c:jM X n R)(hu:X.A.units+n+1<cLine):dN X (compareOp .NotEq) (w_ (rL X.K R) true):=by
 intro pins s σ H x y v u Q I rx ry h;let#[d,e,#[a,xs,rfl,t,q],#[b,ys,rfl,t',q'],hq]:=h;cases rx;cases ry;let#[us,r,pl,_]:=I.list t;let#[vs,r',oY,_]:=I.list t';let l1:=r.length;let l2:=r'.length;let l3:=bH q;let l4:=bH q';have hq:Q (.bl (!decide (d=e))) H:=hq;by_cases hl:d.length=e.length
 ·apply Lu.qa pl.isList oY.isList (by simp only[cq];omega) Z1 (K8 c I r r' q q' (A:=X.A.in1) (by show X.A.units+1+n<cLine;omega)) #[.bl _,H,I,Z,?_];rw[show us.toArray.size=d.length by simp only[cq];omega,Lg hl];exact hq
 apply Lu.g9 pl.isList oY.isList (by simp only[cq,bne_iff_ne];omega) Z1 #[.bl _,H,I,Z,?_];rwa [dH (λz=>hl (by rw[z]))] at hq
def A5(K:af){D:Type}[DecidableEq D](R:Rp D)(neg:Bool):V->V->Hp->VK->Prop:=λx y H Q=>∃d es,R H x d/\rL K R H y es/\Q (.bl (if neg then !decide (d∈es) else decide (d∈es))) H
theorem T4{D:Type}[DecidableEq D]{n:Nat}{R:Rp D}(c:jM X n R){pins:List (Addr × Obj)}{σ:St}{H:Hp}{s:Ab}{A:Ag}(I:Inv X pins σ H s){x:V}{u:Aa}{d:D}(ru:RelV x u)(hx:R H x d)(hu:A.units+n<cLine):∀{ys:ag} {vs:ak} {es:List D},Vals ys vs->Paired (R H) ys es->
  ∃f:Aa->Bool,(∀w∈vs,SeqAt.EqAt A s w u (f w))/\vs.any f=decide (d∈es):=λ{ys vs es} rv hy=>by
 let f:Aa->Bool:=λw=>@decide (∃y e,RelV y w/\R H y e/\e=d) (Classical.propDecidable _)
 have sound:∀y w e,RelV y w->R H y e->f w=decide (e=d):=λy w e h1 h2=>by
  by_cases z:e=d
  ·rw[cb z];exact @cb _ (Classical.propDecidable _) #[y,e,h1,h2,z]
  rw[dH z];apply @dH _ (Classical.propDecidable _) λ⟨y',e',g1,g2,g3⟩=>z ?_;have:y'=y:=RelV.inj g1 h1;subst this;rw[<- g3];exact c.one I h2 g2
 apply#[f,?_,?_]
 ·induction rv generalizing es with
  |nil=>exact λw hw=>nomatch hw
  |cons h t ih=>
   cases hy with
   |cons g t'=>
    intro w hw;rcases cU.mp hw with rfl|hw
    ·rw[sound _ _ _ h g];exact c.eq I h ru g hx hu
    exact ih t' w hw
 induction rv generalizing es with
 |nil=>
  cases hy;simp
 |cons h t ih=>
  cases hy with
  |@cons _ e _ es g t'=>
   rw[List.any_cons,ih t',sound _ _ _ h g];by_cases z:e=d
   ·subst z;simp
   by_cases z2:d∈es
   ·simp[z2]
   have:¬d∈e::es:=λq=>by
    rcases cU.mp q with q|q
    ·exact z q.symm
    exact z2 q
   rw[dH z,dH z2,dH this];rfl
theorem Ov{n:Nat}{D:Type}[DecidableEq D]{R:Rp D}(c:jM X n R)(hu:X.A.units+n+1<cLine):dN X (compareOp .In) (A5 X.K R false):=by
 intro pins s σ H x y v u Q I rx ry h;let#[d,es,hx,#[a,ys,rfl,t,q],hq]:=h;cases ry;let#[us,r,pl,_]:=I.list t;let#[f,h1,h2]:=T4 c I (A:=X.A.in1) rx hx (by show X.A.units+1+n<cLine;omega) r q;apply SeqAt.in_listAt f pl.isList (λw hw=>h1 w ⇑hw) #[.bl _,H,I,Z,?_];rw[show us.toArray.any f=us.any f by simp,h2];exact hq
theorem Wz{n:Nat}{D:Type}[DecidableEq D]{R:Rp D}(c:jM X n R)(hu:X.A.units+n+1<cLine):dN X (compareOp .NotIn) (A5 X.K R true):=by
 intro pins s σ H x y v u Q I rx ry h;let#[d,es,hx,#[a,ys,rfl,t,q],hq]:=h;cases ry;let#[us,r,pl,_]:=I.list t;let#[f,h1,h2]:=T4 c I (A:=X.A.in1) rx hx (by show X.A.units+1+n<cLine;omega) r q;apply SeqAt.notIn_listAt f pl.isList (λw hw=>h1 w ⇑hw) #[.bl _,H,I,Z,?_];rw[show us.toArray.any f=us.any f by simp,h2];exact hq
end
end L2
namespace L2
open PySem PySem.Spec PyProof.Rows PySem.W jL cY
section
variable{X:Cx}
inductive w6 (K:af) (xs:ag) (H:Hp) (Q:VK):Prop
 |mk:∀x T t b,xs=[x,.ty T]->fi K H x t->PySem.W.kitOne K t (.type T)\b->Q (.bl b) H->w6 K xs H Q
theorem jq:gB X (.builtin "isinstance") (w6 X.K):=by
 intro pins s σ H xs us Q I r h;let#[x,T,t,b,rfl,ty,e,q]:=h;let#[u,w',rfl,ru,mF]:=vals2 r;cases (show w'=Value.type T from mF);exact V7 I ru ty e λtk=>#[.bl b,H,I.tok tk,Z,q]
inductive WS (x:V) (y:V) (H:Hp) (Q:VK):Prop
 |mk:∀i j,x=.str i->y=.str j->Q (.bl (!decide (j.cps.toList<i.cps.toList))) H->WS x y H Q
theorem Xi:dN X (compareOp .LtE) WS:=by
 intro pins s σ H x y v u Q I rx ry h;let#[i,j,rfl,rfl,q]:=h;let#[t,rfl]:=rx;let#[t',rfl]:=ry;exact PySem.P.le_str ⟨.bl _,H,I,rfl,q⟩
inductive rh (mk:Addr->Addr->HO) (Q:VK) (x:V) (H1:Hp):Prop
 |mk:∀d kvs,x=.ref d->H1 d\.dK kvs->(∀v,H1 v=none->Q (.ref v) (upd H1 v (mk v d)))->rh mk Q x H1
def yz(mk:Addr->Addr->HO)(td:TE):TE:=λσ H Q=>td σ H λx H1=>rh mk Q x H1
theorem Vi{pins:List (Addr × Obj)}{σ:St}{H:Hp}{s:Ab}{d:Addr}{cls:String}(I:Inv X pins σ H s)(φ:Heap->Prop)(hφ:φ (s.heap.push { cls:=.type cls,data:=.fields (List.toArray [.ref d]) }))(hs:∀h1 h2:Heap,φ h1->(∀o,h1.get? s.heap.objs.size\o->h2.get? s.heap.objs.size\o)->φ h2) :
  Inv X pins σ (upd H s.heap.objs.size (.ext φ)) { s with heap:=s.heap.push { cls:=.type cls,data:=.fields (List.toArray [.ref d]) } }:=
 I.laid (t':=s.toks) (λ_ _ q=>cj _ q) (bo _) #[hφ,#[_,eE _ Z],hs]
theorem Hs{o:Expr}{td:TE}{apos cQ:Pos}(ho:PE X o td)(hX:attributeBase o "items" X.env (eval o X.env)=eval o X.env:=by rfl)(j9:(apos.endLine == cQ.line)=true:=by rfl):PE X (.Call (.Attribute o "items" apos) [] [] cQ) (yz qo td):=by
 intro pins s σ H Q I h;apply wpAny_Call_method0_late hX j9 (aR (ho pins s σ H _ I h) λv s1 ⟨x,H1,I1,r1,d,kvs,e,hd,q⟩=>?_);subst e;cases r1;let#[t1,t2,t3]:=T7 I1 (.inl #[kvs,.inl hd]);let#[_,_,vs,rel,dd]:=Dy I1.aE hd;apply#["dict","dict.items",PySem.F.plainAttrs_dict,PySem.F.slot_dict_items,PySem.F.type_dict_items,t1,t2,Calls.callWith_builtin Z (PySem.evalArgs_none ?_)];apply call_meetsIn PySem.F.slot_dict_items t1 PySem.F.entry_dict_items (PySem.F.args_dict_items_1 _) (meets_dict_items (d_ X.prog X.w) d t3) #[#[vs,dd],?_];exact#[.ref _,_,Vi I1 _ #[_,eE _ Z,Z,Z] λh1 h2 ⟨o,e,r⟩ k=>#[o,k o e,r],Z,q _ I1.fresh]
theorem WC{o:Expr}{td:TE}{apos cQ:Pos}(ho:PE X o td)(hX:attributeBase o "values" X.env (eval o X.env)=eval o X.env:=by rfl)(j9:(apos.endLine == cQ.line)=true:=by rfl):PE X (.Call (.Attribute o "values" apos) [] [] cQ) (yz wb td):=by
 intro pins s σ H Q I h;apply wpAny_Call_method0_late hX j9 (aR (ho pins s σ H _ I h) λv s1 ⟨x,H1,I1,r1,d,kvs,e,hd,q⟩=>?_);subst e;cases r1;let#[t1,t2,t3]:=T7 I1 (.inl #[kvs,.inl hd]);let#[_,_,vs,rel,dd]:=Dy I1.aE hd;apply#["dict","dict.values",PySem.F.plainAttrs_dict,PySem.F.slot_dict_values,PySem.F.type_dict_values,t1,t2,Calls.callWith_builtin Z (PySem.evalArgs_none ?_)];apply call_meetsIn PySem.F.slot_dict_values t1 PySem.F.entry_dict_values (PySem.F.args_dict_values_1 _) (meets_dict_values (d_ X.prog X.w) d t3) #[#[vs,dd],?_];exact#[.ref _,_,Vi I1 _ #[_,eE _ Z,Z,Z] λh1 h2 ⟨o,e,r⟩ k=>#[o,k o e,r],Z,q _ I1.fresh]
end
section
variable{X:Cx}{pins:List (Addr × Obj)}{σ:St}{H:Hp}{s:Ab}{d:Addr}{kvs:List (Key × V)}
theorem Inv.freeze(I:Inv X pins σ H s)(h:H d\.dK kvs):∃o,s.heap.get? d\o/\Inv X pins σ (upd H d (.frz o (.dK kvs))) s:=by
 let#[z,hd,vs,rel,dd]:=Dy I.aE h;let#[o,es,ep,ho,r]:=id dd;have other:∀{b u},H b\u->u≠.dK kvs->upd H d (.frz o (.dK kvs)) b\u:=λ{b u} e ne=>by rw[aA (bX e h ne)];exact e
 apply#[o,ho,I.un (h':=s.heap) (t':=s.toks) #[λb u q _ _ _=>q,λb u q _ _ _=>#[u.slots,q],λb u q n _=>?_,λb u q _=>#[u,q],λb xs q=>other q Z2,λb u v q=>other q Z2,λb ps q=>#[#[],by rw[Array.append_empty];exact other q Z2]] λb u q=>?_]
 ·by_cases e:b=d
  ·subst e;rw[h] at n;cases n
  rw[aA e];exact n
 by_cases e:b=d
 ·subst e;rw[au] at q;cases q;exact#[ho,z,hd,vs,rel,dd]
 rw[aA e] at q;exact (I.aE b u q).eC (λc v _ z=>z) (λc z=>other z Z2) λc xs z=>other z Z2
theorem Inv.p5{o:Obj}(I:Inv X pins σ H s)(h:H d\.frz o (.dK kvs))(h0:∀o u,X.jt d≠some (.frz o u)):Inv X pins σ (upd H d (.dK kvs)) s:=by
 have other:∀{b u},H b\u->(∀o v,u≠.frz o v)->upd H d (.dK kvs) b\u:=λ{b u} e ne=>by rw[aA (bX e h (ne _ _))];exact e
 have o5:∀{b},H b=none->upd H d (.dK kvs) b=none:=λ{b} e=>by
  rw[aA (λz=>by subst z;rw[h] at e;cases e)];exact e
 apply#[I.ok,I.os,I.bare,#[I.base.keep,I.base.slot,λb u q n hx=>o5 (I.base.free b u q n hx),I.base.there,λb xs q=>other (I.base.g6 b xs q) Z2,λb u v q=>?_,λb ps q=>?_],I.loc,I.cell,o5 I.free,λx c e=>o5 (I.eG x c e),λp hp=>?_,λb u q=>?_,I.len]
 ·have:=I.base.fY b u v q;rw[aA (λz=>by subst z;exact h0 _ _ q)];exact this
 ·let#[more,e]:=I.base.gN b ps q;exact#[more,other e Z2]
 ·let#[a1,a2,a3]:=I.pin p hp;exact#[a1,o5 a2,a3]
 by_cases e:b=d
 ·subst e;rw[au] at q;cases q;let#[ho,z,hd,vs,rel,dd]:=I.aE b _ h;exact#[z,hd,vs,rel,dd]
 rw[aA e] at q;exact (I.aE b u q).eC (λc v _ z=>z) (λc z=>other z Z2) λc xs z=>other z Z2
end
def Ew(t:TE):TE:=λσ H Q=>∃d kvs,H d\.dK kvs/\t σ H λv H1=>∃o,H1 d\.frz o (.dK kvs)/\Q v (upd H1 d (.dK kvs))
theorem kg_{X:Cx}{e:Expr}{t:TE}(h:PE X e t):PE X e (Ew t):=by
 intro pins s σ H Q I q;let#[d,kvs,hd,q]:=q;apply aR (h pins s σ H _ I q) λu s' ⟨v,H1,I1,r,o,hf,q1⟩=>#[v,_,I1.p5 hf (λo u z=>?_),r,q1];have:=I.base.fY _ _ _ z;rw[hd] at this;cases this
def X4(d:Addr)(o:Obj)(kvs:List (Key × V)):It:=#[λi H=>H d\.frz o (.dK kvs)/\i<kvs.length,λi H x H'=>H'=H/\∃k,kvs[i]? = some (k,x),λi H=>H d\.frz o (.dK kvs)/\kvs.length<=i]
theorem Ll{X:Cx}{pins:List (Addr × Obj)}{σ:St}{H:Hp}{s:Ab}{d:Addr}{kvs:List (Key × V)}{o:Obj}{es:Array Ah}{ep:Nat}(I:Inv X pins σ H s)(h:H d\.frz o (.dK kvs))(ho:o.data=.dict es ep):∃vs,KV kvs vs/\s.heap.DictAt (d_ X.prog X.w) d vs ep:=by
 let#[e,z,hd,vs,rel,o',pE,qE,e',c',d',r]:=I.aE d _ h;rw[e] at e';cases e';rw[ho] at d';cases d';exact#[vs,rel,o,es,e,c',ho,r]
theorem Ox{κ:Type}{kvs:List (κ × V)}{vs:List (κ × Aa)}(r:KV kvs vs):∀(i:Nat) {k:κ} {x:V},kvs[i]? = some (k,x)->∃u,vs[i]? = some (k,u)/\RelV x u:=by
 induction r with
 |nil=>intro i k x e;simp at e
 |@cons p q _ _ h _ ih=>
  intro i k x e;cases i with
  |zero=>
   have e:p=(k,x):=⇑e
   subst e;apply#[q.2,?_,h.2];rw[List.getElem?_cons_zero];have h1:k=q.1:=h.1;rw[h1]
  |succ i=>exact ih i ⇑e
theorem hc_{P:Ad}{w:Af}{K:af}{tg:Expr}(d it:Addr)(o:Obj)(kvs:List (Key × V)){es:Array Ah}{ep:Nat}(ho:o.data=.dict es ep):Turn P w K tg (X4 d o kvs) [it] it (λi h=>h.IsValIter it d i kvs.length ep) where
 mem:=by simp
 obj:=λi h st b hb=>by
  obtain rfl:b=it:=⇑hb
  let#[o,e,c,d]:=st;exact#[o,e,λv z=>by rw[d] at z;cases z]
 keep:=λi h h' st k=>st.at λo e=>k it Z2 o e
 item:=by
  intro X hP hw hK hc i pins s σ H E I hf st hg;subst hP hw hK;let#[hd,hi]:=hg;let#[vs,rel,dat]:=Ll I hd ho;obtain⟨⟨k,x⟩,hx⟩:∃p,kvs[i]? = some p:=#[kvs[i],by simp[hi]];let#[u,hu,ru]:=Ox rel i hx;let#[f0,f1,f2,f3,f4,f5]:=hf it Z2;rw[rel.length] at st;apply wpAny_pyNext_values_item st dat hu λh' e_ sb=>?_;have I1:Inv X pins σ H { s with heap:=h' }:=I.turned (t':=s.toks) (λb o hb e=>(sb.2 b hb).trans e) f0 f1 f3 f4 f5;let#[o',e,c,dd]:=id e_;apply#[u,Z,DG (s:={ s with heap:=h' }) e c dd (by decide) #[x,H,I1,ru,#[Z,k,hx],?_,λb hb=>(hf b hb).1]];show h'.IsValIter it d (i+1) kvs.length ep;rw[rel.length];exact e_
 done:=by
  intro X hP hw hK hc i pins s σ H E I hf st hg;subst hP hw hK;let#[hd,hi]:=hg;let#[vs,rel,dat]:=Ll I hd ho;let#[f0,f1,f2,f3,f4,f5]:=hf it Z2;rw[rel.length] at st hi;exact wpAny_pyNext_values_end (I.ok.hd hc) st dat (by simp;omega) λh' eb=>#[Z,I.turned (t':=s.toks) (λb o hb e=>eb b o hb e) f0 f1 f3 f4 f5]
 self:=λ_ _ _ _ _ st h=>wpAny_pyIter_valiter st h
inductive ui (R:It->Hp->Prop) (x:V) (H1:Hp):Prop
 |mk:∀v d kvs,x=.ref v->H1 v\wb v d->H1 d\.dK kvs->(∀o,R (X4 d o kvs) (upd H1 d (.frz o (.dK kvs))))->ui R x H1
def FP(tv:TE):TI:=λσ H R=>tv σ H λx H1=>ui R x H1
theorem jU_{X:Cx}{tg e:Expr}{tv:TE}(he:PE X e tv):PI X tg e (FP tv):=by
 intro pins s σ H R I h;apply aR (he pins s σ H _ I h) λu s1 ⟨x,H1,I1,r1,v,d,kvs,ex,hv,hd,q⟩=>?_;subst ex;cases r1;let#[iv,_,_]:=I1.aE v _ hv;let#[o,ho,I2]:=I1.freeze hd;let#[z,_,vs,rel,o',es,ep,gy,c',dt,r]:=Dy I1.aE hd;rw[ho] at gy;cases gy;have mQ:v≠d:=bX hv hd nofun;apply wpAny_pyIter_values (knd:=d_ X.prog X.w) (kvs:=vs) (ep:=ep) iv #[o,es,ho,c',dt,r] ?_;apply#[s1.heap.objs.size,[s1.heap.objs.size],_,_,_,Z,I2.kept (t':=s1.toks) λb o e=>cj _ e,hc_ d _ o kvs dt,?_,λb hb=>?_,q o]
 ·rw[rel.length];exact#[_,eE _ Z,Z,Z]
 obtain rfl:b=s1.heap.objs.size:=⇑hb
 exact I2.jd (bo _) (I2.aE.fresh (bo _))
def RS(x:Str):It:=#[λi _=>i<x.cps.size,λi H v H'=>H'=H/\∃c,x.cps[i]? = some c/\v=.str ⟨(List.toArray [c])⟩,λi _=>x.cps.size<=i]
theorem g3_{P:Ad}{w:Af}{K:af}{tg:Expr}(it:Addr)(x:Str)(t:Tok):Turn P w K tg (RS x) [it] it (λi h=>i<=x.cps.size/\h.IsStrIter it "str_ascii_iterator" x t i) where
 mem:=by simp
 obj:=λi h st b hb=>by
  obtain rfl:b=it:=⇑hb
  let#[o,e,c,d]:=st.2;exact#[o,e,λv z=>by rw[d] at z;cases z]
 keep:=λi h h' st k=>#[st.1,let #[o,ho,r]:=st.2;#[o,k it Z2 o ho,r]]
 item:=by
  intro X hP hw hK hc i pins s σ H E I hf st hg;subst hP hw hK;have hg:i<x.cps.size:=hg;let#[f0,f1,f2,f3,f4,f5]:=hf it Z2;apply wpAny_pyNext_ascii_item st.2 (c:=x.cps[i]) (by simp[hg]) λh' e_ sb=>?_;have I1:Inv X pins σ H { s with heap:=h',toks:=s.toks+1 }:=I.turned (t':=s.toks+1) (λb o hb e=>(sb.2 b hb).trans e) f0 f1 f3 f4 f5;let#[o',e,c,dd]:=id e_;exact#[_,Z,DG (s:={ s with heap:=h',toks:=s.toks+1 }) e c dd (by decide) #[.str ⟨(List.toArray [x.cps[i]])⟩,H,I1,#[_,Z],#[Z,_,by simp[hg],Z],#[hg,e_],λb hb=>(hf b hb).1]]
 done:=by
  intro X hP hw hK hc i pins s σ H E I hf st hg;subst hP hw hK;have hg:x.cps.size<=i:=hg;let#[f0,f1,f2,f3,f4,f5]:=hf it Z2;exact wpAny_pyNext_ascii_end (I.ok.hd hc) st.2 (by simp[hg]) λh' eb=>#[Z,I.turned (t':=s.toks) (λb o hb e=>eb b o hb e) f0 f1 f3 f4 f5]
 self:=λ_ _ _ _ _ st h=>wpAny_pyIter_striter_ascii st.2 h
theorem hf_{P:Ad}{w:Af}{K:af}{tg:Expr}(it:Addr)(x:Str)(t:Tok):Turn P w K tg (RS x) [it] it (λi h=>i<=x.cps.size/\h.IsStrIter it "str_iterator" x t i) where
 mem:=by simp
 obj:=λi h st b hb=>by
  obtain rfl:b=it:=⇑hb
  let#[o,e,c,d]:=st.2;exact#[o,e,λv z=>by rw[d] at z;cases z]
 keep:=λi h h' st k=>#[st.1,let #[o,ho,r]:=st.2;#[o,k it Z2 o ho,r]]
 item:=by
  intro X hP hw hK hc i pins s σ H E I hf st hg;subst hP hw hK;have hg:i<x.cps.size:=hg;let#[f0,f1,f2,f3,f4,f5]:=hf it Z2;apply wpAny_pyNext_wide_item st.2 (c:=x.cps[i]) (by simp[hg]) λh' e_ sb=>?_;have I1:Inv X pins σ H { s with heap:=h',toks:=s.toks+1 }:=I.turned (t':=s.toks+1) (λb o hb e=>(sb.2 b hb).trans e) f0 f1 f3 f4 f5;let#[o',e,c,dd]:=id e_;exact#[_,Z,DG (s:={ s with heap:=h',toks:=s.toks+1 }) e c dd (by decide) #[.str ⟨(List.toArray [x.cps[i]])⟩,H,I1,#[_,Z],#[Z,_,by simp[hg],Z],#[hg,e_],λb hb=>(hf b hb).1]]
 done:=by
  intro X hP hw hK hc i pins s σ H E I hf st hg;subst hP hw hK;have hg:x.cps.size<=i:=hg;let#[f0,f1,f2,f3,f4,f5]:=hf it Z2;exact wpAny_pyNext_wide_end (I.ok.hd hc) st.2 (by simp[hg]) λh' eb=>#[Z,I.turned (t':=s.toks) (λb o hb e=>eb b o hb e) f0 f1 f3 f4 f5]
 self:=λ_ _ _ _ _ st h=>wpAny_pyIter_striter_wide st.2 h
inductive zk (R:It->Hp->Prop) (v:V) (H1:Hp):Prop
 |mk:∀x,v=.str x->R (RS x) H1->zk R v H1
def Ni(tl:TE):TI:=λσ H R=>tl σ H λv H1=>zk R v H1
theorem lM_{X:Cx}{tg l:Expr}{tl:TE}(hl:PE X l tl):PI X tg l (Ni tl):=by
 intro pins s σ H R I h;apply aR (hl pins s σ H _ I h) λv s1 ⟨y,H1,I1,r1,x,e,q⟩=>?_;subst e;let#[t,rfl]:=r1
 have fp:∀b∈[s1.heap.objs.size],du X pins H1 b:=λb hb=>by
  obtain rfl:b=s1.heap.objs.size:=⇑hb
  exact I1.jd (bo _) (I1.aE.fresh (bo _))
 cases ha:x.cps.all (· < 128)
 ·apply wpAny_pyIter_wide ha ?_;exact#[s1.heap.objs.size,[s1.heap.objs.size],_,_,H1,Z,I1.kept (t':=s1.toks) λb o e=>cj _ e,hf_ _ x t,#[gM _,_,eE _ Z,Z,Z],fp,q]
 apply wpAny_pyIter_ascii ha ?_;exact#[s1.heap.objs.size,[s1.heap.objs.size],_,_,H1,Z,I1.kept (t':=s1.toks) λb o e=>cj _ e,g3_ _ x t,#[gM _,_,eE _ Z,Z,Z],fp,q]
end L2
namespace L2
open PySem PySem.Spec PyProof.Rows PySem.W jL cY
theorem Mo{X:Cx}{f:Aa->Aa->Sem Aa}{K:af}(r:af->R2)(h:dN X f (r X.K))(hK:X.K=K:=by rfl):dN X f (r K):=by
 subst hK;exact h
theorem pI{X:Cx}{f:Aa}{K:af}(r:af->ag->Hp->VK->Prop)(h:gB X f (r X.K))(hK:X.K=K:=by rfl):gB X f (r K):=by
 subst hK;exact h
theorem vJ{X:Cx}{K:af}(r:af->R2)(h:Ec X (r X.K))(hK:X.K=K:=by rfl):Ec X (r K):=by
 subst hK;exact h
abbrev E6(K:af):=Ry K
abbrev tO(K:af):=Rz K
theorem Q6{X:Cx}{K:af}(hK:X.K=K:=by rfl):gB X (.builtin "len") (E6 K):=pI E6 iL hK
theorem m_{X:Cx}{K:af}(hK:X.K=K:=by rfl):gB X (.type "tuple") (tO K):=pI tO dI_ hK
theorem Ii{X:Cx}{N:ae}{scope:Scope}{fp:ai}{s:Ab}{H:Hp}{es:List Expr}{k:Nat}{pos:Pos}{t:CH}{n:Nat}(h:IR (iz X N scope fp s H) es t)(hc:X.calm=true:=by rfl)
  (hn:(assignEach es (iz X N scope fp s H).env).length=n:=by rfl) (Bl:(assignEach es (iz X N scope fp s H).env).findIdx? (·.1)=none:=by rfl):PG (iz X N scope fp s H) (.Tuple es k pos) (jc X.K n t):=pJ (X:=iz X N scope fp s H) hc h hn Bl
end L2
abbrev uN:PySem.Str:="_law_most"
abbrev B2:PySem.Str:="ways_by_name"
abbrev xQ:PySem.Str:="_law_script"
abbrev BQ:PySem.Str:="checked_start"
abbrev BU:PySem.Str:="checked_words"
abbrev vQ:PySem.Str:="_law_rule_here"
abbrev B7:PySem.Str:="pieces_by_hand"
abbrev qi:PySem.Str:="_law_goods"
abbrev xS:PySem.Str:="_law_due_here"
abbrev BR:PySem.Str:="_law_names_here"
abbrev BN:PySem.Str:="rising_neighbours"
abbrev qF:PySem.Str:="_law_digit"
abbrev B8:PySem.Str:="neighbours_by_hand"
abbrev vU:PySem.Str:="strength_by_hand"
abbrev qK:PySem.Str:="heaviest_first"
abbrev qL:PySem.Str:="weight_by_name"
abbrev pG:PySem.Str:="_law_stand_here"
abbrev B0:PySem.Str:="abcdefghijklmnopqrstuvwxyz"
abbrev pK:PySem.Str:="level_by_hand"
abbrev gA:PySem.Str:="_law_state"
abbrev iR:PySem.Str:="load_by_hand"
abbrev k8:List PySem.Str:=["self","one","other"]
abbrev kj:List PySem.Str:=["goods","placed"]
abbrev kG:List PySem.Str:=[qi,pG,vQ,"_law_many"]
abbrev qG:List PySem.Str:=["goods","stand","rule"]
abbrev kF:List PySem.Str:=[qi,vQ,"_law_stands",uN]
abbrev uR:List PySem.Str:=[gA,"_law_base"]
abbrev jF:List PySem.Str:=["self","hand"]
abbrev zN:List PySem.Str:=["goods","stand","rule","most"]
abbrev fI:List PySem.Str:=["thing"]
abbrev vV:List PySem.Str:=["sight","rule","moment"]
abbrev vW:List PySem.Str:=["sight","hand","words"]
abbrev pF:List PySem.Str:=["self","thing"]
abbrev zL:List PySem.Str:=[gA,"_law_many"]
abbrev kE:List PySem.Str:=["sight","one","other","guard","given"]
abbrev gK:List PySem.Str:=["self"]
abbrev zI:List PySem.Str:=["name","weight","ways"]
abbrev vm:List PySem.Str:=[qi,pG,vQ,"_law_moment"]
abbrev qH:List PySem.Str:=["one","other"]
abbrev DB:List PySem.Str:=["self","goods","placed"]
abbrev vk:List PySem.Str:=[gA,"_law_most_hands","_law_most_pieces"]
abbrev DD:List PySem.Str:=["sight","hand","guard"]
abbrev kD:List PySem.Str:=["_law_found",xS]
abbrev pX:List PySem.Str:=["goods","placed","rule","moment"]
abbrev zK:List PySem.Str:=["goods","stand"]
abbrev vj:List PySem.Str:=[gA,"_law_pieces_here","_law_hands"]
abbrev zJ:List PySem.Str:=["self","piece"]
abbrev pW:List PySem.Str:=["self","piece","one","other"]
abbrev kC:List PySem.Str:=["thing","least","most"]
abbrev vi:List PySem.Str:=[gA,"_law_ties",uN]
abbrev vh:List PySem.Str:=["goods","stand","rule","moments"]
abbrev pV:List PySem.Str:=["_law_name",gA]
abbrev pU:List PySem.Str:=["guard","lead","burden"]
abbrev DE:List PySem.Str:=["thing","least"]
abbrev vg:List PySem.Str:=["goods","stand","rule","moment"]
abbrev pT:List PySem.Str:=["goods","placed","rule"]
abbrev pS:List PySem.Str:=["_law_tie",gA]
abbrev pR:List PySem.Str:=["self","hands","ties"]
abbrev pQ:List PySem.Str:=[xQ,"_law_k"]
abbrev pP:List PySem.Str:=["self","web","pieces"]
abbrev BY:List PySem.Str:=[gA]
namespace Ev
open PySem L2
def top(i:Nat):Stmt:=PySem.Challenge.pw_evenpieces_k51_papers_told.main.body.getD i (.Pass #[0,0,0,0])
abbrev wY:Stmt:=top 3
abbrev lX:Stmt:=top 5
abbrev sX:Stmt:=top 6
abbrev Pa:Stmt:=top 7
abbrev sV:Stmt:=top 8
abbrev Pj:Stmt:=top 9
abbrev tK:Stmt:=top 10
abbrev tE:Stmt:=top 60
abbrev AV:Stmt:=top 61
abbrev sS:Stmt:=top 62
abbrev sW:Stmt:=top 63
abbrev i7:Stmt:=top 65
def Bb(a b:Str):Bool:=decide (a.cps.toList<b.cps.toList)
def aU(a b:Str):Str × Str:=if Bb a b=true then (a,b) else (b,a)
section v
theorem bE{N p:List Str}{c:Scope}(h:bx N p c:=by exact#[Z,Z,Z,by decide +kernel,Z,by decide +kernel,by decide +kernel]):bx N p c:=h
theorem sG:bx qH qH (aX Pa):=bE
def K0:Sp:=λvs H Q _=>∃a b,vs=[.str a,.str b]/\∀t,H t=none->Q (.ref t) (upd H t (.tup [.str (aU a b).1,.str (aU a b).2]))
theorem hL_{f:Addr}{fd:Ae}(F:bj K "lesser_first" "lesser_first" Pa f fd):!aq a9 1 f fd qH K0:=by
 exists F.bL sG;let#[a,b,rfl,k]:=h;apply#[_,aH (bg (ju_ (dj ht_ (pv 0) (pv 1)) (fB %[0,1|0]) (fB %[1,0|0]))),?_];apply#[_,Z,_,Z,a,b,Z,Z,_,Z,?_];apply aN (λc=>?_) (λc=>?_)
 ·apply#[_,Z,_,Z,zl,λt ht=>?_];have:=k t ht;rwa [show aU a b=(a,b) from aJ c] at this
 apply#[_,Z,_,Z,zl,λt ht=>?_];have:=k t ht;rwa [show aU a b=(b,a) from aB c] at this
theorem wM:bx kC kC (aX lX):=bE
def PM:Sp:=λvs H Q _=>∃i a b:Int,vs=[.int i,.int a,.int b]/\Q (.bl (decide (a<=i)&&decide (i<=b))) H
structure Bi (mg:Str->Option Aa):Prop where
 iP:mg "isinstance"=none
 int:mg "int"=none
 bool:mg "bool"=none
 str:mg "str"=none
 tuple:mg "tuple"=none
 list:mg "list"=none
 dict:mg "dict"=none
 len:mg "len"=none
 all:mg "all"=none
 sorted:mg "sorted"=none
 max:mg "max"=none
 range:mg "range"=none
 any:mg "any"=none
 enum:mg "enumerate"=none
 min:mg "min"=none
 abs:mg "abs"=none
structure aY (P:Ad) (w:Af) (K:af) (mg:Str->Option Aa) (base:Heap) (k:Nat) (x:Str) (ps:ae) (sp:Sp):Prop where
 ex:∃f fd,aq P w K mg base a9 k f fd ps sp/\mg x\.ref f/\PySem.W.keepIn K (.ref f)=true/\qI K fd ps []
theorem aQ{n_:Nat}{X:Cx}{k:Nat}{x:Str}{ps:ae}{sp:Sp}{p pos:Pos}{e:Expr}{es:List Expr}{t:TA}(c:aY X.prog X.w X.K X.mg X.base k x ps sp)(hr:bf n_ X.A)(ha:PA X (e::es) t)(hg:Gl X x:=by rfl)(mT:(x == ("__debug__":Str))=false:=by decide)
  (he:starEach (e::es) X.env=(false,eval e X.env)::starEach es X.env:=by rfl) (jz:(backTo pos (starEach es X.env)).any (·.1)=false:=by rfl) (hk:k<=n_:=by decide):PE X (.Call (.Name x p) (e::es) [] pos) (yJ sp [] E0 t):=by
 let#[f,fd,F,m,kp,b]:=c.ex;exact kB_ F (hr.mono hk) hg m kp b .nil o4 ha mT he jz
theorem yM:bx fI fI (aX wY):=bE
def rY:Sp:=λvs H Q _=>∃i:Int,vs=[.int i]/\Q (.bl true) H
theorem lh_{f:Addr}{fd:Ae}(F:bj K "is_whole" "is_whole" wY f fd)(B:Bi mg):!aq a9 1 f fd fI rY:=by
 exists F.bL yM;let#[i,rfl,k]:=h;apply#[_,aH (bg (ny (cy jq (by rfl) B.iP iU %[0,jn (v:=.ty "int") (by rfl) B.int GY Z|0]) (nu (OJ (cy jq (by rfl) B.iP iU %[0,jn (v:=.ty "bool") (by rfl) B.bool OW Z|0]))))),?_];exact#[_,Z,_,_,_,_,Z,.int i,Z,_,Z,dD #[_,Z,_,_,_,_,Z,.int i,Z,_,Z,k]]
theorem j8_{f:Addr}{fd:Ae}(F:bj K "is_whole_within" "is_whole_within" lX f fd)(cI:!aY 1 "is_whole" fI rY):!aq a9 2 f fd kC PM:=by
 exists F.bL wM;let#[i,a,b,rfl,k]:=h;apply#[_,aH (bg (ny (aQ cI hr %[0|0]) (nu (VA uL uL (pv 1) (pv 0) (pv 2))))),?_];apply#[_,Z,i,Z,_,Z,dD ?_];apply#[_,Z,_,Z,_,_,Z,Z,_,Z,?_];apply aN (λc=>?_) (λc=>?_)
 ·apply#[_,Z,_,_,Z,Z,?_];rw[c] at k;exact k
 rw[show decide (a<=i)=false by simpa using c] at k;exact k
def j3(c:Nat):Bool:=decide (97<=c)&&decide (c<=122)
def iJ(x:Str):Bool:=decide (1<=x.length)&&decide (x.length<=8)&&x.cps.toList.all j3
theorem AJ:bx fI fI (aX sX):=bE
def J6:Sp:=λvs H Q _=>∃x:Str,vs=[.str x]/\x.length<=100000/\∀H',aa H H'->Q (.bl (iJ x)) H'
theorem kr_{c:Nat}:(!decide ((⟨(List.toArray [c])⟩:Str).cps.toList<("a":Str).cps.toList))=decide (97<=c):=by
 have e:("a":Str).cps.toList=[97]:=by decide +kernel
 rw[e];show (!decide ([c] < [97]))=decide (97<=c);by_cases h:97<=c
 ·have:¬[c] < [97]:=by simp[List.cons_lt_cons_iff];omega
  simp[this,h]
 have:[c] < [97]:=by simp[List.cons_lt_cons_iff];omega
 simp[this,h]
theorem l0_{c:Nat}:(!decide (("z":Str).cps.toList<(⟨(List.toArray [c])⟩:Str).cps.toList))=decide (c<=122):=by
 have e:("z":Str).cps.toList=[122]:=by decide +kernel
 rw[e];show (!decide ([122] < [c]))=decide (c<=122);by_cases h:c<=122
 ·have:¬[122] < [c]:=by simp[List.cons_lt_cons_iff];omega
  simp[this,h]
 have:[122] < [c]:=by simp[List.cons_lt_cons_iff];omega
 simp[this,h]
theorem kY_{f:Addr}{fd:Ae}(F:bj K "is_name" "is_name" sX f fd)(B:Bi mg){t8:Tok}(m8:mg "MOST_LETTERS"\.int 8 t8):!aq a9 1 f fd fI J6:=by
 exists F.bL AJ;let#[x,rfl,hz,k]:=h;let sz:=cn
 apply#[_,ax (bO (xM (eY (eK (cy jq (by rfl) B.iP iU %[0,jn (v:=.ty "str") (by rfl) B.str G_ Z|0])))
   (xX (eY (Vu uL uL aC (cy dZ_ (by rfl) B.len ia %[0|0]) (Ct (v:=.int 8) (by rfl) m8 #[t8,Z]))))).pt (aH (bg xP)) bP)
  (aH (bg (cy (Vz Z) (by rfl) B.all PyProof.Rows.Boot.«all» (eU
   (iV ["letter"] 1 [] (lM_ (pv 0)) (λfp s H=>eW (i:=0) (show (["letter"]:ae).Nodup by decide +kernel) Z (Or.inl Z)) (λfp s H=>ij) (λfp s H=>VA Xi Xi dI (pv 0) dI)) bh)))),?_]
 apply#[_,Z,_,_,_,_,Z,.str x,Z,_,Z,?_];apply a_ ?_;apply#[_,Z,x,Z,by omega,_,_,Z,Z,_,Z,?_]
 have fin:(decide (1<=x.length)&&decide (x.length<=8))=false->∀H',aa H H'->Q (.bl false) H':=λe H' sm=>by
  have:=k H' sm;rwa [show iJ x=false by unfold iJ;rw[e];rfl] at this
 apply aN (λc=>?_) (λc=>?_)
 ·have c1:1<=x.length:=by
   have:(1:Int)<=(x.length:Int):=⇑c
   omega
  apply#[_,_,Z,Z,_,Z,?_];apply aN (λc2=>?_) (λc2=>?_)
  ·-- too long
   have c3:¬x.length<=8:=by
    have:¬((x.length:Int)<=8):=⇑c2
    omega
   exact fin (by rw[dH c3,Bool.and_false]) H (aa.refl H)
  have c3:x.length<=8:=by
   have:(x.length:Int)<=8:=⇑c2
   omega
  apply#[_,Z,x,Z,λD hD=>?_];apply Cr (own:=1) (fv:=[]) Z dR x.cps.size (λi out H'=>H'=upd H D (.lst out)/\out=((x.cps.toList.take i).map j3).map V.bl) #[Z,by simp] (λout H' ⟨e1,e2⟩=>?_) (λi out H' hi ⟨e1,e2⟩=>?_)
  ·apply#[bo _,D,x.cps.toList.map j3,Z,.of ?_,?_]
   ·rw[e1,au,e2,ym Z2]
   have:=k H' (by rw[e1];exact aa.new hD);rwa [show iJ x=(x.cps.toList.map j3).all id by unfold iJ;rw[cb c1,cb c3,List.all_map];rfl] at this
  apply#[hi,λv H2 y=>?_];let#[eH,c,hc,rfl]:=y;subst eH;apply#[_,Z,Z,λNx hN=>dB ?_]
  have lo:out.length<sizeLine:=by
   rw[e2];have hs:x.length=x.cps.size:=rfl;simp only[ay,dJ,qS];omega
  have nx:Nx (upd H2 D (.lst (out++[V.bl (j3 c)]))):=hN (out++[V.bl (j3 c)]) _ #[by rw[e1,kc_],by
   rw[e2,jr];simp[hc]]
  have XU:H2 D\.lst out:=by rw[e1,au]
  apply#[_,Z,_,_,Z,Z,_,Z,?_];rw[kr_];apply aN (λc2=>?_) (λc2=>?_)
  ·apply#[_,_,Z,Z,out,XU,lo,?_];rw[l0_];rwa [show j3 c=decide (c<=122) by unfold j3;rw[c2];rfl] at nx
  apply#[out,XU,lo,?_];rwa [show j3 c=false by unfold j3;rw[show decide (97<=c)=false by simpa using c2];rfl] at nx
 have c1:¬1<=x.length:=by
  have:¬((1:Int)<=(x.length:Int)):=⇑c
  omega
 exact#[_,Z,dD (fin (by rw[dH c1];rfl) H (aa.refl H))]
end
end Ev
namespace Ev
open PySem L2
def kT(t:Str × Str):az:=[.inr t.1,.inr t.2]
def zM(t:Str × Str):Prop:=iJ t.1=true/\iJ t.2=true/\t.1≠t.2
theorem Le{x:Str}(h:iJ x=true):x.length<=8:=by
 unfold iJ at h;simp only[Bool.and_eq_true,decide_eq_true_eq] at h;exact h.1.2
theorem zp{H:Hp}{p:Addr}{t:Str × Str}(h:H p\.tup ((kT t).map kV)):H p\.tup [.str t.1,.str t.2]:=h
section v
theorem AI:bx fI fI (aX sV):=bE
def rR:Sp:=λvs H Q _=>∃(p:Addr) (a b:Str),vs=[.ref p]/\H p\.tup [.str a,.str b]/\a.length<=100000/\b.length<=100000/\∀H',aa H H'->Q (.bl (iJ a&&iJ b&&!decide (a=b))) H'
theorem jP_{f:Addr}{fd:Ae}(F:bj K "is_pair_of_names" "is_pair_of_names" sV f fd)(B:Bi mg)(cN:!aY 1 "is_name" fI J6):!aq a9 2 f fd fI rR:=by
 exists F.bL AI;let#[p,a,b,rfl,hp,la,lb,k]:=h
 apply#[_,ax (bO (xM (eY (eK (cy jq (by rfl) B.iP iU %[0,jn (v:=.ty "tuple") (by rfl) B.tuple zV Z|0])))
   (xX (dj B5 (cy iL (by rfl) B.len ia %[0|0]) aC))).pt (aH (bg xP)) bP)
  (aH (bg (ny (aQ cN hr %[bM dz (pv 0) aC|0]) (ny (aQ cN hr %[bM dz (pv 0) aC|0])
   (nu (qp B5 (bM dz (pv 0) aC) (bM dz (pv 0) aC))))))),?_]
 apply#[_,Z,_,_,_,_,Z,.tup hp,Z,_,Z,a_ ?_];apply#[_,Z,p,_,Z,.inr (.of hp),Z,_,Z,?_];apply uh (show V.int ((2:Nat):Int)=V.int 2 from Z) ?_;apply#[_,Z,p,_,_,_,Z,Z,.of hp,Z,a,Z,la,λH1 s1=>#[_,Z,?_]];let zq:=s1 _ _ hp;apply aN (λc=>?_) (λc=>?_)
 ·apply#[_,Z,p,_,_,_,Z,Z,.of zq,Z,b,Z,lb,λH2 s2=>#[_,Z,?_]];let jA:=s2 _ _ zq;let kk:=k H2 (s1.trans s2);apply aN (λc2=>?_) (λc2=>?_)
  ·apply#[_,Z,p,_,_,_,Z,Z,.of jA,Z,_,Z,p,_,_,_,Z,Z,.of jA,Z,Z,?_];rw[c,c2] at kk
   have e:decide (V.str a=V.str b)=decide (a=b):=by
    by_cases z:a=b
    ·simp[z]
    simp[z]
   show Q (.bl (!decide (V.str a=V.str b))) H2;rw[e];exact kk
  rw[c,show iJ b=false by simpa using c2] at kk;exact kk
 let kk:=k H1 s1;rw[show iJ a=false by simpa using c] at kk;exact kk
theorem K2:bx ["ties","found","pair","tie"] ["ties"] (aX Pj):=bE
def Qf(K:af):Sp:=λvs H Q _=>∃(l:Addr) (ys:ag) (ts:Xb),vs=[.ref l]/\H l\.lst ys/\bC K H ys (ts.map kT)/\(∀t∈ts,zM t)/\(ts.map λt=>kT (aU t.1 t.2)).Nodup/\ts.length<64 /\
 ∀l' zs H',aa H H'->H l'=none->H' l'\.lst zs->bC K H' zs (aZ (ts.map λt=>kT (aU t.1 t.2)))->Q (.ref l') H'
theorem nX{α β γ:Type}{F:α->γ->Prop}{g:β->γ}{ys:List α}{ts:List β}(t:Paired F ys (ts.map g)){i:Nat}{y:α}(h:ys[i]? = some y):∃x,ts[i]? = some x/\F y (g x):=by
 have hi:i<ys.length:=(cw.mp h).1;let hl:=bH t;rw[ay] at hl;have:=ig t i hi (by rw[ay];omega);rw[List.getElem_map] at this;apply#[ts[i],cE Z1,?_];rw[(cw.mp h).2] at this;exact this
theorem Ai{κ:Type}[DecidableEq κ]{kvs:List (κ × V)}{k:κ}(h:k∉kvs.map (·.1)):bK kvs k=none:=by
 cases e:bK kvs k with
 |none=>rfl
 |some v=>exact absurd (kE_ e) h
theorem D_{α β:Type}(g:α->β){ts:List α}{i:Nat}{x:α}(h:ts[i]? = some x):(ts.take (i+1)).map g=(ts.take i).map g++[g x]:=by
 rw[jr,h,cu];rfl
theorem Iw{α β:Type}{g:α->β}{ts:List α}{i:Nat}{x:α}(h:(ts.map g).Nodup)(hx:ts[i]? = some x):g x∉(ts.take i).map g:=by
 intro m;have hi:i<ts.length:=(cw.mp hx).1;let#[y,hy,e]:=bG.mp m;let#[j,hj,e2]:=ku hy;rw[dJ] at hj;rw[List.getElem_take] at e2;rw[pL,qQ,List.pairwise_iff_getElem] at h;apply h j i Z1 hi Z1 ?_;rw[e2,e,(cw.mp hx).2]
theorem hR_{f:Addr}{fd:Ae}(F:bj K "sorted_ties" "sorted_ties" Pj f fd)(B:Bi mg)(cP:!aY 2 "is_pair_of_names" fI rR)(cL:!aY 1 "lesser_first" qH K0):!aq a9 3 f fd ["ties"] (Qf K):=by
 exists F.bL K2;let#[l,ys,ts,rfl,hl,tu,good,nd,bS,k]:=h;let hu:=gD hr;let sz:=cn
 apply#[_,ax (bO (eY (eK (cy jq (by rfl) B.iP iU %[0,jn (v:=.ty "list") (by rfl) B.list Cq Z|0]))) eD bP)
  (ax (bq 1 K2.nd j1_)
  (ax (eX eM Z (d5 (pv 0)) (cO 2 K2.nd)
   (ax (bO (eY (eK (aQ cP hr %[2|0]))) eD bP)
   (ax (bq 3 K2.nd (aQ cL hr %[bM dz (pv 2) aC,bM dz (pv 2) aC|0]))
   (ax (bO (wj (DL hu (pv 3) (pv 1))) eD bP)
   (aH (yd hu (pv 1) (pv 3) xP Z))))))
  (aH (bg (cy (f6_ Z) (by rfl) B.sorted Lc %[1|0]))))),?_]
 apply#[_,Z,_,_,_,_,Z,.lst hl,Z,_,Z,a_ ?_];intro d hd;have s0:aa H (upd H d (.dT [])):=aa.new hd;apply#[_,Z,l,Z,#[_,.of (s0 _ _ hl)],ie (K:=K) (a:=l) (xs:=ys) (λi σ H2=>∃(v3 v4:aL),σ=[some (.ref l),some (.ref d),v3,v4]/\aa H H2/\H2 d\.dT ((ts.take i).map λt=>(kT (aU t.1 t.2),V.bl true))) #[none,none,Z,s0,au] (λi σ H2 _ ⟨_,_,_,s2,_⟩=>.of (s2 _ _ hl)) ?_ ?_]
 ·rintro i y σ H2 hy ⟨v3,v4,rfl,s2,hd2⟩;let#[t,ht,a,rfl,ha]:=nX tu hy;let#[g1,g2,g3]:=good t (dA ht);let kY:=s2 _ _ (zp ha);apply#[_,Z,a,t.1,t.2,Z,kY,by have:=Le g1;omega,by have:=Le g2;omega,λH3 s3=>#[_,Z,?_]];let jC:=s3 _ _ kY;let mU:=s3 _ _ hd2;rw[g1,g2,dH g3];apply a_ ?_;apply#[_,Z,a,_,_,_,Z,Z,.of jC,Z,_,Z,a,_,_,_,Z,Z,.of jC,Z,t.1,t.2,Z,λb hb=>?_];have s4:aa H3 (upd H3 b (.tup [.str (aU t.1 t.2).1,.str (aU t.1 t.2).2])):=aa.new hb;let UU:=s4 _ _ mU;have UY:upd H3 b (.tup [.str (aU t.1 t.2).1,.str (aU t.1 t.2).2]) b\.tup ((kT (aU t.1 t.2)).map kV):=au
  have vG:bK ((ts.take i).map λt=>(kT (aU t.1 t.2),V.bl true)) (kT (aU t.1 t.2))=none:=Ai (by
   rw[b_];exact Iw (g:=λt=>kT (aU t.1 t.2)) nd ht)
  apply#[_,Z,_,Z,d,_,Z,.t (k:=kT (aU t.1 t.2)) UU UY,_,Z,?_];rw[vG];apply a_ ?_;apply#[_,Z,_,Z,d,_,Z,.t (k:=kT (aU t.1 t.2)) UU UY (by rw[ay,dJ];omega),?_];apply#[_,_,Z,λc o e=>?_,?_]
  ·rw[aA (bw e hd)];exact s4 _ _ (s3 _ _ (s2 _ _ e))
  rw[au,D8 _ vG,D_ _ ht]
 rintro σ H2 ⟨v3,v4,rfl,s2,hd2⟩;let le:=bH tu;rw[ay] at le;rw[le,eN] at hd2;apply#[_,Z,d,_,[true,true],Z,hd2,#[by decide,λk hk=>?_],by rw[ay];exact bS,λl' zs hn tz=>?_]
 ·rw[b_] at hk;let#[t,_,rfl]:=bG.mp hk;rfl
 rw[b_] at tz;exact k l' zs _ (s2.trans (aa.new hn)) (s2.free hn) au (tz.same (aa.new hn))
theorem AU:bx ["ties"] ["ties"] (aX tK):=bE
def si(K:af):Sp:=λvs H Q _=>∃(l:Addr) (ys:ag) (ts:Xb),vs=[.ref l]/\H l\.lst ys/\bC K H ys (ts.map kT)/\ts.length<=1000 /\
 ∀l' zs H',aa H H'->H l'=none->H' l'\.lst zs->bC K H' zs (ts.map kT)->Q (.ref l') H'
theorem wm{K:af}{H:Hp}{ys:ag}{ks:List az}{a:Addr}{k:az}(t:bC K H ys ks)(h:H a\.tup (k.map kV)):bC K H (ys++[.ref a]) (ks++[k]):=Paired.snoc t #[a,Z,h]
theorem gU{H H1:Hp}{D:Addr}{o:HO}(h:aa H H1)(hD:H D=none):aa H (upd H1 D o):=λb u e=>by rw[aA (bw e hD)];exact h b u e
theorem iX{K:af}{H:Hp}{ys:ag}{ks:List az}{D:Addr}{o:HO}{xs:ag}(t:bC K H ys ks)(hD:H D\.lst xs):bC K (upd H D o) ys ks:=Paired.bF t λy k ⟨a,z,q⟩=>#[a,z,by rw[aA (bX q hD nofun)];exact q]
theorem k5_{f:Addr}{fd:Ae}(F:bj K "ties_anew" "ties_anew" tK f fd):!aq a9 1 f fd ["ties"] (si K):=by
 exists F.bL AU;let#[l,ys,ts,rfl,hl,tu,hz,k]:=h;let sz:=cn
 apply#[_,aH (bg (iV qH 2 [] (d5 (pv 0)) (λfp s H=>Ii (n:=2) (d6 (eW (i:=0) (show (qH:ae).Nodup by decide +kernel) Z (Or.inl Z)) (d6 (eW (i:=1) (show (qH:ae).Nodup by decide +kernel) Z (Or.inl Z)) jI)))
  (λfp s H=>ij) (λfp s H=>fB %[0,1|0]))),?_]
 apply#[_,Z,l,Z,#[_,.of hl],λD hD=>?_];let le:=bH tu;rw[ay] at le;apply jK (own:=2) (fv:=[]) (xs:=ys) Z BH (λi out H'=>aa H H'/\H' D\.lst out/\bC K H' out ((ts.take i).map kT)) #[aa.new hD,au,.nil] (λi out H' _ ⟨sm,_,_⟩=>.of (sm _ _ hl)) (λout H' ⟨sm,hd,tz⟩=>?_) (λi x out H' hx ⟨sm,hd,tz⟩=>?_)
 ·rw[le,eN] at tz;exact k D out H' sm hD hd tz
 let#[t,ht,a,rfl,ha]:=nX tu hx;apply#[_,#[a,_,_,Z,.of (sm _ _ (zp ha)),Z],Z,λNx hN=>dB ?_];apply#[_,Z,_,Z,zl,λp hp=>#[out,(aa.new hp) _ _ hd,?_,?_]]
 ·have:=bH tz;rw[ay,dJ] at this;omega
 have jA:upd H' p (.tup [.str t.1,.str t.2]) p\.tup ((kT t).map kV):=au;apply hN (out++[.ref p]) _ #[gU (sm.trans (aa.new hp)) hD,au,?_];rw[D_ _ ht];exact iX (wm (tz.same (aa.new hp)) jA) ((aa.new hp) _ _ hd)
end
end Ev
namespace Ev
open PySem L2
def kH(h:Str × Int):az:=[.inr h.1,.inl h.2]
def zF(h:Str × Int):Prop:=iJ h.1=true/\1<=h.2/\h.2<=1000
def Be:az->Key × V
 |[k,v]=>(k,kV v)
 |_=>(.inl 0,.non)
def dC(hs:Xa):List (Key × V):=(aZ (hs.map kH)).map Be
theorem Ux{H:Hp}{p:Addr}{t:Str × Int}(h:H p\.tup ((kH t).map kV)):H p\.tup [.str t.1,.int t.2]:=h
theorem Xc:∀(more kvs:List (Key × V)),(kvs.map (·.1)++more.map (·.1)).Nodup->Cb kvs more=kvs++more
 |[],kvs,_=>by
  show kvs=kvs++[];rw[Al]
 |p::more,kvs,h=>by
  show Cb (putK kvs p.1 p.2) more=kvs++p::more
  have hn:bK kvs p.1=none:=Ai λm=>by
   rw[dZ,List.nodup_append] at h;exact h.2.2 p.1 m p.1 fM Z
  rw[D8 _ hn,Xc more (kvs++[(p.1,p.2)])]
  ·simp
  simpa using h
theorem Cp{more:List (Key × V)}(h:(more.map (·.1)).Nodup):Cb [] more=more:=by
 rw[Xc more [] ⇑h];rfl
theorem Xg(hs:Xa):((dC hs).map (·.1)).Perm (hs.map λh=>Sum.inr h.1):=by
 unfold dC;rw[b_];let p:=(nO (hs.map kH)).map λk=>(Be k).1;rw[b_] at p;exact p
theorem XE{hs:Xa}(h:(hs.map (·.1)).Nodup):((dC hs).map (·.1)).Nodup:=by
 apply (Xg hs).nodup_iff.mpr ?_;have:(hs.map λh=>(Sum.inr h.1:Key))=(hs.map (·.1)).map Sum.inr:=by rw[b_];rfl
 rw[this,pL,qQ];exact h.imp λn e=>n (h9 e)
theorem nC{k:Nat}{A:Ag}(hr:bf k A)(n:Nat)(h:n+1<=64:=by decide):A.units+n+1<cLine:=by
 have:=hr.units;omega
section v
theorem AO:bx fI fI (aX tE):=bE
def r6:Sp:=λvs H Q _=>∃(p:Addr) (a:Str) (n:Int),vs=[.ref p]/\H p\.tup [.str a,.int n]/\a.length<=100000/\∀H',aa H H'->Q (.bl (iJ a&&(decide (1<=n)&&decide (n<=1000)))) H'
theorem jT_{f:Addr}{fd:Ae}(F:bj K "is_hand_with_strength" "is_hand_with_strength" tE f fd)(B:Bi mg)(cN:!aY 1 "is_name" fI J6)(cW:!aY 2 "is_whole_within" kC PM){tk:Tok}(mS:mg "MOST_STRENGTH"\.int 1000 tk) :
  aq P w K mg base a9 3 f fd fI r6:=by
 exists F.bL AO;let#[p,a,n,rfl,hp,la,k]:=h
 apply#[_,ax (bO (xM (eY (eK (cy jq (by rfl) B.iP iU %[0,jn (v:=.ty "tuple") (by rfl) B.tuple zV Z|0])))
   (xX (dj B5 (cy iL (by rfl) B.len ia %[0|0]) aC))).pt (aH (bg xP)) bP)
  (aH (bg (ny (aQ cN hr %[bM dz (pv 0) aC|0]) (nu (aQ cW hr %[bM dz (pv 0) aC,aC,Ct (v:=.int 1000) (by rfl) mS #[tk,Z]|0]))))),?_]
 apply#[_,Z,_,_,_,_,Z,.tup hp,Z,_,Z,a_ ?_];apply#[_,Z,p,_,Z,.inr (.of hp),Z,_,Z,?_];apply uh (show V.int ((2:Nat):Int)=V.int 2 from Z) ?_;apply#[_,Z,p,_,_,_,Z,Z,.of hp,Z,a,Z,la,λH1 s1=>#[_,Z,?_]];let zq:=s1 _ _ hp;let kk:=k H1 s1;apply aN (λc=>?_) (λc=>?_)
 ·apply#[_,Z,p,_,_,_,Z,Z,.of zq,Z,n,1,1000,Z,?_];rw[c] at kk;exact kk
 rw[show iJ a=false by simpa using c] at kk;exact kk
theorem sx:bx ["hands","found","hand"] ["hands"] (aX AV):=bE
def yK(K:af):Sp:=λvs H Q _=>∃(l:Addr) (ys:ag) (hs:Xa),vs=[.ref l]/\H l\.lst ys/\bC K H ys (hs.map kH)/\(∀h∈hs,zF h)/\(hs.map (·.1)).Nodup/\1<=hs.length/\hs.length<=8 /\
 ∀d H',aa H H'->H d=none->H' d\.dK (dC hs)->Q (.ref d) H'
theorem l7_{f:Addr}{fd:Ae}(F:bj K "checked_strengths" "checked_strengths" AV f fd)(B:Bi mg)(cH:!aY 3 "is_hand_with_strength" fI r6){tk:Tok}(mH:mg "MOST_HANDS"\.int 8 tk):!aq a9 4 f fd ["hands"] (yK K):=by
 exists F.bL sx;let#[l,ys,hs,rfl,hl,tu,good,nd,h1,h8,k]:=h;let hu:=gD hr;let sz:=cn;let le:=bH tu;rw[ay] at le
 apply#[_,ax (bO (xM (eY (eK (cy jq (by rfl) B.iP iU %[0,jn (v:=.ty "list") (by rfl) B.list Cq Z|0])))
   (xX (eY (Vu uL uL aC (cy iL (by rfl) B.len ia %[0|0]) (Ct (v:=.int 8) (by rfl) mH #[tk,Z]))))).pt eD bP)
  (ax (bq 1 sx.nd Ip)
  (ax (eX eM Z (d5 (pv 0)) (cO 2 sx.nd)
   (ax (bO (eY (eK (aQ cH hr %[2|0]))) eD bP)
   (ax (bO (wj (DL hu (bM dz (pv 2) aC) (pv 1))) eD bP)
   (aH (yd hu (pv 1) (bM dz (pv 2) aC) (bM dz (pv 2) aC) Z)))))
  (aH (bg (iK (Cw Z) (by rfl) B.dict qN %[cy (g9_ Z) (by rfl) B.sorted Lc %[Hs (pv 1)|0]|0]))))),?_]
 apply#[_,Z,_,_,_,_,Z,.lst hl,Z,_,Z,a_ ?_];apply#[_,Z,l,_,Z,.inl (.of hl),_,_,Z,Z,_,Z,?_];rw[cb (show (1:Int)<=(ys.length:Int) by omega)];apply dD #[_,_,Z,Z,_,Z,?_];rw[cb (show (ys.length:Int)<=8 by omega)];apply a_ ?_;intro d hd;have s0:aa H (upd H d (.dK [])):=aa.new hd;apply#[_,Z,l,Z,#[_,.of (s0 _ _ hl)],ie (K:=K) (a:=l) (xs:=ys) (λi σ H2=>∃(v2:aL),σ=[some (.ref l),some (.ref d),v2]/\aa H H2/\H2 d\.dK ((hs.take i).map λh=>(Sum.inr h.1,V.int h.2))) #[none,Z,s0,au] (λi σ H2 _ ⟨_,_,s2,_⟩=>.of (s2 _ _ hl)) ?_ ?_]
 ·rintro i y σ H2 hy ⟨v2,rfl,s2,hd2⟩;let#[t,ht,a,rfl,ha]:=nX tu hy;let#[g1,g2,g3]:=good t (dA ht);let kY:=s2 _ _ (Ux ha);apply#[_,Z,a,t.1,t.2,Z,kY,by have:=Le g1;omega,λH3 s3=>#[_,Z,?_]];let jC:=s3 _ _ kY;let mU:=s3 _ _ hd2;rw[g1,cb g2,cb g3];apply a_ ?_
  have vG:bK ((hs.take i).map λh=>((Sum.inr h.1:Key),V.int h.2)) (Sum.inr t.1)=none:=Ai (by
   rw[b_];let q:=Iw (g:=λh:Str × Int=>h.1) nd ht;intro m;let#[h,hh,e]:=bG.mp m;exact q (bG.mpr #[h,hh,h9 e]))
  apply#[_,Z,a,_,_,_,Z,Z,.of jC,Z,_,Z,d,_,Z,.k (k:=Sum.inr t.1) mU,_,Z,?_];rw[vG];apply a_ ?_;apply#[_,Z,a,_,_,_,Z,Z,.of jC,Z,_,Z,_,Z,a,_,_,_,Z,Z,.of jC,Z,d,_,Z,.k (k:=Sum.inr t.1) mU (by rw[ay,dJ];omega),?_];apply#[_,Z,λc o e=>?_,?_]
  ·rw[aA (bw e hd)];exact s3 _ _ (s2 _ _ e)
  rw[au,D8 _ vG,D_ _ ht]
 rintro σ H2 ⟨v2,rfl,s2,hd2⟩;rw[le,eN] at hd2;apply#[_,Z,d,_,Z,hd2,λv hv=>?_];have s3:aa H2 (upd H2 v (qo v d)):=aa.new hv;apply#[v,d,_,hs.map λh=>(Sum.inr h.1,Sum.inl h.2),[true,false],Z,au,s3 _ _ hd2,by rw[b_];rfl,#[by decide,λq hq=>?_],by rw[ay];omega,λl' H4 zs s4 hn tz=>?_]
 ·rw[b_] at hq;let#[h,_,rfl]:=bG.mp hq;rfl
 have ez:((hs.map λh=>((Sum.inr h.1:Key),(Sum.inl h.2:Key))).map λk=>[k.1,k.2])=hs.map kH:=by rw[b_];rfl
 rw[ez] at tz
 have pz:k4 K (upd H4 l' (.lst zs)) zs (dC hs):=by
  have shape:∀k∈aZ (hs.map kH),∃a b,k=[a,b]:=λk hk=>by
   let#[h,_,e]:=bG.mp ((nO _).mem_iff.mp hk);exact#[_,_,e.symm]
  have gen:∀(ks:List az) (zs:ag),(∀k∈ks,∃a b,k=[a,b])->bC K (upd H4 l' (.lst zs)) zs ks->k4 K (upd H4 l' (.lst zs)) zs (ks.map Be):=λks=>by
   intro zs;generalize upd H4 l' (.lst zs)=HH;intro sh t
   induction t with
   |nil=>exact .nil
   |cons h t ih=>
    let#[a,b,rfl]:=sh _ fM;exact .cons h (ih λk hk=>sh k (eR _ hk))
  exact gen _ _ shape (tz.same (aa.new hn))
 apply#[l',zs,_,Z,au,pz,?_,λd' fH=>?_]
 ·have:=(Xg hs).length_eq;simp only[ay] at this;omega
 rw[Cp (XE nd)];have EW:aa H (upd H4 l' (.lst zs)):=(s2.trans (s3.trans s4)).trans (aa.new hn);exact k d' _ (EW.trans (aa.new fH)) (EW.free fH) au
theorem J4:bx ["ties","strengths","found","one","other"] ["ties","strengths"] (aX sS):=bE
inductive lI (K:af) (vs:ag) (H:Hp) (Q:VK) (E:XK):Prop
 |mk:∀(l d:Addr) (ys:ag) (ts:Xb) (kvs:List (Key × V)),vs=[.ref l,.ref d]->H l\.lst ys->bC K H ys (ts.map kT)->(∀t∈ts,zM t)->(ts.map λt=>kT (aU t.1 t.2)).Nodup->ts.length<64->H d\.dK kvs->(∀t∈ts,(bK kvs (Sum.inr t.1)).isSome=true/\(bK kvs (Sum.inr t.2)).isSome=true)->(∀l' zs H',aa H H'->H l'=none->H' l'\.lst zs->bC K H' zs (aZ (ts.map λt=>kT (aU t.1 t.2)))->Q (.ref l') H')->lI K vs H Q E
theorem Km(a b:Str):aU a b=(a,b)∨aU a b=(b,a):=by
 unfold aU;split
 ·exact .inl rfl
 exact .inr rfl
theorem kj_{f:Addr}{fd:Ae}(F:bj K "checked_ties" "checked_ties" sS f fd)(B:Bi mg)(cS:!aY 3 "sorted_ties" ["ties"] (Qf K)):!aq a9 4 f fd ["ties","strengths"] (lI K):=by
 exists F.bL J4;let#[l,d,ys,ts,kvs,rfl,hl,tu,good,nd,bS,hd,there,k]:=h;let hu:=gD hr
 apply#[_,ax (bq 2 J4.nd (aQ cS hr %[0|0]))
  (ax (bO (wj (J2 (pv 2))) eD bP)
  (ax (eX eM Z (d5 (pv 2)) (pJ Z (d6 (cO 3 J4.nd) (d6 (cO 4 J4.nd) jI)))
   (aH (bO (xM (wj (V5 hu (pv 3) (pv 1))) (xX (wj (V5 hu (pv 4) (pv 1))))).pt eD bP)))
  (aH (bg (pv 2))))),?_]
 apply#[_,Z,l,ys,ts,Z,hl,tu,good,nd,bS,λl' zs H1 s1 hf fS tz=>?_];apply#[_,Z,_,Z,a_ ?_];apply#[_,Z,l',Z,#[_,.of fS],ie (K:=K) (a:=l') (xs:=zs) (λi σ H2=>∃(v3 v4:aL),σ=[some (.ref l),some (.ref d),some (.ref l'),v3,v4]/\H2=H1) #[none,none,Z,Z] (λi σ H2 _ ⟨_,_,_,e⟩=>by subst e;exact .of fS) ?_ ?_]
 ·rintro i y σ H2 hy ⟨v3,v4,rfl,rfl⟩;let ez:=bH tz;have hi:i<zs.length:=(cw.mp hy).1;let#[a,e,ha]:=ig tz i hi Z1;rw[(cw.mp hy).2] at e;subst e;let#[t,ht,e]:=bG.mp ((nO _).mem_iff.mp (nU (show i<(aZ (ts.map λt=>kT (aU t.1 t.2))).length by omega)));rw[<- e] at ha;let#[t1,t2]:=there t ht
  have both:(bK kvs (Sum.inr (aU t.1 t.2).1)).isSome=true/\(bK kvs (Sum.inr (aU t.1 t.2).2)).isSome=true:=by
   rcases Km t.1 t.2 with q|q
   ·rw[q];exact#[t1,t2]
   rw[q];exact#[t2,t1]
  let vO:=s1 _ _ hd;apply#[a,_,Z,.of (zp ha),Z,_,_,Z,_,_,Z,Z,?_];apply#[_,Z,_,Z,d,_,Z,.k (k:=Sum.inr (aU t.1 t.2).1) vO,_,Z,?_];rw[both.1];apply a_ ?_;apply#[_,Z,_,Z,d,_,Z,.k (k:=Sum.inr (aU t.1 t.2).2) vO,_,Z,?_];rw[both.2];apply a_ ?_;exact#[_,_,Z,Z]
 rintro σ H2 ⟨v3,v4,rfl,rfl⟩;exact#[_,Z,k l' zs _ s1 hf fS tz]
def near(ns:ae)(ts:Xb)(n:Str):ae:=ns.filter λo=>decide (aU n o∈ts)
theorem lR:bx ["names","ties","found","hand"] ["names","ties"] (aX sW):=bE
def jg(ns:ae)(as:ai):List (Key × V):=(ns.zip as).map λp=>(Sum.inr p.1,V.ref p.2)
inductive lM (K:af) (vs:ag) (H:Hp) (Q:VK) (E:XK):Prop
 |mk:∀(l1 l2:Addr) (ns:ae) (zs:ag) (ts:Xb),vs=[.ref l1,.ref l2]->H l1\.lst (ns.map V.str)->H l2\.lst zs->bC K H zs (ts.map kT)->ns.Nodup->ns.length<=1000->l1≠l2->(∀d as H',aa H H'->H d=none->as.length=ns.length->H' d\.dK (jg ns as)->(∀(i:Nat) n a,ns[i]? = some n->as[i]? = some a->H a=none/\H' a\.lst ((near ns ts n).map V.str))->Q (.ref d) H')->lM K vs H Q E
theorem OT{K:af}{H:Hp}:∀{ts:Xb} {zs:ag},bC K H zs (ts.map kT)->Paired (r2 K rS rS H) zs ts
 |[],_,.nil=>.nil
 |t::ts,_,.cons ⟨a,e,h⟩ r=>.cons #[a,_,_,e,.of (zp h),Z,Z] (OT r)
theorem iT{ns:ae}{i:Nat}{x:V}(h:(ns.map V.str)[i]? = some x):∃n,ns[i]? = some n/\x=.str n:=by
 rw[dU] at h;cases e:ns[i]? with
 |none=>rw[e] at h;cases h
 |some n=>rw[e] at h;exact#[n,Z,(d7 h).symm]
theorem XD{α:Type}(p:α->Bool){l:List α}{i:Nat}{x:α}(h:l[i]? = some x):(l.take (i+1)).filter p=(l.take i).filter p++(if p x then [x] else []):=PySem.take_succ_filter p l i x h
theorem kT_{f:Addr}{fd:Ae}(F:bj K "neighbours_of_all" "neighbours_of_all" sW f fd)(cL:!aY 1 "lesser_first" qH K0):!aq a9 2 f fd ["names","ties"] (lM K):=by
 exists F.bL lR;let#[l1,l2,ns,zs,ts,rfl,fS,ja,tz,nd,h8,mQ,k]:=h;let hu:=gD hr;let Nq:=hr.units;let sz:=cn
 apply#[_,ax (bq 2 lR.nd Ip)
  (ax (eX eM Z (d5 (pv 0)) (cO 3 lR.nd)
   (aH (yd hu (pv 2) (pv 3) (iV ["other","hand","ties"] 1 [3,1] (d5 (pv 0)) (λfp s H=>eW (i:=0) (show (["other","hand","ties"]:ae).Nodup by decide +kernel) Z (Or.inl Z))
    (λfp s H=>Vk (dj (Mo (K:=K) (λK=>A5 K (r2 K rS rS) false) (Ov (Hn hZ hZ) (nC hr _))) (aQ cL hr %[1,0|0]) (pv 2) (by with_unfolding_all rfl))) (λfp s H=>pv 0)) Z)))
  (aH (bg (pv 2)))),?_]
 intro d hd;have s0:aa H (upd H d (.dK [])):=aa.new hd
 apply#[_,Z,l1,Z,#[_,.of (s0 _ _ fS)],ie (K:=K) (a:=l1) (xs:=ns.map V.str) (λi σ H2=>∃(v3:aL) (as:ai),σ=[some (.ref l1),some (.ref l2),some (.ref d),v3]/\aa H H2/\as.length=i/\H2 d\.dK (jg (ns.take i) as) /\
  ∀(j:Nat) n a,ns[j]? = some n->as[j]? = some a->H a=none/\a≠d/\H2 a\.lst ((near ns ts n).map V.str)) #[none,[],Z,s0,Z,au,λj n a _ e=>by simp at e] (λi σ H2 _ ⟨_,_,_,s2,_⟩=>.of (s2 _ _ fS)) ?_ ?_]
 ·rintro i y σ H2 hy ⟨v3,as,rfl,s2,la,hd2,lists⟩;let#[n,hn,rfl]:=iT hy;have hi:i<ns.length:=(cw.mp hn).1
  have lk:(jg (ns.take i) as).length=i:=by
   unfold jg;rw[ay,List.length_zip,dJ];omega
  apply#[_,Z,l1,Z,#[_,.of (s2 _ _ fS)],λD hD=>?_];apply jK (own:=1) (fv:=[some (.str n),some (.ref l2)]) (xs:=ns.map V.str) Z dR (λj out H'=>aa H2 H'/\H' D\.lst out/\out=((ns.take j).filter λo=>decide (aU n o∈ts)).map V.str) #[aa.new hD,au,Z] (λj out H' _ ⟨sm,_,_⟩=>.of (sm _ _ (s2 _ _ fS))) (λout H' ⟨sm,dE,eo⟩=>?_) (λj x out H' hx ⟨sm,dE,eo⟩=>?_)
  ·rw[ay,eN] at eo
   have vG:bK (jg (ns.take i) as) (Sum.inr n)=none:=Ai λm=>by
    unfold jg at m;rw[b_] at m;let#[p,hp,e]:=bG.mp m;have e:p.1=n:=h9 e;let q:=Iw (g:=id) (by rw[List.map_id];exact nd) hn;rw[List.map_id] at q;exact q (e▸(List.of_mem_zip hp).1)
   have Tf:D≠d:=λz=>by subst z;rw[hD] at hd2;cases hd2
   apply#[_,Z,_,Z,d,_,Z,.k (k:=Sum.inr n) (sm _ _ hd2) Z1,?_];apply#[_,as++[D],Z,λc o e=>?_,by rw[fA,la];rfl,?_,λj n' a vL ha=>?_]
   ·rw[aA (bw e hd)];exact sm _ _ (s2 _ _ e)
   ·rw[au,D8 _ vG];congr 2;unfold jg;rw[jr,hn,List.zip_append (by rw[dJ];omega),cu];rfl
   by_cases hj:j<as.length
   ·rw[CD hj] at ha;let#[q1,q2,q3]:=lists j n' a vL ha;apply#[q1,q2,?_];rw[aA q2];exact sm _ _ q3
   have hj2:j=i:=by
    have:=(cw.mp ha).1;rw[fA] at this;simp only[CB] at this;omega
   subst hj2;rw[Ak Z1,la,Nat.sub_self] at ha;have ha:D=a:=⇑ha
   subst ha;rw[hn] at vL;cases vL;apply#[s2.free hD,Tf,?_];rw[aA Tf,dE,eo];rfl
  let#[o,ho,rfl]:=iT hx;apply#[_,Z,Z,λNx hN=>?_];apply#[_,Z,_,Z,n,o,Z,λt ht=>?_];have s3:aa H' (upd H' t (.tup [.str (aU n o).1,.str (aU n o).2])):=aa.new ht;let Zu:=((tz.same s2).same sm).same s3
  have lo:out.length<sizeLine:=by
   rw[eo,ay];have:=List.length_filter_le (λo=>decide (aU n o∈ts)) (ns.take j);rw[dJ] at this;omega
  apply#[_,Z,aU n o,ts,#[t,_,_,Z,.of au,Z,Z],#[l2,zs,Z,.of (s3 _ _ (sm _ _ (s2 _ _ ja))),OT Zu],_,Z,?_];apply aN (λc=>?_) (λc=>?_)
  ·apply#[_,Z,out,s3 _ _ dE,lo,hN _ _ #[gU (sm.trans s3) hD,au,?_]];have c:decide (aU n o∈ts)=true:=⇑c
   rw[XD _ ho,aJ c,cu,eo];rfl
  apply hN _ _ #[sm.trans s3,s3 _ _ dE,?_];have c:¬decide (aU n o∈ts)=true:=⇑c
  rw[XD _ ho,aB c,Al,eo]
 rintro σ H2 ⟨v3,as,rfl,s2,la,hd2,lists⟩;rw[ay] at la hd2;rw[eN] at hd2;exact#[_,Z,k d as _ s2 hd la hd2 λj n a h1 h2=>#[(lists j n a h1 h2).1,(lists j n a h1 h2).2.2]]
end
end Ev
namespace Ev
open PySem L2
abbrev tD:Stmt:=jE i7 0
abbrev wZ:Stmt:=jE i7 1
abbrev mz:Stmt:=jE i7 2
abbrev P0:Stmt:=jE i7 3
abbrev ml:Stmt:=jE i7 4
abbrev sT:Stmt:=jE i7 5
abbrev lZ:Stmt:=jE i7 6
abbrev sZ:Stmt:=jE i7 7
def GO:az->Str
 |.inr a::_=>a
 |_=>⟨#[]⟩
def LC:az->Str × Str
 |[.inr a,.inr b]=>(a,b)
 |_=>(⟨#[]⟩,⟨#[]⟩)
def aF(hs:Xa):ae:=(aZ (hs.map kH)).map GO
def aM(ts:Xb):Xb:=(aZ (ts.map λt=>kT (aU t.1 t.2))).map LC
theorem KW(ts:Xb):(aM ts).map kT=aZ (ts.map λt=>kT (aU t.1 t.2)):=by
 unfold aM;rw[b_]
 have all:∀k∈aZ (ts.map λt=>kT (aU t.1 t.2)),∃t:Str × Str,k=kT t:=λk hk=>by
  let#[t,_,e]:=bG.mp ((nO _).mem_iff.mp hk);exact#[_,e.symm]
 generalize aZ (ts.map λt=>kT (aU t.1 t.2))=l at all
 induction l with
 |nil=>rfl
 |cons k l ih=>
  let#[t,rfl]:=all k fM;rw[dZ,ih λk hk=>all k (eR _ hk)];rfl
theorem WV(hs:Xa):∀k∈aZ (hs.map kH),∃h:Str × Int,h∈hs/\k=kH h:=λk hk=>by
 let#[t,ht,e]:=bG.mp ((nO _).mem_iff.mp hk);exact#[t,ht,e.symm]
theorem Vn(hs:Xa):((dC hs).map λkv=>kV kv.1)=(aF hs).map V.str:=by
 unfold dC aF;rw[b_,b_];apply vf λk hk=>?_;let#[h,_,rfl]:=WV hs k hk;rfl
theorem Vo(hs:Xa):(dC hs).map (·.1)=(aF hs).map Sum.inr:=by
 unfold dC aF;rw[b_,b_];apply vf λk hk=>?_;let#[h,_,rfl]:=WV hs k hk;rfl
theorem iW(hs:Xa):(aF hs).Perm (hs.map (·.1)):=by
 unfold aF;let p:=(nO (hs.map kH)).map GO;rw[b_] at p;exact p
theorem V6{κ:Type}[DecidableEq κ]{kvs:List (κ × V)}{k:κ}(h:k∈kvs.map (·.1)):(bK kvs k).isSome=true:=by
 rw[<- Hu];let#[p,hp,e]:=bG.mp h;exact List.any_eq_true.mpr #[p,hp,cb e]
theorem KF{hs:Xa}{n:Str}:(bK (dC hs) (Sum.inr n)).isSome=decide (n∈hs.map (·.1)):=by
 by_cases h:n∈hs.map (·.1)
 ·rw[cb h];apply V6 ?_;rw[Vo];exact bG.mpr #[n,(iW hs).mem_iff.mpr h,Z]
 rw[dH h,Ai]
 ·rfl
 rw[Vo];intro m;let#[x,hx,e]:=bG.mp m;cases e;exact h ((iW hs).mem_iff.mp hx)
theorem MK:¬((vU:Str)="sorted_pairs"):=by decide +kernel
theorem MJ:¬((vU:Str)=B8):=by decide +kernel
theorem n23:¬(("sorted_pairs":Str)=B8):=by decide +kernel
def dg(d1 l2 d3:Addr):List (Str × V):=aD B8 (.ref d3) (aD "sorted_pairs" (.ref l2) (aD vU (.ref d1) []))
theorem J1(d1 l2 d3:Addr):(dg d1 l2 d3).lookup (vU:Str)\.ref d1:=by
 unfold dg;rw[eZ,aB MJ,eZ,aB MK,eZ,aJ Z]
theorem lE_(d1 l2 d3:Addr):(dg d1 l2 d3).lookup ("sorted_pairs":Str)\.ref l2:=by
 unfold dg;rw[eZ,aB n23,eZ,aJ Z]
theorem Ng(d1 l2 d3:Addr):(dg d1 l2 d3).lookup (B8:Str)\.ref d3:=by
 unfold dg;rw[eZ,aJ Z]
theorem iM(d1 l2 d3:Addr){m:Str}(h1:¬m=vU)(h2:¬m="sorted_pairs")(h3:¬m=B8):(dg d1 l2 d3).lookup m=none:=by
 unfold dg;rw[eZ,aB h3,eZ,aB h2,eZ,aB h1]
 all_goals rfl
structure fq (K:af) (C:Addr) (H:Hp) (p:Addr) (hs:Xa) (ts:Xb) (fp:ai):Prop where
 ex:∃(dx d1 l2 d3:Addr) (zs:ag) (as:ai),fp=p::d1::l2::d3::as/\H p\.ins C dx (dg d1 l2 d3)/\H d1\.dK (dC hs)/\H l2\.lst zs/\bC K H zs ((aM ts).map kT)/\H d3\.dK (jg (aF hs) as)/\as.length=(aF hs).length /\
  ∀(i:Nat) n a,(aF hs)[i]? = some n->as[i]? = some a->H a\.lst ((near (aF hs) (aM ts) n).map V.str)
theorem fq.keep{K:af}{C:Addr}{H H':Hp}{p:Addr}{hs:Xa}{ts:Xb}{fp:ai}(W:fq K C H p hs ts fp)(k:∀b∈fp,∀o,H b\o->H' b\o)(kt:∀b xs,H b\.tup xs->H' b\.tup xs):fq K C H' p hs ts fp:=by
 let#[dx,d1,l2,d3,zs,as,rfl,h1,h2,h3,h4,h5,h6,h7]:=W.ex;apply#[dx,d1,l2,d3,zs,as,Z,k _ Z2 _ h1,k _ Z2 _ h2,k _ Z2 _ h3,Paired.bF h4 λy q ⟨a,e,z⟩=>#[a,e,kt _ _ z],k _ Z2 _ h5,h6,λi n a e1 e2=>k _ ?_ _ (h7 i n a e1 e2)];have:=dA e2;simp[this]
theorem fq.same{K:af}{C:Addr}{H H':Hp}{p:Addr}{hs:Xa}{ts:Xb}{fp:ai}(W:fq K C H p hs ts fp)(s:aa H H'):fq K C H' p hs ts fp:=W.keep (λb _ o e=>s b o e) λb xs e=>s b _ e
structure Good (hs:Xa) (ts:Xb):Prop where
 aE:∀h∈hs,zF h
 zt:(hs.map (·.1)).Nodup
 h1:1<=hs.length
 h8:hs.length<=8
 tok:∀t∈ts,zM t
 Sq:(ts.map λt=>kT (aU t.1 t.2)).Nodup
 rN:ts.length<64
 Ja:∀t∈ts,t.1∈hs.map (·.1)/\t.2∈hs.map (·.1)
theorem Good.uc{hs:Xa}{ts:Xb}(G:Good hs ts):(aF hs).Nodup:=(iW hs).nodup_iff.mpr G.zt
theorem Good.fP{hs:Xa}{ts:Xb}(G:Good hs ts):(aF hs).length=hs.length:=by
 rw[(iW hs).length_eq,ay]
theorem D7(ts:Xb):(aM ts).length=ts.length:=by
 unfold aM;rw[ay,(nO _).length_eq,ay]
structure Txt (K:af) (mg:Str->Option Aa) (C:Addr):Prop where
 cl:oi K C
 nS:k_ K C vU
 nP:k_ K C "sorted_pairs"
 nN:k_ K C B8
section v
theorem lU:bx ["self","hands","ties","strengths","checked"] pR (aX tD):=bE
inductive G5 (K:af) (C:Addr) (vs:ag) (H:Hp) (Q:VK) (E:XK):Prop
 |mk:∀(p dx lh lt:Addr) (ys zs:ag) (hs:Xa) (ts:Xb),vs=[.ref p,.ref lh,.ref lt]->H p\.ins C dx []->H lh\.lst ys->bC K H ys (hs.map kH)->H lt\.lst zs->bC K H zs (ts.map kT)->Good hs ts->(∀fp H',(∀b o,H b\o->b≠p->H' b\o)->fq K C H' p hs ts fp->(∀b∈fp,b=p∨H b=none)->Q .non H')->G5 K C vs H Q E
theorem kf_{f C:Addr}{fd:Ae}(F:bj K "__init__" "Web.__init__" tD f fd)(T:Txt K mg C)(B:Bi mg)(cS:!aY 4 "checked_strengths" ["hands"] (yK K))(cT:!aY 4 "checked_ties" ["ties","strengths"] (lI K))(cN:!aY 2 "neighbours_of_all" ["names","ties"] (lM K)) :
  aq P w K mg base a9 5 f fd pR (G5 K C):=by
 exists F.bL lU;let#[p,dx,lh,lt,ys,zs,hs,ts,rfl,hp,qg,th,dY,tt,G,k]:=h
 apply#[_,ax (bq 3 lU.nd (aQ cS hr %[1|0]))
  (ax (bq 4 lU.nd (aQ cT hr %[2,3|0]))
  (ax (wg (pv 0) (pv 3) Z) (ax (wg (pv 0) (pv 4) Z)
  (aH (wg (pv 0) (aQ cN hr %[iK (QJ Z) (by rfl) B.list Cq %[3|0],4|0]) Z))))),?_]
 apply#[_,Z,lh,ys,hs,Z,qg,th,G.aE,G.zt,G.h1,G.h8,λd1 H1 s1 f1 vO=>?_];apply#[_,Z,_,Z,lt,d1,zs,ts,_,Z,s1 _ _ dY,tt.same s1,G.tok,G.Sq,G.rN,vO,λt ht=>?_,λl2 Eg H2 s2 f2 ja tz=>?_]
 ·rw[KF,KF];exact#[cb (G.Ja t ht).1,cb (G.Ja t ht).2]
 let BB:=s2 _ _ vO;let jA:=s2 _ _ (s1 _ _ hp);have p1:p≠d1:=bX jA BB nofun;have p2:p≠l2:=bX jA ja nofun;apply#[_,Z,_,Z,p,C,dx,[],Z,jA,T.cl,T.nS,by show 0<1000;decide,?_];apply#[_,Z,_,Z,p,C,dx,_,Z,au,T.cl,T.nP,by show 1<1000;decide,?_]
 let H3:Hp:=upd (upd H2 p (.ins C dx (aD vU (.ref d1) []))) p (.ins C dx (aD "sorted_pairs" (.ref l2) (aD vU (.ref d1) [])))
 have h3:∀{b o},H2 b\o->b≠p->H3 b\o:=λe ne=>by
  show upd (upd H2 p _) p _ _=_;rw[aA ne,aA ne];exact e
 have OC:H3 p\.ins C dx (aD "sorted_pairs" (.ref l2) (aD vU (.ref d1) [])):=au
 have Fn:∀{b},H3 b=none->H2 b=none:=λ{b} e=>by
  by_cases z:b=p
  ·subst z;rw[OC] at e;cases e
  have e:upd (upd H2 p _) p _ b=none:=e;rw[aA z,aA z] at e;exact e
 have Sl:bC K H3 Eg ((aM ts).map kT):=by
  rw[KW];exact Paired.bF tz λy q ⟨a,e,z⟩=>#[a,e,h3 z (bX z jA nofun)]
 apply#[_,Z,d1,_,Z,.inl (h3 BB p1.symm),λl1 fS=>?_];rw[Vn];have s4:aa H3 (upd H3 l1 (.lst ((aF hs).map V.str))):=aa.new fS;have ME:l1≠l2:=(bw (H:=H3) (h3 ja p2.symm) fS).symm;apply#[_,Z,l1,l2,aF hs,Eg,aM ts,Z,au,s4 _ _ (h3 ja p2.symm),Sl.same s4,G.uc,by rw[G.fP];have:=G.h8;omega,ME,λd3 as H5 s5 f5 la mU lists=>?_];let Dg:=s5 _ _ (s4 _ _ OC);apply#[_,Z,p,C,dx,_,Z,Dg,T.cl,T.nN,by show 2<1000;decide,?_]
 have up:∀{b o},H2 b\o->b≠p->upd H5 p (.ins C dx (dg d1 l2 d3)) b\o:=λe ne=>by
  rw[aA ne];exact s5 _ _ (s4 _ _ (h3 e ne))
 have pC:∀{b},upd H3 l1 (.lst ((aF hs).map V.str)) b=none->H b=none:=λe=>s1.free (s2.free (Fn (s4.free e)));have Oj:d3≠p:=(bw (s4 _ _ OC) f5).symm;apply k (p::d1::l2::d3::as) _ (λb o e ne=>up (s2 _ _ (s1 _ _ e)) ne) #[dx,d1,l2,d3,Eg,as,Z,au,up BB p1.symm,up ja p2.symm,?_,?_,la,λi n a e1 e2=>?_] λb hb=>?_
 ·exact Paired.bF (Sl.same (s4.trans s5)) λy q ⟨a,e,z⟩=>#[a,e,by rw[aA (bX z Dg nofun)];exact z]
 ·rw[aA Oj];exact mU
 ·let#[q1,q2]:=lists i n a e1 e2;rw[aA (bX q2 Dg nofun)];exact q2
 simp only[cU] at hb;rcases hb with rfl|rfl|rfl|rfl|hb
 ·exact .inl Z
 ·exact .inr f1
 ·exact .inr (s1.free f2)
 ·exact .inr (pC f5)
 let#[i,hi,e]:=ku hb;have e1:as[i]? = some b:=by rw[cE hi,e]
 have hn:i<(aF hs).length:=by omega
 exact .inr (pC (lists i _ b (cE hn) e1).1)
end
end Ev
namespace Ev
open PySem L2
structure br (P:Ad) (w:Af) (K:af) (mg:Str->Option Aa) (base:Heap) (C:Addr) (k:Nat) (m:Str) (ps:ae) (sp:Sp):Prop where
 ex:∃f fd,aq P w K mg base a9 k f fd ps sp/\Meth K C m f/\qI K fd ps []
theorem ft{X:Cx}{C:Addr}{k:Nat}{m:Str}{ps:ae}{sp:Sp}{pos apos:Pos}{o e:Expr}{es:List Expr}{ta:TE}{t:TA}{pl:Sem Bool}(c:br X.prog X.w X.K X.mg X.base C k m ps sp)(cl:oi X.K C)(hr:bf k X.A)(he:PE X o ta)(ha:PA X (e::es) t)
  (Bl:starEach (e::es) X.env=(false,eval e X.env)::starEach es X.env:=by rfl) (jz:(backTo pos (starEach es X.env)).any (·.1)=false:=by rfl)
  (ht:eval (.Call (.Attribute o m apos) (e::es) [] pos) X.env=(do
   let ov <- eval o X.env
   standAt apos.atName
   let (f,first) <- holding [ov] (getMethod ov m pl)
   callWith pos f first (backTo pos (starEach (e::es) X.env)) (backToKw pos (keywordEach [] X.env))):=by rfl) :
  PE X (.Call (.Attribute o m apos) (e::es) [] pos) (ow C m sp [] E0 ta t):=by
 let#[f,fd,F,hm,b]:=c.ex;exact ky_ he cl hm F hr b .nil o4 ha Bl jz ht
theorem uW{X:Cx}{C:Addr}{k:Nat}{m:Str}{ps:ae}{sp:Sp}{pos apos:Pos}{o:Expr}{ta:TE}{pl:Sem Bool}(c:br X.prog X.w X.K X.mg X.base C k m ps sp)(cl:oi X.K C)(hr:bf k X.A)(he:PE X o ta)
  (ht:eval (.Call (.Attribute o m apos) [] [] pos) X.env=(do
   let ov <- eval o X.env
   standAt apos.atName
   let (f,first) <- holding [ov] (getMethod ov m pl)
   callWith pos f first (backTo pos (starEach [] X.env)) (backToKw pos (keywordEach [] X.env))):=by rfl) :
  PE X (.Call (.Attribute o m apos) [] [] pos) (ow C m sp [] E0 ta lF):=by
 let#[f,fd,F,hm,b]:=c.ex;exact ij_ he cl hm F hr b .nil o4 ht
theorem gr_{hs:Xa}(nd:(hs.map (·.1)).Nodup){x:Str}{n:Int}(h:(x,n)∈hs):bK (dC hs) (Sum.inr x)\.int n:=by
 have m:((Sum.inr x:Key),V.int n)∈dC hs:=by
  unfold dC;apply bG.mpr #[kH (x,n),(nO _).mem_iff.mpr (bG.mpr #[_,h,Z]),Z]
 let nk:=XE nd;generalize dC hs=kvs at m nk
 induction kvs with
 |nil=>cases m
 |cons p r ih=>
  let#[n1,n2]:=lA.mp nk;rcases cU.mp m with e|m
  ·rw[<- e];exact Cv Z
  rw[Cm (λe:p.1=Sum.inr x=>n1 (bG.mpr #[_,m,e.symm]))];exact ih m n2
theorem he_{ns:ae}{as:ai}(nd:ns.Nodup)(la:as.length=ns.length){i:Nat}{n:Str}(hn:ns[i]? = some n):∃a,as[i]? = some a/\bK (jg ns as) (Sum.inr n)\.ref a:=by
 induction ns generalizing as i with
 |nil=>simp at hn
 |cons x ns ih=>
  cases as with
  |nil=>cases la
  |cons b as=>
   let#[n1,n2]:=lA.mp nd;cases i with
   |zero=>
    have e:x=n:=⇑hn
    subst e;exact#[b,Z,Cv Z]
   |succ i=>
    have hn:ns[i]? = some n:=⇑hn
    let#[a,h1,h2]:=ih n2 ⇑la hn;apply#[a,by simpa using h1,?_];show bK ((Sum.inr x,V.ref b)::jg ns as) (Sum.inr n)=_;rw[Cm λe=>n1 (by rw[show x=n from h9 e];exact dA hn)];exact h2
section v
theorem yN:bx pF pF (aX wZ):=bE
inductive jU (K:af) (C:Addr) (vs:ag) (H:Hp) (Q:VK) (E:XK):Prop
 |mk:∀(p:Addr) (x:Str) (hs:Xa) (ts:Xb) (fp:ai),vs=[.ref p,.str x]->fq K C H p hs ts fp->Q (.bl (decide (x∈hs.map (·.1)))) H->jU K C vs H Q E
theorem lI_{f C:Addr}{fd:Ae}(F:bj K "has_hand" "Web.has_hand" wZ f fd)(T:Txt K mg C)(B:Bi mg):!aq a9 1 f fd pF (jU K C):=by
 exists F.bL yN;let#[p,x,hs,ts,fp,rfl,W,k]:=h;let hu:=gD hr;let#[dx,d1,l2,d3,zs,as,rfl,h1,h2,h3,h4,h5,h6,h7]:=W.ex;apply#[_,aH (bg (ny (cy jq (by rfl) B.iP iU %[1,jn (v:=.ty "str") (by rfl) B.str G_ Z|0]) (nu (GT (DL hu (pv 1) (dG (pv 0) Z)))))),?_];apply#[_,Z,_,_,_,_,Z,.str x,Z,_,Z,dD ?_];apply#[_,Z,_,Z,p,C,dx,_,_,Z,h1,T.cl,T.nS,J1 _ _ _,d1,_,Z,.k (k:=Sum.inr x) h2,?_];rw[KF];exact k
theorem wX:bx gK gK (aX mz):=bE
inductive DS (K:af) (C:Addr) (vs:ag) (H:Hp) (Q:VK) (E:XK):Prop
 |mk:∀(p:Addr) (hs:Xa) (ts:Xb) (fp:ai),vs=[.ref p]->fq K C H p hs ts fp->(∀l,H l=none->Q (.ref l) (upd H l (.lst ((aF hs).map V.str))))->DS K C vs H Q E
theorem ip_{f C:Addr}{fd:Ae}(F:bj K "hands" "Web.hands" mz f fd)(T:Txt K mg C)(B:Bi mg):!aq a9 1 f fd gK (DS K C):=by
 exists F.bL wX;let#[p,hs,ts,fp,rfl,W,k]:=h;let#[dx,d1,l2,d3,zs,as,rfl,h1,h2,h3,h4,h5,h6,h7]:=W.ex;apply#[_,aH (bg (iK (QJ Z) (by rfl) B.list Cq %[dG (pv 0) Z|0])),?_];apply#[_,Z,p,C,dx,_,_,Z,h1,T.cl,T.nS,J1 _ _ _,d1,_,Z,.inl h2,λl hl=>?_];rw[Vn];exact k l hl
theorem fm':bx jF jF (aX P0):=bE
inductive D9 (K:af) (C:Addr) (vs:ag) (H:Hp) (Q:VK) (E:XK):Prop
 |mk:∀(p:Addr) (x:Str) (n:Int) (hs:Xa) (ts:Xb) (fp:ai),vs=[.ref p,.str x]->fq K C H p hs ts fp->(hs.map (·.1)).Nodup->(x,n)∈hs->Q (.int n) H->D9 K C vs H Q E
theorem fa_{f C:Addr}{fd:Ae}(F:bj K "strength" "Web.strength" P0 f fd)(T:Txt K mg C)(cH:!br C 1 "has_hand" pF (jU K C)):!aq a9 2 f fd jF (D9 K C):=by
 apply F.bL fm' λaO A outer s H vs Q E hr h=>?_;let#[p,x,n,hs,ts,fp,rfl,W,nd,hx,k]:=h;let hu:=gD hr;let#[dx,d1,l2,d3,zs,as,rfl,h1,h2,h3,h4,h5,h6,h7]:=id W.ex;apply#[_,ax (bO (eY (eK (ft cH T.cl hr (pv 0) %[1|0]))) eD bP) (aH (bg (kq hu (dG (pv 0) Z) (pv 1)))),?_];apply#[_,Z,p,dx,_,Z,h1,iM _ _ _ Z0 Z0 Z0,_,Z,p,x,hs,ts,_,Z,W,_,Z,?_];rw[cb (bG.mpr #[_,hx,Z])];apply a_ ?_;apply#[_,Z,p,C,dx,_,_,Z,h1,T.cl,T.nS,J1 _ _ _,_,Z,d1,_,Z,?_,k];rw[<- gr_ nd hx];exact .k (k:=Sum.inr x) h2
theorem wR:bx jF jF (aX ml):=bE
inductive KL (K:af) (C:Addr) (vs:ag) (H:Hp) (Q:VK) (E:XK):Prop
 |mk:∀(p:Addr) (x:Str) (hs:Xa) (ts:Xb) (fp:ai),vs=[.ref p,.str x]->fq K C H p hs ts fp->(aF hs).Nodup->x∈hs.map (·.1)->(∀l,H l=none->Q (.ref l) (upd H l (.lst ((near (aF hs) (aM ts) x).map V.str))))->KL K C vs H Q E
theorem TZ{H:Hp}{hs:Xa}{ts:Xb}{as:ai}{x:Str}(nd:(aF hs).Nodup)(hx:x∈hs.map (·.1))(la:as.length=(aF hs).length)
  (h7:∀(i:Nat) n a,(aF hs)[i]? = some n->as[i]? = some a->H a\.lst ((near (aF hs) (aM ts) n).map V.str)):∃a,bK (jg (aF hs) as) (Sum.inr x)\.ref a/\H a\.lst ((near (aF hs) (aM ts) x).map V.str):=by
 let#[i,hi,e]:=ku ((iW hs).mem_iff.mpr hx);have hn:(aF hs)[i]? = some x:=by rw[cE hi,e]
 let#[a,h1,h2]:=he_ nd la hn;exact⟨a,h2,h7 i x a hn h1⟩
theorem iG_{f C:Addr}{fd:Ae}(F:bj K "neighbours" "Web.neighbours" ml f fd)(T:Txt K mg C)(B:Bi mg)(cH:!br C 1 "has_hand" pF (jU K C)):!aq a9 2 f fd jF (KL K C):=by
 exists F.bL wR;let#[p,x,hs,ts,fp,rfl,W,nd,hx,k]:=h;let hu:=gD hr;let#[dx,d1,l2,d3,zs,as,rfl,h1,h2,h3,h4,h5,h6,h7]:=id W.ex;let#[a,e1,ha]:=TZ nd hx h6 h7;apply#[_,ax (bO (eY (eK (ft cH T.cl hr (pv 0) %[1|0]))) eD bP) (aH (bg (iK ef_ (by rfl) B.list Cq %[kq hu (dG (pv 0) Z) (pv 1)|0]))),?_];apply#[_,Z,p,dx,_,Z,h1,iM _ _ _ Z0 Z0 Z0,_,Z,p,x,hs,ts,_,Z,W,_,Z,?_];rw[cb hx];apply a_ ?_;apply#[_,Z,p,C,dx,_,_,Z,h1,T.cl,T.nN,Ng _ _ _,_,Z,d3,.ref a,Z,?_,a,_,Z,.inl (.of ha),k];rw[<- e1];exact .k (k:=Sum.inr x) h5
theorem AG:bx k8 k8 (aX sT):=bE
theorem Iq{H:Hp}:∀ns:ae,Paired (rS H) (ns.map V.str) ns
 |[]=>.nil
 |_::ns=>.cons Z (Iq ns)
theorem wN:bx gK gK (aX lZ):=bE
inductive Pp (K:af) (C:Addr) (vs:ag) (H:Hp) (Q:VK) (E:XK):Prop
 |mk:∀(p:Addr) (hs:Xa) (ts:Xb) (fp:ai),vs=[.ref p]->fq K C H p hs ts fp->ts.length<64->(∀l zs H',aa H H'->H l=none->H' l\.lst zs->bC K H' zs ((aM ts).map kT)->Q (.ref l) H')->Pp K C vs H Q E
theorem j9_{f C:Addr}{fd:Ae}(F:bj K "ties" "Web.ties" lZ f fd)(T:Txt K mg C)(cA:!aY 1 "ties_anew" ["ties"] (si K)):!aq a9 2 f fd gK (Pp K C):=by
 exists F.bL wN;let#[p,hs,ts,fp,rfl,W,bS,k]:=h;let#[dx,d1,l2,d3,zs,as,rfl,h1,h2,h3,h4,h5,h6,h7]:=W.ex;apply#[_,aH (bg (aQ cA hr %[dG (pv 0) Z|0])),?_];exact#[_,Z,p,C,dx,_,_,Z,h1,T.cl,T.nP,lE_ _ _ _,l2,zs,aM ts,Z,h3,h4,by rw[D7];omega,k]
theorem AL:bx gK gK (aX sZ):=bE
def gq(hs:Xa)(ts:Xb):List Int:=(aF hs).map λn=>((near (aF hs) (aM ts) n).length:Int)
inductive lO (K:af) (C:Addr) (vs:ag) (H:Hp) (Q:VK) (E:XK):Prop
 |mk:∀(p:Addr) (hs:Xa) (ts:Xb) (fp:ai),vs=[.ref p]->fq K C H p hs ts fp->0<(aF hs).length->(aF hs).length<=1000->(∀m H',aa H H'->m∈gq hs ts->(∀a∈gq hs ts,a<=m)->Q (.int m) H')->lO K C vs H Q E
theorem kk_{f C:Addr}{fd:Ae}(F:bj K "most_neighbours" "Web.most_neighbours" sZ f fd)(T:Txt K mg C)(B:Bi mg):!aq a9 1 f fd gK (lO K C):=by
 exists F.bL AL;let#[p,hs,ts,fp,rfl,W,h0,h8,k]:=h;let sz:=cn;let#[dx,d1,l2,d3,zs,as,rfl,h1,h2,h3,h4,h5,h6,h7]:=W.ex
 apply#[_,aH (bg (cy (in_ Z) (by rfl) B.max JZ %[kg_ (iV ["row"] 1 [] (jU_ (WC (dG (pv 0) Z))) (λfp s H=>eW (i:=0) (show (["row"]:ae).Nodup by decide +kernel) Z (Or.inl Z)) (λfp s H=>ij)
  (λfp s H=>cy (Q6 (K:=K)) (by rfl) B.len ia %[0|0]))|0])),?_]
 apply#[d3,_,h5,_,Z,p,C,dx,_,_,Z,h1,T.cl,T.nN,Ng _ _ _,d3,_,Z,h5,λv hv=>?_];have s1:aa H (upd H v (wb v d3)):=aa.new hv;apply#[v,d3,_,Z,au,s1 _ _ h5,λo D hD=>?_]
 have lk:(jg (aF hs) as).length=(aF hs).length:=by
  unfold jg;rw[ay,List.length_zip];omega
 have Iz:∀{b u},H b\u->u≠.dK (jg (aF hs) as)->upd (upd H v (wb v d3)) d3 (.frz o (.dK (jg (aF hs) as))) b\u:=λe ne=>by
  rw[aA (bX e h5 ne)];exact s1 _ _ e
 apply Cr (own:=1) (fv:=[]) Z dR (aF hs).length (λi out H'=>aa (upd (upd H v (wb v d3)) d3 (.frz o (.dK (jg (aF hs) as)))) H'/\H' D\.lst out/\out=((gq hs ts).take i).map V.int) #[aa.new hD,au,Z] (λout H' ⟨sm,dE,eo⟩=>?_) (λi out H' hi ⟨sm,dE,eo⟩=>?_)
 ·let hf:=sm _ _ (show upd (upd H v (wb v d3)) d3 (.frz o (.dK (jg (aF hs) as))) d3\_ from au);have Dd:D≠d3:=bX dE hf nofun;have ll:(gq hs ts).length=(aF hs).length:=by unfold gq;rw[ay]
  rw[<- ll,eN] at eo;apply#[#[hf,by omega],o,hf,D,gq hs ts,Z,.of ?_,by omega,λm hm hle=>k m _ (λb u e=>?_) hm hle]
  ·rw[aA Dd,dE,eo]
  by_cases z:b=d3
  ·subst z;rw[au,<- h5];exact e
  rw[aA z];exact sm _ _ (by rw[aA z];exact s1 _ _ e)
 let hf:=sm _ _ (show upd (upd H v (wb v d3)) d3 (.frz o (.dK (jg (aF hs) as))) d3\_ from au);apply#[#[hf,by omega],λx H2 y=>?_];let#[eH,kk,hk]:=y;subst eH;have hn:(aF hs)[i]? = some (aF hs)[i]:=cE hi;have ha:as[i]? = some (as[i]' Z1):=cE Z1
 have ex:x=.ref (as[i]' Z1):=by
  unfold jg at hk;rw[dU,cE (by rw[List.length_zip];omega),List.getElem_zip] at hk;exact (Prod.mk.inj (d7 hk)).2.symm
 subst ex;let Nv:=h7 i _ _ hn ha;apply#[_,Z,Z,λNx hN=>dB ?_];apply#[_,Z,_,_,Z,.inl (.of (sm _ _ (Iz Nv nofun))),out,dE,?_,hN _ _ #[gU sm hD,au,?_]]
 ·rw[eo,ay,dJ];unfold gq;rw[ay];omega
 rw[D_ _ (show (gq hs ts)[i]? = some (((near (aF hs) (aM ts) (aF hs)[i]).length:Nat):Int) by unfold gq;rw[dU,hn];rfl),eo,ay]
end
end Ev
namespace L2
open PySem PySem.Spec PyProof.Rows PySem.W
def Ed(K:af)(a:Addr):It:=
 #[λi H=>∃xs x,dW K H a xs/\xs[i]? = some x,λi H y H'=>∃t x,y=.ref t/\H t=none/\(∀xs,dW K H a xs->xs[i]? = some x)/\H'=upd H t (.tup [.int i,x]),λi H=>∃xs,dW K H a xs/\xs.length=i]
theorem Inv.oq{X:Cx}{pins:List (Addr × Obj)}{σ:St}{H:Hp}{s:Ab}{h':Heap}{t':Nat}{fp:ai}{T:Addr}{xs:ag}{its:ak}(I:Inv X pins σ H s)(k:∀b o,b∉fp->s.heap.get? b\o->h'.get? b\o)(hf:∀b∈fp,du X pins H b)
  (hT:s.heap.objs.size<=T) (hz:xs.length<=sizeLine) (r:Vals xs its) (ht:IsTup h' T its.toArray/\∃o,h'.get? T\o/\o.dict=none):Inv X pins σ (upd H T (.tup xs)) { s with heap:=h',toks:=t' }:=by
 have fT:H T=none:=I.aE.fresh hT;have nf:∀b u,H b\u->b∉fp:=λb u e hb=>by rw[(hf b hb).1] at e;cases e
 have old:∀{b u},H b\u->upd H T (.tup xs) b\u:=λe=>by rw[aA (bw e fT)];exact e
 apply I.step (g':=s.gens) (d':=s.drawn) (ch:=fp) (λb hb=>?_) (λb o _ _ hc e _=>k b o hc e) (λb o _ _ hc e _=>#[o.slots,k b o hc e]) (λb o _ e n=>?_)
  (λb o hc e=>#[o,k b o hc e]) (λb ys e=>old e) (λb o u e=>old e) (λb ps e=>#[#[],by rw[Array.append_empty];exact old e]) (λm hm=>?_) (λb u e=>?_) I.bare
 ·let#[f0,f1,f2,f3,f4,f5]:=hf b hb;exact#[f3,f1,f4,f5]
 ·rw[aA (λz=>by subst z;exact absurd (cK e) (Nat.not_lt.mpr hT))];exact n
 ·let#[o,es,ep,ho,r]:=hm;exact#[o,es,ep,k _ o (λhb=>(hf _ hb).2.1 Z) ho,r]
 by_cases z:b=T
 ·subst z;rw[au] at e;cases e;exact#[hz,its,r,ht]
 rw[aA z] at e;apply (I.aE b u e).eC (λc v hc q=>k c v ?_ q) (λ_ q=>old q) λ_ _ q=>old q;rcases hc with z|z
 ·rw[z];exact nf b u e
 exact nf c _ z
theorem Inv.i0{X:Cx}{pins:List (Addr × Obj)}{σ:St}{H:Hp}{s:Ab}{h':Heap}{t':Nat}{fp:ai}(I:Inv X pins σ H s)(k:∀b o,b∉fp->s.heap.get? b\o->h'.get? b\o)(hf:∀b∈fp,du X pins H b):Inv X pins σ H { s with heap:=h',toks:=t' }:=by
 have nf:∀b u,H b\u->b∉fp:=λb u e hb=>by rw[(hf b hb).1] at e;cases e
 apply I.step (g':=s.gens) (d':=s.drawn) (ch:=fp) (λb hb=>?_) (λb o _ _ hc e _=>k b o hc e) (λb o _ _ hc e _=>#[o.slots,k b o hc e]) (λb o _ e n=>n)
  (λb o hc e=>#[o,k b o hc e]) (λb ys e=>e) (λb o u e=>e) (λb ps e=>#[#[],by rw[Array.append_empty];exact e]) (λm hm=>?_) (λb u e=>?_) I.bare
 ·let#[f0,f1,f2,f3,f4,f5]:=hf b hb;exact#[f3,f1,f4,f5]
 ·let#[o,es,ep,ho,r]:=hm;exact#[o,es,ep,k _ o (λhb=>(hf _ hb).2.1 Z) ho,r]
 apply (I.aE b u e).eC (λc v hc q=>k c v ?_ q) (λ_ q=>q) λ_ _ q=>q;rcases hc with z|z
 ·rw[z];exact nf b u e
 exact nf c _ z
theorem i7_{P:Ad}{w:Af}{K:af}{elts:List Expr}{k:Nat}{pos:Pos}(a e it:Addr)(h1:e≠it)(h2:a≠e)(h3:a≠it):Turn P w K (.Tuple elts k pos) (Ed K a) [e,it] e (λi h=>(∃old,IsEnum h e it i old)/\h.IsListIter it a i) where
 mem:=by simp
 obj:=λi h st b hb=>by
  let#[#[old,q],o,e2,c,d]:=st;rcases cU.mp hb with rfl|hb
  ·exact#[_,q,λv z=>by cases z]
  obtain rfl:b=it:=⇑hb
  exact#[o,e2,λv z=>by rw[d] at z;cases z]
 keep:=λi h h' st kk=>by
  let#[#[old,q],eh]:=st;exact#[#[old,kk e Z2 _ q],eh.at λo q2=>kk it Z2 o q2]
 item:=by
  intro X hP hw hK hc i pins s σ H E I hf st hg;subst hP hw hK;let#[xs,x,hq,hx]:=hg;let#[its,rv,p,hz]:=I.list hq;let#[u,hu,ru]:=rv.get hx;let W:=WalksT.enumerate (prog:=X.prog) (w:=X.w) (A:=X.A) (I.ok.hd hc) e it a h1 h2 h3 its.toArray
  have hi:i<its.toArray.size:=by
   simp only[cq];exact (cw.mp hu).1
  let#[old,he]:=st.1;let hit:=st.2;apply wpAny_pyNext_enum_item he hit p.isList (x:=u) (by rw[List.getElem?_toArray];exact hu) h1 λh' ho Bx JV hsz hk=>?_;have Oc:e<s.heap.objs.size:=cK he;have N2:it<s.heap.objs.size:=by let#[_,x,_]:=hit;exact cK x
  have mid:(∃x,IsEnumOut h' e it ((i:Int)+1) x s.heap.objs.size)/\h'.IsListIter it a (i+1)/\h'.IsList a its.toArray/\s.heap.objs.size≠e/\s.heap.objs.size≠it:=#[#[_,ho],Bx,p.isList.at λo x=>hk a o h2 h3 x,wu Oc,wu N2];have kk:∀b o,b∉[e,it]->s.heap.get? b\o->h'.get? b\o:=λb o hb x=>hk b o (λe'=>hb (by simp[e'])) (λe'=>hb (by simp[e'])) x;have Nd:h'.IsTuple s.heap.objs.size (List.toArray [.int i s.toks,u]):=#[_,JV,Z,_,Z];obtain⟨T,eT⟩:∃T,T=s.heap.objs.size:=#[_,Z];obtain⟨t,et⟩:∃t,t=s.toks:=#[_,Z];obtain⟨tk,JE⟩:∃tk,tk=s.toks+1:=#[_,Z];rw[<- eT] at Nd mid JV ⊢;have hT:s.heap.objs.size<=T:=Nat.le_of_eq eT.symm;rw[<- et] at Nd JV;rw[<- JE];apply#[_,Z,W.go elts k pos i T { s with heap:=h',toks:=tk } _ _ mid λfV e_ M6=>?_];have nT:T∉[e,it]:=W.apart i T h' mid
  have Nc:fV.IsTuple T (List.toArray [.int i t,u]):=by
   let#[o,q,r]:=Nd;exact#[o,M6 T o nT q,r]
  have I1:Inv X pins σ (upd H T (.tup [.int i,x])) { s with heap:=fV,toks:=tk }:=I.oq (t':=tk) (fp:=[e,it]) (its:=[.int i t,u]) (λb o hb q=>M6 b o hb (kk b o hb q)) hf hT (zl) (.cons #[t,Z] (.cons ru .nil)) #[Nc,_,M6 T _ nT JV,Z];apply#[.ref T,_,I1,Z,#[T,x,Z,I.aE.fresh hT,λys hy=>by rw[I.fQ hy hq];exact hx,Z],#[?_,e_.2.1],λb hb=>?_]
  ·let#[old,q]:=e_.1;exact#[old,by simpa using q]
  rw[aA (λz:b=T=>nT (by rw[<- z];exact hb))];exact (hf b hb).1
 done:=by
  intro X hP hw hK hc i pins s σ H E I hf st hg;subst hP hw hK;let#[xs,hq,hx]:=hg;let#[its,rv,p,hz]:=I.list hq;let W:=WalksT.enumerate (prog:=X.prog) (w:=X.w) (A:=X.A) (I.ok.hd hc) e it a h1 h2 h3 its.toArray
  have hn:its.toArray.size=i:=by
   have:=rv.length;simp only[cq];omega
  apply W.done s _ _ (by rw[hn];exact#[st.1,st.2,p.isList]) λh' tk kk=>#[Z,I.i0 (t':=tk) (fp:=[e,it]) kk hf]
 self:=λA i s Q E st h=>by
  let#[old,q]:=st.1;exact wpAny_pyIter_enum q h
inductive um (K:af) (R:It->Hp->Prop) (vs:ag) (H1:Hp):Prop
 |mk:∀a,vs=[.ref a]->(∃xs,dW K H1 a xs)->R (Ed K a) H1->um K R vs H1
def FT(K:af)(ta:TA):TI:=λσ H R=>ta σ H λvs H1=>um K R vs H1
theorem Pt{X:Cx}{elts:List Expr}{kk:Nat}{p2:Pos}{a:Expr}{ta:TA}{p pos:Pos}(hg:Gl X "enumerate")(hm:X.mg "enumerate"=none)(ha:PA X [a] ta)(hs:starEach [a] X.env=[(false,eval a X.env)]:=by rfl):PI X (.Tuple elts kk p2) (.Call (.Name "enumerate" p) [a] [] pos) (FT X.K ta):=by
 intro pins s σ H R I h;apply Call_ (DK I hg hm boot_enumerate (PyProof.Rows.callWith_type1 (aR (ha pos pins s σ H _ I h) λus s1 ⟨vs,H1,I1,r1,q1⟩=>?_) hs Z));let#[l,e,#[xs,hq],q]:=q1;subst e;cases r1 with
 |cons r rr=>
  cases rr;cases r;let#[its,rv,pl,hz]:=I1.list hq;have ll:l<s1.heap.objs.size:=by let#[_,e,_]:=pl.isList;exact cK e
  apply call_enumerate_list pl.isList λh' he hi hn kp=>?_;apply wpAny_pyIter_enum he ?_;apply#[s1.heap.objs.size+1,[s1.heap.objs.size+1,s1.heap.objs.size],_,_,H1,Z,I1.kept (t':=s1.toks) kp,i7_ l _ _ (Nat.succ_ne_self _) (eJ (Nat.lt_succ_of_lt ll)) (eJ ll),#[#[_,he],hi],λb hb=>?_,q]
  have e:s1.heap.objs.size<=b:=by
   rcases cU.mp hb with rfl|hb
   ·exact Nat.le_succ _
   obtain rfl:b=s1.heap.objs.size:=⇑hb
   exact bo _
  exact I1.jd e (I1.aE.fresh e)
theorem V0{K:af}{a:Addr}{xs:ag}{g:TG}{tb:TS}{D:Ends}{σ:St}{H:Hp}(Pv:Nat->St->Hp->Prop)(h0:Pv 0 σ H)(hl:∀i σ H,i<=xs.length->Pv i σ H->dW K H a xs)
  (hs:∀i x σ H,xs[i]? = some x->Pv i σ H->∀t,H t=none->g (.ref t) σ (upd H t (.tup [.int i,x])) λg5 H2=>tb { D with nx:=Pv (i+1),ct:=Pv (i+1),bk:=D.nx } g5 H2) (hd:∀σ H,Pv xs.length σ H->D.nx σ H) :
  ∃W:Nat->Nat->St->Hp->Prop,(∃m,W 0 m σ H)/\∀i m σ H,W i m σ H->
   ((Ed K a).stop i H/\D.nx σ H)∨((Ed K a).go i H/\∃N:St->Hp->Prop,(∀bA H',N bA H'->∃m',m'<m/\W (i+1) m' bA H')/\∀x H',(Ed K a).yw i H x H'->g x σ H' λg5 H2=>tb { D with nx:=N,ct:=N,bk:=D.nx } g5 H2):=by
 apply#[λi m σ H=>m=xs.length - i/\i<=xs.length/\Pv i σ H,#[xs.length,by simp,gM _,h0],?_];rintro i m σ H ⟨rfl,hi,p⟩;let q:=hl i σ H hi p;by_cases dY:i<xs.length
 ·apply .inr #[#[xs,xs[i],q,by simp[dY]],Pv (i+1),λbA H' p'=>#[xs.length - (i+1),by omega,Z,dY,p'],λx H' y=>?_];let#[t,x,rfl,ht,y,rfl]:=y;exact hs i x σ H (y xs q) p t ht
 have e:i=xs.length:=by omega
 subst e;exact .inl #[#[xs,q,Z],hd σ H p]
theorem OF(a b c:Str):FM (.str a) [.str b,.str c]=(decide (b=a) || decide (c=a)):=by
 have e:∀x y:Str,mX (.str x) (.str y)=decide (x=y):=λx y=>by
  have:=Vj (a:=Sum.inr x) (b:=Sum.inr y) Z;rw[show mX (.str x) (.str y)=mX (kV (Sum.inr x)) (kV (Sum.inr y)) from Z,this];by_cases z:x=y
  ·simp[z]
  simp[z]
 unfold FM;simp only[List.any_cons,List.any_nil,Bool.or_false,e]
end L2
namespace L2
open PySem PySem.Spec PyProof.Rows
section
variable{M:Model}{A:Ag}{E:Aa->Ab->Prop}{s:Ab}{base:Heap}{env:Env}{outer:List Env}{L e:Addr}{cls cx fl:Aa}{Q:Unit->Ab->Prop}
end
end L2
namespace L2
open PySem PySem.Spec PyProof.Rows
theorem eI.here{P:Ad}{w:Af}{H:Hp}{h:Heap}{a:Addr}{o:HO}(x:eI P w H h a o):∃u,h.get? a\u:=by
 cases o with
 |lst xs=>let#[_,_,_,_,e]:=x;exact#[_,e]
 |tup xs=>let#[_,_,_,#[o,e,_],_]:=x;exact#[_,e]
 |dK kvs=>let#[_,_,_,_,o,_,_,e,_]:=x;exact#[_,e]
 |dT kvs=>let#[_,_,_,_,o,_,_,e,_]:=x;exact#[_,e]
 |set S n=>let#[o,_,_,_,e,_]:=x;exact#[_,e]
 |ins C dx fs=>let#[_,_,_,e,_]:=x;exact#[_,e]
 |own y=>exact x
 |xd fs=>let#[_,#[_,_,_,e,_],_]:=x;exact#[_,e]
 |rng lo hi=>let#[_,_,_,e]:=x;exact#[_,e]
 |frz ob u=>let#[e,_]:=x;exact#[_,e]
 |tbl ps=>exact#[_,show h.get? a\_ from x]
 |met f y=>exact#[_,show h.get? a\_ from x]
 |ext φ=>let#[_,e,_]:=x;exact e
def Ee(B:Heap)(l:List Env)(H:Hp)(h0 h:Heap):Prop:=
 ∀b o,h.get? b\o->b∉hY l->((H b).isSome=true∨∃o0,h0.get? b\o0)->B.get? b\o
section
variable{P:Ad}{w:Af}{H H':Hp}{B h0 h h1:Heap}{l:List Env}
theorem hZ_(aE:eL P w H' h)(fr:∀b∈hY l,H' b=none)(i:Ee B l H' h0 h)(st:B.StaysIn h1):eL P w H' h1:=λb o e=>
 (aE b o e).eC (λc u hc q=>by
  have hs:∃x,H' c\x:=by
   rcases hc with z|z
   ·exact#[o,z▸e]
   exact#[_,z]
  let#[x,hx]:=hs;exact st c u (i c u q (λm=>by rw[fr c m] at hx;cases hx) (.inl (by rw[hx];rfl)))) (λ_ q=>q) (λ_ _ q=>q)
theorem iY_(un:Un (hY l) [] H H' h0 h)(ff:h.FunFrames B l)(i:Ee B l H' h0 h)(st:B.StaysIn h1)(up:h.UpToSlots h1):Un (hY l) [] H H' h0 h1 where
 keep:=λb o q n hb hx=>st b o (i b o (un.keep b o q n hb hx) hb (.inr #[o,q]))
 slot:=λb o q n hb hx=>by
  let#[sl,e]:=un.slot b o q n hb hx;let#[_,o',e',d]:=ff.mem hb;rw[e] at e';cases e';let#[Ji,e2]:=up b _ e d;exact#[Ji,e2]
 free:=un.free
 there:=λb o q hx=>by
  let#[o',e]:=un.there b o q hx;by_cases hb:b∈hY l
  ·let#[_,o2,e',d]:=ff.mem hb;rw[e] at e';cases e';let#[Ji,e2]:=up b _ e d;exact#[_,e2]
  exact#[o',st b o' (i b o' e hb (.inr #[o,q]))]
 g6:=un.g6
 fY:=un.fY
 gN:=un.gN
theorem jj_(aE:eL P w H' h)(un:Un (hY l) [] H H' h0 h)(i:Ee B l H' h0 h)(st:B.StaysIn h1):Ee B l H' h0 h1:=λb o e hb c=>by
 have:∃u,h.get? b\u:=by
  rcases c with z|⟨o0,z⟩
  ·let#[x,hx]:=CC.mp z;exact (aE b x hx).here
  exact un.there b o0 z Z2
 let#[u,hu]:=this;let q:=i b u hu hb c;have:=st b u q;rw[e] at this;cases this;exact q
end
section
variable{X:Cx}{pins:List (Addr × Obj)}{σ:St}{H H':Hp}{s s1:Ab}{B h:Heap}{a:Addr}{cls a0:Aa}{E:XK}
theorem iF_(I:Inv X pins σ H s)(un:Un (hY X.stack) [] H H' s.heap h):∀b∈hY X.stack,H' b=none:=λb hb=>by
 let#[_,o,ho,_]:=I.stack.mem hb;exact un.free b o ho (I.i5 b hb) Z2
end
section
variable{P:Ad}{w:Af}{K:af}{mg:Str->Option Aa}{base:Heap}{N:ae}{qual:Str}{scope:Scope}{f:Addr}{cd:Aa}{A:Ag}{outer:List Env}{s:Ab}{H:Hp}{E:XK}
end
section
variable{X:Cx}{x:Str}{C:Addr}{bm:ak}{B newId Bf:String}{np cQ pos:Pos}{e₀:Expr}{t:TA}{E:XK}
end
section v
end
end L2
namespace L2
open PySem PySem.Spec PySem.Calls PyProof.Rows PySem.W Builtin Builtin.ObjectAttr Builtin.Getset_descriptor
structure RT (K:af) (C:Addr):Prop where
 cl:(clsIn K C).isSome=true
 ga:findIn K (.ref C) "__getattribute__"\some (.builtin "BaseException.__getattribute__")
 ha:findIn K (.ref C) "__getattr__"\none
 ca:findIn K (.ref C) "__class__"\some (.builtin "object.__class__")
 gt:specialIn K (.builtin "object.__class__") "__get__"\some (.builtin "getset_descriptor.__get__")
 tk:takesIn K (.builtin "object.__class__")\true
 mo:mroIn K C (.type "object")\true
 mb:mroIn K C (.type "BaseException")\true
section
variable{prog:Ad}{w:Af}{A:Ag}{E:Aa->Ab->Prop}{s:Ab}{K:af}{x C:Addr}
end
section
variable{X:Cx}
inductive yV (K:af) (xs:ag) (H:Hp) (Q:VK):Prop
 |mk:∀x C t b,xs=[x,.ref C]->fi K H x t->PySem.W.kitOne K t (.ref C)\b->Q (.bl b) H->yV K xs H Q
theorem hV_:gB X (.builtin "isinstance") (yV X.K):=by
 intro pins s σ H xs us Q I r h;let#[x,C,t,b,rfl,ty,e,q]:=h;let#[u,w',rfl,ru,mF]:=vals2 r;cases (show w'=Value.ref C from mF);exact V7 I ru ty e λtk=>#[.bl b,H,I.tok tk,Z,q]
end
end L2
namespace L2
open PySem PySem.Spec PyProof.Rows
section
variable{X:Cx}{pins:List (Addr × Obj)}{σ:St}{H:Hp}{s:Ab}{a:Addr}
end
section
variable{X:Cx}{st:Stmt}{e c:Expr}{te:XS->TE}{t u:XS->TS}{pos:Pos}{a b:List Stmt}{tc:TT}
end
section
variable{X:Cx}{k:Nat}{f C:Addr}{fd:Ae}{ps:ae}{sp:Sp}{gS:ag}{ds:ak}{ES:XS}{x m:Str}{p pos apos:Pos}{e o:Expr}{es:List Expr}{ta:TE}{t:TA}
end
section
variable{X:Cx}{i:Nat}{x n:Str}{D C:Addr}{np Bn pos:Pos}{Ck:Stmt}{rO body:List Stmt}{tb:XS->TS}{ts:TS}
end
end L2
namespace L2
open PySem
end L2
namespace Ev
open PySem L2
abbrev tJ:Stmt:=top 73
abbrev mC:Stmt:=top 74
abbrev tw:Stmt:=top 76
abbrev Mg:Stmt:=top 11
abbrev Px:Stmt:=top 32
abbrev lW:Stmt:=top 33
abbrev mD:Stmt:=top 68
abbrev Pw:Stmt:=top 69
abbrev Qr:Stmt:=top 70
abbrev Hj:Stmt:=top 71
abbrev PF:Stmt:=top 24
abbrev P4:Stmt:=top 25
abbrev Mf:Stmt:=top 12
abbrev sY:Stmt:=top 26
abbrev OY:Stmt:=top 27
abbrev Rj:Stmt:=top 64
abbrev KI:Stmt:=top 4
abbrev iF:Stmt:=top 35
abbrev Kh:Stmt:=top 36
abbrev tH:Stmt:=top 37
abbrev AY:Stmt:=top 38
abbrev AW:Stmt:=top 39
abbrev P2:Stmt:=top 40
abbrev Qp:Stmt:=top 41
abbrev Rh:Stmt:=top 42
abbrev H_:Stmt:=top 43
abbrev Qh:Stmt:=top 44
abbrev jX:Stmt:=top 45
abbrev Pz:Stmt:=top 47
abbrev QX:Stmt:=top 48
abbrev P7:Stmt:=top 49
abbrev Qj:Stmt:=top 46
abbrev PP:Stmt:=top 50
abbrev O6:Stmt:=top 34
abbrev lV:Stmt:=top 81
abbrev mq:Stmt:=top 75
abbrev sR:Stmt:=top 77
abbrev Pm:Stmt:=top 78
abbrev ma:Stmt:=top 79
abbrev sU:Stmt:=top 80
abbrev Py:Stmt:=top 82
abbrev mi:Stmt:=top 52
abbrev PJ:Stmt:=top 53
abbrev me:Stmt:=top 54
abbrev l_:Stmt:=top 28
abbrev l8:Stmt:=top 29
abbrev mj:Stmt:=top 56
abbrev s_:Stmt:=top 83
abbrev AX:Stmt:=top 88
abbrev tm:Stmt:=top 89
abbrev AZ:Stmt:=top 84
abbrev mh:Stmt:=top 85
abbrev A1:Stmt:=top 86
abbrev mr:Stmt:=top 87
abbrev g7:Stmt:=top 90
def aP(l:Addr)(H H':Hp):Prop:=∀b o,H b\o->b≠l->H' b\o
theorem aP.refl(l:Addr)(H:Hp):aP l H H:=λ_ _ e _=>e
theorem aP.trans{l:Addr}{H H1 H2:Hp}(h:aP l H H1)(h2:aP l H1 H2):aP l H H2:=λb o e n=>h2 b o (h b o e n) n
theorem aP.of{l:Addr}{H H1:Hp}(h:aa H H1):aP l H H1:=λb o e _=>h b o e
theorem aP.upd{l:Addr}{H:Hp}{o:HO}:aP l H (upd H l o):=λb u e n=>by rw[aA n];exact e
def ck(H:Hp)(l:Addr):Prop:=(∃n:Int,H l\.lst [.int n])∨∃n m c:Int,H l\.lst [.int n,.int m,.int c]
theorem ck.some{H:Hp}{l:Addr}(h:ck H l):∃xs,H l\.lst xs:=by
 rcases h with⟨n,e⟩|⟨n,m,c,e⟩
 ·exact#[_,e]
 exact#[_,e]
theorem aP.free{l b:Addr}{H H':Hp}(h:aP l H H')(s:ck H' l)(e:H' b=none):H b=none:=by
 cases z:H b with
 |none=>rfl
 |some o=>
  by_cases q:b=l
  ·subst q;let#[xs,e2]:=s.some;rw[e] at e2;cases e2
  rw[h b o z q] at e;cases e
theorem gC{α:Type}{xs:List α}{i:Int}(h0:0<=i)(h1:i<xs.length):fu xs i=xs[i.toNat]?:=by
 unfold fu xm;rw[aJ h0,aJ h1];rfl
section v
def wk:Sp:=λvs H Q _=>∃(l:Addr) (b:Int),vs=[.ref l,.int b]/\0<b/\b<1073741824/\ck H l/\∀r H',0<=r->r<b->aP l H H'->ck H' l->Q (.int r) H'
theorem small(x:Int):-(2 ^ 64)<x % 2147483647/\x % 2147483647<2 ^ 64:=by
 let h1:=Int.emod_nonneg x (b:=2147483647) (by decide);let h2:=Int.emod_lt_of_pos x (b:=2147483647) (by decide);exact#[by omega,by omega]
end
end Ev
namespace Ev
open PySem L2
theorem VP:(B0:Str).cps.toList=[97,98,99,100,101,102,103,104,105,106,107,108,109,110,111,112,113,114,115,116,117,118,119,120,121,122]:=by decide +kernel
theorem lD_{r:Int}(h0:0<=r)(h1:r<26):∃c,fu (B0:Str).cps.toList r\c/\j3 c=true:=by
 rw[VP,gC h0 ⇑h1];have hn:r.toNat<26:=by omega
 apply#[_,cE ⇑hn,?_];have all:∀c∈[97,98,99,100,101,102,103,104,105,106,107,108,109,110,111,112,113,114,115,116,117,118,119,120,121,122],j3 c=true:=by decide +kernel
 exact all _ (nU _)
end Ev
namespace Ev
open PySem L2
theorem xv{α:Type}{a b:α}{r:Int}(h0:0<=r)(h1:r<2):fu [a,b] r\a∨fu [a,b] r\b:=by
 have:r=0∨r=1:=by omega
 rcases this with rfl|rfl
 ·exact .inl Z
 exact .inr Z
section
theorem iS{K:af}{H H':Hp}{l:Addr}{ys:ag}{ks:List az}(t:bC K H ys ks)(b:aP l H H'){xs:ag}(hl:H l\.lst xs):bC K H' ys ks:=Paired.bF t λy k ⟨a,z,q⟩=>#[a,z,b _ _ q (bX q hl nofun)]
theorem Wc{K:af}{H:Hp}{D:Addr}{ns:ae}(h:H D\.lst (ns.map V.str)):rL K rS H (.ref D) ns:=#[D,_,Z,.of h,Iq ns]
end
end Ev
namespace Ev
open PySem L2
def kO(t:Str × Str):az:=kT (aU t.1 t.2)
structure TI (ns:ae) (k j:Nat) (ts:Xb):Prop where
 at':∀t∈ts,∃(a b:Nat) (x y:Str),b<a/\(a<k∨(a=k/\b<j))/\ns[a]? = some x/\ns[b]? = some y/\(t=(x,y)∨t=(y,x))
 nd:(ts.map kO).Nodup
 len:ts.length<=7 * k+j
theorem G4{a b:Str × Str}(h:kT a=kT b):a=b:=by
 unfold kT at h;let#[h1,h2]:=List.cons.inj h;let#[h2,_]:=List.cons.inj h2;exact Prod.ext (h9 h1) (h9 h2)
theorem Il{ns:ae}(nd:ns.Nodup){i j:Nat}{x:Str}(h:ns[i]? = some x)(h2:ns[j]? = some x):i=j:=by
 let#[hi,e1]:=cw.mp h;let#[hj,e2]:=cw.mp h2;exact (List.getElem_inj nd).mp (e1.trans e2.symm)
theorem lC_{a b c d:Str}(h:kO (a,b)=kO (c,d)):(a=c/\b=d)∨(a=d/\b=c):=by
 let h:=G4 h;dsimp only at h;rcases Km a b with e|e<;>rcases Km c d with e2|e2<;>rw[e,e2] at h<;>let h1:=(Prod.mk.inj h).1<;>let h2:=(Prod.mk.inj h).2
 ·exact .inl #[h1,h2]
 ·exact .inr #[h1,h2]
 ·exact .inr #[h2,h1]
 exact .inl #[h2,h1]
theorem ck.same{H H':Hp}{l:Addr}(h:ck H l)(s:aa H H'):ck H' l:=by
 rcases h with⟨n,e⟩|⟨n,m,c,e⟩
 ·exact .inl #[n,s _ _ e]
 exact .inr #[n,m,c,s _ _ e]
end Ev
namespace Ev
open PySem L2
theorem hr_{a b:Str}(h:Bb a b=true):Bb b a=false:=Wm (a:=Sum.inr a) (b:=Sum.inr b) h
theorem jW_{a b:Str}(h:Bb a b=false)(h2:Bb b a=false):a=b:=h9 (U_ (a:=Sum.inr a) (b:=Sum.inr b) h h2)
theorem WL(a b:Str):aU a b=aU b a:=by
 unfold aU;by_cases h:Bb a b=true
 ·rw[aJ h,aB (by rw[hr_ h];decide)]
 by_cases h2:Bb b a=true
 ·rw[aB h,aJ h2]
 have:=jW_ ⇑h ⇑h2;subst this;rw[aB h]
theorem WB{ts:Xb}{x:Str × Str}:x∈aM ts ↔ ∃t∈ts,aU t.1 t.2=x:=by
 have e:kT x∈(aM ts).map kT ↔ x∈aM ts:=#[λh=>by
  let#[y,hy,e]:=bG.mp h;rw[<- G4 e];exact hy,λh=>bG.mpr #[x,h,Z]]
 rw[<- e,KW,(nO _).mem_iff,bG];exact#[λ⟨t,ht,q⟩=>#[t,ht,G4 q],λ⟨t,ht,q⟩=>#[t,ht,by rw[q]]]
theorem kx_(a b:Str):kO (a,b)=kO (b,a):=by
 show kT (aU a b)=kT (aU b a);rw[WL]
end Ev
namespace Ev
open PySem L2
section v
theorem AS:bx pQ pQ (aX tJ):=bE
def r_(K:af):Sp:=λvs H Q _=>∃(l:Addr) (ns:List Int) (k:Int),vs=[.ref l,.int k]/\0<=k/\dW K H l (ns.map V.int)/\∀n,Q (.int n) H
theorem ko_{f:Addr}{fd:Ae}(F:bj K "_law_cell_at" "_law_cell_at" tJ f fd)(B:Bi mg):!aq a9 1 f fd pQ (r_ K):=by
 exists F.bL AS;let#[l,ns,i,rfl,h0,hl,k]:=h;apply#[_,ax (bO (dj lR_ (pv 1) (cy iL (by rfl) B.len ia %[0|0])) (aH (bg (bM gL (pv 0) (pv 1)))) bP) (aH (bg aC)),?_];apply#[_,Z,_,Z,l,_,Z,.inl hl,_,_,Z,Z,_,Z,?_];apply aN (λc=>?_) (λc=>?_)
 ·have c:i<(ns.map V.int).length:=⇑c
  have e:fu (ns.map V.int) i\.int (ns[i.toNat]'(by rw[ay] at c;omega)):=by
   rw[gC h0 c,dU,cE (by rw[ay] at c;omega)];rfl
  exact#[_,Z,_,Z,l,_,_,_,Z,Z,hl,e,k _]
 exact k 0
theorem Hh:bx [gA,"_law_base","_law_cell","_law_found","_law_number"] uR (aX mC):=bE
theorem E8{n:Int}(b:Bool):∃m:Int,fu [V.int 0,V.int n] (if b then 1 else 0)\.int m:=by
 cases b
 ·exact#[0,Z]
 exact#[n,Z]
theorem iy_{f:Addr}{fd:Ae}(F:bj K qF qF mC f fd)(B:Bi mg):!aq a9 1 f fd uR wk:=by
 exists F.bL Hh;let#[l,b,rfl,h0,h1,st,k]:=h
 apply#[_,ax (bO (dj iy (cy iL (by rfl) B.len ia %[0|0]) aC)
   (ax (bq 2 Hh.nd (bM gL (pv 0) aC))
   (ax (DM (bM gL (eB %[aC,2|0]) (iK Wr (by rfl) B.int GY %[qp Tt (pv 2) (bN T5 aC aC)|0])) (OM (pv 0) aC P5))
   (aH (jH (km k7 DV DW D0 (pv 0) %[eB %[bN uX (pv 2) aC,aC|0]|0]))))) bP)
  (ax (bO (dj B6 (bM gL (pv 0) aC) aC)
   (ax (bq 3 Hh.nd (bN uX (bM gL (pv 0) aC) (pv 1)))
   (ax (DM (bN zY (bM gL (pv 0) aC) (pv 1)) (OM (pv 0) aC P5))
   (aH (bg (pv 3))))) bP)
  (ax (DM (bN gX (bM gL (pv 0) aC) aC) (OM (pv 0) aC P5))
  (ax (bq 4 Hh.nd (bN uX (bN qm (bN gX (bN gX (bM gL (pv 0) aC) (bN qm aC (bM gL (pv 0) aC))) aC) aC) aC))
  (ax (bq 4 Hh.nd (bN uX (bN qm (pv 4) (bN gX (bN zY (pv 4) aC) aC)) aC))
  (aH (bg (bN uX (bN uX (bN qm (pv 4) (bN gX (bN zY (pv 4) aC) aC)) aC) (pv 1)))))))),?_]
 rcases st with⟨n,vN⟩|⟨n,m,c,hl⟩
 case' inl=>
  apply#[_,Z,l,_,Z,.inl (.of vN),Z,_,Z,dD ?_];apply#[_,Z,l,_,_,_,Z,Z,.of vN,Z,?_];apply#[_,Z,zl,λp hp=>?_];have lp:l≠p:=bw vN hp;apply#[_,Z,_,_,Z,Z,#[by decide,by decide,by decide],_,_,Z,Z,.inr #[_,Z,?_]];let#[n',vL]:=E8 (n:=n) (decide ((10:Int) ^ (18:Int).toNat<=n));apply#[p,_,_,_,Z,Z,.of au,vL,?_];apply#[_,Z,l,_,_,0,Z,Z,by rw[aA lp];exact vN,Z,?_];have fS:(upd (upd H p (.lst [.int 0,.int n])) l (.lst ([V.int n].set 0 (.int n')))) l\.lst [.int n']:=au;have XM:aP l H (upd (upd H p (.lst [.int 0,.int n])) l (.lst ([V.int n].set 0 (.int n')))):=(aP.of (aa.new hp)).trans aP.upd;generalize (upd (upd H p (.lst [.int 0,.int n])) l (.lst ([V.int n].set 0 (.int n'))))=Ha at fS XM ⊢;apply#[_,Z,.inl #[Z,_,.of fS],_,Z,_,_,Z,Z,by show (0:Int)<2147483647;decide,zl,λq hq=>?_];apply#[l,q,_,_,Z,Z,aa.new hq _ _ fS,au,by show 1+2<=sizeLine;decide,?_];have bt:aP l H (upd (upd Ha q (.lst [.int (n % 2147483647),.int 0])) l (.lst ([.int n']++[.int (n % 2147483647),.int 0]))):=XM.trans ((aP.of (aa.new hq)).trans aP.upd);have hl:(upd (upd Ha q (.lst [.int (n % 2147483647),.int 0])) l (.lst ([.int n']++[.int (n % 2147483647),.int 0]))) l\.lst [.int n',.int (n % 2147483647),.int 0]:=au;generalize (upd (upd Ha q (.lst [.int (n % 2147483647),.int 0])) l (.lst ([.int n']++[.int (n % 2147483647),.int 0])))=H1 at bt hl ⊢
 case' inr=>
  apply#[_,Z,l,_,Z,.inl (.of hl),Z,_,Z,a_ ?_];let bt:=aP.refl l H
 all_goals
  apply#[_,Z,l,_,_,_,Z,Z,.of hl,Z,_,_,Z,Z,_,Z,?_];apply aN (λc=>?_) (λc=>?_)
  ·apply#[_,Z,l,_,_,_,Z,Z,.of hl,Z,_,Z,_,_,Z,Z,h0,?_];apply#[_,Z,l,_,_,_,Z,Z,.of hl,Z,_,Z,_,_,Z,Z,#[h0,h1],_,Z,l,_,_,0,Z,Z,hl,Z,?_];exact#[_,Z,k _ _ (Int.emod_nonneg _ Z1) (Int.emod_lt_of_pos _ h0) (bt.trans aP.upd) (.inr #[_,_,_,au])]
  apply#[_,Z,l,_,_,_,Z,Z,.of hl,Z,_,_,Z,Z,_,Z,l,_,_,2,Z,Z,hl,Z,?_];apply#[_,Z,l,_,_,_,Z,Z,.of au,Z,_,Z,l,_,_,_,Z,Z,.of au,Z,_,_,Z,Z,.inl #[by decide,by decide],_,_,Z,Z,_,_,Z,Z,_,_,Z,Z,.inr #[by decide,by decide],_,_,Z,Z,by show (0:Int)<2147483647;decide,?_];apply#[_,Z,_,Z,_,_,Z,Z,#[by decide,by decide],_,_,Z,Z,_,_,Z,Z,.inl (small _),_,_,Z,Z,by show (0:Int)<2147483647;decide,?_];apply#[_,Z,_,Z,_,_,Z,Z,#[by decide,by decide],_,_,Z,Z,_,_,Z,Z,.inl (small _),_,_,Z,Z,by show (0:Int)<2147483399;decide,_,Z,_,_,Z,Z,h0,?_];exact k _ _ (Int.emod_nonneg _ Z1) (Int.emod_lt_of_pos _ h0) (bt.trans aP.upd) (.inr #[_,_,_,au])
end
end Ev
namespace Ev
open PySem L2
def qX:ae:=["hand","tie","piece","yard","free","fixed","none","tick","come","go","rest","run","show","ok"]
structure Nm (m:Nat) (ns:ae):Prop where
 len:ns.length=m
 nd:ns.Nodup
 ok:∀n∈ns,iJ n=true
 end_:∀n∈ns,n∈qX∨∃k,k<m/\n.cps.toList.getLast? = some (97+k % 26)
theorem iI_(ns:ae)(k:Nat)(h:k<=ns.length):dS (ns.map V.str) (some (k:Int)) none=(ns.drop k).map V.str:=by
 unfold dS;rw[HT.i8,HT.g8,ay,Nat.min_eq_left h,List.map_drop,ym];rw[Ac,ay];omega
def Tl(m k:Nat)(n:Str):Prop:=iJ n=true/\∃w:List Nat,n.cps.toList=w++(if 26<m then [97+k / 26] else [])++[97+k % 26]
theorem ld_{m i j:Nat}{n:Str}(hm:m<=676)(hi:i<m)(hj:j<m)(a:Tl m i n)(b:Tl m j n):i=j:=by
 let#[_,w1,e1]:=a;let#[_,w2,e2]:=b;rw[e1] at e2;let l:=dF List.getLast? e2;rw[List.getLast?_append,List.getLast?_append] at l;simp at l;by_cases h:26<m
 ·rw[aJ h,aJ h] at e2;let z:=List.append_inj' e2 Z;let z2:=List.append_inj' z.1 Z;have:=(List.cons.inj z2.2).1;omega
 omega
theorem iZ_{m:Nat}{ns:ae}(hm:m<=676)(hl:ns.length=m)(h:∀k n,ns[k]? = some n->Tl m k n):Nm m ns:=by
 apply#[hl,?_,λn hn=>?_,λn hn=>?_]
 ·rw[pL,List.pairwise_iff_getElem];intro i j hi hj lt e;let a:=h i _ (cE hi);let b:=h j _ (cE hj);rw[e] at a;have:=ld_ hm Z1 Z1 a b;omega
 ·let#[k,hk,e]:=ku hn;exact (h k n (by rw[cE hk,e])).1
 let#[k,hk,e]:=ku hn;let#[_,w,e2]:=h k n (by rw[cE hk,e]);apply .inr #[k,by omega,?_];rw[e2,List.getLast?_append];rfl
theorem U4{q:Nat}(h:q<26):fu (B0:Str).cps.toList (q:Int)\(97+q):=by
 rw[VP,gC Z1 (by show (q:Int)<((26:Nat):Int);omega),ve];have all:∀i:Fin 26,[97,98,99,100,101,102,103,104,105,106,107,108,109,110,111,112,113,114,115,116,117,118,119,120,121,122][i.val]? = some (97+i.val):=by decide +kernel
 exact all #[q,h]
theorem Ld(x:Str)(c:Nat):(x++(⟨(List.toArray [c])⟩:Str)).cps.toList=x.cps.toList++[c]:=PySem.W.KT.app_list _ _
theorem D3(x:Str):x.length=x.cps.toList.length:=by rw[qS];rfl
theorem U1{q:Nat}(h:q<26):j3 (97+q)=true:=by
 unfold j3;rw[cb Z1,cb Z1];rfl
section v
theorem zX:bx [gA,"_law_many","_law_letters",BR,"_law_k","_law_word","_law_j"] zL (aX mq):=bE
def KH:Sp:=λvs H Q _=>∃(l:Addr) (m:Nat),vs=[.ref l,.int m]/\m<=30/\ck H l/\∀(a:Addr) (ns:ae) (H':Hp),aP l H H'->ck H' l->H a=none->H' a\.lst (ns.map V.str)->Nm m ns->Q (.ref a) H'
theorem ig_{f:Addr}{fd:Ae}(F:bj K "_law_names" "_law_names" mq f fd)(B:Bi mg)(cD:!aY 1 qF uR wk):!aq a9 2 f fd zL KH:=by
 exists F.bL zX;let#[l,m,rfl,Fw,st,k]:=h;let sz:=cn;refine' #[_,?u0,?kk]
 case' u0=>refine' ax ?u1 ?u2
 case u1=>exact bq 2 zX.nd dI
 case' u2=>refine' ax ?Zl ?Zk
 case Zl=>exact bq 3 zX.nd (eB bh)
 case' Zk=>refine' ax ?Zj ?Zi
 case' Zj=>refine' eX ?Zh ?Zg ?Zf ?Ze ?Zd
 case Zh=>exact eM
 case Zg=>exact Z
 case Zf=>exact Cn (by rfl) B.range %[1|0]
 case Ze=>exact cO 4 zX.nd
 case' Zd=>refine' ax ?Zc ?Zb
 case Zc=>exact bq 5 zX.nd dI
 case' Zb=>refine' ax ?Za ?Y_
 case' Za=>refine' eX ?Y9 ?Y8 ?Y7 ?Y6 ?Sj
 case Y9=>exact eM
 case Y8=>exact Z
 case' Y7=>refine' Cn ?Y5 ?Y4 ?Y3
 case Y5=>exact by rfl
 case Y4=>exact B.range
 case Y3=>exact eU (aQ cD hr %[0,bN zO aC (bN zY (pv 1) aC)|0]) bh
 case Y6=>exact cO 6 zX.nd
 case' Sj=>refine' aH ?Y2
 first|(case' Y2=>refine' DP (i:=5) ?Si ?Sh ?Sg ?Sf)|(case' Sj=>refine' DP (i:=5) ?Si ?Sh ?Sg ?Sf)
 case Si=>exact zX.nd
 case Sh=>exact Z
 case Sg=>exact Or.inl Z
 case Sf=>exact bN Qv (pv 5) (bM OP (pv 2) (aQ cD hr %[0,aC|0]))
 case' Y_=>refine' ax ?Y1 ?Se
 case' Y1=>refine' bO ?Y0 ?Sd ?YZ
 case Y0=>exact dj B6 (pv 1) aC
 case' Sd=>refine' aH ?YY
 first|(case' YY=>refine' DP (i:=5) ?Sb ?Sa ?R_ ?R9)|(case' Sd=>refine' DP (i:=5) ?Sb ?Sa ?R_ ?R9)
 case Sb=>exact zX.nd
 case Sa=>exact Z
 case R_=>exact Or.inl Z
 case R9=>exact bN Qv (pv 5) (bM OP (pv 2) (bN zY (pv 4) aC))
 case YZ=>exact bP
 case' Se=>refine' aH ?R8
 first|(case' R8=>refine' jH ?R7)|(case' Se=>refine' jH ?R7)
 first|(case' R7=>refine' km ?R6 ?R5 ?R4 ?R0 ?RZ ?RY)|(case' R8=>refine' km ?R6 ?R5 ?R4 ?R0 ?RZ ?RY)
 case R6=>exact k7
 case R5=>exact wc
 case R4=>exact wd
 case R0=>exact u_
 case RZ=>exact pv 3
 case RY=>exact eU (bN Qv (pv 5) (bM OP (pv 2) (bN uX (pv 4) aC))) bh
 case Zi=>exact aH (bg (pv 3))
 generalize hH:H=H1;have b1:aP l H H1:=by rw[hH];exact aP.refl l H1
 have fo:ck H1 l:=by rw[<- hH];exact st
 rw[<- hH] at b1;have b1:aP l H H1:=by rw[hH];exact aP.refl l H1
 all_goals
  apply#[zl,λa ha=>?_];let s2:=aa.new (o:=.lst []) ha;have b0:aP l H H1:=b1;have GG:H a=none:=b0.free fo ha
  have j_:l≠a:=by
   let#[xs,e]:=fo.some;exact bw e ha
  apply#[_,Z,_,Z,by show (-(2 ^ 62):Int)<=(m:Int);omega,by show (m:Int)<(2 ^ 62:Int);omega,?_]
  apply D4 (lo:=0) (n:=(m:Int).toNat) (λi σ H2=>∃(v6 v7 v8:aL) (ns:ae),σ=[some (.ref l),some (.int m),some (.str B0),some (.ref a),v6,v7,v8]/\aP l H H2/\ck H2 l/\H2 a\.lst (ns.map V.str)/\ns.length=i/\∀k n,ns[k]? = some n->Tl m k n)
   #[_,_,_,[],Z,b0.trans (aP.of s2),fo.same s2,au,Z,λk n e=>by simp at e] ?_ ?_
  ·rintro i σ H2 hi ⟨v6,v7,v8,ns,rfl,b2,eh,kY,ln,tl⟩;rw[wo];have hi:i<m:=by omega
   apply#[_,Z,_,Z,_,_,Z,Z,#[by decide,by decide],_,_,Z,Z,l,8 - (m:Int) / 27,Z,by omega,by omega,eh,λr H3 r0 rb b3 iO=>#[_,Z,by show (-(2 ^ 62):Int)<=r;omega,by show r<(2 ^ 62:Int);omega,?_]]
   apply D4 (lo:=0) (n:=r.toNat) (λj σ H4=>∃(x:Str) (v8:aL),σ=[some (.ref l),some (.int m),some (.str B0),some (.ref a),some (.int i),some (.str x),v8]/\aP l H H4/\ck H4 l/\H4 a\.lst (ns.map V.str)/\x.length=j/\x.cps.toList.all j3=true)
    #["",_,Z,b2.trans b3,iO,b3 _ _ kY j_.symm,Z,Z] ?_ ?_
   ·rintro j σ H4 hj ⟨x,v8,rfl,b4,gI,uB,hx,ho⟩;apply#[_,Z,_,Z,_,Z,l,26,Z,by decide,by decide,gI,λq H5 q0 _p b5 gP=>?_];let#[c,hc,oc]:=lD_ q0 _p;apply#[_,_,_,Z,Z,by decide +kernel,hc,_,_,Z,Z,?_,_,_,Z,b4.trans b5,gP,b5 _ _ uB j_.symm,?_,?_]
    ·have:(⟨(List.toArray [c])⟩:Str).length=1:=rfl;omega
    ·rw[D3,Ld,fA,<- D3,hx];rfl
    rw[Ld,List.all_append,ho];simp[oc]
   rintro σ H4 ⟨x,v8,rfl,b4,gI,uB,hx,ho⟩;apply#[_,Z,_,_,Z,Z,_,Z,?_];apply aN (λc3=>?_) (λc3=>?_)
   have c3:26<m:=by
    have:(26:Int)<(m:Int):=⇑c3
    omega
   have JT:fu (B0:Str).cps.toList ((i:Int) / 26)\(97+i / 26):=by
    have:=U4 (q:=i / 26) Z1;rw[<- this];congr 1
   apply#[_,Z,_,Z,_,Z,_,_,Z,Z,#[by decide,by decide],_,_,_,Z,Z,by decide +kernel,JT,_,_,Z,Z,by show x.length+1<=sizeLine;omega,?_];have ex:(x++(⟨(List.toArray [97+i / 26])⟩:Str)).cps.toList=x.cps.toList++(if 26<m then [97+i / 26] else []):=by rw[aJ c3];exact Ld _ _
   generalize x++(⟨(List.toArray [97+i / 26])⟩:Str)=x' at ex ⊢;rotate_left 1
   have c3:¬26<m:=by
    have:¬(26:Int)<(m:Int):=⇑c3
    omega
   have ex:x.cps.toList=x.cps.toList++(if 26<m then [97+i / 26] else []):=by rw[aB c3,Al]
   obtain⟨x',C_⟩:∃x':Str,x'=x:=#[_,Z];rw[<- C_];have ex:x'.cps.toList=x.cps.toList++(if 26<m then [97+i / 26] else []):=by rw[C_];exact ex
   all_goals
    have hc4:fu (B0:Str).cps.toList ((i:Int) % 26)\(97+i % 26):=by
     have:=U4 (q:=i % 26) (Nat.mod_lt _ (by decide));rw[<- this];congr 1
    have lx:x'.length<=7:=by
     rw[D3,ex,fA,<- D3,hx];by_cases hm:26<m
     ·rw[aJ hm];show r.toNat+1<=7;omega
     rw[aB hm];show r.toNat+0<=7;omega
    apply#[_,Z,.inl #[Z,_,.of uB],_,Z,_,Z,_,Z,_,_,Z,Z,by show (0:Int)<26;decide,_,_,_,Z,Z,by decide +kernel,hc4,_,_,Z,Z,?_,a,_,_,Z,Z,uB,?_,?_]
    ·have:(⟨(List.toArray [97+i % 26])⟩:Str).length=1:=rfl;omega
    ·rw[ay];omega
    apply#[_,_,_,ns++[x'++(⟨(List.toArray [97+i % 26])⟩:Str)],Z,λb o e ne=>?_,?_,?_,?_,λkk n hn=>?_]
    ·rw[aA (bw e GG)];exact b4 _ _ e ne
    ·unfold ck;rw[aA j_];exact gI
    ·rw[au,cu];rfl
    ·rw[fA,ln];rfl
    by_cases hk:kk<ns.length
    ·rw[CD hk] at hn;exact tl kk n hn
    have zv:kk=i:=by
     have:=(cw.mp hn).1;rw[fA] at this;simp only[CB] at this;omega
    subst zv;rw[Ak Z1,ln,Nat.sub_self] at hn;have hn:x'++(⟨(List.toArray [97+kk % 26])⟩:Str)=n:=⇑hn
    subst hn;have ey:(x'++(⟨(List.toArray [97+kk % 26])⟩:Str)).cps.toList=x'.cps.toList++[97+kk % 26]:=Ld _ _;apply#[?_,x.cps.toList,by rw[ey,ex]];unfold iJ;rw[D3,ey,fA,<- D3,cb (by show 1<=x'.length+1;omega),cb (by show x'.length+1<=8;omega),List.all_append,ex,List.all_append,ho];have o1:([97+kk % 26]:List Nat).all j3=true:=by simp[U1 (Nat.mod_lt kk (show 0<26 by decide))]
    have o2:(if 26<m then [97+kk / 26] else ([]:List Nat)).all j3=true:=by
     by_cases hm:26<m
     ·rw[aJ hm];simp[U1 (show kk / 26<26 by omega)]
     rw[aB hm];rfl
    rw[o1,o2];rfl
  rintro σ H2 ⟨v6,v7,v8,ns,rfl,b2,eh,kY,ln,tl⟩;exact#[_,Z,k a ns H2 b2 eh GG kY (iZ_ Z1 Z1 tl)]
end
end Ev
namespace Ev
open PySem L2
theorem IE(ys:ag)(k:Nat):dS ys none (some (k:Int))=ys.take k:=by
 unfold dS;rw[HT.g8,HT.i8,List.drop_zero,Nat.sub_zero];by_cases h:k<=ys.length
 ·rw[Nat.min_eq_left h]
 rw[Nat.min_eq_right Z1,ym (bo _),ym Z1]
theorem Ww(ys:ag)(k:Nat):dS ys (some (k:Int)) none=ys.drop k:=by
 unfold dS;rw[HT.i8,HT.g8];by_cases h:k<=ys.length
 ·rw[Nat.min_eq_left h,ym (by rw[Ac];omega)]
 rw[Nat.min_eq_right Z1,List.drop_eq_nil_of_le (bo _),List.drop_eq_nil_of_le Z1,List.take_nil]
theorem Lf{α β:Type}{F:α->β->Prop}:∀{ys:List α} {ks:List β} (n:Nat),Paired F ys ks->Paired F (ys.take n) (ks.take n)
 |_,_,0,_=>.nil
 |_,_,_+1,.nil=>.nil
 |_,_,n+1,.cons a t=>.cons a (Lf n t)
theorem Rw{α β:Type}{F:α->β->Prop}:∀{ys:List α} {ks:List β} (n:Nat),Paired F ys ks->Paired F (ys.drop n) (ks.drop n)
 |_,_,0,h=>h
 |_,_,_+1,.nil=>.nil
 |_,_,n+1,.cons _ t=>Rw n t
theorem jG{α β:Type}{F:α->β->Prop}:∀{ys Ao:List α} {ks uf:List β},Paired F ys ks->Paired F Ao uf->Paired F (ys++Ao) (ks++uf)
 |_,_,_,_,.nil,h=>h
 |_,_,_,_,.cons a t,h=>.cons a (jG t h)
theorem VZ{α:Type}(l:List α)(t:Nat):(l.drop t++l.take t).Perm l:=List.perm_append_comm.trans (by rw[List.take_append_drop])
theorem Gu{α:Type}{p:α->Prop}{a b c:α}{r:Int}(h0:0<=r)(h1:r<3)(ha:p a)(hb:p b)(hc:p c):∃x,fu [a,b,c] r\x/\p x:=by
 have:r=0∨r=1∨r=2:=by omega
 rcases this with rfl|rfl|rfl
 ·exact#[_,Z,ha]
 ·exact#[_,Z,hb]
 exact#[_,Z,hc]
structure TJ (ns:ae) (k q:Nat) (ts:Xb):Prop where
 at':∀t∈ts,∃(a b:Nat) (x y:Str),a<b/\(a<k∨(a=k/\b<k+1+q))/\ns[a]? = some x/\ns[b]? = some y/\(t=(x,y)∨t=(y,x))
 nd:(ts.map kO).Nodup
 len:ts.length<=7 * k+q
theorem TJ.skip{ns:ae}{k j:Nat}{ts:Xb}(h:TJ ns k j ts):TJ ns k (j+1) ts:=
 #[λt ht=>let #[a,b,x,y,h1,h2,h3,h4,h5]:=h.at' t ht;#[a,b,x,y,h1,by omega,h3,h4,h5],h.nd,by have:=h.len;omega]
theorem TJ.next{ns:ae}{k q:Nat}{ts:Xb}(h:TJ ns k q ts)(h7:q<=7):TJ ns (k+1) 0 ts:=
 #[λt ht=>let #[a,b,x,y,h1,h2,h3,h4,h5]:=h.at' t ht;#[a,b,x,y,h1,by omega,h3,h4,h5],h.nd,by have:=h.len;omega]
theorem TJ.add{ns:ae}{k q:Nat}{ts:Xb}(h:TJ ns k q ts)(nd:ns.Nodup){x y:Str}{t:Str × Str}(hx:ns[k]? = some x)(hy:ns[k+1+q]? = some y)(ht:t=(x,y)∨t=(y,x)):TJ ns k (q+1) (ts++[t]):=by
 apply#[λu hu=>?_,?_,by have:=h.len;rw[fA];simp only[CB];omega]
 ·rcases fL.mp hu with hu|hu
  ·exact h.skip.at' u hu
  obtain rfl:u=t:=⇑hu
  exact#[k,k+1+q,x,y,by omega,.inr #[Z,by omega],hx,hy,ht]
 rw[cu];apply Vf h.nd λm=>?_;let#[u,hu,e]:=bG.mp m;let#[a,b,c,d,h1,h2,h3,h4,h5]:=h.at' u hu
 have key:(c=x/\d=y)∨(c=y/\d=x):=by
  rcases h5 with rfl|rfl<;>rcases ht with rfl|rfl<;>rcases lC_ e with⟨q1,q2⟩|⟨q1,q2⟩<;>simp_all
 rcases key with⟨rfl,rfl⟩|⟨rfl,rfl⟩
 ·have:=Il nd h3 hx;have:=Il nd h4 hy;omega
 have:=Il nd h3 hy;have:=Il nd h4 hx;omega
theorem TJ.good{ns:ae}{k j:Nat}{ts:Xb}(h:TJ ns k j ts)(nd:ns.Nodup)(ok:∀n∈ns,iJ n=true):∀t∈ts,zM t/\t.1∈ns/\t.2∈ns:=λt ht=>by
 let#[a,b,x,y,h1,h2,h3,h4,h5]:=h.at' t ht;let mx:=dA h3;let my:=dA h4
 have ne:x≠y:=λe=>by
  subst e;have:=Il nd h3 h4;omega
 rcases h5 with rfl|rfl
 ·exact#[#[ok _ mx,ok _ my,ne],mx,my]
 exact#[#[ok _ my,ok _ mx,ne.symm],my,mx]
def IV(m:Nat)(n:Str):Prop:=n∈qX∨∃k,k<m/\n.cps.toList.getLast? = some (97+k % 26)
section v
theorem xT:bx [gA,uN,BR,"_law_hands","_law_thin","_law_ties","_law_k","_law_one","_law_other","_law_turn"] [gA,uN] (aX tw):=bE
def rV(K:af):Sp:=λvs H Q _=>∃(l:Addr),vs=[.ref l,.int 4]/\ck H l/\∀(t lh lt:Addr) (ys zs:ag) (hs:Xa) (ts:Xb) (H':Hp),aP l H H'->ck H' l->H' t\.tup [.ref lh,.ref lt]->H lh=none->H lt=none->lh≠lt->
 H' lh\.lst ys->bC K H' ys (hs.map kH)->H' lt\.lst zs->bC K H' zs (ts.map kT)->Good hs ts->(∀n∈hs.map (·.1),IV 8 n)->Q (.ref t) H'
theorem kw_{f:Addr}{fd:Ae}(F:bj K "_law_web" "_law_web" tw f fd)(B:Bi mg)(cD:!aY 1 qF uR wk)(cN:!aY 2 "_law_names" zL KH):!aq a9 3 f fd [gA,uN] (rV K):=by
 exists F.bL xT;let#[l,rfl,st,k]:=h;let sz:=cn
 refine' #[_,ax (bq 2 xT.nd (aQ cN hr %[0,bN gX aC (aQ cD hr %[0,1|0])|0]))
  (ax (HU (i:=3) pV 1 [0] xT.nd Z (Or.inl Z) (d5 (pv 2)) (λfp s H=>eW (i:=0) (show (pV:ae).Nodup by decide +kernel) Z (Or.inl Z)) (λfp s H=>ij)
   (λfp s H=>?he))
  (ax (bq 4 xT.nd (bN gX aC (aQ cD hr %[0,aC|0])))
  (ax (bq 5 xT.nd (eB bh))
  (ax (eX eM Z (Pt (by rfl) B.enum %[2|0]) (pJ Z (d6 (cO 6 xT.nd) (d6 (cO 7 xT.nd) jI)))
   (aH (eX eM Z (d5 (uY yf (pv 2) (uV (bN gX (pv 6) aC)) uU)) (cO 8 xT.nd)
    (aH (bO (dj iy (aQ cD hr %[0,4|0]) aC)
     (aH (jH (km k7 wc wd u_ (pv 5) %[bM gL (eB %[fB %[7,8|0],fB %[8,7|0]|0]) (aQ cD hr %[0,aC|0])|0])))
     bP)))))
  (ax (bq 9 xT.nd (aQ cD hr %[0,cy iL (by rfl) B.len ia %[3|0]|0]))
  (aH (bg (fB %[bN GV (uY yf (pv 3) (uV (pv 9)) uU) (uY yf (pv 3) uU (uV (pv 9))),5|0])))))))),?_]
 case he=>exact fB %[0,bN gX aC (aQ cD hr %[1,bM (vJ (K:=K) mJ gL) (eB %[aC,aC,aC|0]) (aQ cD hr %[1,aC|0])|0])|0]
 apply#[_,Z,_,Z,_,Z,l,4,Z,by decide,by decide,st,λr H1 r0 r8 b1 fo=>#[_,_,Z,Z,?_]];let#[r,rfl]:=qT r0;apply#[l,1+r,by show [V.ref l,V.int (1+(r:Int))]=[V.ref l,V.int ((1+r:Nat):Int)];rw[Int.natCast_add];rfl,by omega,fo,λln ns H2 b2 eh fn zu N=>?_];have n8:ns.length<=8:=by rw[N.len];omega
 have n1:1<=ns.length:=by rw[N.len];omega
 have vI:ln≠l:=λe=>by
  subst e;let#[xs,e2]:=fo.some;rw[fn] at e2;cases e2
 apply#[_,Z,ln,Z,#[_,.of zu],λue qf=>?_]
 have qc:ue≠l:=by
  let#[xs,e]:=eh.some;exact (bw e qf).symm
 apply jK (own:=1) (fv:=[some (.ref l)]) (xs:=ns.map V.str) Z dR (λi out H'=>∃hs:Xa,aP l H2 H'/\ck H' l/\H' ue\.lst out/\bC K H' out (hs.map kH)/\hs.map (·.1)=ns.take i/\∀h∈hs,1<=h.2/\h.2<=1000) #[[],aP.of (aa.new qf),eh.same (aa.new qf),au,.nil,Z,by simp] (λi out H' _ ⟨_,b,_⟩=>.of (b _ _ zu vI)) (λqW H3 ⟨zo,b3,iO,hh3,CM,en,gh⟩=>?_) (λi x out H' hx ⟨hs,b,stx,hD,tu,en,gh⟩=>?_);rotate_left 1
 ·let#[n,hn,rfl]:=iT hx
  have li:out.length=i:=by
   let h1:=bH tu;rw[ay] at h1;let h2:=dF List.length en;rw[ay,dJ] at h2;have:=(cw.mp hn).1;omega
  let hi:=(cw.mp hn).1;apply#[_,Z,Z,λNx hN=>dB ?_];apply#[_,Z,_,Z,zl,λp hp=>?_];let s4:=aa.new (o:=.lst [.int 3,.int 12,.int 1000]) hp
  have lp:p≠l:=by
   let#[xs,e]:=stx.some;exact (bw e hp).symm
  apply#[_,Z,l,3,Z,by decide,by decide,stx.same s4,λr1 H5 q0 q1 b5 gP=>?_];let#[y,hy,bb,eb,e1,e2]:=Gu (p:=λy:V=>∃n:Int,y=.int n/\0<n/\n<=1000) (a:=V.int 3) (b:=.int 12) (c:=.int 1000) q0 q1 #[3,Z,by decide,by decide] #[12,Z,by decide,by decide] #[1000,Z,by decide,by decide];subst eb;apply#[p,_,_,_,Z,Z,.of (b5 _ _ au lp),hy,l,bb,Z,e1,by omega,gP,λr2 H6 q2 q3 b6 gZ=>#[_,_,Z,Z,zl,λt ht=>?_]];have RC:aP l H' H6:=(aP.of s4).trans (b5.trans b6);let JW:=RC _ _ hD qc;let s7:=aa.new (o:=.tup [.str n,.int (1+r2)]) ht;let#[Ly,vM]:=stx.some;let El:=iS tu RC vM;have tt:upd H6 t (.tup [.str n,.int (1+r2)]) t\.tup ((kH (n,1+r2)).map kV):=au;apply#[out,s7 _ _ JW,by omega,hN _ _ #[hs++[(n,1+r2)],λb' o e ne=>?_,?_,au,?_,?_,λh hh=>?_]]
  ·rw[aA (bw e qf)];exact s7 _ _ (RC _ _ (b _ _ e ne) ne)
  ·have:=gZ.same s7;unfold ck;rw[aA qc.symm];exact this
  ·rw[cu];exact iX (wm (El.same s7) tt) (s7 _ _ JW)
  ·rw[cu,en,jr,hn];rfl
  rcases fL.mp hh with hh|hh
  ·exact gh h hh
  obtain rfl:h=(n,1+r2):=⇑hh
  exact#[by show 1<=1+r2;omega,by show 1+r2<=1000;omega]
 rw[ay,eN] at en;let ln3:=b3 _ _ zu vI;have lh0n:H2 ue=none:=qf;apply#[_,Z,l,4,Z,by decide,by decide,iO,λr3 H4 q0 q1 b4 gI=>#[_,_,Z,Z,?_]];apply#[zl,λa ha=>?_];let s5:=aa.new (o:=.lst []) ha
 have j_:l≠a:=by
  let#[xs,e]:=gI.some;exact bw e ha
 let MR:=b4 _ _ ln3 vI;let UN:=b4 _ _ hh3 qc;have MQ:ln≠a:=bw MR ha;have lha:ue≠a:=bw UN ha;have B4:aP l H H4:=b1.trans (b2.trans (b3.trans b4));have GG:H a=none:=B4.free gI ha;have UF:H ue=none:=(b1.trans b2).free eh qf;let#[RW,pd]:=iO.some;let vt:=iS CM b4 pd
 let Iv:Nat->Nat->Hp->Prop:=λkk q H'=>∃zs ts,aP l H H'/\ck H' l/\H' ln\.lst (ns.map V.str)/\H' ue\.lst qW/\bC K H' qW (zo.map kH)/\H' a\.lst zs/\bC K H' zs (ts.map kT)/\TJ ns kk q ts
 apply#[_,Z,ln,Z,#[_,.of (s5 _ _ MR)],V0 (K:=K) (a:=ln) (xs:=ns.map V.str) (λi σ H'=>∃(v6 v7 v8 v9:aL),σ=[some (.ref l),some (.int 4),some (.ref ln),some (.ref ue),some (.int (1+r3)),some (.ref a),v6,v7,v8,v9]/\Iv i 0 H')
  #[none,none,none,none,Z,[],[],B4.trans (aP.of s5),gI.same s5,s5 _ _ MR,s5 _ _ UN,vt.same s5,au,.nil,#[by simp,.nil,gM _]] (λi σ H' _ ⟨_,_,_,_,_,_,_,_,_,q,_⟩=>.of q) ?_ ?_]
 ·rintro i x σ H6 hx ⟨v6,v7,v8,v9,rfl,Lx,LH,b6,gZ,NF,JQ,Jc,uA,El,CN⟩ u hu;let#[one,F4,rfl]:=iT hx;have hi:i<ns.length:=(cw.mp F4).1;have s7:aa H6 (upd H6 u (.tup [.int i,.str one])):=aa.new hu;have Uo:upd H6 u (.tup [.int i,.str one]) u\.tup [.int i,.str one]:=au;apply#[u,_,Z,.of Uo,Z,_,_,Z,_,_,Z,Z,?_];generalize upd H6 u (.tup [.int i,.str one])=H7 at s7 Uo ⊢;apply#[_,Z,_,Z,_,_,Z,Z,_,Z,ln,_,Z,.of (s7 _ _ NF),λp hp=>?_];have ec:dS (ns.map V.str) (some ((i:Int)+1)) none=(ns.drop (i+1)).map V.str:=iI_ ns (i+1) Z1;rw[ec];have s8:aa H7 (upd H7 p (.lst ((ns.drop (i+1)).map V.str))):=aa.new hp
  have lp:l≠p:=by
   let#[xs,e]:=(gZ.same s7).some;exact bw e hp
  have pa:p≠a:=(bw (s7 _ _ uA) hp).symm;let tL:=s7.trans s8
  apply#[p,Z,#[_,.of au],ie (K:=K) (a:=p) (xs:=(ns.drop (i+1)).map V.str) (λj σ H'=>∃(v8 v9:aL),σ=[some (.ref l),some (.int 4),some (.ref ln),some (.ref ue),some (.int (1+r3)),some (.ref a),some (.int i),some (.str one),v8,v9]/\H' p\.lst ((ns.drop (i+1)).map V.str)/\Iv i j H')
   #[_,_,Z,au,Lx,LH,b6.trans (aP.of tL),gZ.same tL,tL _ _ NF,tL _ _ JQ,Jc.same tL,tL _ _ uA,El.same tL,CN] (λj σ H' _ ⟨_,_,_,q,_⟩=>.of q) ?_ ?_]
  ·rintro j y σ H9 hy ⟨v8,v9,rfl,Df,Lw,IZ,b9,vz,ND,N3,LJ,Oq,IY,Ep⟩;let#[o,ho,rfl]:=iT hy;rw[List.getElem?_drop] at ho;apply#[_,Z,_,Z,l,1+r3,Z,by omega,by omega,vz,λr4 CK q2 q3 kn wJ=>#[Z,_,Z,?_]];let#[xs9,UG]:=vz.some;let Ga:=kn _ _ ND vI;let Gv:=kn _ _ N3 qc;let BF:=kn _ _ Oq j_.symm;let F2:=kn _ _ Df lp.symm;let Em:=iS IY kn UG;let Er:=iS LJ kn UG;apply aN (λc=>?_) (λc=>?_)
   ·apply#[_,Z,.inl #[Z,_,.of BF],_,Z,_,Z,zl,λt1 zm=>?_];let CO:=aa.new (o:=.tup [.str one,.str o]) zm;apply#[_,Z,_,Z,zl,λt2 Bk=>?_];let vF:=aa.new (o:=.tup [.str o,.str one]) Bk;apply#[zl,λlx vM=>?_];let mE:=aa.new (o:=.lst [.ref t1,.ref t2]) vM;let SK:=(CO.trans vF).trans mE;let EK:=wJ.same SK;apply#[_,Z,l,2,Z,by decide,by decide,EK,λr5 X5 q4 q5 qO L4=>?_]
    have MP:lx≠l:=by
     let#[xs,e]:=(wJ.same (CO.trans vF)).some;exact (bw e vM).symm
    let Gb:=qO _ _ (show upd (upd (upd CK t1 (.tup [.str one,.str o])) t2 (.tup [.str o,.str one])) lx (.lst [.ref t1,.ref t2]) lx=_ from au) MP;let#[Yr,Gm]:=EK.some;let FZ:=mE _ _ (vF _ _ (show upd CK t1 (.tup [.str one,.str o]) t1=_ from au));let FX:=mE _ _ (show upd (upd CK t1 (.tup [.str one,.str o])) t2 (.tup [.str o,.str one]) t2=_ from au);let FY:=qO _ _ FZ (bX FZ Gm nofun);let FW:=qO _ _ FX (bX FX Gm nofun)
    have pick:∃(t:Addr) (tt:Str × Str),fu [V.ref t1,V.ref t2] r5\.ref t/\X5 t\.tup ((kT tt).map kV)/\(tt=(one,o)∨tt=(o,one)):=by
     rcases xv (a:=V.ref t1) (b:=V.ref t2) q4 q5 with e|e
     ·exact#[t1,(one,o),e,FY,.inl Z]
     exact#[t2,(o,one),e,FW,.inr Z]
    let#[t,tt,et,ht,OZ]:=pick;have ic:aP l CK X5:=(aP.of SK).trans qO;let#[Ys,Gn]:=wJ.some;let BE:=ic _ _ BF j_.symm;let NG:=ic _ _ Ga vI;let N5:=ic _ _ Gv qc;let Ny:=ic _ _ F2 lp.symm;let LG:=iS Em ic Gn;let LK:=iS Er ic Gn;let lz:=bH IY;rw[ay] at lz;let tl:=Ep.len
    have hj:j<8:=by
     have:=(cw.mp ho).1;omega
    apply#[lx,_,_,_,Z,Z,.of Gb,et,a,_,_,Z,Z,BE,by omega,?_];apply#[_,_,Z,by rw[aA pa];exact Ny,_,IZ++[tt],λb o e ne=>?_,?_,by rw[aA MQ];exact NG,by rw[aA lha];exact N5,iX LK BE,au,?_,Ep.add N.nd F4 ho OZ]
    ·rw[aA (bw e GG)];exact ic _ _ (kn _ _ (b9 _ _ e ne) ne) ne
    ·unfold ck;rw[aA j_];exact L4
    rw[cu];exact iX (wm LG ht) BE
   exact#[_,_,Z,F2,Lw,IZ,b9.trans kn,wJ,Ga,Gv,Er,BF,Em,Ep.skip]
  rintro σ H9 ⟨v8,v9,rfl,Df,Lw,IZ,b9,vz,ND,N3,LJ,Oq,IY,Ep⟩;exact#[_,_,_,_,Z,Lw,IZ,b9,vz,ND,N3,LJ,Oq,IY,Ep.next (by rw[ay,Ac];omega)]
 rintro σ H6 ⟨v6,v7,v8,v9,rfl,Lx,LH,b6,gZ,NF,JQ,Jc,uA,El,CN⟩;rw[ay] at CN
 have ly:qW.length=ns.length:=by
  let h1:=bH Jc;rw[ay] at h1;let h2:=dF List.length en;rw[ay] at h2;omega
 apply#[_,Z,_,Z,ue,_,Z,.inl (.of JQ),l,_,Z,by show (0:Int)<(qW.length:Int);omega,by show (qW.length:Int)<1073741824;omega,gZ,λtn H7 q0 q1 b7 jR=>?_];let#[tn,rfl]:=qT q0;let#[Yn,JL]:=gZ.some;let JP:=b7 _ _ JQ qc;let Dr:=b7 _ _ uA j_.symm;let LF:=iS El b7 JL;let Jb:=iS Jc b7 JL;apply#[_,Z,_,Z,_,Z,ue,_,Z,.of JP,λp1 zq=>?_];rw[Ww];let s8:=aa.new (o:=.lst (qW.drop tn)) zq;apply#[_,Z,_,Z,_,Z,ue,_,Z,.of (s8 _ _ JP),λp2 jA=>?_];rw[IE];let s9:=aa.new (o:=.lst (qW.take tn)) jA;apply#[p1,p2,_,_,Z,Z,s9 _ _ au,au,by rw[Ac,dJ];omega,λp3 Bp=>?_];let yQ:=aa.new (o:=.lst (qW.drop tn++qW.take tn)) Bp;let Mi:=s8.trans (s9.trans yQ);apply#[_,Z,zl,λt ht=>?_];let CO:=aa.new (o:=.tup [.ref p3,.ref a]) ht;let tM:=Mi.trans CO;let XQ:=b6.trans b7;let perm:=VZ zo tn;let pm:=perm.map (·.1);let gt:=CN.good N.nd N.ok;have mem:∀n,n∈(zo.drop tn++zo.take tn).map (·.1) ↔ n∈ns:=λn=>by rw[pm.mem_iff,en]
 apply k t p3 a _ Lx (zo.drop tn++zo.take tn) LH _ (XQ.trans (aP.of tM)) (jR.same tM) au ((XQ.trans (aP.of (s8.trans s9))).free (jR.same (s8.trans s9)) Bp) GG (λe=>?_) (CO _ _ au) ?_ (tM _ _ Dr) (LF.same tM) #[λh hh=>?_,?_,?_,?_,λt ht=>(gt t ht).1,CN.nd,by have:=CN.len;omega,λt ht=>#[(mem _).mpr (gt t ht).2.1,(mem _).mpr (gt t ht).2.2]] λn hn=>?_
 ·subst e;rw[(s8.trans s9) _ _ Dr] at Bp;cases Bp
 ·rw[cu,List.map_drop,List.map_take];have Zx:bC K H7 (qW.drop tn++qW.take tn) ((zo.map kH).drop tn++(zo.map kH).take tn):=jG (Rw tn Jb) (Lf tn Jb);exact Zx.same tM
 ·let hm:=perm.mem_iff.mp hh;let#[g1,g2]:=gh h hm;exact#[N.ok _ (by rw[<- en];exact bG.mpr #[h,hm,Z]),g1,g2]
 ·apply pm.nodup_iff.mpr ?_;rw[en];exact N.nd
 ·have:=pm.length_eq;rw[ay,en] at this;omega
 ·have:=pm.length_eq;rw[ay,en] at this;omega
 rcases N.end_ n ((mem n).mp hn) with z|⟨kk,h1,h2⟩
 ·exact .inl z
 exact .inr #[kk,by omega,h2]
end
end Ev
namespace HT
open PySem PySem.Spec PyProof.Rows
section
variable{prog:Ad}{w:Af}{A:Ag}{E:Aa->Ab->Prop}{s:Ab}
theorem jb{t sl:Addr}{a b:Aa}{u:Tok}{Q:Aa->Ab->Prop}(ht:IsTup s.heap t (List.toArray [a,b]))(hs:s.heap.IsSliceOf sl .none .none (.int (-1) u))
  (h:Q (.ref s.heap.objs.size) { s with heap:=s.heap.push { cls:=.type "tuple",data:=.seq (List.toArray [b,a]) } }):wpAny (model prog w) A (getItem (.ref t) (.ref sl)) Q E s:=by
 have fR:sizeOk (.seq (List.toArray [b,a])):=by
  show 2<=sizeLine;decide
 let#[os,qB,xC,xA]:=id hs;have BG:s.TypeIs (.ref sl) "slice":=#[os,qB,xC];unfold getItem
 try with_reducible apply mZ ?_
 first|refine ao (aK ?_)|skip
 apply ao (wpAny_sequenceKey ht.typeIs (by decide) ?_)
 apply ao (wpAny_callSpecial?_slot (name:=Str.ofString "__getitem__") ht.typeIs DX
  (uJ DX ht.typeIs entry_tuple_getitem ?_ (args_tuple_getitem _ _)))
 show wpAny _ _ (Builtin.Tuple.tupleItemsOf (.ref t) >>= _) _ _ s;apply ao (tupleItemsOf_ ht ?_);apply ao (wpAny_typeOf BG ?_);rw[aJ (by decide)]
 have ap:∀{A':Ag} {E':Aa->Ab->Prop} {R:Int × Int × Nat->Ab->Prop},R (1,-1,2) s->wpAny (model prog w) A' (Builtin.Slice.sliceApplied (.ref sl) (pure (((List.toArray [a,b]):Array Aa).size:Int))) R E' s:=by
  intro A' E' R hR;unfold Builtin.Slice.sliceApplied Builtin.Slice.sliceFields;apply ao (ao (wpAny_field qB xA (x:=.none) Z (ao (wpAny_field qB xA (x:=.none) Z (ao (wpAny_field qB xA (x:=.int (-1) u) Z (aK ?_)))))));apply ao (slicePart_int ?_);show wpAny _ _ (if ((-1:Int) == 0)=true then _ else _) _ _ s;rw[aB (by decide)];exact ao (slicePart_none (ao (slicePart_none (ao (aK (aK (by with_unfolding_all exact hR)))))))
 apply ao (ap ?_);show wpAny _ _ (if ((1:Int) == 0&&(-1:Int) == 1&&(2:Nat) == 2)=true then _ else _) _ _ s;rw[aB (by decide)];have e:(List.filterMap (λ(k:Nat)=>((List.toArray [a,b]):Array Aa)[((1:Int)+(k:Int) * -1).toNat]?) (List.range 2)).toArray=(List.toArray [b,a]):=by with_unfolding_all rfl
 rw[e]
 first
  |exact ao (m:=Builtin.Tuple.tupleExact _) (nA (aK ⟨_,rfl,aK h⟩) fR)
  |exact ao (m:=Builtin.Tuple.tupleExact _) (nA (ao (aK (aK ⟨_,rfl,aK h⟩))) fR)
  |exact ao (ao (m:=Builtin.Tuple.tupleExact _) (nA (aK (aK ⟨_,rfl,aK h⟩)) fR))
  |exact ao (ao (m:=Builtin.Tuple.tupleExact _) (nA (aK ⟨_,rfl,aK h⟩) fR))
end
end HT
namespace L2
open PySem PySem.Spec PyProof.Rows
section
variable{X:Cx}{e st:Expr}{te ts:TE}{pos p2:Pos}
def yB(K:af)(te ts:TE):TE:=λσ H Q=>te σ H λx H1=>ts σ H1 λy H2=>y=.int (-1)/\∃a u v,x=.ref a/\fN K H2 a [u,v]/\∀p,H2 p=none->Q (.ref p) (upd H2 p (.tup [v,u]))
theorem jQ_(he:PE X e te)(hs:PE X st ts):PE X (.Subscript e (.Slice none none (some st) p2) pos) (yB X.K te ts):=by
 intro pins s σ H Q I h;apply Subscript_ (aR (he pins s σ H _ I h) λv s1 ⟨x,H1,I1,r1,q1⟩=>?_);apply wpAny_Slice ?_;rw[evalPart_none];apply aK (aK ?_);rw[evalPart_some];apply aR (hs pins s1 σ H1 _ I1 q1) λvs s3 ⟨y,H3,I3,ry,ey,a,u,v',ex,hx,q⟩=>?_;subst ex ey;let#[t,rfl]:=ry;cases r1;have I4:Inv X pins σ H3 { s3 with heap:=s3.heap.push { cls:=.type "slice",data:=.fields (List.toArray [.none,.none,.int (-1) t]) } }:=I3.kept (t':=s3.toks) λb ob q=>cj _ q;let#[its,r,ht,hz]:=I4.tuple hx;let#[x1,x2,rfl,_e,_d]:=Vals.two r;show wpAny (model X.prog X.w) X.A (subscriptTail e (.Slice none none (some st) p2) (.ref a) (.ref s3.heap.objs.size)) (EP X pins σ Q) X.xe { s3 with heap:=s3.heap.push { cls:=.type "slice",data:=.fields (List.toArray [.none,.none,.int (-1) t]) } };apply tail_any (ops:=[.ref a,.ref s3.heap.objs.size]) ht.typeIs PyProof.Rows.slot_tuple_getitem.lookup (HT.jb ht (Heap.IsSliceOf.new ..) ?_) (by with_unfolding_all rfl);apply#[.ref _,upd H3 _ (.tup [v',u]),I4.laid (t':=s3.toks) (λb o e=>cj _ e) (bo _) ?_,Z,q _ (I4.aE.fresh (bo _))];exact#[zl,[x2,x1],.cons _d (.cons _e .nil),#[_,eE _ Z,Z,_,Z],_,eE _ Z,Z]
theorem j7_{K:af}(he:PE X e te)(hs:PE X st ts)(hK:X.K=K:=by rfl):PE X (.Subscript e (.Slice none none (some st) p2) pos) (yB K te ts):=by
 subst hK;exact jQ_ he hs
end
end L2
namespace Ev
open PySem L2
structure GW (ts ws:Xb):Prop where
 good:∀w∈ws,zM w
 nd:(ws.map kO).Nodup
 FK:∀w∈ws,kO w∈ts.map kO
 len:ws.length<=ts.length
theorem kp_{ts us ws:Xb}(good:∀t∈ts,zM t)(nd:(ts.map kO).Nodup)(sub:us.Sublist ts)(p:Paired (λw u=>w=u∨w=(u.2,u.1)) ws us):GW ts ws:=by
 have e:ws.map kO=us.map kO:=by
  clear sub
  induction p with
  |nil=>rfl
  |cons h _ ih=>
   rw[dZ,dZ,ih];rcases h with rfl|rfl
   ·rfl
   exact dF (·::_) (kx_ _ _)
 apply#[λw hw=>?_,?_,λw hw=>?_,?_]
 ·let#[i,hi,ew]:=ku hw;let hl:=bH p;let q:=ig p i hi Z1;rw[ew] at q;let g:=good _ (sub.subset (nU (show i<us.length by omega)));rcases q with q|q
  ·rw[q];exact g
  rw[q];exact#[g.2.1,g.1,g.2.2.symm]
 ·rw[e];exact (sub.map kO).nodup nd
 ·have:kO w∈ws.map kO:=bG.mpr #[w,hw,Z];rw[e] at this;exact (sub.map kO).subset this
 rw[bH p];exact sub.length_le
def cB(K:af)(H:Hp)(v:V):Option (Xb)->Prop
 |none=>v=.non
 |some ws=>∃a ys,v=.ref a/\H a\.lst ys/\bC K H ys (ws.map kT)
theorem cB.same{K:af}{H H':Hp}{v:V}{o:Option (Xb)}(h:cB K H v o)(s:aa H H'):cB K H' v o:=by
 cases o with
 |none=>exact h
 |some ws=>
  let#[a,ys,e,ha,t]:=h;exact#[a,ys,e,s _ _ ha,t.same s]
section v
theorem sr:bx [gA,"_law_ties","_law_some"] [gA,"_law_ties"] (aX sR):=bE
inductive lG (K:af) (vs:ag) (H:Hp) (Q:VK) (E:XK):Prop
 |mk:∀(l lt:Addr) (zs:ag) (ts:Xb),vs=[.ref l,.ref lt]->ck H l->H lt\.lst zs->bC K H zs (ts.map kT)->lt≠l->ts.length<64->(∀t∈ts,zM t)->(ts.map kO).Nodup->(∀(v:V) (o:Option (Xb)) (H':Hp),aP l H H'->ck H' l->cB K H' v o->(∀a,v=.ref a->H a=none)->(∀ws,o\ws->GW ts ws)->Q v H')->lG K vs H Q E
theorem kD_{f:Addr}{fd:Ae}(F:bj K "_law_ways" "_law_ways" sR f fd)(B:Bi mg)(cD:!aY 1 qF uR wk):!aq a9 2 f fd [gA,"_law_ties"] (lG K):=by
 exists F.bL sr;let#[l,lt,zs,ts,rfl,st,dY,tu,qz,bS,good,nd,k]:=h;let sz:=cn;let lz:=bH tu;rw[ay] at lz
 refine' #[_,ax (bO (dj B6 (aQ cD hr %[0,aC|0]) aC) (aH (bg xW)) bP)
  (ax (HU (i:=2) pS 1 [0] sr.nd Z (Or.inl Z) (d5 (pv 1)) (λfp s H=>eW (i:=0) (show (pS:ae).Nodup by decide +kernel) Z (Or.inl Z))
   (λfp s H=>?ht) (λfp s H=>?he1))
  (aH (bg (iV pS 1 [0] (d5 (pv 2)) (λfp s H=>eW (i:=0) (show (pS:ae).Nodup by decide +kernel) Z (Or.inl Z)) (λfp s H=>ij)
   (λfp s H=>?he))))),?_]
 case ht=>exact Vk (dj iy (aQ cD hr %[1,aC|0]) aC)
 case he1=>exact pv 0
 case he=>exact bM (vJ (K:=K) mJ gL) (eB %[0,j7_ (K:=K) (pv 0) (GK Hb aC)|0]) (aQ cD hr %[1,aC|0])
 apply#[_,Z,l,3,Z,by decide,by decide,st,λr H1 r0 r3 b1 fo=>#[_,_,Z,Z,_,Z,?_]];apply aN (λc=>?_) (λc=>?_)
 ·exact k .non none H1 b1 fo Z (λa z=>by cases z) (λws z=>by cases z)
 let#[xs,hl]:=st.some;let ur:=b1 _ _ dY qz;let Zw:=iS tu b1 hl;apply#[_,Z,lt,Z,#[_,.of ur],λD hD=>?_]
 have Dl:D≠l:=by
  let#[xs,e]:=fo.some;exact (bw e hD).symm
 apply jK (own:=1) (fv:=[some (.ref l)]) (xs:=zs) Z dR (λi out H'=>∃us:Xb,aP l H1 H'/\ck H' l/\H' D\.lst out/\bC K H' out (us.map kT)/\us.Sublist (ts.take i)) #[[],aP.of (aa.new hD),fo.same (aa.new hD),au,.nil,List.nil_sublist _] (λi out H' _ ⟨_,b,_⟩=>.of (b _ _ ur qz)) (λYe H2 ⟨us,b2,eh,uC,So,sub⟩=>?_) (λi x out H' hx ⟨us,b,stx,hDx,Ej,sub⟩=>?_);rotate_left 1
 ·let#[t,ht,p,rfl,hp]:=nX Zw hx;apply#[_,Z,Z,λNx hN=>?_];apply#[_,Z,l,2,Z,by decide,by decide,stx,λr2 H4 q0 q1 b4 gI=>#[Z,_,Z,?_]];let#[Ym,vM]:=stx.some;let vt:=iS Ej b4 vM;let qD:=b4 _ _ hDx Dl;apply aN (λc2=>?_) (λc2=>?_)
  ·let lo:=bH Ej;rw[ay] at lo;let ls:=sub.length_le;rw[dJ] at ls
   let hp4:=b4 _ _ (b _ _ hp (bX hp (show H1 l\_ from fo.some.choose_spec) nofun)) (by
    let#[Yt,e1]:=fo.some;exact bX hp e1 nofun)
   apply#[_,Z,out,qD,by omega,hN _ _ #[us++[t],λb' o e ne=>?_,?_,au,?_,?_]]
   ·rw[aA (bw e hD)];exact b4 _ _ (b _ _ e ne) ne
   ·unfold ck;rw[aA Dl.symm];exact gI
   ·rw[cu];exact iX (wm vt hp4) qD
   rw[jr,ht];exact sub.append (List.Sublist.refl _)
  apply hN _ _ #[us,b.trans b4,gI,qD,vt,sub.trans ?_];rw[jr];exact List.sublist_append_left _ _
 rw[lz,eN] at sub;let lu:=bH So;rw[ay] at lu;let ls:=sub.length_le;apply#[_,Z,D,Z,#[_,.of uC],λa ha=>?_]
 have al:a≠l:=by
  let#[xs,e]:=eh.some;exact (bw e ha).symm
 have Da:D≠a:=bw uC ha;apply jK (own:=1) (fv:=[some (.ref l)]) (xs:=Ye) Z dR (λi out H'=>∃ws:Xb,aP l H2 H'/\ck H' l/\H' a\.lst out/\bC K H' out (ws.map kT)/\Paired (λw u=>w=u∨w=(u.2,u.1)) ws (us.take i)) #[[],aP.of (aa.new ha),eh.same (aa.new ha),au,.nil,.nil] (λi out H' _ ⟨_,b,_⟩=>.of (b _ _ uC Dl)) (λYd H3 ⟨ws,b3,iO,jC,CM,pw⟩=>?_) (λi x out H' hx ⟨ws,b,stx,hax,Ej,pw⟩=>?_)
 ·rw[lu,eN] at pw;let b0:=b1.trans b2;exact k (.ref a) (some ws) H3 (b0.trans b3) iO #[a,Yd,Z,jC,CM] (λc z=>by cases z;exact b0.free eh ha) (λws' z=>by cases z;exact kp_ good nd sub pw)
 let#[t,ht,p,rfl,hp]:=nX So hx;have hi:i<us.length:=(cw.mp ht).1;let#[Yq,ja]:=eh.some;let#[Ym,vM]:=stx.some;let JH:=b _ _ hp (bX hp ja nofun);apply#[_,Z,Z,λNx hN=>dB ?_];apply#[_,Z,_,Z,_,Z,Z,p,_,_,Z,.of (zp JH),λq hq=>?_];let s4:=aa.new (o:=.tup [.str t.2,.str t.1]) hq;apply#[zl,λlx Gc=>?_];let s5:=aa.new (o:=.lst [.ref p,.ref q]) Gc;let tN:=s4.trans s5;let gP:=stx.same tN
 have MP:lx≠l:=by
  let#[xs,e]:=(stx.same s4).some;exact (bw e Gc).symm
 apply#[_,Z,l,2,Z,by decide,by decide,gP,λr2 H6 q0 q1 b6 gZ=>?_];let#[Yo,Bw]:=gP.some;let Dg:=tN _ _ JH;let Us:=s5 _ _ (show upd H' q (.tup [.str t.2,.str t.1]) q=_ from au);let hp6:=b6 _ _ Dg (bX Dg Bw nofun);let hq6:=b6 _ _ Us (bX Us Bw nofun);let NJ:=b6 _ _ (show upd (upd H' q (.tup [.str t.2,.str t.1])) lx (.lst [.ref p,.ref q]) lx=_ from au) MP
 have pick:∃(c:Addr) (tt:Str × Str),fu [V.ref p,V.ref q] r2\.ref c/\H6 c\.tup ((kT tt).map kV)/\(tt=t∨tt=(t.2,t.1)):=by
  rcases xv (a:=V.ref p) (b:=V.ref q) q0 q1 with e|e
  ·exact#[p,t,e,hp6,.inl Z]
  exact#[q,(t.2,t.1),e,hq6,.inr Z]
 let#[c,tt,et,hc,OZ]:=pick;have zZ:aP l H' H6:=(aP.of tN).trans b6;let uA:=zZ _ _ hax al;let lo:=bH Ej;rw[ay] at lo;let lp:=bH pw;rw[dJ] at lp;apply#[lx,_,_,_,Z,Z,.of NJ,et,out,uA,by omega,hN _ _ #[ws++[tt],λb' o e ne=>?_,?_,au,?_,?_]]
 ·rw[aA (bw e ha)];exact zZ _ _ (b _ _ e ne) ne
 ·unfold ck;rw[aA al.symm];exact gZ
 ·rw[cu];exact iX (wm (iS Ej zZ vM) hc) uA
 rw[jr,ht];exact jG pw (.cons OZ .nil)
end
end Ev
namespace Ev
open PySem L2
abbrev Pc:=Str × Int × Option (Xb)
def kJ(K:af)(H:Hp)(y:V)(p:Pc):Prop:=∃t v,y=.ref t/\H t\.tup [.str p.1,.int p.2.1,v]/\cB K H v p.2.2
abbrev uO(K:af)(H:Hp)(ys:ag)(ps:List Pc):Prop:=Paired (kJ K H) ys ps
structure DC (ts:Xb) (p:Pc):Prop where
 nm:iJ p.1=true
 w1:1<=p.2.1
 w2:p.2.1<=1000000000
 ws:∀ws,p.2.2\ws->GW ts ws
theorem jR_{K:af}{H:Hp}{a l:Addr}{ys:ag}{ks:List az}(t:bC K H ys ks)(ha:H a\.lst ys)(st:ck H l):a≠l:=λe=>by
 subst e;rcases st with⟨n,e⟩|⟨n,m,c,e⟩
 all_goals
  rw[ha] at e;have e:ys=_:=HO.lst.inj (d7 e);subst e;cases t with
  |cons h _=>
   let#[b,z,_]:=h;cases z
theorem cB.but{K:af}{H H':Hp}{l:Addr}{v:V}{o:Option (Xb)}(h:cB K H v o)(b:aP l H H')(st:ck H l):cB K H' v o:=by
 cases o with
 |none=>exact h
 |some ws=>
  let#[a,ys,e,ha,t]:=h;let#[xs,hl]:=st.some;exact#[a,ys,e,b _ _ ha (jR_ t ha st),iS t b hl]
theorem kJ.but{K:af}{H H':Hp}{l:Addr}{y:V}{p:Pc}(h:kJ K H y p)(b:aP l H H')(st:ck H l):kJ K H' y p:=by
 let#[t,v,e,ht,hv]:=h;let#[xs,hl]:=st.some;exact#[t,v,e,b _ _ ht (bX ht hl nofun),hv.but b st]
theorem kJ.same{K:af}{H H':Hp}{y:V}{p:Pc}(h:kJ K H y p)(s:aa H H'):kJ K H' y p:=by
 let#[t,v,e,ht,hv]:=h;exact#[t,v,e,s _ _ ht,hv.same s]
theorem cB.put{K:af}{H:Hp}{D:Addr}{xs:ag}{v:V}{o:Option (Xb)}{u:HO}(h:cB K H v o)(hD:H D\.lst xs)(ne:v≠.ref D):cB K (upd H D u) v o:=by
 cases o with
 |none=>exact h
 |some ws=>
  let#[a,ys,e,ha,t]:=h;subst e;exact#[a,ys,Z,by rw[aA λz=>ne (by rw[z])];exact ha,iX t hD]
section v
theorem IG:bx [gA,"_law_ties",uN,"_law_pieces_here","_law_name","_law_weight","_law_turn"] vi (aX Pm):=bE
inductive Qk (K:af) (vs:ag) (H:Hp) (Q:VK) (E:XK):Prop
 |mk:∀(l lt:Addr) (m:Nat) (zs:ag) (ts:Xb),vs=[.ref l,.ref lt,.int m]->m<=30->ck H l->H lt\.lst zs->bC K H zs (ts.map kT)->lt≠l->ts.length<64->(∀t∈ts,zM t)->(ts.map kO).Nodup->(∀(a:Addr) (ys:ag) (ps:List Pc) (H':Hp),aP l H H'->ck H' l->H a=none->H' a\.lst ys->uO K H' ys ps->(∀p∈ps,DC ts p)->(ps.map (·.1)).Nodup->ps.length<=m->(∀p∈ps,IV m p.1)->Q (.ref a) H')->Qk K vs H Q E
theorem hF_{f:Addr}{fd:Ae}(F:bj K "_law_pieces" "_law_pieces" Pm f fd)(B:Bi mg)(cD:!aY 1 qF uR wk)(cN:!aY 2 "_law_names" zL KH)(cW:!aY 2 "_law_ways" [gA,"_law_ties"] (lG K)) :
  aq P w K mg base a9 3 f fd vi (Qk K):=by
 exists F.bL IG;let#[l,lt,m,zs,ts,rfl,Fw,st,dY,tu,qz,bS,good,nd,k]:=h;let sz:=cn
 apply#[_,ax (bq 3 IG.nd (eB bh))
  (ax (eX eM Z (d5 (aQ cN hr %[0,aQ cD hr %[0,bN gX (pv 2) aC|0]|0])) (cO 4 IG.nd)
   (ax (bq 5 IG.nd (bN gX aC (aQ cD hr %[0,bM gL (eB %[aC,aC,bN T5 aC aC|0]) (aQ cD hr %[0,aC|0])|0])))
   (aH (jH (km k7 wc wd u_ (pv 3) %[fB %[4,5,aQ cW hr %[0,1|0]|0]|0])))))
  (ax (bq 6 IG.nd (aQ cD hr %[0,bN gX (cy iL (by rfl) B.len ia %[3|0]) aC|0]))
  (aH (bg (bN GV (uY yf (pv 3) (uV (pv 6)) uU) (uY yf (pv 3) uU (uV (pv 6)))))))),?_]
 apply#[zl,λa ha=>?_];let s1:=aa.new (o:=.lst []) ha
 have j_:l≠a:=by
  let#[xs,e]:=st.some;exact bw e ha
 have lta:lt≠a:=bw dY ha;apply#[_,Z,_,Z,_,Z,_,_,Z,Z,l,(m:Int)+1,Z,by omega,by omega,st.same s1,λr H2 r0 rm b2 eh=>?_];let#[r,rfl]:=qT r0;apply#[l,r,Z,by omega,eh,λln ns H3 b3 iO fn Dj N=>?_]
 have vI:ln≠l:=λe=>by
  subst e;let#[xs,e2]:=eh.some;rw[fn] at e2;cases e2
 let kY:=b2 _ _ (show upd H a (.lst []) a=_ from au) j_.symm
 have MQ:ln≠a:=λe=>by
  subst e;rw[fn] at kY;cases kY
 have B3:aP l H H3:=(aP.of s1).trans (b2.trans b3);let jC:=b3 _ _ kY j_.symm;let Ge:=B3 _ _ dY qz;let#[Ly,vN]:=st.some;let CM:=iS tu B3 vN
 apply#[ln,Z,#[_,.of Dj],ie (K:=K) (a:=ln) (xs:=ns.map V.str) (λi σ H'=>∃(v4 v5 v6:aL) (ys:ag) (ps:List Pc),σ=[some (.ref l),some (.ref lt),some (.int m),some (.ref a),v4,v5,v6]/\aP l H H'/\ck H' l/\H' ln\.lst (ns.map V.str)/\H' a\.lst ys/\uO K H' ys ps/\(∀y v,y∈ys->∀t n q,y=.ref t->H' t\.tup [n,q,v]->v≠.ref a)/\(∀p∈ps,DC ts p)/\ps.map (·.1)=ns.take i)
  #[none,none,none,[],[],Z,B3,iO,Dj,jC,.nil,λy v hy=>(by simp at hy),by simp,Z] (λi σ H' _ ⟨_,_,_,_,_,_,_,_,q,_⟩=>.of q) ?_ ?_]
 ·rintro i x σ H4 hx ⟨v4,v5,v6,ys,ps,rfl,b4,gI,UC,uB,CU,OS,gp,en⟩;let#[n,hn,rfl]:=iT hx;have hi:i<ns.length:=(cw.mp hn).1;apply#[_,Z,_,_,Z,Z,#[by decide,by decide,by decide],zl,λp hp=>?_];let s5:=aa.new (o:=.lst [.int 3,.int 100,.int ((10:Int) ^ (9:Int).toNat)]) hp
  have pl:p≠l:=by
   let#[xs,e]:=gI.some;exact (bw e hp).symm
  apply#[_,Z,l,3,Z,by decide,by decide,gI.same s5,λr1 H6 q0 q1 b6 gZ=>?_];let#[y,hy,bb,eb,e1,e2]:=Gu (p:=λy:V=>∃n:Int,y=.int n/\0<n/\n<=1000000000) (a:=V.int 3) (b:=.int 100) (c:=.int ((10:Int) ^ (9:Int).toNat)) q0 q1 #[3,Z,by decide,by decide] #[100,Z,by decide,by decide] #[_,Z,by decide,by decide];subst eb;apply#[p,_,_,_,Z,Z,.of (b6 _ _ au pl),hy,l,bb,Z,e1,by omega,gZ,λr2 H7 q2 q3 b7 jR=>#[_,_,Z,Z,?_]];have Ln:aP l H4 H7:=(aP.of s5).trans (b6.trans b7);let Dr:=Ln _ _ uB j_.symm;let NK:=(b4.trans Ln) _ _ dY qz;let LF:=iS tu (b4.trans Ln) vN;apply#[_,Z,.inl #[Z,_,.of Dr],_,Z,_,Z,_,Z,_,Z,l,lt,zs,ts,Z,jR,NK,LF,qz,bS,good,nd,λv o H8 b8 wI wy fresh gw=>?_];let II:=Ln.trans b8;let Dq:=b8 _ _ Dr j_.symm;let hn8:=II _ _ UC vI;apply#[zl,λt ht=>?_];let s9:=aa.new (o:=.tup [.str n,.int (1+r2),v]) ht
  have va:v≠.ref a:=λz=>by
   have:=fresh a z;rw[Dr] at this;cases this
  let ly:=bH CU;let lp:=dF List.length en;rw[ay,dJ] at lp;let hlen:=N.len;have ta:t≠a:=(bw Dq ht).symm;apply#[a,_,_,Z,Z,s9 _ _ Dq,by omega,?_];apply#[_,_,_,_,ps++[(n,1+r2,o)],Z,λb' o' e ne=>?_,?_,?_,au,?_,?_,?_,?_]
  ·rw[aA (bw e ha)];exact s9 _ _ ((b4.trans II) _ _ e ne)
  ·unfold ck;rw[aA j_];exact wI.same s9
  ·rw[aA MQ];exact s9 _ _ hn8
  ·have old:uO K (upd (upd H8 t (.tup [.str n,.int (1+r2),v])) a (.lst (ys++[.ref t]))) ys ps:=by
    have gen:∀(Ao:ag) (Mn:List Pc),(∀y∈Ao,y∈ys)->uO K H4 Ao Mn->uO K (upd (upd H8 t (.tup [.str n,.int (1+r2),v])) a (.lst (ys++[.ref t]))) Ao Mn:=λAo Mn sub h=>by
     induction h with
     |nil=>exact .nil
     |@cons y q ys1 ps1 h _ ih=>
      apply .cons ?_ (ih λz hz=>sub z (eR _ hz));let#[t',v',e,iu,Np]:=h;let nv:=OS y v' (sub y fM) t' _ _ e iu;let#[Yp,NV]:=gI.some;let Bj:=s9 _ _ (II _ _ iu (bX iu NV nofun));exact#[t',v',e,by rw[aA (bX Bj (s9 _ _ Dq) nofun)];exact Bj,((Np.but II gI).same s9).put (s9 _ _ Dq) nv]
    exact gen ys ps (λ_ h=>h) CU
   exact jG old (.cons #[t,v,Z,by rw[aA ta];exact au,(wy.same s9).put (s9 _ _ Dq) va] .nil)
  ·intro y v' hy' t' n' q' e iu;rcases fL.mp hy' with hy'|hy'
   ·let#[j,hj,ej]:=ku hy';let#[t2,v2,WM,Bk,_]:=ig CU j hj Z1;rw[ej] at WM;subst WM;cases e;let#[Yp,NV]:=gI.some;let Bj:=s9 _ _ (II _ _ Bk (bX Bk NV nofun));rw[aA (bX Bj (s9 _ _ Dq) nofun),Bj] at iu;let z:=HO.tup.inj (d7 iu);have:v2=v':=(List.cons.inj (List.cons.inj (List.cons.inj z).2).2).1;subst this;exact OS _ v2 hy' _ _ _ Z Bk
   obtain rfl:y=.ref t:=⇑hy'
   cases e;rw[aA ta,au] at iu;let z:=HO.tup.inj (d7 iu);have:v=v':=(List.cons.inj (List.cons.inj (List.cons.inj z).2).2).1;subst this;exact va
  ·intro q hq;rcases fL.mp hq with hq|hq
   ·exact gp q hq
   obtain rfl:q=(n,1+r2,o):=⇑hq
   exact#[N.ok n (dA hn),by show 1<=1+r2;omega,by show 1+r2<=1000000000;omega,gw]
  rw[cu,en,jr,hn];rfl
 rintro σ H4 ⟨v4,v5,v6,ys,ps,rfl,b4,gI,UC,uB,CU,OS,gp,en⟩;rw[ay,eN] at en;let ly:=bH CU;let lp:=dF List.length en;rw[ay] at lp;let hlen:=N.len;apply#[_,Z,_,Z,a,_,Z,.inl (.of uB),_,_,Z,Z,l,_,Z,by show (0:Int)<(ys.length:Int)+1;omega,by show (ys.length:Int)+1<1073741824;omega,gI,λtn H5 q0 q1 b5 gP=>?_];let#[tn,rfl]:=qT q0;let JU:=b5 _ _ uB j_.symm;apply#[_,Z,_,Z,_,Z,a,_,Z,.of JU,λp1 zq=>?_];rw[Ww];let s6:=aa.new (o:=.lst (ys.drop tn)) zq;apply#[_,Z,_,Z,_,Z,a,_,Z,.of (s6 _ _ JU),λp2 jA=>?_];rw[IE];let s7:=aa.new (o:=.lst (ys.take tn)) jA;apply#[p1,p2,_,_,Z,Z,s7 _ _ au,au,by rw[Ac,dJ];omega,λp3 Bp=>?_];let oQ:=s6.trans s7;let s8:=aa.new (o:=.lst (ys.drop tn++ys.take tn)) Bp;let XR:=b4.trans b5;let perm:=VZ ps tn;let pm:=perm.map (·.1);let all:=oQ.trans s8;apply k p3 _ (ps.drop tn++ps.take tn) _ (XR.trans (aP.of all)) (gP.same all) ((XR.trans (aP.of oQ)).free (gP.same oQ) Bp) au ?_ (λq hq=>gp q (perm.mem_iff.mp hq)) ?_ ?_ λq hq=>?_
 ·have h5:uO K _ ys ps:=Paired.bF CU λy q h=>(h.but b5 gI).same all;exact jG (Rw tn h5) (Lf tn h5)
 ·apply pm.nodup_iff.mpr ?_;rw[en];exact N.nd
 ·rw[perm.length_eq];omega
 let hm:=perm.mem_iff.mp hq
 have:q.1∈ns:=by
  rw[<- en];exact bG.mpr #[q,hm,Z]
 rcases N.end_ _ this with z|⟨kk,h1,h2⟩
 ·exact .inl z
 exact .inr #[kk,by omega,h2]
end
end Ev
abbrev aI:=List Ev.Pc
namespace L2
open PySem PySem.Spec PyProof.Rows PySem.W
section
variable{X:Cx}
inductive yW (K:af) (x:V) (y:V) (H:Hp) (Q:VK):Prop
 |mk:∀l b xs zs,x=.ref l->y=.ref b->dW K H l xs->H b\.lst zs->xs.length+zs.length<=sizeLine->(∀p,H p=none->Q (.ref p) (upd H p (.lst (xs++zs))))->yW K x y H Q
theorem kA_:dN X (binaryOp .Add) (yW X.K):=by
 intro pins s σ H x y v u Q I rx ry h;let#[l,b,xs,zs,rfl,rfl,hH,hB,hz,q]:=h;cases rx;cases ry;let#[its,r,pl,hl]:=I.list hH;let#[z2,gx,n2,r2,ja,e2]:=I.mL hB;let h1:=r.length;let#[#[cls,dd,data,sl],ho,hc,n,hd]:=id pl.isList;simp only at hc hd;subst hc hd;have e:its.toArray++gx.toArray=(its++gx).toArray:=by simp
 apply concat_meets ⟨_,ho,rfl⟩ ⟨_,e2,rfl⟩ noFill_list_add seq_list_add PySem.F.slot_list_add PySem.F.entry_list_add (PySem.F.args_list_add_2 _ _) (list_addW l b its.toArray gx.toArray n n2 _ _ _ _ (by rw[cq,cq];omega)) ⟨ho,e2,?_⟩;rw[e];exact⟨.ref _,_,I.xk (t':=s.toks) (r.append r2) (by rw[fA];omega),rfl,q _ I.fresh⟩
end
end L2
namespace Ev
open PySem L2
theorem NZ{α:Type}{p:α->Prop}{xs:List α}{r:Int}{n:Nat}(hn:xs.length=n)(h0:0<=r)(h1:r<(n:Int))(h:∀v∈xs,p v):∃v,fu xs r\v/\p v:=by
 have hl:r.toNat<xs.length:=by omega
 apply⟨xs[r.toNat],?_,h _ (nU hl)⟩;rw[gC h0 Z1,cE hl]
theorem sk{t u:TS}{D:Ends}{σ:St}{H:Hp}(R:kL)(later:∀σ H,R σ H->u D σ H)(now:∀N:St->Hp->Prop,(∀σ H,R σ H->N σ H)->t { D with nx:=N } σ H):p6 t u D σ H:=now (u D) later
theorem setG{i:Nat}{v:V}{σ:St}{H:Hp}{N:kL}(h:N (σ.set i (some v)) H):iA i v σ H N:=h
theorem ck.ne{H:Hp}{l a:Addr}(h:ck H l)(e:H a=none):a≠l:=by
 rintro rfl;let#[xs,h]:=h.some;rw[e] at h;cases h
end Ev
local macro_rules|`(tactic|lk)=>`(tactic|(refine Ev.setG ?_;dsimp only))
namespace Ev
open PySem L2
theorem WK{α:Type}{ps:List (Str × α)}(nd:(ps.map (·.1)).Nodup){a b:Str × α}(ha:a∈ps)(hb:b∈ps)(e:a.1=b.1):a=b:=by
 induction ps with
 |nil=>cases ha
 |cons p ps ih=>
  rw[dZ,lA] at nd;rcases cU.mp ha with za|ha
  ·rcases cU.mp hb with zb|hb
   ·rw[za,zb]
   rw[za] at e;exact absurd (show p.1∈ps.map (·.1) from bG.mpr #[b,hb,e.symm]) nd.1
  rcases cU.mp hb with zb|hb
  ·rw[zb] at e;exact absurd (show p.1∈ps.map (·.1) from bG.mpr #[a,ha,e]) nd.1
  exact ih nd.2 ha hb
def strOf(hs:Xa)(n:Str):Int:=((hs.find? λh=>decide (h.1=n)).map (·.2)).getD 0
theorem zW{hs:Xa}{n:Str}(h:n∈hs.map (·.1)):(n,strOf hs n)∈hs:=by
 unfold strOf;let#[x,hx,e]:=bG.mp h;cases q:hs.find? λh=>decide (h.1=n) with
 |none=>
  have:=List.find?_eq_none.mp q x hx;simp[e] at this
 |some y=>
  let m:=List.mem_of_find?_eq_some q;have:=List.find?_some q;have e2:y.1=n:=⇑this
  show (n,y.2)∈hs;rw[<- e2];exact m
theorem iU_{hs:Xa}(nd:(hs.map (·.1)).Nodup){n:Str}{s:Int}(h:(n,s)∈hs):strOf hs n=s:=by
 let m:=zW (bG.mpr #[_,h,Z]:n∈hs.map (·.1));exact dF Prod.snd (WK nd m h Z)
theorem iv_{a b:Int}(ha:0<=a)(h:0<b):Int.gcd b (a % b)=Int.gcd a b:=by
 let#[m,rfl]:=qT ha;let#[n,rfl]:=qT (Int.le_of_lt h);rw[<- Int.natCast_emod];show Nat.gcd n (m % n)=Nat.gcd m n;rw[Nat.gcd_comm n,<- Nat.gcd_rec,Nat.gcd_comm]
theorem lT_{a b:Int}(hb:0<b)(ph:b<=2000000):0<(Int.gcd a b:Int)/\(Int.gcd a b:Int)<1073741824:=by
 have h1:0<Int.gcd a b:=Int.gcd_pos_of_ne_zero_right a Z1;have h2:(Int.gcd a b:Int) ∣ b:=Int.gcd_dvd_right a b;let h3:=Int.le_of_dvd hb h2;omega
section v
theorem p7:bx ["one","other","rest","divisor","left"] qH (aX Mg):=bE
def EM:Sp:=λvs H Q _=>∃a b:Int,vs=[.int a,.int b]/\0<=a/\0<b/\Q (.int (Int.gcd a b)) H
theorem lU_{f:Addr}{fd:Ae}(F:bj K "greatest_divisor" "greatest_divisor" Mg f fd):!aq a9 1 f fd qH EM:=by
 exists F.bL p7;let#[a,b,rfl,ha,hb,k]:=h;refine' #[_,ax ?s1 (ax ?s2 (ax ?s3 ?s4)),?kk]
 case s1=>exact bq 2 p7.nd (pv 0)
 case s2=>exact bq 3 p7.nd (pv 1)
 case s3=>exact VM eM (dj B5 (pv 2) aC) (ax (bq 4 p7.nd (bN uX (pv 3) (pv 2))) (ax (bq 3 p7.nd (pv 2)) (aH (bq 2 p7.nd (pv 4)))))
 case s4=>exact aH (bg (pv 3))
 apply#[_,Z,_,Z,?_];apply iK_ (λσ H'=>H'=H/\∃(r d:Int) (v4:aL),σ=[some (.int a),some (.int b),some (.int r),some (.int d),v4]/\0<=r/\0<d/\Int.gcd r d=Int.gcd a b) (λσ _=>match σ with | [_,_,some (.int r),_,_]=>r.toNat|_=>0) #[Z,a,b,none,Z,ha,hb,Z] ?_ ?_
 ·rintro σ H' ⟨rfl,r,d,v4,rfl,hr0,hd,e⟩;apply#[_,Z,Z,_,Z,?_];apply aN (λc=>?_) (λc=>?_)
  ·have iH:0<r:=by
    have:r≠0:=by
     intro z;subst z;simp at c
    omega
   apply#[_,Z,_,Z,_,_,Z,Z,iH,_,Z,_,Z,?_];let h1:=Int.emod_nonneg d (Int.ne_of_gt iH);let h2:=Int.emod_lt_of_pos d iH;apply#[#[Z,_,_,_,Z,h1,iH,?_],?_]
   ·rw[<- e,Int.gcd_comm (d % r) r,iv_ (Int.le_of_lt hd) iH,Int.gcd_comm]
   show (d % r).toNat<r.toNat;omega
  have iH:r=0:=⇑c
  subst iH;apply#[_,Z,?_]
  have e2:(Int.gcd a b:Int)=d:=by
   rw[<- e,Int.gcd_zero_left];omega
  rw[<- e2];exact k
 intro σ H' Q1 Q2 hq h;let#[x,e,h1,c,h2,h3]:=h;exact#[x,e,h1,c,h2,hq _ _ h3]
end
end Ev
namespace L2
open PySem PySem.Spec PyProof.Rows
def J5(w:Af)(l:List (Str × Tok × Aa)):List Ah:=l.map λx=>#[hashStr w x.1,.str x.1 x.2.1,x.2.2]
def kP(K:af)(w:Af)(d:Addr)(kvs:List (Str × V)):Prop:=
 (d == sysModules)=false/\(kvs.map (·.1)).Nodup/\∃(l:List (Str × Tok × Aa)) (o:Obj) (es:Array Ah) (ep:Nat),K.lookup d\o/\o.ExactDict/\o.data=.dict es ep/\es.toList=J5 w l/\Paired (λ(p:Str × V) (x:Str × Tok × Aa)=>p.1=x.1/\RelV p.2 x.2.2) kvs l
theorem V3{P:Ad}{w:Af}:∀{l:List (Str × Tok × Aa)},Pairs (d_ P w) (J5 w l) (l.map λx=>((Sum.inr x.1:Key),x.2.2))
 |[]=>.nil
 |x::l=>.cons (Rv P w x.1 x.2.1) Z (V3 (l:=l))
theorem VY{kvs:List (Str × V)}{l:List (Str × Tok × Aa)}(h:Paired (λ(p:Str × V) (x:Str × Tok × Aa)=>p.1=x.1/\RelV p.2 x.2.2) kvs l):kvs.map (·.1)=l.map (·.1):=by
 induction h with
 |nil=>rfl
 |cons a _ ih=>rw[dZ,dZ,ih,a.1]
theorem kP.of{P:Ad}{K:af}{w:Af}{d:Addr}{kvs:List (Str × V)}{h:Heap}(k:kP K w d kvs)(X:K.In h):∃l:List (Str × Tok × Aa),Paired (λ(p:Str × V) (x:Str × Tok × Aa)=>p.1=x.1/\RelV p.2 x.2.2) kvs l/\h.DictOf (d_ P w) d (l.map λx=>((Sum.inr x.1:Key),x.2.2)):=by
 let#[_,nd,l,o,es,ep,ho,hx,hd,he,hp]:=k;apply#[l,hp,o,es,ep,X _ _ ho,hx,hd,λe m=>?_,?_,?_]
 ·have m:e∈J5 w l:=by
   rw[<- he];simpa using m
  let#[x,_,rfl]:=bG.mp m;exact#[Sum.inr x.1,Rv P w x.1 x.2.1,Z]
 ·rw[he];exact V3
 rw[VY hp] at nd;rw[b_,pL,qQ];rw[pL,qQ] at nd;exact nd.imp λn e=>n (h9 e)
theorem ka_{kvs:List (Str × V)}{l:List (Str × Tok × Aa)}(h:Paired (λ(p:Str × V) (x:Str × Tok × Aa)=>p.1=x.1/\RelV p.2 x.2.2) kvs l)(nd:(kvs.map (·.1)).Nodup){z:Str}{v:V}(m:(z,v)∈kvs):∃u,valueAt (l.map λx=>((Sum.inr x.1:Key),x.2.2)) (Sum.inr z)\u/\RelV v u:=by
 unfold valueAt
 induction h with
 |nil=>cases m
 |@cons p x kvs l a _ ih=>
  rw[dZ] at nd ⊢;rw[vc];let#[n1,n2]:=lA.mp nd;by_cases e:x.1=z
  ·rcases cU.mp m with m|m
   ·subst m;apply#[x.2.2,?_,a.2];simp[e]
   exact absurd (by rw[a.1,e];exact bG.mpr #[_,m,Z]) n1
  rcases cU.mp m with m|m
  ·subst m;exact absurd a.1.symm e
  have:=ih n2 m;simp[e];simpa using this
theorem hK_{kvs:List (Str × V)}{l:List (Str × Tok × Aa)}(h:Paired (λ(p:Str × V) (x:Str × Tok × Aa)=>p.1=x.1/\RelV p.2 x.2.2) kvs l)(z:Str):(valueAt (l.map λx=>((Sum.inr x.1:Key),x.2.2)) (Sum.inr z)).isSome=decide (z∈kvs.map (·.1)):=by
 rw[VY h];unfold valueAt;rw[Option.isSome_map,List.isSome_find?];rw[Bool.eq_iff_iff,List.any_eq_true,decide_eq_true_iff];constructor
 ·rintro⟨kv,hm,e⟩;let#[x,hx,rfl]:=bG.mp hm;have e:(Sum.inr x.1:Key)=Sum.inr z:=⇑e
  exact bG.mpr #[x,hx,h9 e]
 intro m;let#[x,hx,e]:=bG.mp m;exact#[_,bG.mpr #[x,hx,Z],by simp[e]]
section
variable{X:Cx}{o i:Expr}{pos:Pos}{td ty:TE}
inductive yF (K:af) (w:Af) (Q:VK) (y:V) (x:V) (H2:Hp):Prop
 |mk:∀d kvs z,x=.ref d->kP K w d kvs->y=.str z->Q (.bl (decide (z∈kvs.map (·.1)))) H2->yF K w Q y x H2
def LU(K:af)(w:Af)(ty td:TE):TE:=λσ H Q=>ty σ H λy H1=>td σ H1 λx H2=>yF K w Q y x H2
theorem la_(hi:PE X i ty)(ho:PE X o td):PC X .In i o (LU X.K X.w ty td):=by
 intro pins s σ H Q I h;apply aR (hi pins s σ H _ I h) λiv s1 ⟨y,H1,I1,ry,q1⟩=>aR (ho pins s1 σ H1 _ I1 q1) λu s2 ⟨x,H2,I2,rx,d,kvs,z,ex,kd,ey,q2⟩=>?_;subst ex;subst ey;obtain rfl:u=Value.ref d:=rx;let#[l,hp,dd]:=kd.of (P:=X.prog) I2.gr;apply wpAny_in_of (vY (k:=Sum.inr z) ry) kd.1 dd.mapOf ?_;rw[hK_ hp];exact#[.bl _,H2,I2.tok _,Z,q2]
inductive rF (K:af) (w:Af) (Q:VK) (x:V) (y:V) (H2:Hp):Prop
 |mk:∀d kvs z v,x=.ref d->kP K w d kvs->y=.str z->(z,v)∈kvs->Q v H2->rF K w Q x y H2
def EC(K:af)(w:Af)(td ty:TE):TE:=λσ H Q=>td σ H λx H1=>ty σ H1 λy H2=>rF K w Q x y H2
theorem ks_(ho:PE X o td)(hi:PE X i ty)(hs:vn i):PE X (.Subscript o i pos) (EC X.K X.w td ty):=by
 intro pins s σ H Q I h;apply Ky PySem.F.slot_dict_getitem.lookup hs (aR (ho pins s σ H _ I h) λu s1 ⟨x,H1,I1,rx,q1⟩=>aR (hi pins s1 σ H1 _ I1 q1) λiv s2 ⟨y,H2,I2,ry,d,kvs,z,v,ex,kd,ey,hm,q2⟩=>?_);subst ex;subst ey;obtain rfl:u=Value.ref d:=rx;let#[l,hp,dd]:=kd.of (P:=X.prog) I2.gr;let#[w',hw,mF]:=ka_ hp kd.2.1 hm;exact#[dd.mapOf.typeIs,wpAny_getItem_of (vY (k:=Sum.inr z) ry) dd.mapOf hw #[v,H2,I2.tok _,mF,q2]]
end
end L2
namespace Ev
open PySem L2
abbrev Rl:=Str × Str × Str × Option Str
def rl:List Rl:=[("least one high","least","one",some "high"),("least one fall","least","one",some "fall"),("least one calm","least","one",some "calm"),("least all high","least","all",some "high"),("least all fall","least","all",some "fall"),("least all calm","least","all",some "calm"),("below one high","below","one",some "high"),("below one fall","below","one",some "fall"),("below one calm","below","one",some "calm"),("below all high","below","all",some "high"),("below all fall","below","all",some "fall"),("below all calm","below","all",some "calm"),("shares one","shares","one",none),("shares all","shares","all",none),("turns high","turns","all",some "high"),("turns fall","turns","all",some "fall"),("turns calm","turns","all",some "calm")]
def tU:Option Str->V
 |some x=>.str x
 |none=>.non
def mG:ae:=rl.map (·.1)
theorem hD_:mG.Nodup:=by decide +kernel
def SN(as:ai):List (Str × V):=List.zipWith (λ(r:Rl) a=>(r.1,V.ref a)) rl as
structure Kq (K:af) (w:Af) (mg:Str->Option Aa) (d:Addr) (as:ai):Prop where
 mg:mg "RULES"\.ref d
 len:as.length=17
 kd:kP K w d (SN as)
 tup:Paired (λa (r:Rl)=>∀H,fN K H a [.str r.2.1,.str r.2.2.1,tU r.2.2.2]) as rl
theorem Wv{as:ai}(h:as.length=17):(SN as).map (·.1)=mG:=by
 have:∀(rs:List Rl) (as:ai),as.length=rs.length->(List.zipWith (λ(r:Rl) a=>(r.1,V.ref a)) rs as).map (·.1)=rs.map (·.1):=by
  intro rs
  induction rs with
  |nil=>intro as _;rfl
  |cons r rs ih=>
   intro as e;cases as with
   |nil=>cases e
   |cons a as=>
    rw[List.zipWith_cons_cons,dZ,dZ,ih as ⇑e]
 exact this rl as h
theorem T_{K:af}:∀{rs:List Rl} {as:ai},Paired (λa (r:Rl)=>∀H,fN K H a [.str r.2.1,.str r.2.2.1,tU r.2.2.2]) as rs->∀r∈rs,∃a,(r.1,V.ref a)∈List.zipWith (λ(r:Rl) a=>(r.1,V.ref a)) rs as/\∀H,fN K H a [.str r.2.1,.str r.2.2.1,tU r.2.2.2]
 |_,_,.nil,r,h=>by cases h
 |r0::rs,a::as,.cons h t,r,m=>by
  rw[List.zipWith_cons_cons];rcases cU.mp m with rfl|m
  ·exact#[a,fM,h]
  let#[b,hb,hs]:=T_ t r m;exact#[b,eR _ hb,hs]
def FN(ns:ae):Option Str->Bool
 |some x=>decide (x∈ns)
 |none=>false
section v
theorem sJ:bx fI fI (aX Px):=bE
def VF:Sp:=λvs H Q _=>∃r∈rl,vs=[.str r.1]/\Q (.bl true) H
theorem ic_{f d:Addr}{as:ai}{fd:Ae}(F:bj K "is_rule" "is_rule" Px f fd)(B:Bi mg)(R:Kq K w mg d as):!aq a9 1 f fd fI VF:=by
 exists F.bL sJ;let#[r,cc,rfl,k]:=h;apply#[_,aH (bg (ny (cy jq (by rfl) B.iP iU %[0,jn (v:=.ty "str") (by rfl) B.str G_ Z|0]) (nu (GT (la_ (pv 0) (Ct (v:=.ref d) (by rfl) R.mg Z)))))),?_];apply#[_,Z,_,_,_,_,Z,.str r.1,Z,_,Z,dD #[_,Z,d,_,r.1,Z,R.kd,Z,?_]];rw[Wv R.len,show decide (r.1∈mG)=true from cb (bG.mpr #[r,cc,Z])];exact k
theorem wL:bx ["rule"] ["rule"] (aX lW):=bE
def Io(K:af):Sp:=λvs H Q _=>∃r∈rl,vs=[.str r.1]/\∀a,(∀H',fN K H' a [.str r.2.1,.str r.2.2.1,tU r.2.2.2])->Q (.ref a) H
theorem iN_{f d:Addr}{as:ai}{fd:Ae}(F:bj K BU BU lW f fd)(R:Kq K w mg d as)(cI:!aY 1 "is_rule" fI VF):!aq a9 2 f fd ["rule"] (Io K):=by
 exists F.bL wL;let#[r,cc,rfl,k]:=h;apply#[_,ax (bO (eY (eK (aQ cI hr %[0|0]))) (aH jg_) bP) (aH (bg (ks_ (Ct (v:=.ref d) (by rfl) R.mg Z) (pv 0) (λ_ _=>rfl)))),?_];let#[a,ha,hs]:=T_ R.tup r cc;exact#[_,Z,r,cc,Z,_,Z,a_ #[_,Z,d,_,r.1,.ref a,Z,R.kd,Z,ha,k a hs]]
end
end Ev
namespace Ev
open PySem L2
def kI(K:af)(H:Hp)(v:V):Option Str->Prop
 |some x=>v=.str x
 |none=>∃t,fi K H v t/\PySem.W.kitOne K t (.type "str")\false
def jO(hs:Xa)(ts:Xb):Option Str->Option Str->Bool
 |some x,some y=>decide (x∈hs.map (·.1))&&(decide (y∈hs.map (·.1))&&decide (y∈near (aF hs) (aM ts) x))
 |_,_=>false
theorem Qz(hs:Xa)(ts:Xb)(x y:Str):jO hs ts (some x) (some y)=(decide (x∈hs.map (·.1))&&(decide (y∈hs.map (·.1))&&decide (y∈near (aF hs) (aM ts) x))):=rfl
section v
inductive lQ (K:af) (C:Addr) (vs:ag) (H:Hp) (Q:VK) (E:XK):Prop
 |mk:∀(p:Addr) (v:V) (x:Option Str) (hs:Xa) (ts:Xb) (fp:ai),vs=[.ref p,v]->fq K C H p hs ts fp->kI K H v x->Q (.bl (FN (hs.map (·.1)) x)) H->lQ K C vs H Q E
theorem kO_{f C:Addr}{fd:Ae}(F:bj K "has_hand" "Web.has_hand" wZ f fd)(T:Txt K mg C)(B:Bi mg):!aq a9 1 f fd pF (lQ K C):=by
 exists F.bL yN;let#[p,v,x,hs,ts,fp,rfl,W,sv,k]:=h;let hu:=gD hr;let#[dx,d1,l2,d3,zs,as,rfl,h1,h2,h3,h4,h5,h6,h7]:=W.ex;apply#[_,aH (bg (ny (cy jq (by rfl) B.iP iU %[1,jn (v:=.ty "str") (by rfl) B.str G_ Z|0]) (nu (GT (DL hu (pv 1) (dG (pv 0) Z)))))),?_];cases x with
 |some x=>
  cases (show v=.str x from sv);apply#[_,Z,_,_,_,_,Z,.str x,Z,_,Z,dD ?_];apply#[_,Z,_,Z,p,C,dx,_,_,Z,h1,T.cl,T.nS,J1 _ _ _,d1,_,Z,.k (k:=Sum.inr x) h2,?_];rw[KF];exact k
 |none=>
  let#[t,ty,e]:=sv;exact#[_,Z,_,_,_,_,Z,ty,e,_,Z,a_ k]
inductive Kp (K:af) (C:Addr) (vs:ag) (H:Hp) (Q:VK) (E:XK):Prop
 |mk:∀(p:Addr) (v u:V) (x y:Option Str) (hs:Xa) (ts:Xb) (fp:ai),vs=[.ref p,v,u]->fq K C H p hs ts fp->(aF hs).Nodup->kI K H v x->kI K H u y->Q (.bl (jO hs ts x y)) H->Kp K C vs H Q E
theorem jl_{f C:Addr}{fd:Ae}(F:bj K "are_tied" "Web.are_tied" sT f fd)(T:Txt K mg C)(cH:!br C 1 "has_hand" pF (lQ K C)):!aq a9 2 f fd k8 (Kp K C):=by
 exists F.bL AG;let#[p,v,u,x,y,hs,ts,fp,rfl,W,nd,sv,su,k]:=h;let hu:=gD hr;let#[dx,d1,l2,d3,zs,as,rfl,h1,h2,h3,h4,h5,h6,h7]:=id W.ex;have kX:(dg d1 l2 d3).lookup ("has_hand":Str)=none:=iM _ _ _ Z0 Z0 Z0;apply#[_,aH (bg (ny (ft cH T.cl hr (pv 0) %[1|0]) (ny (ft cH T.cl hr (pv 0) %[2|0]) (nu (qp (Ov hZ (nC hr 0)) (pv 2) (kq hu (dG (pv 0) Z) (pv 1)) (by with_unfolding_all rfl)))))),?_];apply#[_,Z,p,dx,_,Z,h1,kX,_,Z,p,v,x,hs,ts,_,Z,W,sv,_,Z,?_];cases x with
 |none=>exact a_ k
 |some x=>
  cases (show v=.str x from sv);apply aN (λc=>?_) (λc=>?_)
  ·have hx:x∈hs.map (·.1):=xY c;let#[a,e1,ha]:=TZ nd hx h6 h7;apply#[_,Z,p,dx,_,Z,h1,kX,_,Z,p,u,y,hs,ts,_,Z,W,su,_,Z,?_];cases y with
   |none=>exact a_ k
   |some y=>
    cases (show u=.str y from su);rw[Qz,cb hx,Bool.true_and] at k;apply aN (λc2=>?_) (λc2=>?_)
    ·have hy:y∈hs.map (·.1):=xY c2;rw[cb hy,Bool.true_and] at k;apply#[_,Z,_,Z,p,C,dx,_,_,Z,h1,T.cl,T.nN,Ng _ _ _,_,Z,d3,.ref a,Z,?_,y,_,Z,#[a,_,Z,.of ha,Iq _],k];rw[<- e1];exact .k (k:=Sum.inr x) h5
    have hy:¬y∈hs.map (·.1):=λz=>c2 (cb z);rw[dH hy,Bool.false_and] at k;exact k
  have hx:¬x∈hs.map (·.1):=λz=>c (cb z);cases y with
  |none=>exact k
  |some y=>
   rw[Qz,dH hx,Bool.false_and] at k;exact k
theorem jh_{hs:Xa}{ts ws:Xb}(G:Good hs ts)(W:GW ts ws){t:Str × Str}(ht:t∈aM ws):jO hs ts (some t.1) (some t.2)=true:=by
 let#[x,hx,ex]:=WB.mp ht;let#[u,hu,eu]:=bG.mp (W.FK x hx);have eo:aU u.1 u.2=t:=(G4 eu).trans ex
 have both:t.1∈hs.map (·.1)/\t.2∈hs.map (·.1)/\aU t.1 t.2=t:=by
  let#[g1,g2]:=G.Ja u hu;rcases Km u.1 u.2 with e|e
  ·rw[<- eo,e];exact#[g1,g2,e]
  rw[<- eo,e];exact#[g2,g1,(WL _ _).trans e]
 let#[m1,m2,m3]:=both;have m4:t.2∈near (aF hs) (aM ts) t.1:=List.mem_filter.mpr #[(iW hs).mem_iff.mpr m2,cb (by rw[m3];exact WB.mpr #[u,hu,eo])];rw[Qz,cb m1,cb m2,cb m4];rfl
theorem Kz:bx ["web","ways","found","one","other"] ["web","ways"] (aX mD):=bE
inductive Pd (K:af) (C:Addr) (vs:ag) (H:Hp) (Q:VK) (E:XK):Prop
 |mk:∀(p:Addr) (v:V) (o:Option (Xb)) (hs:Xa) (ts:Xb) (fp:ai),vs=[.ref p,v]->fq K C H p hs ts fp->Good hs ts->cB K H v o->(∀ws,o\ws->GW ts ws)->(∀v' H',aa H H'->cB K H' v' (o.map aM)->(∀a,v'=.ref a->H a=none)->Q v' H')->Pd K C vs H Q E
theorem im_{f C:Addr}{fd:Ae}(F:bj K "checked_ways" "checked_ways" mD f fd)(T:Txt K mg C)(cS:!aY 3 "sorted_ties" ["ties"] (Qf K))(cT:!br C 2 "are_tied" k8 (Kp K C)):!aq a9 4 f fd ["web","ways"] (Pd K C):=by
 exists F.bL Kz;let#[p,v,o,hs,ts,fp,rfl,W,G,wy,gw,k]:=h;let hu:=gD hr;have uo:bf 2 _:=hr.mono (by decide)
 apply#[_,ax (bO (wj (J2 (pv 1))) (aH (bg xW)) bP)
  (ax (bq 2 Kz.nd (aQ cS hr %[1|0]))
  (ax (bO (wj (J2 (pv 2))) eD bP)
  (ax (eX eM Z (d5 (pv 2)) (pJ Z (d6 (cO 3 Kz.nd) (d6 (cO 4 Kz.nd) jI)))
   (aH (bO (eY (eK (ft cT T.cl uo (pv 0) %[3,4|0]))) eD bP)))
  (aH (bg (pv 2)))))),?_]
 cases o with
 |none=>
  cases (show v=.non from wy);exact#[_,Z,_,Z,dD (k .non H (aa.refl H) Z (λa z=>by cases z))]
 |some ws=>
  let#[a,ys,rfl,ha,tu]:=wy;let Wo:=gw ws Z;apply#[_,Z,_,Z,a_ ?_];apply#[_,Z,a,ys,ws,Z,ha,tu,Wo.good,Wo.nd,by have:=Wo.len;have:=G.rN;omega,λl' zs H1 s1 hf fS tz=>?_];apply#[_,Z,_,Z,a_ ?_];let W1:=W.same s1;let#[dx,d1,l2,d3,ju,as,rfl,h1,h2,h3,h4,h5,h6,h7]:=id W1.ex;have kX:(dg d1 l2 d3).lookup ("are_tied":Str)=none:=iM _ _ _ Z0 Z0 Z0;rw[<- KW] at tz;apply#[_,Z,l',Z,#[_,.of fS],ie (K:=K) (a:=l') (xs:=zs) (λi σ H2=>∃(v3 v4:aL),σ=[some (.ref p),some (.ref a),some (.ref l'),v3,v4]/\H2=H1) #[none,none,Z,Z] (λi σ H2 _ ⟨_,_,_,e⟩=>by subst e;exact .of fS) ?_ ?_]
  ·rintro i y σ H2 hy ⟨v3,v4,rfl,rfl⟩;let#[t,ht,q,rfl,hq]:=nX tz hy;apply#[q,_,Z,.of (zp hq),Z,_,_,Z,_,_,Z,Z,?_];apply#[_,Z,p,dx,_,Z,h1,kX,_,Z,_,Z,p,_,_,some t.1,some t.2,hs,ts,_,Z,W1,G.uc,Z,Z,_,Z,?_];rw[jh_ G Wo (dA ht)];apply a_ ?_;exact#[_,_,Z,Z]
  rintro σ H2 ⟨v3,v4,rfl,rfl⟩;exact#[_,Z,k (.ref l') _ s1 #[l',zs,Z,fS,tz] (λc z=>by cases z;exact hf)]
def CV(p:Pc):Pc:=(p.1,p.2.1,p.2.2.map aM)
def qJ(K:af)(H0 H:Hp)(y:V)(p:Pc):Prop:=∃t v,y=.ref t/\H t\.tup [.str p.1,.int p.2.1,v]/\cB K H v p.2.2/\∀a,v=.ref a->H0 a=none
theorem qJ.same{K:af}{H0 H H':Hp}{y:V}{p:Pc}(h:qJ K H0 H y p)(s:aa H H'):qJ K H0 H' y p:=by
 let#[t,v,e,ht,hv,hn]:=h;exact#[t,v,e,s _ _ ht,hv.same s,hn]
theorem cB.up{K:af}{H:Hp}{D:Addr}{u:HO}{v:V}{o:Option (Xb)}(h:cB K H v o)(n1:∀xs,H D≠some (.lst xs))(n2:∀xs,H D≠some (.tup xs)):cB K (upd H D u) v o:=by
 cases o with
 |none=>exact h
 |some ws=>
  let#[a,ys,e,ha,t]:=h;exact#[a,ys,e,by rw[aA (λz:a=D=>n1 ys (z▸ha))];exact ha,Paired.bF t λy k ⟨b,z,q⟩=>#[b,z,by rw[aA (λz:b=D=>n2 _ (z▸q))];exact q]]
theorem qJ.up{K:af}{H0 H:Hp}{D:Addr}{u:HO}{y:V}{p:Pc}(h:qJ K H0 H y p)(n1:∀xs,H D≠some (.lst xs))(n2:∀xs,H D≠some (.tup xs)):qJ K H0 (upd H D u) y p:=by
 let#[t,v,e,ht,hv,hn]:=h;exact#[t,v,e,by rw[aA (λz:t=D=>n2 _ (z▸ht))];exact ht,hv.up n1 n2,hn]
theorem Qg{ps:aI}{cs:ag}(nd:(ps.map (·.1)).Nodup)(hl:cs.length=ps.length):∀{j:Nat} {q:Pc} {c:V},ps[j]? = some q->cs[j]? = some c->bK ((ps.zip cs).map λq=>((Sum.inr q.1.1:Key),q.2)) (Sum.inr q.1)\c:=by
 induction ps generalizing cs with
 |nil=>
  intro j q c h;simp at h
 |cons p ps ih=>
  intro j q c h1 h2;cases cs with
  |nil=>cases hl
  |cons b cs=>
   rw[dZ] at nd;let#[n1,n2]:=lA.mp nd;cases j with
   |zero=>
    have e1:p=q:=⇑h1
    have e2:b=c:=⇑h2
    subst e1 e2;exact Cv Z
   |succ j=>
    have h1:ps[j]? = some q:=⇑h1
    have h2:cs[j]? = some c:=⇑h2
    show bK ((Sum.inr p.1,b)::((ps.zip cs).map λq=>((Sum.inr q.1.1:Key),q.2))) (Sum.inr q.1)=_;rw[Cm λe=>n1 (by rw[show p.1=q.1 from h9 e];exact bG.mpr #[q,dA h1,Z])];exact ih n2 ⇑hl h1 h2
theorem sP:bx ["web","piece"] ["web","piece"] (aX Pw):=bE
inductive Qc (K:af) (C:Addr) (vs:ag) (H:Hp) (Q:VK) (E:XK):Prop
 |mk:∀(p:Addr) (y:V) (q:Pc) (hs:Xa) (ts:Xb) (fp:ai),vs=[.ref p,y]->fq K C H p hs ts fp->Good hs ts->kJ K H y q->DC ts q->(∀y' H',aa H H'->qJ K H H' y' (CV q)->Q y' H')->Qc K C vs H Q E
theorem if_{f C:Addr}{fd:Ae}(F:bj K "checked_piece" "checked_piece" Pw f fd)(B:Bi mg)(cN:!aY 1 "is_name" fI J6)(cW:!aY 2 "is_whole_within" kC PM)(cC:!aY 4 "checked_ways" ["web","ways"] (Pd K C)){tk:Tok}(mW:mg "MOST_WEIGHT"\.int 1000000000 tk) :
  aq P w K mg base a9 5 f fd ["web","piece"] (Qc K C):=by
 exists F.bL sP;let#[p,y,q,hs,ts,fp,rfl,W,G,#[t,v,rfl,ht,wy],gp,k]:=h
 apply#[_,ax (bO (xM (eY (eK (cy jq (by rfl) B.iP iU %[1,jn (v:=.ty "tuple") (by rfl) B.tuple zV Z|0])))
   (xX (dj B5 (cy iL (by rfl) B.len ia %[1|0]) aC))).pt eD bP)
  (ax (bO (eY (eK (aQ cN hr %[bM dz (pv 1) aC|0]))) eD bP)
  (ax (bO (eY (eK (aQ cW hr %[bM dz (pv 1) aC,aC,Ct (v:=.int 1000000000) (by rfl) mW #[tk,Z]|0]))) eD bP)
  (aH (bg (fB %[bM dz (pv 1) aC,bM dz (pv 1) aC,aQ cC hr %[0,bM dz (pv 1) aC|0]|0]))))),?_]
 apply#[_,Z,_,_,_,_,Z,.tup ht,Z,_,Z,a_ ?_];apply#[_,Z,t,_,Z,.inr (.of ht),Z,_,Z,?_];apply uh (show V.int ((3:Nat):Int)=V.int 3 from Z) ?_;apply#[_,Z,t,_,_,_,Z,Z,.of ht,Z,q.1,Z,by have:=Le gp.nm;omega,λH1 s1=>#[_,Z,?_]];rw[gp.nm];apply a_ ?_;let zm:=s1 _ _ ht;apply#[_,Z,t,_,_,_,Z,Z,.of zm,Z,q.2.1,1,1000000000,Z,_,Z,?_];rw[cb gp.w1,cb gp.w2];apply a_ ?_;apply#[_,Z,t,_,_,_,Z,Z,.of zm,Z,_,Z,t,_,_,_,Z,Z,.of zm,Z,_,Z,_,Z,t,_,_,_,Z,Z,.of zm,Z,p,v,q.2.2,hs,ts,fp,Z,W.same s1,G,wy.same s1,gp.ws,λv' H2 s2 YC hf=>?_];apply#[zl,λt' iu=>?_];exact k (.ref t') _ (s1.trans (s2.trans (aa.new iu))) #[t',v',Z,au,YC.same (aa.new iu),λa z=>s1.free (hf a z)]
theorem KU:bx ["web","pieces","found","piece","checked"] ["web","pieces"] (aX Qr):=bE
structure Qs (ps qs:aI):Prop where
 CY:qs.map (·.1)=nF (ps.map (·.1))
 mem:∀q∈qs,∃p∈ps,q=CV p
inductive Ro (K:af) (C:Addr) (vs:ag) (H:Hp) (Q:VK) (E:XK):Prop
 |mk:∀(p l:Addr) (ys:ag) (ps:aI) (hs:Xa) (ts:Xb) (fp:ai),vs=[.ref p,.ref l]->fq K C H p hs ts fp->Good hs ts->H l\.lst ys->uO K H ys ps->(∀q∈ps,DC ts q)->(ps.map (·.1)).Nodup->ps.length<64->(∀l' zs qs H',aa H H'->H' l'\.lst zs->Paired (qJ K H H') zs qs->Qs ps qs->Q (.ref l') H')->Ro K C vs H Q E
theorem bp{H:Hp}{a:Addr}{o:HO}(n:H a=none):aa H (upd H a o)/\upd H a o a\o:=⟨aa.new n,au⟩
theorem gn_{f C:Addr}{fd:Ae}(F:bj K "checked_pieces" "checked_pieces" Qr f fd)(B:Bi mg)(cP:!aY 5 "checked_piece" ["web","piece"] (Qc K C)):!aq a9 6 f fd ["web","pieces"] (Ro K C):=by
 exists F.bL KU;let#[p,l,ys,ps,hs,ts,fp,rfl,W,G,hl,pc,gp,nd,bS,k]:=h;let hu:=gD hr;let sz:=cn;let le:=bH pc
 apply#[_,ax (bO (eY (eK (cy jq (by rfl) B.iP iU %[1,jn (v:=.ty "list") (by rfl) B.list Cq Z|0]))) eD bP)
  (ax (bq 2 KU.nd Ip)
  (ax (eX eM Z (d5 (pv 1)) (cO 3 KU.nd)
   (ax (bq 4 KU.nd (aQ cP hr %[0,3|0]))
   (ax (bO (wj (DL hu (bM dz (pv 4) aC) (pv 2))) eD bP)
   (aH (yd hu (pv 2) (bM dz (pv 4) aC) (pv 4) Z)))))
  (aH (bg (iV ["name","found"] 1 [2] (d5 (cy (f1_ Z) (by rfl) B.sorted Lc %[2|0])) (λfp s H=>eW (i:=0) (show (["name","found"]:ae).Nodup by decide +kernel) Z (Or.inl Z)) (λfp s H=>ij)
   (λfp s H=>kq hu (pv 1) (pv 0))))))),?_]
 apply#[_,Z,_,_,_,_,Z,.lst hl,Z,_,Z,a_ ?_];intro d hd;have s0:aa H (upd H d (.dK [])):=aa.new hd;apply#[_,Z,l,Z,#[_,.of (s0 _ _ hl)],ie (K:=K) (a:=l) (xs:=ys) (λi σ H2=>∃(v3 v4:aL) (cs:ag),σ=[some (.ref p),some (.ref l),some (.ref d),v3,v4]/\aa H H2/\Paired (qJ K H H2) cs ((ps.take i).map CV)/\H2 d\.dK (((ps.take i).zip cs).map λq=>(Sum.inr q.1.1,q.2))) #[none,none,[],Z,s0,.nil,au] (λi σ H2 _ ⟨_,_,_,_,s2,_⟩=>.of (s2 _ _ hl)) ?_ ?_]
 ·rintro i y σ H2 hy ⟨v3,v4,cs,rfl,s2,pn,hd2⟩;have hi:i<ys.length:=(cw.mp hy).1;have hq:ps[i]? = some (ps[i]' Z1):=cE Z1;let py:=ig pc i hi Z1;rw[(cw.mp hy).2] at py;generalize ps[i]' Z1=q at hq py;apply#[_,Z,_,Z,p,y,q,hs,ts,fp,Z,W.same s2,G,py.same s2,gp q (dA hq),λy' H3 s3 pw=>?_];let#[t,v,rfl,ht,wy,hf]:=pw;let mU:=s3 _ _ hd2;let lc:=bH pn;rw[ay,dJ] at lc
  have keys:((((ps.take i).zip cs).map λq=>((Sum.inr q.1.1:Key),q.2)).map (·.1))=((ps.take i).map (·.1)).map Sum.inr:=by
   rw[b_];have:((λx:Key × V=>x.1) ∘ λq:Pc × V=>((Sum.inr q.1.1:Key),q.2))=(λp:Pc=>(Sum.inr p.1:Key)) ∘ Prod.fst:=rfl;rw[this,<- b_,List.map_fst_zip (by rw[dJ];omega),b_];rfl
  have vG:bK (((ps.take i).zip cs).map λq=>((Sum.inr q.1.1:Key),q.2)) (Sum.inr q.1)=none:=Ai (by
   rw[keys];intro m;let#[x,hx,e]:=bG.mp m;cases e;exact Iw (g:=λp:Pc=>p.1) nd hq hx)
  apply#[_,Z,t,_,_,_,Z,Z,.of ht,Z,_,Z,d,_,Z,.k (k:=Sum.inr q.1) mU,_,Z,?_];rw[vG];apply a_ ?_;apply#[_,Z,_,Z,_,Z,t,_,_,_,Z,Z,.of ht,Z,d,_,Z,.k (k:=Sum.inr q.1) mU (by rw[ay,List.length_zip,dJ];omega),?_];let A2:=s2.trans s3;have n1:∀xs,H3 d≠some (.lst xs):=λxs z=>by rw[mU] at z;cases z
  have n2:∀xs,H3 d≠some (.tup xs):=λxs z=>by rw[mU] at z;cases z
  apply#[_,_,cs++[.ref t],Z,λc o e=>?_,?_,?_]
  ·rw[aA (bw e hd)];exact A2 _ _ e
  ·rw[jr,hq,cu];exact jG (Paired.bF pn λy q h=>(h.same s3).up n1 n2) (.cons (qJ.up #[t,v,Z,ht,wy,λa z=>s2.free (hf a z)] n1 n2) .nil)
  rw[au,D8 _ vG,jr,hq,List.zip_append (by rw[dJ];omega),cu];rfl
 rintro σ H2 ⟨v3,v4,cs,rfl,s2,pn,hd2⟩;rw[le,eN] at pn hd2;let lc:=bH pn;rw[ay] at lc
 have keys:(((ps.zip cs).map λq=>((Sum.inr q.1.1:Key),q.2)).map (·.1))=(ps.map (·.1)).map Sum.inr:=by
  rw[b_];have:((λx:Key × V=>x.1) ∘ λq:Pc × V=>((Sum.inr q.1.1:Key),q.2))=(λp:Pc=>(Sum.inr p.1:Key)) ∘ Prod.fst:=rfl;rw[this,<- b_,List.map_fst_zip Z1,b_];rfl
 apply#[_,Z,d,_,ps.map (·.1),Z,hd2,keys,by rw[ay];exact bS,λls JJ=>?_];let#[s3,pd]:=bp (o:=.lst ((nF (ps.map (·.1))).map V.str)) JJ;apply#[ls,Z,#[_,.of pd],λD hD=>?_];generalize upd H2 ls (.lst ((nF (ps.map (·.1))).map V.str))=H3 at s3 pd hD ⊢;have lss:(nF (ps.map (·.1))).length=ps.length:=by rw[(yi _).length_eq,ay]
 apply jK (own:=1) (fv:=[some (.ref d)]) (xs:=(nF (ps.map (·.1))).map V.str) Z dR (λi out H'=>∃qs:aI,aa H3 H'/\H' D\.lst out/\Paired (qJ K H H2) out qs/\qs.map (·.1)=(nF (ps.map (·.1))).take i/\∀q∈qs,∃p∈ps,q=CV p) #[[],aa.new hD,au,.nil,Z,by simp] (λi out H' _ ⟨_,sm,_⟩=>.of (sm _ _ pd)) (λzs H4 ⟨qs,s4,qD,pq,en,mem⟩=>?_) (λi x out H' hx ⟨qs,sm,dE,pq,en,mem⟩=>?_)
 ·rw[ay,eN] at en;exact k D zs qs H4 (s2.trans (s3.trans s4)) qD (Paired.bF pq λy q h=>h.same (s3.trans s4)) #[en,mem]
 let#[n,hn,rfl]:=iT hx;have hm:n∈ps.map (·.1):=(yi _).mem_iff.mp (dA hn);let#[q,hq,eq]:=bG.mp hm;let#[j,hj,ej]:=ku hq;have hqj:ps[j]? = some q:=by rw[cE hj,ej]
 have UV:cs[j]? = some (cs[j]' Z1):=cE Z1;let hv:=Qg nd lc hqj UV;let pj:=ig pn j Z1 (by rw[ay];omega);rw[List.getElem_map,ej] at pj;generalize cs[j]' Z1=c at UV hv pj;rw[eq] at hv;let lo:=bH pq;let lq:=dF List.length en;rw[ay,dJ] at lq;have hi:i<(nF (ps.map (·.1))).length:=(cw.mp hn).1;apply#[_,Z,Z,λNx hN=>dB ?_];apply#[_,Z,_,Z,d,c,Z,?_,out,dE,by omega,hN _ _ #[qs++[CV q],gU sm hD,au,?_,?_,?_]]
 ·rw[<- hv];exact .k (k:=Sum.inr n) (sm _ _ (s3 _ _ hd2))
 ·exact jG pq (.cons pj .nil)
 ·rw[cu,en,jr,hn,<- eq];rfl
 intro q' hq';rcases fL.mp hq' with hq'|hq'
 ·exact mem q' hq'
 obtain rfl:q'=CV q:=⇑hq'
 exact#[q,hq,Z]
end
end Ev
namespace Ev
open PySem L2
abbrev mB:Stmt:=jE Hj 0
abbrev tG:Stmt:=jE Hj 1
abbrev Pr:Stmt:=jE Hj 2
abbrev Ql:Stmt:=jE Hj 3
abbrev tF:Stmt:=jE Hj 5
def bY(p dw dy:Addr):List (Str × V):=aD B2 (.ref dy) (aD qL (.ref dw) (aD "web" (.ref p) []))
theorem g12:¬(("web":Str)=qL):=by decide +kernel
theorem g13:¬(("web":Str)=B2):=by decide +kernel
theorem g23:¬((qL:Str)=B2):=by decide +kernel
theorem kA(p dw dy:Addr):(bY p dw dy).lookup ("web":Str)\.ref p:=by
 unfold bY;rw[eZ,aB g13,eZ,aB g12,eZ,aJ Z]
theorem Pq(p dw dy:Addr):(bY p dw dy).lookup (qL:Str)\.ref dw:=by
 unfold bY;rw[eZ,aB g23,eZ,aJ Z]
theorem kv_(p dw dy:Addr):(bY p dw dy).lookup (B2:Str)\.ref dy:=by
 unfold bY;rw[eZ,aJ Z]
theorem uZ(p dw dy:Addr){m:Str}(h1:¬m="web")(h2:¬m=qL)(h3:¬m=B2):(bY p dw dy).lookup m=none:=by
 unfold bY;rw[eZ,aB h3,eZ,aB h2,eZ,aB h1]
 all_goals rfl
def lC(qs:aI):List (Key × V):=qs.map λq=>(Sum.inr q.1,V.int q.2.1)
def wz(qs:aI)(vs:ag):List (Key × V):=(qs.zip vs).map λx=>(Sum.inr x.1.1,x.2)
theorem VV(qs:aI):(lC qs).map (·.1)=(qs.map (·.1)).map Sum.inr:=by
 unfold lC;rw[b_,b_];rfl
theorem iW_{qs:aI}{vs:ag}(h:vs.length=qs.length):(wz qs vs).map (·.1)=(qs.map (·.1)).map Sum.inr:=by
 unfold wz;rw[b_];have:((λx:Key × V=>x.1) ∘ λq:Pc × V=>((Sum.inr q.1.1:Key),q.2))=(λp:Pc=>(Sum.inr p.1:Key)) ∘ Prod.fst:=rfl;rw[this,<- b_,List.map_fst_zip Z1,b_];rfl
structure gT (K:af) (CG CW:Addr) (H:Hp) (g p:Addr) (hs:Xa) (ts:Xb) (qs:aI) (fp:ai):Prop where
 ex:∃(dx dw dy:Addr) (vs:ag) (bR:ai),H g\.ins CG dx (bY p dw dy)/\fq K CW H p hs ts bR/\H dw\.dK (lC qs)/\H dy\.dK (wz qs vs)/\Paired (λv (q:Pc)=>cB K H v q.2.2) vs qs /\
  g∈fp/\dw∈fp/\dy∈fp/\(∀b∈bR,b∈fp)/\∀v∈vs,∀a,v=.ref a->a∈fp
theorem Rn{α β:Type}{F G:α->β->Prop}:∀{l:List α} {m:List β},Paired F l m->(∀a∈l,∀b,F a b->G a b)->Paired G l m
 |_,_,.nil,_=>.nil
 |_,_,.cons h t,f=>.cons (f _ fM _ h) (Rn t λa ha=>f a (eR _ ha))
theorem cB.keep{K:af}{H H':Hp}{v:V}{o:Option (Xb)}(h:cB K H v o)(k:∀a,v=.ref a->∀u,H a\u->H' a\u)(kt:∀b xs,H b\.tup xs->H' b\.tup xs):cB K H' v o:=by
 cases o with
 |none=>exact h
 |some ws=>
  let#[a,ys,e,ha,t]:=h;exact#[a,ys,e,k a e _ ha,Paired.bF t λy q ⟨b,z,hb⟩=>#[b,z,kt _ _ hb]]
theorem gT.keep{K:af}{CG CW:Addr}{H H':Hp}{g p:Addr}{hs:Xa}{ts:Xb}{qs:aI}{fp:ai}(G:gT K CG CW H g p hs ts qs fp)(k:∀b∈fp,∀o,H b\o->H' b\o)(kt:∀b xs,H b\.tup xs->H' b\.tup xs):gT K CG CW H' g p hs ts qs fp:=by
 let#[dx,dw,dy,vs,bR,h1,h2,h3,h4,h5,m1,m2,m3,m4,m5]:=G.ex;exact#[dx,dw,dy,vs,bR,k _ m1 _ h1,h2.keep (λb hb o e=>k b (m4 b hb) o e) kt,k _ m2 _ h3,k _ m3 _ h4,Rn h5 λv hv q h=>h.keep (λa z u e=>k a (m5 v hv a z) u e) kt,m1,m2,m3,m4,m5]
theorem gT.same{K:af}{CG CW:Addr}{H H':Hp}{g p:Addr}{hs:Xa}{ts:Xb}{qs:aI}{fp:ai}(G:gT K CG CW H g p hs ts qs fp)(s:aa H H'):gT K CG CW H' g p hs ts qs fp:=G.keep (λb _ o e=>s b o e) λb xs e=>s b _ e
structure dM (K:af) (CG:Addr):Prop where
 cl:oi K CG
 nW:k_ K CG "web"
 nG:k_ K CG qL
 nY:k_ K CG B2
structure IU (K:af) (C:Addr):Prop where
 ha:PySem.W.findIn K (.ref C) "__class__"\some (.builtin "object.__class__")
 hn:PySem.W.specialIn K (.builtin "object.__class__") "__get__"\some (.builtin "getset_descriptor.__get__")
 tk:PySem.W.takesIn K (.builtin "object.__class__")\true
 mo:PySem.W.mroIn K C (.type "object")\true
theorem j2_(K:af)(c:Aa):PySem.W.kitOne K c c\true:=by
 unfold PySem.W.kitOne;rw[aJ (beq_self_eq_true c)]
theorem VG{K:af}{H0 H:Hp}:∀{zs:ag} {qs:aI},Paired (qJ K H0 H) zs qs->∃vs:ag,vs.length=qs.length/\Paired (λz (x:Pc × V)=>∃t,z=.ref t/\H t\.tup [.str x.1.1,.int x.1.2.1,x.2]) zs (qs.zip vs)/\Paired (λv (q:Pc)=>cB K H v q.2.2) vs qs/\∀v∈vs,∀a,v=.ref a->H0 a=none
 |_,_,.nil=>#[[],Z,.nil,.nil,by simp]
 |_,_,.cons ⟨t,v,e,ht,wy,hn⟩ r=>by
  let#[vs,h1,h2,h3,h4]:=VG r;apply#[v::vs,by simp[h1],.cons #[t,e,ht] h2,.cons wy h3,λu hu=>?_];rcases cU.mp hu with rfl|hu
  ·exact hn
  exact h4 u hu
theorem VW{K:af}{l D:Addr}{zs:ag}{xs:List (Pc × V)}{H:Hp}{Q:VK}{ip:St}{j:Nat}(sel:Pc × V->V)(hj:∀x:Pc × V,[some (V.str x.1.1),some (V.int x.1.2.1),some x.2][j]? = some (some (sel x)))(mO:ip=[none,none,none])(hl:H l\.lst zs)
  (pz:Paired (λz (x:Pc × V)=>∃t,z=.ref t/\H t\.tup [.str x.1.1,.int x.1.2.1,x.2]) zs xs) (zD:xs.length<=1000) (hD:H D=none)
  (q:∀H' out,aa H H'->H' D\.lst out->k4 K H' out (xs.map λx=>(Sum.inr x.1.1,sel x))->Q (.ref D) H') :
  vR (An K l) (jc K 3 (vS (iA 0) (vS (iA 1) (vS (iA 2) xF)))) q_ (Eu (jQ (rj 0) (jQ (rj j) lF))) ip D H Q:=by
 let sz:=cn;let le:=bH pz;apply jK (own:=3) (fv:=[]) (xs:=zs) mO OE (λi out H'=>aa H H'/\H' D\.lst out/\k4 K H' out ((xs.take i).map λx=>(Sum.inr x.1.1,sel x))) #[aa.new hD,au,.nil] (λi out H' _ ⟨sm,_,_⟩=>.of (sm _ _ hl)) (λout H4 ⟨sm,qD,eo⟩=>?_) (λi y out H' hy ⟨sm,dE,eo⟩=>?_)
 ·rw[le,eN] at eo;exact q _ _ sm qD eo
 have hi:i<zs.length:=(cw.mp hy).1;have hx:xs[i]? = some (xs[i]' Z1):=cE Z1;let#[t,et,ht]:=ig pz i hi Z1;rw[(cw.mp hy).2] at et;subst et;generalize xs[i]' Z1=x at hx ht;let lo:=bH eo;rw[ay,dJ] at lo;apply#[_,#[t,_,_,_,Z,.of (sm _ _ ht),Z],Z,λNx hN=>dB ?_];apply#[_,Z,_,hj x,zl,λp hp=>?_];let s2:=aa.new (o:=.tup [.str x.1.1,sel x]) hp;apply#[out,s2 _ _ dE,by omega,hN _ _ #[gU (sm.trans s2) hD,au,?_]];rw[D_ _ hx];have pD:∀{b:Addr} {ys:ag},upd H' p (.tup [.str x.1.1,sel x]) b\.tup ys->b≠D:=λhb=>bX hb (s2 _ _ dE) nofun;apply jG (Paired.bF eo λy kv ⟨b,z,hb⟩=>#[b,z,by rw[aA (pD (s2 _ _ hb))];exact s2 _ _ hb]) (.cons #[p,Z,?_] .nil);have jA:upd H' p (.tup [.str x.1.1,sel x]) p\.tup [.str x.1.1,sel x]:=au;rw[aA (pD jA)];exact jA
section v
theorem oM:bx ["self","web","pieces","checked"] pP (aX mB):=bE
inductive He (K:af) (CG CW:Addr) (vs:ag) (H:Hp) (Q:VK) (E:XK):Prop
 |mk:∀(g dx p l:Addr) (ys:ag) (ps:aI) (hs:Xa) (ts:Xb) (bR:ai),vs=[.ref g,.ref p,.ref l]->H g\.ins CG dx []->fq K CW H p hs ts bR->g∉bR->Good hs ts->H l\.lst ys->uO K H ys ps->(∀q∈ps,DC ts q)->(ps.map (·.1)).Nodup->ps.length<64->(∀qs fp H',(∀b o,H b\o->b≠g->H' b\o)->gT K CG CW H' g p hs ts qs fp->Qs ps qs->(∀b∈fp,b=g∨b∈bR∨H b=none)->Q .non H')->He K CG CW vs H Q E
theorem j4_{f CG CW:Addr}{fd:Ae}(F:bj K "__init__" "Goods.__init__" mB f fd)(T:dM K CG)(TW:Txt K mg CW)(IW:IU K CW)(B:Bi mg)(ML:mg "Web"\.ref CW)(cP:!aY 6 "checked_pieces" ["web","pieces"] (Ro K CW)):!aq a9 7 f fd pP (He K CG CW):=by
 exists F.bL oM;let#[g,dx,p,l,ys,ps,hs,ts,bR,rfl,hg,W,gw,G,hl,pc,gp,nd,bS,k]:=h
 apply#[_,ax (bO (eY (eK (cy hV_ (by rfl) B.iP iU %[1,Ct (v:=.ref CW) (by rfl) ML Z|0]))) eD bP)
  (ax (bq 3 oM.nd (aQ cP hr %[1,2|0]))
  (ax (wg (pv 0) (pv 1) Z)
  (ax (wg (pv 0) (iK (Cw Z) (by rfl) B.dict qN %[iV zI 3 [] (d5 (pv 3)) (λfp s H=>Ii (n:=3) (d6 (eW (i:=0) (show (zI:ae).Nodup by decide +kernel) Z (Or.inl Z)) (d6 (eW (i:=1) (show (zI:ae).Nodup by decide +kernel) Z (Or.inl Z)) (d6 (eW (i:=2) (show (zI:ae).Nodup by decide +kernel) Z (Or.inl Z)) jI)))) (λfp s H=>ij) (λfp s H=>fB %[0,1|0])|0]) Z)
  (aH (wg (pv 0) (iK (Cw Z) (by rfl) B.dict qN %[iV zI 3 [] (d5 (pv 3)) (λfp s H=>Ii (n:=3) (d6 (eW (i:=0) (show (zI:ae).Nodup by decide +kernel) Z (Or.inl Z)) (d6 (eW (i:=1) (show (zI:ae).Nodup by decide +kernel) Z (Or.inl Z)) (d6 (eW (i:=2) (show (zI:ae).Nodup by decide +kernel) Z (Or.inl Z)) jI)))) (λfp s H=>ij) (λfp s H=>fB %[0,2|0])|0]) Z))))),?_]
 let#[eV,d1,l2,d3,ju,as,ef,w1,_]:=id W.ex;apply#[_,Z,_,_,_,_,Z,.ins w1 TW.cl IW.ha IW.hn IW.tk IW.mo,j2_ _ _,_,Z,a_ ?_];apply#[_,Z,_,Z,p,l,ys,ps,hs,ts,bR,Z,W,G,hl,pc,gp,nd,bS,λlc zs qs H1 s1 Gk pn Qq=>?_];let#[vs,lv,pz,YB,Ei]:=VG pn;let Gw:=s1 _ _ hg
 have lq:qs.length=ps.length:=by
  have:=dF List.length Qq.CY;rw[ay,(yi _).length_eq,ay] at this;exact this
 have _o:(qs.map (·.1)).Nodup:=by
  rw[Qq.CY];exact (yi _).nodup_iff.mpr nd
 apply#[_,Z,_,Z,g,CG,dx,[],Z,Gw,T.cl,T.nW,by show 0<1000;decide,?_];have up1:∀{b o},H1 b\o->b≠g->upd H1 g (.ins CG dx (aD "web" (.ref p) [])) b\o:=λe ne=>by rw[aA ne];exact e
 have N9:upd H1 g (.ins CG dx (aD "web" (.ref p) [])) g\.ins CG dx (aD "web" (.ref p) []):=au
 have DA:∀{b},upd H1 g (.ins CG dx (aD "web" (.ref p) [])) b=none->H1 b=none:=λ{b} e=>by
  by_cases z:b=g
  ·rw[z,au] at e;cases e
  rw[aA z] at e;exact e
 generalize upd H1 g (.ins CG dx (aD "web" (.ref p) []))=H2 at up1 N9 DA ⊢;have Jy:lc≠g:=bX Gk Gw nofun;have _t:Paired (λz (x:Pc × V)=>∃t,z=.ref t/\H2 t\.tup [.str x.1.1,.int x.1.2.1,x.2]) zs (qs.zip vs):=Paired.bF pz λz x ⟨t,e,ht⟩=>#[t,e,up1 ht (bX ht Gw nofun)];have oo:(qs.zip vs).length<=1000:=by rw[List.length_zip];omega
 apply#[_,Z,lc,Z,#[_,.of (up1 Gk Jy)],λD hD=>?_];apply VW (λx=>.int x.1.2.1) (λx=>rfl) Z (up1 Gk Jy) _t oo hD λH3 out s3 Du _A=>?_;apply#[D,out,_,Z,Du,_A,by rw[ay];exact oo,λdw Oe=>?_]
 have ekv:((qs.zip vs).map λx:Pc × V=>((Sum.inr x.1.1:Key),V.int x.1.2.1))=lC qs:=by
  unfold lC;have:(λx:Pc × V=>((Sum.inr x.1.1:Key),V.int x.1.2.1))=(λq:Pc=>((Sum.inr q.1:Key),V.int q.2.1)) ∘ Prod.fst:=rfl;rw[this,<- b_,List.map_fst_zip Z1]
 have o6:(qs.map (·.1)).map (Sum.inr:Str->Key) |>.Nodup:=by
  rw[pL,qQ];exact _o.imp λn e=>n (h9 e)
 rw[ekv,Cp (by rw[VV];exact o6)];let s4:=aa.new (o:=.dK (lC qs)) Oe;let UR:=s4 _ _ (s3 _ _ N9);apply#[_,Z,g,CG,dx,_,Z,UR,T.cl,T.nG,by show 1<1000;decide,?_];let Jp:=s3.trans s4;have GC:upd H3 dw (.dK (lC qs)) dw\.dK (lC qs):=au;have WQ:dw≠g:=(bw (s3 _ _ N9) Oe).symm;have fr4:∀{b},upd H3 dw (.dK (lC qs)) b=none->H2 b=none:=λe=>Jp.free e;have dwn:H2 dw=none:=s3.free Oe;generalize upd H3 dw (.dK (lC qs))=H4 at s4 UR Jp GC fr4 ⊢;have vq:∀{b o},H4 b\o->b≠g->upd H4 g (.ins CG dx (aD qL (.ref dw) (aD "web" (.ref p) []))) b\o:=λe ne=>by rw[aA ne];exact e
 have N8:upd H4 g (.ins CG dx (aD qL (.ref dw) (aD "web" (.ref p) []))) g\.ins CG dx (aD qL (.ref dw) (aD "web" (.ref p) [])):=au
 have pC:∀{b},upd H4 g (.ins CG dx (aD qL (.ref dw) (aD "web" (.ref p) []))) b=none->H4 b=none:=λ{b} e=>by
  by_cases z:b=g
  ·rw[z,au] at e;cases e
  rw[aA z] at e;exact e
 generalize upd H4 g (.ins CG dx (aD qL (.ref dw) (aD "web" (.ref p) [])))=H5 at vq N8 pC ⊢;have wA:∀{b o},H1 b\o->b≠g->H5 b\o:=λe ne=>vq (Jp _ _ (up1 e ne)) ne;have _s:Paired (λz (x:Pc × V)=>∃t,z=.ref t/\H5 t\.tup [.str x.1.1,.int x.1.2.1,x.2]) zs (qs.zip vs):=Paired.bF pz λz x ⟨t,e,ht⟩=>#[t,e,wA ht (bX ht Gw nofun)];apply#[_,Z,lc,Z,#[_,.of (wA Gk Jy)],λD2 uC=>?_];apply VW (λx=>x.2) (λx=>rfl) Z (wA Gk Jy) _s oo uC λH6 c_ s6 JW _z=>?_;apply#[D2,c_,_,Z,JW,_z,by rw[ay];exact oo,λdy Od=>?_];rw[show ((qs.zip vs).map λx:Pc × V=>((Sum.inr x.1.1:Key),x.2))=wz qs vs from Z,Cp (by rw[iW_ lv];exact o6)];let s7:=aa.new (o:=.dK (wz qs vs)) Od;let oQ:=s6.trans s7;let UQ:=oQ _ _ N8;apply#[_,Z,g,CG,dx,_,Z,UQ,T.cl,T.nY,by show 2<1000;decide,?_];have GB:upd H6 dy (.dK (wz qs vs)) dy\.dK (wz qs vs):=au;have dyg:dy≠g:=(bw (s6 _ _ N8) Od).symm;have dyn:H5 dy=none:=s6.free Od;generalize upd H6 dy (.dK (wz qs vs))=H7 at s7 oQ UQ GB ⊢
 have fin:∀{b o},H1 b\o->b≠g->upd H7 g (.ins CG dx (bY p dw dy)) b\o:=λe ne=>by
  rw[aA ne];exact oQ _ _ (wA e ne)
 have Ek:∀b xs,H1 b\.tup xs->upd H7 g (.ins CG dx (bY p dw dy)) b\.tup xs:=λb xs e=>fin e (bX e Gw nofun);have nH:∀{b},H1 b=none->H b=none:=λe=>s1.free e;apply k qs (g::dw::dy::(bR++vs.filterMap λv=>match v with | .ref a=>some a|_=>none)) _ (λb o e ne=>fin (s1 _ _ e) ne) #[dx,dw,dy,vs,bR,au,?_,?_,?_,?_,by simp,by simp,by simp,λb hb=>by simp[hb],λv hv a z=>?_] Qq λb hb=>?_
 ·exact W.keep (λb hb o e=>fin (s1 _ _ e) (λz=>gw (z▸hb))) λb xs e=>Ek b xs (s1 _ _ e)
 ·rw[aA WQ];exact oQ _ _ (vq GC WQ)
 ·rw[aA dyg];exact GB
 ·exact Rn YB λv hv q h=>h.keep (λa z u e=>fin e (λzz=>by
   subst zz;have:=Ei v hv _ z;rw[hg] at this;cases this)) λb xs e=>Ek b xs e
 ·apply eR _ (eR _ (eR _ (nZ _ (yl.mpr #[v,hv,?_]))));rw[z]
 simp only[cU,fL,yl] at hb;rcases hb with rfl|rfl|rfl|hb|⟨v,hv,e⟩
 ·exact .inl Z
 ·exact .inr (.inr (nH (DA dwn)))
 ·exact .inr (.inr (nH (DA (Jp.free (pC dyn)))))
 ·exact .inr (.inl hb)
 cases v with
 |ref a=>
  cases e;exact .inr (.inr (Ei _ hv _ Z))
 |_=>cases e
end
end Ev
namespace L2
open PySem
end L2
namespace Ev
open PySem L2
theorem f3_{kvs:List (Key × V)}{ns:ae}(h:kvs.map (·.1)=ns.map Sum.inr)(x:Str):(bK kvs (Sum.inr x)).isSome=decide (x∈ns):=by
 by_cases hx:x∈ns
 ·rw[cb hx];apply V6 ?_;rw[h];exact bG.mpr #[x,hx,Z]
 rw[dH hx,Ai]
 ·rfl
 rw[h];intro m;let#[y,hy,e]:=bG.mp m;cases e;exact hx hy
theorem l3_{qs:aI}(nd:(qs.map (·.1)).Nodup){q:Pc}(hq:q∈qs):bK (lC qs) (Sum.inr q.1)\.int q.2.1:=by
 let#[j,hj,e]:=ku hq;have:=Qg (ps:=qs) (cs:=qs.map λq=>V.int q.2.1) nd (by rw[ay]) (j:=j) (q:=q) (c:=.int q.2.1) (by rw[cE hj,e]) (by rw[dU,cE hj,e];rfl)
 have e2:((qs.zip (qs.map λq=>V.int q.2.1)).map λq=>((Sum.inr q.1.1:Key),q.2))=lC qs:=by
  unfold lC;rw[List.zip_map_right,b_]
  have:qs.zip qs=qs.map λq=>(q,q):=by
   clear nd hq this hj e j
   induction qs with
   |nil=>rfl
   |cons a l ih=>rw[List.zip_cons_cons,ih,dZ]
  rw[this,b_];rfl
 rwa [e2] at this
theorem lu_{qs:aI}{vs:ag}(nd:(qs.map (·.1)).Nodup){K:af}{H:Hp}(h:Paired (λv (q:Pc)=>cB K H v q.2.2) vs qs){q:Pc}(hq:q∈qs):∃v∈vs,bK (wz qs vs) (Sum.inr q.1)\v/\cB K H v q.2.2:=by
 let#[j,hj,e]:=ku hq;let hl:=bH h;have hv:j<vs.length:=by omega
 let p:=ig h j hv hj;rw[e] at p;exact#[vs[j],nU hv,Qg nd Z1 (by rw[cE hj,e]) (cE hv),p]
def Dx(hs:Xa)(ts:Xb)(o:Option (Xb))(x y:Option Str):Bool:=
 jO hs ts x y&&match o,x,y with
  |none,_,_=>true
  |some ws,some a,some b=>decide (aU a b∈ws)
  |_,_,_=>false
section v
theorem AQ:bx pF pF (aX tG):=bE
inductive GZ (K:af) (CG CW:Addr) (vs:ag) (H:Hp) (Q:VK) (E:XK):Prop
 |mk:∀(g p:Addr) (v:V) (x:Option Str) (hs:Xa) (ts:Xb) (qs:aI) (fp:ai),vs=[.ref g,v]->gT K CG CW H g p hs ts qs fp->kI K H v x->Q (.bl (FN (qs.map (·.1)) x)) H->GZ K CG CW vs H Q E
theorem kN_{f CG CW:Addr}{fd:Ae}(F:bj K "has_piece" "Goods.has_piece" tG f fd)(T:dM K CG)(B:Bi mg):!aq a9 1 f fd pF (GZ K CG CW):=by
 exists F.bL AQ;let#[g,p,v,x,hs,ts,qs,fp,rfl,G,sv,k]:=h;let hu:=gD hr;let#[dx,dw,dy,vs,bR,h1,h2,h3,h4,h5,m1,m2,m3,m4,m5]:=G.ex;apply#[_,aH (bg (ny (cy jq (by rfl) B.iP iU %[1,jn (v:=.ty "str") (by rfl) B.str G_ Z|0]) (nu (GT (DL hu (pv 1) (dG (pv 0) Z)))))),?_];cases x with
 |some x=>
  cases (show v=.str x from sv);apply#[_,Z,_,_,_,_,Z,.str x,Z,_,Z,dD ?_];apply#[_,Z,_,Z,g,CG,dx,_,_,Z,h1,T.cl,T.nG,Pq _ _ _,dw,_,Z,.k (k:=Sum.inr x) h3,?_];rw[f3_ (VV qs)];exact k
 |none=>
  let#[t,ty,e]:=sv;exact#[_,Z,_,_,_,_,Z,ty,e,_,Z,a_ k]
theorem sM:bx gK gK (aX Pr):=bE
inductive K3 (K:af) (CG CW:Addr) (vs:ag) (H:Hp) (Q:VK) (E:XK):Prop
 |mk:∀(g p:Addr) (hs:Xa) (ts:Xb) (qs:aI) (fp:ai),vs=[.ref g]->gT K CG CW H g p hs ts qs fp->(∀l,H l=none->Q (.ref l) (upd H l (.lst ((qs.map (·.1)).map V.str))))->K3 K CG CW vs H Q E
theorem hh_{f CG CW:Addr}{fd:Ae}(F:bj K "names" "Goods.names" Pr f fd)(T:dM K CG)(B:Bi mg):!aq a9 1 f fd gK (K3 K CG CW):=by
 exists F.bL sM;let#[g,p,hs,ts,qs,fp,rfl,G,k]:=h;let#[dx,dw,dy,vs,bR,h1,h2,h3,h4,h5,m1,m2,m3,m4,m5]:=G.ex;apply#[_,aH (bg (iK (QJ Z) (by rfl) B.list Cq %[dG (pv 0) Z|0])),?_];apply#[_,Z,g,CG,dx,_,_,Z,h1,T.cl,T.nG,Pq _ _ _,dw,_,Z,.inl h3,λl hl=>?_]
 have e:((lC qs).map λkv=>kV kv.1)=(qs.map (·.1)).map V.str:=by
  unfold lC;rw[b_,b_];rfl
 rw[e];exact k l hl
structure Ref (K:af) (mg:Str->Option Aa) (x:Str) (C:Addr):Prop where
 mg:mg x\.ref C
 ex:PySem.W.excIn K C [.type "ValueError",.type "Exception",.type "BaseException",.type "object"] "ValueError.__new__"=true
theorem p8:bx zJ zJ (aX Ql):=bE
inductive Cu (K:af) (CG CW CP:Addr) (vs:ag) (H:Hp) (Q:VK) (E:XK):Prop
 |mk:∀(g p:Addr) (v:V) (x:Option Str) (hs:Xa) (ts:Xb) (qs:aI) (fp:ai),vs=[.ref g,v]->gT K CG CW H g p hs ts qs fp->(qs.map (·.1)).Nodup->kI K H v x->((∃q∈qs,x\q.1/\Q (.int q.2.1) H)∨False)->Cu K CG CW CP vs H Q E
theorem gu_{f CG CW CP:Addr}{fd:Ae}(F:bj K "weight" "Goods.weight" Ql f fd)(T:dM K CG)(cH:!br CG 1 "has_piece" pF (GZ K CG CW)):!aq a9 2 f fd zJ (Cu K CG CW CP):=by
 exists F.bL p8;let#[g,p,v,x,hs,ts,qs,fp,rfl,G,nd,sv,k]:=h;let hu:=gD hr;let#[dx,dw,dy,vs,bR,h1,h2,h3,h4,h5,m1,m2,m3,m4,m5]:=id G.ex;have kX:(bY p dw dy).lookup ("has_piece":Str)=none:=uZ _ _ _ Z0 Z0 Z0;apply#[_,ax (bO (eY (eK (ft cH T.cl hr (pv 0) %[1|0]))) eD bP) (aH (bg (kq hu (dG (pv 0) Z) (pv 1)))),?_];apply#[_,Z,g,dx,_,Z,h1,kX,_,Z,g,p,v,x,hs,ts,qs,fp,Z,G,sv,_,Z,?_];rcases k with⟨q,hq,rfl,k⟩|k
 ·cases (show v=.str q.1 from sv);rw[show FN (qs.map (·.1)) (some q.1)=true from cb (bG.mpr #[q,hq,Z])];apply a_ ?_;apply#[_,Z,g,CG,dx,_,_,Z,h1,T.cl,T.nG,Pq _ _ _,_,Z,dw,_,Z,?_,k];rw[<- l3_ nd hq];exact .k (k:=Sum.inr q.1) h3
 exact k.elim
theorem sN:bx ["self","piece","one","other","ties"] pW (aX tF):=bE
inductive Ki (K:af) (CG CW CP:Addr) (vs:ag) (H:Hp) (Q:VK) (E:XK):Prop
 |mk:∀(g p:Addr) (v u1 u2:V) (x y1 y2:Option Str) (hs:Xa) (ts:Xb) (qs:aI) (fp:ai),vs=[.ref g,v,u1,u2]->gT K CG CW H g p hs ts qs fp->(qs.map (·.1)).Nodup->(aF hs).Nodup->kI K H v x->((∃q∈qs,x\q.1/\kI K H u1 y1/\kI K H u2 y2/\∀H',aa H H'->Q (.bl (Dx hs ts q.2.2 y1 y2)) H')∨False)->Ki K CG CW CP vs H Q E
theorem k9_{f CG CW CP:Addr}{fd:Ae}(F:bj K "may_go" "Goods.may_go" tF f fd)(T:dM K CG)(TW:Txt K mg CW)(cH:!br CG 1 "has_piece" pF (GZ K CG CW))(cT:!br CW 2 "are_tied" k8 (Kp K CW))(cL:!aY 1 "lesser_first" qH K0) :
  aq P w K mg base a9 3 f fd pW (Ki K CG CW CP):=by
 exists F.bL sN;let#[g,p,v,u1,u2,x,y1,y2,hs,ts,qs,fp,rfl,G,nd,uc,sv,k]:=h;let hu:=gD hr;have iH:bf 1 _:=hr.mono (by decide);let#[dx,dw,dy,vs,bR,h1,h2,h3,h4,h5,m1,m2,m3,m4,m5]:=id G.ex;have kX:(bY p dw dy).lookup ("has_piece":Str)=none:=uZ _ _ _ Z0 Z0 Z0;let#[eV,d1,l2,d3,ju,as,ef,w1,_]:=id h2.ex;have hV:(dg d1 l2 d3).lookup ("are_tied":Str)=none:=iM _ _ _ Z0 Z0 Z0
 apply#[_,ax (bO (eY (eK (ft cH T.cl iH (pv 0) %[1|0]))) eD bP)
  (ax (bO (eY (eK (ft cT TW.cl hr (dG (pv 0) Z) %[2,3|0]))) (aH (bg xP)) bP)
  (ax (bq 4 sN.nd (kq hu (dG (pv 0) Z) (pv 1)))
  (aH (bg (Tp (GT (J2 (pv 4))) (nu (qp (Ov (Hn hZ hZ) (nC hr _)) (aQ cL hr %[2,3|0]) (pv 4) (by with_unfolding_all rfl)))))))),?_]
 apply#[_,Z,g,dx,_,Z,h1,kX,_,Z,g,p,v,x,hs,ts,qs,fp,Z,G,sv,_,Z,?_];rcases k with⟨q,hq,rfl,s1,s2,k⟩|k
 ·cases (show v=.str q.1 from sv);rw[show FN (qs.map (·.1)) (some q.1)=true from cb (bG.mpr #[q,hq,Z])];apply a_ ?_;apply#[_,Z,g,CG,dx,_,_,Z,h1,T.cl,T.nW,kA _ _ _,p,eV,_,Z,w1,hV,_,Z,_,Z,p,u1,u2,y1,y2,hs,ts,bR,Z,h2,uc,s1,s2,_,Z,?_];cases tb:jO hs ts y1 y2 with
  |false=>
   apply dD ?_;have:=k H (aa.refl H);unfold Dx at this;rw[tb,Bool.false_and] at this;exact this
  |true=>
   apply a_ ?_;let#[u,Uq,eu,wy]:=lu_ nd h5 hq;apply#[_,Z,g,CG,dx,_,_,Z,h1,T.cl,T.nY,kv_ _ _ _,_,Z,dy,u,Z,?_,?_]
   ·rw[<- eu];exact .k (k:=Sum.inr q.1) h4
   apply#[_,Z,_,Z,?_];unfold Dx at k;rw[tb] at k;cases e:q.2.2 with
   |none=>
    rw[e] at wy k;cases (show u=.non from wy);exact dD (k H (aa.refl H))
   |some ws=>
    rw[e] at wy k;let#[a,ys,rfl,ha,tu]:=wy;cases y1 with
    |none=>cases tb
    |some a1=>
     cases y2 with
     |none=>cases tb
     |some a2=>
      cases (show u1=.str a1 from s1);cases (show u2=.str a2 from s2);apply a_ #[_,Z,_,Z,a1,a2,Z,λt ht=>?_];have s3:aa H (upd H t (.tup [.str (aU a1 a2).1,.str (aU a1 a2).2])):=aa.new ht;apply#[_,Z,aU a1 a2,ws,#[t,_,_,Z,.of au,Z,Z],#[a,ys,Z,.of (s3 _ _ ha),OT (tu.same s3)],?_];let z:=k _ s3;rw[Bool.true_and] at z;rw[aB gW];show Q (.bl _) _;have z:Q (.bl (decide (aU a1 a2∈ws))) (upd H t (.tup [.str (aU a1 a2).1,.str (aU a1 a2).2])):=z;generalize upd H t (.tup [.str (aU a1 a2).1,.str (aU a1 a2).2])=Hz at z ⊢;by_cases hm:aU a1 a2∈ws
      ·simpa [hm] using z
      simpa [hm] using z
 exact k.elim
end
end Ev
namespace L2
open PySem PySem.Spec PyProof.Rows PySem.W
theorem ku_{P:Ad}{w:Af}{k:Key}{key:Aa}(h:(d_ P w).is k key=true):RelV (kV k) key:=by
 have e2:xO k key=true:=h;rcases qR e2 with⟨i,t,rfl,rfl⟩|⟨x,t,rfl,rfl⟩
 ·exact#[t,Z]
 exact#[t,Z]
def Itm(d:Addr)(o:Obj)(kvs:List (Key × V)):It:=#[λi H=>H d\.frz o (.dK kvs)/\i<kvs.length,λi H y H'=>∃t k x,y=.ref t/\H t=none/\kvs[i]? = some (k,x)/\H'=upd H t (.tup [kV k,x]),λi H=>H d\.frz o (.dK kvs)/\kvs.length<=i]
theorem gw_{P:Ad}{w:Af}{K:af}{elts:List Expr}{kk:Nat}{pos:Pos}(d it:Addr)(o:Obj)(kvs:List (Key × V)){es:Array Ah}{ep:Nat}(ho:o.data=.dict es ep):Turn P w K (.Tuple elts kk pos) (Itm d o kvs) [it] it (λi h=>∃ok ov,IsItemIter h it d i kvs.length ep ok ov) where
 mem:=by simp
 obj:=λi h st b hb=>by
  obtain rfl:b=it:=⇑hb
  let#[ok,ov,q]:=st;exact#[_,q,λv z=>by cases z]
 keep:=λi h h' st k=>by
  let#[ok,ov,q]:=st;exact#[ok,ov,k it Z2 _ q]
 item:=by
  intro X hP hw hK hc i pins s σ H E I hf st hg;subst hP hw hK;let#[hd,hi]:=hg;let#[vs,rel,dat]:=Ll I hd ho;obtain⟨⟨k,x⟩,hx⟩:∃p,kvs[i]? = some p:=#[kvs[i],by simp[hi]];let#[u,hu,ru]:=Ox rel i hx;let#[ok,ov,st]:=st;have itl:it<s.heap.objs.size:=cK st;rw[rel.length] at st;apply wpAny_pyNext_items_item st dat hu λkey h' hk out ht sz kp=>?_;apply#[_,Z,wpAny_letOwnedTupleGo_items (s:={ s with heap:=h' }) out λh2 eh sb=>?_];have nT:s.heap.objs.size≠it:=wu itl;have I1:Inv X pins σ (upd H s.heap.objs.size (.tup [kV k,x])) { s with heap:=h2 }:=I.oq (t':=s.toks) (fp:=[it]) (its:=[key,u]) (λb o hb q=>(sb.2 b ⇑hb).trans (kp b o ⇑hb q)) hf (bo _) (zl) (.cons (ku_ hk) (.cons ru .nil)) #[#[_,(sb.2 _ nT).trans ht,Z,_,Z],_,(sb.2 _ nT).trans ht,Z];apply#[.ref _,_,I1,Z,#[_,k,x,Z,I.aE.fresh (bo _),hx,Z],#[_,_,by rw[rel.length];exact eh],λb hb=>?_];have e:b=it:=⇑hb
  rw[aA (λz=>nT (z.symm.trans e))];exact (hf b hb).1
 done:=by
  intro X hP hw hK hc i pins s σ H E I hf st hg;subst hP hw hK;let#[hd,hi]:=hg;let#[vs,rel,dat]:=Ll I hd ho;let#[f0,f1,f2,f3,f4,f5]:=hf it Z2;let#[ok,ov,st]:=st;rw[rel.length] at st hi;exact wpAny_pyNext_items_end (I.ok.hd hc) st dat (by simp;omega) λh' eb=>#[Z,I.turned (t':=s.toks) (λb o hb e=>eb b o hb e) f0 f1 f3 f4 f5]
 self:=λA i s Q E st h=>by
  let#[ok,ov,q]:=st;exact kcp_self q h
inductive o9 (R:It->Hp->Prop) (x:V) (H1:Hp):Prop
 |mk:∀v d kvs,x=.ref v->H1 v\qo v d->H1 d\.dK kvs->(∀o,R (Itm d o kvs) (upd H1 d (.frz o (.dK kvs))))->o9 R x H1
def Bg(tv:TE):TI:=λσ H R=>tv σ H λx H1=>o9 R x H1
theorem K_{X:Cx}{elts:List Expr}{kk:Nat}{p2:Pos}{e:Expr}{tv:TE}(he:PE X e tv):PI X (.Tuple elts kk p2) e (Bg tv):=by
 intro pins s σ H R I h;apply aR (he pins s σ H _ I h) λu s1 ⟨x,H1,I1,r1,v,d,kvs,ex,hv,hd,q⟩=>?_;subst ex;cases r1;let#[iv,_,_]:=I1.aE v _ hv;let#[o,ho,I2]:=I1.freeze hd;let#[z,_,vs,rel,o',es,ep,gy,c',dt,r]:=Dy I1.aE hd;rw[ho] at gy;cases gy;apply wpAny_pyIter_items (knd:=d_ X.prog X.w) (kvs:=vs) (ep:=ep) iv #[o,es,ho,c',dt,r] ?_;apply#[s1.heap.objs.size,[s1.heap.objs.size],_,_,_,Z,I2.kept (t':=s1.toks) λb o e=>cj _ e,gw_ d _ o kvs dt,?_,λb hb=>?_,q o]
 ·rw[rel.length];exact#[.none,.none,eE _ Z]
 obtain rfl:b=s1.heap.objs.size:=⇑hb
 exact I2.jd (bo _) (I2.aE.fresh (bo _))
theorem Q_{d:Addr}{o:Obj}{kvs:List (Key × V)}{g:TG}{tb:TS}{D:Ends}{σ:St}{H:Hp}(Pv:Nat->St->Hp->Prop)(h0:Pv 0 σ H)(hl:∀i σ H,i<=kvs.length->Pv i σ H->H d\.frz o (.dK kvs))
  (hs:∀i k x σ H,kvs[i]? = some (k,x)->Pv i σ H->∀t,H t=none->g (.ref t) σ (upd H t (.tup [kV k,x])) λg5 H2=>tb { D with nx:=Pv (i+1),ct:=Pv (i+1),bk:=D.nx } g5 H2) (hd:∀σ H,Pv kvs.length σ H->D.nx σ H) :
  ∃W:Nat->Nat->St->Hp->Prop,(∃m,W 0 m σ H)/\∀i m σ H,W i m σ H->
   ((Itm d o kvs).stop i H/\D.nx σ H)∨((Itm d o kvs).go i H/\∃N:St->Hp->Prop,(∀bA H',N bA H'->∃m',m'<m/\W (i+1) m' bA H')/\∀x H',(Itm d o kvs).yw i H x H'->g x σ H' λg5 H2=>tb { D with nx:=N,ct:=N,bk:=D.nx } g5 H2):=by
 apply#[λi m σ H=>m=kvs.length - i/\i<=kvs.length/\Pv i σ H,#[kvs.length,by simp,gM _,h0],?_];rintro i m σ H ⟨rfl,hi,p⟩;let q:=hl i σ H hi p;by_cases dY:i<kvs.length
 ·apply .inr #[#[q,dY],Pv (i+1),λbA H' p'=>#[kvs.length - (i+1),by omega,Z,dY,p'],λx H' y=>?_];let#[t,k,x,rfl,ht,hx,rfl]:=y;exact hs i k x σ H hx p t ht
 have e:i=kvs.length:=by omega
 subst e;exact .inl #[#[q,bo _],hd σ H p]
inductive rq (t:TS) (D:Ends) (σ:St) (H:Hp):Prop
 |mk:∀d kvs,H d\.dK kvs->t { nx:=λoj H1=>∃o,H1 d\.frz o (.dK kvs)/\D.nx oj (upd H1 d (.dK kvs)),rt:=λv H1=>∃o,H1 d\.frz o (.dK kvs)/\D.rt v (upd H1 d (.dK kvs)) } σ H->rq t D σ H
theorem Uv{X:Cx}{st:Stmt}{t:TS}(h:PS X st t):PS X st (rq t):=by
 intro pins s σ H D I q;let#[d,kvs,hd,q]:=q
 have nf:∀o u,X.jt d≠some (.frz o u):=λo u z=>by
  have:=I.base.fY _ _ _ z;rw[hd] at this;cases this
 apply aR (h pins s σ H _ I q) λf s' p=>?_;cases f with
 |next=>
  let#[oj,H1,I1,o,hf,q1]:=p;exact#[oj,_,I1.p5 hf nf,q1]
 |brk=>
  let#[oj,H1,I1,q1]:=p;exact False.elim q1
 |cont=>
  let#[oj,H1,I1,q1]:=p;exact False.elim q1
 |ret u=>
  let#[v,oj,H1,I1,r,o,hf,q1]:=p;exact#[v,oj,_,I1.p5 hf nf,r,q1]
theorem W5:∀{ns:List Int} {its:ak},Vals (ns.map V.int) its->∃xs:List (Int × Tok),its.toArray=intItems xs.toArray/\xs.map (·.1)=ns
 |[],_,.nil=>#[[],by unfold intItems;simp,Z]
 |n::ns,_,.cons ⟨t,e⟩ r=>by
  let#[xs,h1,h2]:=W5 r;apply#[(n,t)::xs,?_,by simp[h2]];subst e;apply Array.ext' ?_;let h3:=dF Array.toList h1;unfold intItems at h3 ⊢;simp at h3 ⊢;exact h3
theorem XC{xs:List (Int × Tok)}:∀n,n<=xs.length->preSum (numAt xs.toArray) n=((xs.map (·.1)).take n).sum
 |0,_=>by simp[preSum]
 |n+1,h=>by
  let ih:=XC (xs:=xs) n Z1;show preSum (numAt xs.toArray) n+numAt xs.toArray n=_;rw[ih,jr,List.sum_append];congr 1;unfold numAt;rw[List.getElem?_toArray,dU,cE Z1];simp
inductive yS (K:af) (xs:ag) (H:Hp) (Q:VK):Prop
 |mk:∀(l:Addr) (ns:List Int),xs=[.ref l]->dW K H l (ns.map V.int)->Q (.int ns.sum) H->yS K xs H Q
theorem h7_{X:Cx}(hc:X.calm=true):gB X (.builtin "sum") (yS X.K):=by
 intro pins s σ H xs us Q I r h;let#[l,ns,rfl,hl,q]:=h;let#[u,rfl,ru]:=vals1 r;cases ru;let#[its,rv,p,hz]:=I.list hl;let#[zs,e1,e2]:=W5 rv;let il:=p.isList;rw[e1] at il;apply sum_intListG (I.ok.hd hc) il λh' tk t' k=>?_;apply#[.int ns.sum,H,I.kept (t':=tk) k,#[t',?_],q]
 have:preSum (numAt zs.toArray) zs.toArray.size=ns.sum:=by
  rw[cq,XC _ (bo _),<- e2,ym Z2]
 rw[this]
end L2
namespace Ev
open PySem L2
structure Fz (d:Addr) (o:Obj) (kvs:List (Key × V)) (H H':Hp):Prop where
 at_:H' d\.frz o (.dK kvs)
 sm:∀b u,b≠d->H b\u->H' b\u
section
variable{d:Addr}{o:Obj}{kvs:List (Key × V)}{H H' H2:Hp}
theorem Fz.start:Fz d o kvs H (upd H d (.frz o (.dK kvs))):=#[au,λb u ne e=>by rw[aA ne];exact e]
theorem Fz.step(f:Fz d o kvs H H')(s:aa H' H2):Fz d o kvs H H2:=#[s _ _ f.at_,λb u ne e=>s _ _ (f.sm b u ne e)]
theorem Fz.p5(f:Fz d o kvs H H')(hd:H d\.dK kvs):aa H (upd H' d (.dK kvs)):=λb u e=>by
 by_cases z:b=d
 ·subst z;rw[hd] at e;cases e;exact au
 rw[aA z];exact f.sm b u z e
theorem Fz.zE{K:af}{CG CW g p:Addr}{hs:Xa}{ts:Xb}{qs:aI}{fp:ai}(f:Fz d o kvs H H')(hd:H d\.dK kvs)(G:gT K CG CW H g p hs ts qs fp)(nd:d∉fp):gT K CG CW H' g p hs ts qs fp:=
 G.keep (λb hb u e=>f.sm b u (λz=>nd (z▸hb)) e) λb xs e=>f.sm b _ (bX e hd nofun) e
end
def dX(ns:ae)(g:Str->V):List (Key × V):=ns.map λn=>(Sum.inr n,g n)
theorem Hw(ns:ae)(g:Str->V):(dX ns g).map (·.1)=ns.map Sum.inr:=by
 unfold dX;rw[b_];rfl
theorem jJ(ns:ae)(g:Str->V):(dX ns g).length=ns.length:=ay _
theorem DT{ns:ae}{g:Str->V}{n:Str}(h:n∈ns):bK (dX ns g) (Sum.inr n)\g n:=by
 induction ns with
 |nil=>cases h
 |cons m ns ih=>
  by_cases e:m=n
  ·subst e;exact Cv Z
  have:bK (dX (m::ns) g) (Sum.inr n)=bK (dX ns g) (Sum.inr n):=Cm λz=>e (h9 z);rw[this];rcases cU.mp h with z|z
  ·exact absurd z.symm e
  exact ih z
theorem KS{ns:ae}{g k:Str->V}(h:∀n∈ns,g n=k n):dX ns g=dX ns k:=vf λn hn=>by rw[h n hn]
theorem UM{ns:ae}{g:Str->V}{n:Str}{v:V}(h:n∈ns):putK (dX ns g) (Sum.inr n) v=dX ns λm=>if m=n then v else g m:=by
 unfold putK;rw[aJ]
 ·unfold dX;rw[b_];apply vf λm _=>?_;by_cases e:m=n
  ·subst e;simp
  have:¬((Sum.inr m:Key)=Sum.inr n):=λz=>e (h9 z);simp[e]
 apply List.any_eq_true.mpr #[(Sum.inr n,g n),bG.mpr #[n,h,Z],by simp]
theorem Vc{ns:ae}{g:Str->V}{n:Str}{v:V}(h:n∉ns):putK (dX ns g) (Sum.inr n) v=dX (ns++[n]) λm=>if m=n then v else g m:=by
 rw[D8 _ (Ai (by
  rw[Hw];intro m;let#[x,hx,e]:=bG.mp m;exact h (h9 e▸hx)))]
 unfold dX;rw[cu];congr 1
 ·apply vf λm hm=>?_;have e:¬m=n:=λz=>h (z▸hm);simp[e]
 simp
theorem JY{ns:ae}{g:Str->V}{i:Nat}{k:Key}{x:V}(h:(dX ns g)[i]? = some (k,x)):∃n,ns[i]? = some n/\k=Sum.inr n/\x=g n:=by
 unfold dX at h;rw[dU] at h;cases e:ns[i]? with
 |none=>rw[e] at h;cases h
 |some n=>
  rw[e] at h;let h:=d7 h;exact#[n,Z,(dF Prod.fst h).symm,(dF Prod.snd h).symm]
theorem Qe{ns:ae}(nd:ns.Nodup){i:Nat}{n:Str}(h:ns[i]? = some n):n∉ns.take i:=by
 let q:=Iw (g:=id) (ts:=ns) (by rw[List.map_id];exact nd) h;rwa [List.map_id] at q
theorem iC{ns:ae}{i:Nat}{n:Str}(h:ns[i]? = some n):ns.take (i+1)=ns.take i++[n]:=by
 rw[jr,h];rfl
abbrev cX(ns:ae)(f:aj):List (Key × V):=dX ns λn=>.str (f n)
def gG(q:Pc):Str × Int:=(q.1,q.2.1)
def ld(f:aj)(ws:Xa)(h:Str):Int:=((ws.filter λx=>decide (f x.1=h)).map (·.2)).sum
theorem kR_(f:aj)(ws:Xa)(x:Str × Int)(h:Str):ld f (ws++[x]) h=if h=f x.1 then ld f ws h+x.2 else ld f ws h:=by
 unfold ld;rw[List.filter_append];by_cases e:f x.1=h
 ·rw[aJ e.symm,cu,List.sum_append];simp[e]
 rw[aB λz=>e z.symm];simp[e]
theorem Ue:∀{l:List Int},(∀x∈l,0<=x)->0<=l.sum
 |[],_=>by simp
 |x::l,h=>by
  rw[List.sum_cons];have:=h x fM;have:=Ue (l:=l) λy hy=>h y (eR _ hy);omega
theorem l6_{f:aj}{ws:Xa}{h:Str}(p:∀x∈ws,0<=x.2):0<=ld f ws h:=Ue λx hx=>by
 let#[y,hy,rfl]:=bG.mp hx;exact p y (List.mem_filter.mp hy).1
theorem Qs.nd{ps qs:aI}(Q:Qs ps qs)(nd:(ps.map (·.1)).Nodup):(qs.map (·.1)).Nodup:=by
 rw[Q.CY];exact (yi _).nodup_iff.mpr nd
theorem Qs.len{ps qs:aI}(Q:Qs ps qs):qs.length=ps.length:=by
 have:=dF List.length Q.CY;rw[ay,(yi _).length_eq,ay] at this;exact this
end Ev
namespace Ev
open PySem L2
section v
structure pY (hs:Xa) (qs:aI) (ns:ae) (f:aj):Prop where
 perm:ns.Perm (qs.map (·.1))
 at_:∀n∈ns,f n∈hs.map (·.1)
theorem K6:bx ["goods","stand","piece","hand","names"] zK (aX PF):=bE
inductive Ht (K:af) (CG CW:Addr) (vs:ag) (H:Hp) (Q:VK) (E:XK):Prop
 |mk:∀(g p d:Addr) (hs:Xa) (ts:Xb) (qs:aI) (fp:ai) (ns:ae) (f:aj),vs=[.ref g,.ref d]->gT K CG CW H g p hs ts qs fp->d∉fp->H d\.dK (cX ns f)->pY hs qs ns f->(qs.map (·.1)).Nodup->qs.length<64->(∀d' H',aa H H'->H d'=none->H' d'\.dK (cX (qs.map (·.1)) f)->Q (.ref d') H')->Ht K CG CW vs H Q E
theorem h9_{f CG CW:Addr}{fd:Ae}(F:bj K "checked_stand" "checked_stand" PF f fd)(B:Bi mg)(T:dM K CG)(TW:Txt K mg CW)(cH:!br CG 1 "has_piece" pF (GZ K CG CW))(cW:!br CW 1 "has_hand" pF (jU K CW))(cN:!br CG 1 "names" gK (K3 K CG CW)) :
  aq P w K mg base a9 2 f fd zK (Ht K CG CW):=by
 exists F.bL K6;let#[g,p,d,hs,ts,qs,fp,ns,f,rfl,G,je,hd,so,nd,bS,k]:=h;let hu:=gD hr;let sz:=cn;refine' #[_,?r0,?kk]
 case' r0=>refine' ax ?s1 ?r1
 case s1=>exact bO (eY (eK (cy jq (by rfl) B.iP iU %[1,jn (v:=.ty "dict") (by rfl) B.dict qN Z|0]))) eD bP
 case' r1=>refine' ax ?s2 ?r2
 case' s2=>refine' Uv (eX eM Z ?i2 ?g2 ?b2)
 case i2=>exact K_ (Hs (pv 1))
 case g2=>exact pJ Z (d6 (cO 2 K6.nd) (d6 (cO 3 K6.nd) jI))
 case b2=>exact ax (bO (eY (eK (ft cH T.cl hr (pv 0) %[2|0]))) eD bP) (aH (bO (eY (eK (ft cW TW.cl hr (dG (pv 0) Z) %[3|0]))) eD bP))
 case' r2=>refine' ax ?s3 ?r3
 case s3=>exact bq 4 K6.nd (uW cN T.cl hr (pv 0))
 case' r3=>refine' ax ?s4 (aH ?s5)
 case s4=>exact bO (dj B5 (cy h4_ (by rfl) B.len ia %[1|0]) (cy iL (by rfl) B.len ia %[4|0])) eD bP
 case s5=>exact bg (iK (Cw Z) (by rfl) B.dict qN %[iV ["piece","stand"] 1 [1] (d5 (pv 4)) (λfp s H=>eW (i:=0) (show (["piece","stand"]:ae).Nodup by decide +kernel) Z (Or.inl Z)) (λfp s H=>ij) (λfp s H=>fB %[0,kq hu (pv 1) (pv 0)|0])|0])
 have lns:ns.length=qs.length:=by rw[so.perm.length_eq,ay]
 apply#[_,Z,_,_,_,_,Z,.dK hd,Z,_,Z,a_ ?_];apply#[d,_,hd,?_];apply#[_,Z,d,_,Z,hd,λv hv=>?_];let#[s1,o_]:=bp (o:=qo v d) hv;let G1:=G.same s1;let vO:=s1 _ _ hd;generalize upd H v (qo v d)=H1 at s1 o_ G1 vO ⊢;apply#[v,d,_,Z,o_,vO,λo=>?_];apply Q_ (λi σ H'=>∃(v2 v3:aL),σ=[some (.ref g),some (.ref d),v2,v3,none]/\Fz d o (cX ns f) H1 H') #[none,none,Z,Fz.start] (λi σ H' _ ⟨_,_,_,z⟩=>z.at_) ?_ ?_
 ·rintro i ky x σ H2 hx ⟨v2,v3,rfl,fz⟩ t ht;let#[n,hn,rfl,rfl]:=JY hx;let nm:=dA hn;let s2:=aa.new (o:=.tup [.str n,.str (f n)]) ht;let BJ:=fz.step s2;have e2:upd H2 t (.tup [.str n,.str (f n)]) t\.tup [.str n,.str (f n)]:=au;show jc _ _ _ _ _ (upd H2 t (.tup [.str n,.str (f n)])) _;generalize upd H2 t (.tup [.str n,.str (f n)])=H3 at s2 BJ e2 ⊢;apply#[t,_,Z,.of e2,Z,_,_,Z,_,_,Z,Z,?_];let G3:=BJ.zE vO G1 je;let#[dx,dw,dy,vs,bR,h1,h2,h3,h4,h5,m1,m2,m3,m4,m5]:=id G3.ex;let#[eV,d1,l2,d3,ju,as,ef,w1,_]:=id h2.ex;have kX:(bY p dw dy).lookup ("has_piece":Str)=none:=uZ _ _ _ Z0 Z0 Z0;have hV:(dg d1 l2 d3).lookup ("has_hand":Str)=none:=iM _ _ _ Z0 Z0 Z0;apply#[_,Z,g,dx,_,Z,h1,kX,_,Z,g,p,.str n,some n,hs,ts,qs,fp,Z,G3,Z,_,Z,?_];rw[show FN (qs.map (·.1)) (some n)=true from cb (so.perm.mem_iff.mp nm)];apply a_ ?_;apply#[_,Z,g,CG,dx,_,_,Z,h1,T.cl,T.nW,kA _ _ _,p,eV,_,Z,w1,hV,_,Z,p,f n,hs,ts,bR,Z,h2,_,Z,?_];rw[cb (so.at_ n nm)];exact a_ #[_,_,Z,BJ]
 rintro σ H2 ⟨v2,v3,rfl,fz⟩;apply#[o,fz.at_,?_];let s2:=s1.trans (fz.p5 vO);have hd2:upd H2 d (.dK (cX ns f)) d\.dK (cX ns f):=au;generalize upd H2 d (.dK (cX ns f))=H3 at s2 hd2 ⊢;let G3:=G.same s2;let#[dx,dw,dy,vs,bR,h1,h2,h3,h4,h5,m1,m2,m3,m4,m5]:=id G3.ex;apply#[_,Z,g,dx,_,Z,h1,uZ _ _ _ Z0 Z0 Z0,g,p,hs,ts,qs,fp,Z,G3,λln xt=>?_];let#[s3,e3]:=bp (o:=.lst ((qs.map (·.1)).map V.str)) xt;let mU:=s3 _ _ hd2;generalize upd H3 ln (.lst ((qs.map (·.1)).map V.str))=H4 at s3 e3 mU ⊢;apply#[_,Z,d,_,Z,mU,_,Z,ln,_,Z,.inl (.of e3),Z,_,Z,?_];rw[jJ,ay,ay,lns];simp only[bne_self_eq_false,decide_true,nR];apply a_ ?_;let EY:=s2.trans s3;apply#[_,Z,ln,Z,#[_,.of e3],λD hD=>?_];apply jK (own:=1) (fv:=[some (.ref d)]) (xs:=(qs.map (·.1)).map V.str) Z dR (λi out H'=>aa H4 H'/\H' D\.lst out/\k4 K H' out (cX ((qs.map (·.1)).take i) f)) #[aa.new hD,au,.nil] (λi out H' _ ⟨sm,_,_⟩=>.of (sm _ _ e3)) (λout H5 ⟨sm,pA,pa⟩=>?_) (λi y out H' hy ⟨sm,dE,pa⟩=>?_)
 ·rw[ay,eN] at pa;apply#[D,out,_,Z,pA,pa,by rw[jJ,ay];omega,λd' fH=>?_]
  have o6:((cX (qs.map (·.1)) f).map (·.1)).Nodup:=by
   rw[Hw,pL,qQ];exact nd.imp λn e=>n (h9 e)
  rw[Cp o6];exact k d' _ ((EY.trans sm).trans (aa.new fH)) (EY.free (sm.free fH)) au
 let#[n,hn,rfl]:=iT hy;have hi:i<(qs.map (·.1)).length:=(cw.mp hn).1;rw[ay] at hi;have nm:n∈ns:=so.perm.mem_iff.mpr (dA hn);apply#[_,Z,Z,λNx hN=>dB ?_];apply#[_,Z,_,Z,_,Z,d,.str (f n),Z,?_,zl,λt ht=>?_]
 ·rw[<- DT (g:=λn=>V.str (f n)) nm];exact .k (k:=Sum.inr n) (sm _ _ mU)
 let s5:=aa.new (o:=.tup [.str n,.str (f n)]) ht;let lo:=bH pa;rw[jJ,dJ,ay] at lo;apply#[out,s5 _ _ dE,by omega,hN _ _ #[gU (sm.trans s5) hD,au,?_]];have FV:upd H' t (.tup [.str n,.str (f n)]) t\.tup [.str n,.str (f n)]:=au;have pD:∀{b:Addr} {ys:ag},upd H' t (.tup [.str n,.str (f n)]) b\.tup ys->b≠D:=λhb=>bX hb (s5 _ _ dE) nofun;rw[iC hn];show k4 K _ _ (((qs.map (·.1)).take i++[n]).map _);rw[cu];exact jG (Paired.bF pa λy kv ⟨b,z,hb⟩=>#[b,z,by rw[aA (pD (s5 _ _ hb))];exact s5 _ _ hb]) (.cons #[t,Z,by rw[aA (pD FV)];exact FV] .nil)
end
end Ev
namespace Ev
open PySem L2
theorem fq.has{K:af}{C:Addr}{H:Hp}{p:Addr}{hs:Xa}{ts:Xb}{fp:ai}(W:fq K C H p hs ts fp){b:Addr}(hb:b∈fp):∃o,H b\o:=by
 let#[dx,d1,l2,d3,zs,as,rfl,h1,h2,h3,h4,h5,h6,h7]:=W.ex;simp only[cU] at hb;rcases hb with rfl|rfl|rfl|rfl|hb
 ·exact#[_,h1]
 ·exact#[_,h2]
 ·exact#[_,h3]
 ·exact#[_,h5]
 let#[i,hi,e]:=ku hb;exact#[_,h7 i ((aF hs)[i]' Z1) b (cE Z1) (by rw[<- e];exact cE hi)]
section
variable{d d2:Addr}{o:Obj}{kvs:List (Key × V)}{H H' H1:Hp}{u:HO}
theorem Fz.AD(s:aa H H1):Fz d o kvs H (upd H1 d (.frz o (.dK kvs))):=#[au,λb u ne e=>by rw[aA ne];exact s _ _ e]
theorem Fz.put(f:Fz d o kvs H H')(hn:H d2=none)(ne:d2≠d):Fz d o kvs H (upd H' d2 u):=#[by rw[aA ne.symm];exact f.at_,λb u nb e=>by rw[aA (bw e hn)];exact f.sm b u nb e]
end
section v
theorem KN:bx ["goods","placed","hand","found","piece"] kj (aX P4):=bE
structure qr (K:af) (CG CW:Addr) (H:Hp) (g p d:Addr) (hs:Xa) (ts:Xb) (qs:aI) (fp:ai) (f:aj):Prop where
 G:gT K CG CW H g p hs ts qs fp
 Gd:Good hs ts
 je:d∉fp
 hd:H d\.dK (cX (qs.map (·.1)) f)
 at_:∀n∈qs.map (·.1),f n∈hs.map (·.1)
 nd:(qs.map (·.1)).Nodup
 bS:qs.length<64
abbrev xl(hs:Xa)(qs:aI)(f:aj):List (Key × V):=dX (aF hs) λh=>.int (ld f (qs.map gG) h)
inductive ID (K:af) (CG CW:Addr) (vs:ag) (H:Hp) (Q:VK) (E:XK):Prop
 |mk:∀(g p d:Addr) (hs:Xa) (ts:Xb) (qs:aI) (fp:ai) (f:aj),vs=[.ref g,.ref d]->qr K CG CW H g p d hs ts qs fp f->(∀d' H',aa H H'->H d'=none->H' d'\.dK (xl hs qs f)->Q (.ref d') H')->ID K CG CW vs H Q E
theorem gj_{f CG CW CP:Addr}{fd:Ae}(F:bj K "loads_at" "loads_at" P4 f fd)(B:Bi mg)(T:dM K CG)(TW:Txt K mg CW)(cH:!br CW 1 "hands" gK (DS K CW))(cW:!br CG 2 "weight" zJ (Cu K CG CW CP)) :
  aq P w K mg base a9 3 f fd kj (ID K CG CW):=by
 exists F.bL KN;let#[g,p,d,hs,ts,qs,fp,f,rfl,Pl,k]:=h;let hu:=gD hr;let sz:=cn;have iH:bf 1 _:=hr.mono (by decide);refine' #[_,?r0,?kk]
 case' r0=>refine' ax ?s1 ?r1
 case s1=>exact bq 3 KN.nd (iK (Cw Z) (by rfl) B.dict qN %[iV ["hand"] 1 [] (d5 (uW cH TW.cl iH (dG (pv 0) Z))) (λfp s H=>eW (i:=0) (show (["hand"]:ae).Nodup by decide +kernel) Z (Or.inl Z)) (λfp s H=>ij) (λfp s H=>fB %[0,aC|0])|0])
 case' r1=>refine' ax ?s2 ?r2
 case' s2=>refine' Uv (eX eM Z ?i2 ?g2 (aH ?b2))
 case i2=>exact K_ (Hs (pv 1))
 case g2=>exact pJ Z (d6 (cO 4 KN.nd) (d6 (cO 2 KN.nd) jI))
 case b2=>exact yd hu (pv 3) (pv 2) (bN gX (kq hu (pv 3) (pv 2)) (ft cW T.cl hr (pv 0) %[4|0])) Z
 case r2=>exact aH (bg (pv 3))
 let nl:=Pl.Gd.fP;let h8:=Pl.Gd.h8;let#[dx,dw,dy,vs,bR,h1,h2,h3,h4,h5,m1,m2,m3,m4,m5]:=id Pl.G.ex;let#[eV,d1,l2,d3,ju,as,ef,w1,_]:=id h2.ex;have hV:(dg d1 l2 d3).lookup ("hands":Str)=none:=iM _ _ _ Z0 Z0 Z0;apply#[_,Z,g,CG,dx,_,_,Z,h1,T.cl,T.nW,kA _ _ _,p,eV,_,Z,w1,hV,p,hs,ts,bR,Z,h2,λlh qg=>?_];let#[s1,e1]:=bp (o:=.lst ((aF hs).map V.str)) qg;generalize upd H lh (.lst ((aF hs).map V.str))=H1 at s1 e1 ⊢;apply#[lh,Z,#[_,.of e1],λD hD=>?_];apply jK (own:=1) (fv:=[]) (xs:=(aF hs).map V.str) Z dR (λi out H'=>aa H1 H'/\H' D\.lst out/\k4 K H' out (dX ((aF hs).take i) λ_=>.int 0)) #[aa.new hD,au,.nil] (λi out H' _ ⟨sm,_,_⟩=>.of (sm _ _ e1)) (λout H5 ⟨sm,pA,pa⟩=>?_) (λi y out H' hy ⟨sm,dE,pa⟩=>?_);rotate_left 1
 ·let#[n,hn,rfl]:=iT hy;have hi:i<(aF hs).length:=(cw.mp hn).1;apply#[_,Z,Z,λNx hN=>dB ?_];apply#[_,Z,zl,λt ht=>?_];let s5:=aa.new (o:=.tup [.str n,.int 0]) ht;let lo:=bH pa;rw[jJ,dJ] at lo;apply#[out,s5 _ _ dE,by omega,hN _ _ #[gU (sm.trans s5) hD,au,?_]];have FV:upd H' t (.tup [.str n,.int 0]) t\.tup [.str n,.int 0]:=au;have pD:∀{b:Addr} {ys:ag},upd H' t (.tup [.str n,.int 0]) b\.tup ys->b≠D:=λhb=>bX hb (s5 _ _ dE) nofun;rw[iC hn];show k4 K _ _ (((aF hs).take i++[n]).map _);rw[cu];exact jG (Paired.bF pa λy kv ⟨b,z,hb⟩=>#[b,z,by rw[aA (pD (s5 _ _ hb))];exact s5 _ _ hb]) (.cons #[t,Z,by rw[aA (pD FV)];exact FV] .nil)
 rw[ay,eN] at pa;apply#[D,out,_,Z,pA,pa,by rw[jJ];omega,λd2 hd2=>?_]
 have o6:((dX (aF hs) λ_=>V.int 0).map (·.1)).Nodup:=by
  rw[Hw,pL,qQ];exact Pl.Gd.uc.imp λn e=>n (h9 e)
 rw[Cp o6];let s2:=(s1.trans sm).trans (aa.new (o:=.dK (dX (aF hs) λ_=>V.int 0)) hd2);have e2:upd H5 d2 (.dK (dX (aF hs) λ_=>V.int 0)) d2\.dK (dX (aF hs) λ_=>V.int 0):=au;have n2:H d2=none:=s1.free (sm.free hd2);show p6 _ _ _ _ (upd H5 d2 (.dK (dX (aF hs) λ_=>V.int 0)));generalize upd H5 d2 (.dK (dX (aF hs) λ_=>V.int 0))=H6 at s2 e2 ⊢;have Qo:d2≠d:=(bw Pl.hd n2).symm;apply#[d,_,s2 _ _ Pl.hd,?_];apply#[_,Z,d,_,Z,s2 _ _ Pl.hd,λv hv=>?_];let#[s3,o_]:=bp (o:=qo v d) hv;let e3:=s3 _ _ e2;let jY:=s2.trans s3;generalize upd H6 v (qo v d)=H7 at s3 o_ e3 jY ⊢;apply#[v,d,_,Z,o_,jY _ _ Pl.hd,λo=>?_];apply Q_ (λi σ H'=>∃(v2 v4:aL),σ=[some (.ref g),some (.ref d),v2,some (.ref d2),v4]/\Fz d o (cX (qs.map (·.1)) f) H H'/\H' d2\.dK (dX (aF hs) λh=>.int (ld f ((qs.take i).map gG) h))) #[none,none,Z,Fz.AD jY,by rw[aA Qo];exact e3] (λi σ H' _ ⟨_,_,_,z,_⟩=>z.at_) ?_ ?_
 ·rintro i ky x σ H8 hx ⟨v2,v4,rfl,fz,e8⟩ t ht;let#[n,hn,rfl,rfl]:=JY hx
  have hi:i<qs.length:=by
   have:=(cw.mp hn).1;rwa [ay] at this
  have hq:qs[i]? = some (qs[i]'hi):=cE hi
  have en:n=(qs[i]'hi).1:=by
   rw[dU,hq] at hn;exact (d7 hn).symm
  have fm:f n∈aF hs:=(iW hs).mem_iff.mpr (Pl.at_ n (dA hn));generalize qs[i]'hi=q at hq en;let s8:=aa.new (o:=.tup [.str n,.str (f n)]) ht;let BJ:=fz.step s8;let e9:=s8 _ _ e8;have et:upd H8 t (.tup [.str n,.str (f n)]) t\.tup [.str n,.str (f n)]:=au;show jc _ _ _ _ _ (upd H8 t (.tup [.str n,.str (f n)])) _;generalize upd H8 t (.tup [.str n,.str (f n)])=H9 at s8 BJ e9 et ⊢;apply#[t,_,Z,.of et,Z,_,_,Z,_,_,Z,Z,?_];let G9:=BJ.zE Pl.hd Pl.G Pl.je;let#[dx,dw,dy,vs,bR,h1,h2,h3,h4,h5,m1,m2,m3,m4,m5]:=id G9.ex;have kX:(bY p dw dy).lookup ("weight":Str)=none:=uZ _ _ _ Z0 Z0 Z0;apply#[_,Z,_,Z,d2,.int (ld f ((qs.take i).map gG) (f n)),Z,?_,_,Z,g,dx,_,Z,h1,kX,_,Z,g,p,.str n,some n,hs,ts,qs,fp,Z,G9,Pl.nd,Z,.inl #[q,dA hq,dF some en,?_]]
  ·rw[<- DT (g:=λh=>V.int (ld f ((qs.take i).map gG) h)) fm];exact .k (k:=Sum.inr (f n)) e9
  apply#[_,_,Z,Z,_,Z,_,Z,d2,_,Z,.k (k:=Sum.inr (f n)) e9 (by rw[jJ];omega),?_];apply#[_,_,Z,BJ.put n2 Qo,?_];rw[au,UM fm];congr 2;apply KS λm _=>?_
  have e5:(qs.take (i+1)).map gG=(qs.take i).map gG++[gG q]:=by
   rw[jr,hq,cu];rfl
  rw[e5,kR_];show (if m=f n then V.int (ld f ((qs.take i).map gG) (f n)+q.2.1) else V.int (ld f ((qs.take i).map gG) m))=V.int (if m=f q.1 then _ else _);rw[<- en];by_cases z:m=f n
  ·rw[aJ z,aJ z,z];rfl
  rw[aB z,aB z]
 rintro σ H8 ⟨v2,v4,rfl,fz,e8⟩;apply#[o,fz.at_,?_];rw[jJ,ay,eN] at e8;exact#[_,Z,k d2 _ (fz.p5 Pl.hd) n2 (by rw[aA Qo];exact e8)]
end
end Ev
namespace L2
open PySem PySem.Spec PyProof.Rows PySem.W
theorem ge_{d:Addr}{o:Obj}{kvs:List (Key × V)}{g:TG}{tc:TT}{te:TE}{own:Nat}{fv:List aL}{dec:V->Hp->List aL->Prop}{D:Addr}{H:Hp}{Q:VK}{ip:St}(mO:ip=List.replicate own none++fv)(G:yq g own fv dec)(Pv:Nat->ag->Hp->Prop)
  (h0:Pv 0 [] (upd H D (.lst []))) (hl:∀i out H',i<=kvs.length->Pv i out H'->H' d\.frz o (.dK kvs)) (hd:∀out H',Pv kvs.length out H'->Q (.ref D) H')
  (uv:∀i k x out H',kvs[i]? = some (k,x)->Pv i out H'->∀t,H' t=none->∃o3,dec (.ref t) (upd H' t (.tup [kV k,x])) o3/\o3.length=own/\∀Nx:Hp->Prop,(∀gm H2,Pv (i+1) gm H2->Nx H2)->
   tc (o3++fv) (upd H' t (.tup [kV k,x])) λb H4=>if b=true then te (o3++fv) H4 λy H5=>∃c_,H5 D\.lst c_/\c_.length<sizeLine/\Nx (upd H5 D (.lst (c_++[y]))) else Nx H4) :
  vR (Itm d o kvs) g tc te ip D H Q:=by
 apply Cr mO G kvs.length Pv h0 (λout H' p=>#[#[hl _ _ _ (bo _) p,bo _],hd out H' p]) λi out H' hi p=>?_;let q:=hl i out H' (Nat.le_of_lt hi) p;apply#[#[q,hi],λx H2 y=>?_];let#[t,k,v,rfl,ht,hx,rfl]:=y;exact uv i k v out H' hx p t ht
section
variable{X:Cx}
inductive tT (xs:ag) (H:Hp) (Q:VK):Prop
 |mk:∀a kvs,xs=[.ref a]->Rd H a (.dK kvs)->(∀p,H p=none->Q (.ref p) (upd H p (.dK kvs)))->tT xs H Q
theorem Lj:gB X (.type "dict") tT:=by
 intro pins s σ H xs us Q I r h;let#[a,kvs,rfl,hd,q]:=h;let#[u,rfl,ru]:=vals1 r;cases ru;exact iH_ I hd λp s' hp I'=>#[.ref p,_,I',Z,q p hp]
inductive tQ (K:af) (x:V) (y:V) (H:Hp) (Q:VK):Prop
 |mk:∀a b xs,x=.ref a->y=.ref b->dW K H a xs->dW K H b []->Q (.bl (!xs.isEmpty)) H->tQ K x y H Q
theorem VD(hu:X.A.units+0+1<cLine):dN X (compareOp .NotEq) (tQ X.K):=by
 intro pins s σ H x y v u Q I rx ry h;let#[a,b,xs,rfl,rfl,t,t',hq]:=h;cases xs with
 |nil=>exact ln_ hZ hu pins s σ H (.ref a) (.ref b) v u Q I rx ry #[[],[],#[a,[],Z,t,.nil],#[b,[],Z,t',.nil],hq]
 |cons z zs=>
  cases rx;cases ry;let#[us,r,pl,_]:=I.list t;let#[vs,r',oY,_]:=I.list t';let l1:=r.length;let l2:=r'.length;exact Lu.g9 pl.isList oY.isList (by simp only[cq,bne_iff_ne];simp at l1 l2;omega) Z1 #[.bl true,H,I,Z,hq]
end
end L2
namespace Ev
open PySem L2
theorem U9{A:Ag}{s:Ab}{ns:ae}{f g:aj}{vb:List (Key × Aa)}(rb:KV (cX ns g) vb):∀(ms:ae) (va:List (Key × Aa)),KV (cX ms f) va->(∀m∈ms,m∈ns)->PySem.W.KeqHits A s vb va (ms.all λn=>decide (f n=g n))
 |[],va,r,_=>by
  cases r;exact .nil
 |m::ms,va,r,h=>by
  cases r with
  |@cons _ q _ YR h1 r=>
   let hm:=h m fM;let#[y,hy,ry]:=eS.some_of (v:=.str (g m)) (o:=valueAt vb (Sum.inr m)) (by rw[<- DT (g:=λn=>V.str (g n)) hm];exact rb.val _);let#[k,v]:=q;let#[e1,e2]:=h1;have e1:(Sum.inr m:Key)=k:=e1;subst e1;let#[t,rfl]:=(show ∃t,v=Value.str (f m) t from e2);let#[u,rfl]:=(show ∃t,y=Value.str (g m) t from ry);let q:=SeqAt.EqAt.str_str (A:=A) (s:=s) (f m) t (g m) u;rw[show (f m == g m)=decide (f m=g m) by by_cases z:f m=g m<;>simp[z]] at q
   exact .hit hy q (U9 rb ms YR r λx hx=>h x (eR _ hx))
def mN(a n:Int):Int:=a / (Int.gcd a n:Int) * n
theorem kb_{a n:Int}(ha:0<a)(hn:0<n):mN a n=(Int.lcm a n:Int):=by
 let#[p,rfl]:=qT (Int.le_of_lt ha);let#[q,rfl]:=qT (Int.le_of_lt hn);show ((p:Int) / ((Nat.gcd p q:Nat):Int)) * (q:Int)=((Nat.lcm p q:Nat):Int);rw[<- Int.natCast_ediv,<- Int.natCast_mul,Nat.div_mul_right_comm (Nat.gcd_dvd_left p q)];rfl
def mM(ns:List Int):Int:=ns.foldl mN 1
theorem Vp:∀(ns:List Int) (a:Int),0<a->(∀n∈ns,0<n)->0<ns.foldl mN a/\∀x:Int,0<=x->(ns.foldl mN a ∣ x ↔ a ∣ x/\∀n∈ns,n ∣ x)
 |[],a,ha,_=>#[ha,λx _=>by simp]
 |n::ns,a,ha,h=>by
  let hn:=h n fM;let e:=kb_ ha hn
  have p:0<mN a n:=by
   rw[e];have:=Nat.lcm_pos (m:=a.natAbs) (n:=n.natAbs) Z1 Z1;have:0<Int.lcm a n:=this;omega
  let#[h1,h2]:=Vp ns (mN a n) p λm hm=>h m (eR _ hm);apply#[h1,λx hx=>(h2 x hx).trans ?_];let#[z,rfl]:=qT hx;rw[e,Int.natCast_dvd_natCast,Int.lcm_dvd_iff];constructor
  ·rintro⟨⟨q1,q2⟩,q3⟩
   exact#[q1,λm hm=>by
    rcases cU.mp hm with rfl|hm
    ·exact q2
    exact q3 m hm]
  rintro⟨q1,q2⟩;exact#[#[q1,q2 n fM],λm hm=>q2 m (eR _ hm)]
theorem iO_{ns:List Int}(h:∀n∈ns,0<n):0<mM ns:=(Vp ns 1 (by decide) h).1
theorem k0_(f:aj)(x:Str × Int)(ws:Xa)(h:Str):ld f (x::ws) h=(if f x.1=h then x.2 else 0)+ld f ws h:=by
 unfold ld;by_cases e:f x.1=h
 ·simp[e]
 simp[e]
def sumF(ns:ae)(L c:Str->Int):Int:=(ns.map λh=>L h * (L h * c h)).sum
end Ev
namespace Ev
open PySem L2
theorem Tq{f:aj}{h:Str}:∀{ws:Xa},(∀x∈ws,0<=x.2/\x.2<=1000000000)->ld f ws h<=1000000000 * ws.length
 |[],_=>by
  unfold ld;simp
 |x::ws,p=>by
  let h1:=p x fM;let h2:=Tq (f:=f) (h:=h) (ws:=ws) λy hy=>p y (eR _ hy);rw[k0_,kB];by_cases z:f x.1=h
  ·rw[aJ z];omega
  rw[aB z];omega
def o7(hs:Xa):Int:=mM ((aF hs).map (strOf hs))
theorem J9{hs:Xa}{ts:Xb}(G:Good hs ts){n:Str}(h:n∈aF hs):1<=strOf hs n/\strOf hs n<=1000:=(G.aE _ (zW ((iW hs).mem_iff.mp h))).2
section v
theorem wV:bx ["numbers","found","number"] ["numbers"] (aX Mf):=bE
def EL(K:af):Sp:=λvs H Q _=>∃(l:Addr) (ns:List Int),vs=[.ref l]/\dW K H l (ns.map V.int)/\(∀n∈ns,1<=n/\n<=1000)/\Q (.int (mM ns)) H
theorem js_{ns:List Int}{i:Nat}{n:Int}(h:ns[i]? = some n):mM (ns.take (i+1))=mN (mM (ns.take i)) n:=by
 unfold mM;rw[jr,h,List.foldl_append];rfl
theorem eN_{ns:List Int}{i:Nat}{y:V}(h:(ns.map V.int)[i]? = some y):∃n,ns[i]? = some n/\y=.int n:=by
 rw[dU] at h;cases e:ns[i]? with
 |none=>rw[e] at h;cases h
 |some n=>rw[e] at h;exact#[n,Z,(d7 h).symm]
theorem lS_{f:Addr}{fd:Ae}(F:bj K "least_multiple" "least_multiple" Mf f fd)(cG:!aY 1 "greatest_divisor" qH EM):!aq a9 2 f fd ["numbers"] (EL K):=by
 exists F.bL wV;let#[l,ns,rfl,hl,b,k]:=h;refine' #[_,ax ?s1 (ax ?s2 (aH ?s3)),?kk]
 case s1=>exact bq 1 wV.nd aC
 case s2=>exact eX eM Z (d5 (pv 0)) (cO 2 wV.nd) (aH (bq 1 wV.nd (bN qm (bN zY (pv 1) (aQ cG hr %[1,2|0])) (pv 2))))
 case s3=>exact bg (pv 1)
 apply#[_,Z,l,Z,#[_,hl],ie (K:=K) (a:=l) (xs:=ns.map V.int) (λi σ H'=>H'=H/\∃(v2:aL),σ=[some (.ref l),some (.int (mM (ns.take i))),v2]) #[Z,none,Z] (λi σ H' _ ⟨e,_⟩=>by rw[e];exact hl) ?_ ?_]
 ·rintro i y σ H' hy ⟨rfl,v2,rfl⟩;let#[n,hn,rfl]:=eN_ hy;let bn:=b n (dA hn)
  let p:=iO_ (ns:=ns.take i) λm hm=>by
   have:=b m (List.take_subset _ _ hm);omega
  apply#[_,Z,_,Z,_,Z,_,_,Z,Int.le_of_lt p,by omega,_,_,Z,Z,lT_ Z1 (Int.le_trans bn.2 (by decide)),_,Z,_,_,Z,Z,.inr #[by omega,by omega],Z,some (.int n),?_];rw[js_ hn];rfl
 rintro σ H' ⟨rfl,v2,rfl⟩;apply#[_,Z,?_];rw[ay,eN];exact k
theorem AK:bx ["web"] ["web"] (aX sY):=bE
inductive lN (K:af) (C:Addr) (vs:ag) (H:Hp) (Q:VK) (E:XK):Prop
 |mk:∀(p:Addr) (hs:Xa) (ts:Xb) (fp:ai),vs=[.ref p]->fq K C H p hs ts fp->Good hs ts->(∀H',aa H H'->Q (.int (o7 hs)) H')->lN K C vs H Q E
theorem k6_{f CW:Addr}{fd:Ae}(F:bj K "multiple_of_strengths" "multiple_of_strengths" sY f fd)(TW:Txt K mg CW)(cL:!aY 2 "least_multiple" ["numbers"] (EL K))(cH:!br CW 1 "hands" gK (DS K CW))(cS:!br CW 2 "strength" jF (D9 K CW)):!aq a9 3 f fd ["web"] (lN K CW):=by
 exists F.bL AK;let#[p,hs,ts,fp,rfl,W,G,k]:=h;let sz:=cn;let nl:=G.fP;let h8:=G.h8;refine' #[_,aH (bg (aQ cL hr %[iV ["hand","web"] 1 [0] (d5 (uW cH TW.cl (hr.mono (by decide)) (pv 0))) (λfp s H=>eW (i:=0) (show (["hand","web"]:ae).Nodup by decide +kernel) Z (Or.inl Z)) (λfp s H=>ij) (λfp s H=>?e1)|0])),?kk]
 case e1=>exact ft cS TW.cl hr (pv 1) %[0|0]
 let#[eV,d1,l2,d3,ju,as,ef,w1,_]:=id W.ex;apply#[_,Z,p,eV,_,Z,w1,iM _ _ _ Z0 Z0 Z0,p,hs,ts,fp,Z,W,λlh qg=>?_];let#[s1,e1]:=bp (o:=.lst ((aF hs).map V.str)) qg;generalize upd H lh (.lst ((aF hs).map V.str))=H1 at s1 e1 ⊢;apply#[lh,Z,#[_,.of e1],λD hD=>?_];apply jK (own:=1) (fv:=[some (.ref p)]) (xs:=(aF hs).map V.str) Z dR (λi out H'=>aa H1 H'/\H' D\.lst out/\out=(((aF hs).take i).map (strOf hs)).map V.int) #[aa.new hD,au,Z] (λi out H' _ ⟨sm,_,_⟩=>.of (sm _ _ e1)) (λout H5 ⟨sm,pA,eo⟩=>?_) (λi y out H' hy ⟨sm,dE,eo⟩=>?_)
 ·rw[ay,eN] at eo;rw[eo] at pA;apply#[D,_,Z,.of pA,λn hn=>?_,k H5 (s1.trans sm)];let#[m,hm,rfl]:=bG.mp hn;exact J9 G hm
 let#[n,hn,rfl]:=iT hy;have hi:i<(aF hs).length:=(cw.mp hn).1;apply#[_,Z,Z,λNx hN=>dB ?_];let W':=(W.same s1).same sm;let#[eV,d1,l2,d3,ju,as,ef,w1,_]:=id W'.ex;apply#[_,Z,p,eV,_,Z,w1,iM _ _ _ Z0 Z0 Z0,_,Z,p,n,strOf hs n,hs,ts,fp,Z,W',G.zt,zW ((iW hs).mem_iff.mp (dA hn)),?_];apply#[out,dE,by rw[eo,ay,ay,dJ];omega,hN _ _ #[gU sm hD,au,?_]];rw[iC hn,cu,cu,eo];rfl
theorem HL:bx ["goods","placed","multiple","found","hand","load"] kj (aX OY):=bE
def vH(hs:Xa)(qs:aI)(f:aj)(h:Str):Int:=ld f (qs.map gG) h * (o7 hs / strOf hs h)
inductive K5 (K:af) (CG CW:Addr) (vs:ag) (H:Hp) (Q:VK) (E:XK):Prop
 |mk:∀(g p d:Addr) (hs:Xa) (ts:Xb) (qs:aI) (fp:ai) (f:aj),vs=[.ref g,.ref d]->qr K CG CW H g p d hs ts qs fp f->(∀q∈qs,0<=q.2.1/\q.2.1<=1000000000)->(∀d' H',aa H H'->H d'=none->H' d'\.dK (dX (aF hs) λh=>.int (vH hs qs f h))->Q (.ref d') H')->K5 K CG CW vs H Q E
theorem JC{qs:aI}(wp:∀q∈qs,0<=q.2.1/\q.2.1<=1000000000)(bS:qs.length<64)(f:aj)(h:Str):0<=ld f (qs.map gG) h/\ld f (qs.map gG) h<=64000000000:=by
 have p:∀x∈qs.map gG,0<=x.2/\x.2<=1000000000:=λx hx=>by
  let#[q,hq,rfl]:=bG.mp hx;exact wp q hq
 let h1:=Tq (f:=f) (h:=h) p;rw[ay] at h1;exact#[l6_ λx hx=>(p x hx).1,by omega]
theorem i8_{f CG CW:Addr}{fd:Ae}(F:bj K "levels_at" "levels_at" OY f fd)(T:dM K CG)(TW:Txt K mg CW)(cL:!aY 3 "loads_at" kj (ID K CG CW))(cM:!aY 3 "multiple_of_strengths" ["web"] (lN K CW))(cS:!br CW 2 "strength" jF (D9 K CW)) :
  aq P w K mg base a9 4 f fd kj (K5 K CG CW):=by
 exists F.bL HL;let#[g,p,d,hs,ts,qs,fp,f,rfl,Pl,wp,k]:=h;let hu:=gD hr;let sz:=cn;have uo:bf 2 _:=hr.mono (by decide);refine' #[_,?r0,?kk]
 case' r0=>refine' ax ?s0 (ax ?s1 (ax ?s2 ?r2))
 case s0=>exact bq 2 HL.nd (aQ cM hr %[dG (pv 0) Z|0])
 case s1=>exact bq 3 HL.nd Ip
 case' s2=>refine' eX eM Z ?i2 ?g2 (aH ?b2)
 case i2=>exact K_ (Hs (aQ cL hr %[0,1|0]))
 case g2=>exact pJ Z (d6 (cO 4 HL.nd) (d6 (cO 5 HL.nd) jI))
 case b2=>exact yd hu (pv 3) (pv 4) (bN qm (pv 5) (bN zY (pv 2) (ft cS TW.cl uo (dG (pv 0) Z) %[4|0]))) Z
 case r2=>exact aH (bg (pv 3))
 let nl:=Pl.Gd.fP;let h8:=Pl.Gd.h8;let#[dx,dw,dy,vs,bR,h1,h2,_]:=id Pl.G.ex;apply#[_,Z,g,CG,dx,_,_,Z,h1,T.cl,T.nW,kA _ _ _,p,hs,ts,bR,Z,h2,Pl.Gd,λH0 s0=>?_];intro d2 hd2;let s1:=s0.trans (aa.new (o:=.dK []) hd2);have e1:upd H0 d2 (.dK []) d2\.dK []:=au;have n2:H d2=none:=s0.free hd2;show p6 _ _ _ _ (upd H0 d2 (.dK []));generalize upd H0 d2 (.dK [])=H1 at s1 e1 ⊢;have RP:qr K CG CW H1 g p d hs ts qs fp f:=#[Pl.G.same s1,Pl.Gd,Pl.je,s1 _ _ Pl.hd,Pl.at_,Pl.nd,Pl.bS];apply#[_,Z,_,Z,g,p,d,hs,ts,qs,fp,f,Z,RP,λdl H2 s2 JS e2=>?_];apply#[dl,_,Z,e2,λv hv=>?_];let#[s3,o_]:=bp (o:=qo v dl) hv;let e3:=s3 _ _ e2;let mE:=s2.trans s3;generalize upd H2 v (qo v dl)=H3 at s3 o_ e3 mE ⊢;have C5:H dl=none:=s1.free JS;have Xm:d2≠dl:=bw e1 JS;apply#[v,dl,_,Z,o_,e3,λo=>?_];apply Q_ (λi σ H'=>∃(v4 v5:aL),σ=[some (.ref g),some (.ref d),some (.int (o7 hs)),some (.ref d2),v4,v5]/\aa H H'/\H' dl\.frz o (.dK (xl hs qs f))/\H' d2\.dK (dX ((aF hs).take i) λh=>.int (vH hs qs f h))) #[none,none,Z,gU (s1.trans mE) C5,au,by rw[aA Xm];exact mE _ _ e1] (λi σ H' _ ⟨_,_,_,_,z,_⟩=>z) ?_ ?_
 ·rintro i ky x σ H8 hx ⟨v4,v5,rfl,s8,f8,e8⟩ t ht;let#[n,hn,rfl,rfl]:=JY hx;have hi:i<(aF hs).length:=(cw.mp hn).1;have nm:n∈hs.map (·.1):=(iW hs).mem_iff.mp (dA hn);let sm:=zW nm;let sg:=J9 Pl.Gd (dA hn);let lo:=JC wp Pl.bS f n;let ss:=aa.new (o:=.tup [.str n,.int (ld f (qs.map gG) n)]) ht;let s9:=s8.trans ss;let e9:=ss _ _ e8;let f9:=ss _ _ f8;have et:upd H8 t (.tup [.str n,.int (ld f (qs.map gG) n)]) t\.tup [.str n,.int (ld f (qs.map gG) n)]:=au;show jc _ _ _ _ _ (upd H8 t (.tup [.str n,.int (ld f (qs.map gG) n)])) _;generalize upd H8 t (.tup [.str n,.int (ld f (qs.map gG) n)])=H9 at ss s9 e9 f9 et ⊢;apply#[t,_,Z,.of et,Z,_,_,Z,_,_,Z,Z,?_];let G9:=Pl.G.same s9;let#[dx,dw,dy,vs,bR,h1,h2,h3,h4,h5,m1,m2,m3,m4,m5]:=id G9.ex;let#[eV,d1,l2,d3,ju,as,ef,w1,_]:=id h2.ex;have hV:(dg d1 l2 d3).lookup ("strength":Str)=none:=iM _ _ _ Z0 Z0 Z0;apply#[_,Z,_,Z,_,Z,g,CG,dx,_,_,Z,h1,T.cl,T.nW,kA _ _ _,p,eV,_,Z,w1,hV,_,Z,p,n,strOf hs n,hs,ts,bR,Z,h2,Pl.Gd.zt,sm,?_];apply#[_,_,Z,Z,#[by omega,by omega],_,_,Z,Z,.inl #[by omega,by omega],_,Z,_,Z,d2,_,Z,.k (k:=Sum.inr n) e9 (by rw[jJ,dJ];omega),?_];apply#[_,_,Z,gU s9 n2,by rw[aA Xm.symm];exact f9,?_];rw[au,iC hn,Vc (Qe Pl.Gd.uc hn)];congr 2;apply KS λm _=>?_;by_cases z:m=n
  ·subst z;simp[vH]
  simp[z]
 rintro σ H8 ⟨v4,v5,rfl,s8,f8,e8⟩;rw[jJ,eN] at e8;exact#[_,Z,k d2 H8 s8 n2 e8]
end
end Ev
namespace L2
open PySem PySem.Spec PyProof.Rows
section
variable{M:Model}{A:Ag}{E:Aa->Ab->Prop}{s:Ab}
end
section
variable{X:Cx}{E:XK}
end
section v
section
variable{N:ae}{qual:Str}{scope:Scope}{f:Addr}{cd:Aa}{A:Ag}{outer:List Env}{s:Ab}{H:Hp}{E:XK}
end
end
end L2
namespace L2
open PySem PySem.Spec PySem.Calls PyProof.Rows PySem.W
section
variable{M:Model}{A:Ag}{E:Aa->Ab->Prop}{s:Ab}{base:Heap}{env:Env}{outer:List Env}{L e:Addr}{cls a0:Aa}{Q:Unit->Ab->Prop}
def pO(h base:Heap)(e:Addr)(cls a0:Aa)(dd:Option Addr):Prop:=∃oe vs T oT ts,h.get? e\oe/\(oe.cls=cls/\vs[0]? = some a0)/\oe.data=Data.fields vs/\vs[1]? = some (Value.ref T)/\base.get? T=none/\T≠e/\h.get? T\oT/\oT.data=Data.fields ts/\ts[3]? = some Value.none/\oe.dict=dd
def ye(base:Heap)(l:List Env)(e:Addr)(cls a0:Aa)(dd:Option Addr)(h:Heap):Prop:=base.StaysIn h/\base.get? e=none/\h.FunFrames base l/\pO h base e cls a0 dd
theorem p_{oe:Obj}{vs:Array Aa}{head:Aa}{xE:Bool}(Gx:A.frames\(env::outer))(hl:s.heap.FunFrames base (env::outer))(hf:env.frame\L)(he:s.heap.get? e\oe)(UI:base.StaysIn s.heap)(hen:base.get? e=none)(hd:oe.data=Data.fields vs)(hsz:1<vs.size)(h0:vs[0]? = some a0)
  (h:∀h',base.StaysIn h'->h'.FunFrames base (env::outer)->pO h' base e oe.cls a0 oe.dict->s.heap.UpToSlots h'->Q () { s with heap:=h' }) :
  wpAny M A (do
   let a <- PySem.frameOf env
   let pl <- entryPlaceOf L xE
   let b <- EntryCells.newEntry head a Value.none (rawInt L) Value.none pl
   setField (Value.ref e) 1 b) (λ_ s'=>wpAny M A (setFlight (Value.ref e) none) Q E s') E s:=by
 have Ob:e∉List.filterMap (λx=>x.frame) (env::outer):=λhm=>by
  let#[_,o,ho,hnf]:=Heap.FunFrames.mem hl hm;rw[he] at ho;cases ho;exact hnf vs hd
 apply ao (wpAny_frameOf_fun Gx hl hf λbZ pb=>ao (wpAny_entryPlaceOf λpl jz=>?_));unfold EntryCells.newEntry newFields;have Nr:bZ.objs.size=s.heap.objs.size:=pb.1;let Gz:=(pb.right.left e Ob).trans he;have dY:∀b o,s.heap.get? b\o->b≠bZ.objs.size:=λb o q=>eJ (by rw[Nr];exact cK q)
 have UX:base.get? bZ.objs.size=none:=by
  cases q:base.get? bZ.objs.size with
  |none=>rfl
  |some o=>exact absurd Z (dY _ o (UI _ o q))
 have hX:∀b o,base.get? b\o->bZ.get? b\o:=λb o q=>(pb.right.left b (λhm=>by
  have:=(Heap.FunFrames.mem hl hm).1;rw[q] at this;cases this)).trans (UI b o q)
 obtain⟨qv,Dc,JF⟩:∃qv:Array Aa,([head,Value.ref L,Value.none,rawInt ↑L,Value.none]++if pl.isEmpty=true then List.replicate 6 Value.none else pl).toArray=qv/\3<qv.size:=#[_,Z,by simp]
 have FU:qv.size<=sizeLine+2:=by
  rw[<- Dc];rcases jz with rfl|⟨a,b,c,d,c9,kn,_,rfl⟩
  ·show 11<=sizeLine+2;decide
  show 11<=sizeLine+2;decide
 apply ao (nA ?_ (by rw[Dc];exact FU));rw[Dc];have zy:(bZ.push { cls:=Value.type "traceback",data:=Data.fields qv }).get? e\oe:=cj _ Gz;have F_:(bZ.push { cls:=Value.type "traceback",data:=Data.fields qv }).get? bZ.objs.size=some { cls:=Value.type "traceback",data:=Data.fields qv }:=eE bZ Z;have GH:bZ.objs.size≠e:=(dY e oe he).symm;apply wpAny_setField zy hd hsz ?_;let uw:=Obj.data_mapFields hd λx=>x.setIfInBounds 1 (Value.ref bZ.objs.size);let zx:=Heap.get?_update_self (Obj.mapFields λx=>x.setIfInBounds 1 (Value.ref bZ.objs.size)) zy (Obj.isFreed_of_fields uw);let zr:=(nB (bZ.push { cls:=Value.type "traceback",data:=Data.fields qv }) (Obj.mapFields λx=>x.setIfInBounds 1 (Value.ref bZ.objs.size)) GH.symm).trans F_;unfold setFlight;apply ao (wpAny_field (x:=.ref bZ.objs.size) zx uw (by simp[hsz]) ?_);rw[aJ Z2];apply wpAny_setField zr Z JF ?_;let zA:=Obj.data_mapFields (o:={ cls:=Value.type "traceback",data:=Data.fields qv }) Z λx=>x.setIfInBounds 3 Value.none;let F9:=Heap.get?_update_self (Obj.mapFields λx=>x.setIfInBounds 3 Value.none) zr (Obj.isFreed_of_fields zA);let Gy:=(nB ((bZ.push { cls:=Value.type "traceback",data:=Data.fields qv }).update e (Obj.mapFields λx=>x.setIfInBounds 1 (Value.ref bZ.objs.size))) (Obj.mapFields λx=>x.setIfInBounds 3 Value.none) GH).trans zx
 have yZ:∀b o,b≠e->b≠bZ.objs.size->bZ.get? b\o->(((bZ.push { cls:=Value.type "traceback",data:=Data.fields qv }).update e (Obj.mapFields λx=>x.setIfInBounds 1 (Value.ref bZ.objs.size))).update bZ.objs.size (Obj.mapFields λx=>x.setIfInBounds 3 Value.none)).get? b\o:=λb o n1 n2 q=>
  (nB _ _ n2.symm).trans ((nB _ _ n1.symm).trans (cj _ q))
 have US:((Obj.mapFields λx=>x.setIfInBounds 1 (Value.ref bZ.objs.size)) oe).cls=oe.cls/\((Obj.mapFields λx=>x.setIfInBounds 1 (Value.ref bZ.objs.size)) oe).dict=oe.dict:=by
  let#[c,dt,da,sl]:=oe;have:da=Data.fields vs:=hd;subst this;exact#[Z,Z]
 have ups:∀b o,s.heap.get? b\o->(∀vs,o.data≠Data.fields vs)->∃sl,(((bZ.push { cls:=Value.type "traceback",data:=Data.fields qv }).update e (Obj.mapFields λx=>x.setIfInBounds 1 (Value.ref bZ.objs.size))).update bZ.objs.size (Obj.mapFields λx=>x.setIfInBounds 3 Value.none)).get? b=some { cls:=o.cls,dict:=o.dict,data:=o.data,slots:=sl }:=λb o q nf=>by
  let#[sl,q1]:=pb.right.right b o q;apply#[sl,yZ b _ (λz=>?_) (dY b o q) q1];subst z;rw[he] at q;cases q;exact nf vs hd
 apply h _ (λb o q=>yZ b o (λz=>?_) (λz=>?_) (hX b o q)) (Heap.FunFrames.of_keeps (λb o q nf=>?_) hl) #[_,_,bZ.objs.size,_,_,Gy,#[US.1,?_],uw,?_,UX,GH,F9,zA,?_,US.2] ups
 ·subst z;rw[hen] at q;cases q
 ·subst z;rw[UX] at q;cases q
 ·let#[sl,q1]:=ups b o q nf;exact#[_,q1,Z]
 ·rw[Array.getElem?_setIfInBounds];simpa using h0
 ·simp[hsz]
 simp[JF]
theorem ye.less{dd:Option Addr}{h:Heap}(f:ye base (env::outer) e cls a0 dd h):ye base outer e cls a0 dd h:=#[f.1,f.2.1,f.2.2.1.2.2,f.2.2.2]
theorem dX_{dd:Option Addr}(Gx:A.frames\(env::outer))(hf:env.frame\L)(xx:ye base (env::outer) e cls a0 dd s.heap)
  (hQ:∀h',ye base (env::outer) e cls a0 dd h'->s.heap.UpToSlots h'->Q () { s with heap:=h' }):wpAny M A (noteFrame (Value.ref e) env) (λ_ iE=>wpAny M A (setFlight (Value.ref e) none) Q E iE) E s:=by
 let#[f1,f2,f3,oe,vs,T,oT,ts,he,#[hc,h0],hd,h1,hnT,GH,hT,Oi,h3,BA]:=xx;unfold noteFrame;rw[hf];dsimp only;apply ao (wpAny_field he hd h1 ?_);rw[aJ Z2];apply ao (wpAny_field hT Oi h3 ?_);rw[aB (by simp[rawInt])];apply ao (wpAny_setField hT Oi (Array.getElem?_eq_some_iff.mp h3).1 ?_);have other:∀b,b≠T->(s.heap.update T (Obj.mapFields λx=>x.setIfInBounds 3 Value.none)).get? b=s.heap.get? b:=λb hb=>nB _ _ hb.symm
 have Fl:∀b o,s.heap.get? b\o->(∀vs,o.data≠Data.fields vs)->b≠T:=λb o q nf z=>by
  subst z;rw[hT] at q;cases q;exact nf ts Oi
 apply p_ (base:=base) (s:={ s with heap:=s.heap.update T (Obj.mapFields λx=>x.setIfInBounds 3 Value.none) }) Gx (Heap.FunFrames.of_keeps (λb o q nf=>#[o,(other b (Fl b o q nf)).trans q,Z]) f3) hf ((other e GH.symm).trans he) (λb o q=>(other b (λz=>?_)).trans (f1 b o q)) f2 hd (Array.getElem?_eq_some_iff.mp h1).1 h0 λh' g1 g2 g3 g4=>?_
 ·subst z;rw[hnT] at q;cases q
 apply hQ h' #[g1,f2,g2,?_] λb o q nf=>g4 b o ((other b (Fl b o q nf)).trans q) nf;rw[hc,BA] at g3;exact g3
theorem g1_{dd:Option Addr}(Gx:A.frames\(env::outer))(hf:env.frame\L)(xx:ye base (env::outer) e cls a0 dd s.heap)
  (hQ:∀h',ye base outer e cls a0 dd h'->s.heap.UpToSlots h'->Q () { s with heap:=h' }):wpAny M A (leaving env (Value.ref e)) Q E s:=by
 unfold leaving;exact ao (dX_ Gx hf xx λh' f u=>hQ h' f.less u)
end
end L2
namespace L2
open PySem PySem.Spec PySem.Calls PyProof.Rows PySem.W
section
variable{prog:Ad}{w:Af}{A:Ag}{E:Aa->Ab->Prop}{h:Heap}{g:Array GenState}{d:Drawn}{t:Nat}{os:OsState}{nm q:Str}{C N f:Addr}{bs bm XN:ak}{Og:Bool}{sn:ae}{sub:ak}{ab:Bool}{col:Option Bool}{dd:Option Addr}{k0 k1 k2 k3 k5:Option Aa}{B newId Bf:String}{K:af}{rest:ak}
end
end L2
namespace L2
open PySem PySem.Spec PySem.Calls PyProof.Rows PySem.W Builtin Builtin.ObjectAttr
def BO(C CE:Addr):ak:=[.ref C,.ref CE,.type "ValueError",.type "Exception",.type "BaseException",.type "object"]
section
variable{prog:Ad}{w:Af}{A:Ag}{E:Aa->Ab->Prop}{s:Ab}{K:af}{x C CE:Addr}{ox:Obj}{od:Option Obj}{name:Str}{tk:Tok}{v:Aa}{cd:ClassData}
end
end L2
namespace L2
open PySem PySem.Spec PySem.Calls PyProof.Rows PySem.W
section
variable{M:Model}{A:Ag}{E:Aa->Ab->Prop}{s:Ab}{env:Env}{nm q:Str}{C N:Addr}{bs bm:ak}{Og:Bool}{sn:ae}{sub:ak}{ab:Bool}{col:Option Bool}{dd:Option Addr}{k0 k1 k2 k3 k5:Option Aa}{newId:String}
end
end L2
namespace L2
open PySem PySem.Spec PySem.Calls PyProof.Rows PySem.W
def BP(K:af)(C:Addr)(XN:ak)(newId:String):Bool:=
 match K.lookup C with
 |some ⟨.type "type",_,.cls cd,sl⟩=>
  match cd.mro,sl.toList with
  |.ref C'::bm,[_,_,_,_,some (.builtin n),_]=>C' == C&&n == newId&&!cd.hasDel&&tailIn K XN bm&&nsOkIn K cd.ns
  |_,_=>false
 |_=>false
def QG(K:af)(C CE:Addr):Bool:=
 match clsIn K C with
 |some cd=>cd.mro == BO C CE&&cd.hasDict
 |none=>false
structure ExO (K:af) (C CE:Addr):Prop where
 kx:RT K C
 ex:BP K C bmV "ValueError.__new__"=true
 es:findIn K (.ref C) "__setattr__"\some (.builtin "object.__setattr__")
 cl:QG K C CE=true
structure ExF (K:af) (C:Addr) (f:Str):Prop where
 tk:takerIn K C f\none
 fd:findIn K (.ref C) f\none
structure ExB (K:af) (CE:Addr):Prop where
 sp:specialIn K (.ref CE) "__getattribute__"\some (.builtin "type.__getattribute__")
 rd:readsIn K CE (.type "type")=true
 fc:findCls K (.ref CE) (.type "type") "__init__"\.val (.builtin "ValueError.__init__")
section
variable{P:Ad}{w:Af}{H:Hp}{h:Heap}{e C a0 d:Addr}{dd:Option Addr}{fs:List (Str × V)}
end
section
variable{X:Cx}{C CE:Addr}{x f:Str}{p apos pos pos':Pos}{o e value:Expr}{es:List Expr}{ta tv:TE}{t:TA}
end
end L2
namespace L2
open PySem PySem.Spec PySem.Calls PyProof.Rows PySem.W
def CL(P:Ad)(w:Af):jN:=λl H s E e s'=>
 ∃a cls H' B a0 dd,e=Value.ref a/\s'.os=s.os/\AllBare s'.gens/\Un (hY l) [] H H' s.heap s'.heap/\eL P w H' s'.heap/\ye B l a cls a0 dd s'.heap/\Ee B l H' s.heap s'.heap/\E cls dd H'
section
variable{X:Cx}{pins:List (Addr × Obj)}{σ:St}{H H':Hp}{s s1:Ab}{B h:Heap}{a:Addr}{cls a0:Aa}{dd:Option Addr}{E:XK}
theorem gk_(I:Inv X pins σ H s)(hex:X.ex=[])(os:s1.os=s.os)(bare:AllBare s1.gens)(un:Un (hY X.stack) [] H H' s.heap h)(aE:eL X.prog X.w H' h)(i:Ee B X.stack H' s.heap h)(ff:h.FunFrames B X.stack)(up:h.UpToSlots s1.heap)
  (fl:ye B X.outer a cls a0 dd s1.heap) (hE:E cls dd H'):CL X.prog X.w X.outer X.jt X.cZ E (.ref a) s1:=by
 let YX:=iY_ un ff i fl.1 up;let NA:=hZ_ aE (iF_ I un) i fl.1;have I1:Inv X pins σ H' s1:=I.zS os YX NA bare (λb z=>absurd z Z2);let bs:=I1.base;rw[hex] at bs;apply#[a,cls,H',B,a0,dd,Z,I1.os,I1.bare,bs,I1.aE,fl,λb o e hb c=>?_,hE]
 have nL:b≠X.env.locals:=by
  rcases c with z|⟨o0,z⟩
  ·intro q;rw[q,I1.free] at z;cases z
  exact eJ (jm (cK z) I.ok.above)
 apply jj_ aE un i fl.1 b o e (λhm=>?_) (c.imp id λ⟨o0,z⟩=>I.base.there b o0 z (by rw[hex];simp));rcases cU.mp (I.i4 b hm) with z|z
 ·exact nL z
 exact hb z
end
section
variable{P:Ad}{w:Af}{K:af}{mg:Str->Option Aa}{base:Heap}{N:ae}{qual:Str}{scope:Scope}{f:Addr}{cd:Aa}{A:Ag}{outer:List Env}{s:Ab}{H:Hp}{E:XK}
end
section
variable{X:Cx}{x:Str}{C f:Addr}{fd:Ae}{ps:ae}{sp:Sp}{k:Nat}{np cQ pos:Pos}{e:Expr}{es:List Expr}{t:TA}{E:XK}
end
end L2
namespace L2
open PySem PySem.Spec PySem.Calls PyProof.Rows PySem.W
section
variable{X:Cx}{i:Nat}{x n:Str}{D C:Addr}{np Bn pos:Pos}{Ck:Stmt}{rO body:List Stmt}{tb:XK->TS}{ts:TS}{rest:List ExceptHandler}
end
end L2
namespace L2
open PySem PySem.Spec PySem.Calls PyProof.Rows PySem.W
section
variable{P:Ad}{w:Af}{K:af}{mg:Str->Option Aa}{base:Heap}{N:ae}{qual:Str}{scope:Scope}{f:Addr}{cd:Aa}{A:Ag}{outer:List Env}{s:Ab}{H:Hp}{E:XK}
end
section
variable{X:Cx}{i:Nat}{x x2 n:Str}{D C D2 C2:Addr}{np Bn np2 Uu pos:Pos}{Ck c₀:Stmt}{rO L3 body:List Stmt}{tb:XK->TS}{ts ts2:TS}
end
section
variable{X:Cx}
end
end L2
namespace L2
open PySem PySem.Spec PySem.Calls PyProof.Rows PySem.W
section
variable{X:Cx}{i:Nat}{x n:Str}{D:Addr}{ok:Addr->Prop}{np Bn pos:Pos}{Ck:Stmt}{rO body:List Stmt}{tb:XK->TS}{ts:TS}
end
end L2
namespace L2
open PySem PySem.Spec PySem.Calls PyProof.Rows PySem.W
end L2
namespace L2
open PySem PySem.Spec PyProof.Rows
section
variable{X:Cx}
end
section
variable{X:Cx}{k:Nat}{ps:ae}{x:Str}{p pos:Pos}{e:Expr}{es:List Expr}{tn:TE}{t:TA}
end
end L2
namespace L2
open PySem PySem.Spec PyProof.Rows PySem.W
structure Hr (ps dc:ae) (scope:Scope):Prop where
 nd:(ps++dc).Nodup
 kind:scope.kind=.function
 co:scope.isCoroutine=false
 gen:scope.isGenerator=false
 par:∀p∈ps,scope.names.lookup p\.local
 fv:∀x∈dc,scope.names.lookup x\.free
 all:∀x,scope.names.lookup x\.free->x∈dc
 ub:∀x∈scope.names,x.2≠.cell
def DF(CX:jN)(P:Ad)(w:Af)(K:af)(mg:Str->Option Aa)(base:Heap)(N:ae)(qual:Str)(scope:Scope)(f:Addr)(cd:Aa)(cl:List (Str × Addr))(A:Ag)(outer:List Env)(s:Ab)(H:Hp)(E:XK):Cx where
 prog:=P
 w:=w
 K:=K
 mg:=mg
 base:=base
 A:=A.deeper (envX qual scope s.heap.objs.size f cd cl)
 N:=N
 cZ:=s
 jt:=H
 env:=envX qual scope s.heap.objs.size f cd cl
 outer:=outer
 stack:=envX qual scope s.heap.objs.size f cd cl::outer
 ex:=[]
 calm:=true
 fn:=λ_=>false
 pn:=[]
 xe:=λe s'=>wpAny (model P w) (A.deeper (envX qual scope s.heap.objs.size f cd cl)) (leaving (envX qual scope s.heap.objs.size f cd cl) e) (λ_ qy=>CX outer H s E e qy) (λe' qy=>CX outer H s E e' qy) s'
theorem V9{x:Str}{u:Aa}:∀{l:List (Str × Aa)},(l.map (·.1)).Nodup->(x,u)∈l->l.lookup x\u
 |(y,v)::l,nd,h=>by
  let n:=lA.mp nd;rcases cU.mp h with e|h
  ·cases e;simp[List.lookup]
  have ne:x≠y:=λz=>n.1 (by rw[<- z];exact bG.mpr #[_,h,Z]);have:(x == y)=false:=⇑ne
  rw[vd,this];exact V9 n.2 h
theorem U7:∀(ps:ae) (us:ak),((ps.zip us).map (·.1)).Sublist ps
 |[],_=>by simp
 |_::_,[]=>by simp
 |p::ps,u::us=>by
  simp only[List.zip_cons_cons,dZ];exact (U7 ps us).cons₂ p
theorem d9_{ps:ae}{us:ak}{i:Nat}{x:Str}{u:Aa}(nd:ps.Nodup)(h1:ps[i]? = some x)(h2:us[i]? = some u):(ps.zip us).reverse.lookup x\u:=by
 apply V9 ?_ (List.mem_reverse.mpr (dA (i:=i) ?_))
 ·rw[List.map_reverse];apply (List.reverse_perm _).nodup_iff.mpr (nd.sublist ?_);exact U7 ps us
 rw[List.getElem?_zip_eq_some];exact#[h1,h2]
structure K4 (dc:ae) (cl:List (Str × Addr)) (gs:ag) (h:Heap):Prop where
 inj:∀x y c,cl.lookup x\c->cl.lookup y\c->x=y
 has:∀x∈dc,∃c,cl.lookup x\c
 all:∀x c,cl.lookup x\c->∃v,h.IsCell c v
 is:∀(i:Nat) x v,dc[i]? = some x->gs[i]? = some v->∃c u,cl.lookup x\c/\RelV v u/\h.IsCell c (some u)
theorem IsCell.keeps{h h':Heap}{c:Addr}{v:Option Aa}(x:h.IsCell c v)(k:∀o,h.get? c\o->h'.get? c\o):h'.IsCell c v:=let #[o,e,d]:=x;#[o,k o e,d]
theorem kP_{CX:jN}{P:Ad}{w:Af}{K:af}{mg:Str->Option Aa}{base:Heap}{ps dc:ae}{qual:Str}{scope:Scope}{f:Addr}{cd:Aa}{cl:List (Str × Addr)}{A:Ag}{outer:List Env}{s:Ab}{H:Hp}{E:XK}{us:ak}{vs gs:ag}{h1:Heap}{tk:Nat}
  (S:Hr ps dc scope) (hd:A.handled=none) (e0:iN P w K mg base A outer s H) (hl:vs.length=ps.length) (hg:gs.length=dc.length) (r:Vals vs us) (C:K4 dc cl gs s.heap) (fc:∀x c,cl.lookup x\c->H c=none)
  (ns:h1.Ns s.heap.objs.size λx=>(ps.zip us).reverse.lookup x) (k:∀b o,s.heap.get? b\o->h1.get? b\o) :
  Inv (DF CX P w K mg base (ps++dc) qual scope f cd cl A outer s H E) [] (vs.map some++gs.map some) H { s with heap:=h1,toks:=tk }:=by
 have xf:∀b:Addr,b∉(DF CX P w K mg base (ps++dc) qual scope f cd cl A outer s H E).ex:=λb z=>absurd (show b∈([]:ai) from z) Z2
 apply#[#[e0.mod,S.kind,Z,Z,bo _,C.inj,λy hy=>?_,λy c h=>(by cases h),λ_=>hd,Around.frames_deeper e0.frames,.inr #[Z,Z],λb z=>absurd z (xf b),e0.bs,e0.uT,λb _ _=>xf b,λb z=>absurd z (xf b),e0.fX,e0.xG],
  rfl,e0.bare,Un.kept k,#[_,ns,λi y v iw h2 h3=>?_],λy c h=>?_,e0.aE.fresh (bo _),fc,λp hp=>absurd (show p∈([]:List (Addr × Obj)) from hp) Z2,e0.aE.kept k,?_]
 ·have hy:scope.names.lookup y\.cell∨scope.names.lookup y\.free:=hy;rcases hy with hy|hy
  ·exact absurd Z (S.ub _ (qq hy))
  exact C.has y (S.all y hy)
 ·have iw:(ps++dc)[i]? = some y:=iw;by_cases hi:i<ps.length
  ·rw[CD hi] at iw;rw[CD (by simpa [hl] using hi),dU] at h2;let#[v',hv,e]:=Option.map_eq_some_iff.mp h2;cases e;let#[u,hu,rv]:=r.get hv;apply#[u,rv,.inl #[S.par y (dA iw),?_]];have Jx:ps.Nodup:=(List.nodup_append.mp S.nd).1;show (ps.zip us).reverse.lookup y\u;exact d9_ Jx iw hu
  rw[Ak Z1] at iw;rw[Ak (by simp[hl];omega),dU,ay,hl] at h2;let#[v',hv,e]:=Option.map_eq_some_iff.mp h2;cases e;let#[c,u,e1,rv,ce]:=C.is _ _ _ iw hv;exact#[u,rv,.inr #[.inr (S.fv y (dA iw)),c,e1,IsCell.keeps ce λo e=>k _ _ e]]
 ·let#[v,ce]:=C.all y c h;exact#[v,IsCell.keeps ce λo e=>k _ _ e]
 show _=(ps++dc).length;rw[fA,fA,ay,ay,hl,hg]
theorem kh_{CX:jN}{P:Ad}{w:Af}{K:af}{mg:Str->Option Aa}{base:Heap}{k:Nat}{ps dc:ae}{qual:Str}{params:Arguments}{body:PySem.Expr}{scope:Scope}{f c':Addr}{pm kb:Aa}{cl:List (Str × Addr)}{A:Ag}{outer:List Env}{s:Ab}{H:Hp}{Q:VK}{E:XK}{us:ak}{vs gs:ag}{t:TE}
  (S:Hr ps dc scope) (hr:bf (k+1) A) (e0:iN P w K mg base A outer s H) (hf:s.heap.get? f\kla_obj "<lambda>" qual params body scope cl pm c' kb) (hW:s.heap.CodeRec (.ref c') qual)
  (hb:bindArgs (kla_fn "<lambda>" qual params body scope cl pm (.ref c') kb) #[us,[]]=pure (ps.zip us)) (hl:vs.length=ps.length) (hg:gs.length=dc.length) (r:Vals vs us) (C:K4 dc cl gs s.heap) (fc:∀x c,cl.lookup x\c->H c=none)
  (ht:bf k (A.deeper (envX qual scope s.heap.objs.size f (.ref c') cl))->PE (DF CX P w K mg base (ps++dc) qual scope f (.ref c') cl A outer s H E) body t) (hq:t (vs.map some++gs.map some) H Q) :
  codeAny (model P w) A (.call (.ref f) #[us,[]]) (CR CX outer P w H s Q E) s:=by
 have lim:s.heap.NoLimit:=e0.mod.nolimit.keeps λb o e=>(e0.bs b o e).1;apply kla_callFunE hr.depth hf Z S.co S.gen Z hW ?_;rw[hb];apply aK (wpAny_newFunctionEnv S.ub (λx hx=>?_) (λh1 ns sb=>?_) S.kind)
 ·exact S.par x.1 (List.of_mem_zip hx).1
 have k1:∀b o,s.heap.get? b\o->h1.get? b\o:=λb o e=>sb.extBut b o (eJ (cK e)) (cj _ e);apply#[lim.keeps k1,?_];show codeAny _ _ (.expr body (envX qual scope s.heap.objs.size f (.ref c') cl)) _ _;let I:=kP_ (CX:=CX) (qual:=qual) (f:=f) (cd:=.ref c') (E:=E) (tk:=s.toks+(ps.zip us).length) S hr.hd e0 hl hg r C fc ns k1;apply kla_codeExpr (wpAny_mono (ht (hr.deeper _) [] _ _ H _ I hq) (λv s' hs=>?_) λe s' hs=>hs);let#[x,H',J,rv,q]:=hs;exact#[x,H',J.os,J.bare,J.base,J.aE,rv,q]
end L2
namespace L2
open PySem PySem.Spec PyProof.Rows PySem.W
def j8(f:Addr)(qual:Str)(params:Arguments)(body:PySem.Expr)(scope:Scope)(cl:List (Str × Addr))(c':Addr):HO:=.ext λh=>∃pm kb,h.get? f\kla_obj "<lambda>" qual params body scope cl pm c' kb
def zH(c':Addr)(qual:Str):HO:=.ext λh=>∃o vs t,h.get? c'\o/\o.data=.fields vs/\vs[1]? = some (.str qual t)
inductive yE (P:Addr) (qual:Str) (params:Arguments) (body:PySem.Expr) (scope:Scope) (pos:Pos) (cl:List (Str × Addr)) (H:Hp) (Q:VK):Prop
 |mk:∀ps,H P\.tbl ps->TriplesOk ps.toList->((codeAmong pos ps.toList=none/\∀c' f,H c'=none->H f=none->c'≠f->Q (.ref f) (upd (upd (upd H P (.tbl (ps++(List.toArray [rawInt pos.line,rawInt pos.col,.ref c'])))) c' (zH c' qual)) f (j8 f qual params body scope cl c')))∨∃c',codeAmong pos ps.toList\.ref c'/\∀f,H f=none->Q (.ref f) (upd H f (j8 f qual params body scope cl c')))->yE P qual params body scope pos cl H Q
def EB(P:Addr)(qual:Str)(params:Arguments)(body:PySem.Expr)(scope:Scope)(pos:Pos)(cl:List (Str × Addr)):TE:=λ_ H Q=>yE P qual params body scope pos cl H Q
theorem T3{X:Cx}{params:Arguments}{body:PySem.Expr}{scope:Scope}{pos:Pos}{cl:List (Str × Addr)}{c P:Addr}(Of:defaultsOf params X.env=([],[]))(xD:closureFor scope X.env=pure cl)(zB:X.env.code=.ref c)(C:CodeHd X.base c P)(uz:X.base.BuiltinsAt X.mg P) :
  PE X (.Lambda params body scope pos) (EB P (X.env.qual++"<lambda>") params body scope pos cl):=by
 intro pins s σ H Q I h;let#[ps,hP,ht,h]:=h;have U6:s.heap.get? P\tabObj ps:=I.aE P _ hP
 have UP:H mainGlobals=none:=by
  let#[o,_,_,e,_]:=I.mod.glob;exact (I.bs _ _ e).2
 apply kla_eval Of ?_;rcases h with⟨hn,q⟩|⟨c',hf,q⟩
 ·apply kla_makeFunction xD I.ok.glob (I.mod.glob.keeps I.bk) zB (C.keeps I.bk) U6 ht hn (λz=>by rw[z,hP] at UP;cases UP) (uz.keeps I.bk) λc' kb h' tk hx N7 dY Nw Dc=>?_;have fz:s.heap.objs.size<=h'.objs.size:=nQ N7 (Nat.le_of_lt dY);have nc:H c'=none:=I.aE.fresh N7;have nf:H h'.objs.size=none:=I.aE.fresh fz;have cf:c'≠h'.objs.size:=eJ dY;have Pc:P≠c':=bw hP nc;have Pf:P≠h'.objs.size:=bw hP nf
  have old:∀{b u},H b\u->b≠P->upd (upd (upd H P (.tbl (ps++(List.toArray [rawInt pos.line,rawInt pos.col,.ref c'])))) c' (zH c' (X.env.qual++"<lambda>"))) h'.objs.size (j8 h'.objs.size (X.env.qual++"<lambda>") params body scope cl c') b\u:=λ{b u} e n=>by
   rw[aA (bw e nf),aA (bw e nc),aA n];exact e
  have tX:∀{b u},H b\u->(∀ps,u≠.tbl ps)->b≠P:=λ{b u} e n z=>by
   rw[z,hP] at e;cases e;exact n _ Z
  have kp:∀b o,b≠P->s.heap.get? b\o->(h'.push (kla_obj "<lambda>" (X.env.qual++"<lambda>") params body scope cl ((X.mg "__name__").getD .none) c' kb)).get? b\o:=λb o n e=>cj _ (hx b o n e);apply#[.ref h'.objs.size,_,I.un (t':=tk) #[λb o e n _ _=>kp b o (λz=>by rw[z,hP] at n;cases n) e,λb o e n _ _=>#[o.slots,kp b o (λz=>by rw[z,hP] at n;cases n) e],λb o e n _=>?_,λb o e _=>?_,λb xs e=>old e (tX e Z2),λb o u e=>old e (tX e Z2),λb qs e=>?_] (λb u e=>?_),Z,q c' h'.objs.size nc nf cf]
  ·let lt:=cK e;rw[aA (eJ (jm lt fz)),aA (eJ (jm lt N7)),aA (λz=>by rw[z,hP] at n;cases n)];exact n
  ·by_cases z:b=P
   ·subst z;exact#[_,cj _ Dc]
   exact#[o,kp b o z e]
  ·by_cases z:b=P
   ·subst z;rw[hP] at e;cases e;exact#[_,by rw[aA Pf,aA Pc,au]]
   exact#[#[],by rw[Array.append_empty];exact old e z]
  by_cases z1:b=h'.objs.size
  ·subst z1;rw[au] at e;cases e;exact#[#[_,_,eE _ Z],#[_,eE _ Z],λh1 h2 ⟨pm,cv,e1⟩ k=>#[pm,cv,k _ e1]]
  rw[aA z1] at e;by_cases z2:b=c'
  ·subst z2;rw[au] at e;cases e;let#[c2,oc,vs,t,ec,F7,hd,hv]:=Nw;cases ec;exact#[#[oc,vs,t,cj _ F7,hd,hv],#[_,cj _ F7],λh1 h2 ⟨o,vs,t,e1,r⟩ k=>#[o,vs,t,k _ e1,r]]
  rw[aA z2] at e;by_cases z3:b=P
  ·subst z3;rw[au] at e;cases e;exact cj _ Dc
  rw[aA z3] at e;apply (I.aE b u e).eC (λd v hd e1=>kp d v ?_ e1) (λd e1=>old e1 (tX e1 Z2)) λd xs e1=>old e1 (tX e1 Z2);rcases hd with rfl|hd
  ·exact z3
  exact tX hd Z2
 apply kla_makeFunctionHit xD I.ok.glob (I.mod.glob.keeps I.bk) zB (C.keeps I.bk) U6 ht hf (uz.keeps I.bk) λkb h' tk hk hsz=>?_;have nf:H h'.objs.size=none:=I.aE.fresh hsz;apply#[.ref h'.objs.size,_,I.laid (t':=tk) (λb o e=>cj _ (hk b o e)) hsz ?_,Z,q _ nf];exact#[#[_,_,eE _ Z],#[_,eE _ Z],λh1 h2 ⟨pm,cv,e1⟩ k=>#[pm,cv,k _ e1]]
end L2
namespace L2
open PySem PySem.Spec PyProof.Rows PySem.W
theorem xb{P:Ad}{w:Af}{K:af}{mg:Str->Option Aa}{base:Heap}{N:ae}{qual:Str}{scope:Scope}{f:Addr}{cd:Aa}{cl:List (Str × Addr)}{A:Ag}{outer:List Env}{s:Ab}{H:Hp}{E:XK}:xU (CL P w) (DF (CL P w) P w K mg base N qual scope f cd cl A outer s H E) E:=by
 intro pins σ H1 s1 e s' I hc;let#[a,cls,H',B,a0,dd,rfl,os,bare,un,aE,fl,i,hE]:=hc;apply g1_ (base:=B) I.ok.frames Z fl λh1 fl1 up=>?_;exact gk_ (s1:={ s' with heap:=h1 }) I Z os bare un aE i fl.2.2.1 up fl1 hE
section
variable{cs:List (Addr × Obj)}{H H':Hp}{b:Addr}{o:Obj}{u:HO}
variable{P:Ad}{w:Af}{h:Heap}
end
section
variable{X:Cx}{pins:List (Addr × Obj)}{σ:St}{H:Hp}{s s':Ab}{cs:List (Addr × Obj)}
def iZ(P:Ad)(w:Af)(K:af)(mg:Str->Option Aa)(base:Heap)(k:Nat)(qual:Str)(params:Arguments)(body:PySem.Expr)(scope:Scope)(ps dc:ae)(sp:ag->ag->Hp->VK->XK->Prop):Prop:=
 ∀(A:Ag) (outer:List Env) (s:Ab) (H:Hp) (f c':Addr) (pm kb:Aa) (cl:List (Str × Addr)) (us:ak) (vs gs:ag) (Q:VK) (E:XK),bf k A->iN P w K mg base A outer s H->s.heap.get? f\kla_obj "<lambda>" qual params body scope cl pm c' kb->s.heap.CodeRec (.ref c') qual->
  vs.length=ps.length->gs.length=dc.length->Vals vs us->K4 dc cl gs s.heap->(∀x c,cl.lookup x\c->H c=none)->sp vs gs H Q E->codeAny (model P w) A (.call (.ref f) #[us,[]]) (CR (CL P w) outer P w H s Q E) s
theorem zf{P:Ad}{w:Af}{K:af}{mg:Str->Option Aa}{base:Heap}{k:Nat}{qual:Str}{params:Arguments}{body:PySem.Expr}{scope:Scope}{ps dc:ae}{sp:ag->ag->Hp->VK->XK->Prop}(S:Hr ps dc scope)
  (hb:∀pm c' kb cl us,us.length=ps.length->bindArgs (kla_fn "<lambda>" qual params body scope cl pm (.ref c') kb) #[us,[]]=pure (ps.zip us))
  (fU:∀(A:Ag) (outer:List Env) (s:Ab) (H:Hp) (f:Addr) (cd:Aa) (cl:List (Str × Addr)) (vs gs:ag) (Q:VK) (E:XK),bf k (A.deeper (envX qual scope s.heap.objs.size f cd cl))->sp vs gs H Q E->xU (CL P w) (DF (CL P w) P w K mg base (ps++dc) qual scope f cd cl A outer s H E) E->
   ∃t,PE (DF (CL P w) P w K mg base (ps++dc) qual scope f cd cl A outer s H E) body t/\t (vs.map some++gs.map some) H Q):!iZ (k+1) qual params body scope ps dc sp:=by
 intro A outer s H f c' pm kb cl us vs gs Q E hr e0 hf hW hl hg r C fc kW;let#[t,ht,hq]:=fU A outer s H f (.ref c') cl vs gs Q E (hr.deeper _) kW xb;exact kh_ S hr e0 hf hW (hb pm c' kb cl us (by rw[<- r.length];exact hl)) hl hg r C fc (λ_=>ht) hq
end
end L2
namespace L2
open PySem PySem.Spec PyProof.Rows PySem.W
structure Lv (dc:ae) (cl:List (Str × Addr)) (cs:List (Addr × Obj)) (gs:ag):Prop where
 len:gs.length=dc.length
 inj:∀x y c,cl.lookup x\c->cl.lookup y\c->x=y
 has:∀x∈dc,∃c,cl.lookup x\c
 all:∀x c,cl.lookup x\c->∃o v,cs.lookup c\o/\o.data=.cell v
 is:∀(i:Nat) x v,dc[i]? = some x->gs[i]? = some v->∃c o u,cl.lookup x\c/\cs.lookup c\o/\o.data=.cell (some u)/\RelV v u
section
variable{X:Cx}{k:Nat}{x:Str}{p pos:Pos}{tn:TE}{qual:Str}{params:Arguments}{body:PySem.Expr}{scope:Scope}{dc ps:ae}{sp':ag->ag->Hp->VK->XK->Prop}{E:XK}
end
section
variable{X:Cx}{k:Nat}{x:Str}{p pos:Pos}{e:PySem.Expr}{es:List PySem.Expr}{ta:TA}{dc ps:ae}{sp:Sp}{f:Addr}{fd:Ae}{cl:List (Str × Addr)}{is:List Nat}
end
end L2
namespace L2
open PySem PySem.Spec PyProof.Rows PySem.W
theorem h0_{P:Ad}{w:Af}{K:af}{mg mb:Str->Option Aa}{CX:jN}{k:Nat}{fa a:Addr}{ts:ai}{fd:Ae}{x:Str}{sp:Sp}{aV:Ab}{vs:ak}{ns:List Int}
  (hT:∀T∈ts,K.lookup T=none) (eT:∀T∈ts,aV.heap.get? T\tabObj #[]) (GD:∀T∈ts,isCodeTable aV.heap T)
  (KX:K.In aV.heap) (Bs:aV.heap.Ns mainGlobals mg) (hb:aV.heap.Ns builtinsNs mb) (hbb:∀x:Str,x≠"__name__"->mb x=bootBuiltins x) (NS:aV.heap.NoLimit) (hg:aV.gens=#[])
  (ha:aV.heap.get? a=some { cls:=.type "list",data:=.seq vs.toArray }) (hi:IntsAre vs ns) (hl:ns.length<=sizeLine) (hr:bf k callerA)
  (uz:∃bm ob,mg "__builtins__"\.ref bm/\bm≠builtinsNs/\aV.heap.get? bm\ob/\ob.cls=.type "module"/\ob.dict\builtinsNs/\ob.data=.plain)
  (F:∀base:Heap,K.In base->base.Ns mainGlobals mg->(∀T∈ts,base.BuiltinsAt mg T)->!aq CX k fa fd [x] sp) (GE:∀(s:Ab) (u:Aa),BindsTo s fd #[[u],[]] [(x,u)])
  (kW:∀H:Hp,(∀T∈ts,H T\.tbl #[])->dW K H a (ns.map V.int)->sp [.ref a] H (λv _=>v=.bl true) λ_ _ _=>False)
  (Oy:∀H e s',CX [] H aV (λ_ _ _=>False) e s'->False) :
  codeAny (model P w) callerA (.call (.ref fa) #[[.ref a],[]]) (λr s'=>r=.ok (.ret (.bool true))/\OldK aV.heap s'.heap/\s'.os=aV.os/\AllBare s'.gens) aV:=by
 let rv:=WH hi;let MV:=hi.length
 have aT:∀{b},b∈ts->b≠a:=λ{b} hb z=>by
  have:=eT b hb;rw[z,ha] at this;cases this
 have core:∀H:Hp,(∀b,H b=none∨(b∈ts/\H b\.tbl #[])∨(b∉ts/\∃o xs,H b\.frz o (.lst xs)))->(∀T∈ts,H T\.tbl #[])->dW K H a (ns.map V.int)->eL P w H aV.heap->(∀b,H b≠none->b=a∨b∈ts)->(H a≠none->K.lookup a=none)->
   codeAny (model P w) callerA (.call (.ref fa) #[[.ref a],[]]) (λr s'=>r=.ok (.ret (.bool true))/\OldK aV.heap s'.heap/\s'.os=aV.os/\AllBare s'.gens) aV:=by
  intro H hO hHT hS aE hA hK;have jk:∀{b:Addr} {o:Obj},aV.heap.get? b\o->H b=none->(iI aV.heap H).get? b\o:=λe n=>iX_ e n
  have xf:∀{b:Addr} {o:Obj} {es:Array Ah} {ep:Nat},aV.heap.get? b\o->o.data=.dict es ep->H b=none:=λ{b o es ep} e d=>by
   cases q:H b with
   |none=>rfl
   |some u=>
    rcases hA b (by rw[q];simp) with e'|e'
    ·subst e';rw[ha] at e;cases e;have d':Data.seq vs.toArray _=Data.dict es ep:=d;cases d'
    rw[eT b e'] at e;cases e;cases d
  have Ju:∀{b:Addr} {m:Str->Option Aa},aV.heap.Ns b m->(iI aV.heap H).Ns b m:=λ{b m} ⟨o,es,ep,e,d,r⟩=>#[o,es,ep,jk e (xf e d),d,r]
  have U8:K.In (iI aV.heap H):=λb o e=>jk (KX b o e) (by
   cases q:H b with
   |none=>rfl
   |some u=>
    rcases hA b (by rw[q];simp) with e'|e'
    ·subst e';rw[hK (by rw[q];simp)] at e;cases e
    rw[hT b e'] at e;cases e)
  have hB:∀T∈ts,(iI aV.heap H).BuiltinsAt mg T:=λT BG=>by
   let#[bm,ob,h1,h2,h3,h4,h5,h6]:=uz
   have n1:bm≠mainGlobals:=λz=>by
    let#[o,es,ep,e,d,_]:=Bs;rw[z,e] at h3;cases h3;rw[d] at h6;cases h6
   have n2:∀{b},b∈ts->bm≠b:=λ{b} hb z=>by
    rw[z,eT b hb] at h3;cases h3;cases h6
   apply#[bm,ob,h1,h2,n1,n2 BG,jk h3 ?_,h4,h5,h6];cases q:H bm with
   |none=>rfl
   |some u=>
    rcases hA bm (by rw[q];simp) with e'|e'
    ·subst e';rw[ha] at h3;cases h3;cases h6
    exact absurd Z (n2 e')
  have hM:Mod K mg (iI aV.heap H):=#[U8,Ju Bs,#[mb,Ju hb,hbb],let #[mc,h1,h2]:=NS;#[mc,Ju h1,h2]];have e0:iN P w K mg (iI aV.heap H) callerA [] aV H:=#[Z,hM,λb o e=>k3_ e,Nat.le_of_eq (gV_ _ _),trivial,λb hb=>absurd (show b∈([]:ai) from hb) Z2,aE,.of_eq hg];apply codeAny_mono ((F _ U8 (Ju Bs) hB).run callerA [] aV H #[[.ref a],[]] [.ref a] [.ref a] _ _ hr e0 (GE aV (.ref a)) (.cons Z .nil) (kW H hHT hS)) λr s' h=>?_;cases r with
  |error e=>exact (Oy H e s' h).elim
  |ok fl=>
   cases fl with
   |next=>exact False.elim h
   |brk=>exact False.elim h
   |cont=>exact False.elim h
   |ret u=>
    let#[v,H',os,bare,un,F5,r',q]:=h;have q':v=.bl true:=q;subst q';obtain rfl:u=Value.bool true:=r'
    have main:∀b o,aV.heap.get? b\o->s'.heap.get? b\o∨(b∈ts/\o=tabObj #[]/\∃more,s'.heap.get? b\tabObj (#[]++more)):=λb o e=>by
     cases q:H b with
     |none=>exact .inl (un.keep b o e q (by intro z;exact absurd (show b∈([]:ai) from z) Z2) Z2)
     |some u=>
      rcases hO b with z|⟨zT,z⟩|⟨_,ob,xs,z⟩
      ·rw[q] at z;cases z
      ·rw[eT b zT] at e;cases e;let#[more,z]:=un.gN b _ z;exact .inr #[zT,Z,more,F5 b _ z]
      let z2:=un.fY b ob _ z;let#[e1,_]:=aE b _ z;let#[e2,_]:=F5 b _ z2;rw[e] at e1;cases e1;exact .inl e2
    apply#[Z,#[λb o e=>?_,λb o e=>?_],os,bare]
    ·rcases main b o e with z|⟨zT,rfl,more,z⟩
     ·exact .inl z
     exact .inr (.inl #[GD b zT,Z,_,_,Z,z])
    rcases main b o e with z|⟨_,_,more,z⟩
    ·exact#[_,z]
    exact#[_,z]
 cases hk:K.lookup a with
 |some o=>
  let e:=KX a o hk;rw[ha] at e;cases e;apply core (λb=>if b∈ts then some (.tbl #[]) else none) (λb=>?_) (λT h=>aJ h) (.inr #[_,vs.toArray,_,hk,Z,Z,Z,by rw[cq,MV];exact hl,by simpa using rv]) (λb u z=>?_) (λb z=>?_) λz=>absurd (aB λq=>aT q Z) z
  ·by_cases hb:b∈ts
   ·exact .inr (.inl #[hb,aJ hb])
   exact .inl (aB hb)
  ·by_cases hb:b∈ts
   ·let z':=(aJ hb).symm.trans z;cases z';exact eT b hb
   let z':=(aB hb).symm.trans z;cases z'
  ·by_cases hb:b∈ts
   ·exact .inr hb
   ·exact absurd (aB hb) z
 |none=>
  have T2:∀{b:Addr},b∈ts->(λb=>if b∈ts then some (.tbl #[]) else if b=a then some (HO.frz { cls:=.type "list",data:=.seq vs.toArray } (.lst (ns.map V.int))) else none) b\.tbl #[]:=λ{b} hb=>aJ hb;apply core (λb=>if b∈ts then some (.tbl #[]) else if b=a then some (.frz { cls:=.type "list",data:=.seq vs.toArray } (.lst (ns.map V.int))) else none) (λb=>?_) (λT h=>aJ h) (.inl (.inr #[{ cls:=.type "list",data:=.seq vs.toArray },(aB λq=>aT q Z).trans (aJ Z)])) (λb u z=>?_) (λb z=>?_) λ_=>hk
  ·by_cases ph:b∈ts
   ·exact .inr (.inl #[ph,aJ ph])
   by_cases hb:b=a
   ·exact .inr (.inr #[ph,_,_,(aB ph).trans (aJ hb)])
   exact .inl ((aB ph).trans (aB hb))
  ·by_cases ph:b∈ts
   ·let z':=(aJ ph).symm.trans z;cases z';exact eT b ph
   by_cases hb:b=a
   ·let z':=((aB ph).trans (aJ hb)).symm.trans z;cases z';subst hb;exact#[ha,by rw[ay];exact hl,vs,_,rv,ha]
   let z':=((aB ph).trans (aB hb)).symm.trans z;cases z'
  by_cases ph:b∈ts
  ·exact .inr ph
  by_cases hb:b=a
  ·exact .inl hb
  exact absurd ((aB ph).trans (aB hb)) z
theorem ga_{K:af}{T:Addr}(h:T∉K.map (·.1)):K.lookup T=none:=by
 induction K with
 |nil=>rfl
 |cons p K ih=>
  let#[b,o]:=p;simp only[dZ,cU,not_or] at h;rw[vd,show (T == b)=false by simpa using h.1];exact ih h.2
theorem qY{l:PySem.W.OpenLaw}{n k:Nat}{q:Ad}{loose:ae}{XP:(Str->Option Aa)->Heap->Prop}{d:DefRec}{K:Params->af}{as ts:ai}{Kg:∀P:Params,as=(K P).map (·.1)}{CX:Af->jN}{sp:Af->Sp}{x:Str}
  (hn:l.most\n) (zu:n<=sizeLine) (ux:d.params.defaults=[]) (hr:bf k callerA)
  (FU:(ts.all λT=>!as.contains T)=true)
  (F:∀(w:Af) (mg:Str->Option Aa) (fa:Addr) (h:Heap),(K w.params).In h->h.Ns mainGlobals mg->mg d.name\.ref fa->
   ∃fd:Ae,(∀(s:Ab) (u:Aa),BindsTo s fd #[[u],[]] [(x,u)])/\(∀T∈ts,isCodeTable h T) /\
    ∀base:Heap,(K w.params).In base->base.Ns mainGlobals mg->(∀T∈ts,base.BuiltinsAt mg T)->aq l.prog w (K w.params) mg base (CX w) k fa fd [x] (sp w))
  (kW:∀(w:Af) (H:Hp) (a:Addr) (ns:List Int),ns.length<=n->(∀T∈ts,H T\.tbl #[])->dW (K w.params) H a (ns.map V.int)->sp w [.ref a] H (λv _=>v=.bl true) λ_ _ _=>False)
  (Oy:∀(w:Af) (H:Hp) (s:Ab) (e:Aa) (s':Ab),CX w [] H s (λ_ _ _=>False) e s'->False) :
  PySem.W.WalkO q loose XP (kmHook K as Kg ts).says l.row.toRowW d [] (λf vs=>PySem.call f vs):=by
 apply X6.kz hn ux λw cZ aV mg mb fa o pm cd doc a vs ns G Y ho hd hW hmg Bq hints hlen hg=>?_;have KX:(K w.params).In aV.heap:=km_in_of Y;have eT:∀T∈ts,aV.heap.get? T\tabObj #[]:=Y.2;let#[fd,hb,GD,hF]:=F w mg fa _ KX G.T.g hmg;apply h0_ (λT h=>ga_ ?_) eT GD KX G.T.g G.T.b G.T.builtins G.T.nolimit hg Bq hints (nQ hlen zu) hr G.T.bmain hF hb (λH hO hS=>kW w H a ns hlen hO hS) λH e s'=>Oy w H aV e s';have:=List.all_eq_true.mp FU T h;rw[<- Kg w.params];simpa using this
end L2
namespace L2
open PySem PySem.Spec PyProof.Rows
section
variable{X:Cx}
end
open PySem.W in
def nK:List (Pos × Addr)->ak
 |[]=>[]
 |(p,c)::es=>rawInt p.line::rawInt p.col::.ref c::nK es
def cg(H:Hp)(T:Addr)(qual:Str):Prop:=∃es:List (Pos × Addr),H T\.tbl (nK es).toArray/\∀e∈es,H e.2\zH e.2 qual
theorem cg.same{H H':Hp}{T:Addr}{qual:Str}(s:aa H H')(h:cg H T qual):cg H' T qual:=by
 let#[es,a,b]:=h;exact#[es,s _ _ a,λe he=>s _ _ (b e he)]
theorem VX:∀es:List (Pos × Addr),TriplesOk (nK es)
 |[]=>trivial
 |(p,c)::es=>by
  have:=VX es;simp[nK,TriplesOk,rawInt,this]
theorem Wu:∀(es:List (Pos × Addr)) (p:Pos) (c:Addr),nK (es++[(p,c)])=nK es++[rawInt p.line,rawInt p.col,.ref c]
 |[],p,c=>rfl
 |(p',c')::es,p,c=>by
  show rawInt p'.line::rawInt p'.col::.ref c'::nK (es++[(p,c)])=_;rw[Wu es p c];rfl
theorem Xy(pos:Pos):∀es:List (Pos × Addr),codeAmong pos (nK es)=none∨∃e∈es,codeAmong pos (nK es)\.ref e.2
 |[]=>.inl Z
 |(p,c)::es=>by
  by_cases h:codeAmong pos (nK ((p,c)::es))\.ref c
  ·exact .inr #[(p,c),fM,h]
  have e:codeAmong pos (nK ((p,c)::es))=codeAmong pos (nK es):=by
   show codeAmong pos (rawInt p.line::rawInt p.col::.ref c::nK es)=_;have h:¬codeAmong pos (rawInt p.line::rawInt p.col::.ref c::nK es)=some (.ref c):=h;simp only[codeAmong,rawInt] at h ⊢;split at h
   ·exact absurd Z h
   rename_i q
   rw[aB q]
  rcases Xy pos es with q|⟨x,hx,q⟩
  ·exact .inl (e.trans q)
  exact .inr #[x,eR _ hx,e.trans q]
end L2
namespace L2
open PySem PySem.Spec PyProof.Rows PySem.W jL
section
variable{X:Cx}{pins:List (Addr × Obj)}{σ:St}{H:Hp}{s:Ab}
theorem Inv.Aq{h':Heap}{t':Nat}{fp:ai}{T:Addr}{ys:ag}{its:ak}{n:Nat}(I:Inv X pins σ H s)(k:∀b o,b∉fp->s.heap.get? b\o->h'.get? b\o)(hf:∀b∈fp,du X pins H b)
  (hT:T∈fp) (hz:ys.length<=sizeLine) (r:Vals ys its) (ht:h'.get? T=some { cls:=.type "list",data:=.seq its.toArray n }):Inv X pins σ (upd H T (.lst ys)) { s with heap:=h',toks:=t' }:=by
 have fT:H T=none:=(hf T hT).1;have nf:∀b u,H b\u->b∉fp:=λb u e hb=>by rw[(hf b hb).1] at e;cases e
 have old:∀{b u},H b\u->upd H T (.lst ys) b\u:=λe=>by rw[aA (bw e fT)];exact e
 apply I.step (g':=s.gens) (d':=s.drawn) (ch:=fp) (λb hb=>?_) (λb o _ _ hc e _=>k b o hc e) (λb o _ _ hc e _=>#[o.slots,k b o hc e]) (λb o hc e n=>?_)
  (λb o hc e=>#[o,k b o hc e]) (λb ys e=>old e) (λb o u e=>old e) (λb ps e=>#[#[],by rw[Array.append_empty];exact old e]) (λm hm=>?_) (λb u e=>?_) I.bare
 ·let#[f0,f1,f2,f3,f4,f5]:=hf b hb;exact#[f3,f1,f4,f5]
 ·rw[aA (λz=>hc (by rw[z];exact hT))];exact n
 ·let#[o,es,ep,ho,r]:=hm;exact#[o,es,ep,k _ o (λhb=>(hf _ hb).2.1 Z) ho,r]
 by_cases z:b=T
 ·subst z;rw[au] at e;cases e;exact#[hz,its,n,r,ht]
 rw[aA z] at e;apply (I.aE b u e).eC (λc v hc q=>k c v ?_ q) (λ_ q=>old q) λ_ _ q=>old q;rcases hc with z|z
 ·rw[z];exact nf b u e
 exact nf c _ z
theorem du.at{H':Hp}{b:Addr}(f:du X pins H b)(n:H' b=none):du X pins H' b:=#[n,f.2]
def pZ(X:Cx)(σ:St)(B:Ag)(fv:Aa)(H0:Hp)(kf:V->az)(xs:ag):Prop:=
 ∀(pins:List (Addr × Obj)) (H:Hp) (s:Ab) (x:V) (u:Aa),Inv X pins σ H s->aa H0 H->x∈xs->RelV x u->
  wpAny (model X.prog X.w) B (call fv [u]) (EP X pins σ λv H'=>aa H H'/\∃t,v=.ref t/\H' t\.tup ((kf x).map kV)) (λ_ _=>False) s
theorem kG_{B:Ag}{fv:Aa}{a kS:Addr}{e1:Nat}{H0:Hp}{kf:V->az}{all:ag}{Q:PUnit->Ab->Prop}{E:Aa->Ab->Prop}{body:Aa->PUnit->Sem (ForInStep PUnit)}(mQ:a≠kS)(kg:pZ X σ B fv H0 kf all)
  (hb:∀(u:Aa) (s:Ab) (Qb:ForInStep PUnit->Ab->Prop),wpAny (model X.prog X.w) B (call fv [u]) (λk s'=>wpAny (model X.prog X.w) B (Builtin.List.listUpdate (.ref kS) (·.push k)) (λ_ qy=>Qb (.yield ⟨⟩) qy) E s') (λ_ _=>False) s->wpAny (model X.prog X.w) B (body u ⟨⟩) Qb E s) :
  ∀(xs:ag) (us:ak) (ks:ag) (kvs:ak) (kk:List az) (H:Hp) (s:Ab) (c:Nat),Vals xs us->(∀x∈xs,x∈all)->Inv X pins σ H s->aa H0 H->du X pins H a->du X pins H kS->s.heap.get? a\seqObj "list" #[] e1->s.heap.get? kS\seqObj "list" kvs.toArray c->
   Vals ks kvs->bC X.K H ks kk->kvs.length+us.length<64->
   (∀H' s' fF c',Inv X pins σ H' s'->aa H0 H'->du X pins H' a->du X pins H' kS->s'.heap.get? a\seqObj "list" #[] e1->s'.heap.get? kS\seqObj "list" fF.toArray c'->fF.length=kvs.length+us.length->(∃uf,Vals uf fF/\bC X.K H' uf (kk++xs.map kf))->Q ⟨⟩ s')->
   wpAny (model X.prog X.w) B (forIn us PUnit.unit body) Q E s:=by
 intro xs
 induction xs with
 |nil=>
  intro us ks kvs kk H s c rv _ I sm fa fk ha hk r t _ q;cases rv;rw[List.forIn_nil];exact aK (q H s kvs c I sm fa fk ha hk Z2 #[ks,r,by simpa using t])
 |cons x xs ih=>
  intro us ks kvs kk H s c rv hx I sm fa fk ha hk r t hz q
  obtain⟨u,us,rfl,ru,rr⟩:∃u RX,us=u::RX/\RelV x u/\Vals xs RX:=by
   cases rv with
   |cons h t=>exact#[_,_,Z,h,t]
  rw[List.forIn_cons];rw[kB] at hz;apply ao (hb u s _ ?_)
  have hf:∀b∈[a,kS],du X pins H b:=λb hb=>by
   rcases cU.mp hb with rfl|hb
   ·exact fa
   obtain rfl:b=kS:=⇑hb
   exact fk
  let I1:=I.pinned (fp:=[a,kS]) hf (λb hb=>by
   rcases cU.mp hb with rfl|hb
   ·exact#[_,ha,λv z=>by cases z]
   obtain rfl:b=kS:=⇑hb
   exact#[_,hk,λv z=>by cases z])
  apply wpAny_mono (kg _ H s x u I1 sm (hx x fM) ru) (λk s1 ⟨v,H1,J,rv,SM,tk,ev,etk⟩=>?_) λ_ _ z=>z
  have pa:(a,seqObj "list" #[] e1)∈yg [a,kS] s.heap:=by
   unfold yg;exact yl.mpr #[a,by simp,by rw[ha];rfl]
  have pk:(kS,seqObj "list" kvs.toArray c)∈yg [a,kS] s.heap:=by
   unfold yg;exact yl.mpr #[kS,by simp,by rw[hk];rfl]
  let#[Os,na1,_]:=J.pin _ (nZ _ (nZ _ pa));let#[JN,_Z,_]:=J.pin _ (nZ _ (nZ _ pk));have Os:s1.heap.get? a\seqObj "list" #[] e1:=Os;have JN:s1.heap.get? kS\seqObj "list" kvs.toArray c:=JN;let J0:=J.eP;let fa1:=fa.at (H':=H1) na1;let VB:=fk.at (H':=H1) _Z;have FD:kvs.length<64:=by omega
  apply listUpdate_at JN Z ?_ (by rw[cq,cn];omega) (nQ (Nat.le_of_eq (Array.size_push ..)) (by rw[cq,cn];omega));have yZ:∀b o,b∉[kS]->s1.heap.get? b\o->(s1.heap.update kS (Obj.mapSeq (·.push k))).get? b\o:=λb o hb e=>(nB _ _ (λz=>hb (by simp[z]))).trans e;have ea:kvs.toArray.push k=(kvs++[k]).toArray:=by simp
  obtain⟨c2,Do⟩:∃c2,(s1.heap.update kS (Obj.mapSeq (·.push k))).get? kS\seqObj "list" (kvs++[k]).toArray c2:=#[_,by rw[<- ea];exact get?_update_seq JN (·.push k)]
  have I2:Inv X pins σ H1 { s1 with heap:=s1.heap.update kS (Obj.mapSeq (·.push k)) }:=J0.i0 (t':=s1.toks) (fp:=[kS]) yZ (λb hb=>by
   obtain rfl:b=kS:=⇑hb
   exact VB)
  subst ev;apply ih us (ks++[.ref tk]) (kvs++[k]) (kk++[kf x]) H1 _ c2 rr (λy hy=>hx y (eR _ hy)) I2 (sm.trans SM) fa1 VB ?_ Do (r.append (.cons rv .nil)) ?_ (by rw[fA,CB];omega) λH' s' fF c' a1 a2 a3 a4 a5 a6 a7 a8=>?_
  ·exact yZ a _ ⇑mQ Os
  ·exact Paired.snoc (t.same SM) #[tk,Z,etk]
  apply q H' s' fF c' a1 a2 a3 a4 a5 a6 (by rw[a7,fA,CB,kB];omega) ?_;let#[uf,b1,b2]:=a8;exact#[uf,b1,by simpa using b2]
end
section
variable{X:Cx}{pins:List (Addr × Obj)}{σ:St}{H:Hp}{s:Ab}{B:Ag}
theorem k2_{xs zs:ag}{kf:V->az}{p:Array Nat}(g:Good xs.length p)(up:Up (λi j=>bQ ((xs.map kf).getD i []) ((xs.map kf).getD j [])) p xs.length)(ez:zs=p.toList.map λi=>xs.getD i .non):zs.Perm xs/\zs.map kf=aZ (xs.map kf):=by
 have gk:Good (xs.map kf).length p:=by rw[ay];exact g
 let asc:=OV (ks:=xs.map kf) (λi j _ _=>rfl) gk (by rw[ay];exact up)
 have perm:(p.toList.map λi=>(xs.map kf).getD i []).Perm (xs.map kf):=by
  have:=Iy gk λi=>(xs.map kf).getD i [];rwa [IH] at this
 let es:=Qt perm asc;apply#[?_,?_]
 ·have:=Iy (n:=xs.length) g λi=>xs.getD i .non;rw[IH] at this;rw[ez];exact this
 rw[<- es,ez,b_];apply vf λi hi=>?_;have m:i∈(List.range xs.length).toArray:=g.mem_iff.mp ⇑hi;have m:i<xs.length:=⇑m
 show kf (xs.getD i .non)=(xs.map kf).getD i [];simp[List.getD,m]
theorem gX_{f a:Addr}{xs:ag}{us:ak}{n:Nat}{P:PySem.Fin->Ab->Prop}{E:Aa->Ab->Prop}{kf:V->az}{sh:List Bool}(I:Inv X pins σ H s)(fa:du X pins H a)(ho:s.heap.get? a\seqObj "list" us.toArray n)(r:Vals xs us)(bS:us.length<64)(al:BX (xs.map kf) sh)(kg:pZ X σ B (.ref f) H kf xs)
  (h:∀zs H' s',Inv X pins σ (upd H' a (.lst zs)) s'->aa H H'->H' a=none->zs.Perm xs->zs.map kf=aZ (xs.map kf)->P (.done (.ret .none)) s'):wpAny (model X.prog X.w) B (ksk_tree a (.ref f) false) P E s:=by
 let lx:=r.length;obtain⟨e1,Di⟩:∃e1,(s.heap.update a (Obj.mapSeq λ_=>(#[]:Array Aa))).get? a\seqObj "list" #[] e1:=#[_,get?_update_seq ho λ_=>#[]];have yZ:∀b o,b∉[a]->s.heap.get? b\o->(s.heap.update a (Obj.mapSeq λ_=>(#[]:Array Aa))).get? b\o:=λb o hb e=>(nB _ _ (λz=>hb (by simp[z]))).trans e
 have I1:Inv X pins σ H { s with heap:=s.heap.update a (Obj.mapSeq λ_=>(#[]:Array Aa)) }:=I.i0 (t':=s.toks) (fp:=[a]) yZ (λb hb=>by
  obtain rfl:b=a:=⇑hb
  exact fa)
 unfold ksk_tree;apply ao (listItems_at ho Z ?_);apply ao (listUpdate_at ho Z ?_ (by rw[cq,cn];omega) (gM _));apply ao (seqEpoch_at Di Z ?_);apply ao (wpAny_newTuple ?_ (by show us.length<=_;rw[cn];omega));apply ao (wpAny_newList ?_ (gM _));apply mZ ?_;have I2:Inv X pins σ H { s with heap:=(s.heap.update a (Obj.mapSeq λ_=>(#[]:Array Aa))).push (seqObj "tuple" us.toArray 0) }:=I1.kept (t':=s.toks) λb u e=>cj _ e;have I3:Inv X pins σ H { s with heap:=((s.heap.update a (Obj.mapSeq λ_=>(#[]:Array Aa))).push (seqObj "tuple" us.toArray 0)).push (seqObj "list" #[] 0) }:=I2.kept (t':=s.toks) λb u e=>cj _ e;have fk:du X pins H ((s.heap.update a (Obj.mapSeq λ_=>(#[]:Array Aa))).push (seqObj "tuple" us.toArray 0)).objs.size:=I2.jd (bo _) (I2.aE.fresh (bo _));have jC:(((s.heap.update a (Obj.mapSeq λ_=>(#[]:Array Aa))).push (seqObj "tuple" us.toArray 0)).push (seqObj "list" #[] 0)).get? a\seqObj "list" #[] e1:=cj _ (cj _ Di);have NX:(((s.heap.update a (Obj.mapSeq λ_=>(#[]:Array Aa))).push (seqObj "tuple" us.toArray 0)).push (seqObj "list" #[] 0)).get? ((s.heap.update a (Obj.mapSeq λ_=>(#[]:Array Aa))).push (seqObj "tuple" us.toArray 0)).objs.size\seqObj "list" #[] 0:=eE _ Z;have mQ:a≠((s.heap.update a (Obj.mapSeq λ_=>(#[]:Array Aa))).push (seqObj "tuple" us.toArray 0)).objs.size:=eJ (cK (cj (seqObj "tuple" us.toArray 0) Di));show wpAny (model X.prog X.w) B (ksk_rest a (.ref f) false us.toArray e1 (.ref ((s.heap.update a (Obj.mapSeq λ_=>(#[]:Array Aa))).push (seqObj "tuple" us.toArray 0)).objs.size)) P E { s with heap:=((s.heap.update a (Obj.mapSeq λ_=>(#[]:Array Aa))).push (seqObj "tuple" us.toArray 0)).push (seqObj "list" #[] 0) };generalize ((s.heap.update a (Obj.mapSeq λ_=>(#[]:Array Aa))).push (seqObj "tuple" us.toArray 0)).objs.size=kS at fk NX mQ ⊢;generalize ((s.heap.update a (Obj.mapSeq λ_=>(#[]:Array Aa))).push (seqObj "tuple" us.toArray 0)).push (seqObj "list" #[] 0)=h3 at I3 jC NX ⊢;clear I2 I1 yZ;unfold ksk_rest;apply ao (wpAny_rule ?_);rw[List.forIn_toArray];apply ao (kG_ (pins:=pins) (E:=E) (e1:=e1) mQ kg (λu s4 Qb hq=>?_) xs us [] [] [] H _ 0 r (λx hx=>hx) I3 (aa.refl H) fa fk jC NX .nil .nil ⇑bS λH5 s5 kvs c5 I5 ZU VL fk5 JU UJ lk ⟨ks,rk,tk⟩=>?_)
 ·apply ao (wpAny_attempt (wpAny_mono hq (λk qy hk=>?_) λ_ _ hF=>hF.elim));exact ao (wpAny_mono hk (λ_ s6 h6=>aK h6) λ_ _ z=>z)
 rw[List.nil_append] at tk;rw[qP,Nat.zero_add] at lk;apply ao (listItems_at UJ Z ?_)
 have tail:∀(p:Array Nat) (st:SortSt),Good xs.length p->Up (λi j=>bQ ((xs.map kf).getD i []) ((xs.map kf).getD j [])) p xs.length->(arrOf st).map (·.2)=(nM p us).toArray->failedOf st=none->wpAny (model X.prog X.w) B (ksk_tail a false e1 (.ref kS) st) P E s5:=λp st g up Nz xx=>by
  have gu:Good us.length p:=by rw[<- lx];exact g
  have hz:(nM p us).length=us.length:=by
   unfold nM;rw[ay,qS];exact gu.size
  let s1:=Heap.SameBut.update s5.heap kS (Obj.mapSeq λ_=>(#[]:Array Aa));have uA:(s5.heap.update kS (Obj.mapSeq λ_=>(#[]:Array Aa))).get? a\seqObj "list" #[] e1:=(nB _ _ (Ne.symm mQ)).trans JU;unfold ksk_tail;dsimp only;rw[Nz];apply ao (listUpdate_at UJ Z ?_ (by rw[cq,cn];omega) (gM _));apply ao (wpAny_letGo ?_);apply ao (seqEpoch_at uA Z ?_);simp only[iB,gz];apply ao (listUpdate_at uA Z ?_ (gM _) (by rw[cq,hz,cn];omega));rw[xx];simp only[bne_self_eq_false,iB,gz]
  have zl:(p.toList.map λi=>xs.getD i .non).length<=sizeLine:=by
   rw[ay,qS,g.size,cn];omega
  let#[pz,ek]:=k2_ (zs:=p.toList.map λi=>xs.getD i .non) g up Z;apply aK (h _ H5 _ (I5.Aq (t':=s5.toks) (fp:=[a,kS]) (T:=a) (λb o hb e=>?_) (λb hb=>?_) Z2 zl (PV r gu) (get?_update_seq uA _)) ZU VL.1 pz ek)
  ·have n1:b≠a:=λz=>hb (by simp[z]);have n2:b≠kS:=λz=>hb (by simp[z]);exact (nB _ _ (Ne.symm n1)).trans ((nB _ _ (Ne.symm n2)).trans e)
  rcases cU.mp hb with rfl|hb
  ·exact VL
  obtain rfl:b=kS:=⇑hb
  exact fk5
 unfold ksk_end;dsimp only;simp only[iB,gz];by_cases h2:us.toArray.size<2
 ·rw[aJ h2,aJ h2];apply ao (aK ?_);rw[StateT.run_pure];apply ao (aK (tail (List.range xs.length).toArray _ (Array.Perm.refl _) (λi j pe hj=>?_) ?_ Z))
  ·have e:i=j:=by
    simp only[cq] at h2;omega
   subst e;exact PU _
  show ((kvs.toArray.zip us.toArray).map λx:Keyed=>x.2)=_;rw[show xs.length=us.length from lx,Xz];apply Array.ext' ?_;simp[List.map_snd_zip,lk]
 rw[aB h2,aB h2]
 have fV:2<=us.length:=by
  simp only[cq] at h2;omega
 let#[κ,hk,hc]:=V4 (A:=B) (s':=s5) I5 rk tk al Z1 (λ_ _ e=>e);apply ao (wpAny_mono (hk (λk s'=>k=κ/\s'=s5) #[Z,Z]) (λk s7 Gp=>?_) λ_ _ x=>x.elim);let#[rfl,rfl]:=Gp;have O:Ord (λi j=>bQ ((xs.map kf).getD i []) ((xs.map kf).getD j [])):=P6 _
 apply ao (wpAny_mono (kat_run (ks:=kvs) (vs:=us) (G:=λp s'=>s'=s7/\Good us.length p/\Up (λi j=>bQ ((xs.map kf).getD i []) ((xs.map kf).getD j [])) p us.length)
  (Q:=λe_ s'=>∃p:Array Nat,arrOf e_=p.map (kas_item (kvs.toArray.zip us.toArray))/\failedOf e_=none/\s'=s7/\Good us.length p/\Up (λi j=>bQ ((xs.map kf).getD i []) ((xs.map kf).getD j [])) p us.length)
  lk fV bS (λp e_ s' _ q1 q2 q3=>#[p,q1,q2,q3]) (Ok.wp (n:=us.length) (λi j C hi hj=>hc i j C Z1 Z1) (λp q=>#[Z,q]) (Va O Z1))) ?_ λ_ _ x=>x)
 rintro⟨⟨⟩,e_⟩ s' ⟨p,Oo,hf,qA,g,u⟩;subst qA;rw[<- lx] at g u;exact tail p e_ g u (kat_snds lk Oo) hf
end
end L2
namespace L2
open PySem PySem.Spec PyProof.Rows PySem.W jL
section
variable{X:Cx}{pins:List (Addr × Obj)}{σ:St}{H:Hp}{s:Ab}
theorem Inv.uH{dc:ae}{cl:List (Str × Addr)}{is:List Nat}{gs:ag}(I:Inv X pins σ H s)(xw:∀q∈cl,X.env.cells.lookup q.1\q.2)(xD:∀x∈dc,∃c,cl.lookup x\c)(Gr:∀x∈dc,X.env.scope.names.lookup x\.cell)(hN:is.map (λi=>X.N[i]?)=dc.map some)
  (Dm:is.map (λi=>σ[i]?)=gs.map (λv=>some (some v))):gs.length=dc.length/\K4 dc cl gs s.heap/\∀x c,cl.lookup x\c->H c=none:=by
 have lk:∀{x c},cl.lookup x\c->(x,c)∈cl:=λe=>qq e;apply#[?_,#[λa b c h1 h2=>I.ok.inj a b c (xw _ (lk h1)) (xw _ (lk h2)),xD,λa c h1=>I.cell a c (xw _ (lk h1)),λj a v h1 h2=>?_],λx c e=>I.eG x c (xw _ (lk e))]
 ·let a:=dF List.length Dm;let b:=dF List.length hN;simp only[ay] at a b;omega
 let#[c,hc]:=xD a (dA h1);have e1:(is.map λi=>X.N[i]?)[j]? = some (some a):=by rw[hN,dU,h1];rfl
 have e2:(is.map λi=>σ[i]?)[j]? = some (some (some v)):=by rw[Dm,dU,h2];rfl
 rw[dU] at e1 e2;let#[i,hi,e1]:=Option.map_eq_some_iff.mp e1;rw[hi] at e2;have e2:σ[i]? = some (some v):=d7 e2;let#[m,_,hl]:=I.loc;let kd:=Gr a (dA h1);let#[u,ru,lo]:=hl i a v e1 e2 (.inr (.inl kd));rcases lo with⟨z,_⟩|⟨_,c2,e3,o,e4,e5⟩
 ·have z:X.env.scope.names.lookup a\.local:=z;rw[kd] at z;cases z
 rw[xw _ (lk hc)] at e3;cases e3;exact#[c,u,hc,ru,o,e4,e5]
theorem km_{B:Ag}{k:Nat}{qual:Str}{params:Arguments}{body:PySem.Expr}{scope:Scope}{p:Str}{dc:ae}{sp:ag->ag->Hp->VK->XK->Prop}{f c':Addr}{cl:List (Str × Addr)}{is:List Nat}{gs xs:ag}{kf:V->az}{H0:Hp}(F:iZ X.prog X.w X.K X.mg X.base k qual params body scope [p] dc sp)(hr:bf k B)(hB:B.frames=X.A.frames)
  (hf:H0 f\j8 f qual params body scope cl c') (hc:H0 c'\zH c' qual) (xw:∀q∈cl,X.env.cells.lookup q.1\q.2) (xD:∀x∈dc,∃c,cl.lookup x\c) (Gr:∀x∈dc,X.env.scope.names.lookup x\.cell) (hN:is.map (λi=>X.N[i]?)=dc.map some) (Dm:is.map (λi=>σ[i]?)=gs.map (λv=>some (some v)))
  (kW:∀H x,aa H0 H->x∈xs->sp [x] gs H (λv H'=>aa H H'/\∃t,v=.ref t/\H' t\.tup ((kf x).map kV)) (λ_ _ _=>False)):pZ X σ B (.ref f) H0 kf xs:=by
 intro pins H s x u I sm hx ru;let#[#[pm,kb,ef],_]:=I.aE f _ (sm _ _ hf);let#[#[oc,IX,t,ec,d1,d2],_]:=I.aE c' _ (sm _ _ hc);let#[hg,C,fc]:=I.uH xw xD Gr hN Dm;let e0:=I.BV;apply wpAny_call (codeAny_mono (F B X.stack s H f c' pm kb cl [u] [x] gs _ _ hr #[hB.trans e0.frames,e0.mod,e0.bs,e0.uT,e0.fX,e0.xG,e0.aE,e0.bare] ef #[c',oc,IX,t,Z,ec,d1,d2] Z hg (.cons ru .nil) C fc (kW H x sm hx)) λr s' hq=>?_);cases r with
 |error e=>
  let#[a,cls,H',B,a0,dd,rfl,os,bare,un,aE,fl,i,hE]:=hq;exact hE.elim
 |ok fl=>
  cases fl with
  |ret u=>exact I.after hq
  |next=>exact False.elim hq
  |brk=>exact False.elim hq
  |cont=>exact False.elim hq
theorem sortedK{f:Addr}{x:Aa}{xs:ag}{kf:V->az}{sh:List Bool}{Q:VK}{E:Aa->Ab->Prop}(I:Inv X pins σ H s)(bS:xs.length<64)(al:BX (xs.map kf) sh)(kg:pZ X σ X.A.in1.in1 (.ref f) H kf xs)
  (mV:∀R:ak->Ab->Prop,(∀vs s1,Inv X pins σ H s1->Vals xs vs->R vs s1)->wpAny (model X.prog X.w) X.A.in1 (collect x) R E s)
  (q:∀l zs H',aa H H'->H' l=none->H l=none->zs.Perm xs->zs.map kf=aZ (xs.map kf)->Q (.ref l) (upd H' l (.lst zs))):wpAny (model X.prog X.w) X.A (call (.builtin "sorted") [x] [(Str.ofString "key",.ref f)]) (EP X pins σ Q) E s:=by
 apply call_function_entry_kw kind_sorted plain_sorted entry_sorted (ksk_s1 _ _) ?_;unfold Builtin.«sorted»;apply ao (m:=checkCount "sorted" 1 1 _) (aK ?_);apply ao (mV _ λvs s1 I1 r=>?_);let lv:=r.length;apply ao (wpAny_newList ?_ (by rw[cn];omega));have JI:(s1.heap.push (seqObj "list" vs.toArray 0)).get? s1.heap.objs.size\seqObj "list" vs.toArray 0:=eE _ Z;have I2:Inv X pins σ H { s1 with heap:=s1.heap.push (seqObj "list" vs.toArray 0) }:=I1.kept (t':=s1.toks) λb u e=>cj _ e;have fa:du X pins H s1.heap.objs.size:=I1.jd (bo _) (I1.aE.fresh (bo _));have nl:H s1.heap.objs.size=none:=I1.aE.fresh (bo _);apply ao (mZ (wpAny_call_entry_kw slot_list_sort #[_,JI,Z] entry_list_sort ?body (ksk_l1 _ _)))
 case body=>
  show wpAny (model X.prog X.w) X.A.in1.in1 (Builtin.«list.sort» #[[.ref s1.heap.objs.size],[(Str.ofString "key",.ref f)]]) _ _ _;rw[ksk_t1];apply gX_ (s:={ s1 with heap:=s1.heap.push (seqObj "list" vs.toArray 0) }) I2 fa JI r Z1 al kg λzs H' s' I' sm na pz ek=>?_;exact#[_,Z,aK #[_,Z,.ref _,_,I',Z,q _ zs H' sm na nl pz ek]]
end
def RN(K:af)(H:Hp)(x:V)(xs:ag):Prop:=(∃l,x=.ref l/\dW K H l xs)∨∃d kvs,x=.ref d/\H d\.dK kvs/\xs=kvs.map λkv=>kV kv.1
inductive ou (K:af) (qual:Str) (params:Arguments) (body:PySem.Expr) (scope:Scope) (cl:List (Str × Addr)) (is:List Nat) (sp:ag->ag->Hp->VK->XK->Prop) (t:TA) (σ:St) (H:Hp) (Q:VK) (vs:ag) (ws:ag) (H2:Hp):Prop
 |mk:∀x f c' xs kf sh gs,vs=[x]->ws=[.ref f]->H2 f\j8 f qual params body scope cl c'->H2 c'\zH c' qual->RN K H2 x xs->xs.length<64->BX (xs.map kf) sh->is.map (λi=>σ[i]?)=gs.map (λv=>some (some v))->(∀H x,aa H2 H->x∈xs->sp [x] gs H (λv H'=>aa H H'/\∃t,v=.ref t/\H' t\.tup ((kf x).map kV)) (λ_ _ _=>False))->(∀l zs H',aa H2 H'->H' l=none->H2 l=none->zs.Perm xs->zs.map kf=aZ (xs.map kf)->Q (.ref l) (upd H' l (.lst zs)))->ou K qual params body scope cl is sp t σ H Q vs ws H2
def Av(K:af)(qual:Str)(params:Arguments)(body:PySem.Expr)(scope:Scope)(cl:List (Str × Addr))(is:List Nat)(sp:ag->ag->Hp->VK->XK->Prop)(t tk:TA):TE:=λσ H Q=>t σ H λvs H1=>tk σ H1 λws H2=>ou K qual params body scope cl is sp t σ H Q vs ws H2
theorem VI{X:Cx}{e:PySem.Expr}{t tk:TA}{p pos kp ud:Pos}{k:Nat}{params:Arguments}{body:PySem.Expr}{scope:Scope}{px:Str}{dc:ae}{qual:Str}{sp:ag->ag->Hp->VK->XK->Prop}{cl:List (Str × Addr)}{is:List Nat}(hc:X.calm=true)(hg:Gl X "sorted")(hm:X.mg "sorted"=none)(ha:PA X [e] t)(hkw:PK X [#[some "key",.Lambda params body scope ud,kp]] tk)
  (F:iZ X.prog X.w X.K X.mg X.base k qual params body scope [px] dc sp) (hr:bf (k+2) X.A) (xw:∀q∈cl,X.env.cells.lookup q.1\q.2) (xD:∀x∈dc,∃c,cl.lookup x\c) (Gr:∀x∈dc,X.env.scope.names.lookup x\.cell) (hN:is.map (λi=>X.N[i]?)=dc.map some)
  (he:starEach [e] X.env=[(false,eval e X.env)]:=by rfl) (qh:(backToKw pos (keywordEach [#[some "key",.Lambda params body scope ud,kp]] X.env)).all (·.1.isSome)=true:=by rfl) (Gp:(backToKw pos (keywordEach [#[some "key",.Lambda params body scope ud,kp]] X.env)).filterMap (·.1)=[Str.ofString "key"]:=by rfl)
  (hkn:(backToKw pos (keywordEach [#[some "key",.Lambda params body scope ud,kp]] X.env)).any (·.1.isNone)=false:=by rfl):PE X (.Call (.Name "sorted" p) [e] [#[some "key",.Lambda params body scope ud,kp]] pos) (Av X.K qual params body scope cl is sp t tk):=by
 intro pins s σ H Q I h;apply wpAny_Call_Name_kw (DK I hg hm Lc ?_);let hA:=ha pos pins s σ H _ I h;rw[he] at hA ⊢;apply callWith_builtin_kwB (first:=[]) Z hkn (evalArgs_kwB qh (aR hA λus s1 ⟨vs,H1,I1,r1,q1⟩=>?_));apply aR (hkw pos pins s1 σ H1 _ I1 q1) λws s2 ⟨zs,H2,I2,rz,x,f,c',xs,kf,sh,gs,ev,ez,hf,hW,src,bS,al,Dm,kW,q⟩=>?_;subst ev ez;let#[u,rfl,ru]:=Vals.one r1;let#[fv,rfl,rf]:=Vals.one rz;cases rf;rw[Gp];have hd:X.A.in1.handled=none:=I.ok.hd hc;apply sortedK I2 bS al (km_ F hr.in1.in1 Z hf hW xw xD Gr hN Dm kW) (λR hR=>?_) q;rcases src with⟨l,rfl,hl⟩|⟨d,kvs,rfl,hd2,rfl⟩
 ·cases ru;exact is_ I2 hl Z1 hR
 cases ru;exact TN hd I2 (.inl hd2) hR
end L2
namespace L2
open PySem PySem.Spec PyProof.Rows
structure kQ (K:af) (x qual:Str) (st:Stmt) (f c:Addr) (fd:Ae):Prop where
 ex:∃(oc:Aa) (od:Option Addr) (kV doc pm:Aa) (an:Option Addr) (ct:Aa) (i9:Array (Option Aa)),
  fd=PySem.W.fnOf x qual (jj st) (h_ st) (aX st) .none kV doc pm an (.ref c) ct/\K.lookup f=some #[oc,od,.func fd,i9]/\PySem.W.codeIn K (.ref c) qual=true
 kp:PySem.W.keepIn K (.ref f)=true
theorem kQ.fn{K:af}{x qual:Str}{st:Stmt}{f c:Addr}{fd:Ae}(F:kQ K x qual st f c fd):bj K x qual st f fd:=by
 let#[oc,od,kV,doc,pm,an,ct,i9,e,l,h]:=F.ex;exact#[#[oc,od,kV,doc,pm,an,.ref c,ct,i9,e,l,h],F.kp]
theorem kQ.ok{P:Ad}{w:Af}{K:af}{mg:Str->Option Aa}{base:Heap}{x qual:Str}{st:Stmt}{f c:Addr}{fd:Ae}{N ps:ae}{k:Nat}{sp:Sp}(F:kQ K x qual st f c fd)(S:bx N ps (aX st))(len:∀vs H Q E,sp vs H Q E->vs.length=ps.length)
  (fU:∀(A:Ag) (outer:List Env) (s:Ab) (H:Hp) (vs:ag) (Q:VK) (E:XK),bf k (A.deeper (envOfC qual (aX st) s.heap.objs.size f (.ref c)))->sp vs H Q E->
   ∃t,lB (ka a9 P w K mg base N qual (aX st) f (.ref c) A outer s H E).A8 (h_ st) t/\t { nx:=λ_ H'=>Q .non H',rt:=Q } (start N vs) H):!aq a9 (k+1) f fd ps sp:=by
 let#[oc,od,kV,doc,pm,an,ct,i9,rfl,lk,hW]:=F.ex;apply Tu lk hW S len λA outer s H vs Q E hr kW=>?_;let#[t,h,q]:=fU A outer s H vs Q E hr kW;exact#[t,h.A8,q]
end L2
namespace Ev
open PySem L2
def NT(H G:Hp):Prop:=∀b o,H b\o->(∀vs,o≠.tbl vs)->G b\o
theorem NT.of{H G:Hp}(s:aa H G):NT H G:=λb o e _=>s b o e
theorem NT.refl(H:Hp):NT H H:=NT.of (aa.refl H)
theorem NT.trans{H G J:Hp}(s:NT H G)(t:NT G J):NT H J:=λb o e n=>t b o (s b o e n) n
theorem aP.nt{T:Addr}{H G:Hp}{vs:Array Aa}(b:aP T H G)(hT:H T\.tbl vs):NT H G:=λc o e n=>b c o e (λz=>by
 rw[z,hT] at e;exact n _ (d7 e).symm)
theorem NT.tup{H G:Hp}(s:NT H G){a:Addr}{xs:ag}(h:H a\.tup xs):G a\.tup xs:=s _ _ h nofun
theorem NT.lst{H G:Hp}(s:NT H G){a:Addr}{xs:ag}(h:H a\.lst xs):G a\.lst xs:=s _ _ h nofun
theorem NT.dK{H G:Hp}(s:NT H G){a:Addr}{xs:List (Key × V)}(h:H a\.dK xs):G a\.dK xs:=s _ _ h nofun
theorem NT.ins{H G:Hp}(s:NT H G){a C dx:Addr}{fs:List (Str × V)}(h:H a\.ins C dx fs):G a\.ins C dx fs:=s _ _ h nofun
section
variable{K:af}{H G:Hp}{v:V}
theorem bC.nt{ys:ag}{ks:List az}(h:bC K H ys ks)(s:NT H G):bC K G ys ks:=Paired.bF h λy k ⟨a,z,q⟩=>#[a,z,s.tup q]
theorem fq.nt{C p:Addr}{hs:Xa}{ts:Xb}{fp:ai}(W:fq K C H p hs ts fp)(s:NT H G):fq K C G p hs ts fp:=by
 let#[dx,d1,l2,d3,zs,as,rfl,h1,h2,h3,h4,h5,h6,h7]:=W.ex;exact#[dx,d1,l2,d3,zs,as,Z,s _ _ h1 nofun,s.dK h2,s.lst h3,bC.nt h4 s,s.dK h5,h6,λi n a e1 e2=>s.lst (h7 i n a e1 e2)]
theorem cB.nt{o:Option (Xb)}(h:cB K H v o)(s:NT H G):cB K G v o:=by
 cases o with
 |none=>exact h
 |some ws=>
  let#[a,ys,e,ha,t]:=h;exact#[a,ys,e,s.lst ha,bC.nt t s]
theorem gT.nt{CG CW g p:Addr}{hs:Xa}{ts:Xb}{qs:aI}{fp:ai}(h:gT K CG CW H g p hs ts qs fp)(s:NT H G):gT K CG CW G g p hs ts qs fp:=by
 let#[dx,dw,dy,vs,bR,h1,h2,h3,h4,h5,r]:=h.ex;exact#[dx,dw,dy,vs,bR,s _ _ h1 nofun,h2.nt s,s.dK h3,s.dK h4,Paired.bF h5 λv q h=>h.nt s,r]
theorem ck.nt{l:Addr}(h:ck H l)(s:NT H G):ck G l:=by
 rcases h with⟨a,e⟩|⟨a,b,c,e⟩
 ·exact .inl #[a,s.lst e]
 exact .inr #[a,b,c,s.lst e]
end
theorem TQ{H:Hp}{T:Addr}{qual q':Str}{a a':Arguments}{b b':Expr}{sc Jk:Scope}{ps:Pos}{cl:List (Str × Addr)}{σ:St}{Q:VK}(h:cg H T qual)(e1:q'=qual)(e2:a'=a)(e3:b'=b)(e4:Jk=sc)(q:∀f c' H1,aP T H H1->cg H1 T qual->H1 f\j8 f qual a b sc cl c'->H1 c'\zH c' qual->Q (.ref f) H1):EB T q' a' b' Jk ps cl σ H Q:=by
 subst e1 e2 e3 e4;let#[es,h,By]:=h;apply#[_,h,VX es,?_];rcases Xy ps es with e|⟨e,he,q1⟩
 ·apply .inl #[e,λc' f n1 n2 n3=>?_];have nT1:T≠c':=bw h n1;have nT2:T≠f:=bw h n2
  have B:aP T H (upd (upd (upd H T (.tbl ((nK es).toArray++(List.toArray [rawInt ps.line,rawInt ps.col,.ref c'])))) c' (zH c' q')) f (j8 f q' a' b' Jk cl c')):=λb o e n=>by
   rw[aA (bw e n2),aA (bw e n1),aA n];exact e
  apply q f c' _ B #[es++[(ps,c')],?_,λx hx=>?_] au ?_
  ·rw[aA nT2,aA nT1,au,Wu];simp
  ·rcases fL.mp hx with hx|hx
   ·exact B _ _ (By x hx) (λz=>by have:=By x hx;rw[z,h] at this;cases this)
   rw[List.mem_singleton.mp hx];show upd _ f _ c'=_;rw[aA n3,au]
  rw[aA n3,au]
 apply .inr #[e.2,q1,λf hf=>?_];let s:=aa.new (o:=j8 f q' a' b' Jk cl e.2) hf;exact q f e.2 _ (aP.of s) #[es,s _ _ h,λx hx=>s _ _ (By x hx)] au (s _ _ (By e he))
theorem gc{H:Hp}{T:Addr}{qual:Str}(h:cg H T qual):∃vs,H T\.tbl vs:=by
 let#[es,e,_]:=h;exact#[_,e]
theorem cg.but{H G:Hp}{T T':Addr}{q:Str}(h:cg H T q)(b:aP T' H G)(hT:∃vs,H T'\.tbl vs)(ne:T≠T'):cg G T q:=by
 let#[es,e,a]:=h;let#[vs,hT]:=hT;exact#[es,b _ _ e ne,λx hx=>b _ _ (a x hx) (λz=>by have:=a x hx;rw[z,hT] at this;cases this)]
def j7:Expr->Scope
 |.Lambda _ _ s _=>s
 |_=>aX g7
def FB:Expr->Expr
 |.Lambda _ b _ _=>b
 |e=>e
def FC:Expr->Arguments
 |.Lambda a _ _ _=>a
 |_=>jj g7
def Tw:Expr->Expr
 |.Call _ _ (k::_) _=>k.value
 |e=>e
def Fc(l:List Stmt)(i:Nat):Stmt:=l.getD i (.Pass #[0,0,0,0])
def OQ:Stmt->Expr
 |.For _ i _ _ _=>i
 |_=>.Constant .none 0 #[0,0,0,0]
def Mj:Stmt->Expr
 |.Return (some e) _=>e
 |_=>.Constant .none 0 #[0,0,0,0]
end Ev
namespace Ev
open PySem L2
theorem Fp{σ:St}{H:Hp}{k:ag->Hp->Prop}(h:k [] H):lF σ H k:=h
theorem zR{te:TE}{t:TA}{σ:St}{H:Hp}{k:ag->Hp->Prop}(h:te σ H λx H1=>t σ H1 λxs H2=>k (x::xs) H2):jQ te t σ H k:=h
abbrev vp(qs:aI)(n:Str):Int:=strOf (qs.map gG) n
def kN(qs:aI)(n:Str):az:=[.inl (-(vp qs n)),.inr n]
def jW:az->Str
 |[_,.inr n]=>n
 |_=>⟨#[]⟩
def mP(qs:aI):ae:=(aZ ((qs.map (·.1)).map (kN qs))).map jW
def FF(qs:aI):V->az
 |.str n=>kN qs n
 |_=>[]
theorem WN{zs:ag}{ns:ae}(p:zs.Perm (ns.map V.str)):∃ms:ae,zs=ms.map V.str/\ms.Perm ns:=by
 have all:∀z∈zs,∃n,z=V.str n:=λz hz=>by
  let#[n,_,e]:=bG.mp (p.mem_iff.mp hz);exact#[n,e.symm]
 have mk:∀l:ag,(∀z∈l,∃n,z=V.str n)->∃ms:ae,l=ms.map V.str:=λl=>by
  induction l with
  |nil=>intro _;exact#[[],Z]
  |cons a r ih=>
   intro h;let#[n,rfl]:=h a fM;let#[ms,rfl]:=ih λz hz=>h z (eR _ hz);exact#[n::ms,Z]
 let#[ms,rfl]:=mk zs all;apply#[ms,Z,?_];have:=p.map (λv:V=>match v with | .str n=>n|_=>(⟨#[]⟩:Str));rw[b_,b_] at this;simpa [Function.comp_def] using this
theorem lO_{qs:aI}{zs:ag}(p:zs.Perm ((qs.map (·.1)).map V.str))(e:zs.map (FF qs)=aZ (((qs.map (·.1)).map V.str).map (FF qs))):zs=(mP qs).map V.str:=by
 let#[ms,rfl,_]:=WN p;have e1:(ms.map V.str).map (FF qs)=ms.map (kN qs):=by rw[b_];rfl
 have e2:((qs.map (·.1)).map V.str).map (FF qs)=(qs.map (·.1)).map (kN qs):=by
  rw[b_];rfl
 rw[e1,e2] at e
 have em:(ms.map (kN qs)).map jW=ms:=by
  rw[b_];exact List.map_id' ms
 unfold mP;rw[<- e,em]
theorem La(qs:aI):(mP qs).Perm (qs.map (·.1)):=by
 unfold mP;let p:=(nO ((qs.map (·.1)).map (kN qs))).map jW
 have e:((qs.map (·.1)).map (kN qs)).map jW=qs.map (·.1):=by
  generalize qs.map (·.1)=ns;rw[b_];exact List.map_id' _
 rw[e] at p;exact p
def fG(qs:aI)(f:aj)(h:Str):ae:=(mP qs).filter λn=>decide (f n=h)
abbrev yX:Str:="heaviest_first.<locals>.<lambda>"
def qd:Expr:=Tw (OQ (Fc (h_ iF) 1))
abbrev BK:ae:=["goods"]
theorem GP:∀y∈(j7 qd).names,y.2=.free->y.1∈BK:=by decide +kernel
theorem AM:Hr ["name"] BK (j7 qd):=#[by decide +kernel,Z,Z,Z,by decide +kernel,by decide +kernel,λx h=>GP (x,.free) (qq h) Z,by decide +kernel]
section v
inductive oE (K:af) (CG CW:Addr) (vs:ag) (gs:ag) (H:Hp) (Q:VK):Prop
 |mk:∀(g p:Addr) (q:Pc) (hs:Xa) (ts:Xb) (qs:aI) (fp:ai),vs=[.str q.1]->gs=[.ref g]->gT K CG CW H g p hs ts qs fp->(qs.map (·.1)).Nodup->q∈qs->0<=q.2.1->q.2.1<=1000000000->(∀t,H t=none->Q (.ref t) (upd H t (.tup [.int (-q.2.1),.str q.1])))->oE K CG CW vs gs H Q
def AE(K:af)(CG CW:Addr):ag->ag->Hp->VK->XK->Prop:=λvs gs H Q _=>oE K CG CW vs gs H Q
theorem kz_{CG CW CP:Addr}(T:dM K CG)(cW:!br CG 2 "weight" zJ (Cu K CG CW CP)):!iZ 3 yX (FC qd) (FB qd) (j7 qd) ["name"] BK (AE K CG CW):=by
 apply zf AM (λpm c' kb cl us hl=>?_) (λA outer s H f cd cl vs gs Q E hr h hp=>?_)
 ·match us,hl with
  |[_],_=>rfl
 let#[g,p,q,hs,ts,qs,fp,rfl,rfl,G,nd,hq,w0,w1,k]:=h;let#[dx,dw,dy,vs,bR,h1,h2,_]:=id G.ex;apply#[_,fB %[GK Hb (ft cW T.cl hr (pv 1) %[0|0]),0|0],?_];have kX:(bY p dw dy).lookup ("weight":Str)=none:=uZ _ _ _ Z0 Z0 Z0;apply#[_,Z,g,dx,_,Z,h1,kX,_,Z,g,p,.str q.1,some q.1,hs,ts,qs,fp,Z,G,nd,Z,.inl #[q,hq,Z,?_]];exact#[_,Z,_,Z,zl,λt ht=>k t ht]
def Ho(L:Addr):List (Str × Addr):=[("goods",L+1)]
theorem QH{L f:Addr}{cd:Aa}:closureFor (j7 qd) (PyProof.Rows.envOfC qK (aX iF) L f cd)=pure (Ho L):=by rfl
theorem QL{L f:Addr}{cd:Aa}:∀q∈Ho L,(PyProof.Rows.envOfC qK (aX iF) L f cd).cells.lookup q.1\q.2:=by
 intro q hq;simp only[Ho,cU,List.not_mem_nil,or_false] at hq;rcases hq with rfl;rfl
theorem MX{L:Addr}:∀x∈BK,∃c,(Ho L).lookup x\c:=by
 intro x hx;simp only[BK,cU,List.not_mem_nil,or_false] at hx;rcases hx with rfl;exact#[_,Z]
theorem MT:∀x∈BK,(aX iF).names.lookup x\.cell:=by decide +kernel
theorem sL:bx ["goods","placed","found","piece"] kj (aX iF):=bE
def CI(H:Hp)(ns:ae)(ad:Str->Addr)(g:Str->ae):Prop:=(∀h∈ns,H (ad h)\.lst ((g h).map V.str))/\∀h∈ns,∀h'∈ns,ad h=ad h'->h=h'
inductive oG (K:af) (CG CW T:Addr) (vs:ag) (H:Hp) (Q:VK) (E:XK):Prop
 |mk:∀(g p d:Addr) (hs:Xa) (ts:Xb) (qs:aI) (fp:ai) (f:aj),vs=[.ref g,.ref d]->qr K CG CW H g p d hs ts qs fp f->(∀q∈qs,0<=q.2.1/\q.2.1<=1000000000)->cg H T yX->(∀d' ad H',aP T H H'->cg H' T yX->H d'=none->H' d'\.dK (dX (aF hs) λh=>.ref (ad h))->CI H' (aF hs) ad (fG qs f)->(∀h∈aF hs,H (ad h)=none)->Q (.ref d') H')->oG K CG CW T vs H Q E
theorem cg.putL{H:Hp}{T a:Addr}{q:Str}{xs:ag}{o:HO}(h:cg H T q)(ha:H a\.lst xs):cg (upd H a o) T q:=by
 let#[es,e,c]:=h;apply⟨es,by rw[aA (bX e ha nofun)];exact e,λx hx=>?_⟩;rw[aA (λz=>by have:=c x hx;rw[z,ha] at this;cases this)];exact c x hx
theorem B9{H:Hp}{d:Addr}{ns:ae}{g:Str->V}{n:Str}(h:H d\.dK (dX ns g))(m:n∈ns):gF H d (.str n) (some (g n)):=by
 have:=gF.k (k:=Sum.inr n) h;rw[DT m] at this;exact this
theorem M_{qs:aI}(nd:(qs.map (·.1)).Nodup){q:Pc}(h:q∈qs):vp qs q.1=q.2.1:=by
 apply iU_ ?_ (bG.mpr ⟨q,h,rfl⟩);rw[b_];exact nd
theorem lm_{f0 c0 CG CW CP T:Addr}{fd:Ae}(F:kQ K qK qK iF f0 c0 fd)(B:Bi mg)(TG:dM K CG)(TW:Txt K mg CW)(hC:PySem.W.CodeHd base c0 T)(uz:base.BuiltinsAt mg T)(cH:!br CW 1 "hands" gK (DS K CW))(cW:!br CG 2 "weight" zJ (Cu K CG CW CP)) :
  aq P w K mg base a9 6 f0 fd kj (oG K CG CW T):=by
 apply F.ok sL (λvs H Q E h=>?_) (λA outer s H vs Q E hr h=>?_)
 ·let#[g,p,d,hs,ts,qs,fp,f,rfl,_]:=h;rfl
 let#[g,p,d,hs,ts,qs,fp,f,rfl,Pl,wq,tab,k]:=h;let hu:=gD hr;let sz:=cn;have iH:bf 1 _:=hr.mono (by decide);refine' ⟨_,ax ?s1 (ax ?s2 (aH ?s3)),?kk⟩
 case' s1=>refine' bq 2 sL.nd (iK (Cw Z) (by rfl) B.dict qN %[iV ["hand"] 1 [] (d5 (uW cH TW.cl iH (dG (pv 0) Z))) (λfp s H=>eW (i:=0) (show (["hand"]:ae).Nodup by decide +kernel) Z (Or.inl Z)) (λfp s H=>ij) (λfp s H=>?e1)|0])
 case e1=>exact fB %[0,eB bh|0]
 case' s2=>refine' eX eM Z (d5 ?l2) (cO 3 sL.nd) (aH ?b2)
 case l2=>exact VI (px:="name") (dc:=BK) (cl:=Ho s.heap.objs.size) (is:=[0]) (k:=3) Z (by rfl) B.sorted %[1|0] (U5 (T3 (P:=T) (c:=c0) Z QH Z hC uz) TM) (kz_ TG cW) hr QL MX MT Z
 case b2=>exact jH (km k7 wc wd u_ (kq hu (pv 2) (kq hu (pv 1) (pv 3))) %[3|0])
 case s3=>exact bg (pv 2)
 let nd:=Pl.Gd.uc;have n8:(aF hs).length<=8:=by have:=Pl.Gd.fP;have:=Pl.Gd.h8;omega
 let#[dx,dw,dy,vs,bR,h1,h2,h3,h4,h5,m1,m2,m3,m4,m5]:=id Pl.G.ex;let#[eV,d1,l2,d3,ju,as,ef,w1,_]:=id h2.ex;have hV:(dg d1 l2 d3).lookup ("hands":Str)=none:=iM _ _ _ Z0 Z0 Z0;apply#[_,Z,g,CG,dx,_,_,Z,h1,TG.cl,TG.nW,kA _ _ _,p,eV,_,Z,w1,hV,p,hs,ts,bR,Z,h2,λlh nh=>?_];let#[s1,e1]:=bp (o:=.lst ((aF hs).map V.str)) nh;generalize upd H lh (.lst ((aF hs).map V.str))=H1 at s1 e1 ⊢;apply#[lh,Z,#[_,.of e1],λD hD=>?_];apply jK (own:=1) (fv:=[]) (xs:=(aF hs).map V.str) Z dR (λi out H'=>∃ad:Str->Addr,aa H1 H'/\H' D\.lst out/\k4 K H' out (dX ((aF hs).take i) λh=>.ref (ad h))/\CI H' ((aF hs).take i) ad (λ_=>[])/\∀h∈(aF hs).take i,H1 (ad h)=none/\ad h≠D) #[λ_=>D,aa.new hD,au,.nil,#[by simp,by simp],by simp] (λi out H' _ ⟨_,sm,_⟩=>.of (sm _ _ e1)) (λout H2 ⟨ad,s2,uC,pa,ls,fr⟩=>?_) (λi x out H' hx ⟨ad,sm,hd,pa,ls,fr⟩=>?_);rotate_left
 ·let#[n,hn,rfl]:=iT hx;have nn:n∉(aF hs).take i:=Qe nd hn;apply#[_,Z,Z,λNx hN=>dB ?_];apply#[_,Z,zl,λl nl=>?_];let#[s3,e3]:=bp (o:=.lst []) nl;generalize upd H' l (.lst [])=H3 at s3 e3 ⊢;apply#[zl,λt nt=>?_];let#[s4,e4]:=bp (o:=.tup [.str n,.ref l]) nt;generalize upd H3 t (.tup [.str n,.ref l])=H4 at s4 e4 ⊢;let qx:=s3.trans s4;let qD:=qx _ _ hd;have lD:l≠D:=λz=>by rw[z,hd] at nl;cases nl
  have XX:∀h∈(aF hs).take i,ad h≠l:=λh hh z=>by
   have:=ls.1 h hh;rw[z,nl] at this;cases this
  let lo:=bH pa;rw[jJ,dJ] at lo
  have pD:∀{b:Addr} {zs:ag},H4 b\.tup zs->b≠D:=λhb z=>by
   rw[z,qD] at hb;cases hb
  have ne:∀h∈(aF hs).take i,h≠n:=λh hh z=>nn (z▸hh);apply#[out,qD,by omega,hN (out++[.ref t]) _ #[λm=>if m=n then l else ad m,gU (sm.trans qx) hD,au,?_,#[λh hh=>?_,λh hh h' UO z=>?_],λh hh=>?_]]
  ·have e:dX ((aF hs).take (i+1)) (λh=>.ref (if h=n then l else ad h))=dX ((aF hs).take i) (λh=>.ref (ad h))++[(Sum.inr n,.ref l)]:=by
    rw[iC hn];unfold dX;rw[cu,dZ,List.map_nil];dsimp only;rw[aJ Z];congr 1;exact vf λm hm=>by rw[aB (ne m hm)]
   rw[e];exact jG (Paired.bF pa λy kv ⟨b,z,hb⟩=>#[b,z,by rw[aA (pD (qx _ _ hb))];exact qx _ _ hb]) (.cons #[t,Z,by rw[aA (pD e4)];exact e4] .nil)
  ·rw[iC hn] at hh;rcases fL.mp hh with hh|hh
   ·dsimp only;rw[aB (ne h hh),aA (fr h hh).2];exact qx _ _ (ls.1 h hh)
   obtain rfl:h=n:=⇑hh
   dsimp only;rw[aJ Z,aA lD];exact s4 _ _ e3
  ·rw[iC hn] at hh UO;dsimp only at z;rcases fL.mp hh with a1|a1<;>rcases fL.mp UO with a2|a2
   ·rw[aB (ne h a1),aB (ne h' a2)] at z;exact ls.2 h a1 h' a2 z
   ·have a2:h'=n:=⇑a2
    rw[aB (ne h a1),aJ a2] at z;exact absurd z (XX h a1)
   ·have a1:h=n:=⇑a1
    rw[aB (ne h' a2),aJ a1] at z;exact absurd z.symm (XX h' a2)
   rw[show h=n by simpa using a1,show h'=n by simpa using a2]
  rw[iC hn] at hh;dsimp only;rcases fL.mp hh with hh|hh
  ·rw[aB (ne h hh)];exact fr h hh
  obtain rfl:h=n:=⇑hh
  rw[aJ Z];exact#[sm.free nl,lD]
 rw[ay,eN] at pa ls fr;apply#[D,out,_,Z,uC,pa,by rw[jJ];omega,λdf MH=>?_]
 have o6:((dX (aF hs) λh=>V.ref (ad h)).map (·.1)).Nodup:=by
  rw[Hw,pL,qQ];exact nd.imp λn e=>n (h9 e)
 rw[Cp o6];let#[s3,e3]:=bp (o:=.dK (dX (aF hs) λh=>V.ref (ad h))) MH;lk;generalize upd H2 df (.dK (dX (aF hs) λh=>V.ref (ad h)))=H3 at s3 e3 ⊢;let jY:=(s1.trans s2).trans s3;have MG:H df=none:=(s1.trans s2).free MH;have Vw:∀h∈aF hs,H (ad h)=none:=λh hh=>s1.free (fr h hh).1;have Tn:∀h∈aF hs,H3 (ad h)\.lst []:=λh hh=>s3 _ _ (ls.1 h hh);let inj:=ls.2;clear s1 s2 s3 e1 pa ls fr uC nh hD MH;apply#[_,Z,Fp (zR ?_)];apply TQ (tab.same jY) Z Z Z Z λfl c' H4 b4 fO xx Dp=>?_;let#[tv,hT]:=gc tab
 have neT:∀{b:Addr} {o:HO},H3 b\o->(∀vs,o≠.tbl vs)->b≠T:=λ{b o} e n z=>by
  rw[z,jY _ _ hT] at e;exact n _ (d7 e).symm
 have gg:NT H H4:=λb o e n=>b4 _ _ (jY _ _ e) (neT (jY _ _ e) n);have Tj:∀h∈aF hs,H4 (ad h)\.lst []:=λh hh=>b4 _ _ (Tn h hh) (neT (Tn h hh) nofun);let e4:=b4 _ _ e3 (neT e3 nofun);have IJ:aP T H H4:=λb o e n=>b4 _ _ (jY _ _ e) n;apply#[.ref d,fl,c',(qs.map (·.1)).map V.str,FF qs,[false,true],[.ref g],Z,Z,xx,Dp,.inr #[d,_,Z,gg.dK Pl.hd,?_],by rw[ay,ay];exact Pl.bS,#[by decide,λk hk=>?_],Z,λH' x sm hx=>?_,λl zs H5 s5 nl C4 pz ek=>?_]
 ·show _=((qs.map (·.1)).map _).map _;generalize qs.map (·.1)=tW;rw[b_];rfl
 ·let#[v,hv,rfl]:=bG.mp hk;let#[n,_,rfl]:=bG.mp hv;rfl
 ·let#[n,hn,rfl]:=bG.mp hx;let#[q,hq,rfl]:=bG.mp hn;apply#[g,p,q,hs,ts,qs,fp,Z,Z,(Pl.G.nt gg).same sm,Pl.nd,hq,(wq q hq).1,(wq q hq).2,λt nt=>#[aa.new nt,t,Z,?_]];rw[au];show _\HO.tup [.int (-(vp qs q.1)),.str q.1];rw[M_ Pl.nd hq]
 rw[lO_ pz ek];have hl:upd H5 l (.lst ((mP qs).map V.str)) l\.lst ((mP qs).map V.str):=au;have s6:aa H4 (upd H5 l (.lst ((mP qs).map V.str))):=s5.trans (aa.new nl)
 have lne:∀h∈aF hs,ad h≠l:=λh hh z=>by
  have:=Tj h hh;rw[z,C4] at this;cases this
 generalize upd H5 l (.lst ((mP qs).map V.str))=H6 at hl s6 ⊢
 have Ts:(mP qs).length<64:=by
  rw[(La qs).length_eq,ay];exact Pl.bS
 have dT:d≠T:=λz=>by
  have:=Pl.hd;rw[z,hT] at this;cases this
 apply#[l,Z,#[_,.of hl],ie (K:=K) (a:=l) (xs:=(mP qs).map V.str) (λi σ H'=>∃v3:aL,σ=[some (.ref g),some (.ref d),some (.ref df),v3]/\aP T H H'/\cg H' T yX/\H' df\.dK (dX (aF hs) λh=>V.ref (ad h))/\H' l\.lst ((mP qs).map V.str)/\CI H' (aF hs) ad (λh=>((mP qs).take i).filter λn=>decide (f n=h))) #[none,Z,λb o e n=>s6 _ _ (IJ b o e n),fO.same s6,s6 _ _ e4,hl,λh hh=>s6 _ _ (Tj h hh),inj] (λi σ H' _ ⟨_,_,_,_,_,z,_⟩=>.of z) ?_ ?_]
 ·rintro i x σ H' hx ⟨v3,rfl,bT,jP,ux,JM,ls⟩;let#[n,hn,rfl]:=iT hx;have nm:n∈qs.map (·.1):=(La qs).mem_iff.mp (dA hn);have fm:f n∈aF hs:=(iW hs).mem_iff.mpr (Pl.at_ n nm);let fH:=bT _ _ Pl.hd dT;let la:=ls.1 (f n) fm;lk;apply#[_,Z,_,Z,_,Z,d,_,Z,B9 fH nm,df,_,Z,B9 ux fm,.inl #[Z,_,.of la],_,Z,ad (f n),_,_,Z,Z,la,?_,?_]
  ·rw[ay];have:=List.length_filter_le (λn'=>decide (f n'=f n)) ((mP qs).take i);rw[dJ] at this;dsimp only;omega
  apply#[_,Z,λb o e ne=>?_,cg.putL jP la,?_,?_,λh hh=>?_,inj]
  ·rw[aA (bw e (Vw _ fm))];exact bT b o e ne
  ·rw[aA (bX ux la nofun)];exact ux
  ·rw[aA (lne _ fm).symm];exact JM
  by_cases z:h=f n
  ·subst z;dsimp only;rw[au,iC hn,List.filter_append,List.filter_cons_of_pos Z2,List.filter_nil,cu];rfl
  dsimp only;rw[aA (λy=>z (inj h hh _ fm y)),iC hn,List.filter_append,List.filter_cons_of_neg ⇑(λy=>z y.symm),List.filter_nil,Al];exact ls.1 h hh
 rintro σ H' ⟨v3,rfl,bT,jP,ux,JM,ls⟩;rw[ay,eN] at ls;exact#[_,Z,k df ad H' bT jP MG ux ls Vw]
end
end Ev
namespace Ev
open PySem L2
abbrev md:Stmt:=jE Kh 0
abbrev tq:Stmt:=jE Kh 1
abbrev mw:Stmt:=jE Kh 2
abbrev vT:Stmt:=jE Kh 3
def d8(g dl dv dp:Addr):List (Str × V):=aD B7 (.ref dp) (aD pK (.ref dv) (aD iR (.ref dl) (aD "wares" (.ref g) [])))
theorem gQ(g dl dv dp:Addr):(d8 g dl dv dp).lookup ("wares":Str)\.ref g:=by
 unfold d8;rw[eZ,eZ,eZ,eZ,aB Z0,aB Z0,aB Z0,aJ Z]
theorem ET(g dl dv dp:Addr):(d8 g dl dv dp).lookup (iR:Str)\.ref dl:=by
 unfold d8;rw[eZ,eZ,eZ,aB Z0,aB Z0,aJ Z]
theorem Me(g dl dv dp:Addr):(d8 g dl dv dp).lookup (pK:Str)\.ref dv:=by
 unfold d8;rw[eZ,eZ,aB Z0,aJ Z]
theorem ER(g dl dv dp:Addr):(d8 g dl dv dp).lookup (B7:Str)\.ref dp:=by
 unfold d8;rw[eZ,aJ Z]
theorem Dw(g dl dv dp:Addr){m:Str}(h1:¬m="wares")(h2:¬m=iR)(h3:¬m=pK)(h4:¬m=B7):(d8 g dl dv dp).lookup m=none:=by
 unfold d8;rw[eZ,eZ,eZ,eZ,aB h4,aB h3,aB h2,aB h1];rfl
structure gE (K:af) (CS:Addr):Prop where
 cl:oi K CS
 nW:k_ K CS "wares"
 nL:k_ K CS iR
 nV:k_ K CS pK
 nP:k_ K CS B7
structure Wd (hs:Xa) (ts:Xb) (qs:aI) (f:aj):Prop where
 Gd:Good hs ts
 nd:(qs.map (·.1)).Nodup
 bS:qs.length<64
 at_:∀n∈qs.map (·.1),f n∈hs.map (·.1)
 wq:∀q∈qs,0<=q.2.1/\q.2.1<=1000000000
structure iQ (K:af) (CS CG CW:Addr) (H:Hp) (v g p:Addr) (hs:Xa) (ts:Xb) (qs:aI) (fp:ai) (f:aj):Prop where
 ex:∃(dx dl dv dp:Addr) (ad:Str->Addr),H v\.ins CS dx (d8 g dl dv dp)/\gT K CG CW H g p hs ts qs fp/\H dl\.dK (xl hs qs f)/\H dv\.dK (dX (aF hs) λh=>.int (vH hs qs f h))/\H dp\.dK (dX (aF hs) λh=>.ref (ad h))/\∀h∈aF hs,H (ad h)\.lst ((fG qs f h).map V.str)
theorem iQ.nt{K:af}{CS CG CW:Addr}{H G:Hp}{v g p:Addr}{hs:Xa}{ts:Xb}{qs:aI}{fp:ai}{f:aj}(S:iQ K CS CG CW H v g p hs ts qs fp f)(s:NT H G):iQ K CS CG CW G v g p hs ts qs fp f:=by
 let#[dx,dl,dv,dp,ad,h1,h2,h3,h4,h5,h6]:=S.ex;exact#[dx,dl,dv,dp,ad,s.ins h1,h2.nt s,s.dK h3,s.dK h4,s.dK h5,λh hh=>s.lst (h6 h hh)]
theorem iQ.same{K:af}{CS CG CW:Addr}{H G:Hp}{v g p:Addr}{hs:Xa}{ts:Xb}{qs:aI}{fp:ai}{f:aj}(S:iQ K CS CG CW H v g p hs ts qs fp f)(s:aa H G):iQ K CS CG CW G v g p hs ts qs fp f:=S.nt (NT.of s)
abbrev lo(qs:aI)(f:aj)(h:Str):Int:=ld f (qs.map gG) h
def pH(hs:Xa)(qs:aI)(f:aj)(a b:Str):Int:=lo qs f a * strOf hs b - lo qs f b * strOf hs a
def lj(hs:Xa)(a b:Str):Int:=strOf hs a+strOf hs b
section v
theorem wQ:bx DB DB (aX md):=bE
inductive HN (K:af) (CS CG CW T:Addr) (vs:ag) (H:Hp) (Q:VK) (E:XK):Prop
 |mk:∀(v dx g p d:Addr) (hs:Xa) (ts:Xb) (qs:aI) (fp:ai) (f:aj),vs=[.ref v,.ref g,.ref d]->H v\.ins CS dx []->v∉fp->qr K CG CW H g p d hs ts qs fp f->Wd hs ts qs f->cg H T yX->(∀H',(∀b o,H b\o->b≠v->b≠T->H' b\o)->cg H' T yX->iQ K CS CG CW H' v g p hs ts qs fp f->Q .non H')->HN K CS CG CW T vs H Q E
theorem jc_{f0 CS CG CW T:Addr}{fd:Ae}(F:bj K "__init__" "Sight.__init__" md f0 fd)(TS:gE K CS)(Ih:!aY 3 "loads_at" kj (ID K CG CW))(K1:!aY 4 "levels_at" kj (K5 K CG CW))(Rb:!aY 6 qK kj (oG K CG CW T)) :
  aq P w K mg base a9 7 f0 fd DB (HN K CS CG CW T):=by
 exists F.bL wQ;let#[v,dx,g,p,d,hs,ts,qs,fp,f,rfl,hv,yx,Pl,W,tab,k]:=h;refine' #[_,ax ?s1 (ax ?s2 (ax ?s3 (aH ?s4))),?kk]
 case s1=>exact wg (pv 0) (pv 1) Z
 case s2=>exact wg (pv 0) (aQ Ih hr %[1,2|0]) Z
 case s3=>exact wg (pv 0) (aQ K1 hr %[1,2|0]) Z
 case s4=>exact wg (pv 0) (aQ Rb hr %[1,2|0]) Z
 have dv:d≠v:=bX Pl.hd hv nofun;have ug:∀{G:Hp},(∀b o,H b\o->b≠v->G b\o)->qr K CG CW G g p d hs ts qs fp f:=λ{G} up=>#[Pl.G.keep (λb hb o e=>up b o e (λz=>yx (z▸hb))) (λb xs e=>up b _ e (bX e hv nofun)),Pl.Gd,Pl.je,up _ _ Pl.hd dv,Pl.at_,Pl.nd,Pl.bS];apply#[_,Z,_,Z,v,CS,dx,_,Z,hv,TS.cl,TS.nW,by show 0<1000;decide,?_];have up1:∀b o,H b\o->b≠v->upd H v (.ins CS dx (aD "wares" (.ref g) [])) b\o:=λb o e n=>by rw[aA n];exact e
 have o_:upd H v (.ins CS dx (aD "wares" (.ref g) [])) v\.ins CS dx (aD "wares" (.ref g) []):=au;have DA:∀{b},upd H v (.ins CS dx (aD "wares" (.ref g) [])) b=none->b≠v:=λ{b} e z=>by rw[z,au] at e;cases e
 generalize upd H v (.ins CS dx (aD "wares" (.ref g) []))=H1 at up1 o_ DA ⊢;apply#[_,Z,_,Z,g,p,d,hs,ts,qs,fp,f,Z,ug up1,λdl H2 s2 nl hl=>?_];let hv2:=s2 _ _ o_;have lv:dl≠v:=DA nl;apply#[_,Z,v,CS,dx,_,Z,hv2,TS.cl,TS.nL,by show 1<1000;decide,?_];have LB:∀b o,H b\o->b≠v->upd H2 v (.ins CS dx (aD iR (.ref dl) (aD "wares" (.ref g) []))) b\o:=λb o e n=>by rw[aA n];exact s2 _ _ (up1 b o e n)
 have Ul:upd H2 v (.ins CS dx (aD iR (.ref dl) (aD "wares" (.ref g) []))) v\.ins CS dx (aD iR (.ref dl) (aD "wares" (.ref g) [])):=au;have GR:∀{b},upd H2 v (.ins CS dx (aD iR (.ref dl) (aD "wares" (.ref g) []))) b=none->b≠v:=λ{b} e z=>by rw[z,au] at e;cases e
 have pd:upd H2 v (.ins CS dx (aD iR (.ref dl) (aD "wares" (.ref g) []))) dl\.dK (xl hs qs f):=by rw[aA lv];exact hl
 generalize upd H2 v (.ins CS dx (aD iR (.ref dl) (aD "wares" (.ref g) [])))=H3 at LB Ul GR pd ⊢;apply#[_,Z,_,Z,g,p,d,hs,ts,qs,fp,f,Z,ug LB,W.wq,λde H4 s4 ne he=>?_];let hv4:=s4 _ _ Ul;have ev:de≠v:=GR ne;apply#[_,Z,v,CS,dx,_,Z,hv4,TS.cl,TS.nV,by show 2<1000;decide,?_];have vq:∀b o,H b\o->b≠v->upd H4 v (.ins CS dx (aD pK (.ref de) (aD iR (.ref dl) (aD "wares" (.ref g) [])))) b\o:=λb o e n=>by rw[aA n];exact s4 _ _ (LB b o e n)
 have Uk:upd H4 v (.ins CS dx (aD pK (.ref de) (aD iR (.ref dl) (aD "wares" (.ref g) [])))) v\.ins CS dx (aD pK (.ref de) (aD iR (.ref dl) (aD "wares" (.ref g) []))):=au;have pC:∀{b},upd H4 v (.ins CS dx (aD pK (.ref de) (aD iR (.ref dl) (aD "wares" (.ref g) [])))) b=none->b≠v:=λ{b} e z=>by rw[z,au] at e;cases e
 have Bw:upd H4 v (.ins CS dx (aD pK (.ref de) (aD iR (.ref dl) (aD "wares" (.ref g) [])))) dl\.dK (xl hs qs f):=by rw[aA lv];exact s4 _ _ pd
 have UT:upd H4 v (.ins CS dx (aD pK (.ref de) (aD iR (.ref dl) (aD "wares" (.ref g) [])))) de\.dK (dX (aF hs) λh=>.int (vH hs qs f h)):=by rw[aA ev];exact he
 generalize upd H4 v (.ins CS dx (aD pK (.ref de) (aD iR (.ref dl) (aD "wares" (.ref g) []))))=H5 at vq Uk pC Bw UT ⊢;let#[es,hT,xC]:=id tab;have Tv:T≠v:=bX hT hv nofun;have LO:cg H5 T yX:=#[es,vq _ _ hT Tv,λe he=>vq _ _ (xC e he) (λz=>by have:=xC e he;rw[z,hv] at this;cases this)];let X1:=ug vq;apply#[_,Z,_,Z,g,p,d,hs,ts,qs,fp,f,Z,X1,W.wq,LO,λdp ad H6 b6 Au np hp ls fra=>?_];have mK:NT H5 H6:=b6.nt (vq _ _ hT Tv);let JD:=mK.ins Uk;have _u:dp≠v:=pC np;have av:∀h∈aF hs,ad h≠v:=λh hh=>pC (fra h hh);apply#[_,Z,v,CS,dx,_,Z,JD,TS.cl,TS.nP,by show 3<1000;decide,?_];apply k _ (λb o e n1 n2=>?_) ?_ #[dx,dl,de,dp,ad,au,(X1.G.nt mK).keep (λb hb o e=>?_) (λb xs e=>?_),?_,?_,?_,λh hh=>?_]
 ·rw[aA n1];exact b6 _ _ (vq b o e n1) n2
 ·let#[es,e1,e2]:=Au;exact#[es,by rw[aA (bX e1 JD nofun)];exact e1,λe he=>by rw[aA (λz=>by have:=e2 e he;rw[z,JD] at this;cases this)];exact e2 e he]
 ·rw[aA (λz:b=v=>yx (z▸hb))];exact e
 ·rw[aA (bX e JD nofun)];exact e
 ·rw[aA lv];exact mK.dK Bw
 ·rw[aA ev];exact mK.dK UT
 ·rw[aA _u];exact hp
 rw[aA (av h hh)];exact ls.1 h hh
theorem sI:bx ["self","one","other","web"] k8 (aX tq):=bE
inductive DJ (K:af) (CS CG CW:Addr) (vs:ag) (H:Hp) (Q:VK) (E:XK):Prop
 |mk:∀(v g p:Addr) (a b:Str) (hs:Xa) (ts:Xb) (qs:aI) (fp:ai) (f:aj),vs=[.ref v,.str a,.str b]->iQ K CS CG CW H v g p hs ts qs fp f->Wd hs ts qs f->a∈aF hs->b∈aF hs->Q (.int (pH hs qs f a b)) H->DJ K CS CG CW vs H Q E
theorem jY_{f0 CS CG CW:Addr}{fd:Ae}(F:bj K "lead" "Sight.lead" tq f0 fd)(TS:gE K CS)(TG:dM K CG)(TW:Txt K mg CW)(cS:!br CW 2 "strength" jF (D9 K CW)):!aq a9 3 f0 fd k8 (DJ K CS CG CW):=by
 exists F.bL sI;let#[v,g,p,a,b,hs,ts,qs,fp,f,rfl,S,W,ha,hb,k]:=h;let hu:=gD hr;refine' #[_,ax ?s1 (aH ?s2),?kk]
 case s1=>exact bq 3 sI.nd (dG (dG (pv 0) Z) Z)
 case s2=>exact bg (bN zO (bN qm (kq hu (dG (pv 0) Z) (pv 1)) (ft cS TW.cl hr (pv 3) %[2|0])) (bN qm (kq hu (dG (pv 0) Z) (pv 2)) (ft cS TW.cl hr (pv 3) %[1|0])))
 let#[dx,dl,dv,dp,ad,h1,G,h3,h4,h5,h6]:=S.ex;let#[gR,dw,dy,vs,bR,g1,g2,_]:=id G.ex;let#[eV,d1,l2,d3,ju,as,ef,w1,_]:=id g2.ex;have hV:(dg d1 l2 d3).lookup ("strength":Str)=none:=iM _ _ _ Z0 Z0 Z0;let la:=JC W.wq W.bS f a;let lb:=JC W.wq W.bS f b;apply#[_,Z,v,CS,dx,_,_,Z,h1,TS.cl,TS.nW,gQ _ _ _ _,g,CG,gR,_,_,Z,g1,TG.cl,TG.nW,kA _ _ _,?_];lk;apply#[_,Z,v,CS,dx,_,_,Z,h1,TS.cl,TS.nL,ET _ _ _ _,_,Z,dl,_,Z,B9 h3 ha,_,Z,p,eV,_,Z,w1,hV,_,Z,p,b,strOf hs b,hs,ts,bR,Z,g2,W.Gd.zt,zW ((iW hs).mem_iff.mp hb),?_];apply#[_,_,Z,Z,.inl #[by omega,by omega],?_];apply#[_,Z,v,CS,dx,_,_,Z,h1,TS.cl,TS.nL,ET _ _ _ _,_,Z,dl,_,Z,B9 h3 hb,_,Z,p,eV,_,Z,w1,hV,_,Z,p,a,strOf hs a,hs,ts,bR,Z,g2,W.Gd.zt,zW ((iW hs).mem_iff.mp ha),?_];exact#[_,_,Z,Z,.inl #[by omega,by omega],_,_,Z,Z,k]
theorem wW:bx k8 k8 (aX mw):=bE
inductive Kw (K:af) (CS CG CW:Addr) (vs:ag) (H:Hp) (Q:VK) (E:XK):Prop
 |mk:∀(v g p:Addr) (a b:Str) (hs:Xa) (ts:Xb) (qs:aI) (fp:ai) (f:aj),vs=[.ref v,.str a,.str b]->iQ K CS CG CW H v g p hs ts qs fp f->Wd hs ts qs f->a∈aF hs->b∈aF hs->Q (.int (lj hs a b)) H->Kw K CS CG CW vs H Q E
theorem jp_{f0 CS CG CW:Addr}{fd:Ae}(F:bj K "joint_strength" "Sight.joint_strength" mw f0 fd)(TS:gE K CS)(TG:dM K CG)(TW:Txt K mg CW)(cS:!br CW 2 "strength" jF (D9 K CW)):!aq a9 3 f0 fd k8 (Kw K CS CG CW):=by
 exists F.bL wW;let#[v,g,p,a,b,hs,ts,qs,fp,f,rfl,S,W,ha,hb,k]:=h;refine' #[_,aH ?s2,?kk]
 case s2=>exact bg (bN gX (ft cS TW.cl hr (dG (dG (pv 0) Z) Z) %[1|0]) (ft cS TW.cl hr (dG (dG (pv 0) Z) Z) %[2|0]))
 let#[dx,dl,dv,dp,ad,h1,G,h3,h4,h5,h6]:=S.ex;let#[gR,dw,dy,vs,bR,g1,g2,_]:=id G.ex;let#[eV,d1,l2,d3,ju,as,ef,w1,_]:=id g2.ex;have hV:(dg d1 l2 d3).lookup ("strength":Str)=none:=iM _ _ _ Z0 Z0 Z0;apply#[_,Z,v,CS,dx,_,_,Z,h1,TS.cl,TS.nW,gQ _ _ _ _,g,CG,gR,_,_,Z,g1,TG.cl,TG.nW,kA _ _ _,p,eV,_,Z,w1,hV,_,Z,p,a,strOf hs a,hs,ts,bR,Z,g2,W.Gd.zt,zW ((iW hs).mem_iff.mp ha),?_];apply#[_,Z,v,CS,dx,_,_,Z,h1,TS.cl,TS.nW,gQ _ _ _ _,g,CG,gR,_,_,Z,g1,TG.cl,TG.nW,kA _ _ _,p,eV,_,Z,w1,hV,_,Z,p,b,strOf hs b,hs,ts,bR,Z,g2,W.Gd.zt,zW ((iW hs).mem_iff.mp hb),?_];exact#[_,_,Z,Z,k]
end
end Ev
namespace Ev
open PySem L2
theorem pN(a b:Str):decide (V.str a=V.str b)=decide (a=b):=by
 by_cases z:a=b
 ·simp[z]
 have:¬(V.str a=V.str b):=λe=>z (V.str.inj e);simp[z,this]
abbrev nb(hs:Xa)(ts:Xb)(h:Str):ae:=near (aF hs) (aM ts) h
def kR(hs:Xa)(qs:aI)(f:aj)(n:Str):az:=[.inl (vH hs qs f n),.inr n]
def dO(hs:Xa)(ts:Xb)(qs:aI)(f:aj)(h:Str):ae:=(aZ ((nb hs ts h).map (kR hs qs f))).map jW
def FG(hs:Xa)(qs:aI)(f:aj):V->az
 |.str n=>kR hs qs f n
 |_=>[]
theorem lA_{hs:Xa}{ts:Xb}{qs:aI}{f:aj}{h:Str}{zs:ag}(p:zs.Perm ((nb hs ts h).map V.str))(e:zs.map (FG hs qs f)=aZ (((nb hs ts h).map V.str).map (FG hs qs f))):zs=(dO hs ts qs f h).map V.str:=by
 let#[ms,rfl,_]:=WN p;have e1:(ms.map V.str).map (FG hs qs f)=ms.map (kR hs qs f):=by rw[b_];rfl
 have e2:((nb hs ts h).map V.str).map (FG hs qs f)=(nb hs ts h).map (kR hs qs f):=by
  rw[b_];rfl
 rw[e1,e2] at e
 have em:(ms.map (kR hs qs f)).map jW=ms:=by
  rw[b_];exact List.map_id' ms
 unfold dO;rw[<- e,em]
theorem KP(hs:Xa)(ts:Xb)(qs:aI)(f:aj)(h:Str):(dO hs ts qs f h).Perm (nb hs ts h):=by
 unfold dO;let p:=(nO ((nb hs ts h).map (kR hs qs f))).map jW
 have e:((nb hs ts h).map (kR hs qs f)).map jW=nb hs ts h:=by
  rw[b_];exact List.map_id' _
 rw[e] at p;exact p
theorem Dz{hs:Xa}{ts:Xb}{h n:Str}(m:n∈nb hs ts h):n∈aF hs:=(List.mem_filter.mp m).1
theorem DN(hs:Xa)(ts:Xb)(h:Str):(nb hs ts h).length<=(aF hs).length:=List.length_filter_le ..
abbrev jw:Str:="Sight.rising_neighbours.<locals>.<lambda>"
def qe:Expr:=Tw (Mj (Fc (h_ vT) 0))
abbrev BL:ae:=gK
theorem GQ:∀y∈(j7 qe).names,y.2=.free->y.1∈BL:=by decide +kernel
theorem AN:Hr ["other"] BL (j7 qe):=#[by decide +kernel,Z,Z,Z,by decide +kernel,by decide +kernel,λx h=>GQ (x,.free) (qq h) Z,by decide +kernel]
section v
inductive oF (K:af) (CS CG CW:Addr) (vs:ag) (gs:ag) (H:Hp) (Q:VK):Prop
 |mk:∀(v g p:Addr) (n:Str) (hs:Xa) (ts:Xb) (qs:aI) (fp:ai) (f:aj),vs=[.str n]->gs=[.ref v]->iQ K CS CG CW H v g p hs ts qs fp f->n∈aF hs->(∀t,H t=none->Q (.ref t) (upd H t (.tup [.int (vH hs qs f n),.str n])))->oF K CS CG CW vs gs H Q
def AF(K:af)(CS CG CW:Addr):ag->ag->Hp->VK->XK->Prop:=λvs gs H Q _=>oF K CS CG CW vs gs H Q
theorem k8_{CS CG CW:Addr}(TS:gE K CS):!iZ 1 jw (FC qe) (FB qe) (j7 qe) ["other"] BL (AF K CS CG CW):=by
 apply zf AN (λpm c' kb cl us hl=>?_) (λA outer s H f0 cd cl vs gs Q E hr h hp=>?_)
 ·match us,hl with
  |[_],_=>rfl
 let#[v,g,p,n,hs,ts,qs,fp,f,rfl,rfl,S,hn,k]:=h;let hu:=gD hr;let#[dx,dl,dv,dp,ad,h1,G,h3,h4,h5,h6]:=S.ex;apply#[_,fB %[kq hu (dG (pv 1) Z) (pv 0),0|0],?_];exact#[_,Z,v,CS,dx,_,_,Z,h1,TS.cl,TS.nV,Me _ _ _ _,_,Z,dv,_,Z,B9 h4 hn,_,Z,zl,λt ht=>k t ht]
def Hq(L:Addr):List (Str × Addr):=[("self",L+1)]
theorem QI{L f:Addr}{cd:Aa}:closureFor (j7 qe) (PyProof.Rows.envOfC "Sight.rising_neighbours" (aX vT) L f cd)=pure (Hq L):=by rfl
theorem QM{L f:Addr}{cd:Aa}:∀q∈Hq L,(PyProof.Rows.envOfC "Sight.rising_neighbours" (aX vT) L f cd).cells.lookup q.1\q.2:=by
 intro q hq;simp only[Hq,cU,List.not_mem_nil,or_false] at hq;rcases hq with rfl;rfl
theorem MY{L:Addr}:∀x∈BL,∃c,(Hq L).lookup x\c:=by
 intro x hx;simp only[BL,cU,List.not_mem_nil,or_false] at hx;rcases hx with rfl;exact#[_,Z]
theorem MU:∀x∈BL,(aX vT).names.lookup x\.cell:=by decide +kernel
theorem AH:bx jF jF (aX vT):=bE
inductive GU (K:af) (CS CG CW T:Addr) (vs:ag) (H:Hp) (Q:VK) (E:XK):Prop
 |mk:∀(v g p:Addr) (h:Str) (hs:Xa) (ts:Xb) (qs:aI) (fp:ai) (f:aj),vs=[.ref v,.str h]->iQ K CS CG CW H v g p hs ts qs fp f->Wd hs ts qs f->h∈aF hs->cg H T jw->(∀l H',aP T H H'->cg H' T jw->H l=none->H' l\.lst ((dO hs ts qs f h).map V.str)->Q (.ref l) H')->GU K CS CG CW T vs H Q E
theorem kq_{f0 c0 CS CG CW T:Addr}{fd:Ae}(F:kQ K BN "Sight.rising_neighbours" vT f0 c0 fd)(B:Bi mg)(TS:gE K CS)(TG:dM K CG)(TW:Txt K mg CW)(hC:PySem.W.CodeHd base c0 T)(uz:base.BuiltinsAt mg T)(cN:!br CW 2 "neighbours" jF (KL K CW)) :
  aq P w K mg base a9 4 f0 fd jF (GU K CS CG CW T):=by
 apply F.ok AH (λvs H Q E h=>?_) (λA outer s H vs Q E hr h=>?_)
 ·let#[v,g,p,h,hs,ts,qs,fp,f,rfl,_]:=h;rfl
 let#[v,g,p,h,hs,ts,qs,fp,f,rfl,S,W,hh,tab,k]:=h;have uo:bf 2 _:=hr.mono (by decide);refine' ⟨_,aH (bg ?l2),?kk⟩
 case l2=>exact VI (px:="other") (dc:=BL) (cl:=Hq s.heap.objs.size) (is:=[0]) (k:=1) Z (by rfl) B.sorted %[ft cN TW.cl uo (dG (dG (pv 0) Z) Z) %[1|0]|0] (U5 (T3 (P:=T) (c:=c0) Z QI Z hC uz) TM) (k8_ (CG:=CG) (CW:=CW) TS) hr QM MY MU Z
 let#[dx,dl,dv,dp,ad,h1,G,h3,h4,h5,h6]:=S.ex;let#[gR,dw,dy,vs,bR,g1,g2,_]:=id G.ex;let#[eV,d1,l2,d3,ju,as,ef,w1,_]:=id g2.ex;have hV:(dg d1 l2 d3).lookup ("neighbours":Str)=none:=iM _ _ _ Z0 Z0 Z0;apply#[_,Z,v,CS,dx,_,_,Z,h1,TS.cl,TS.nW,gQ _ _ _ _,g,CG,gR,_,_,Z,g1,TG.cl,TG.nW,kA _ _ _,p,eV,_,Z,w1,hV,_,Z,p,h,hs,ts,bR,Z,g2,W.Gd.uc,(iW hs).mem_iff.mp hh,λln nn=>?_];let#[s1,e1]:=bp (o:=.lst ((nb hs ts h).map V.str)) nn;show lF _ (upd H ln (.lst ((nb hs ts h).map V.str))) _;generalize upd H ln (.lst ((nb hs ts h).map V.str))=H1 at s1 e1 ⊢;apply Fp (zR ?_);apply TQ (tab.same s1) Z Z Z Z λfl c' H4 b4 fO xx Dp=>?_;let#[tv,hT]:=gc tab;have gg:NT H1 H4:=b4.nt (s1 _ _ hT);let S4:=(S.same s1).nt gg;have n8:(nb hs ts h).length<=8:=by have:=DN hs ts h;have:=W.Gd.fP;have:=W.Gd.h8;omega
 apply#[.ref ln,fl,c',(nb hs ts h).map V.str,FG hs qs f,[false,true],[.ref v],Z,Z,xx,Dp,.inl #[ln,Z,.of (gg.lst e1)],by rw[ay];omega,#[by decide,λk hk=>?_],Z,λH' x sm hx=>?_,λl zs H5 s5 nl C4 pz ek=>?_]
 ·let#[v,hv,rfl]:=bG.mp hk;let#[n,_,rfl]:=bG.mp hv;rfl
 ·let#[n,hn,rfl]:=bG.mp hx;apply#[v,g,p,n,hs,ts,qs,fp,f,Z,Z,S4.same sm,Dz hn,λt nt=>#[aa.new nt,t,Z,?_]];rw[au];rfl
 rw[lA_ pz ek];have s6:aa H4 (upd H5 l (.lst ((dO hs ts qs f h).map V.str))):=s5.trans (aa.new nl);apply k l _ (λb o e n=>s6 _ _ (b4 _ _ (s1 _ _ e) n)) (fO.same s6) ?_ au;cases z:H l with
 |none=>rfl
 |some o=>
  by_cases y:l=T
  ·let#[es,e,_]:=fO;rw[y,e] at C4;cases C4
  rw[b4 _ _ (s1 _ _ z) y] at C4;cases C4
theorem AR:bx pU pU (aX tH):=bE
def xH(g:Str)(a b:Int):Bool:=if g="high" then decide (0<a) else if g="fall" then decide (b<2 * a) else decide (b<=a)
def r9:Sp:=λvs H Q _=>∃(g:Str) (a b:Int),vs=[.str g,.int a,.int b]/\Q (.bl (xH g a b)) H
theorem ki_{f0:Addr}{fd:Ae}(F:bj K "fits" "fits" tH f0 fd):!aq a9 1 f0 fd pU r9:=by
 exists F.bL AR;let#[g,a,b,rfl,k]:=h;refine' #[_,ax ?s1 (ax ?s2 (aH ?s3)),?kk]
 case s1=>exact bO (dj iy (pv 0) dI) (aH (bg (qp B6 (pv 1) aC))) bP
 case s2=>exact bO (dj iy (pv 0) dI) (aH (bg (qp B6 (bN qm aC (pv 1)) (pv 2)))) bP
 case s3=>exact bg (qp Tt (pv 1) (pv 2))
 unfold xH at k;apply#[_,Z,Z,_,Z,?_];rw[pN];apply aN (λc=>?_) (λc=>?_)
 ·have c:g="high":=xY c;rw[aJ c] at k;exact#[_,Z,_,_,Z,Z,k]
 have c:¬g="high":=λz=>c (cb z);rw[aB c] at k;apply#[_,Z,Z,_,Z,?_];rw[pN];apply aN (λc=>?_) (λc=>?_)
 ·have c:g="fall":=xY c;rw[aJ c] at k;exact#[_,Z,_,_,Z,Z,.inl #[by decide,by decide],_,Z,_,_,Z,Z,k]
 have c:¬g="fall":=λz=>c (cb z);rw[aB c] at k;exact#[_,Z,_,Z,_,_,Z,Z,k]
end
end Ev
namespace Ev
open PySem L2
abbrev Mv:=Str × Str × Str
def kM(m:Mv):az:=[.inr m.1,.inr m.2.1,.inr m.2.2]
def Lz(qs:aI)(n:Str):Option (Xb):=match qs.find? λq=>decide (q.1=n) with
 |some q=>q.2.2
 |none=>none
theorem Ti{qs:aI}(nd:(qs.map (·.1)).Nodup){q:Pc}(h:q∈qs):Lz qs q.1=q.2.2:=by
 unfold Lz;cases e:qs.find? λp=>decide (p.1=q.1) with
 |none=>
  have:=List.find?_eq_none.mp e q h;simp at this
 |some p=>
  let a:=List.mem_of_find?_eq_some e;let b:=List.find?_some e;have b:p.1=q.1:=xY b;rw[WK nd a h b]
def qb(hs:Xa)(ts:Xb)(qs:aI)(n a b:Str):Bool:=Dx hs ts (Lz qs n) (some a) (some b)
def xq(hs:Xa)(ts:Xb)(qs:aI)(f:aj)(gd:Str)(gv:ae)(a b n:Str):Bool:=!decide (n∈gv)&&(xH gd (pH hs qs f a b) (vp qs n * lj hs a b)&&qb hs ts qs n a b)
def mR(hs:Xa)(ts:Xb)(qs:aI)(f:aj)(gd:Str)(gv:ae)(a b:Str):List Mv:=match (fG qs f a).find? (xq hs ts qs f gd gv a b) with
 |some n=>[(n,a,b)]
 |none=>[]
theorem Ua{α:Type}{p:α->Bool}:∀{l:List α} {i:Nat} {x:α},l[i]? = some x->p x=true->(∀y∈l.take i,p y=false)->l.find? p\x
 |a::l,0,x,h,hp,_=>by
  cases h;rw[List.find?_cons_of_pos hp]
 |a::l,i+1,x,h,hp,hn=>by
  have na:¬p a=true:=by rw[hn a Z2];decide
  rw[List.find?_cons_of_neg na];exact Ua ⇑h hp λy hy=>hn y (by simp[hy])
 |[],i,x,h,_,_=>by simp at h
theorem Kt{qs:aI}{f:aj}{h n:Str}(m:n∈fG qs f h):n∈qs.map (·.1)/\f n=h:=by
 let#[a,b]:=List.mem_filter.mp m;exact#[(La qs).mem_iff.mp a,xY b]
section v
theorem oK:bx ["sight","one","other","guard","given","lead","joint","piece"] kE (aX AY):=bE
inductive jT (K:af) (CS CG CW:Addr) (vs:ag) (H:Hp) (Q:VK) (E:XK):Prop
 |mk:∀(v g p lg:Addr) (a b gd:Str) (gv:ae) (hs:Xa) (ts:Xb) (qs:aI) (fp:ai) (f:aj),vs=[.ref v,.str a,.str b,.str gd,.ref lg]->iQ K CS CG CW H v g p hs ts qs fp f->Wd hs ts qs f->a∈aF hs->b∈aF hs->H lg\.lst (gv.map V.str)->(∀l ys H',aa H H'->H l=none->H' l\.lst ys->bC K H' ys ((mR hs ts qs f gd gv a b).map kM)->Q (.ref l) H')->jT K CS CG CW vs H Q E
theorem lt_{f0 CS CG CW CP:Addr}{fd:Ae}(F:bj K "heaviest_move" "heaviest_move" AY f0 fd)(TS:gE K CS)(TG:dM K CG)(cL:!br CS 3 "lead" k8 (DJ K CS CG CW))(cJ:!br CS 3 "joint_strength" k8 (Kw K CS CG CW))(cF:!aY 1 "fits" pU r9)(cW:!br CG 2 "weight" zJ (Cu K CG CW CP))(cM:!br CG 3 "may_go" pW (Ki K CG CW CP)) :
  aq P w K mg base a9 4 f0 fd kE (jT K CS CG CW):=by
 exists F.bL oK;let#[v,g,p,lg,a,b,gd,gv,hs,ts,qs,fp,f,rfl,S,W,ha,hb,hg,k]:=h;let hu:=gD hr;let sz:=cn;have uo:bf 2 _:=hr.mono (by decide);refine' #[_,?r0,?kk]
 case' r0=>refine' ax ?s1 ?r1
 case' r1=>refine' ax ?s2 ?r2
 case' r2=>refine' ax ?s3 (aH ?s4)
 case s1=>exact bq 5 oK.nd (ft cL TS.cl hr (pv 0) %[1,2|0])
 case s2=>exact bq 6 oK.nd (ft cJ TS.cl hr (pv 0) %[1,2|0])
 case' s3=>refine' eX eM Z (d5 (kq hu (dG (pv 0) Z) (pv 1))) (cO 7 oK.nd) (aH ?b3)
 case' b3=>refine' bO (PW.pt (zQ ?c1 (Cj ?c2))) (aH ?b4) bP
 case c1=>exact dj (Wz hZ (nC hr 0)) (pv 7) (pv 4) (by with_unfolding_all rfl)
 case c2=>exact eK (aQ cF hr %[3,5,bN qm (ft cW TG.cl uo (dG (pv 0) Z) %[7|0]) (pv 6)|0])
 case b4=>exact bO (eK (ft cM TG.cl hr (dG (pv 0) Z) %[7,1,2|0])) (aH (bg (eB %[fB %[7,1,2|0]|0]))) bP
 case s4=>exact bg (eB bh)
 let#[dx,dl,dv,dp,ad,h1,G,h3,h4,h5,h6]:=S.ex;have no:∀{m:Str},¬m="wares"->¬m=iR->¬m=pK->¬m=B7->(d8 g dl dv dp).lookup m=none:=λa b c d=>Dw _ _ _ _ a b c d;apply#[_,Z,v,dx,_,Z,h1,no Z0 Z0 Z0 Z0,_,Z,_,Z,v,g,p,a,b,hs,ts,qs,fp,f,Z,S,W,ha,hb,?_];lk;apply#[_,Z,v,dx,_,Z,h1,no Z0 Z0 Z0 Z0,_,Z,_,Z,v,g,p,a,b,hs,ts,qs,fp,f,Z,S,W,ha,hb,?_];lk;let hl:=h6 a ha;apply#[_,Z,v,CS,dx,_,_,Z,h1,TS.cl,TS.nP,ER _ _ _ _,_,Z,dp,_,Z,B9 h5 ha,ad a,Z,#[_,.of hl],ie (K:=K) (a:=ad a) (xs:=(fG qs f a).map V.str) (λi σ H'=>∃v7:aL,σ=[some (.ref v),some (.str a),some (.str b),some (.str gd),some (.ref lg),some (.int (pH hs qs f a b)),some (.int (lj hs a b)),v7]/\aa H H'/\∀n∈(fG qs f a).take i,xq hs ts qs f gd gv a b n=false) #[none,Z,aa.refl H,by simp] (λi σ H' _ ⟨_,_,sm,_⟩=>.of (sm _ _ hl)) ?_ ?_]
 ·rintro i x σ H' hx ⟨v7,rfl,sm,nf⟩;let#[n,hn,rfl]:=iT hx;let#[nm,fn]:=Kt (dA hn);let#[q,hq,rfl]:=bG.mp nm;let G':=G.same sm;let iw:=sm _ _ h1;let#[gR,dw,dy,vs,bR,g1,g2,_]:=id G'.ex;have Nl:(bY p dw dy).lookup ("weight":Str)=none:=uZ _ _ _ Z0 Z0 Z0;have NI:(bY p dw dy).lookup ("may_go":Str)=none:=uZ _ _ _ Z0 Z0 Z0;let wq:=W.wq q hq;let ew:=M_ W.nd hq;let ey:=Ti W.nd hq
  have go:∀{H2:Hp},aa H' H2->xq hs ts qs f gd gv a b q.1=false->∃v7:aL,[some (V.ref v),some (V.str a),some (V.str b),some (V.str gd),some (V.ref lg),some (V.int (pH hs qs f a b)),some (V.int (lj hs a b)),some (V.str q.1)]=[some (V.ref v),some (V.str a),some (V.str b),some (V.str gd),some (V.ref lg),some (V.int (pH hs qs f a b)),some (V.int (lj hs a b)),v7]/\aa H H2/\∀n∈(fG qs f a).take (i+1),xq hs ts qs f gd gv a b n=false:=λ{H2} s2 e=>#[_,Z,sm.trans s2,λm hm=>by
   rw[iC hn] at hm;rcases fL.mp hm with hm|hm
   ·exact nf m hm
   rw[List.mem_singleton.mp hm];exact e]
  lk;apply#[_,Z,_,Z,q.1,gv,Z,#[lg,_,Z,.of (sm _ _ hg),Iq gv],_,Z,?_];rw[aJ Z];apply aN (λc=>?_) (λc=>?_)
  ·have c:¬q.1∈gv:=⇑c
   apply#[_,Z,_,Z,_,Z,v,CS,dx,_,_,Z,iw,TS.cl,TS.nW,gQ _ _ _ _,g,gR,_,Z,g1,Nl,_,Z,g,p,.str q.1,some q.1,hs,ts,qs,fp,Z,G',W.nd,Z,.inl #[q,hq,Z,?_]];apply#[_,Z,_,_,Z,Z,.inl #[by omega,by omega],gd,pH hs qs f a b,q.2.1 * lj hs a b,Z,_,Z,?_];apply aN (λc2=>?_) (λc2=>?_)
   ·apply#[_,Z,v,CS,dx,_,_,Z,iw,TS.cl,TS.nW,gQ _ _ _ _,g,gR,_,Z,g1,NI,_,Z,_,Z,_,Z,g,p,.str q.1,.str a,.str b,some q.1,some a,some b,hs,ts,qs,fp,Z,G',W.nd,W.Gd.uc,Z,.inl #[q,hq,Z,Z,Z,λH2 s2=>#[_,Z,?_]]];apply aN (λc3=>?_) (λc3=>?_)
    ·have pt:xq hs ts qs f gd gv a b q.1=true:=by
      unfold xq qb;rw[ew,ey,c2,dH c];simpa using c3
     apply#[_,Z,_,Z,_,Z,zl,λt nt=>?_];let#[s3,e3]:=bp (o:=.tup [.str q.1,.str a,.str b]) nt;generalize upd H2 t (.tup [.str q.1,.str a,.str b])=H3 at s3 e3 ⊢;apply#[zl,λl nl=>?_];let s4:=aa.new (o:=.lst [.ref t]) nl;let EY:=(sm.trans s2).trans s3;apply k l [.ref t] _ (EY.trans s4) (EY.free nl) au ?_;unfold mR;rw[Ua hn pt nf];exact .cons #[t,Z,s4 _ _ e3] .nil
    apply go s2 ?_;unfold xq qb;rw[ew,ey,c2];have c3:Dx hs ts q.2.2 (some a) (some b)=false:=⇑c3
    rw[c3,Bool.and_false,Bool.and_false]
   apply go (aa.refl H') ?_;unfold xq;rw[ew,show xH gd (pH hs qs f a b) (q.2.1 * lj hs a b)=false by simpa using c2,Bool.false_and,Bool.and_false]
  have c:q.1∈gv:=⇑c
  apply go (aa.refl H') ?_;unfold xq;rw[cb c];rfl
 rintro σ H' ⟨v7,rfl,sm,nf⟩;rw[ay,eN] at nf;apply#[zl,λl nl=>?_];apply k l [] _ (sm.trans (aa.new nl)) (sm.free nl) au ?_;unfold mR;rw[List.find?_eq_none.mpr λn hn=>by rw[nf n hn];decide];exact .nil
def Cz(hs:Xa)(ts:Xb)(qs:aI)(f:aj)(gd h:Str):List Mv:=match dO hs ts qs f h with
 |[]=>[]
 |o::_=>mR hs ts qs f gd [] h o
theorem V_:bx ["sight","hand","guard","around"] DD (aX P2):=bE
inductive jS (K:af) (CS CG CW T:Addr) (mv:Xa->Xb->aI->(Str->Str)->Str->Str->List Mv) (vs:ag) (H:Hp) (Q:VK) (E:XK):Prop
 |mk:∀(v g p:Addr) (h gd:Str) (hs:Xa) (ts:Xb) (qs:aI) (fp:ai) (f:aj),vs=[.ref v,.str h,.str gd]->iQ K CS CG CW H v g p hs ts qs fp f->Wd hs ts qs f->h∈aF hs->cg H T jw->(∀l ys H',aP T H H'->cg H' T jw->H l=none->H' l\.lst ys->bC K H' ys ((mv hs ts qs f gd h).map kM)->Q (.ref l) H')->jS K CS CG CW T mv vs H Q E
theorem aP.new{T l:Addr}{H G:Hp}(b:aP T H G)(hT:∃vs,G T\.tbl vs)(n:G l=none):H l=none:=by
 cases z:H l with
 |none=>rfl
 |some o=>
  by_cases y:l=T
  ·let#[vs,e]:=hT;rw[y,e] at n;cases n
  rw[b _ _ z y] at n;cases n
theorem gp_{f0 CS CG CW T:Addr}{fd:Ae}(F:bj K "moves_by_least" "moves_by_least" P2 f0 fd)(TS:gE K CS)(cR:!br CS 4 BN jF (GU K CS CG CW T))(cH:!aY 4 "heaviest_move" kE (jT K CS CG CW)):!aq a9 5 f0 fd DD (jS K CS CG CW T Cz):=by
 exists F.bL V_;let#[v,g,p,h,gd,hs,ts,qs,fp,f,rfl,S,W,hh,tab,k]:=h;refine' #[_,ax ?s1 (ax ?s2 (aH ?s3)),?kk]
 case s1=>exact bq 3 V_.nd (ft cR TS.cl hr (pv 0) %[1|0])
 case s2=>exact bO (dj (TK hZ (nC hr 0)) (pv 3) (eB bh)) (aH (bg (eB bh))) bP
 case s3=>exact bg (aQ cH hr %[0,1,bM gL (pv 3) aC,2,eB bh|0])
 let#[dx,dl,dv,dp,ad,h1,G,h3,h4,h5,h6]:=S.ex;apply#[_,Z,v,dx,_,Z,h1,Dw _ _ _ _ Z0 Z0 Z0 Z0,_,Z,v,g,p,h,hs,ts,qs,fp,f,Z,S,W,hh,tab,λl1 H1 b1 wB n1 e1=>?_];lk;let#[tv,hT]:=gc tab;let S1:=S.nt (b1.nt hT);apply#[_,Z,zl,λl2 n2=>?_];let#[s2,e2]:=bp (o:=.lst []) n2;generalize upd H1 l2 (.lst [])=H2 at s2 e2 ⊢;let PL:=s2 _ _ e1;have b2:aP T H H2:=λb o e n=>s2 _ _ (b1 _ _ e n);let lE:=wB.same s2;let E9:=KP hs ts qs f h;apply#[dO hs ts qs f h,[],Wc PL,Wc e2,_,Z,?_];cases z:dO hs ts qs f h with
 |nil=>
  apply dD #[zl,λl3 n3=>?_];let s3:=aa.new (o:=.lst []) n3;apply k l3 [] _ (λb o e n=>s3 _ _ (b2 _ _ e n)) (lE.same s3) (aP.new b2 (gc lE) n3) au ?_;unfold Cz;rw[z];exact .nil
 |cons o r=>
  rw[dH Z2];apply a_ ?_;rw[z] at PL E9;have ob:o∈aF hs:=Dz (E9.mem_iff.mp fM);apply#[_,Z,_,Z,_,Z,l1,_,0,.str o,Z,Z,.of PL,L2.gC (j:=0) Z,_,Z,zl,λl3 n3=>?_];let#[s3,e3]:=bp (o:=.lst []) n3;generalize upd H2 l3 (.lst [])=H3 at s3 e3 ⊢;apply#[v,g,p,l3,h,o,gd,[],hs,ts,qs,fp,f,Z,(S1.same s2).same s3,W,hh,ob,e3,λl ys H4 s4 nl hl tu=>?_];let qx:=s3.trans s4;apply k l ys H4 (λb o e n=>qx _ _ (b2 _ _ e n)) (lE.same qx) (aP.new b2 (gc lE) (s3.free nl)) hl ?_;unfold Cz;rw[z];exact tu
end
end Ev
abbrev ib:=List Ev.Mv
namespace Ev
open PySem L2
abbrev Am:=Rl->Xa->Xb->aI->(Str->Str)->Str->ib
def Hk(mv:Am)(r:Rl)(hs:Xa)(ts:Xb)(qs:aI)(f:aj):ib:=if r.2.2.1="one" then ((aF hs).flatMap (mv r hs ts qs f)).take 1 else (aF hs).flatMap (mv r hs ts qs f)
def zP:Am:=λr hs ts qs f h=>Cz hs ts qs f (r.2.2.2.getD "") h
theorem Ub:∀r∈rl,r.2.1≠"shares"->r.2.2.2.isSome=true:=by decide +kernel
theorem Cs(hs:Xa)(ts:Xb)(qs:aI)(f:aj)(gd:Str)(gv:ae)(a b:Str):(mR hs ts qs f gd gv a b).length<=1:=by
 unfold mR;split
 ·exact bo 1
 exact gM 1
theorem i0_(r:Rl)(hs:Xa)(ts:Xb)(qs:aI)(f:aj)(h:Str):(zP r hs ts qs f h).length<=1:=by
 unfold zP Cz;split
 ·exact gM 1
 exact Cs ..
theorem V1{α:Type}{g:Str->List α}{n:Nat}(h:∀x,(g x).length<=n):∀l:ae,(l.flatMap g).length<=n * l.length
 |[]=>by simp
 |a::l=>by
  have:=h a;let ih:=V1 h l;rw[List.flatMap_cons,fA,kB,Nat.mul_succ];omega
section v
theorem Qm:bx vW vW (aX H_):=bE
inductive we (K:af) (CS CG CW T:Addr) (pr:Rl->Prop) (mv:Am) (vs:ag) (H:Hp) (Q:VK) (E:XK):Prop
 |mk:∀(v g p aw:Addr) (h:Str) (hs:Xa) (ts:Xb) (qs:aI) (fp:ai) (f:aj),∀r∈rl,vs=[.ref v,.str h,.ref aw]->pr r->(∀H',fN K H' aw [.str r.2.1,.str r.2.2.1,tU r.2.2.2])->iQ K CS CG CW H v g p hs ts qs fp f->Wd hs ts qs f->h∈aF hs->cg H T jw->(∀l ys H',aP T H H'->cg H' T jw->H l=none->H' l\.lst ys->bC K H' ys ((mv r hs ts qs f h).map kM)->Q (.ref l) H')->we K CS CG CW T pr mv vs H Q E
theorem fY_{f0 CS CG CW T:Addr}{fd:Ae}(F:bj K "moves_from" "moves_from" H_ f0 fd)(cL:!aY 5 "moves_by_least" DD (jS K CS CG CW T Cz)):!aq a9 6 f0 fd vW (we K CS CG CW T (λr=>r.2.1="least") zP):=by
 exists F.bL Qm;let#[v,g,p,aw,h,hs,ts,qs,fp,f,r,cc,rfl,le,ha,S,W,hh,tab,k]:=h;refine' #[_,ax ?s1 eD,?kk]
 case s1=>exact bO (dj iy (bM dz (pv 2) aC) dI) (aH (bg (aQ cL hr %[0,1,bM dz (pv 2) aC|0]))) bP
 let so:=Ub r cc (by rw[le];decide +kernel);let#[gd,eg]:=CC.mp so;apply#[_,Z,aw,_,_,_,Z,Z,ha _,Z,Z,_,Z,?_];rw[pN,cb le];apply dD ?_;apply#[_,Z,_,Z,_,Z,aw,_,_,.str gd,Z,Z,ha _,?_,v,g,p,h,gd,hs,ts,qs,fp,f,Z,S,W,hh,tab,λl ys H' b t n e tu=>k l ys H' b t n e ?_]
 ·rw[eg];rfl
 unfold zP;rw[eg];exact tu
theorem J7:bx ["sight","rule","moment","words","moves","hand"] vV (aX jX):=bE
inductive lJ (K:af) (CS CG CW T:Addr) (pr:Rl->Prop) (mv:Am) (vs:ag) (H:Hp) (Q:VK) (E:XK):Prop
 |mk:∀(v g p:Addr) (m:Int) (hs:Xa) (ts:Xb) (qs:aI) (fp:ai) (f:aj),∀r∈rl,vs=[.ref v,.str r.1,.int m]->pr r->iQ K CS CG CW H v g p hs ts qs fp f->Wd hs ts qs f->cg H T jw->(∀l ys H',aP T H H'->cg H' T jw->H l=none->H' l\.lst ys->bC K H' ys ((Hk mv r hs ts qs f).map kM)->Q (.ref l) H')->lJ K CS CG CW T pr mv vs H Q E
theorem kU_{f0 CS CG CW T:Addr}{fd:Ae}{pr:Rl->Prop}{mv:Am}(F:bj K "moves_seen" "moves_seen" jX f0 fd)(TS:gE K CS)(TG:dM K CG)(TW:Txt K mg CW)(_T:∀r,pr r->r.2.1≠"turns")(hb:∀r hs ts qs f h,Wd hs ts qs f->(mv r hs ts qs f h).length<=1000)(xZ:!aY 2 BU ["rule"] (Io K))(cH:!br CW 1 "hands" gK (DS K CW))(cF:!aY 6 "moves_from" vW (we K CS CG CW T pr mv)) :
  aq P w K mg base a9 7 f0 fd vV (lJ K CS CG CW T pr mv):=by
 exists F.bL J7;let#[v,g,p,m,hs,ts,qs,fp,f,r,cc,rfl,hp,S,W,tab,k]:=h;let sz:=cn;have iH:bf 1 _:=hr.mono (by decide);refine' #[_,?r0,?kk]
 case' r0=>refine' ax ?s1 ?r1
 case' r1=>refine' ax ?s2 ?r2
 case' r2=>refine' ax ?s3 ?r3
 case' r3=>refine' ax ?s4 (aH ?s5)
 case s1=>exact bq 3 J7.nd (aQ xZ hr %[1|0])
 case s2=>exact bO (dj iy (bM dz (pv 3) aC) dI) eD bP
 case s3=>exact bq 4 J7.nd (eB bh)
 case' s4=>refine' eX eM Z (d5 (uW cH TW.cl iH (dG (dG (pv 0) Z) Z))) (cO 5 J7.nd) (ax ?b1 (aH ?b2))
 case b1=>exact jH (km k7 DV DW D0 (pv 4) %[aQ cF hr %[0,5,3|0]|0])
 case b2=>exact bO (PW.pt (zQ (dj iy (bM dz (pv 3) aC) dI) (Cj (dj (VD (nC hr 0)) (pv 4) (eB bh))))) (aH (bg (uY yf (pv 4) uU (uV aC)))) bP
 case s5=>exact bg (pv 4)
 apply#[_,Z,r,cc,Z,λaw ha=>?_];lk;apply#[_,Z,aw,_,_,_,Z,Z,ha _,Z,Z,_,Z,?_];rw[pN,dH (_T r hp)];apply a_ ?_;apply#[zl,λlm nm=>?_];lk;let#[s1,e1]:=bp (o:=.lst []) nm;generalize upd H lm (.lst [])=H1 at s1 e1 ⊢;let#[dx,dl,dv,dp,ad,h1,G,h3,h4,h5,h6]:=(S.same s1).ex;let#[gR,dw,dy,vs,bR,g1,g2,_]:=id G.ex;let#[eV,d1,l2,d3,ju,as,ef,w1,_]:=id g2.ex;have hV:(dg d1 l2 d3).lookup ("hands":Str)=none:=iM _ _ _ Z0 Z0 Z0;apply#[_,Z,v,CS,dx,_,_,Z,h1,TS.cl,TS.nW,gQ _ _ _ _,g,CG,gR,_,_,Z,g1,TG.cl,TG.nW,kA _ _ _,p,eV,_,Z,w1,hV,p,hs,ts,bR,Z,g2,λlh nh=>?_];let#[s2,e2]:=bp (o:=.lst ((aF hs).map V.str)) nh;generalize upd H1 lh (.lst ((aF hs).map V.str))=H2 at s2 e2 ⊢;have lmh:lm≠lh:=bw e1 nh;let iq:=s1.trans s2;let#[tv,hT]:=gc tab;have neT:∀{b:Addr} {xs:ag},H2 b\.lst xs->b≠T:=λe z=>by rw[z,iq _ _ hT] at e;cases e
 have n8:(aF hs).length<=8:=by have:=W.Gd.fP;have:=W.Gd.h8;omega
 have bound:∀i,(((aF hs).take i).flatMap (mv r hs ts qs f)).length<=8000:=λi=>by
  have:=V1 (g:=mv r hs ts qs f) (n:=1000) (λx=>hb r hs ts qs f x W) ((aF hs).take i);rw[dJ] at this;omega
 apply#[lh,Z,#[_,.of e2],ie (K:=K) (a:=lh) (xs:=(aF hs).map V.str) (λi σ H'=>∃(v5:aL) (ys:ag),σ=[some (.ref v),some (.str r.1),some (.int m),some (.ref aw),some (.ref lm),v5]/\aP T H H'/\cg H' T jw/\H' lh\.lst ((aF hs).map V.str)/\H' lm\.lst ys/\bC K H' ys ((((aF hs).take i).flatMap (mv r hs ts qs f)).map kM)/\(r.2.2.1="one"->((aF hs).take i).flatMap (mv r hs ts qs f)=[])) #[none,[],Z,λb o e n=>iq _ _ e,tab.same iq,e2,s2 _ _ e1,.nil,λ_=>rfl] (λi σ H' _ ⟨_,_,_,_,_,z,_⟩=>.of z) ?_ ?_]
 ·rintro i x σ H' hx ⟨v5,ys,rfl,bT,jP,qg,uu,tu,one⟩;let#[n,hn,rfl]:=iT hx;let MD:=dA hn;lk;let S':=S.nt (bT.nt hT);apply#[_,Z,.inl #[Z,_,.of uu],_,Z,_,Z,_,Z,v,g,p,aw,n,hs,ts,qs,fp,f,r,cc,Z,hp,ha,S',W,MD,jP,λl zs H3 b3 gj nl hl tz=>?_];let#[tv',Dt]:=gc jP;let j5:=b3.nt Dt;let xu:=j5.lst uu;let CM:=bC.nt tu j5;have lT:l≠T:=λz=>by rw[z,Dt] at nl;cases nl
  have C6:lm≠l:=bw uu nl;let IK:=bound i;let ly:=bH tu;let lz:=bH tz;rw[ay] at ly lz;let bz:=hb r hs ts qs f n W;apply#[lm,l,ys,zs,Z,Z,xu,hl,by omega,?_];have e4:upd H3 lm (.lst (ys++zs)) lm\.lst (ys++zs):=au
  have b4:aP T H (upd H3 lm (.lst (ys++zs))):=λb o e ne=>by
   rw[aA (bw e nm)];exact b3 _ _ (bT _ _ e ne) ne
  have fO:cg (upd H3 lm (.lst (ys++zs))) T jw:=cg.putL gj xu
  have Bv:upd H3 lm (.lst (ys++zs)) lh\.lst ((aF hs).map V.str):=by
   rw[aA lmh.symm];exact j5.lst qg
  have fl:((aF hs).take (i+1)).flatMap (mv r hs ts qs f)=((aF hs).take i).flatMap (mv r hs ts qs f)++mv r hs ts qs f n:=by
   rw[iC hn,List.flatMap_append,List.flatMap_cons,List.flatMap_nil,Al]
  have vt:bC K (upd H3 lm (.lst (ys++zs))) (ys++zs) ((((aF hs).take (i+1)).flatMap (mv r hs ts qs f)).map kM):=by
   rw[fl,cu];exact jG (iX CM xu) (iX tz xu)
  generalize upd H3 lm (.lst (ys++zs))=H4 at e4 b4 fO Bv vt ⊢;dsimp only;apply#[_,Z,aw,_,_,_,Z,Z,ha _,Z,Z,_,Z,?_];rw[pN];apply aN (λc=>?_) (λc=>?_)
  ·have c:r.2.2.1="one":=xY c;apply#[_,Z,zl,λle ne=>?_];let#[s5,e5]:=bp (o:=.lst []) ne;generalize upd H4 le (.lst [])=H5 at s5 e5 ⊢;apply#[lm,le,ys++zs,Z,Z,.of (s5 _ _ e4),.of e5,_,Z,?_];let ll:=bH vt;rw[ay] at ll;apply aN (λc2=>?_) (λc2=>?_)
   ·apply#[_,Z,_,Z,lm,_,Z,.of (s5 _ _ e4),λlq nq=>?_];rw[show dS (ys++zs) none (some 1)=(ys++zs).take 1 from IE (ys++zs) 1];let s6:=aa.new (o:=.lst ((ys++zs).take 1)) nq;let oR:=s5.trans s6;have b6:aP T H (upd H5 lq (.lst ((ys++zs).take 1))):=λb o e n=>oR _ _ (b4 _ _ e n);apply k lq _ _ b6 (fO.same oR) (aP.new (T:=T) (G:=H5) (λb o e n=>s5 _ _ (b4 _ _ e n)) (gc (fO.same s5)) nq) au ?_;unfold Hk;rw[aJ c]
    have nz:((aF hs).take (i+1)).flatMap (mv r hs ts qs f)≠[]:=λz=>by
     rw[z,qP] at ll;have y:ys++zs=[]:=Eb.mp ll;rw[y] at c2;simp at c2
    have e7:((aF hs).flatMap (mv r hs ts qs f)).take 1=(((aF hs).take (i+1)).flatMap (mv r hs ts qs f)).take 1:=by
     conv=>lhs;rw[<- List.take_append_drop (i+1) (aF hs),List.flatMap_append]
     cases z:((aF hs).take (i+1)).flatMap (mv r hs ts qs f) with
     |nil=>exact absurd z nz
     |cons a b=>rfl
    rw[e7,List.map_take];exact Lf 1 (vt.same oR)
   have z:ys++zs=[]:=⇑c2
   apply#[_,_,Z,λb o e n=>s5 _ _ (b4 _ _ e n),fO.same s5,s5 _ _ Bv,s5 _ _ e4,vt.same s5,λ_=>?_];rw[z,qP] at ll;exact Eb.mp ll.symm
  apply#[_,_,Z,b4,fO,Bv,e4,vt,λz=>absurd (cb z) c]
 rintro σ H' ⟨v5,ys,rfl,bT,jP,qg,uu,tu,one⟩;rw[ay,eN] at tu one;apply#[_,Z,k lm ys H' bT jP nm uu ?_];unfold Hk;by_cases c:r.2.2.1="one"
 ·rw[aJ c];have:=one c;rw[this] at tu ⊢;exact tu
 rw[aB c];exact tu
end
end Ev
namespace Ev
open PySem L2
structure ik (P:Ad) (w:Af) (K:af) (mg:Str->Option Aa) (base:Heap) (C:Addr) (k:Nat) (x:Str) (ps:ae) (sp:Sp):Prop where
 ex:∃f fd,aq P w K mg base a9 k f fd ps sp/\Mk K C f/\mg x\.ref C/\qI K fd ps []
theorem BZ{n_:Nat}{X:Cx}{C:Addr}{k:Nat}{x:Str}{ps:ae}{sp:Sp}{p pos:Pos}{e:Expr}{es:List Expr}{t:TA}(c:ik X.prog X.w X.K X.mg X.base C k x ps sp)(hr:bf n_ X.A)(ha:PA X (e::es) t)(hg:Gl X x:=by rfl)(mT:(x == ("__debug__":Str))=false:=by decide)
  (he:starEach (e::es) X.env=(false,eval e X.env)::starEach es X.env:=by rfl) (jz:(backTo pos (starEach es X.env)).any (·.1)=false:=by rfl) (hk:(k+1)<=n_:=by decide):PE X (.Call (.Name x p) (e::es) [] pos) (yD C sp [] E0 t):=by
 let#[f,fd,F,M,m,b]:=c.ex;exact kX_ M F (hr.mono hk) hg m b .nil o4 ha mT he jz
section v
theorem WJ:bx DE DE (aX KI):=bE
def WD:Sp:=λvs H Q _=>∃i a:Int,vs=[.int i,.int a]/\Q (.bl (decide (a<=i))) H
theorem hs_{f0:Addr}{fd:Ae}(F:bj K "is_whole_from" "is_whole_from" KI f0 fd)(cI:!aY 1 "is_whole" fI rY):!aq a9 2 f0 fd DE WD:=by
 exists F.bL WJ;let#[i,a,rfl,k]:=h;apply#[_,aH (bg (ny (aQ cI hr %[0|0]) (nu (qp uL (pv 1) (pv 0))))),?_];exact#[_,Z,i,Z,_,Z,dD #[_,Z,_,Z,_,_,Z,Z,k]]
theorem fj':bx fI fI (aX QX):=bE
def Qu:Sp:=λvs H Q _=>∃i:Int,vs=[.int i]/\0<=i/\Q (.int i) H
theorem eS_{f0:Addr}{fd:Ae}(F:bj K "checked_moments" "checked_moments" QX f0 fd)(cI:!aY 2 "is_whole_from" DE WD):!aq a9 3 f0 fd fI Qu:=by
 apply F.bL fj' λaO A outer s H vs Q E hr h=>?_;let#[i,rfl,h0,k]:=h;apply#[_,ax (bO (eY (eK (aQ cI hr %[0,aC|0]))) eD bP) (aH (bg (pv 0))),?_];apply#[_,Z,i,0,Z,_,Z,?_];rw[cb h0];exact a_ #[_,Z,k]
theorem sO:bx qG qG (aX Pz):=bE
def Hv(K:af)(CG CW:Addr):Sp:=λvs H Q _=>∃(g d:V),∃r∈rl,vs=[g,d,.str r.1]/\Ht K CG CW [g,d] H Q E0
theorem gC_{f0 CG CW:Addr}{fd:Ae}(F:bj K BQ BQ Pz f0 fd)(xZ:!aY 2 BU ["rule"] (Io K))(cS:!aY 2 "checked_stand" zK (Ht K CG CW)):!aq a9 3 f0 fd qG (Hv K CG CW):=by
 exists F.bL sO;let#[g,d,r,cc,rfl,h]:=h;apply#[_,ax (jH (aQ xZ hr %[2|0])) (aH (bg (aQ cS hr %[0,1|0]))),?_];exact#[_,Z,r,cc,Z,λa _=>#[_,Z,_,Z,h]]
structure iY (K:af) (CG CW:Addr) (H:Hp) (g p d:Addr) (hs:Xa) (ts:Xb) (qs:aI) (fp:ai) (ns:ae) (f:aj):Prop where
 G:gT K CG CW H g p hs ts qs fp
 je:d∉fp
 hd:H d\.dK (cX ns f)
 so:pY hs qs ns f
 has:∀b∈fp,∃o,H b\o/\∀vs,o≠.tbl vs
theorem iY.nt{CG CW g p d:Addr}{H G:Hp}{hs:Xa}{ts:Xb}{qs:aI}{fp:ai}{ns:ae}{f:aj}(S:iY K CG CW H g p d hs ts qs fp ns f)(s:NT H G):iY K CG CW G g p d hs ts qs fp ns f:=#[S.G.nt s,S.je,s.dK S.hd,S.so,λb hb=>by
 let#[o,e,n]:=S.has b hb;exact#[o,s _ _ e n,n]]
structure Tb (H:Hp) (T1 T2:Addr):Prop where
 a:cg H T1 yX
 b:cg H T2 jw
 ne:T1≠T2
theorem Wt:bx ["goods","stand","rule","moment","placed"] vg (aX P7):=bE
end
end Ev
namespace Ev
open PySem L2
def uG(hs:Xa)(ts:Xb)(qs:aI)(f:aj)(gd h:Str):ib->ae->ib
 |ms,[]=>ms
 |ms,o::l=>if 0<pH hs qs f h o then uG hs ts qs f gd h (ms++mR hs ts qs f gd (ms.map (·.1)) h o) l else uG hs ts qs f gd h ms l
def DQ(hs:Xa)(ts:Xb)(qs:aI)(f:aj)(gd h:Str):ib:=uG hs ts qs f gd h [] (dO hs ts qs f h)
section v
theorem KQ:bx ["sight","hand","guard","moves","other","given"] DD (aX Qp):=bE
theorem g2_{f0 CS CG CW T:Addr}{fd:Ae}(F:bj K "moves_by_below" "moves_by_below" Qp f0 fd)(TS:gE K CS)(cR:!br CS 4 BN jF (GU K CS CG CW T))(cL:!br CS 3 "lead" k8 (DJ K CS CG CW))(cH:!aY 4 "heaviest_move" kE (jT K CS CG CW)):!aq a9 5 f0 fd DD (jS K CS CG CW T DQ):=by
 exists F.bL KQ;let#[v,g,p,h,gd,hs,ts,qs,fp,f,rfl,S,W,hh,tab,k]:=h;let sz:=cn;have F1:bf 3 _:=hr.mono (by decide);refine' #[_,ax ?s1 (ax ?s2 (aH ?s3)),?kk]
 case s1=>exact bq 3 KQ.nd (eB bh)
 case' s2=>refine' eX eM Z (d5 (ft cR TS.cl hr (pv 0) %[1|0])) (cO 4 KQ.nd) (aH (bO ?t1 (ax ?b1 (aH ?b2)) bP))
 case t1=>exact dj B6 (ft cL TS.cl F1 (pv 0) %[1,4|0]) aC
 case b1=>exact HU (i:=5) ["move"] 1 [] KQ.nd Z (Or.inl Z) (d5 (pv 3)) (λfp s H=>eW (i:=0) (show (["move"]:ae).Nodup by decide +kernel) Z (Or.inl Z)) (λfp s H=>ij) (λfp s H=>bM (vJ (K:=K) mI dz) (pv 0) aC)
 case b2=>exact jH (km k7 DV DW D0 (pv 3) %[aQ cH hr %[0,1,4,2,5|0]|0])
 case s3=>exact bg (pv 3)
 have n8:(aF hs).length<=8:=by have:=W.Gd.fP;have:=W.Gd.h8;omega
 apply#[zl,λlm nm=>?_];lk;let#[s1,e1]:=bp (o:=.lst []) nm;generalize upd H lm (.lst [])=H1 at s1 e1 ⊢;let S1:=S.same s1;let wB:=tab.same s1;let#[dx,dl,dv,dp,ad,h1,G,h3,h4,h5,h6]:=S1.ex;apply#[_,Z,v,dx,_,Z,h1,Dw _ _ _ _ Z0 Z0 Z0 Z0,_,Z,v,g,p,h,hs,ts,qs,fp,f,Z,S1,W,hh,wB,λl1 H2 b2 lE n1 e2=>?_];let#[tv,hT]:=gc wB;let#[LD,GI]:=gc lE;let p9:=b2.nt hT;let S2:=S1.nt p9;let m2:=p9.lst e1;have C6:lm≠l1:=bw e1 n1;let E9:=KP hs ts qs f h;have FK:∀x∈dO hs ts qs f h,x∈aF hs:=λx hx=>Dz (E9.mem_iff.mp hx)
 have ll:(dO hs ts qs f h).length<=8:=by
  rw[E9.length_eq];have:=DN hs ts h;omega
 have bT:aP T H H2:=λb o e n=>b2 _ _ (s1 _ _ e) n;apply#[l1,Z,#[_,.of e2],ie (K:=K) (a:=l1) (xs:=(dO hs ts qs f h).map V.str) (λi σ H'=>∃(v4 v5:aL) (ys:ag) (ms:ib),σ=[some (.ref v),some (.str h),some (.str gd),some (.ref lm),v4,v5]/\aP T H H'/\cg H' T jw/\H' l1\.lst ((dO hs ts qs f h).map V.str)/\H' lm\.lst ys/\bC K H' ys (ms.map kM)/\ms.length<=i/\uG hs ts qs f gd h ms ((dO hs ts qs f h).drop i)=DQ hs ts qs f gd h) #[none,none,[],[],Z,bT,lE,e2,m2,.nil,bo _,Z] (λi σ H' _ ⟨_,_,_,_,_,_,_,z,_⟩=>.of z) ?_ ?_]
 ·rintro i x σ H3 hx ⟨v4,v5,ys,ms,rfl,IA,gj,l3,m3,t3,MS,eq3⟩;let#[o,ho,rfl]:=iT hx;have hi:i<(dO hs ts qs f h).length:=(cw.mp ho).1;let om:=FK o (dA ho)
  have dr:(dO hs ts qs f h).drop i=o::(dO hs ts qs f h).drop (i+1):=by
   let#[h1,h2]:=cw.mp ho;rw[List.drop_eq_getElem_cons h1,h2]
  rw[dr] at eq3;let#[tv0,hT0]:=gc tab;let S3:=S.nt (IA.nt hT0);let#[PQ,_,_,_,_,k1,_]:=S3.ex;let ly:=bH t3;rw[ay] at ly;lk;apply#[_,Z,v,PQ,_,Z,k1,Dw _ _ _ _ Z0 Z0 Z0 Z0,_,Z,_,Z,v,g,p,h,o,hs,ts,qs,fp,f,Z,S3,W,hh,om,_,_,Z,Z,_,Z,?_];apply aN (λc=>?_) (λc=>?_)
  ·have c:0<pH hs qs f h o:=⇑c
   have eq3:uG hs ts qs f gd h (ms++mR hs ts qs f gd (ms.map (·.1)) h o) ((dO hs ts qs f h).drop (i+1))=DQ hs ts qs f gd h:=by
    rw[uG,aJ c] at eq3;exact eq3
   apply#[_,Z,lm,Z,#[_,.of m3],λD hD=>?_];apply jK (own:=1) (fv:=[]) (xs:=ys) Z dR (λj out H'=>aa H3 H'/\H' D\.lst out/\out=((ms.map (·.1)).take j).map V.str) #[aa.new hD,au,Z] (λj out H' _ ⟨sm,_⟩=>.of (sm _ _ m3)) (λout H4 ⟨s4,d4,eo⟩=>?_) (λj x out H' hx ⟨sm,hd,eo⟩=>?_);rotate_left
   ·let#[q,hq,a,rfl,ha]:=nX t3 hx;have hj:j<ms.length:=(cw.mp hq).1;apply#[_,Z,Z,λNx hN=>dB ?_];apply#[_,Z,a,_,0,.str q.1,Z,Z,.of (sm _ _ ha),L2.gC (j:=0) Z,out,hd,?_,hN (out++[.str q.1]) _ #[gU sm hD,au,?_]]
    ·rw[eo,ay,dJ];omega
    rw[eo,iC (show (ms.map (·.1))[j]? = some q.1 by rw[dU,hq];rfl),cu];rfl
   rw[ly,ym (by rw[ay];exact bo _)] at eo;subst eo;lk;let m4:=s4 _ _ m3;apply#[_,Z,.inl #[Z,_,.of m4],?_];apply#[_,Z,_,Z,_,Z,_,Z,_,Z,v,g,p,D,h,o,gd,ms.map (·.1),hs,ts,qs,fp,f,Z,S3.same s4,W,hh,om,d4,λl5 zs H5 s5 n5 e5 t5=>?_];let vE:=s4.trans s5;let m5:=vE _ _ m3;let lz:=bH t5;let hl:=Cs hs ts qs f gd (ms.map (·.1)) h o;rw[ay] at lz;apply#[lm,l5,ys,zs,Z,Z,m5,e5,by omega,?_];apply#[_,_,ys++zs,ms++mR hs ts qs f gd (ms.map (·.1)) h o,Z,λb u e n=>?_,cg.putL (gj.same vE) m5,?_,au,?_,?_,eq3]
   ·rw[aA (bw e nm)];exact vE _ _ (IA _ _ e n)
   ·rw[aA C6.symm];exact vE _ _ l3
   ·rw[cu];exact jG (iX (t3.same vE) m5) (iX t5 m5)
   rw[fA];omega
  have c:¬0<pH hs qs f h o:=⇑c
  apply#[_,_,ys,ms,Z,IA,gj,l3,m3,t3,by omega,?_];rw[uG,aB c] at eq3;exact eq3
 rintro σ H3 ⟨v4,v5,ys,ms,rfl,IA,gj,l3,m3,t3,MS,eq3⟩;rw[ay,List.drop_length] at eq3;apply#[_,Z,k lm ys H3 IA gj nm m3 ?_];rw[<- eq3];exact t3
end
end Ev
namespace Ev
open PySem L2
def Ci:Am:=λr hs ts qs f h=>DQ hs ts qs f (r.2.2.2.getD "") h
theorem OU{hs:Xa}{ts:Xb}{qs:aI}{f:aj}{gd h:Str}:∀(l:ae) (ms:ib),(uG hs ts qs f gd h ms l).length<=ms.length+l.length
 |[],ms=>bo _
 |o::l,ms=>by
  rw[uG,kB];split
  ·let h1:=OU (hs:=hs) (ts:=ts) (qs:=qs) (f:=f) (gd:=gd) (h:=h) l (ms++mR hs ts qs f gd (ms.map (·.1)) h o);let h2:=Cs hs ts qs f gd (ms.map (·.1)) h o;rw[fA] at h1;omega
  let h1:=OU (hs:=hs) (ts:=ts) (qs:=qs) (f:=f) (gd:=gd) (h:=h) l ms;omega
theorem gY_(r:Rl)(hs:Xa)(ts:Xb)(qs:aI)(f:aj)(h:Str)(W:Wd hs ts qs f):(Ci r hs ts qs f h).length<=8:=by
 unfold Ci DQ;let h1:=OU (hs:=hs) (ts:=ts) (qs:=qs) (f:=f) (gd:=r.2.2.2.getD "") (h:=h) (dO hs ts qs f h) [];let h2:=(KP hs ts qs f h).length_eq;let h3:=DN hs ts h;let h4:=W.Gd.fP;let h5:=W.Gd.h8;rw[qP] at h1;omega
section v
theorem go_{f0 CS CG CW T:Addr}{fd:Ae}(F:bj K "moves_from" "moves_from" H_ f0 fd)(cL:!aY 5 "moves_by_below" DD (jS K CS CG CW T DQ)):!aq a9 6 f0 fd vW (we K CS CG CW T (λr=>r.2.1="below") Ci):=by
 exists F.bL Qm;let#[v,g,p,aw,h,hs,ts,qs,fp,f,r,cc,rfl,le,ha,S,W,hh,tab,k]:=h;refine' #[_,ax ?s0 (ax ?s1 eD),?kk]
 case s0=>exact bO (dj iy (bM dz (pv 2) aC) dI) eD bP
 case s1=>exact bO (dj iy (bM dz (pv 2) aC) dI) (aH (bg (aQ cL hr %[0,1,bM dz (pv 2) aC|0]))) bP
 let so:=Ub r cc (by rw[le];decide +kernel);let#[gd,eg]:=CC.mp so;have ln:¬r.2.1="least":=by rw[le];decide +kernel
 apply#[_,Z,aw,_,_,_,Z,Z,ha _,Z,Z,_,Z,?_];rw[pN,dH ln];apply a_ ?_;apply#[_,Z,aw,_,_,_,Z,Z,ha _,Z,Z,_,Z,?_];rw[pN,cb le];apply dD ?_;apply#[_,Z,_,Z,_,Z,aw,_,_,.str gd,Z,Z,ha _,?_,v,g,p,h,gd,hs,ts,qs,fp,f,Z,S,W,hh,tab,λl ys H' b t n e tu=>k l ys H' b t n e ?_]
 ·rw[eg];rfl
 unfold Ci;rw[eg];exact tu
end
end Ev
namespace Ev
open PySem L2
def xN(hs:Xa)(ts:Xb):Int:=((gq hs ts).max?).getD 0
theorem kZ_{hs:Xa}{ts:Xb}{m:Int}(h1:m∈gq hs ts)(h2:∀a∈gq hs ts,a<=m):m=xN hs ts:=by
 unfold xN;rw[List.max?_eq_some_iff.mpr #[h1,h2]];rfl
theorem kd_{hs:Xa}{ts:Xb}(G:Good hs ts){m:Int}(h:m∈gq hs ts):0<=m/\m<=8:=by
 let#[n,_,rfl]:=bG.mp h;let h1:=DN hs ts n;let h2:=G.fP;let h3:=G.h8;show 0<=((nb hs ts n).length:Int)/\((nb hs ts n).length:Int)<=8;omega
theorem j0_{hs:Xa}{ts:Xb}(G:Good hs ts){a b:Str}(ha:a∈aF hs)(hb:b∈aF hs):2<=lj hs a b/\lj hs a b<=2000:=by
 let h1:=J9 G ha;let h2:=J9 G hb;unfold lj;omega
def wK(wt:Str->Int)(ok:Str->Bool):Int->ae->ae
 |_,[]=>[]
 |l,n::ns=>if (ok n&&decide (wt n<=l))=true then n::wK wt ok (l - wt n) ns else wK wt ok l ns
theorem Kn(wt:Str->Int)(ok:Str->Bool):∀(l:Int) (ns:ae),(wK wt ok l ns).Sublist ns
 |_,[]=>.slnil
 |l,n::ns=>by
  unfold wK;split
  ·exact (Kn wt ok _ ns).cons_cons n
  exact (Kn wt ok _ ns).cons n
def i6(hs:Xa)(ts:Xb)(qs:aI)(gv:ae)(a b n:Str):Bool:=!decide (n∈gv)&&qb hs ts qs n a b
def sj(hs:Xa)(ts:Xb)(qs:aI)(f:aj)(a b:Str):Int:=pH hs qs f a b / (lj hs a b * (xN hs ts+1))
def Jj(hs:Xa)(ts:Xb)(qs:aI)(f:aj)(gv:ae)(a b:Str):ae:=wK (vp qs) (i6 hs ts qs gv a b) (sj hs ts qs f a b) (fG qs f a)
abbrev to3(a b:Str)(n:Str):Mv:=(n,a,b)
def yL(hs:Xa)(ts:Xb)(qs:aI)(f:aj)(gv:ae)(a b:Str):ib:=(Jj hs ts qs f gv a b).map (to3 a b)
theorem Vs{hs:Xa}{ts:Xb}{qs:aI}{f:aj}(W:Wd hs ts qs f)(a:Str):(fG qs f a).length<=63:=by
 have h1:(fG qs f a).length<=(mP qs).length:=List.length_filter_le ..;let h2:=(La qs).length_eq;rw[ay] at h2;have:=W.bS;omega
theorem Vh{hs:Xa}{ts:Xb}{qs:aI}{f:aj}(W:Wd hs ts qs f)(gv:ae)(a b:Str):(yL hs ts qs f gv a b).length<=63:=by
 unfold yL;rw[ay];have:=(Kn (vp qs) (i6 hs ts qs gv a b) (sj hs ts qs f a b) (fG qs f a)).length_le;let h2:=Vs W a;unfold Jj;omega
theorem U3{α:Type}{l:List α}{i:Nat}{x:α}(h:l[i]? = some x):l.drop i=x::l.drop (i+1):=by
 let#[h1,h2]:=cw.mp h;rw[List.drop_eq_getElem_cons h1,h2]
section v
abbrev Mc:ae:=["sight","one","other","given","parts","left","moves","piece","weight"]
theorem B1:bx Mc ["sight","one","other","given"] (aX AW):=bE
inductive rP (K:af) (CS CG CW:Addr) (vs:ag) (H:Hp) (Q:VK) (E:XK):Prop
 |mk:∀(v g p lg:Addr) (a b:Str) (gv:ae) (hs:Xa) (ts:Xb) (qs:aI) (fp:ai) (f:aj),vs=[.ref v,.str a,.str b,.ref lg]->iQ K CS CG CW H v g p hs ts qs fp f->Wd hs ts qs f->a∈aF hs->b∈aF hs->H lg\.lst (gv.map V.str)->(∀l ys H',aa H H'->H l=none->H' l\.lst ys->bC K H' ys ((yL hs ts qs f gv a b).map kM)->Q (.ref l) H')->rP K CS CG CW vs H Q E
theorem lw_{f0 CS CG CW CP:Addr}{fd:Ae}(F:bj K "share_moves" "share_moves" AW f0 fd)(TS:gE K CS)(TG:dM K CG)(TW:Txt K mg CW)(cL:!br CS 3 "lead" k8 (DJ K CS CG CW))(cJ:!br CS 3 "joint_strength" k8 (Kw K CS CG CW))(cN:!br CW 1 "most_neighbours" gK (lO K CW))(cW:!br CG 2 "weight" zJ (Cu K CG CW CP))(cM:!br CG 3 "may_go" pW (Ki K CG CW CP)) :
  aq P w K mg base a9 4 f0 fd ["sight","one","other","given"] (rP K CS CG CW):=by
 exists F.bL B1;let#[v,g,p,lg,a,b,gv,hs,ts,qs,fp,f,rfl,S,W,ha,hb,hg,k]:=h;let hu:=gD hr;let sz:=cn;have iH:bf 1 _:=hr.mono (by decide);have uo:bf 2 _:=hr.mono (by decide);refine' #[_,?r0,?kk]
 case' r0=>refine' ax ?s1 ?r1
 case' r1=>refine' ax ?s2 ?r2
 case' r2=>refine' ax ?s3 ?r3
 case' r3=>refine' ax ?s4 (aH ?s5)
 case s1=>exact bq 4 B1.nd (bN qm (ft cJ TS.cl hr (pv 0) %[1,2|0]) (bN gX (uW cN TW.cl iH (dG (dG (pv 0) Z) Z)) aC))
 case s2=>exact bq 5 B1.nd (bN zY (ft cL TS.cl hr (pv 0) %[1,2|0]) (pv 4))
 case s3=>exact bq 6 B1.nd (eB bh)
 case' s4=>refine' eX eM Z (d5 (kq hu (dG (pv 0) Z) (pv 1))) (cO 7 B1.nd) (ax ?b1 (aH ?b2))
 case b1=>exact bq 8 B1.nd (ft cW TG.cl uo (dG (pv 0) Z) %[7|0])
 case' b2=>refine' bO (PW.pt (zQ ?c1 (zQ ?c2 (Cj ?c3)))) (ax ?b3 (aH ?b4)) bP
 case c1=>exact dj (Wz hZ (nC hr 0)) (pv 7) (pv 3) (by with_unfolding_all rfl)
 case c2=>exact dj uL (pv 8) (pv 5)
 case c3=>exact eK (ft cM TG.cl hr (dG (pv 0) Z) %[7,1,2|0])
 case b3=>exact jH (km k7 wc wd u_ (pv 6) %[fB %[7,1,2|0]|0])
 case b4=>exact bq 5 B1.nd (bN zO (pv 5) (pv 8))
 case s5=>exact bg (pv 6)
 let#[dx,dl,dv,dp,ad,h1,G,h3,h4,h5,h6]:=S.ex;let#[gR,dw,dy,vs,bR,g1,g2,_]:=id G.ex;let#[eV,d1,l2,d3,ju,as,ef,w1,_]:=id g2.ex;have hnm:(dg d1 l2 d3).lookup ("most_neighbours":Str)=none:=iM _ _ _ Z0 Z0 Z0;have no:∀{m:Str},¬m="wares"->¬m=iR->¬m=pK->¬m=B7->(d8 g dl dv dp).lookup m=none:=λa b c d=>Dw _ _ _ _ a b c d;let jo:=j0_ W.Gd ha hb;let nl:=W.Gd.fP;let n1:=W.Gd.h1;let n8:=W.Gd.h8;apply#[_,Z,v,dx,_,Z,h1,no Z0 Z0 Z0 Z0,_,Z,_,Z,v,g,p,a,b,hs,ts,qs,fp,f,Z,S,W,ha,hb,?_];apply#[_,Z,v,CS,dx,_,_,Z,h1,TS.cl,TS.nW,gQ _ _ _ _,g,CG,gR,_,_,Z,g1,TG.cl,TG.nW,kA _ _ _,p,eV,_,Z,w1,hnm,p,hs,ts,bR,Z,g2,by omega,by omega,λm H1 s1 m1 m2=>?_];let mo:=kd_ W.Gd m1;obtain rfl:=kZ_ m1 m2;have pp:0<lj hs a b * (xN hs ts+1):=Int.mul_pos Z1 Z1
 have pl:lj hs a b * (xN hs ts+1)<1073741824:=by
  have:=Int.mul_le_mul jo.2 (show xN hs ts+1<=9 by omega) Z1 (by decide);omega
 apply#[_,_,Z,Z,_,_,Z,Z,.inl #[by omega,by omega],?_];lk;apply#[_,Z,v,dx,_,Z,s1 _ _ h1,no Z0 Z0 Z0 Z0,_,Z,_,Z,v,g,p,a,b,hs,ts,qs,fp,f,Z,S.same s1,W,ha,hb,_,Z,_,_,Z,Z,#[pp,pl],?_];lk;apply#[zl,λlm nm=>?_];lk;let#[s2,e2]:=bp (o:=.lst []) nm;let CZ:=s1.free nm;generalize upd H1 lm (.lst [])=H2 at s2 e2 ⊢;let iq:=s1.trans s2;let hl:=h6 a ha;let l63:=Vs W a;apply#[_,Z,v,CS,dx,_,_,Z,iq _ _ h1,TS.cl,TS.nP,ER _ _ _ _,_,Z,dp,_,Z,B9 (iq _ _ h5) ha,ad a,Z,#[_,.of (iq _ _ hl)],ie (K:=K) (a:=ad a) (xs:=(fG qs f a).map V.str) (λi σ H'=>∃(v7 v8:aL) (left:Int) (ys:ag) (ns:ae),σ=[some (.ref v),some (.str a),some (.str b),some (.ref lg),some (.int (lj hs a b * (xN hs ts+1))),some (.int left),some (.ref lm),v7,v8]/\aa H H'/\H' lm\.lst ys/\bC K H' ys ((ns.map (to3 a b)).map kM)/\ns.length<=i/\ns++wK (vp qs) (i6 hs ts qs gv a b) left ((fG qs f a).drop i)=Jj hs ts qs f gv a b) #[none,none,_,[],[],Z,iq,e2,.nil,bo _,Z] (λi σ H' _ ⟨_,_,_,_,_,_,sm,_⟩=>.of (sm _ _ hl)) ?_ ?_]
 ·rintro i x σ H' hx ⟨v7,v8,left,ys,ns,rfl,sm,uu,tu,ln,eq⟩;let#[n,hn,rfl]:=iT hx;have hi:i<(fG qs f a).length:=(cw.mp hn).1;let#[MD,fn]:=Kt (dA hn);let#[q,hq,rfl]:=bG.mp MD;let G':=G.same sm;let iw:=sm _ _ h1;let#[Hd,WR,WO,IX,fpw',Vm,g2',_]:=id G'.ex;have Nl:(bY p WR WO).lookup ("weight":Str)=none:=uZ _ _ _ Z0 Z0 Z0;have NI:(bY p WR WO).lookup ("may_go":Str)=none:=uZ _ _ _ Z0 Z0 Z0;let ew:=M_ W.nd hq;let ey:=Ti W.nd hq;rw[U3 hn,wK] at eq;let ly:=bH tu;rw[ay,ay] at ly
  have go:∀{H2:Hp} {v8:aL},aa H' H2->(i6 hs ts qs gv a b q.1&&decide (vp qs q.1<=left))=false->∃(v7 YS:aL) (ze:Int) (ys:ag) (ns:ae),[some (V.ref v),some (.str a),some (.str b),some (.ref lg),some (.int (lj hs a b * (xN hs ts+1))),some (.int left),some (.ref lm),some (.str q.1),v8]=[some (V.ref v),some (.str a),some (.str b),some (.ref lg),some (.int (lj hs a b * (xN hs ts+1))),some (.int ze),some (.ref lm),v7,YS]/\aa H H2/\H2 lm\.lst ys/\bC K H2 ys ((ns.map (to3 a b)).map kM)/\ns.length<=i+1/\ns++wK (vp qs) (i6 hs ts qs gv a b) ze ((fG qs f a).drop (i+1))=Jj hs ts qs f gv a b:=λ{H2 v8} s2 e=>by
   rw[e,aB (by decide)] at eq;exact#[_,_,_,ys,ns,Z,sm.trans s2,s2 _ _ uu,tu.same s2,by omega,eq]
  lk;apply#[_,Z,v,CS,dx,_,_,Z,iw,TS.cl,TS.nW,gQ _ _ _ _,g,Hd,_,Z,Vm,Nl,_,Z,g,p,.str q.1,some q.1,hs,ts,qs,fp,Z,G',W.nd,Z,.inl #[q,hq,Z,?_]];lk;apply#[_,Z,_,Z,q.1,gv,Z,#[lg,_,Z,.of (sm _ _ hg),Iq gv],_,Z,?_];apply aN (λc=>?_) (λc=>?_)
  ·have c:¬q.1∈gv:=⇑c
   apply#[_,Z,_,Z,_,_,Z,Z,_,Z,?_];apply aN (λc2=>?_) (λc2=>?_)
   ·have c2:q.2.1<=left:=⇑c2
    apply#[_,Z,v,CS,dx,_,_,Z,iw,TS.cl,TS.nW,gQ _ _ _ _,g,Hd,_,Z,Vm,NI,_,Z,_,Z,_,Z,g,p,.str q.1,.str a,.str b,some q.1,some a,some b,hs,ts,qs,fp,Z,G',W.nd,W.Gd.uc,Z,.inl #[q,hq,Z,Z,Z,λH3 s3=>#[_,Z,?_]]];apply aN (λc3=>?_) (λc3=>?_)
    ·have pt:(i6 hs ts qs gv a b q.1&&decide (vp qs q.1<=left))=true:=by
      unfold i6 qb;rw[ew,ey,cb c2,dH c];simpa using c3
     rw[aJ pt,ew] at eq;apply#[_,Z,.inl #[Z,_,.of (s3 _ _ uu)],_,Z,_,Z,_,Z,zl,λt nt=>?_];let#[s4,e4]:=bp (o:=.tup [.str q.1,.str a,.str b]) nt;generalize upd H3 t (.tup [.str q.1,.str a,.str b])=H4 at s4 e4 ⊢;let qx:=s3.trans s4;let Gi:=qx _ _ uu;apply#[lm,_,_,Z,Z,Gi,by omega,?_];dsimp only;apply#[_,Z,_,Z,_,_,Z,Z,?_];lk;apply#[_,_,_,ys++[.ref t],ns++[q.1],Z,λb' o e=>?_,au,?_,?_,?_]
     ·rw[aA (bw e CZ)];exact qx _ _ (sm _ _ e)
     ·rw[cu,cu];exact iX (wm (tu.same qx) e4) Gi
     ·rw[fA];show ns.length+1<=i+1;omega
     rw[List.append_assoc];exact eq
    apply go s3 ?_;unfold i6 qb;have c3:Dx hs ts q.2.2 (some a) (some b)=false:=⇑c3
    rw[ey,c3,Bool.and_false,Bool.false_and]
   apply go (aa.refl H') ?_;have c2:¬q.2.1<=left:=⇑c2
   rw[ew,dH c2,Bool.and_false]
  have c:q.1∈gv:=⇑c
  apply go (aa.refl H') ?_;unfold i6;rw[cb c];rfl
 rintro σ H' ⟨v7,v8,left,ys,ns,rfl,sm,uu,tu,ln,eq⟩;rw[ay,List.drop_length,wK,Al] at eq;apply#[_,Z,k lm ys H' sm CZ uu ?_];unfold yL;rw[<- eq];exact tu
end
end Ev
namespace Ev
open PySem L2
def uM(hs:Xa)(ts:Xb)(qs:aI)(f:aj)(h:Str):ib->ae->ib
 |ms,[]=>ms
 |ms,o::l=>if 0<pH hs qs f h o then uM hs ts qs f h (ms++yL hs ts qs f (ms.map (·.1)) h o) l else uM hs ts qs f h ms l
def IF(hs:Xa)(ts:Xb)(qs:aI)(f:aj)(h:Str):ib:=uM hs ts qs f h [] (nb hs ts h)
def DR:Am:=λ_ hs ts qs f h=>IF hs ts qs f h
theorem Pe{hs:Xa}{ts:Xb}{qs:aI}{f:aj}(W:Wd hs ts qs f){h:Str}:∀(l:ae) (ms:ib),(uM hs ts qs f h ms l).length<=ms.length+63 * l.length
 |[],ms=>bo _
 |o::l,ms=>by
  rw[uM,kB];split
  ·let h1:=Pe W (h:=h) l (ms++yL hs ts qs f (ms.map (·.1)) h o);let h2:=Vh W (ms.map (·.1)) h o;rw[fA] at h1;omega
  let h1:=Pe W (h:=h) l ms;omega
theorem gb_(r:Rl)(hs:Xa)(ts:Xb)(qs:aI)(f:aj)(h:Str)(W:Wd hs ts qs f):(DR r hs ts qs f h).length<=1000:=by
 unfold DR IF;let h1:=Pe W (h:=h) (nb hs ts h) [];let h3:=DN hs ts h;let h4:=W.Gd.fP;let h5:=W.Gd.h8;rw[qP] at h1;omega
section v
theorem Lh:bx ["sight","hand","moves","other","given"] ["sight","hand"] (aX Rh):=bE
inductive Qn (K:af) (CS CG CW:Addr) (vs:ag) (H:Hp) (Q:VK) (E:XK):Prop
 |mk:∀(v g p:Addr) (h:Str) (hs:Xa) (ts:Xb) (qs:aI) (fp:ai) (f:aj),vs=[.ref v,.str h]->iQ K CS CG CW H v g p hs ts qs fp f->Wd hs ts qs f->h∈aF hs->(∀l ys H',aa H H'->H l=none->H' l\.lst ys->bC K H' ys ((IF hs ts qs f h).map kM)->Q (.ref l) H')->Qn K CS CG CW vs H Q E
theorem eP_{f0 CS CG CW:Addr}{fd:Ae}(F:bj K "moves_by_shares" "moves_by_shares" Rh f0 fd)(TS:gE K CS)(TG:dM K CG)(TW:Txt K mg CW)(cN:!br CW 2 "neighbours" jF (KL K CW))(cL:!br CS 3 "lead" k8 (DJ K CS CG CW))(cH:!aY 4 "share_moves" ["sight","one","other","given"] (rP K CS CG CW)):!aq a9 5 f0 fd ["sight","hand"] (Qn K CS CG CW):=by
 exists F.bL Lh;let#[v,g,p,h,hs,ts,qs,fp,f,rfl,S,W,hh,k]:=h;let sz:=cn;have uo:bf 2 _:=hr.mono (by decide);have F1:bf 3 _:=hr.mono (by decide);refine' #[_,ax ?s1 (ax ?s2 (aH ?s3)),?kk]
 case s1=>exact bq 2 Lh.nd (eB bh)
 case' s2=>refine' eX eM Z (d5 (ft cN TW.cl uo (dG (dG (pv 0) Z) Z) %[1|0])) (cO 3 Lh.nd) (aH (bO ?t1 (ax ?b1 (aH ?b2)) bP))
 case t1=>exact dj B6 (ft cL TS.cl F1 (pv 0) %[1,3|0]) aC
 case b1=>exact HU (i:=4) ["move"] 1 [] Lh.nd Z (Or.inl Z) (d5 (pv 2)) (λfp s H=>eW (i:=0) (show (["move"]:ae).Nodup by decide +kernel) Z (Or.inl Z)) (λfp s H=>ij) (λfp s H=>bM (vJ (K:=K) mI dz) (pv 0) aC)
 case b2=>exact jH (km k7 DV DW D0 (pv 2) %[aQ cH hr %[0,1,3,4|0]|0])
 case s3=>exact bg (pv 2)
 have n8:(aF hs).length<=8:=by have:=W.Gd.fP;have:=W.Gd.h8;omega
 apply#[zl,λlm nm=>?_];lk;let#[s1,e1]:=bp (o:=.lst []) nm;generalize upd H lm (.lst [])=H1 at s1 e1 ⊢;let#[dx,dl,dv,dp,ad,h1,G,h3,h4,h5,h6]:=(S.same s1).ex;let#[gR,dw,dy,vs,bR,g1,g2,_]:=id G.ex;let#[eV,d1,l2,d3,ju,as,ef,w1,_]:=id g2.ex;have hV:(dg d1 l2 d3).lookup ("neighbours":Str)=none:=iM _ _ _ Z0 Z0 Z0;apply#[_,Z,v,CS,dx,_,_,Z,h1,TS.cl,TS.nW,gQ _ _ _ _,g,CG,gR,_,_,Z,g1,TG.cl,TG.nW,kA _ _ _,p,eV,_,Z,w1,hV,_,Z,p,h,hs,ts,bR,Z,g2,W.Gd.uc,(iW hs).mem_iff.mp hh,λl1 n1=>?_];let#[s2,e2]:=bp (o:=.lst ((nb hs ts h).map V.str)) n1;have C6:lm≠l1:=bw e1 n1;let iq:=s1.trans s2;generalize upd H1 l1 (.lst ((nb hs ts h).map V.str))=H2 at s2 e2 iq ⊢;have FK:∀x∈nb hs ts h,x∈aF hs:=λx hx=>Dz hx
 have ll:(nb hs ts h).length<=8:=by
  have:=DN hs ts h;omega
 apply#[l1,Z,#[_,.of e2],ie (K:=K) (a:=l1) (xs:=(nb hs ts h).map V.str) (λi σ H'=>∃(v3 v4:aL) (ys:ag) (ms:ib),σ=[some (.ref v),some (.str h),some (.ref lm),v3,v4]/\aa H H'/\H' l1\.lst ((nb hs ts h).map V.str)/\H' lm\.lst ys/\bC K H' ys (ms.map kM)/\ms.length<=63 * i/\uM hs ts qs f h ms ((nb hs ts h).drop i)=IF hs ts qs f h) #[none,none,[],[],Z,iq,e2,s2 _ _ e1,.nil,bo _,Z] (λi σ H' _ ⟨_,_,_,_,_,_,z,_⟩=>.of z) ?_ ?_]
 ·rintro i x σ H3 hx ⟨v3,v4,ys,ms,rfl,EN,l3,m3,t3,MS,eq3⟩;let#[o,ho,rfl]:=iT hx;have hi:i<(nb hs ts h).length:=(cw.mp ho).1;let om:=FK o (dA ho);rw[U3 ho] at eq3;let S3:=S.same EN;let#[PQ,_,_,_,_,k1,_]:=S3.ex;let ly:=bH t3;rw[ay] at ly;lk;apply#[_,Z,v,PQ,_,Z,k1,Dw _ _ _ _ Z0 Z0 Z0 Z0,_,Z,_,Z,v,g,p,h,o,hs,ts,qs,fp,f,Z,S3,W,hh,om,_,_,Z,Z,_,Z,?_];apply aN (λc=>?_) (λc=>?_)
  ·have c:0<pH hs qs f h o:=⇑c
   have eq3:uM hs ts qs f h (ms++yL hs ts qs f (ms.map (·.1)) h o) ((nb hs ts h).drop (i+1))=IF hs ts qs f h:=by
    rw[uM,aJ c] at eq3;exact eq3
   apply#[_,Z,lm,Z,#[_,.of m3],λD hD=>?_];apply jK (own:=1) (fv:=[]) (xs:=ys) Z dR (λj out H'=>aa H3 H'/\H' D\.lst out/\out=((ms.map (·.1)).take j).map V.str) #[aa.new hD,au,Z] (λj out H' _ ⟨sm,_⟩=>.of (sm _ _ m3)) (λout H4 ⟨s4,d4,eo⟩=>?_) (λj x out H' hx ⟨sm,hd,eo⟩=>?_);rotate_left
   ·let#[q,hq,a,rfl,ha]:=nX t3 hx;have hj:j<ms.length:=(cw.mp hq).1;apply#[_,Z,Z,λNx hN=>dB ?_];apply#[_,Z,a,_,0,.str q.1,Z,Z,.of (sm _ _ ha),L2.gC (j:=0) Z,out,hd,?_,hN (out++[.str q.1]) _ #[gU sm hD,au,?_]]
    ·rw[eo,ay,dJ];omega
    rw[eo,iC (show (ms.map (·.1))[j]? = some q.1 by rw[dU,hq];rfl),cu];rfl
   rw[ly,ym (by rw[ay];exact bo _)] at eo;subst eo;lk;let m4:=s4 _ _ m3;apply#[_,Z,.inl #[Z,_,.of m4],?_];apply#[_,Z,_,Z,_,Z,_,Z,v,g,p,D,h,o,ms.map (·.1),hs,ts,qs,fp,f,Z,S3.same s4,W,hh,om,d4,λl5 zs H5 s5 n5 e5 t5=>?_];let vE:=s4.trans s5;let m5:=vE _ _ m3;let lz:=bH t5;let hl:=Vh W (ms.map (·.1)) h o;rw[ay] at lz;apply#[lm,l5,ys,zs,Z,Z,m5,e5,by omega,?_];apply#[_,_,ys++zs,ms++yL hs ts qs f (ms.map (·.1)) h o,Z,λb u e=>?_,?_,au,?_,?_,eq3]
   ·rw[aA (bw e nm)];exact vE _ _ (EN _ _ e)
   ·rw[aA C6.symm];exact vE _ _ l3
   ·rw[cu];exact jG (iX (t3.same vE) m5) (iX t5 m5)
   rw[fA];omega
  have c:¬0<pH hs qs f h o:=⇑c
  apply#[_,_,ys,ms,Z,EN,l3,m3,t3,by omega,?_];rw[uM,aB c] at eq3;exact eq3
 rintro σ H3 ⟨v3,v4,ys,ms,rfl,EN,l3,m3,t3,MS,eq3⟩;rw[ay,List.drop_length] at eq3;apply#[_,Z,k lm ys H3 EN nm m3 ?_];rw[<- eq3];exact t3
theorem gl_{f0 CS CG CW T:Addr}{fd:Ae}(F:bj K "moves_from" "moves_from" H_ f0 fd)(cL:!aY 5 "moves_by_shares" ["sight","hand"] (Qn K CS CG CW)):!aq a9 6 f0 fd vW (we K CS CG CW T (λr=>r.2.1="shares") DR):=by
 exists F.bL Qm;let#[v,g,p,aw,h,hs,ts,qs,fp,f,r,cc,rfl,le,ha,S,W,hh,tab,k]:=h;refine' #[_,ax ?s0 (ax ?s1 (aH ?s2)),?kk]
 case s0=>exact bO (dj iy (bM dz (pv 2) aC) dI) eD bP
 case s1=>exact bO (dj iy (bM dz (pv 2) aC) dI) eD bP
 case s2=>exact bg (aQ cL hr %[0,1|0])
 have ln:¬r.2.1="least":=by rw[le];decide +kernel
 have lb:¬r.2.1="below":=by rw[le];decide +kernel
 apply#[_,Z,aw,_,_,_,Z,Z,ha _,Z,Z,_,Z,?_];rw[pN,dH ln];apply a_ ?_;apply#[_,Z,aw,_,_,_,Z,Z,ha _,Z,Z,_,Z,?_];rw[pN,dH lb];apply a_ ?_;exact#[_,Z,_,Z,v,g,p,h,hs,ts,qs,fp,f,Z,S,W,hh,λl ys H' b n e tu=>k l ys H' (aP.of b) (tab.same b) n e tu]
end
end Ev
namespace Ev
open PySem L2
def hit(t u:Str × Str):Bool:=(decide (u.1=t.1) || decide (u.2=t.1)) || (decide (u.1=t.2) || decide (u.2=t.2))
def f_(rs:List Xb)(t:Str × Str):Nat:=rs.findIdx λr=>!r.any (hit t)
def xV(K:af)(H:Hp)(l:Addr)(as:ai)(rs:List Xb):Prop:=H l=some (.lst (as.map V.ref))/\Paired (λa r=>∃zs,H a\.lst zs/\bC K H zs (r.map kT)) as rs
theorem xV.same{K:af}{H H':Hp}{l:Addr}{as:ai}{rs:List Xb}(h:xV K H l as rs)(s:aa H H'):xV K H' l as rs:=#[s _ _ h.1,Paired.bF h.2 λa r ⟨zs,e,t⟩=>#[zs,s _ _ e,t.same s]]
section v
theorem sE:bx ["rows","tie","place","row"] ["rows","tie"] (aX Rj):=bE
inductive rQ (K:af) (vs:ag) (H:Hp) (Q:VK) (E:XK):Prop
 |mk:∀(l t:Addr) (as:ai) (rs:List Xb) (tt:Str × Str),vs=[.ref l,.ref t]->xV K H l as rs->H t\.tup ((kT tt).map kV)->(∀r∈rs,r.length<=1000)->(∀H',aa H H'->Q (.int (f_ rs tt)) H')->rQ K vs H Q E
theorem ls_{f:Addr}{fd:Ae}(F:bj K "first_row_without" "first_row_without" Rj f fd)(B:Bi mg):!aq a9 1 f fd ["rows","tie"] (rQ K):=by
 exists F.bL sE;let#[l,t,as,rs,tt,rfl,R,ht,zD,k]:=h;let sz:=cn
 apply#[_,ax (eX eM Z (Pt (by rfl) B.enum %[0|0]) (pJ Z (d6 (cO 2 sE.nd) (d6 (cO 3 sE.nd) jI)))
   (aH (bO (eY (eK (cy (j6_ Z) (by rfl) B.any PyProof.Rows.Boot.«any» (eU
    (iV ["there","tie"] 1 [1] (d5 (pv 3)) (λfp s H=>eW (i:=0) (show (["there","tie"]:ae).Nodup by decide +kernel) Z (Or.inl Z)) (λfp s H=>ij)
     (λfp s H=>Tp (qp (Mo (K:=K) (λK=>Jq K false) Ws) (bM (vJ (K:=K) mI dz) (pv 1) aC) (pv 0) (by with_unfolding_all rfl)) (nu (qp (Mo (K:=K) (λK=>Jq K false) Ws) (bM (vJ (K:=K) mI dz) (pv 1) aC) (pv 0) (by with_unfolding_all rfl))))) bh)))) (aH (bg (pv 2))) bP)))
  (aH (bg (cy iL (by rfl) B.len ia %[0|0]))),?_]
 let la:=bH R.2;apply#[_,Z,l,Z,#[_,.of R.1],V0 (K:=K) (a:=l) (xs:=as.map V.ref) (λi σ H2=>∃(v2 v3:aL),σ=[some (.ref l),some (.ref t),v2,v3]/\aa H H2/\∀r∈rs.take i,r.any (hit tt)=true) #[none,none,Z,aa.refl H,by simp] (λi σ H2 _ ⟨_,_,_,s2,_⟩=>.of (s2 _ _ R.1)) ?_ ?_]
 ·rintro i x σ H2 hx ⟨v2,v3,rfl,s2,past⟩ u hu
  have hi:i<as.length:=by
   have:=(cw.mp hx).1;rwa [ay] at this
  have ex:x=.ref as[i]:=by
   rw[dU,cE hi] at hx;exact (d7 hx).symm
  subst ex;have JG:i<rs.length:=by omega
  let#[zs,Ug,tz]:=ig R.2 i hi JG;have s3:aa H (upd H2 u (.tup [.int i,.ref as[i]])):=s2.trans (aa.new hu);have Nq:upd H2 u (.tup [.int i,.ref as[i]]) u\.tup [.int i,.ref as[i]]:=au;generalize upd H2 u (.tup [.int i,.ref as[i]])=H3 at s3 Nq ⊢;apply#[u,_,Z,.of Nq,Z,_,_,Z,_,_,Z,Z,?_];apply#[_,Z,as[i],Z,#[_,.of (s3 _ _ Ug)],λD hD=>?_];let lz:=bH tz;rw[ay] at lz;let lr:=zD rs[i] (nU JG);apply jK (own:=1) (fv:=[some (.ref t)]) (xs:=zs) Z dR (λj out H'=>aa H3 H'/\H' D\.lst out/\out=((rs[i].take j).map (hit tt)).map V.bl) #[aa.new hD,au,Z] (λj out H' _ ⟨sm,_,_⟩=>.of (sm _ _ (s3 _ _ Ug))) (λout H4 ⟨s4,qD,eo⟩=>?_) (λj y out H' hy ⟨sm,dE,eo⟩=>?_)
  ·rw[lz,eN] at eo;subst eo;apply#[D,rs[i].map (hit tt),Z,.of qD,#[_,Z,?_]];have G6:(rs[i].map (hit tt)).any id=rs[i].any (hit tt):=by rw[List.any_map];rfl
   apply aN (λc=>?_) (λc=>?_)
   ·have c:rs[i].any (hit tt)=false:=by
     have:(!(rs[i].map (hit tt)).any id)=true:=c;rw[G6] at this;simpa using this
    have e:f_ rs tt=i:=by
     unfold f_;rw[List.findIdx_eq JG];apply#[by rw[c];rfl,λj hj=>?_];have:=past (rs[j]' Z1) (List.mem_iff_getElem?.mpr #[j,by rw[List.getElem?_take_of_lt hj,cE Z1]]);rw[this];rfl
    apply#[_,Z,?_];have:=k H4 (s3.trans s4);rw[e] at this;exact this
   have c:rs[i].any (hit tt)=true:=by
    have:¬(!(rs[i].map (hit tt)).any id)=true:=c;rw[G6] at this;simpa using this
   apply#[_,_,Z,s3.trans s4,λr hr=>?_];rw[jr,cE JG] at hr;rcases fL.mp hr with hr|hr
   ·exact past r hr
   obtain rfl:r=rs[i]:=⇑hr
   exact c
  let#[q,hq,a,rfl,ha]:=nX tz hy;let U0:=sm _ _ (s3 _ _ (zp ha));let iu:=sm _ _ (s3 _ _ (zp ht))
  have lo:out.length<sizeLine:=by
   rw[eo,ay,ay,dJ];omega
  apply#[_,Z,Z,λNx hN=>dB ?_];have nx:Nx (upd H' D (.lst (out++[.bl (hit tt q)]))):=hN _ _ #[gU sm hD,au,by rw[D_ _ hq,cu,eo];rfl];apply#[_,Z,t,_,_,_,Z,Z,.of iu,Z,_,Z,a,_,Z,.inr (.of U0),Z,Z,_,Z,?_];apply aN (λc=>?_) (λc=>?_)
  ·have c:(decide (q.1=tt.1) || decide (q.2=tt.1))=true:=by rw[<- OF];exact c
   apply#[out,dE,lo,?_];rwa [show hit tt q=true by unfold hit;rw[c];rfl] at nx
  have c:(decide (q.1=tt.1) || decide (q.2=tt.1))=false:=by
   rw[<- OF];simpa using c
  apply#[_,Z,t,_,_,_,Z,Z,.of iu,Z,_,Z,a,_,Z,.inr (.of U0),Z,Z,out,dE,lo,?_];rw[show hit tt q=FM (.str tt.2) [.str q.1,.str q.2] by unfold hit;rw[c,Bool.false_or,OF]] at nx;exact nx
 rintro σ H2 ⟨v2,v3,rfl,s2,past⟩;rw[ay,la,eN] at past;apply#[_,Z,l,_,Z,.inl (.of (s2 _ _ R.1)),?_]
 have e:f_ rs tt=rs.length:=by
  unfold f_;rw[List.findIdx_eq_length];intro r hr;rw[past r hr];rfl
 have:=k H2 s2;rw[e] at this;rw[ay,la];exact this
end
end Ev
namespace Ev
open PySem L2
abbrev lY:Stmt:=jE i7 8
theorem Q8{α β:Type}{F:α->β->Prop}:∀{l:List α} {m:List β},l.length=m.length->(∀(i:Nat) (h1:i<l.length) (h2:i<m.length),F l[i] m[i])->Paired F l m
 |[],[],_,_=>.nil
 |[],_::_,h,_=>by cases h
 |_::_,[],h,_=>by cases h
 |a::l,b::m,h,f=>.cons (f 0 Z2 Z2) (Q8 ⇑h λi h1 h2=>f (i+1) ⇑h1 ⇑h2)
def jh(rs:List Xb)(t:Str × Str):List Xb:=if h:f_ rs t<rs.length then rs.set (f_ rs t) (rs[f_ rs t]++[t]) else rs++[[t]]
def turnsOf(ts:Xb):List Xb:=ts.foldl jh []
theorem ix_(rs:List Xb)(t:Str × Str):f_ rs t<=rs.length:=List.findIdx_le_length
theorem Qw(rs:List Xb)(t:Str × Str):(jh rs t).length<=rs.length+1:=by
 unfold jh;split
 ·rw[List.length_set];omega
 rw[fA];exact bo _
theorem Qx{rs:List Xb}{t:Str × Str}{n:Nat}(h:∀r∈rs,r.length<=n):∀r∈jh rs t,r.length<=n+1:=by
 unfold jh;intro r hr;split at hr
 ·rename_i dY
  rcases List.mem_or_eq_of_mem_set hr with m|rfl
  ·have:=h r m;omega
  have:=h rs[f_ rs t] (nU dY);rw[fA];show rs[f_ rs t].length+1<=n+1;omega
 rcases fL.mp hr with m|m
 ·have:=h r m;omega
 obtain rfl:r=[t]:=⇑m
 simp
theorem xV.add{K:af}{H H':Hp}{l a:Addr}{as:ai}{rs:List Xb}{t:Str × Str}{zs:ag}(h:xV K H l as rs)(nd:as.Nodup){p:Nat}(hp:p<rs.length)(ha:as[p]? = some a)(hl:H' l\.lst (as.map V.ref))(hz:H' a\.lst zs)(tz:bC K H' zs ((rs[p]++[t]).map kT))
  (k:∀b o,H b\o->b≠l->b≠a->H' b\o) (j_:∀b∈as,b≠l) (kt:∀b xs,H b\.tup xs->H' b\.tup xs):xV K H' l as (rs.set p (rs[p]++[t])):=by
 let la:=bH h.2;apply#[hl,Q8 (by rw[List.length_set,la]) λi h1 h2=>?_];rw[List.length_set] at h2;let#[De,ea]:=cw.mp ha;by_cases e:p=i
 ·subst e;rw[List.getElem_set_self,ea];exact#[zs,hz,tz]
 rw[List.getElem_set_ne e];let#[Eg,e2,t2]:=ig h.2 i h1 h2;have ne:as[i]≠a:=λq=>e ((List.getElem_inj nd).mp (ea.trans q.symm));exact#[Eg,k _ _ e2 (j_ _ (nU h1)) ne,Paired.bF t2 λy q ⟨c,z,e⟩=>#[c,z,kt _ _ e]]
theorem fb_{α β:Type}{F:α->β->Prop}{l:List α}{m:List β}{a:α}{b:β}(h:Paired F l m)(f:F a b):Paired F (l++[a]) (m++[b]):=Paired.snoc h f
section v
theorem Kx:bx ["self","rows","tie","place"] gK (aX lY):=bE
inductive Iu (K:af) (C:Addr) (vs:ag) (H:Hp) (Q:VK) (E:XK):Prop
 |mk:∀(p:Addr) (hs:Xa) (ts:Xb) (fp:ai),vs=[.ref p]->fq K C H p hs ts fp->ts.length<64->(∀(l:Addr) (as:ai) (H':Hp),aa H H'->H l=none->(∀a∈as,H a=none)->(∀a∈as,a≠l)->as.Nodup->xV K H' l as (turnsOf (aM ts))->Q (.ref l) H')->Iu K C vs H Q E
theorem jd_{f C:Addr}{fd:Ae}(F:bj K "turns" "Web.turns" lY f fd)(B:Bi mg)(T:Txt K mg C)(cT:!br C 2 "ties" gK (Pp K C))(cR:!aY 1 "first_row_without" ["rows","tie"] (rQ K)):!aq a9 3 f fd gK (Iu K C):=by
 exists F.bL Kx;let#[p,hs,ts,fp,rfl,W,bS,k]:=h;let sz:=cn;let#[dx,d1,l2,d3,ju,RG,efp,h1,_]:=id W.ex;have _U:(dg d1 l2 d3).lookup ("ties":Str)=none:=iM _ _ _ Z0 Z0 Z0
 apply#[_,ax (bq 1 Kx.nd (eB bh))
  (ax (eX eM Z (d5 (uW cT T.cl hr (pv 0))) (cO 2 Kx.nd)
   (ax (bq 3 Kx.nd (aQ cR hr %[1,2|0]))
   (ax (bO (dj iy (pv 3) (cy iL (by rfl) B.len ia %[1|0]))
    (aH (jH (km k7 wc wd u_ (pv 1) %[eB bh|0]))) bP)
   (aH (jH (km k7 wc wd u_ (bM gL (pv 1) (pv 3)) %[2|0]))))))
  (aH (bg (pv 1)))),?_]
 apply#[zl,λlr NP=>?_];have s0:aa H (upd H lr (.lst [])):=aa.new NP;have xr:upd H lr (.lst []) lr\.lst []:=au;generalize upd H lr (.lst [])=H0 at s0 xr ⊢;apply#[_,Z,p,dx,_,Z,s0 _ _ h1,_U,p,hs,ts,fp,Z,W.same s0,bS,λlt zs H1 s1 dY ur tz=>?_];have C0:lt≠lr:=(bw xr dY).symm;let lz:=bH tz;rw[ay,D7] at lz;let qz:=D7 ts
 apply#[lt,Z,#[_,.of ur],ie (K:=K) (a:=lt) (xs:=zs) (λi σ H2=>∃(v2 v3:aL) (as:ai),σ=[some (.ref p),some (.ref lr),v2,v3]/\aP lr H1 H2/\(∀a∈as,H1 a=none/\a≠lr)/\as.Nodup/\xV K H2 lr as (turnsOf ((aM ts).take i))/\(turnsOf ((aM ts).take i)).length<=i/\∀r∈turnsOf ((aM ts).take i),r.length<=i)
  #[none,none,[],Z,aP.refl _ _,by simp,.nil,#[s1 _ _ xr,.nil],bo _,by intro r hr;simp[turnsOf] at hr] (λi σ H2 _ ⟨_,_,_,_,b,_⟩=>.of (b _ _ ur C0)) ?_ ?_]
 ·rintro i y σ H2 hy ⟨v2,v3,as,rfl,b2,fa,nd,R,l1,C7⟩;let#[t,ht,a,rfl,ha]:=nX tz hy;have hi:i<(aM ts).length:=(cw.mp ht).1;let NO:=s1 _ _ xr;have nal:a≠lr:=bX ha NO nofun;let kY:=b2 _ _ ha nal;let la:=bH R.2
  have BS:turnsOf ((aM ts).take (i+1))=jh (turnsOf ((aM ts).take i)) t:=by
   unfold turnsOf;rw[jr,ht,List.foldl_append];rfl
  generalize turnsOf ((aM ts).take i)=rs at R l1 C7 la BS;apply#[_,Z,_,Z,lr,a,as,rs,t,Z,R,kY,λr hr=>by have:=C7 r hr;omega,λH3 s3=>?_];let R3:=R.same s3;let jC:=s3 _ _ kY;have b3:aP lr H1 H3:=b2.trans (aP.of s3);have f3:∀a∈as,H1 a=none/\a≠lr:=fa;apply#[_,Z,_,Z,lr,_,Z,.inl (.of R3.1),Z,_,Z,?_];apply aN (λc=>?_) (λc=>?_)
  ·have c:f_ rs t=rs.length:=by
    have:V.int (f_ rs t)=V.int ((as.map V.ref).length:Nat):=⇑c
    rw[ay,la] at this;have:=V.int.inj this;omega
   apply#[_,Z,.inl #[Z,_,.of R3.1],zl,λln xt=>?_];let#[s4,NR]:=bp (o:=.lst []) xt;have Jv:ln≠lr:=(bw R3.1 xt).symm;apply#[lr,_,_,Z,Z,s4 _ _ R3.1,by rw[ay];omega,?_]
   have fln:H1 ln=none:=by
    cases z:H1 ln with
    |none=>rfl
    |some o=>
     have:=b3 _ _ z Jv;rw[xt] at this;cases this
   have nin:ln∉as:=λm=>by
    let#[j,hj,e]:=ku m;let#[zz,e2,_]:=ig R3.2 j hj Z1;rw[e,xt] at e2;cases e2
   have RF:fu (as.map V.ref++[V.ref ln]) (f_ rs t:Int)\.ref ln:=by
    rw[gC Z1 (by rw[fA,ay];show ((f_ rs t:Nat):Int)<((as.length+1:Nat):Int);omega),ve,c,Ak (by rw[ay];omega),ay,la,Nat.sub_self];rfl
   have Bt:upd (upd H3 ln (.lst [])) lr (.lst (as.map V.ref++[.ref ln])) lr\.lst (as.map V.ref++[.ref ln]):=au;have Bu:upd (upd H3 ln (.lst [])) lr (.lst (as.map V.ref++[.ref ln])) ln\.lst []:=by rw[aA Jv];exact NR
   have k5:∀{b o},H3 b\o->b≠lr->upd (upd H3 ln (.lst [])) lr (.lst (as.map V.ref++[.ref ln])) b\o:=λe ne=>by rw[aA ne];exact s4 _ _ e
   generalize upd (upd H3 ln (.lst [])) lr (.lst (as.map V.ref++[.ref ln]))=H5 at Bt Bu k5 ⊢;apply#[_,Z,_,Z,lr,_,_,_,Z,Z,.of Bt,RF,.inl #[Z,_,.of Bu],_,Z,ln,_,_,Z,Z,Bu,by show 0<sizeLine;decide,?_];have k6:∀{b o},H3 b\o->b≠lr->upd H5 ln (.lst ([]++[.ref a])) b\o:=λe ne=>by rw[aA (bw e xt)];exact k5 e ne
   have Gh:upd H5 ln (.lst ([]++[.ref a])) ln\.lst [.ref a]:=au;have Gf:upd H5 ln (.lst ([]++[.ref a])) lr\.lst (as.map V.ref++[.ref ln]):=by rw[aA Jv.symm];exact Bt
   generalize upd H5 ln (.lst ([]++[.ref a]))=H6 at k6 Gh Gf ⊢;have kt:∀b xs,H3 b\.tup xs->H6 b\.tup xs:=λb xs e=>k6 e (bX e R3.1 nofun)
   have ep:jh rs t=rs++[[t]]:=by
    unfold jh;rw[dif_neg Z1]
   apply#[_,_,as++[ln],Z,λb o e ne=>k6 (b3 _ _ e ne) ne,λx hx=>?_,?_,?_,?_,?_]
   ·rcases fL.mp hx with m|m
    ·exact fa x m
    obtain rfl:x=ln:=⇑m
    exact#[fln,Jv]
   ·rw[List.nodup_append]
    exact#[nd,by simp,λx hx z hz=>by
     obtain rfl:z=ln:=⇑hz
     exact λq=>nin (q▸hx)]
   ·rw[BS,ep];apply#[by rw[cu];exact Gf,fb_ (Q8 la λj h1 h2=>?_) #[_,Gh,.cons #[a,Z,kt _ _ jC] .nil]];let#[zz,e,tt]:=ig R3.2 j h1 h2;exact#[zz,k6 e (fa _ (nU h1)).2,Paired.bF tt λy q ⟨c,z,e⟩=>#[c,z,kt _ _ e]]
   ·rw[BS];have:=Qw rs t;omega
   rw[BS];exact Qx C7
  have c:f_ rs t<rs.length:=by
   let h1:=ix_ rs t
   have:¬f_ rs t=rs.length:=λe=>c (by
    rw[ay,la,e];simp)
   omega
  have De:f_ rs t<as.length:=by omega
  have nl:as[f_ rs t]≠lr:=(fa _ (nU De)).2;let#[zz,ez,Sk]:=ig R3.2 (f_ rs t) De c;let lzz:=bH Sk;rw[ay] at lzz;let lrow:=C7 _ (nU c)
  have RF:fu (as.map V.ref) (f_ rs t:Int)\.ref as[f_ rs t]:=by
   rw[gC Z1 (by rw[ay];omega),ve,dU,cE De];rfl
  apply#[_,Z,_,Z,lr,_,_,_,Z,Z,.of R3.1,RF,.inl #[Z,_,.of ez],_,Z,_,_,_,Z,Z,ez,by omega,?_];have k6:∀{b o},H3 b\o->b≠as[f_ rs t]->upd H3 as[f_ rs t] (.lst (zz++[.ref a])) b\o:=λe ne=>by rw[aA ne];exact e
  have h6:upd H3 as[f_ rs t] (.lst (zz++[.ref a])) as[f_ rs t]\.lst (zz++[.ref a]):=au;generalize upd H3 as[f_ rs t] (.lst (zz++[.ref a]))=H6 at k6 h6 ⊢;have kt:∀b xs,H3 b\.tup xs->H6 b\.tup xs:=λb xs e=>k6 e (bX e ez nofun)
  have ep:jh rs t=rs.set (f_ rs t) (rs[f_ rs t]++[t]):=by
   unfold jh;rw[dif_pos c]
  apply#[_,_,as,Z,λb o e ne=>k6 (b3 _ _ e ne) (bw e (fa _ (nU De)).1),fa,nd,?_,?_,?_]
  ·rw[BS,ep];apply R3.add nd c (cE De) (k6 R3.1 nl.symm) h6 ?_ (λb o e _ ne=>k6 e ne) (λb hb=>(fa b hb).2) kt;rw[cu];exact wm (Paired.bF Sk λy q ⟨c,z,e⟩=>#[c,z,kt _ _ e]) (kt _ _ jC)
  ·rw[BS];have:=Qw rs t;omega
  rw[BS];exact Qx C7
 rintro σ H2 ⟨v2,v3,as,rfl,b2,fa,nd,R,_,_⟩;rw[lz,<- qz,eN] at R;have s2:aa H H2:=λb o e=>b2 _ _ (s1 _ _ (s0 _ _ e)) (bw e NP);exact#[_,Z,k lr as H2 s2 NP (λa ha=>(s0.trans s1).free (fa a ha).1) (λa ha=>(fa a ha).2) nd R]
end
end Ev
namespace L2
open PySem PyProof.Rows
section
variable{X:Cx}
inductive tS (K:af) (x:V) (y:V) (H:Hp) (Q:VK):Prop
 |mk:∀a b xs,x=.ref a->y=.ref b->dW K H a xs->dW K H b []->Q (.bl xs.isEmpty) H->tS K x y H Q
theorem jq_(hu:X.A.units+0+1<cLine):dN X (compareOp .Eq) (tS X.K):=by
 intro pins s σ H x y v u Q I rx ry h;let#[a,b,xs,rfl,rfl,t,t',hq]:=h;cases xs with
 |nil=>exact TK hZ hu pins s σ H (.ref a) (.ref b) v u Q I rx ry #[[],[],#[a,[],Z,t,.nil],#[b,[],Z,t',.nil],hq]
 |cons z zs=>
  cases rx;cases ry;let#[us,r,pl,_]:=I.list t;let#[vs,r',oY,_]:=I.list t';let l1:=r.length;let l2:=r'.length;exact SeqAt.eq_list_lengthsAt pl.isList oY.isList (by simp only[cq,bne_iff_ne];simp at l1 l2;omega) Z1 #[.bl false,H,I,Z,hq]
end
end L2
namespace Ev
open PySem L2
def jD(ts:Xb)(m:Int):Xb:=((turnsOf (aM ts))[(m % ((turnsOf (aM ts)).length:Int)).toNat]?).getD []
def DI(hs:Xa)(ts:Xb)(qs:aI)(f:aj)(gd:Str)(t:Str × Str):ib:=mR hs ts qs f gd [] t.1 t.2++mR hs ts qs f gd [] t.2 t.1
def HM(hs:Xa)(ts:Xb)(qs:aI)(f:aj)(gd:Str)(m:Int):ib:=(jD ts m).flatMap (DI hs ts qs f gd)
theorem gt_{rs:List Xb}{t u:Str × Str}{r:Xb}(hr:r∈jh rs t)(hu:u∈r):u=t∨∃r'∈rs,u∈r':=by
 unfold jh at hr;split at hr
 ·rename_i dY
  rcases List.mem_or_eq_of_mem_set hr with m|rfl
  ·exact .inr #[r,m,hu]
  rcases fL.mp hu with h|h
  ·exact .inr #[_,nU dY,h]
  exact .inl ⇑h
 rcases fL.mp hr with m|m
 ·exact .inr #[r,m,hu]
 obtain rfl:r=[t]:=⇑m
 exact .inl ⇑hu
theorem WE{u:Str × Str}:∀(ts:Xb) (rs:List Xb) {r:Xb},r∈ts.foldl jh rs->u∈r->u∈ts∨∃r'∈rs,u∈r'
 |[],rs,r,hr,hu=>.inr #[r,hr,hu]
 |t::ts,rs,r,hr,hu=>by
  rw[List.foldl_cons] at hr;rcases WE ts (jh rs t) hr hu with h|⟨r',h1,h2⟩
  ·exact .inl (eR _ h)
  rcases gt_ h1 h2 with rfl|h
  ·exact .inl fM
  exact .inr h
theorem QU:∀(ts:Xb) (rs:List Xb),(ts.foldl jh rs).length<=rs.length+ts.length
 |[],rs=>bo _
 |t::ts,rs=>by
  rw[List.foldl_cons,kB];let h1:=QU ts (jh rs t);let h2:=Qw rs t;omega
theorem Xh{n:Nat}:∀(ts:Xb) (rs:List Xb),(∀r∈rs,r.length<=n)->∀r∈ts.foldl jh rs,r.length<=n+ts.length
 |[],rs,h,r,hr=>h r hr
 |t::ts,rs,h,r,hr=>by
  rw[List.foldl_cons] at hr;have:=Xh (n:=n+1) ts (jh rs t) (Qx h) r hr;rw[kB];omega
theorem W4{ts:Xb}{m:Int}{u:Str × Str}(h:u∈jD ts m):u∈aM ts:=by
 unfold jD at h;cases e:(turnsOf (aM ts))[(m % ((turnsOf (aM ts)).length:Int)).toNat]? with
 |none=>rw[e] at h;cases h
 |some r=>
  rw[e] at h;rcases WE (aM ts) [] (dA e) h with z|⟨_,z,_⟩
  ·exact z
  cases z
theorem eO_{hs:Xa}{ts:Xb}(G:Good hs ts)(m:Int):(jD ts m).length<64:=by
 unfold jD;cases e:(turnsOf (aM ts))[(m % ((turnsOf (aM ts)).length:Int)).toNat]? with
 |none=>show 0<64;decide
 |some r=>
  have:=Xh (n:=0) (aM ts) [] Z2 r (dA e);rw[D7] at this;have:=G.rN;show r.length<64;omega
theorem VS{hs:Xa}{ts:Xb}(G:Good hs ts){u:Str × Str}(h:u∈aM ts):u.1∈aF hs/\u.2∈aF hs:=by
 have k:kT u∈(aM ts).map kT:=bG.mpr #[u,h,Z];rw[KW,(nO _).mem_iff] at k;let#[t,ht,e]:=bG.mp k;let e:=G4 e;let#[h1,h2]:=G.Ja t ht;let n1:=(iW hs).mem_iff.mpr h1;let n2:=(iW hs).mem_iff.mpr h2;rw[<- e];unfold aU;split
 ·exact#[n1,n2]
 exact#[n2,n1]
theorem VC{α β:Type}{g:α->List β}{n:Nat}(h:∀x,(g x).length<=n):∀l:List α,(l.flatMap g).length<=n * l.length
 |[]=>gM _
 |a::l=>by
  let h1:=h a;let h2:=VC h l;rw[List.flatMap_cons,fA,kB,Nat.mul_succ];omega
theorem fV_(hs:Xa)(ts:Xb)(qs:aI)(f:aj)(gd:Str)(t:Str × Str):(DI hs ts qs f gd t).length<=2:=by
 unfold DI;rw[fA];let h1:=Cs hs ts qs f gd [] t.1 t.2;let h2:=Cs hs ts qs f gd [] t.2 t.1;omega
section v
theorem IC:bx ["sight","guard","moment","rows","moves","one","other"] ["sight","guard","moment"] (aX Qh):=bE
inductive QW (K:af) (CS CG CW:Addr) (vs:ag) (H:Hp) (Q:VK) (E:XK):Prop
 |mk:∀(v g p:Addr) (gd:Str) (m:Int) (hs:Xa) (ts:Xb) (qs:aI) (fp:ai) (f:aj),vs=[.ref v,.str gd,.int m]->0<=m->iQ K CS CG CW H v g p hs ts qs fp f->Wd hs ts qs f->(∀l ys H',aa H H'->H l=none->H' l\.lst ys->bC K H' ys ((HM hs ts qs f gd m).map kM)->Q (.ref l) H')->QW K CS CG CW vs H Q E
theorem fT_{f0 CS CG CW:Addr}{fd:Ae}(F:bj K "moves_by_turns" "moves_by_turns" Qh f0 fd)(B:Bi mg)(TS:gE K CS)(TG:dM K CG)(TW:Txt K mg CW)(cT:!br CW 3 "turns" gK (Iu K CW))(cH:!aY 4 "heaviest_move" kE (jT K CS CG CW)):!aq a9 5 f0 fd ["sight","guard","moment"] (QW K CS CG CW):=by
 exists F.bL IC;let#[v,g,p,gd,m,hs,ts,qs,fp,f,rfl,m0,S,W,k]:=h;let sz:=cn;have F1:bf 3 _:=hr.mono (by decide);refine' #[_,?r0,?kk]
 case' r0=>refine' ax ?s1 ?r1
 case' r1=>refine' ax ?s2 ?r2
 case' r2=>refine' ax ?s3 (ax ?s4 (aH ?s5))
 case s1=>exact bq 3 IC.nd (uW cT TW.cl F1 (dG (dG (pv 0) Z) Z))
 case s2=>exact bO (dj (jq_ (nC hr 0)) (pv 3) (eB bh)) (aH (bg (eB bh))) bP
 case s3=>exact bq 4 IC.nd (eB bh)
 case' s4=>refine' eX eM Z (d5 (bM gL (pv 3) (bN uX (pv 2) (cy iL (by rfl) B.len ia %[3|0])))) (pJ Z (d6 (cO 5 IC.nd) (d6 (cO 6 IC.nd) jI))) (ax ?b1 (aH ?b2))
 case b1=>exact jH (km k7 DV DW D0 (pv 4) %[aQ cH hr %[0,5,6,1,eB bh|0]|0])
 case b2=>exact jH (km k7 DV DW D0 (pv 4) %[aQ cH hr %[0,6,5,1,eB bh|0]|0])
 case s5=>exact bg (pv 4)
 let#[dx,dl,dv,dp,ad,h1,G,h3,h4,h5,h6]:=S.ex;let#[gR,dw,dy,vs,bR,g1,g2,_]:=id G.ex;let#[eV,d1,l2,d3,ju,RG,ef,w1,_]:=id g2.ex;have hV:(dg d1 l2 d3).lookup ("turns":Str)=none:=iM _ _ _ Z0 Z0 Z0;apply#[_,Z,v,CS,dx,_,_,Z,h1,TS.cl,TS.nW,gQ _ _ _ _,g,CG,gR,_,_,Z,g1,TG.cl,TG.nW,kA _ _ _,p,eV,_,Z,w1,hV,p,hs,ts,bR,Z,g2,W.Gd.rN,λlr as H1 s1 nr _ _ _ R=>?_];lk;let la:=bH R.2;apply#[_,Z,zl,λle ne=>?_];let#[vF,e2]:=bp (o:=.lst []) ne;generalize upd H1 le (.lst [])=H2 at vF e2 ⊢;let s2:=s1.trans vF;let R2:=R.same vF;apply#[lr,le,_,Z,Z,.of R2.1,.of e2,_,Z,?_];apply aN (λc=>?_) (λc=>?_)
 ·have z:as=[]:=⇑c
  have z:turnsOf (aM ts)=[]:=by
   rw[z] at la;exact Eb.mp la.symm
  apply#[zl,λl nl=>?_];apply k l [] _ (s2.trans (aa.new nl)) (s2.free nl) au ?_;unfold HM jD;rw[z];exact .nil
 have z:as≠[]:=⇑c
 have pos:0<as.length:=List.length_pos_iff.mpr z;apply#[zl,λlm nm=>?_];lk;let#[A2,e3]:=bp (o:=.lst []) nm;generalize upd H2 lm (.lst [])=H3 at A2 e3 ⊢;let s3:=s2.trans A2;have CZ:H lm=none:=s2.free nm;let R3:=R2.same A2
 have lt:(m % ((turnsOf (aM ts)).length:Int)).toNat<as.length:=by
  let h1:=Int.emod_nonneg m (show ((as.length:Nat):Int)≠0 by omega);let h2:=Int.emod_lt_of_pos m (show 0<((as.length:Nat):Int) by omega);rw[<- la];omega
 have lt':(m % ((turnsOf (aM ts)).length:Int)).toNat<(turnsOf (aM ts)).length:=by omega
 let#[zs,hz,tz]:=ig R2.2 _ lt lt'
 have er:jD ts m=(turnsOf (aM ts))[(m % ((turnsOf (aM ts)).length:Int)).toNat]:=by
  unfold jD;rw[cE lt'];rfl
 rw[<- er] at tz;let lm63:=eO_ W.Gd m;have _i:∀u∈jD ts m,u.1∈aF hs/\u.2∈aF hs:=λu hu=>VS W.Gd (W4 hu);let h0:=Int.emod_nonneg m (show (((turnsOf (aM ts)).length:Nat):Int)≠0 by omega)
 have ix:fu (as.map V.ref) (m % ((as.map V.ref).length:Int))\.ref (as[(m % ((turnsOf (aM ts)).length:Int)).toNat]):=by
  rw[ay,la,gC h0 (by rw[ay];omega),dU,cE lt];rfl
 generalize as[(m % ((turnsOf (aM ts)).length:Int)).toNat]=ar at hz ix;let lz:=bH tz;rw[ay] at lz;have RH:ar≠lm:=bw hz nm;replace hz:=A2 _ _ hz;replace tz:=tz.same A2;apply#[_,Z,_,Z,_,Z,lr,_,Z,.inl (.of R3.1),_,_,Z,Z,by rw[ay];omega,lr,_,_,_,Z,Z,.of R3.1,ix,ar,Z,#[_,.of hz],ie (K:=K) (a:=ar) (xs:=zs) (λi σ H'=>∃(v5 v6:aL) (ys:ag),σ=[some (.ref v),some (.str gd),some (.int m),some (.ref lr),some (.ref lm),v5,v6]/\aa H H'/\aP lm H3 H'/\H' lm\.lst ys/\bC K H' ys ((((jD ts m).take i).flatMap (DI hs ts qs f gd)).map kM)) #[none,none,[],Z,s3,aP.refl _ _,e3,.nil] (λi σ H' _ ⟨_,_,_,_,_,b,_⟩=>.of (b _ _ hz RH)) ?_ ?_]
 ·rintro i x σ H4 hx ⟨v5,v6,ys,rfl,s4,b4,m4,t4⟩;let#[u,hu,a,rfl,ha]:=nX tz hx;have hi:i<(jD ts m).length:=(cw.mp hu).1;let#[n1,n2]:=_i u (dA hu);have uB:H4 a\.tup [.str u.1,.str u.2]:=b4 _ _ ha (bX ha e3 nofun);apply#[a,_,Z,.of uB,Z,_,_,Z,_,_,Z,Z,?_];dsimp only;let ly:=bH t4;rw[ay] at ly;let bl:=VC (fV_ hs ts qs f gd) ((jD ts m).take i);rw[dJ] at bl;let l1:=Cs hs ts qs f gd [] u.1 u.2;let C7:=Cs hs ts qs f gd [] u.2 u.1;apply#[_,Z,.inl #[Z,_,.of m4],_,Z,_,Z,_,Z,_,Z,zl,λlg ng=>?_];let#[tN,e5]:=bp (o:=.lst []) ng;generalize upd H4 lg (.lst [])=H5 at tN e5 ⊢;apply#[v,g,p,lg,u.1,u.2,gd,[],hs,ts,qs,fp,f,Z,S.same (s4.trans tN),W,n1,n2,e5,λl6 z6 H6 oR n6 e6 t6=>?_];let yP:=tN.trans oR;let m6:=yP _ _ m4;let lz6:=bH t6;rw[ay] at lz6;apply#[lm,l6,ys,z6,Z,Z,m6,e6,by omega,?_];have s7:aa H (upd H6 lm (.lst (ys++z6))):=gU (s4.trans yP) CZ;have b7:aP lm H3 (upd H6 lm (.lst (ys++z6))):=λb o e n=>by rw[aA n];exact yP _ _ (b4 _ _ e n)
  have e7:upd H6 lm (.lst (ys++z6)) lm\.lst (ys++z6):=au
  have t7:bC K (upd H6 lm (.lst (ys++z6))) (ys++z6) ((((jD ts m).take i).flatMap (DI hs ts qs f gd)++mR hs ts qs f gd [] u.1 u.2).map kM):=by
   rw[cu];exact jG (iX (t4.same yP) m6) (iX t6 m6)
  generalize upd H6 lm (.lst (ys++z6))=H7 at s7 b7 e7 t7 ⊢;dsimp only;apply#[_,Z,.inl #[Z,_,.of e7],_,Z,_,Z,_,Z,_,Z,zl,λTr ng2=>?_];let#[tL,e8]:=bp (o:=.lst []) ng2;generalize upd H7 Tr (.lst [])=H8 at tL e8 ⊢;apply#[v,g,p,Tr,u.2,u.1,gd,[],hs,ts,qs,fp,f,Z,S.same (s7.trans tL),W,n2,n1,e8,λl9 z9 H9 _c n9 e9 t9=>?_];let Jo:=tL.trans _c;let m9:=Jo _ _ e7;let lz9:=bH t9;have ly7:(ys++z6).length=ys.length+z6.length:=fA;rw[ay] at lz9;apply#[lm,l9,ys++z6,z9,Z,Z,m9,e9,by omega,?_];apply#[_,_,(ys++z6)++z9,Z,gU (s7.trans Jo) CZ,λb o e n=>by rw[aA n];exact Jo _ _ (b7 _ _ e n),au,?_];rw[show (jD ts m).take (i+1)=(jD ts m).take i++[u] by rw[jr,hu];rfl,List.flatMap_append,List.flatMap_cons,List.flatMap_nil,Al];unfold DI;rw[<- List.append_assoc,cu];exact jG (iX (t7.same Jo) m9) (iX t9 m9)
 rintro σ H4 ⟨v5,v6,ys,rfl,s4,b4,m4,t4⟩;rw[lz,eN] at t4;exact#[_,Z,k lm ys H4 s4 CZ m4 t4]
theorem oI:bx ["sight","rule","moment","words","moves","hand"] vV (aX jX):=bE
inductive OX (K:af) (CS CG CW:Addr) (vs:ag) (H:Hp) (Q:VK) (E:XK):Prop
 |mk:∀(v g p:Addr) (m:Int) (gd:Str) (hs:Xa) (ts:Xb) (qs:aI) (fp:ai) (f:aj),∀r∈rl,vs=[.ref v,.str r.1,.int m]->r.2.1="turns"->r.2.2.2\gd->0<=m->iQ K CS CG CW H v g p hs ts qs fp f->Wd hs ts qs f->(∀l ys H',aa H H'->H l=none->H' l\.lst ys->bC K H' ys ((HM hs ts qs f gd m).map kM)->Q (.ref l) H')->OX K CS CG CW vs H Q E
theorem il_{f0 CS CG CW:Addr}{fd:Ae}(F:bj K "moves_seen" "moves_seen" jX f0 fd)(xZ:!aY 2 BU ["rule"] (Io K))(cT:!aY 5 "moves_by_turns" ["sight","guard","moment"] (QW K CS CG CW)):!aq a9 6 f0 fd vV (OX K CS CG CW):=by
 exists F.bL oI;let#[v,g,p,m,gd,hs,ts,qs,fp,f,r,cc,rfl,le,eg,m0,S,W,k]:=h;refine' #[_,ax ?s1 (ax ?s2 eD),?kk]
 case s1=>exact DP (i:=3) oI.nd Z (Or.inl Z) (aQ xZ hr %[1|0])
 case s2=>exact bO (dj iy (bM dz (pv 3) aC) dI) (aH (bg (aQ cT hr %[0,bM dz (pv 3) aC,2|0]))) bP
 apply#[_,Z,r,cc,Z,λaw ha=>?_];lk;apply#[_,Z,aw,_,_,_,Z,Z,ha _,Z,Z,_,Z,?_];rw[pN,cb le];apply dD ?_;apply#[_,Z,_,Z,aw,_,_,.str gd,Z,Z,ha _,?_,_,Z,v,g,p,gd,m,hs,ts,qs,fp,f,Z,m0,S,W,k];rw[eg];rfl
end
end Ev
namespace Ev
open PySem L2
theorem aq.two{P:Ad}{w:Af}{K:af}{mg:Str->Option Aa}{base:Heap}{CX:jN}{k:Nat}{f:Addr}{fd:Ae}{ps:ae}{sp SG L5:Sp}(F:!aq CX k f fd ps SG)(G:!aq CX k f fd ps L5)(h:∀vs H Q E,sp vs H Q E->SG vs H Q E∨L5 vs H Q E):!aq CX k f fd ps sp:=
 #[λvs H Q E q=>(h vs H Q E q).elim (F.len vs H Q E) (G.len vs H Q E),λA outer s H args us vs Q E hr e b v q=>(h vs H Q E q).elim (F.run A outer s H args us vs Q E hr e b v) (G.run A outer s H args us vs Q E hr e b v)]
def uS:Am:=λr hs ts qs f h=>if r.2.1="least" then zP r hs ts qs f h else if r.2.1="below" then Ci r hs ts qs f h else DR r hs ts qs f h
theorem k1_:∀r∈rl,r.2.1≠"turns"->r.2.1≠"least"->r.2.1≠"below"->r.2.1="shares":=by decide +kernel
theorem jo_:∀r∈rl,r.2.1="turns"->r.2.2.2.isSome=true:=by decide +kernel
theorem hU_{r:Rl}(h:r.2.1="least")(hs:Xa)(ts:Xb)(qs:aI)(f:aj)(x:Str):uS r hs ts qs f x=zP r hs ts qs f x:=aJ h
theorem h3_{r:Rl}(h:r.2.1="below")(hs:Xa)(ts:Xb)(qs:aI)(f:aj)(x:Str):uS r hs ts qs f x=Ci r hs ts qs f x:=(aB (by rw[h];decide +kernel)).trans (aJ h)
theorem fZ_{r:Rl}(h:r.2.1="shares")(hs:Xa)(ts:Xb)(qs:aI)(f:aj)(x:Str):uS r hs ts qs f x=DR r hs ts qs f x:=(aB (by rw[h];decide +kernel)).trans (aB (by rw[h];decide +kernel))
def jx(r:Rl)(hs:Xa)(ts:Xb)(qs:aI)(f:aj)(m:Int):ib:=if r.2.1="turns" then HM hs ts qs f (r.2.2.2.getD "") m else Hk uS r hs ts qs f
def fJ(r:Rl)(ts:Xb):Nat:=if r.2.1="turns" then max 1 (turnsOf (aM ts)).length else 1
def gJ(r:Rl)(hs:Xa)(ts:Xb)(qs:aI)(f:aj):Bool:=(List.range (fJ r ts)).all λm=>(jx r hs ts qs f m).isEmpty
def BT(T1 T2:Addr)(H H':Hp):Prop:=∀b o,H b\o->b≠T1->b≠T2->H' b\o
theorem BT.of{T1 T2:Addr}{H H':Hp}(s:aa H H'):BT T1 T2 H H':=λb o e _ _=>s b o e
theorem BT.trans{T1 T2:Addr}{H H1 H2:Hp}(a:BT T1 T2 H H1)(b:BT T1 T2 H1 H2):BT T1 T2 H H2:=λc o e n1 n2=>b c o (a c o e n1 n2) n1 n2
theorem BT.nt{T1 T2:Addr}{H H':Hp}(a:BT T1 T2 H H')(tb:Tb H T1 T2):NT H H':=λb o e n=>by
 let#[v1,h1]:=gc tb.a;let#[v2,h2]:=gc tb.b;exact a b o e (λz=>n v1 (by rw[z,h1] at e;exact (d7 e).symm)) (λz=>n v2 (by rw[z,h2] at e;exact (d7 e).symm))
theorem BT.sec{T1 T2:Addr}{H H':Hp}(a:aP T2 H H'):BT T1 T2 H H':=λb o e _ n=>a b o e n
section
variable{P:Ad}{w:Af}{K:af}{mg:Str->Option Aa}{base:Heap}{CS CG CW T1 T2:Addr}
theorem g0_{f0:Addr}{fd:Ae}{T:Addr}(l:!aq a9 6 f0 fd vW (we K CS CG CW T (λr=>r.2.1="least") zP))(b:!aq a9 6 f0 fd vW (we K CS CG CW T (λr=>r.2.1="below") Ci))(s:!aq a9 6 f0 fd vW (we K CS CG CW T (λr=>r.2.1="shares") DR)):!aq a9 6 f0 fd vW (we K CS CG CW T (λr=>r.2.1≠"turns") uS):=by
 apply aq.two l (L5:=we K CS CG CW T (λr=>r.2.1≠"turns"/\r.2.1≠"least") uS) (aq.two b s λvs H Q E q=>?_) λvs H Q E q=>?_
 ·let#[v,g,p,aw,h,hs,ts,qs,fp,f,r,hr,e,#[n1,n2],ha,S,W,hh,tab,k]:=q;by_cases c:r.2.1="below"
  ·exact .inl #[v,g,p,aw,h,hs,ts,qs,fp,f,r,hr,e,c,ha,S,W,hh,tab,λl ys H' b t n e tu=>k l ys H' b t n e (by rw[h3_ c];exact tu)]
  let c:=k1_ r hr n1 n2 c;exact .inr #[v,g,p,aw,h,hs,ts,qs,fp,f,r,hr,e,c,ha,S,W,hh,tab,λl ys H' b t n e tu=>k l ys H' b t n e (by rw[fZ_ c];exact tu)]
 let#[v,g,p,aw,h,hs,ts,qs,fp,f,r,hr,e,n1,ha,S,W,hh,tab,k]:=q;by_cases c:r.2.1="least"
 ·exact .inl #[v,g,p,aw,h,hs,ts,qs,fp,f,r,hr,e,c,ha,S,W,hh,tab,λl ys H' b t n e tu=>k l ys H' b t n e (by rw[hU_ c];exact tu)]
 exact .inr #[v,g,p,aw,h,hs,ts,qs,fp,f,r,hr,e,#[n1,c],ha,S,W,hh,tab,k]
inductive Ir (K:af) (CS CG CW T:Addr) (vs:ag) (H:Hp) (Q:VK) (E:XK):Prop
 |mk:∀(v g p:Addr) (m:Int) (hs:Xa) (ts:Xb) (qs:aI) (fp:ai) (f:aj),∀r∈rl,vs=[.ref v,.str r.1,.int m]->0<=m->iQ K CS CG CW H v g p hs ts qs fp f->Wd hs ts qs f->cg H T jw->(∀l ys H',aP T H H'->cg H' T jw->H l=none->H' l\.lst ys->bC K H' ys ((jx r hs ts qs f m).map kM)->Q (.ref l) H')->Ir K CS CG CW T vs H Q E
theorem iD_{f0:Addr}{fd:Ae}{T:Addr}(a:!aq a9 7 f0 fd vV (lJ K CS CG CW T (λr=>r.2.1≠"turns") uS))(t:!aq a9 6 f0 fd vV (OX K CS CG CW)):!aq a9 7 f0 fd vV (Ir K CS CG CW T):=by
 apply aq.two a (t.mono (by decide)) λvs H Q E q=>?_;let#[v,g,p,m,hs,ts,qs,fp,f,r,hr,e,m0,S,W,tab,k]:=q;by_cases c:r.2.1="turns"
 ·let#[gd,eg]:=CC.mp (jo_ r hr c);exact .inr #[v,g,p,m,gd,hs,ts,qs,fp,f,r,hr,e,c,eg,m0,S,W,λl ys H' s n e tu=>k l ys H' (aP.of s) (tab.same s) n e (by unfold jx;rw[aJ c,eg];exact tu)]
 exact .inl #[v,g,p,m,hs,ts,qs,fp,f,r,hr,e,c,S,W,tab,λl ys H' b t n e tu=>k l ys H' b t n e (by unfold jx;rw[aB c];exact tu)]
theorem sy:bx ["web","rule"] ["web","rule"] (aX O6):=bE
inductive K7 (K:af) (C:Addr) (vs:ag) (H:Hp) (Q:VK) (E:XK):Prop
 |mk:∀(p:Addr) (hs:Xa) (ts:Xb) (fp:ai),∀r∈rl,vs=[.ref p,.str r.1]->fq K C H p hs ts fp->ts.length<64->(∀H',aa H H'->Q (.int (fJ r ts)) H')->K7 K C vs H Q E
theorem i9_{f C:Addr}{fd:Ae}(F:bj K "rows_by" "rows_by" O6 f fd)(B:Bi mg)(T:Txt K mg C)(cW:!aY 2 BU ["rule"] (Io K))(cT:!br C 3 "turns" gK (Iu K C)):!aq a9 4 f fd ["web","rule"] (K7 K C):=by
 exists F.bL sy;let#[p,hs,ts,fp,r,cc,rfl,W,h1,k]:=h;refine' #[_,ax ?s1 (aH ?s2),?kk]
 case s1=>exact bO (dj B5 (bM dz (aQ cW hr %[1|0]) aC) dI) (aH (bg aC)) bP
 case s2=>exact bg (cy (QR Z) (by rfl) B.max JZ %[aC,cy iL (by rfl) B.len ia %[uW cT T.cl hr (pv 0)|0]|0])
 apply#[_,Z,r,cc,Z,λa ha=>?_];apply#[a,_,_,_,Z,Z,ha _,Z,Z,_,Z,?_];apply aN (λc=>?_) (λc=>?_)
 ·have c:¬r.2.1="turns":=by simpa [pN] using c
  have:=k H (aa.refl _);unfold fJ at this;rw[aB c] at this;exact this
 have c:r.2.1="turns":=by simpa [pN] using c
 let#[eV,d1,l2,d3,ju,RG,ef,w1,_]:=id W.ex;apply#[_,Z,p,eV,_,Z,w1,iM _ _ _ Z0 Z0 Z0,p,hs,ts,fp,Z,W,h1,λl as H' s _ _ _ _ R=>?_];apply#[l,_,Z,.inl (.of R.1),_,_,Z,?_];let la:=bH R.2;have:=k H' s;unfold fJ at this;rw[aJ c,<- la] at this;rw[ay,show (if ((as.length:Nat):Int) > 1 then ((as.length:Nat):Int) else 1)=((max 1 as.length:Nat):Int) by split<;>omega]
 exact this
theorem Pn:bx ["goods","placed","rule","sight","moment"] pT (aX Qj):=bE
structure RO (K:af) (CG CW T1 T2:Addr) (H:Hp) (g p d:Addr) (hs:Xa) (ts:Xb) (qs:aI) (fp:ai) (f:aj):Prop where
 Pl:qr K CG CW H g p d hs ts qs fp f
 W:Wd hs ts qs f
 tb:Tb H T1 T2
 has:∀b∈fp,∃o,H b\o
inductive KA (K:af) (CG CW T1 T2:Addr) (vs:ag) (H:Hp) (Q:VK) (E:XK):Prop
 |mk:∀(g p d:Addr) (hs:Xa) (ts:Xb) (qs:aI) (fp:ai) (f:aj),∀r∈rl,vs=[.ref g,.ref d,.str r.1]->RO K CG CW T1 T2 H g p d hs ts qs fp f->(∀H',BT T1 T2 H H'->Tb H' T1 T2->Q (.bl (gJ r hs ts qs f)) H')->KA K CG CW T1 T2 vs H Q E
theorem io_{f0:Addr}{fd:Ae}(F:bj K "rests_at" "rests_at" Qj f0 fd)(B:Bi mg)(TG:dM K CG)(Ig:!ik CS 7 "Sight" DB (HN K CS CG CW T1))(yb:!aY 7 "moves_seen" vV (Ir K CS CG CW T2))(yc:!aY 4 "rows_by" ["web","rule"] (K7 K CW)):!aq a9 9 f0 fd pT (KA K CG CW T1 T2):=by
 exists F.bL Pn;let#[g,p,d,hs,ts,qs,fp,f,r,cc,rfl,D,k]:=h;let sz:=cn;refine' #[_,ax ?s1 (ax ?s2 (aH (bg xP))),?kk]
 case s1=>exact bq 3 Pn.nd (BZ Ig hr %[0,1|0])
 case' s2=>refine' eX eM Z (Cn (by rfl) B.range %[aQ yc hr %[dG (pv 0) Z,2|0]|0]) (cO 4 Pn.nd) (aH (bO ?e1 (aH (bg xP)) bP))
 case e1=>exact dj (VD (nC hr 0)) (aQ yb hr %[3,2,4|0]) (eB bh)
 apply#[_,Z,_,Z,λv dx hv xy ne=>?_];have s2:aa H (upd (upd H dx (.own v)) v (.ins CS dx [])):=(aa.new xy).trans (aa.new (by rw[aA ne.symm];exact hv));have e2:upd (upd H dx (.own v)) v (.ins CS dx []) v\.ins CS dx []:=au;generalize upd (upd H dx (.own v)) v (.ins CS dx [])=H2 at s2 e2 ⊢
 have yx:v∉fp:=λhm=>by
  let#[o,e]:=D.has v hm;rw[e] at hv;cases hv
 have IM:qr K CG CW H2 g p d hs ts qs fp f:=#[D.Pl.G.same s2,D.W.Gd,D.Pl.je,s2 _ _ D.Pl.hd,D.W.at_,D.W.nd,D.W.bS];apply#[v,dx,g,p,d,hs,ts,qs,fp,f,Z,e2,yx,IM,D.W,D.tb.a.same s2,λH3 k3 gj S3=>#[Z,?_]];lk;let#[Sn,Ds]:=gc D.tb.a;have zh:∀b o,H b\o->b≠T1->H3 b\o:=λb o e n=>k3 b o (s2 _ _ e) (bw e hv) n;have j5:NT H H3:=λb o e n=>zh b o e (λz=>by rw[z,Ds] at e;exact n _ (d7 e).symm)
 have fC:cg H3 T2 jw:=by
  let#[es,a1,a2]:=D.tb.b;exact#[es,zh _ _ a1 D.tb.ne.symm,λx hx=>j5 _ _ (a2 x hx) nofun]
 let#[_,_,_,_,_,_,GA3,_]:=id S3.ex;let#[gR,dw,dy,vs,bR,g1,g2,_]:=id GA3.ex
 have rn:fJ r ts<=64:=by
  let tl:=QU (aM ts) [];rw[D7,qP] at tl;let rN:=D.W.Gd.rN
  have:(turnsOf (aM ts)).length<=64:=by
   show ((aM ts).foldl jh []).length<=64;omega
  unfold fJ;split<;>omega
 apply#[_,Z,g,CG,gR,_,_,Z,g1,TG.cl,TG.nW,kA _ _ _,_,Z,p,hs,ts,bR,r,cc,Z,g2,D.W.Gd.rN,λH4 s4=>?_];apply#[((fJ r ts:Nat):Int),Z,by omega,by omega,?_];have XJ:BT T1 T2 H H4:=λb o e n1 n2=>s4 _ _ (zh b o e n1);let S4:=S3.same s4;have fj:Tb H4 T1 T2:=#[gj.same s4,fC.same s4,D.tb.ne];apply D4 (λi σ H'=>∃v4:aL,σ=[some (.ref g),some (.ref d),some (.str r.1),some (.ref v),v4]/\BT T1 T2 H4 H'/\Tb H' T1 T2/\∀j:Nat,j<i->(jx r hs ts qs f j).isEmpty=true) #[none,Z,BT.of (aa.refl _),fj,by omega] ?_ ?_
 ·rintro i σ H5 hi ⟨v4,rfl,tV,gO,em⟩;rw[ve] at hi;lk;let#[LD,GI]:=gc gO.b;apply#[_,Z,_,Z,_,Z,v,g,p,0+(i:Int),hs,ts,qs,fp,f,r,cc,Z,by omega,S4.nt (tV.nt fj),D.W,gO.b,λl ys H6 b6 Au nl hl tu=>?_];have mK:BT T1 T2 H5 H6:=BT.sec b6;apply#[zl,λle ne'=>?_];let s7:=aa.new (o:=.lst []) ne';have vx:Tb (upd H6 le (.lst [])) T1 T2:=#[cg.same s7 (cg.but gO.a b6 #[_,GI] D.tb.ne),Au.same s7,D.tb.ne];let ly:=bH tu;rw[ay,wo] at ly;apply#[l,le,ys,Z,Z,.of (s7 _ _ hl),.of au,_,Z,?_];let S0:=(tV.trans mK).trans (BT.of s7);apply aN (λc=>?_) (λc=>?_)
  ·have c:ys.isEmpty=false:=⇑c
   have hf:gJ r hs ts qs f=false:=by
    apply List.all_eq_false.mpr #[i,yk.mpr hi,?_];rw[List.isEmpty_eq_false_iff] at c;rw[List.isEmpty_iff];intro z;rw[z,qP] at ly;exact c (Eb.mp ly)
   have:=k _ (XJ.trans S0) vx;rw[hf] at this;exact this
  have c:ys.isEmpty=true:=⇑c
  apply#[_,Z,S0,vx,λj hj=>?_];by_cases e:j=i
  ·rw[e,List.isEmpty_iff];rw[List.isEmpty_iff] at c;rw[c,qP] at ly;exact Eb.mp ly.symm
  exact em j Z1
 rintro σ H5 ⟨v4,rfl,tV,gO,em⟩;rw[ve] at em;have ht:gJ r hs ts qs f=true:=List.all_eq_true.mpr λj hj=>em j (yk.mp hj);have:=k H5 (XJ.trans tV) gO;rw[ht] at this;exact this
end
end Ev
namespace Ev
open PySem L2
theorem WG{α:Type}{xs:List α}{i:Nat}{x:α}(h:xs[i]? = some x):xs.take (i+1)=xs.take i++[x]:=by rw[jr,h];rfl
def j2(f:aj)(m:Mv):aj:=λn=>if n=m.1 then m.2.2 else f n
def fZ(f:aj)(ms:ib):aj:=ms.foldl j2 f
theorem Wf(f:aj)(a:ib)(m:Mv):fZ f (a++[m])=j2 (fZ f a) m:=by
 unfold fZ;rw[List.foldl_append];rfl
theorem Vr{ns:ae}{f:aj}{m:Mv}(h:m.1∈ns):putK (cX ns f) (Sum.inr m.1) (.str m.2.2)=cX ns (j2 f m):=by
 unfold cX;rw[UM h];apply KS λn _=>?_;unfold j2;by_cases z:n=m.1
 ·rw[aJ z,aJ z]
 rw[aB z,aB z]
theorem Uw{H:Hp}{p:Addr}{m:Mv}(h:H p\.tup ((kM m).map kV)):H p\.tup [.str m.1,.str m.2.1,.str m.2.2]:=h
theorem Ve{A:ae}{n:Str}:∀{ms:ib} {f:aj},(∀x∈ms,x.2.2∈A)->f n∈A->fZ f ms n∈A
 |[],_,_,h=>h
 |m::ms,f,a,h=>by
  show fZ (j2 f m) ms n∈A;apply Ve (λx hx=>a x (by simp[hx])) ?_;unfold j2;split
  ·exact a m Z2
  exact h
section
variable{hs:Xa}{ts:Xb}{qs:aI}{f:aj}
def wx(hs:Xa)(qs:aI)(x:Mv):Prop:=x.1∈qs.map (·.1)/\x.2.2∈aF hs
theorem J_{gd a b:Str}{gv:ae}(hb:b∈aF hs):∀x∈mR hs ts qs f gd gv a b,wx hs qs x:=λx h=>by
 unfold mR at h;split at h
 ·rename_i n e
  let hm:=List.mem_singleton.mp h;subst hm;exact#[(Kt (List.mem_of_find?_eq_some e)).1,hb]
 cases h
theorem Nf{ms ns:ib}(a:∀x∈ms,wx hs qs x)(b:∀x∈ns,wx hs qs x):∀x∈ms++ns,wx hs qs x:=λx h=>(fL.mp h).elim (a x) (b x)
theorem OI{gd h:Str}:∀{l:ae} {ms:ib},(∀o∈l,o∈aF hs)->(∀x∈ms,wx hs qs x)->∀x∈uG hs ts qs f gd h ms l,wx hs qs x
 |[],ms,_,a=>a
 |o::l,ms,hl,a=>by
  unfold uG;split
  ·exact OI (λx hx=>hl x (by simp[hx])) (Nf a (J_ (hl o Z2)))
  exact OI (λx hx=>hl x (by simp[hx])) a
theorem Ow{h:Str}:∀{l:ae} {ms:ib},(∀o∈l,o∈aF hs)->(∀x∈ms,wx hs qs x)->∀x∈uM hs ts qs f h ms l,wx hs qs x
 |[],ms,_,a=>a
 |o::l,ms,hl,a=>by
  unfold uM;split
  ·apply Ow (λx hx=>hl x (by simp[hx])) (Nf a λx hx=>?_);let#[n,hn,rfl]:=bG.mp hx;exact#[(Kt ((Kn _ _ _ _).subset hn)).1,hl o Z2]
  exact Ow (λx hx=>hl x (by simp[hx])) a
theorem JX(W:Wd hs ts qs f)(r:Rl)(m:Int):∀x∈jx r hs ts qs f m,wx hs qs x:=by
 have SO:∀h,∀o∈dO hs ts qs f h,o∈aF hs:=λh o ho=>Dz ((KP hs ts qs f h).mem_iff.mp ho);unfold jx;split
 ·intro x hx;let#[t,ht,hx]:=List.mem_flatMap.mp hx;let#[t1,t2]:=VS W.Gd (W4 ht);exact Nf (J_ t2) (J_ t1) x hx
 have full:∀x∈(aF hs).flatMap (uS r hs ts qs f),wx hs qs x:=λx hx=>by
  let#[h,hh,hx]:=List.mem_flatMap.mp hx;revert hx;unfold uS;split
  ·unfold zP Cz;have:=SO h;split
   ·intro z;cases z
   rename_i o _ e
   rw[e] at this;exact J_ (this o Z2) x
  split
  ·exact OI (SO h) (λx z=>by cases z) x
  exact Ow (λo ho=>Dz ho) (λx z=>by cases z) x
 unfold Hk;split
 ·exact λx hx=>full x (List.mem_of_mem_take hx)
 exact full
def oA(r:Rl)(hs:Xa)(ts:Xb)(qs:aI)(m:Int)(f:aj):aj:=fZ f (jx r hs ts qs f m)
def runM(r:Rl)(hs:Xa)(ts:Xb)(qs:aI)(f:aj):Nat->Str->Str
 |0=>f
 |n+1=>oA r hs ts qs n (runM r hs ts qs f n)
theorem Wd.step(W:Wd hs ts qs f)(r:Rl)(m:Int):Wd hs ts qs (oA r hs ts qs m f):=#[W.Gd,W.nd,W.bS,λn hn=>Ve (λx hx=>(iW hs).mem_iff.mp (JX W r m x hx).2) (W.at_ n hn),W.wq]
theorem Wd.run(W:Wd hs ts qs f)(r:Rl):∀n,Wd hs ts qs (runM r hs ts qs f n)
 |0=>W
 |n+1=>(W.run r n).step r n
theorem jO_(r:Rl)(m:Int)(k:Nat):jx r hs ts qs f (m+k * (fJ r ts:Nat))=jx r hs ts qs f m:=by
 unfold jx;split
 ·rename_i c
  unfold HM
  have:jD ts (m+k * (fJ r ts:Nat))=jD ts m:=by
   unfold jD fJ;rw[aJ c];by_cases z:(turnsOf (aM ts)).length=0
   ·rw[Eb.mp z];rfl
   rw[show max 1 (turnsOf (aM ts)).length=(turnsOf (aM ts)).length by omega,Int.add_mul_emod_self_right]
  rw[this]
 rfl
end
section
variable{P:Ad}{w:Af}{K:af}{mg:Str->Option Aa}{base:Heap}{CS CG CW T1 T2:Addr}
abbrev _y:ae:=["goods","placed","rule","moment","after","piece","one","other"]
theorem HV:bx _y pX (aX mi):=bE
inductive Kl (K:af) (CG CW T1 T2:Addr) (vs:ag) (H:Hp) (Q:VK) (E:XK):Prop
 |mk:∀(g p d:Addr) (m:Int) (hs:Xa) (ts:Xb) (qs:aI) (fp:ai) (f:aj),∀r∈rl,vs=[.ref g,.ref d,.str r.1,.int m]->0<=m->RO K CG CW T1 T2 H g p d hs ts qs fp f->(∀d' H',BT T1 T2 H H'->Tb H' T1 T2->H d'=none->H' d'\.dK (cX (qs.map (·.1)) (oA r hs ts qs m f))->Q (.ref d') H')->Kl K CG CW T1 T2 vs H Q E
theorem j3_{f0:Addr}{fd:Ae}(F:bj K "placed_after" "placed_after" mi f0 fd)(B:Bi mg)(Ig:!ik CS 7 "Sight" DB (HN K CS CG CW T1))(yb:!aY 7 "moves_seen" vV (Ir K CS CG CW T2)):!aq a9 9 f0 fd pX (Kl K CG CW T1 T2):=by
 exists F.bL HV;let#[g,p,d,m,hs,ts,qs,fp,f,r,cc,rfl,m0,D,k]:=h;let sz:=cn;let hu:=gD hr;refine' #[_,ax ?s1 (ax ?s2 (aH (bg (pv 4)))),?kk]
 case s1=>exact bq 4 HV.nd (iK Lj (by rfl) B.dict qN %[1|0])
 case s2=>exact eX eM Z (d5 (aQ yb hr %[BZ Ig hr %[0,1|0],2,3|0])) (pJ Z (d6 (cO 5 HV.nd) (d6 (cO 6 HV.nd) (d6 (cO 7 HV.nd) jI)))) (aH (yd hu (pv 4) (pv 5) (pv 7) Z))
 let bS:=D.W.bS;apply#[_,Z,d,_,Z,.inl D.Pl.hd,λdl C5=>?_];let#[sd,ed]:=bp (o:=.dK (cX (qs.map (·.1)) f)) C5;show p6 _ _ _ _ (upd H dl (.dK (cX (qs.map (·.1)) f)));generalize upd H dl (.dK (cX (qs.map (·.1)) f))=H1 at sd ed ⊢;apply#[_,Z,_,Z,λv dx hv xy ne=>?_];have s2:aa H1 (upd (upd H1 dx (.own v)) v (.ins CS dx [])):=(aa.new xy).trans (aa.new (by rw[aA ne.symm];exact hv));have e2:upd (upd H1 dx (.own v)) v (.ins CS dx []) v\.ins CS dx []:=au;generalize upd (upd H1 dx (.own v)) v (.ins CS dx [])=H2 at s2 e2 ⊢;let iq:=sd.trans s2
 have yx:v∉fp:=λhm=>by
  let#[o,e]:=D.has v hm;rw[sd _ _ e] at hv;cases hv
 have IM:qr K CG CW H2 g p d hs ts qs fp f:=#[D.Pl.G.same iq,D.W.Gd,D.Pl.je,iq _ _ D.Pl.hd,D.W.at_,D.W.nd,D.W.bS];apply#[v,dx,g,p,d,hs,ts,qs,fp,f,Z,e2,yx,IM,D.W,D.tb.a.same iq,λH3 k3 gj S3=>#[Z,?_]];let#[Sn,Ds]:=gc D.tb.a;have Na:∀b o,H1 b\o->b≠T1->H3 b\o:=λb o e n=>k3 b o (s2 _ _ e) (bw e hv) n
 have fC:cg H3 T2 jw:=by
  let#[es,a1,a2]:=D.tb.b;exact#[es,Na _ _ (sd _ _ a1) D.tb.ne.symm,λx hx=>Na _ _ (sd _ _ (a2 x hx)) (λz=>by have:=a2 x hx;rw[z,Ds] at this;cases this)]
 apply#[_,Z,_,Z,v,g,p,m,hs,ts,qs,fp,f,r,cc,Z,m0,S3,D.W,fC,λl ys H4 b4 fO nl hl tu=>?_];let#[LD,GI]:=gc fC;have qO:BT T1 T2 H1 H4:=λb o e n1 n2=>b4 _ _ (Na b o e n1) n2;have fj:Tb H4 T1 T2:=#[cg.but gj b4 #[_,GI] D.tb.ne,fO,D.tb.ne];have Es:∀{T tv},H T\.tbl tv->dl≠T:=λe z=>by rw[<- z,C5] at e;cases e
 let#[Zv,Ou]:=gc D.tb.b;let BW:=qO _ _ ed (Es Ds) (Es Ou);have ldl:l≠dl:=bX hl BW nofun;let ly:=bH tu;rw[ay] at ly;apply#[l,Z,#[_,.of hl],ie (K:=K) (a:=l) (xs:=ys) (λj σ H'=>∃v5 v6 v7:aL,σ=[some (.ref g),some (.ref d),some (.str r.1),some (.int m),some (.ref dl),v5,v6,v7]/\aP dl H4 H'/\H' dl\.dK (cX (qs.map (·.1)) (fZ f ((jx r hs ts qs f m).take j)))) #[none,none,none,Z,aP.refl _ _,BW] (λj σ H' _ ⟨_,_,_,_,b,_⟩=>.of (b _ _ hl ldl)) ?_ ?_]
 ·rintro j y σ H' hy ⟨v5,v6,v7,rfl,b',e'⟩;let#[x,hx,Eo,rfl,xo]:=nX tu hy;let xo:=Uw xo;have LI:Eo≠dl:=bX xo BW nofun;apply#[Eo,_,Z,.of (b' _ _ xo LI),Z,_,_,Z,_,_,Z,_,_,Z,Z,?_];dsimp only;apply#[_,Z,_,Z,_,Z,dl,_,Z,.k (k:=Sum.inr x.1) e' (by rw[jJ,ay];omega),?_];apply#[_,_,_,Z,b'.trans aP.upd,?_];rw[au,Vr (JX D.W r m x (dA hx)).1,WG hx,Wf]
 rintro σ H' ⟨v5,v6,v7,rfl,b',e'⟩;rw[ly,eN] at e';have kT:∀{T qn},cg H4 T qn->cg H' T qn:=λ⟨es,a1,a2⟩=>#[es,b' _ _ a1 (λz=>by rw[z,BW] at a1;cases a1),λx hx=>b' _ _ (a2 x hx) (λz=>by have:=a2 x hx;rw[z,BW] at this;cases this)];exact#[_,Z,k dl H' (λb o e n1 n2=>b' b o (qO b o (sd _ _ e) n1 n2) (bw e C5)) #[kT fj.a,kT fj.b,D.tb.ne] C5 e']
end
end Ev
namespace Ev
open PySem L2
section v
theorem oH:bx ["goods","placed","levels"] kj (aX l_):=bE
def qw(hs:Xa)(qs:aI)(f:aj):Int:=sumF (aF hs) (ld f (qs.map gG)) λh=>o7 hs / strOf hs h
inductive KD (K:af) (CG CW:Addr) (vs:ag) (H:Hp) (Q:VK) (E:XK):Prop
 |mk:∀(g p d:Addr) (hs:Xa) (ts:Xb) (qs:aI) (fp:ai) (f:aj),vs=[.ref g,.ref d]->qr K CG CW H g p d hs ts qs fp f->(∀q∈qs,0<=q.2.1/\q.2.1<=1000000000)->(∀H',aa H H'->Q (.int (qw hs qs f)) H')->KD K CG CW vs H Q E
theorem iE_{f CG CW:Addr}{fd:Ae}(F:bj K "sum_at" "sum_at" l_ f fd)(MN:mg "sum"=none)(cL:!aY 3 "loads_at" kj (ID K CG CW))(cV:!aY 4 "levels_at" kj (K5 K CG CW)):!aq a9 5 f fd kj (KD K CG CW):=by
 exists F.bL oH;let#[g,p,d,hs,ts,qs,fp,f,rfl,Pl,wp,k]:=h;let hu:=gD hr;let sz:=cn;let nl:=Pl.Gd.fP;let h8:=Pl.Gd.h8;refine' #[_,ax ?s1 (aH ?s2),?kk]
 case s1=>exact bq 2 oH.nd (aQ cV hr %[0,1|0])
 case' s2=>refine' bg (cy (h7_ Z) (by rfl) MN PyProof.Rows.boot_sum %[iV ["hand","load","levels"] 2 [2] (K_ (Hs (aQ cL hr %[0,1|0]))) (λfp s H=>?g1) (λfp s H=>ij) (λfp s H=>?e1)|0])
 case g1=>exact Ii (n:=2) (d6 (eW (i:=0) (show (["hand","load","levels"]:ae).Nodup by decide +kernel) Z (Or.inl Z)) (d6 (eW (i:=1) (show (["hand","load","levels"]:ae).Nodup by decide +kernel) Z (Or.inl Z)) jI))
 case e1=>exact bN qm (pv 1) (kq hu (pv 2) (pv 0))
 apply#[_,Z,_,Z,g,p,d,hs,ts,qs,fp,f,Z,Pl,wp,λdv H1 s1 n1 e1=>?_];have RP:qr K CG CW H1 g p d hs ts qs fp f:=#[Pl.G.same s1,Pl.Gd,Pl.je,s1 _ _ Pl.hd,Pl.at_,Pl.nd,Pl.bS];apply#[_,Z,_,Z,g,p,d,hs,ts,qs,fp,f,Z,RP,λdl H2 s2 n2 e2=>?_];apply#[dl,_,Z,e2,λv hv=>?_];let#[s3,o_]:=bp (o:=qo v dl) hv;let e3:=s3 _ _ e2;let mE:=s2.trans s3;generalize upd H2 v (qo v dl)=H3 at s3 o_ e3 mE ⊢;apply#[v,dl,_,Z,o_,e3,λo D hD=>?_];have dvl:dv≠dl:=bw e1 n2;have sf:aa H1 (upd H3 dl (.frz o (.dK (xl hs qs f)))):=gU mE n2;have ef:upd H3 dl (.frz o (.dK (xl hs qs f))) dl\.frz o (.dK (xl hs qs f)):=au;generalize upd H3 dl (.frz o (.dK (xl hs qs f)))=H4 at sf ef hD ⊢;apply ge_ (own:=2) (fv:=[some (.ref dv)]) Z BH (λi out H'=>aa H4 H'/\H' D\.lst out/\out=(((aF hs).take i).map λh=>ld f (qs.map gG) h * vH hs qs f h).map V.int) #[aa.new hD,au,Z] (λi out H' _ ⟨sm,_,_⟩=>sm _ _ ef) (λout H5 ⟨sm,pA,eo⟩=>?_) (λi ky x out H' hx ⟨sm,dE,eo⟩ t ht=>?_)
 ·rw[jJ,eN] at eo;rw[eo] at pA;exact#[D,_,Z,.of pA,k H5 (s1.trans (sf.trans sm))]
 let#[n,hn,rfl,rfl]:=JY hx;have hi:i<(aF hs).length:=(cw.mp hn).1;let nm:=dA hn;let lo:=JC wp Pl.bS f n;let#[ss,et]:=bp (o:=.tup [.str n,.int (ld f (qs.map gG) n)]) ht;apply#[[some (.str n),some (.int (ld f (qs.map gG) n))],#[t,_,_,Z,.of et,Z],Z,λNx hN=>dB ?_];let s4:=(sf.trans sm).trans ss;let sD:=ss _ _ dE;let s5:=sm.trans ss;show Ey _ _ _ _ (upd H' t (.tup [.str n,.int (ld f (qs.map gG) n)])) _;generalize upd H' t (.tup [.str n,.int (ld f (qs.map gG) n)])=H6 at s4 sD s5 ⊢;apply#[_,Z,_,Z,_,Z,dv,.int (vH hs qs f n),Z,?_,_,_,Z,Z,.inl #[by omega,by omega],out,sD,by rw[eo,ay,ay,dJ];omega,hN _ _ #[gU s5 hD,au,?_]]
 ·rw[<- DT (g:=λh=>V.int (vH hs qs f h)) nm];exact .k (k:=Sum.inr n) (s4 _ _ e1)
 rw[iC hn,cu,cu,eo];rfl
end
end Ev
namespace Ev
open PySem L2
section
variable{P:Ad}{w:Af}{K:af}{mg:Str->Option Aa}{base:Heap}{CS CG CW T1 T2:Addr}
inductive Qa (K:af) (CG CW T1 T2:Addr) (vs:ag) (H:Hp) (Q:VK) (E:XK):Prop
 |mk:∀(g p d:Addr) (m:Int) (hs:Xa) (ts:Xb) (qs:aI) (fp:ai) (ns:ae) (f:aj),∀r∈rl,vs=[.ref g,.ref d,.str r.1,.int m]->0<=m->iY K CG CW H g p d hs ts qs fp ns f->Wd hs ts qs f->Tb H T1 T2->(∀l ys H',BT T1 T2 H H'->Tb H' T1 T2->H l=none->H' l\.lst ys->bC K H' ys ((jx r hs ts qs f m).map kM)->Q (.ref l) H')->Qa K CG CW T1 T2 vs H Q E
theorem hX_{f0:Addr}{fd:Ae}(F:bj K "moves_of" "moves_of" P7 f0 fd)(Cc:!aY 3 BQ qG (Hv K CG CW))(Ig:!ik CS 7 "Sight" DB (HN K CS CG CW T1))(yb:!aY 7 "moves_seen" vV (Ir K CS CG CW T2))(DZ:!aY 3 "checked_moments" fI Qu) :
  aq P w K mg base a9 9 f0 fd vg (Qa K CG CW T1 T2):=by
 exists F.bL Wt;let#[g,p,d,m,hs,ts,qs,fp,ns,f,r,cc,rfl,m0,S,W,tb,k]:=h;refine' #[_,ax ?s1 (aH ?s2),?kk]
 case s1=>exact bq 4 Wt.nd (aQ Cc hr %[0,1,2|0])
 case s2=>exact bg (aQ yb hr %[BZ Ig hr %[0,4|0],2,aQ DZ hr %[3|0]|0])
 apply#[_,Z,_,Z,_,Z,_,_,r,cc,Z,#[g,p,d,hs,ts,qs,fp,ns,f,Z,S.G,S.je,S.hd,S.so,W.nd,W.bS,λdp H1 s1 n1 e1=>?_]];lk
 have xR:dp∉fp:=λhm=>by
  let#[o,e,_]:=S.has dp hm;rw[e] at n1;cases n1
 have Pl:qr K CG CW H1 g p dp hs ts qs fp f:=#[S.G.same s1,W.Gd,xR,e1,W.at_,W.nd,W.bS];apply#[_,Z,_,Z,λv dx hv xy ne=>?_];have s2:aa H1 (upd (upd H1 dx (.own v)) v (.ins CS dx [])):=(aa.new xy).trans (aa.new (by rw[aA ne.symm];exact hv));have e2:upd (upd H1 dx (.own v)) v (.ins CS dx []) v\.ins CS dx []:=au;generalize upd (upd H1 dx (.own v)) v (.ins CS dx [])=H2 at s2 e2 ⊢
 have yx:v∉fp:=λhm=>by
  let#[o,e,_]:=S.has v hm;rw[s1 _ _ e] at hv;cases hv
 let iq:=s1.trans s2;have IM:qr K CG CW H2 g p dp hs ts qs fp f:=#[Pl.G.same s2,W.Gd,xR,s2 _ _ e1,W.at_,W.nd,W.bS];apply#[v,dx,g,p,dp,hs,ts,qs,fp,f,Z,e2,yx,IM,W,tb.a.same iq,λH3 k3 gj S3=>#[Z,?_]];let#[Sn,Ds]:=gc tb.a;let#[LD,GI]:=gc tb.b
 have nv:∀{b:Addr} {o:HO},H b\o->b≠v:=λe z=>by
  rw[z] at e;rw[s1 _ _ e] at hv;cases hv
 have zh:∀b o,H b\o->b≠T1->H3 b\o:=λb o e n=>k3 b o (iq _ _ e) (nv e) n;have j5:NT H H3:=λb o e n=>zh b o e (λz=>by rw[z,Ds] at e;exact n _ (d7 e).symm)
 have fC:cg H3 T2 jw:=by
  let#[es,a1,a2]:=tb.b;exact#[es,zh _ _ a1 tb.ne.symm,λx hx=>j5 _ _ (a2 x hx) nofun]
 apply#[_,Z,_,Z,m,Z,m0,?_];apply#[v,g,p,m,hs,ts,qs,fp,f,r,cc,Z,m0,S3,W,fC,λl ys H4 b4 fO nl hl tu=>?_];let#[Zv,Ou]:=gc fC;let gg:=b4.nt Ou;apply k l ys H4 (λb o e n1 n2=>b4 _ _ (zh b o e n1) n2) #[?_,fO,tb.ne] ?_ hl tu
 ·let#[es,a1,a2]:=gj;exact#[es,b4 _ _ a1 tb.ne,λx hx=>gg _ _ (a2 x hx) nofun]
 cases z:H l with
 |none=>rfl
 |some o=>
  by_cases y:l=T1
  ·let#[es,a1,_]:=gj;rw[y,a1] at nl;cases nl
  rw[zh _ _ z y] at nl;cases nl
theorem sQ:bx qG qG (aX PP):=bE
inductive Ks (K:af) (CG CW T1 T2:Addr) (vs:ag) (H:Hp) (Q:VK) (E:XK):Prop
 |mk:∀(g p d:Addr) (hs:Xa) (ts:Xb) (qs:aI) (fp:ai) (ns:ae) (f:aj),∀r∈rl,vs=[.ref g,.ref d,.str r.1]->iY K CG CW H g p d hs ts qs fp ns f->Wd hs ts qs f->Tb H T1 T2->(∀H',BT T1 T2 H H'->Tb H' T1 T2->Q (.bl (gJ r hs ts qs f)) H')->Ks K CG CW T1 T2 vs H Q E
theorem it_{f0:Addr}{fd:Ae}(F:bj K "at_rest" "at_rest" PP f0 fd)(Cc:!aY 3 BQ qG (Hv K CG CW))(Cd:!aY 9 "rests_at" pT (KA K CG CW T1 T2)):!aq a9 10 f0 fd qG (Ks K CG CW T1 T2):=by
 exists F.bL sQ;let#[g,p,d,hs,ts,qs,fp,ns,f,r,cc,rfl,S,W,tb,k]:=h;refine' #[_,aH ?s1,?kk]
 case s1=>exact bg (aQ Cd hr %[0,aQ Cc hr %[0,1,2|0],2|0])
 apply#[_,Z,_,Z,_,Z,_,Z,_,_,r,cc,Z,#[g,p,d,hs,ts,qs,fp,ns,f,Z,S.G,S.je,S.hd,S.so,W.nd,W.bS,λdp H1 s1 n1 e1=>?_]]
 have xR:dp∉fp:=λhm=>by
  let#[o,e,_]:=S.has dp hm;rw[e] at n1;cases n1
 apply#[_,Z,g,p,dp,hs,ts,qs,fp,f,r,cc,Z,#[#[S.G.same s1,W.Gd,xR,e1,W.at_,W.nd,W.bS],W,#[tb.a.same s1,tb.b.same s1,tb.ne],λb hb=>let #[o,e,_]:=S.has b hb;#[o,s1 _ _ e]],λH' nt t'=>k H' ((BT.of s1).trans nt) t']
end
end Ev
namespace Ev
open PySem L2
theorem Vb{H:Hp}{l d:Addr}{u:HO}(h:ck H l)(ne:d≠l):ck (upd H d u) l:=by
 rcases h with⟨n,e⟩|⟨n,m,c,e⟩
 ·exact .inl #[n,by rw[aA ne.symm];exact e]
 exact .inr #[n,m,c,by rw[aA ne.symm];exact e]
section v
theorem PH:bx [gA,"_law_pieces_here","_law_hands",pG,"_law_piece"] vj (aX ma):=bE
inductive Pg (K:af) (vs:ag) (H:Hp) (Q:VK) (E:XK):Prop
 |mk:∀(l lp lh:Addr) (yp yh:ag) (ps:aI) (hs:Xa),vs=[.ref l,.ref lp,.ref lh]->ck H l->H lp\.lst yp->lp≠l->uO K H yp ps->H lh\.lst yh->lh≠l->bC K H yh (hs.map kH)->0<hs.length->hs.length<=8->ps.length<=30->(ps.map (·.1)).Nodup->(∀d f H',aP l H H'->ck H' l->H d=none->H' d\.dK (cX (ps.map (·.1)) f)->(∀n∈ps.map (·.1),f n∈hs.map (·.1))->Q (.ref d) H')->Pg K vs H Q E
theorem iP_{f:Addr}{fd:Ae}(F:bj K "_law_stand" "_law_stand" ma f fd)(B:Bi mg)(cD:!aY 1 qF uR wk):!aq a9 2 f fd vj (Pg K):=by
 exists F.bL PH;let#[l,lp,lh,yp,yh,ps,hs,rfl,st,Dk,Bd,pc,qg,zd,th,h0,h8,h30,nd,k]:=h;let hu:=gD hr;let sz:=cn;refine' #[_,?r0,?kk]
 case' r0=>refine' ax ?s1 (ax ?s2 (aH ?s3))
 case s1=>exact bq 3 PH.nd Ip
 case s2=>exact eX eM Z (d5 (pv 1)) (cO 4 PH.nd) (aH (yd hu (pv 3) (bM dz (pv 4) aC) (bM dz (bM gL (pv 2) (aQ cD hr %[0,cy iL (by rfl) B.len ia %[2|0]|0])) aC) Z))
 case s3=>exact bg (pv 3)
 let MO:=bH pc;let lyh:=bH th;rw[ay] at lyh;intro d hd;let s1:=aa.new (o:=.dK []) hd
 have dl:d≠l:=by
  let#[xs,e]:=st.some;exact (bw e hd).symm
 have b1:aP l H (upd H d (.dK [])):=aP.of s1;have e1:upd H d (.dK []) d\.dK []:=au;let fo:=st.same s1;show p6 _ _ _ _ (upd H d (.dK []));generalize upd H d (.dK [])=H1 at b1 e1 fo s1 ⊢;let#[Ly,vN]:=st.some;have lpd:lp≠d:=bw Dk hd;apply#[_,Z,lp,Z,#[_,.of (s1 _ _ Dk)],ie (K:=K) (a:=lp) (xs:=yp) (λi σ H'=>∃(v4:aL) (f:aj),σ=[some (.ref l),some (.ref lp),some (.ref lh),some (.ref d),v4]/\aP l H H'/\ck H' l/\H' d\.dK (cX ((ps.map (·.1)).take i) f)/\∀n∈(ps.map (·.1)).take i,f n∈hs.map (·.1)) #[none,λn=>n,Z,b1,fo,e1,λn hn=>by simp at hn] (λi σ H' _ ⟨_,_,_,b,_⟩=>.of (b _ _ Dk Bd)) ?_ ?_]
 ·rintro i y σ H2 hy ⟨v4,f,rfl,b2,eh,e2,fm⟩;have hi:i<yp.length:=(cw.mp hy).1;have JO:i<ps.length:=by omega
  let#[t,v,et,ht,_]:=ig pc i hi JO;rw[(cw.mp hy).2] at et;subst et;have hn:(ps.map (·.1))[i]? = some (ps[i]' JO).1:=by rw[dU,cE JO];rfl
  generalize ps[i]' JO=q at ht hn;have tl:t≠l:=bX ht vN nofun;apply#[_,Z,_,Z,_,Z,lh,_,Z,.inl (.of (b2 _ _ qg zd)),l,(yh.length:Int),Z,by omega,by omega,eh,λj H3 j0 j1 b3 iO=>?_];let#[j,rfl]:=qT j0;let yj:=b2.trans b3;have hj:j<yh.length:=by omega
  have Uh:yh[j]? = some (yh[j]'hj):=cE hj;let#[h,hh,a,ea,ha]:=nX th Uh;have al:a≠l:=bX ha vN nofun;let jC:=Ux (yj _ _ ha al);let JF:=yj _ _ ht tl;let e3:=b3 _ _ e2 dl;apply#[lh,_,_,.ref a,Z,Z,.of (yj _ _ qg zd),by rw[gC Z1 Z1,ve,Uh,ea],a,_,0,_,Z,Z,.of jC,Z,?_];apply#[_,Z,_,Z,t,_,0,_,Z,Z,.of JF,Z,d,_,Z,.k (k:=Sum.inr q.1) e3 (by rw[jJ,dJ,ay];omega),?_];apply#[_,λm=>if m=q.1 then h.1 else f m,Z,λb o e nb=>?_,?_,?_,?_]
  ·rw[aA (bw e hd)];exact yj _ _ e nb
  ·exact Vb iO dl
  ·rw[au,iC hn,Vc (Qe nd hn)];congr 2;apply KS λm _=>?_;by_cases z:m=q.1
   ·simp[z]
   simp[z]
  intro m hm;rw[iC hn] at hm;show (if m=q.1 then h.1 else f m)∈_;by_cases z:m=q.1
  ·rw[aJ z];exact bG.mpr #[h,dA hh,Z]
  rw[aB z];rcases fL.mp hm with hm|hm
  ·exact fm m hm
  exact absurd ⇑hm z
 rintro σ H2 ⟨v4,f,rfl,b2,eh,e2,fm⟩;rw[MO,<- ay (f:=λq:Pc=>q.1),eN] at e2 fm;exact#[_,Z,k d f H2 b2 eh hd e2 fm]
end
end Ev
namespace L2
open PySem PySem.Spec PyProof.Rows
end L2
namespace Ev
open PySem L2
def IS(K:af)(H:Hp)(v:V)(T:String):Prop:=∃ty,fi K H v ty/\PySem.W.kitOne K ty (.type T)\false
def WhV(K:af)(H:Hp)(y:V)(c:Bool):Prop:=(c=true/\∃i,y=.int i)∨(c=false/\((∃b,y=.bl b)∨IS K H y "int"))
section v
def rX(K:af):Sp:=λvs H Q _=>∃(v:V) (c:Bool),vs=[v]/\WhV K H v c/\Q (.bl c) H
theorem kn_{f:Addr}{fd:Ae}(F:bj K "is_whole" "is_whole" wY f fd)(B:Bi mg):!aq a9 1 f fd fI (rX K):=by
 exists F.bL yM;let#[v,c,rfl,n,k]:=h;apply#[_,aH (bg (ny (cy jq (by rfl) B.iP iU %[0,jn (v:=.ty "int") (by rfl) B.int GY Z|0]) (nu (OJ (cy jq (by rfl) B.iP iU %[0,jn (v:=.ty "bool") (by rfl) B.bool OW Z|0]))))),?_];rcases n with⟨rfl,i,rfl⟩|⟨rfl,⟨b,rfl⟩|⟨ty,h1,h2⟩⟩
 ·exact#[_,Z,_,_,_,_,Z,.int i,Z,_,Z,dD #[_,Z,_,_,_,_,Z,.int i,Z,_,Z,k]]
 ·exact#[_,Z,_,_,_,_,Z,.bl b,Z,_,Z,dD #[_,Z,_,_,_,_,Z,.bl b,Z,_,Z,k]]
 exact#[_,Z,_,_,_,_,Z,h1,h2,_,Z,a_ k]
def WhF(K:af)(H:Hp)(y:V)(a:Int)(c:Bool):Prop:=(∃i,y=.int i/\c=decide (a<=i))∨(c=false/\((∃b,y=.bl b)∨IS K H y "int"))
def Wn(K:af):Sp:=λvs H Q _=>∃(v:V) (a:Int) (c:Bool),vs=[v,.int a]/\WhF K H v a c/\Q (.bl c) H
theorem gf_{f0:Addr}{fd:Ae}(F:bj K "is_whole_from" "is_whole_from" KI f0 fd)(cI:!aY 1 "is_whole" fI (rX K)):!aq a9 2 f0 fd DE (Wn K):=by
 exists F.bL WJ;let#[v,a,c,rfl,n,k]:=h;apply#[_,aH (bg (ny (aQ cI hr %[0|0]) (nu (qp uL (pv 1) (pv 0))))),?_];rcases n with⟨i,rfl,rfl⟩|⟨rfl,n⟩
 ·exact#[_,Z,_,true,Z,.inl #[Z,i,Z],_,Z,dD #[_,Z,_,Z,_,_,Z,Z,k]]
 exact#[_,Z,_,false,Z,.inr #[Z,n],_,Z,a_ k]
end
end Ev
namespace Ev
open PySem L2
theorem fq.xI{K:af}{C:Addr}{H:Hp}{p:Addr}{hs:Xa}{ts:Xb}{fp:ai}(W:fq K C H p hs ts fp){b:Addr}(hb:b∈fp):∃o,H b\o/\∀vs,o≠.tbl vs:=by
 let#[dx,d1,l2,d3,zs,as,rfl,h1,h2,h3,h4,h5,h6,h7]:=W.ex;simp only[cU] at hb;rcases hb with rfl|rfl|rfl|rfl|hb
 ·exact#[_,h1,by intro vs z;cases z]
 ·exact#[_,h2,by intro vs z;cases z]
 ·exact#[_,h3,by intro vs z;cases z]
 ·exact#[_,h5,by intro vs z;cases z]
 let#[i,hi,e]:=ku hb;exact#[_,h7 i ((aF hs)[i]' Z1) b (cE Z1) (by rw[<- e];exact cE hi),by intro vs z;cases z]
theorem gT.xI{K:af}{CG CW:Addr}{H:Hp}{g p:Addr}{hs:Xa}{ts:Xb}{qs:aI}{fp:ai}(G:gT K CG CW H g p hs ts qs fp):∃zG,gT K CG CW H g p hs ts qs zG/\(∀b∈zG,b∈fp)/\∀b∈zG,∃o,H b\o/\∀vs,o≠.tbl vs:=by
 let#[dx,dw,dy,vs,bR,h1,h2,h3,h4,h5,m1,m2,m3,m4,m5]:=G.ex;apply#[g::dw::dy::(bR++vs.filterMap λv=>match v with | .ref a=>some a|_=>none),#[dx,dw,dy,vs,bR,h1,h2,h3,h4,h5,by simp,by simp,by simp,λb hb=>by simp[hb],λv hv a z=>?_],λb hb=>?_,λb hb=>?_]
 ·have:a∈vs.filterMap λv=>match v with | .ref a=>some a|_=>none:=yl.mpr #[v,hv,by rw[z]];simp only[cU,fL];exact .inr (.inr (.inr (.inr this)))
 ·simp only[cU,fL] at hb;rcases hb with rfl|rfl|rfl|hb|hb
  ·exact m1
  ·exact m2
  ·exact m3
  ·exact m4 b hb
  let#[v,hv,e]:=yl.mp hb;cases v with
  |ref a=>cases e;exact m5 _ hv _ Z
  |_=>cases e
 simp only[cU,fL] at hb;rcases hb with rfl|rfl|rfl|hb|hb
 ·exact#[_,h1,by intro vs z;cases z]
 ·exact#[_,h3,by intro vs z;cases z]
 ·exact#[_,h4,by intro vs z;cases z]
 ·exact h2.xI hb
 let#[v,hv,e]:=yl.mp hb;let#[i,hi,ev]:=ku hv;let le:=bH h5;let w:=ig h5 i hi Z1;rw[ev] at w;cases o:(qs[i]' Z1).2.2 with
 |none=>
  rw[o] at w;rw[show v=.non from w] at e;cases e
 |some ws=>
  rw[o] at w;let#[a,ys,ea,ha,_]:=w;rw[ea] at e;cases e;exact#[_,ha,by intro vs z;cases z]
section
variable{K:af}{CG CW:Addr}
theorem TL{H:Hp}{R:Addr->Hp->Prop}{E:XK}{lh lt:Addr}{yh yt:ag}{hs:Xa}{ts:Xb}(G:Good hs ts)(h1:H lh\.lst yh)(h2:bC K H yh (hs.map kH))(h3:H lt\.lst yt)(h4:bC K H yt (ts.map kT))
  (k:∀p fp H',aa H H'->fq K CW H' p hs ts fp->(∀b∈fp,H b=none)->R p H'):∀x dx,H x=none->H dx=none->dx≠x->G5 K CW (.ref x::([.ref lh,.ref lt]++[])) (upd (upd H dx (.own x)) x (.ins CW dx [])) (λv H2=>v=.non/\R x H2) E:=by
 intro p dx hp xy ne;have s4:aa H (upd (upd H dx (.own p)) p (.ins CW dx [])):=(aa.new xy).trans (aa.new (by rw[aA ne.symm];exact hp));apply#[p,dx,lh,lt,yh,yt,hs,ts,Z,au,s4 _ _ h1,h2.same s4,s4 _ _ h3,h4.same s4,G,λbR H5 kp W fr=>#[Z,?_]];apply k p bR H5 (λb o e=>kp b o (s4 _ _ e) (bw e hp)) W λb hb=>?_;rcases fr b hb with rfl|z
 ·exact hp
 exact s4.free z
theorem VU{H:Hp}{R:Addr->Hp->Prop}{E:XK}{p lp:Addr}{yp:ag}{hs:Xa}{ts:Xb}{ps:aI}{bR:ai}(W:fq K CW H p hs ts bR)(G:Good hs ts)(h1:H lp\.lst yp)(h2:uO K H yp ps)(gp:∀q∈ps,DC ts q)(nd:(ps.map (·.1)).Nodup)(len:ps.length<64)
  (k:∀g qs fp H',aa H H'->gT K CG CW H' g p hs ts qs fp->Qs ps qs->(∀b∈fp,b∈bR∨H b=none)->R g H'):∀x dx,H x=none->H dx=none->dx≠x->He K CG CW (.ref x::([.ref p,.ref lp]++[])) (upd (upd H dx (.own x)) x (.ins CG dx [])) (λv H2=>v=.non/\R x H2) E:=by
 intro g dx hg xy ne;have s4:aa H (upd (upd H dx (.own g)) g (.ins CG dx [])):=(aa.new xy).trans (aa.new (by rw[aA ne.symm];exact hg))
 have gw:g∉bR:=λm=>by
  let#[o,e]:=W.has m;rw[hg] at e;cases e
 apply#[g,dx,p,lp,yp,ps,hs,ts,bR,Z,au,W.same s4,gw,G,s4 _ _ h1,Paired.bF h2 λ_ _ q=>q.same s4,gp,nd,len,λqs fp H5 kp GA Qq fr=>#[Z,?_]];apply k g qs fp H5 (λb o e=>kp b o (s4 _ _ e) (bw e hg)) GA Qq λb hb=>?_;rcases fr b hb with rfl|z|z
 ·exact .inr hg
 ·exact .inl z
 exact .inr (s4.free z)
end
def jZ:ae:=["least one high","least one fall","least one calm","least all high","least all fall","least all calm","below one high","below one fall","below one calm","below all high","below all fall","below all calm","shares one","shares all","turns high","turns fall","turns calm"]
theorem TU:∀x∈jZ,∃r∈rl,r.1=x:=by decide +kernel
structure Wo (K:af) (CG CW:Addr) (H:Hp) (g p d:Addr) (hs:Xa) (ts:Xb) (qs:aI) (fp:ai) (ns:ae) (f:aj):Prop where
 S:iY K CG CW H g p d hs ts qs fp ns f
 W:Wd hs ts qs f
 SQ:qs.length<=30
 w1:∀q∈qs,1<=q.2.1
section
variable{P:Ad}{w:Af}{K:af}{mg:Str->Option Aa}{base:Heap}{CG CW:Addr}
theorem Kj:bx [gA,"_law_some"] BY (aX sU):=bE
def lL:Sp:=λvs H Q _=>∃l:Addr,vs=[.ref l]/\ck H l/\∀(r:Rl) (H':Hp),r∈rl->aP l H H'->ck H' l->Q (.str r.1) H'
theorem kM_{f0:Addr}{fd:Ae}(F:bj K "_law_rule" "_law_rule" sU f0 fd)(cD:!aY 1 qF uR wk):!aq a9 2 f0 fd BY lL:=by
 exists F.bL Kj;let#[l,rfl,st,k]:=h;refine' #[_,ax ?s1 (ax ?s2 (ax ?s3 (aH ?s4))),?kk]
 case s1=>exact bq 1 Kj.nd (eB %[dI,dI,dI,dI,dI,dI|0])
 case s2=>exact bq 1 Kj.nd (bN GV (pv 1) (eB %[dI,dI,dI,dI,dI|0]))
 case s3=>exact bq 1 Kj.nd (bN GV (pv 1) (eB %[dI,dI,dI,dI,dI,dI|0]))
 case s4=>exact bg (bM gL (pv 1) (aQ cD hr %[0,aC|0]))
 apply#[zl,λa na=>?_];let#[s1,e1]:=bp (o:=.lst ((jZ.take 6).map V.str)) na;show iA _ _ _ (upd H a (.lst ((jZ.take 6).map V.str))) _;generalize upd H a (.lst ((jZ.take 6).map V.str))=H1 at s1 e1 ⊢;lk;apply#[_,Z,zl,λb nb=>?_];let#[s2,e2]:=bp (o:=.lst (((jZ.drop 6).take 5).map V.str)) nb;show xa _ _ (upd H1 b (.lst (((jZ.drop 6).take 5).map V.str))) _;generalize upd H1 b (.lst (((jZ.drop 6).take 5).map V.str))=H2 at s2 e2 ⊢;apply#[a,b,_,_,Z,Z,s2 _ _ e1,e2,by decide +kernel,λc nc=>?_];let#[s3,e3]:=bp (o:=.lst ((jZ.take 11).map V.str)) nc;show iA _ _ _ (upd H2 c (.lst ((jZ.take 11).map V.str))) _;generalize upd H2 c (.lst ((jZ.take 11).map V.str))=H3 at s3 e3 ⊢;lk;apply#[_,Z,zl,λb2 nb2=>?_];let#[s4,e4]:=bp (o:=.lst ((jZ.drop 11).map V.str)) nb2;show xa _ _ (upd H3 b2 (.lst ((jZ.drop 11).map V.str))) _;generalize upd H3 b2 (.lst ((jZ.drop 11).map V.str))=H4 at s4 e4 ⊢;apply#[c,b2,_,_,Z,Z,s4 _ _ e3,e4,by decide +kernel,λe ne=>?_];let#[s5,e5]:=bp (o:=.lst (jZ.map V.str)) ne;show iA _ _ _ (upd H4 e (.lst (jZ.map V.str))) _;generalize upd H4 e (.lst (jZ.map V.str))=H5 at s5 e5 ⊢;lk;let SL:=(((s1.trans s2).trans s3).trans s4).trans s5;have el:e≠l:=(((((st.same s1).same s2).same s3).same s4)).ne ne;apply#[_,Z,_,Z,l,17,Z,by decide,by decide,st.same SL,λq H6 q0 q1 b6 gZ=>?_]
 let#[v,hv,r,iH,rfl]:=NZ (p:=λv:V=>∃r∈rl,v=.str r.1) (xs:=jZ.map V.str) (r:=q) (n:=17) Z q0 q1 (λv hv=>by
  let#[x,hx,rfl]:=bG.mp hv;let#[r,h1,h2]:=TU x hx;exact#[r,h1,by rw[h2]])
 exact#[e,_,_,_,Z,Z,.inl (.inl (b6 _ _ e5 el)),hv,k r H6 iH ((aP.of SL).trans b6) gZ]
end
end Ev
namespace Ev
open PySem L2
theorem Wo.nt{K:af}{CG CW g p d:Addr}{H G:Hp}{hs:Xa}{ts:Xb}{qs:aI}{fp:ai}{ns:ae}{f:aj}(S:Wo K CG CW H g p d hs ts qs fp ns f)(s:NT H G):Wo K CG CW G g p d hs ts qs fp ns f:=#[S.S.nt s,S.W,S.SQ,S.w1]
section
variable{P:Ad}{w:Af}{K:af}{mg:Str->Option Aa}{base:Heap}{CG CW:Addr}
abbrev YG:ae:=[gA,"_law_most_hands","_law_most_pieces","_law_hands","_law_ties","_law_pieces_here",pG]
theorem Ib:bx YG vk (aX lV):=bE
def oB(K:af)(CG CW:Addr):Sp:=λvs H Q _=>∃(l:Addr) (m:Nat),vs=[.ref l,.int 4,.int m]/\m<=30/\ck H l/\∀(t g p d:Addr) (r:Rl) (hs:Xa) (ts:Xb) (qs:aI) (fp:ai) (ns:ae) (f:aj) (H':Hp),aP l H H'->ck H' l->r∈rl->H' t\.tup [.ref g,.ref d,.str r.1]->Wo K CG CW H' g p d hs ts qs fp ns f->d≠l->l∉fp->H d=none->Q (.ref t) H'
theorem iR_{f0:Addr}{fd:Ae}(F:bj K "_law_world" "_law_world" lV f0 fd)(cL:!aY 3 "_law_web" [gA,uN] (rV K))(cP:!aY 3 "_law_pieces" vi (Qk K))(cS:!aY 2 "_law_stand" vj (Pg K))(cR:!aY 2 "_law_rule" BY lL)(cW:!ik CW 5 "Web" pR (G5 K CW))(cG:!ik CG 7 "Goods" pP (He K CG CW)):!aq a9 9 f0 fd vk (oB K CG CW):=by
 exists F.bL Ib;let#[l,m,rfl,Fw,st,k]:=h;let sz:=cn;refine' #[_,ax ?s1 (ax ?s2 (ax ?s3 (aH ?s4))),?kk]
 case s1=>exact DM (aQ cL hr %[0,1|0]) (pJ Z (d6 (cO 3 Ib.nd) (d6 (cO 4 Ib.nd) jI)))
 case s2=>exact bq 5 Ib.nd (aQ cP hr %[0,4,2|0])
 case s3=>exact bq 6 Ib.nd (aQ cS hr %[0,5,3|0])
 case s4=>exact bg (fB %[BZ cG hr %[BZ cW hr %[3,4|0],5|0],6,aQ cR hr %[0|0]|0])
 apply#[_,Z,_,Z,l,Z,st,λt0 lh lt yh yt hs ts H1 b1 fo zm Fo C0 nll qg th dY tt Gd _=>?_];apply#[t0,_,Z,.of zm,Z,_,_,Z,_,_,Z,Z,?_];have zd:lh≠l:=st.ne Fo;have qz:lt≠l:=st.ne C0;apply#[_,Z,_,Z,_,Z,l,lt,m,yt,ts,Z,Fw,fo,dY,tt,qz,Gd.rN,Gd.tok,Gd.Sq,λlp yp ps H2 b2 eh C3 Dk pc gp nd pm _=>?_];lk;let#[Yt,fS]:=fo.some;let Gj:=b2 _ _ qg zd;let NM:=b2 _ _ dY qz;let Sr:=iS th b2 fS;let Zz:=iS tt b2 fS;have Bd:lp≠l:=fo.ne C3;let XT:=b1.trans b2;apply#[_,Z,_,Z,_,Z,l,lp,lh,yp,yh,ps,hs,Z,eh,Dk,Bd,pc,Gj,zd,Sr,?_,?_,by omega,nd,λd f H3 b3 iO Th ed fm=>?_]
 ·have:=Gd.h1;omega
 ·exact Gd.h8
 lk;let#[Yq,ja]:=eh.some;let NU:=b3 _ _ Gj zd;let Ge:=b3 _ _ NM qz;let NQ:=b3 _ _ Dk Bd;let ZA:=iS Sr b3 ja;let Zy:=iS Zz b3 ja;let IK:=XT.trans b3;have dl:d≠l:=eh.ne Th;have _x:uO K H3 yp ps:=Paired.bF pc λ_ _ q=>q.but b3 eh;let#[RW,pd]:=iO.some;let nd0:=XT.free eh Th;apply#[_,Z,_,Z,TL Gd NU ZA Ge Zy (λp bR H5 s5 W fw=>#[_,Z,VU W Gd (s5 _ _ NQ) (Paired.bF _x λ_ _ q=>q.same s5) gp nd Z1 (λg qs fp H6 s6 GA Qq fr=>?_)])];let oR:=s5.trans s6;let gZ:=iO.same oR
 have lfp:l∉fp:=λm=>by
  rcases fr l m with z|z
  ·have:=fw l z;rw[pd] at this;cases this
  rw[s5 _ _ pd] at z;cases z
 have je:d∉fp:=λm=>by
  rcases fr d m with z|z
  ·have:=fw d z;rw[ed] at this;cases this
  rw[s5 _ _ ed] at z;cases z
 apply#[_,Z,_,Z,l,Z,gZ,λr H7 hr7 b7 jR=>?_];apply#[zl,λt nt=>?_];let#[s8,e8]:=bp (o:=.tup [.ref g,.ref d,.str r.1]) nt;generalize upd H7 t (.tup [.ref g,.ref d,.str r.1])=H8 at s8 e8 ⊢;let#[Yn,JL]:=gZ.some;let G7:=GA.keep (λc hc o e=>b7 _ _ e (λz=>lfp (z▸hc))) λc zs e=>b7 _ _ e (bX e JL nofun);let#[zG,G8,sub,has]:=(G7.same s8).xI;let ed8:=s8 _ _ (b7 _ _ (oR _ _ ed) dl)
 have SV:(ps.map (·.1)).Perm (qs.map (·.1)):=by
  rw[Qq.CY];exact (yi _).symm
 let ql:=Qq.len;have Lr:aP l H H8:=((IK.trans (aP.of oR)).trans b7).trans (aP.of s8)
 have Ap:∀q∈qs,1<=q.2.1/\q.2.1<=1000000000:=λq hq=>by
  let#[q',hq',rfl]:=Qq.mem q hq;exact#[(gp q' hq').w1,(gp q' hq').w2]
 exact k t g p d r hs ts qs zG (ps.map (·.1)) f H8 Lr (jR.same s8) hr7 e8 #[#[G8,λz=>je (sub _ z),ed8,#[SV,fm],has],#[Gd,Qq.nd nd,by omega,λn hn=>fm n (SV.mem_iff.mpr hn),λq hq=>#[by have:=(Ap q hq).1;omega,(Ap q hq).2]],by omega,λq hq=>(Ap q hq).1] dl (λz=>lfp (sub _ z)) nd0
end
end Ev
namespace Ev
open PySem L2
theorem VQ{α:Type}{xs:List α}(h:0<xs.length):fu xs (-1)=xs[xs.length - 1]?:=by
 unfold fu xm;rw[aB (by decide),aJ Z1];show xs[((xs.length:Int) + -1).toNat]? = _;congr 1;omega
section
variable{P:Ad}{w:Af}{K:af}{mg:Str->Option Aa}{base:Heap}{CG CW T1 T2:Addr}
abbrev YN:ae:=[qi,pG,vQ,"_law_many","_law_stands","_law_now","_law_piece","_law_one","_law_other"]
theorem D6:bx YN kG (aX Py):=bE
inductive Hy (K:af) (CG CW T1 T2:Addr) (vs:ag) (H:Hp) (Q:VK) (E:XK):Prop
 |mk:∀(g p d:Addr) (many:Nat) (hs:Xa) (ts:Xb) (qs:aI) (fp:ai) (ns:ae) (f:aj),∀r∈rl,vs=[.ref g,.ref d,.str r.1,.int many]->many<=3000->Wo K CG CW H g p d hs ts qs fp ns f->Tb H T1 T2->(∀(ls:Addr) (ds:ai) (n:Nat) (H':Hp),BT T1 T2 H H'->Tb H' T1 T2->H ls=none->H' ls\.lst (ds.map V.ref)->ds.length=n+1->n<=many->(∀(j:Nat) (a:Addr),ds[j]? = some a->H a=none/\a≠ls/\H' a\.dK (cX ns (runM r hs ts qs f j)))->(∀j:Nat,j<n->gJ r hs ts qs (runM r hs ts qs f j)=false)->(n=many∨gJ r hs ts qs (runM r hs ts qs f n)=true)->Q (.ref ls) H')->Hy K CG CW T1 T2 vs H Q E
theorem hC_{f0:Addr}{fd:Ae}(F:bj K "_law_walked" "_law_walked" Py f0 fd)(B:Bi mg)(Cd:!aY 10 "at_rest" qG (Ks K CG CW T1 T2))(Q3:!aY 9 "moves_of" vg (Qa K CG CW T1 T2)):!aq a9 11 f0 fd kG (Hy K CG CW T1 T2):=by
 apply F.ok D6 (λvs H Q E h=>?_) (λaO A outer s H vs Q E hr h=>?_)
 ·let#[g,p,d,m,hs,ts,qs,fp,ns,f,r,cc,rfl,_]:=h;rfl
 let#[g,p,d,many,hs,ts,qs,fp,ns,f,r,cc,rfl,m3,O,tb,k]:=h;let sz:=cn;let hu:=gD hr;refine' ⟨_,ax ?s1 ?r1,?kk⟩
 case s1=>exact bq 4 D6.nd (eB %[iK Lj (by rfl) B.dict qN %[1|0]|0])
 case' r1=>refine' ax ?s2 (aH (bg (pv 4)))
 case' s2=>refine' VM eM (PW.pt (zQ ?w1 (Cj ?w2))) (ax ?b1 (ax ?b2 (aH ?b3)))
 case w1=>exact dj uL (cy iL (by rfl) B.len ia %[4|0]) (pv 3)
 case w2=>exact eY (eK (aQ Cd hr %[0,bM gL (pv 4) (GK Hb aC),2|0]))
 case b1=>exact bq 5 D6.nd (iK Lj (by rfl) B.dict qN %[bM gL (pv 4) (GK Hb aC)|0])
 case b2=>exact eX eM Z (d5 (aQ Q3 hr %[0,5,2,bN zO (cy iL (by rfl) B.len ia %[4|0]) aC|0])) (pJ Z (d6 (cO 6 D6.nd) (d6 (cO 7 D6.nd) (d6 (cO 8 D6.nd) jI)))) (aH (yd hu (pv 5) (pv 6) (pv 8) Z))
 case b3=>exact jH (km k7 wc wd u_ (pv 4) %[5|0])
 let S:=O.S;let pm:=S.so.perm;apply#[_,Z,d,_,Z,.inl S.hd,λd0 n0=>?_];let#[s1,e1]:=bp (o:=.dK (cX ns f)) n0;show _/\_;generalize upd H d0 (.dK (cX ns f))=H1 at s1 e1 ⊢;apply#[zl,λls C1=>?_];let s2:=aa.new (o:=.lst [.ref d0]) C1;have We:upd H1 ls (.lst [.ref d0]) ls\.lst ([d0].map V.ref):=au;let e2:=s2 _ _ e1;have d0l:d0≠ls:=bw e1 C1;show iA _ _ _ (upd H1 ls (.lst [.ref d0])) _;generalize upd H1 ls (.lst [.ref d0])=H2 at s2 We e2 ⊢;lk;let iq:=s1.trans s2;let Tc:=s1.free C1;have fC:Tb H2 T1 T2:=#[tb.a.same iq,tb.b.same iq,tb.ne]
 have SD:∀{G:Hp} {dp:Addr} {i:Nat},NT H G->H dp=none->G dp\.dK (cX ns (runM r hs ts qs f i))->iY K CG CW G g p dp hs ts qs fp ns (runM r hs ts qs f i):=λ{G dp i} nt nd e=>by
  apply#[S.G.nt nt,λm=>?_,e,#[pm,λn hn=>(O.W.run r i).at_ n (pm.mem_iff.mp hn)],λb hb=>?_]
  ·let#[o,e',_]:=S.has _ m;rw[nd] at e';cases e'
  let#[o,e,q]:=S.has b hb;exact#[o,nt _ _ e q,q]
 have last:∀{ds:ai} {n:Nat} {dp:Addr},ds.length=n+1->ds[n]? = some dp->fu (ds.map V.ref) (-1)\.ref dp:=λ{ds n dp} ld e=>by
  rw[VQ (by rw[ay];omega),ay,ld,Nat.add_sub_cancel,dU,e];rfl
 apply#[λm σ H'=>∃(i:Nat) (v5 v6 v7 v8:aL) (ds:ai),m=many+1 - i/\i<=many/\σ=[some (.ref g),some (.ref d),some (.str r.1),some (.int many),some (.ref ls),v5,v6,v7,v8]/\BT T1 T2 H H'/\Tb H' T1 T2/\H' ls\.lst (ds.map V.ref)/\ds.length=i+1/\(∀(j:Nat) (a:Addr),ds[j]? = some a->H a=none/\a≠ls/\H' a\.dK (cX ns (runM r hs ts qs f j)))/\∀j:Nat,j<i->gJ r hs ts qs (runM r hs ts qs f j)=false,#[many+1,0,none,none,none,none,[d0],Z,by omega,Z,BT.of iq,fC,We,Z,λj a e=>?_,by omega],?_]
 ·match j,e with
  |0,e=>cases e;exact#[n0,d0l,e2]
 rintro m σ H3 ⟨i,v5,v6,v7,v8,ds,rfl,im,rfl,b3,jv,el,ld,da,no⟩;obtain⟨dp,DH⟩:∃dp,ds[i]? = some dp:=#[_,cE Z1];let#[nd,dl,ed]:=da i dp DH;have out:gJ r hs ts qs (runM r hs ts qs f i)=true∨i=many->∀H4,BT T1 T2 H H4->Tb H4 T1 T2->NT H3 H4->Q (.ref ls) H4:=λc H4 b4 fj gg=>k ls ds i H4 b4 fj Tc (gg.lst el) ld im (λj a e=>#[(da j a e).1,(da j a e).2.1,gg.dK (da j a e).2.2]) no c.symm;apply#[_,Z,ls,_,Z,.inl (.of el),_,Z,_,_,Z,Z,_,Z,?_];apply aN (λc=>?_) (λc=>?_);rotate_left 1
 ·have c:¬((ds.map V.ref).length:Int)<=(many:Int):=⇑c
  rw[ay] at c;exact a_ #[_,Z,out (.inr Z1) H3 b3 jv (NT.refl _)]
 have c:((ds.map V.ref).length:Int)<=(many:Int):=⇑c
 rw[ay] at c;apply#[_,Z,_,Z,1,Z,ls,_,_,.ref dp,Z,Z,.inl (.inl el),last ld DH,_,Z,?_];apply#[g,p,dp,hs,ts,qs,fp,ns,_,r,cc,Z,SD (b3.nt tb) nd ed,O.W.run r i,jv,λH4 b4 fj=>?_];let IJ:=b3.trans b4;let gg:=b4.nt jv;apply#[_,Z,aN (λc=>?_) (λc=>?_)];rotate_left 1
 ·have c:gJ r hs ts qs (runM r hs ts qs f i)=true:=⇑c
  exact#[_,Z,out (.inl c) H4 IJ fj gg]
 have cr:gJ r hs ts qs (runM r hs ts qs f i)=false:=⇑c
 clear out;apply#[_,λbA H' h=>h,?_];let Ke:=gg.lst el;let BW:=gg.dK ed;apply#[_,Z,1,Z,ls,_,_,.ref dp,Z,Z,.inl (.inl Ke),last ld DH,dp,_,Z,.inl BW,λdn xg=>?_];let#[s5,e5]:=bp (o:=.dK (cX ns (runM r hs ts qs f i))) xg;show iA _ _ _ (upd H4 dn (.dK (cX ns (runM r hs ts qs f i)))) _;generalize upd H4 dn (.dK (cX ns (runM r hs ts qs f i)))=H5 at s5 e5 ⊢;lk;let z_:=IJ.trans (BT.of s5);have gO:Tb H5 T1 T2:=#[fj.a.same s5,fj.b.same s5,fj.ne];have Fk:NT H3 H5:=gg.trans (NT.of s5);let el5:=Fk.lst el
 have nn:H dn=none:=by
  cases z:H dn with
  |none=>rfl
  |some o=>
   by_cases y1:dn=T1
   ·let#[tv,hT]:=gc fj.a;rw[y1,hT] at xg;cases xg
   by_cases y2:dn=T2
   ·let#[tv,hT]:=gc fj.b;rw[y2,hT] at xg;cases xg
   rw[IJ _ _ z y1 y2] at xg;cases xg
 have PX:dn≠ls:=(bw Ke xg).symm;have dnp:∀{j:Nat} {a:Addr},ds[j]? = some a->a≠dn:=λ{j a} e=>bw (gg.dK (da j a e).2.2) xg;apply#[_,Z,_,Z,_,Z,_,Z,ls,_,Z,.inl (.of el5),_,_,Z,Z,?_];rw[show ((ds.map V.ref).length:Int) - 1=(i:Int) by rw[ay];omega];apply#[g,p,dn,(i:Int),hs,ts,qs,fp,ns,_,r,cc,Z,by omega,SD (z_.nt tb) nn e5,O.W.run r i,gO,λl ys H6 b6 vy nl hl tu=>?_];let b06:=z_.trans b6;let mK:=b6.nt gO;let Fj:=Fk.trans mK;let e6:=mK.dK e5;let el6:=Fj.lst el;have ldn:l≠dn:=bX hl e6 nofun;let ly:=bH tu;rw[ay] at ly
 have n64:ns.length<64:=by
  have:=pm.length_eq;rw[ay] at this;have:=O.W.bS;omega
 apply#[l,Z,#[_,.of hl],ie (K:=K) (a:=l) (xs:=ys) (λj σ H'=>∃v6 v7 v8:aL,σ=[some (.ref g),some (.ref d),some (.str r.1),some (.int many),some (.ref ls),some (.ref dn),v6,v7,v8]/\aP dn H6 H'/\H' dn\.dK (cX ns (fZ (runM r hs ts qs f i) ((jx r hs ts qs (runM r hs ts qs f i) i).take j)))) #[v6,v7,v8,Z,aP.refl _ _,e6] (λj σ H' _ ⟨_,_,_,_,b,_⟩=>.of (b _ _ hl ldn)) ?_ ?_]
 ·rintro j y σ H' hy ⟨v6,v7,v8,rfl,b',e'⟩;let#[x,hx,Eo,rfl,xo]:=nX tu hy;let xo:=Uw xo;have LI:Eo≠dn:=bX xo e6 nofun;apply#[Eo,_,Z,.of (b' _ _ xo LI),Z,_,_,Z,_,_,Z,_,_,Z,Z,?_];dsimp only;apply#[_,Z,_,Z,_,Z,dn,_,Z,.k (k:=Sum.inr x.1) e' (by rw[jJ];omega),?_];apply#[_,_,_,Z,b'.trans aP.upd,?_];rw[au,Vr (pm.mem_iff.mpr (JX (O.W.run r i) r i x (dA hx)).1),WG hx,Wf]
 rintro σ H7 ⟨v6,v7,v8,rfl,b',e'⟩;rw[ly,eN] at e';have e':H7 dn\.dK (cX ns (runM r hs ts qs f (i+1))):=e';have kT:∀{T qn},cg H6 T qn->cg H7 T qn:=λ⟨es,a1,a2⟩=>#[es,b' _ _ a1 (λz=>by rw[z,e6] at a1;cases a1),λx hx=>b' _ _ (a2 x hx) (λz=>by have:=a2 x hx;rw[z,e6] at this;cases this)];have vx:Tb H7 T1 T2:=#[kT vy.a,kT vy.b,vy.ne];let Kc:=b' _ _ el6 PX.symm;have RE:BT T1 T2 H H7:=λb o e y1 y2=>b' _ _ (b06 b o e y1 y2) (bw e nn);apply#[_,Z,.inl #[Z,#[_,.of Kc]],_,Z,ls,_,_,Z,Z,Kc,by rw[ay];omega,?_];have b8:aP ls H7 (upd H7 ls (.lst (ds.map V.ref++[.ref dn]))):=aP.upd
 have e8:upd H7 ls (.lst (ds.map V.ref++[.ref dn])) ls\.lst ((ds++[dn]).map V.ref):=by
  rw[au,cu];rfl
 generalize upd H7 ls (.lst (ds.map V.ref++[.ref dn]))=H8 at b8 e8 ⊢;have TH:∀{T qn},cg H7 T qn->cg H8 T qn:=λ⟨es,a1,a2⟩=>#[es,b8 _ _ a1 (λz=>by rw[z,Kc] at a1;cases a1),λx hx=>b8 _ _ (a2 x hx) (λz=>by have:=a2 x hx;rw[z,Kc] at this;cases this)];apply#[many+1 - (i+1),by omega,i+1,_,_,_,_,ds++[dn],Z,by omega,Z,λb o e y1 y2=>b8 _ _ (RE b o e y1 y2) (bw e Tc),#[TH vx.a,TH vx.b,vx.ne],e8,by rw[fA,ld];rfl,λj a e=>?_,λj hj=>?_]
 ·by_cases z:j<ds.length
  ·rw[CD z] at e;let#[x1,x2,x3]:=da j a e;exact#[x1,x2,b8 _ _ (b' _ _ (Fj.dK x3) (dnp e)) x2]
  rw[Ak Z1] at e
  have ej:j=i+1:=by
   have:=(cw.mp e).1;simp only[CB] at this;omega
  subst ej;rw[ld,Nat.sub_self] at e;cases e;exact#[nn,PX,b8 _ _ e' PX]
 by_cases z:j<i
 ·exact no j z
 obtain rfl:j=i:=by omega
 exact cr
end
end Ev
namespace L2
open PySem PySem.Spec PyProof.Rows PySem.W jL cY
section
variable{X:Cx}{e st:Expr}{te ts:TE}{pos p2:Pos}
end
section
variable{X:Cx}
end
end L2
namespace L2
open PySem PySem.Spec PyProof.Rows PySem.W jL cY
def _k(K:af){D:Type}(R:Rp D):Rp (List D):=λH x ds=>∃a xs,x=.ref a/\fN K H a xs/\Paired (R H) xs ds
section
variable{X:Cx}
theorem kS_{D:Type}[DecidableEq D]{ds es:List D}:((List.range (min ds.length es.length)).all (λj=>decide (ds[j]? = es[j]?))&&ds.length == es.length)=decide (ds=es):=by
 by_cases hl:ds.length=es.length
 ·rw[hl,Nat.min_self,<- hl,Lg hl];simp
 rw[dH (λz=>hl (by rw[z])),show (ds.length == es.length)=false by rw[beq_eq_false_iff_ne];exact hl,Bool.and_false]
end
end L2
namespace L2
open PySem PySem.Spec PyProof.Rows PySem.W jL cY
section
variable{X:Cx}
theorem kF_{n:Nat}{D:Type}[DecidableEq D]{R:Rp D}(c:jM X n R)(hu:X.A.units+n+1<cLine):dN X (compareOp .NotEq) (w_ (_k X.K R) true):=by
 intro pins s σ H x y v u Q I rx ry h;let#[d,e,#[a,xs,rfl,t,q],#[b,ys,rfl,t',q'],hq]:=h;cases rx;cases ry;let#[us,r,pl,_]:=I.tuple t;let#[vs,r',oY,_]:=I.tuple t';let l1:=r.length;let l2:=r'.length;let l3:=bH q;let l4:=bH q';apply SeqAt.RcNeAt.tuples (D5 pl) (D5 oY) Z1 (K8 c I r r' q q' (A:=X.A.in1) (by show X.A.units+1+n<cLine;omega)) X.prog X.w _ _ #[.bl _,H,I,Z,?_];rw[show us.toArray.size=d.length by simp only[cq];omega,show vs.toArray.size=e.length by simp only[cq];omega,kS_];exact hq
end
end L2
namespace L2
open PySem PySem.Spec PyProof.Rows PySem.W jL cY
def fK:V->Option Key
 |.bl b=>some (.inl (if b then 1 else 0))
 |.int i=>some (.inl i)
 |.str x=>some (.inr x)
 |_=>none
def rK:Rp Key:=λ_ x d=>fK x\d
theorem Um{α:Type}[BEq α][LawfulBEq α][DecidableEq α](a b:α):(a == b)=decide (a=b):=by
 by_cases h:a=b
 ·subst h;simp
 simp[h]
theorem lQ_{x y:V}{d e:Key}(hx:fK x\d)(hy:fK y\e):mX x y=decide (d=e)/\uF x=true/\uF y=true:=by
 have il:∀a b:Int,(a == b)=decide ((Sum.inl a:Key)=Sum.inl b):=λa b=>(Um a b).trans (decide_eq_decide.mpr #[λh=>by rw[h],λh=>Sum.inl.inj h]);have ir:∀a b:Str,(a == b)=decide ((Sum.inr a:Key)=Sum.inr b):=λa b=>(Um a b).trans (decide_eq_decide.mpr #[λh=>by rw[h],λh=>h9 h]);cases x<;>cases hx<;>cases y<;>cases hy<;>apply#[?_,Z,Z]
 ·rename_i a b
  cases a<;>cases b<;>rfl
 ·exact il _ _
 ·rfl
 ·exact il _ _
 ·exact il _ _
 ·rfl
 ·rfl
 ·rfl
 exact ir _ _
section
variable{X:Cx}
theorem QF:jM X 0 rK where
 eq:=λ{pins σ H s A x y u v d e} I ru rv hx hy hu=>by
  let#[e2,fx,fy]:=lQ_ hx hy;let q:=Hc (A:=A) (s:=s) ru rv fx fy;rwa [e2] at q
 one:=λ{pins σ H s x d e} I hx hy=>d7 ((show fK x\d from hx).symm.trans hy)
end
end L2
namespace L2
open PySem PySem.Spec PyProof.Rows PySem.W jL cY
section
variable{X:Cx}
end
end L2
namespace Ev
open PySem L2
theorem lB_{K:af}{H H':Hp}{a:Addr}{xs:ag}(s:NT H H')(h:dW K H a xs):dW K H' a xs:=by
 rcases h with (h|⟨o,h⟩)|h
 ·exact .inl (.inl (s.lst h))
 ·exact .inl (.inr #[o,s _ _ h nofun])
 exact .inr h
theorem Tb.nt{H G:Hp}{T1 T2:Addr}(t:Tb H T1 T2)(s:aa H G):Tb G T1 T2:=#[t.a.same s,t.b.same s,t.ne]
def fb(r:Rl)(hs:Xa)(ts:Xb)(qs:aI)(f:aj)(n:Nat):ag:=((List.range n).map λi=>qw hs qs (runM r hs ts qs f i)).map V.int
theorem QS(r:Rl)(hs:Xa)(ts:Xb)(qs:aI)(f:aj)(n:Nat):fb r hs ts qs f (n+1)=fb r hs ts qs f n++[.int (qw hs qs (runM r hs ts qs f n))]:=by
 unfold fb;rw[List.range_succ,cu,cu];rfl
theorem KM(r:Rl)(hs:Xa)(ts:Xb)(qs:aI)(f:aj)(n:Nat):(fb r hs ts qs f n).length=n:=by
 unfold fb;rw[ay,ay,List.length_range]
theorem iY.copy{K:af}{CG CW g p d dk:Addr}{H G:Hp}{hs:Xa}{ts:Xb}{qs:aI}{fp:ai}{ns:ae}{f:aj}(S:iY K CG CW H g p d hs ts qs fp ns f)(s:NT H G)(n:H dk=none)(e:G dk\.dK (cX ns f)):iY K CG CW G g p dk hs ts qs fp ns f:=#[S.G.nt s,λm=>(by
 let#[o,e',_]:=S.has _ m;rw[n] at e';cases e'),e,S.so,λb hb=>by
 let#[o,e,q]:=S.has b hb;exact#[o,s _ _ e q,q]]
theorem O4{H:Hp}:∀ss:List Int,Paired (rZ H) (ss.map V.int) ss
 |[]=>.nil
 |s::ss=>.cons Z (O4 ss)
theorem kL_{ns:ae}{f:aj}:(ns.all λn=>decide (f n=f n))=true:=List.all_eq_true.mpr λn _=>cb Z
def NL(l:Addr)(H H':Hp):Prop:=∀b o,H b\o->(∀vs,o≠.tbl vs)->b≠l->H' b\o
theorem NL.trans{l:Addr}{H H1 H2:Hp}(a:NL l H H1)(b:NL l H1 H2):NL l H H2:=λc o e n m=>b c o (a c o e n m) n m
theorem NL.of{l:Addr}{H H':Hp}(s:NT H H'):NL l H H':=λb o e n _=>s b o e n
theorem NL.bt{l:Addr}{H H':Hp}(s:aP l H H'):NL l H H':=λb o e _ n=>s b o e n
theorem NL.nt{l:Addr}{H H1 H2:Hp}(b:NL l H1 H2)(nl:H l=none)(s:aa H H1):NT H H2:=λc o e n=>b _ _ (s _ _ e) n (bw e nl)
section
variable{K:af}{CG CW g p d l T1 T2:Addr}{H H':Hp}{hs:Xa}{ts:Xb}{qs:aI}{fp:ai}{ns:ae}{f:aj}
theorem Wo.but(O:Wo K CG CW H g p d hs ts qs fp ns f)(b:aP l H H')(st:ck H l)(dl:d≠l)(lfp:l∉fp):Wo K CG CW H' g p d hs ts qs fp ns f:=by
 let#[xs,hl]:=st.some
 exact#[#[O.S.G.keep (λc hc o e=>b _ _ e (λz=>lfp (z▸hc))) (λc zs e=>b _ _ e (bX e hl nofun)),O.S.je,b _ _ O.S.hd dl,O.S.so,λc hc=>by
  let#[o,e,q]:=O.S.has c hc;exact#[o,b _ _ e (λz=>lfp (z▸hc)),q]],O.W,O.SQ,O.w1]
theorem Tb.but(t:Tb H T1 T2)(b:aP l H H')(st:ck H l):Tb H' T1 T2:=by
 let#[xs,hl]:=st.some;have kT:∀{T qn},cg H T qn->cg H' T qn:=λ⟨es,a1,a2⟩=>#[es,b _ _ a1 (λz=>by rw[z,hl] at a1;cases a1),λx hx=>b _ _ (a2 x hx) (λz=>by have:=a2 x hx;rw[z,hl] at this;cases this)];exact#[kT t.a,kT t.b,t.ne]
end
section
variable{P:Ad}{w:Af}{K:af}{mg:Str->Option Aa}{base:Heap}{CG CW:Addr}
theorem wO:bx zK zK (aX l8):=bE
inductive Ku (K:af) (CG CW:Addr) (vs:ag) (H:Hp) (Q:VK) (E:XK):Prop
 |mk:∀(g p d:Addr) (hs:Xa) (ts:Xb) (qs:aI) (fp:ai) (ns:ae) (f:aj),vs=[.ref g,.ref d]->iY K CG CW H g p d hs ts qs fp ns f->Wd hs ts qs f->(∀H',aa H H'->Q (.int (qw hs qs f)) H')->Ku K CG CW vs H Q E
theorem iS_{f:Addr}{fd:Ae}(F:bj K "sum_of" "sum_of" l8 f fd)(cC:!aY 2 "checked_stand" zK (Ht K CG CW))(cL:!aY 5 "sum_at" kj (KD K CG CW)):!aq a9 6 f fd zK (Ku K CG CW):=by
 exists F.bL wO;let#[g,p,d,hs,ts,qs,fp,ns,f,rfl,S,W,k]:=h;apply#[_,aH (bg (aQ cL hr %[0,aQ cC hr %[0,1|0]|0])),?_];apply#[_,Z,_,Z,_,Z,g,p,d,hs,ts,qs,fp,ns,f,Z,S.G,S.je,S.hd,S.so,W.nd,W.bS,λd1 H1 s1 n1 e1=>?_]
 exact#[g,p,d1,hs,ts,qs,fp,f,Z,#[S.G.same s1,W.Gd,λm=>(by
  let#[o,e,_]:=S.has _ m;rw[e] at n1;cases n1),e1,W.at_,W.nd,W.bS],W.wq,λH2 s2=>k H2 (s1.trans s2)]
end
section
variable{K:af}{CG CW g p d l T1 T2:Addr}{H H':Hp}{hs:Xa}{ts:Xb}{qs:aI}{fp:ai}{ns:ae}{f:aj}
theorem iJ_{r:Rl}{te:TE}{E:XK}{H3:Hp}{D ls:Addr}{ds:ai}{Q:VK}(hte:∀a H4 Q2,Ku K CG CW [.ref g,.ref a] H4 Q2 E->te [some (.ref a),some (.ref g)] H4 Q2)
  (W:Wd hs ts qs f) (kZ:H3 ls\.lst (ds.map V.ref)) (da:∀(j:Nat) (a:Addr),ds[j]? = some a->iY K CG CW H3 g p a hs ts qs fp ns (runM r hs ts qs f j)) (l0:ds.length<=3001) (hD:H3 D=none)
  (k:∀H':Hp,aa H3 H'->H' D\.lst (fb r hs ts qs f ds.length)->Q (.ref D) H'):vR (An K ls) (iA 0) q_ te [none,some (.ref g)] D H3 Q:=by
 let sz:=cn;apply jK (own:=1) (fv:=[some (.ref g)]) (xs:=ds.map V.ref) Z dR (λi out H'=>aa H3 H'/\H' D\.lst (fb r hs ts qs f i)/\out=fb r hs ts qs f i) #[aa.new hD,au,Z] (λi out H' _ ⟨sm,_⟩=>.of (sm _ _ kZ)) (λout H' ⟨sm,dE,eo⟩=>k H' sm (by rw[ay] at dE;exact dE)) (λi x out H' hx ⟨sm,dE,eo⟩=>?_)
 obtain⟨a,ha,rfl⟩:∃a,ds[i]? = some a/\x=.ref a:=by
  rw[dU] at hx;cases z:ds[i]? with
  |none=>rw[z] at hx;cases hx
  |some a=>rw[z] at hx;cases hx;exact#[a,Z,Z]
 let S3:=(da i a ha).nt (NT.of sm);apply#[_,Z,Z,λNx hN=>dB ?_];apply hte a _ _ #[g,p,a,hs,ts,qs,fp,ns,_,Z,S3,W.run r i,λH5 s5=>?_];let pA:=s5 _ _ dE;apply#[out,by rw[eo];exact pA,by rw[eo,KM];have:=(cw.mp ha).1;omega,hN (out++[.int (qw hs qs (runM r hs ts qs f i))]) _ #[gU (sm.trans s5) hD,?_,?_]]
 ·rw[au,eo,<- QS]
 rw[eo,<- QS]
end
end Ev
namespace cY
open PySem PySem.W PyProof.Rows
section
variable{prog:Ad}{w:Af}{K:Type}[DecidableEq K](knd:KeyKind prog w K)
def nI(h:Heap)(m:List K × K)(a:Addr):Prop:=∃o n c v,h.get? a\o/\o.cls=.type "tuple"/\o.data=.seq (List.toArray [.ref c,v]) n/\IsTupleKey knd h m.1 c/\knd.is m.2 v=true
variable{knd}
variable{A:Ag}{E:Aa->Ab->Prop}{s:Ab}
theorem nI.typeIs{m:List K × K}{a:Addr}(x:nI knd s.heap m a):s.TypeIs (.ref a) "tuple":=let #[o,_,_,_,ho,hc,_]:=x;#[o,ho,hc]
theorem nI.inj{h:Heap}{a:Addr}{x y:List K × K}(hx:nI knd h x a)(hy:nI knd h y a):x=y:=by
 let#[o,n,c,v,ho,_,hd,h1,h2]:=hx;let#[o',n',c',v',gy,_,fH,iw,fV]:=hy;obtain rfl:o=o':=d7 (ho.symm.trans gy);rw[hd] at fH
 injection fH with e _
 have e2:[Value.ref c,v]=[Value.ref c',v']:=dF Array.toList e
 injection e2 with e3 e4
 injection e3 with e3
 injection e4 with e4 _
 subst e3 e4;exact Prod.ext (h1.inj iw) (knd.inj _ _ _ h2 fV)
theorem nI.keeps{h h':Heap}{m:List K × K}{a d:Addr}{o:Obj}{es ep}(x:nI knd h m a)(ho:h.get? d\o)(hd:o.data=.dict es ep)(hs:Heap.SameBut d h h'):nI knd h' m a:=by
 let#[o',n,c,v,gy,hc,fH,h1,h2]:=x
 have mQ:a≠d:=by
  rintro rfl;obtain rfl:o'=o:=d7 (gy.symm.trans ho);rw[hd] at fH;exact nomatch fH
 exact#[o',n,c,v,(hs.2 a mQ).trans gy,hc,fH,h1.keeps ho hd hs,h2]
def P9(knd:KeyKind prog w K)(m:List K × K):Int:=reduceHash (Builtin.Tuple.tupleHashOf [tupleKeyHash knd m.1,knd.hash m.2])
theorem f5_{m:List K × K}{a:Addr}{Q:Int->Ab->Prop}(hu:A.units+1<cLine)(hk:nI knd s.heap m a)(h:Q (P9 knd m) { s with toks:=s.toks+(m.1.length+1+1+1) }) :
  wpAny (model prog w) A (pyHash (.ref a)) Q E s:=by
 let hT:=hk.typeIs;let#[o,n,c,v,ho,_,hd,h1,h2]:=hk;unfold pyHash
 first|unfold pyHashByItsType|skip
 first|refine ao (wpAny_cRoomFor_or (.inr Z1) ?_)|skip
 apply ao (wpAny_specialOf hT F.slot_tuple_hash.lookup ?_);show wpAny _ _ (if (some (Value.builtin "tuple.__hash__") == some Value.none)=true then _ else _) Q E s;rw[aB (by rw[beq_builtin_none];exact gW)];apply ao (wpAny_specialOf hT F.slot_tuple_hash.lookup ?_);show wpAny _ _ (callSpecialIfBoundUnlessNone? (.ref a) "__hash__" _ >>= _) Q E s;apply ao (wpAny_callSpecialIfBoundUnlessNone?_slot hT F.slot_tuple_hash (uJ F.slot_tuple_hash hT F.entry_tuple_hash ?_ (F.args_tuple_hash_1 _)));show wpAny _ _ (Builtin.Tuple.tupleItemsOf (.ref a) >>= _) _ _ s;apply ao (wpAny_tupleItemsOf ho hd ?_);apply ao ?_;rw[<- Array.forIn_toList]
 apply wpAny_forIn_list _
  (λrest (b:Array Int) s'=>(rest=[.ref c,v]/\b.toList=[]/\s'=s)∨(rest=[v]/\b.toList=[tupleKeyHash knd m.1]/\s'={ s with toks:=s.toks+(m.1.length+1) })∨(rest=[]/\b.toList=[tupleKeyHash knd m.1,knd.hash m.2]/\s'={ s with toks:=s.toks+(m.1.length+1+1) }))
  _ ?_ ?_ _ _ (.inl #[Z,Z,Z])
 ·rintro x rest b s' (⟨e,hb,rfl⟩|⟨e,hb,rfl⟩|⟨e,_⟩)
  ·injection e with e1 e2
   subst e1 e2;apply ao (wpAny_pyHash_tuple (knd:=knd) (by show _<cLine;omega) h1 ?_)
   first
    |exact aK (.inr (.inl ⟨rfl,by simp[hb],rfl⟩))
    |exact ao (aK (aK (.inr (.inl ⟨rfl,by simp[hb],rfl⟩))))
  ·injection e with e1 e2
   subst e1 e2;apply ao (knd.pyHash h2 ?_)
   first
    |exact aK (.inr (.inr ⟨rfl,by simp[hb],rfl⟩))
    |exact ao (aK (aK (.inr (.inr ⟨rfl,by simp[hb],rfl⟩))))
  cases e
 rintro b s' (⟨e,_⟩|⟨e,_⟩|⟨_,hb,rfl⟩)
 ·cases e
 ·cases e
 show wpAny _ _ (retInt (Builtin.Tuple.tupleHashOf b.toList)) _ _ _;rw[hb];apply wpAny_ret_mkInt ?_;unfold P9 reduceHash at h;show wpAny _ _ (if (decide (-(2:Int) ^ 63<=Builtin.Tuple.tupleHashOf [tupleKeyHash knd m.1,knd.hash m.2])&&decide (Builtin.Tuple.tupleHashOf [tupleKeyHash knd m.1,knd.hash m.2]<2 ^ 63))=true then _ else _) Q E _;by_cases hr:(decide (-(2:Int) ^ 63<=Builtin.Tuple.tupleHashOf [tupleKeyHash knd m.1,knd.hash m.2])&&decide (Builtin.Tuple.tupleHashOf [tupleKeyHash knd m.1,knd.hash m.2]<2 ^ 63))=true
 ·rw[aJ hr];rw[aJ hr] at h;exact aK (by simpa [Nat.add_assoc] using h)
 rw[aB hr];rw[aB hr] at h;exact ao (wpAny_rule (aK (by simpa [Nat.add_assoc] using h)))
theorem dU_{x y:List K × K}{a b:Addr}{P:PySem.Fin->Ab->Prop}(hu:A.units<cLine)(hx:nI knd s.heap x a)(hy:nI knd s.heap y b)(h:P (.done (.ret (.bool (decide (x=y))))) s) :
  wpAny (model prog w) A (Builtin.«tuple.__eq__» ⟨[.ref a,.ref b],[]⟩) P E s:=by
 let Ot:=hy.typeIs;let#[oa,na,c,v,NC,_,Oh,h1,h2]:=hx;let#[ob,nb,c',v',F8,_,mT,iw,fV]:=hy;show wpAny _ _ (isInstance (.ref b) (.type "tuple") >>= _) _ _ s;apply ao (wpAny_isInstance Ot isSubtype_tuple_tuple ?_);simp only[nR,iB,gz];apply ao (wpAny_tupleItemsOf NC Oh ?_);apply ao (wpAny_tupleItemsOf F8 mT ?_);apply ao ?_
 apply wpAny_forIn_list _
  (λrest r s'=>r.1=none/\s'=s/\((rest=[(.ref c,.ref c'),(v,v')])∨(rest=[(v,v')]/\x.1=y.1)∨(rest=[]/\x=y)))
  _ ?_ ?_ _ _ ⟨rfl,rfl,.inl rfl⟩
 ·rintro⟨u,u'⟩ rest r s' ⟨hr,rfl,e|⟨e,e1⟩|⟨e,_⟩⟩
  ·injection e with e2 e3
   injection e2 with e4 e5
   subst e3 e4 e5;apply ao (wpAny_eqBool_tuple (knd:=knd) hu h1 iw ?_);by_cases hk:x.1=y.1
   ·rw[cb hk];simp only[nR,iB,gz];exact aK ⟨rfl,rfl,.inr (.inl ⟨by trivial,hk⟩)⟩
   rw[dH hk];simp only[Bool.not_false,if_true];rw[dH (λz:x=y=>hk (by rw[z]))] at h;exact ao (aK (aK (aK h)))
  ·injection e with e2 e3
   injection e2 with e4 e5
   subst e3 e4 e5;apply ao (knd.eqBool (a:=x.2) (b:=y.2) h2 fV ?_);by_cases hk:x.2=y.2
   ·rw[cb hk];simp only[nR,iB,gz];exact aK ⟨rfl,rfl,.inr (.inr ⟨by trivial,Prod.ext e1 hk⟩)⟩
   rw[dH hk];simp only[Bool.not_false,if_true];rw[dH (λz:x=y=>hk (by rw[z]))] at h;exact ao (aK (aK (aK h)))
  cases e
 rintro⟨r1,r2⟩ s' ⟨hr,rfl,e|⟨e,_⟩|⟨_,e⟩⟩
 ·cases e
 ·cases e
 simp only at hr;subst hr;apply aK ?_;rw[cb e] at h;exact h
theorem eY_{x y:List K × K}{a b:Addr}{Q:Bool->Ab->Prop}(hu:A.units+1<cLine)(hx:nI knd s.heap x a)(hy:nI knd s.heap y b)(h:Q (decide (x=y)) s) :
  wpAny (model prog w) A (eqBool (.ref a) (.ref b)) Q E s:=by
 unfold eqBool
 try with_reducible apply mZ ?_
 show wpAny _ _ (if (Value.ref a == Value.ref b)=true then _ else _) Q E s;by_cases jB:(Value.ref a == Value.ref b)=true
 ·rw[aJ jB];have e:a=b:=by have:=eq_of_beq jB;injection this
  subst e;obtain rfl:=hx.inj hy;exact ao (wpAny_rule (aK ⇑h))
 rw[aB jB]
 exact ao (wpAny_richCompare_same_room (op:=.Eq) hx.typeIs hy.typeIs F.slot_tuple_eq
  (uJ F.slot_tuple_eq hx.typeIs F.entry_tuple_eq (dU_ (by show _<cLine;omega) hx hy ⟨_,rfl,(λe=>nomatch e),qk h⟩) (F.args_tuple_eq_2 _ _)) Z1)
theorem Xu{n:Nat}{ks:List K}{a:Addr}{Q:Bool->Ab->Prop}(hk:IsTupleKey knd s.heap ks a)(h:Q true s):wpAny (model prog w) A (eqIsQuiet (n+1) (.ref a)) Q E s:=by
 let hT:=hk.typeIs;let#[o,items,m,ho,_,hd,hi]:=hk;unfold eqIsQuiet;apply ao (wpAny_specialOf hT F.slot_tuple_eq.lookup ?_);show wpAny _ _ (isInstance (.ref a) (.type "tuple") >>= _) _ _ s;apply ao (wpAny_isInstance hT isSubtype_tuple_tuple ?_);simp only[nR,iB,gz];apply ao (wpAny_seqItems ho hd ?_);apply ao ?_;show wpAny _ _ (forIn items _ _) _ _ s;rw[<- Array.forIn_toList];apply wpAny_forIn_list _ (λrest r s'=>r.1=none/\s'=s/\∀v∈rest,carriedByValue v=true) _ ?_ ?_ _ _ ⟨rfl,rfl,hi.byValue⟩
 ·rintro v rest r s' ⟨hr,rfl,qh⟩;rw[eqIsQuiet_byValue _ (qh v fM)];apply ao (aK ?_);simp only[nR,iB,gz];exact aK ⟨rfl,rfl,λu Uq=>qh u (eR _ Uq)⟩
 rintro⟨r1,r2⟩ s' ⟨hr,rfl,_⟩;simp only at hr;subst hr;exact aK h
theorem gs_{m:List K × K}{a:Addr}{Q:Bool->Ab->Prop}(hk:nI knd s.heap m a)(h:Q true s):wpAny (model prog w) A (eqIsQuiet 8 (.ref a)) Q E s:=by
 let hT:=hk.typeIs;let#[o,n,c,v,ho,_,hd,h1,h2]:=hk;unfold eqIsQuiet;apply ao (wpAny_specialOf hT F.slot_tuple_eq.lookup ?_);show wpAny _ _ (isInstance (.ref a) (.type "tuple") >>= _) _ _ s;apply ao (wpAny_isInstance hT isSubtype_tuple_tuple ?_);simp only[nR,iB,gz];apply ao (wpAny_seqItems ho hd ?_);apply ao ?_;show wpAny _ _ (forIn (List.toArray [Value.ref c,v]) _ _) _ _ s;rw[<- Array.forIn_toList];apply wpAny_forIn_list _ (λrest r s'=>r.1=none/\s'=s/\(rest=[.ref c,v]∨rest=[v]∨rest=[])) _ ?_ ?_ _ _ ⟨rfl,rfl,.inl rfl⟩
 ·rintro u rest r s' ⟨hr,rfl,e|e|e⟩
  ·injection e with e1 e2
   subst e1 e2;apply ao (Xu h1 ?_);simp only[nR,iB,gz];exact aK ⟨rfl,rfl,.inr (.inl (by trivial))⟩
  ·injection e with e1 e2
   subst e1 e2;rw[eqIsQuiet_byValue _ (knd.byValue _ _ h2)];apply ao (aK ?_);simp only[nR,iB,gz];exact aK ⟨rfl,rfl,.inr (.inr (by trivial))⟩
  cases e
 rintro⟨r1,r2⟩ s' ⟨hr,rfl,_⟩;simp only at hr;subst hr;exact aK h
end
def Hx{prog:Ad}{w:Af}{K:Type}[DecidableEq K](knd:KeyKind prog w K):HeapKind prog w (List K × K) where
 is:=nI knd
 hash:=P9 knd
 draws:=λm=>m.1.length+1+1+1
 room:=λA=>A.units+1<cLine
 inj:=λhx hy=>hx.inj hy
 keeps:=λx ho hd hs=>x.keeps ho hd hs
 pyHash:=λhu hk h=>f5_ hu hk h
 eqBool:=λhu hx hy h=>eY_ hu hx hy h
 quiet:=λhk h=>gs_ hk h
end cY
namespace L2
open PySem PySem.Spec PyProof.Rows PySem.W
section
variable{X:Cx}
end
end L2
namespace cY
open PySem PySem.W PyProof.Rows
section
variable{prog:Ad}{w:Af}{A:Ag}{E:Aa->Ab->Prop}{s:Ab}
end
end cY
namespace L2
open PySem PySem.Spec PyProof.Rows PySem.W cY
def dP(d:Addr)(es:Array Ah)(ep:Nat):HO:=.ext λh=>Raw h d es ep/\(d == sysModules)=false
theorem TR{X:Cx}{pins:List (Addr × Obj)}{σ:St}{H:Hp}{s:Ab}{d:Addr}{es:Array Ah}{ep:Nat}(I:Inv X pins σ H s)(e:H d\dP d es ep):Raw s.heap d es ep/\(d == sysModules)=false:=
 (show eI X.prog X.w H s.heap d (dP d es ep) from I.aE d _ e).1
theorem ON{P:Ad}{w:Af}{H:Hp}{h:Heap}{d:Addr}{es:Array Ah}{ep:Nat}(r:Raw h d es ep)(hd:(d == sysModules)=false):eI P w H h d (dP d es ep):=
 #[#[r,hd],(let #[o,e,_]:=r;#[o,e]),λh1 h2 ⟨a,b⟩ k=>#[a.eC k,b]]
section
variable{X:Cx}{o i e value:Expr}{pos pos' En:Pos}{td ty tv:TE}
end
section
variable{X:Cx}
end
end L2
namespace L2
open PySem PySem.Spec PyProof.Rows PySem.W cY
abbrev bu:=az × Int
def bU(m:bu):az × Key:=(m.1,Sum.inl m.2)
theorem Lb{a b:bu}(h:bU a=bU b):a=b:=by
 let h1:=dF Prod.fst h;let h2:=dF Prod.snd h;exact Prod.ext h1 (Sum.inl.inj h2)
def gY(H:Hp)(b:Addr)(m:bu):Prop:=∃c,H b\.tup [.ref c,.int m.2]/\H c\.tup (m.1.map kV)
def kK(P:Ad)(w:Af)(H:Hp)(d:Addr)(kvs:List (bu × V)):Prop:=∃(es:Array Ah) (ep:Nat) (xs:List ((az × Key) × Addr × Aa)),H d\dP d es ep/\es.toList=xs.map (entryOfKey (Hx (d_ P w)))/\Paired (λ(p:bu × V) (q:(az × Key) × Addr × Aa)=>bU p.1=q.1/\gY H q.2.1 p.1/\RelV p.2 q.2.2) kvs xs/\(kvs.map (·.1)).Nodup
theorem gY.keep{H H':Hp}{b:Addr}{m:bu}(h:gY H b m)(k:∀c xs,H c\.tup xs->H' c\.tup xs):gY H' b m:=by
 let#[c,h1,h2]:=h;exact#[c,k _ _ h1,k _ _ h2]
theorem kK.keys{P:Ad}{w:Af}{H:Hp}{kvs:List (bu × V)}{xs:List ((az × Key) × Addr × Aa)}(h:Paired (λ(p:bu × V) (q:(az × Key) × Addr × Aa)=>bU p.1=q.1/\gY H q.2.1 p.1/\RelV p.2 q.2.2) kvs xs):xs.map (·.1)=(kvs.map (·.1)).map bU:=by
 induction h with
 |nil=>rfl
 |cons h t ih=>rw[dZ,dZ,dZ,ih,h.1]
section
variable{X:Cx}{pins:List (Addr × Obj)}{σ:St}{H:Hp}{s:Ab}
theorem Kv{P:Ad}{w:Af}{H:Hp}{h:Heap}{b:Addr}{m:bu}(ok:eL P w H h)(e:gY H b m):(Hx (d_ P w)).is h (bU m) b:=by
 let#[c,h1,h2]:=e;let#[_,its,r,#[o,q1,q2,n,q3],_]:=(show eI P w H h b (.tup [.ref c,.int m.2]) from ok b _ h1);let#[u,v,rfl,r1,r2]:=vals2 r;cases r1;exact#[o,n,c,v,q1,q2,q3,B_ ok h2,vY (k:=Sum.inl m.2) r2]
theorem Oz{d:Addr}{kvs:List (bu × V)}(I:Inv X pins σ H s)(h:kK X.prog X.w H d kvs):(d == sysModules)=false/\∃(es:Array Ah) (ep:Nat) (xs:List ((az × Key) × Addr × Aa)),H d\dP d es ep/\s.heap.DictOfH (Hx (d_ X.prog X.w)) d xs/\Paired (λ(p:bu × V) (q:(az × Key) × Addr × Aa)=>bU p.1=q.1/\gY H q.2.1 p.1/\RelV p.2 q.2.2) kvs xs:=by
 let#[es,ep,xs,e,ee,pr,nd]:=h;let#[#[o,ho,hc,hd],hs]:=TR I e;apply#[hs,es,ep,xs,e,#[o,es,ep,ho,hc,hd,ee,λx hx=>?_,?_],pr]
 ·let#[i,hi,ex]:=ku hx;let le:=bH pr;let#[a,b,_]:=ig pr i Z1 hi;rw[ex] at a b;rw[<- a];exact Kv I.aE b
 rw[kK.keys (P:=X.prog) (w:=X.w) pr,pL,qQ];exact (pL.mp nd).imp λn e=>n (Lb e)
theorem JA{kvs:List (bu × V)}{xs:List ((az × Key) × Addr × Aa)}(h:Paired (λ(p:bu × V) (q:(az × Key) × Addr × Aa)=>bU p.1=q.1/\gY H q.2.1 p.1/\RelV p.2 q.2.2) kvs xs)(m:bu):(m∉kvs.map (·.1)->atKey xs (bU m)=none)/\∀v,(m,v)∈kvs->(kvs.map (·.1)).Nodup->∃p,atKey xs (bU m)\p/\RelV v p.2:=by
 induction h with
 |nil=>exact#[λ_=>rfl,λv h=>by cases h]
 |@cons p q ps qs hq t ih=>
  let#[e,_,r]:=hq;by_cases z:p.1=m
  ·have e2:atKey (q::qs) (bU m)\q.2:=by simp[atKey,vc,<- e,z]
   apply#[λn=>absurd (by simp[z]) n,λv hv nd=>#[q.2,e2,?_]];rcases cU.mp hv with hv|hv
   ·rw[<- hv] at r;exact r
   rw[dZ,lA] at nd;exact absurd (bG.mpr #[_,hv,z.symm]) nd.1
  have e2:atKey (q::qs) (bU m)=atKey qs (bU m):=by
   have:¬q.1=bU m:=λy=>z (Lb (e.trans y));simp[atKey,vc,this]
  rw[e2];apply#[λn=>ih.1 λy=>n (by rw[dZ];exact eR _ y),λv hv nd=>?_];rw[dZ,lA] at nd;rcases cU.mp hv with hv|hv
  ·rw[<- hv] at z;exact absurd Z z
  exact ih.2 v hv nd.2
theorem Pi{A:Ag}(hu:A.units+2<cLine):(Hx (d_ X.prog X.w)).room A.in1:=by
 show A.units+1+1<cLine;omega
end
section
variable{X:Cx}{o i value:Expr}{pos pos':Pos}{td ty tv:TE}
def Ax:TE:=λ_ H Q=>∀p,H p=none->Q (.ref p) (upd H p (dP p #[] 0))
theorem Vx:PE X (.Dict [] [] pos) Ax:=λpins s σ H Q I h=>
 wpAny_Dict_empty #[.ref s.heap.objs.size,_,I.laid (a:=s.heap.objs.size) (o:=dP s.heap.objs.size #[] 0) (t':=s.toks) (λ_ _ q=>cj _ q) (bo _) (ON #[_,eE _ Z,#[Z,Z,Z],Z] (beq_eq_false_iff_ne.mpr (Ne.symm (eJ I.big)))),Z,h _ (I.aE.fresh (bo _))]
theorem jZ_{P:Ad}{w:Af}{H:Hp}{d:Addr}:kK P w (upd H d (dP d #[] 0)) d []:=#[#[],0,[],au,Z,.nil,List.nodup_nil]
inductive rG (P:Ad) (w:Af) (Q:VK) (y:V) (x:V) (H2:Hp):Prop
 |mk:∀(d b:Addr) (m:bu) (kvs:List (bu × V)),x=.ref d->y=.ref b->gY H2 b m->kK P w H2 d kvs->(∀z:Bool,(z=true ↔ m∈kvs.map (·.1))->Q (.bl z) H2)->rG P w Q y x H2
def EE(P:Ad)(w:Af)(ty td:TE):TE:=λσ H Q=>ty σ H λy H1=>td σ H1 λx H2=>rG P w Q y x H2
theorem kt_(hu:X.A.units+2<cLine)(hi:PE X i ty)(ho:PE X o td):PC X .In i o (EE X.prog X.w ty td):=by
 intro pins s σ H Q I h;apply aR (hi pins s σ H _ I h) λiv s1 ⟨y,H1,I1,ry,q1⟩=>aR (ho pins s1 σ H1 _ I1 q1) λu s2 ⟨x,H2,I2,rx,d,b,m,kvs,ex,ey,mk,ms,q2⟩=>?_;subst ex ey;cases (show u=Value.ref d from rx);cases (show iv=Value.ref b from ry);let#[_,_,_,_,_,_,nd]:=id ms;let#[hs,es,ep,xs,e,dd,pr]:=Oz I2 ms;apply wpAny_in_heap (Pi hu) (Kv I2.aE mk) hs dd ?_;apply#[.bl _,H2,I2.tok _,Z,q2 _ ?_];by_cases z:m∈kvs.map (·.1)
 ·let#[#[m',v],hv,em]:=bG.mp z;cases em;let#[p,hp,_]:=(JA pr m').2 v hv nd;rw[hp];exact#[λ_=>z,λ_=>rfl]
 rw[(JA pr m).1 z];exact#[λh=>(by cases h),λh=>absurd h z]
inductive oy (P:Ad) (w:Af) (Q:VK) (x:V) (y:V) (H2:Hp):Prop
 |mk:∀(d b:Addr) (m:bu) (kvs:List (bu × V)) (v:V),x=.ref d->y=.ref b->gY H2 b m->kK P w H2 d kvs->(m,v)∈kvs->Q v H2->oy P w Q x y H2
def AA(P:Ad)(w:Af)(td ty:TE):TE:=λσ H Q=>td σ H λx H1=>ty σ H1 λy H2=>oy P w Q x y H2
theorem Vy(hu:X.A.units+2<cLine)(ho:PE X o td)(hi:PE X i ty)(hs:vn i):PE X (.Subscript o i pos) (AA X.prog X.w td ty):=by
 intro pins s σ H Q I h;apply Ky PySem.F.slot_dict_getitem.lookup hs (aR (ho pins s σ H _ I h) λu s1 ⟨x,H1,I1,rx,q1⟩=>aR (hi pins s1 σ H1 _ I1 q1) λiv s2 ⟨y,H2,I2,ry,d,b,m,kvs,v,ex,ey,mk,ms,mv,q2⟩=>?_);subst ex ey;cases (show u=Value.ref d from rx);cases (show iv=Value.ref b from ry);let#[_,_,_,_,_,_,nd]:=id ms;let#[hs,es,ep,xs,e,dd,pr]:=Oz I2 ms;let#[p,hp,rp]:=(JA pr m).2 v mv nd;exact#[dd.typeIs,wpAny_getItem_heap (Pi hu) (Kv I2.aE mk) dd hp #[v,H2,I2.tok _,rp,q2]]
inductive oP (P:Ad) (w:Af) (D:Ends) (σ:St) (v:V) (x:V) (y:V) (H3:Hp):Prop
 |mk:∀(d b:Addr) (m:bu) (kvs:List (bu × V)),x=.ref d->y=.ref b->gY H3 b m->kK P w H3 d kvs->m∉kvs.map (·.1)->kvs.length<sizeLine->(∀H4,(∀c o,H3 c\o->c≠d->H4 c\o)->kK P w H4 d (kvs++[(m,v)])->D.nx σ H4)->oP P w D σ v x y H3
def A0(P:Ad)(w:Af)(td ty tv:TE):TS:=λD σ H=>tv σ H λv H1=>td σ H1 λx H2=>ty σ H2 λy H3=>oP P w D σ v x y H3
theorem jf_(hu:X.A.units+2<cLine)(ho:PE X o td)(hi:PE X i ty)(hv:PE X value tv)(hs:swapsWith value (some (.Subscript o i pos')) pos.line X.env=pure false) :
  PS X (.Assign [.Subscript o i pos'] value pos) (A0 X.prog X.w td ty tv):=by
 intro pins s σ H D I h;apply wpAny_Assign_Subscript (aR (hv pins s σ H _ I h) λr s1 ⟨v,H1,I1,rv,q1⟩=>aR (ho pins s1 σ H1 _ I1 q1) λu s2 ⟨x,H2,I2,rx,q2⟩=>aR (hi pins s2 σ H2 _ I2 q2) λiv s3 ⟨y,H3,I3,ry,d,b,m,kvs,ex,ey,mk,ms,nm,hz,q3⟩=>?_) hs;subst ex ey;cases (show u=Value.ref d from rx);cases (show iv=Value.ref b from ry);let#[_,_,_,_,_,_,nd]:=id ms;let#[hs,es,ep,xs,e,dd,pr]:=Oz I3 ms;let le:=bH pr;apply wpAny_setItem_heap (hsz:=by omega) (Pi hu) (Kv I3.aE mk) dd λh' vX Nt=>?_;let#[q,pE,qE,hq,h2,h3,h4,_,h5]:=vX;have A4:Raw h' d pE qE:=#[q,hq,h2,h3];let I4:=KC (t':=s3.toks+(Hx (d_ X.prog X.w)).draws (bU m)) I3 (by rw[e];exact True.intro) Nt #[q,hq] (ON A4 hs)
 have kt:∀c xs,H3 c\.tup xs->upd H3 d (dP d pE qE) c\.tup xs:=λc xs ec=>by
  rw[aA (bX ec e nofun)];exact ec
 apply#[σ,_,I4,q3 _ (λc o e n=>by rw[aA n];exact e) #[pE,qE,_,au,h4,?_,?_]]
 ·have st:storedH xs (bU m) b r=xs++[(bU m,b,r)]:=by
   unfold storedH;rw[(JA pr m).1 nm];rfl
  rw[st];exact Paired.snoc (Paired.bF pr λp q ⟨a,b,c⟩=>#[a,b.keep kt,c]) #[Z,mk.keep kt,rv]
 rw[cu,List.nodup_append];apply#[nd,by simp,λa ha b hb=>?_];rw[show b=m by simpa using hb];intro z;rw[z] at ha;exact nm ha
end
end L2
namespace cY
open PySem PySem.W PyProof.Rows
section
variable{prog:Ad}{w:Af}{A:Ag}{E:Aa->Ab->Prop}{s:Ab}
inductive Src (h:Heap) (it l:Addr) (i:Nat) (xs:Array Aa):Prop
 |lst (a:h.IsListIter it l i) (b:h.IsList l xs):Src h it l i xs
 |tup (a:h.IsTupleIter it l i) (b:h.IsTuple l xs):Src h it l i xs
abbrev Zp(h:Heap)(z TI TO:Addr)(f0:Aa)(f1:Bool):Prop:=h.get? z=some { cls:=.type "zip",dict:=none,data:=.fields (List.toArray [f0,.bool f1,.bool false,.ref TI,.ref TO]),slots:=#[] }
abbrev Ls(h:Heap)(T:Addr)(xs:Array Aa):Prop:=h.get? T=some { cls:=.type "tuple",data:=.seq xs }
structure X0 (h:Heap) (z TI TO i1 i2 i3 l1 l2 l3:Addr) (k:Nat) (xs ys zs:Array Aa):Prop where
 nd:[z,TO,i1,i2,i3].Nodup
 ti:TI∉[z,TO,i1,i2,i3]
 ls:∀l∈[l1,l2,l3],l∉[z,TO,i1,i2,i3]
 hI:Ls h TI (List.toArray [.ref i1,.ref i2,.ref i3])
 hO:∃a b c,Ls h TO (List.toArray [a,b,c])
 s1:Src h i1 l1 k xs
 s2:Src h i2 l2 k ys
 s3:Src h i3 l3 k zs
end
end cY
namespace cY
open PySem PySem.W PyProof.Rows
section
variable{prog:Ad}{w:Af}{A:Ag}{E:Aa->Ab->Prop}{s:Ab}
end
end cY
namespace L2
open PySem PySem.Spec PyProof.Rows PySem.W cY
end L2
namespace cY
open PySem PySem.W PyProof.Rows
section
variable{prog:Ad}{w:Af}{A:Ag}{E:Aa->Ab->Prop}{s:Ab}
structure Two (h:Heap) (z TI TO i1 i2 l1 l2:Addr) (k:Nat) (xs ys:Array Aa):Prop where
 nd:[z,TO,i1,i2].Nodup
 ti:TI∉[z,TO,i1,i2]
 ls:∀l∈[l1,l2],l∉[z,TO,i1,i2]
 hI:Ls h TI (List.toArray [.ref i1,.ref i2])
 hO:∃a b,Ls h TO (List.toArray [a,b])
 s1:Src h i1 l1 k xs
 s2:Src h i2 l2 k ys
 hz:Zp h z TI TO .none false∨∃T o f1,T∉[z,TO,i1,i2]/\h.get? T\o/\Zp h z TI TO (rawInt T) f1
end
end cY
namespace cY
open PySem PySem.W PyProof.Rows
section
variable{prog:Ad}{w:Af}{A:Ag}{E:Aa->Ab->Prop}{s:Ab}
end
end cY
namespace cY
open PySem PySem.W PyProof.Rows
section
variable{prog:Ad}{w:Af}{A:Ag}{E:Aa->Ab->Prop}{s:Ab}
end
section
variable{prog:Ad}{w:Af}{K:Type}[DecidableEq K]{knd:PySem.KeyKind prog w K}{A:Ag}
end
end cY
namespace cY
open PySem PySem.W PyProof.Rows
section
variable{prog:Ad}{w:Af}{A:Ag}{E:Aa->Ab->Prop}{s:Ab}
end
end cY
namespace L2
open PySem PySem.Spec PySem.Calls PyProof.Rows PySem.W cY
end L2
namespace cY
open PySem PySem.W PyProof.Rows
section
variable{prog:Ad}{w:Af}{A:Ag}{E:Aa->Ab->Prop}{s:Ab}
end
end cY
namespace cY
open PySem PySem.W PyProof.Rows
section
variable{prog:Ad}{w:Af}{A:Ag}{E:Aa->Ab->Prop}{s:Ab}
end
end cY
namespace L2
open PySem PySem.Spec PyProof.Rows PySem.W cY
end L2
namespace L2
open PySem PySem.Spec PyProof.Rows PySem.W cY
section
variable{X:Cx}
end
section
variable{X:Cx}{CX:jN}{k:Nat}{f C:Addr}{fd:Ae}{ps ks:ae}{sp:Sp}{E:XK}{m:Str}{pos apos:Pos}{e o:Expr}{es:List Expr}{C8:List Keyword}{ta:TE}{t tk:TA}{g:ak->ak->ak}{gV:ag->ag->ag}
end
structure FunD (K:af) (x qual:Str) (st:Stmt) (f:Addr) (fd:Ae):Prop where
 ex:∃(oc:Aa) (od:Option Addr) (T:Addr) (kV doc pm:Aa) (an:Option Addr) (aO ct:Aa) (i9:Array (Option Aa)) (o:Obj) (n:Nat),
  fd=PySem.W.fnOf x qual (jj st) (h_ st) (aX st) (.ref T) kV doc pm an aO ct/\K.lookup f=some ⟨oc,od,.func fd,i9⟩/\PySem.W.codeIn K aO qual=true/\K.lookup T\o/\o.data=.seq (List.toArray [.none]) n
end L2
namespace L2
open PySem PySem.Spec PyProof.Rows PySem.W cY
open AutoSeq1 (wpAny_loadPart')
theorem d8_{prog:Ad}{w:Af}(r:Addr)(o:Obj)(hc:o.cls=.type "dict_values")(φ:ak->Ab->Prop) :
  MeetsIn prog w (Builtin.«tuple.__new__» ⟨[.type "tuple",.ref r],[]⟩) (λA R s=>s.heap.get? r\o/\A.handled=none/\(∀(A':Ag) (E':Aa->Ab->Prop) (Rr:ak->Ab->Prop),A'.handled=none->(∀vs s1,φ vs s1->Rr vs s1)->wpAny (model prog w) A' (collect (.ref r)) Rr E' s)/\∀vs s1,φ vs s1->vs.length<=sizeLine/\R (.ok (.ret (.ref s1.heap.objs.size))) { s1 with heap:=s1.heap.push { cls:=.type "tuple",data:=.seq vs.toArray } }):=
 .of_wp λA R s h=>by
  let#[hp,g,d,tk,os]:=s;let#[ht,hh,col,h]:=h;let hsub:=sub_tuple_self;let UL:=init_tuple_lookup;let hmh:=madeHere_tuple;have hT:Shared.TypeIs #[hp,g,d,tk,os] (.ref r) "dict_values":=#[o,ht,hc];have QA:∀{Rr:ak->Ab->Prop} {E':Aa->Ab->Prop},(∀vs s1,φ vs s1->Rr vs s1)->wpAny (model prog w) A.in1 (collect (.ref r)) Rr E' #[hp,g,d,tk,os]:=λh=>col A.in1 _ _ hh h
  wp_walk using qj ht,wpAny_typeOf hT,QA
  intro vs s1 hv;let#[hz,h]:=h vs s1 hv;apply (show wpAny _ _ (Builtin.Tuple.tupleExact vs.toArray >>= λv=>ret v) _ _ _ from ?_);unfold Builtin.Tuple.tupleExact;apply ao (nA ?_ (by show vs.toArray.size<=sizeLine;simpa using hz));exact aK #[_,Z,h]
section
variable{X:Cx}
inductive yR (xs:ag) (H:Hp) (Q:VK):Prop
 |mk:∀v d kvs,xs=[.ref v]->H v\wb v d->H d\.dK kvs->(∀l,H l=none->Q (.ref l) (upd H l (.tup (kvs.map (·.2)))))->yR xs H Q
theorem hz_(hc:X.calm=true):gB X (.type "tuple") yR:=by
 intro pins s σ H xs us Q I r h;let#[v,d,kvs,rfl,hv,hd,q]:=h;let#[u,rfl,ru]:=vals1 r;cases ru;let#[z,hdn,vs,rel,dd]:=nE I.aE (.inl hd);let#[ep,dat]:=dd.dictAt;let#[iv,_,_]:=I.aE v _ hv;let hl:=rel.length;let#[o,ho,oc,_]:=id iv
 have col:∀(A':Ag) (E':Aa->Ab->Prop) (Rr:ak->Ab->Prop),A'.handled=none->(∀ws s1,(Inv X pins σ H s1/\Vals (kvs.map (·.2)) ws)->Rr ws s1)->wpAny (model X.prog X.w) A' (collect (.ref v)) Rr E' s:=λA' E' Rr hh q=>by
  apply kdu_collect (kdl_values (knd:=d_ X.prog X.w) (kvs:=vs) (ep:=ep)) hh #[iv,dat] Z1 λh' tk acc k a=>q _ _ #[I.kept k,?_];have a':ItemsOf (λi v=>∃k,vs[i]? = some (k,v)) acc (kvs.map (·.2)).length:=by rw[ay,hl];exact a
  apply Lk a' λj v ⟨k,e⟩ y hy=>?_;rw[dU] at hy;cases e3:kvs[j]? with
  |none=>rw[e3] at hy;cases hy
  |some kv=>
   rw[e3] at hy;let#[u,hu,ru]:=Ox rel j (k:=kv.1) (x:=kv.2) e3;rw[e] at hu;let hu:=d7 hu;have g2:v=u:=dF Prod.snd hu;cases (d7 hy:kv.2=y);rw[g2];exact ru
 apply callType_newIn F.called_tuple (by decide) (F.typeCall_tuple_1 _) (F.newCall_tuple_1 _) (λobj=>F.args_object_init_2 obj _) F.entry_tuple_new
  (d8_ v o oc λws s1=>Inv X pins σ H s1/\Vals (kvs.map (·.2)) ws) #[ho,I.ok.hd hc,col,λws s1 ⟨I1,r1⟩=>#[?_,#[_,eE _ Z,Z],?_]]
 ·rw[<- r1.length,ay];exact z
 exact#[.ref s1.heap.objs.size,_,I1.laid (t':=s1.toks) (λb o e=>cj _ e) (bo _) (show eI X.prog X.w _ _ _ (.tup (kvs.map (·.2))) from #[by rw[ay];exact z,ws,r1,IsTup.new _ _,_,eE _ Z,Z]),Z,q _ (I1.aE.fresh (bo _))]
end
end L2
namespace Ev
open PySem L2
def fE(r:Rl)(hs:Xa)(ts:Xb)(qs:aI)(f:aj)(i:Nat):bu:=(qs.map λq=>Sum.inr (runM r hs ts qs f i q.1),((i % fJ r ts:Nat):Int))
def GM(r:Rl)(hs:Xa)(ts:Xb)(qs:aI)(f:aj)(i:Nat):Prop:=gJ r hs ts qs (runM r hs ts qs f i)=false/\∀j:Nat,j<i->fE r hs ts qs f j≠fE r hs ts qs f i
def EZ(r:Rl)(hs:Xa)(ts:Xb)(qs:aI)(f:aj)(n:Nat)(v:V)(H:Hp):Prop:=
 (∃(t d:Addr) (i:Nat),v=.ref t/\i<=n/\(∀j:Nat,j<i->GM r hs ts qs f j)/\gJ r hs ts qs (runM r hs ts qs f i)=true/\H t\.tup [.str "rest",.int i,.ref d]/\H d\.dK (cX (qs.map (·.1)) (runM r hs ts qs f i))) ∨
 (∃(t:Addr) (i j:Nat),v=.ref t/\i<=n/\(∀j:Nat,j<i->GM r hs ts qs f j)/\gJ r hs ts qs (runM r hs ts qs f i)=false/\j<i/\fE r hs ts qs f j=fE r hs ts qs f i/\H t\.tup [.str "ring",.int j,.int ((i:Int) - j)]) ∨
 ∃t:Addr,v=.ref t/\(∀j:Nat,j<=n->GM r hs ts qs f j)/\H t\.tup [.str "more"]
theorem kK.nt{P:Ad}{w:Af}{H H':Hp}{d:Addr}{kvs:List (bu × V)}(h:kK P w H d kvs)(s:NT H H'):kK P w H' d kvs:=by
 let#[es,ep,xs,e,ee,pr,nd]:=h;exact#[es,ep,xs,s _ _ e nofun,ee,Paired.bF pr λp q ⟨a,b,c⟩=>#[a,b.keep λc xs e=>s _ _ e nofun,c],nd]
theorem XG{d:Addr}{es:Array Ah}{ep:Nat}{q:Str}:zH d q≠dP d es ep:=by
 intro z
 injection z with z
 have hg:(Heap.mk (Array.replicate (d+1) { (default:Obj) with data:=.fields (List.toArray [.none,.str q default]) }) {}).get? d=some { (default:Obj) with data:=.fields (List.toArray [.none,.str q default]) }:=by
  unfold Heap.get?;simp only[Array.getElem?_replicate,Nat.lt_succ_self,if_true]
 let c:=(congrFun z (Heap.mk (Array.replicate (d+1) { (default:Obj) with data:=.fields (List.toArray [.none,.str q default]) }) {})).mp #[_,_,_,hg,Z,Z];let#[#[o',e,_,dd],_]:=c;rw[hg] at e;cases e;cases dd
def g_(r:Rl)(hs:Xa)(ts:Xb)(qs:aI)(f:aj)(i:Nat):List (bu × V):=(List.range i).map λj=>(fE r hs ts qs f j,V.int j)
theorem VH{r:Rl}{hs:Xa}{ts:Xb}{qs:aI}{f:aj}{i:Nat}{m:bu}:m∈(g_ r hs ts qs f i).map (·.1) ↔ ∃j:Nat,j<i/\fE r hs ts qs f j=m:=by
 unfold g_;rw[b_,bG];constructor
 ·rintro⟨j,hj,e⟩;exact#[j,yk.mp hj,e]
 rintro⟨j,hj,e⟩;exact#[j,yk.mpr hj,e]
theorem hl_(r:Rl)(ts:Xb):0<fJ r ts:=by
 unfold fJ;split<;>omega
theorem iT_(qs:aI)(f:aj):(cX (qs.map (·.1)) f).map (·.2)=(qs.map λq=>(Sum.inr (f q.1):Key)).map kV:=by
 unfold cX dX;simp only[b_];exact vf λq _=>rfl
section
variable{P:Ad}{w:Af}{K:af}{mg:Str->Option Aa}{base:Heap}{CG CW T1 T2:Addr}
abbrev _g:ae:=["goods","stand","rule","most","placed","rows","first_by_mark","moment","mark"]
theorem CA:bx _g zN (aX me):=bE
inductive lK (K:af) (CG CW T1 T2:Addr) (vs:ag) (H:Hp) (Q:VK) (E:XK):Prop
 |mk:∀(g p d:Addr) (n:Nat) (hs:Xa) (ts:Xb) (qs:aI) (fp:ai) (ns:ae) (f:aj),∀r∈rl,vs=[.ref g,.ref d,.str r.1,.int n]->n<=3000->iY K CG CW H g p d hs ts qs fp ns f->Wd hs ts qs f->Tb H T1 T2->(∀v' H',BT T1 T2 H H'->Tb H' T1 T2->EZ r hs ts qs f n v' H'->Q v' H')->lK K CG CW T1 T2 vs H Q E
theorem ke_{f0:Addr}{fd:Ae}(F:bj K "run_of" "run_of" me f0 fd)(B:Bi mg)(TG:dM K CG)(Cc:!aY 3 BQ qG (Hv K CG CW))(cI:!aY 2 "is_whole_from" DE (Wn K))(yc:!aY 4 "rows_by" ["web","rule"] (K7 K CW))(Cd:!aY 9 "rests_at" pT (KA K CG CW T1 T2))(Q0:!aY 9 "placed_after" pX (Kl K CG CW T1 T2)):!aq a9 10 f0 fd zN (lK K CG CW T1 T2):=by
 apply F.ok CA (λvs H Q E h=>?_) (λaO A outer s H vs Q E hr h=>?_)
 ·let#[g,p,d,n,hs,ts,qs,fp,ns,f,r,cc,rfl,_]:=h;rfl
 let#[g,p,d,n,hs,ts,qs,fp,ns,f,r,cc,rfl,n3,S,W,tb,k]:=h;let sz:=cn;let xn:=nC hr 1;refine' ⟨_,?r0,?kk⟩
 case' r0=>refine' ax ?s1 ?r1
 case s1=>exact bq 4 CA.nd (aQ Cc hr %[0,1,2|0])
 case' r1=>refine' ax ?s2 ?r2
 case s2=>exact bO (eY (eK (aQ cI hr %[3,aC|0]))) eD bP
 case' r2=>refine' ax ?s3 ?r3
 case s3=>exact bq 5 CA.nd (aQ yc hr %[dG (pv 0) Z,2|0])
 case' r3=>refine' ax ?s4 ?r4
 case s4=>exact bq 6 CA.nd Vx
 case' r4=>refine' ax ?s5 (aH ?s6)
 case' s5=>refine' eX eM Z (Cn (by rfl) B.range %[bN gX (pv 3) aC|0]) (cO 7 CA.nd) (ax ?b1 (ax ?b2 (ax ?b3 (ax ?b4 (aH ?b5)))))
 case b1=>exact bO (eK (aQ Cd hr %[0,4,2|0])) (aH (bg (fB %[dI,7,4|0]))) bP
 case b2=>exact bq 8 CA.nd (fB %[iK (hz_ Z) (by rfl) B.tuple zV %[WC (pv 4)|0],bN uX (pv 7) (pv 5)|0])
 case b3=>exact bO (wj (kt_ xn (pv 8) (pv 6))) (aH (bg (fB %[dI,Vy xn (pv 6) (pv 8) (λ_ _=>rfl),bN zO (pv 7) (Vy xn (pv 6) (pv 8) (λ_ _=>rfl))|0]))) bP
 case b4=>exact jf_ xn (pv 6) (pv 8) (pv 7) Z
 case b5=>exact bq 4 CA.nd (aQ Q0 hr %[0,4,2,7|0])
 case s6=>exact bg (iK (m_ (K:=K)) (by rfl) B.tuple zV %[eB %[dI|0]|0])
 have one:1<=sizeLine:=by decide
 have Fq:∀{a:Addr},H a=none->a∉fp:=λna m=>by
  let#[o,e,_]:=S.has _ m;rw[e] at na;cases na
 apply#[_,Z,_,Z,_,Z,_,_,r,cc,Z,#[g,p,d,hs,ts,qs,fp,ns,f,Z,S.G,S.je,S.hd,S.so,W.nd,W.bS,λdp H1 s1 n1 e1=>?_]];lk;apply#[_,Z,_,0,_,Z,.inl #[n,Z,Z],_,Z,?_];rw[cb (show (0:Int)<=(n:Int) by omega)];apply a_ ?_;let G1:=S.G.same s1;let#[gR,dw,dy,vs,bR,g1,g2,_]:=id G1.ex;apply#[_,Z,g,CG,gR,_,_,Z,g1,TG.cl,TG.nW,kA _ _ _,_,Z,p,hs,ts,bR,r,cc,Z,g2,W.Gd.rN,λH2 s2=>?_];lk;intro dm nm;let sm:=aa.new (o:=dP dm #[] 0) nm;have M0:kK P w (upd H2 dm (dP dm #[] 0)) dm []:=jZ_;generalize upd H2 dm (dP dm #[] 0)=H3 at sm M0 ⊢;lk;let jY:=(s1.trans s2).trans sm;let MF:=(s1.trans s2).free nm;apply#[_,Z,_,_,Z,Z,_,Z,by omega,by omega,?_];apply D4 (λi σ H'=>∃(v7 v8:aL) (dp:Addr),σ=[some (.ref g),some (.ref d),some (.str r.1),some (.int n),some (.ref dp),some (.int (fJ r ts)),some (.ref dm),v7,v8]/\BT T1 T2 H H'/\Tb H' T1 T2/\dp≠dm/\H dp=none/\H' dp\.dK (cX (qs.map (·.1)) (runM r hs ts qs f i))/\kK P w H' dm (g_ r hs ts qs f i)/\∀j:Nat,j<i->GM r hs ts qs f j) #[none,none,dp,Z,BT.of jY,#[tb.a.same jY,tb.b.same jY,tb.ne],?_,n1,sm _ _ (s2 _ _ e1),M0,by omega] ?_ ?_
 ·exact bw (s2 _ _ e1) nm
 ·rintro i σ H4 hi ⟨v7,v8,dp,rfl,b4,fj,WZ,np,e4,M4,go⟩;lk;let gg:=b4.nt tb;let Wi:=W.run r i;have PD:∀{G:Hp},NT H G->Tb G T1 T2->G dp\.dK (cX (qs.map (·.1)) (runM r hs ts qs f i))->RO K CG CW T1 T2 G g p dp hs ts qs fp (runM r hs ts qs f i):=λnt tb e=>#[#[S.G.nt nt,W.Gd,Fq np,e,Wi.at_,W.nd,W.bS],Wi,tb,λb hb=>let #[o,e,q]:=S.has b hb;#[o,nt _ _ e q]];apply#[_,Z,_,Z,_,Z,g,p,dp,hs,ts,qs,fp,_,r,cc,Z,PD gg fj e4,λH5 b5 gO=>?_];let z_:=b4.trans b5;let tV:=z_.nt tb;let Fi:=b5.nt fj;let e5:=Fi.dK e4;let M5:=kK.nt M4 Fi;apply#[_,Z,aN (λc=>?_) (λc=>?_)]
  ·apply#[_,Z,_,Z,zl,λt nt=>?_];let s6:=aa.new (o:=.tup [.str "rest",.int (0+(i:Int)),.ref dp]) nt;apply k _ _ (z_.trans (BT.of s6)) #[gO.a.same s6,gO.b.same s6,gO.ne] (.inl #[t,dp,i,Z,by omega,go,c,?_,s6 _ _ e5]);rw[au,wo]
  have c:gJ r hs ts qs (runM r hs ts qs f i)=false:=⇑c
  apply#[_,Z,dp,_,Z,e5,λv hv=>?_];let#[s6,e6]:=bp (o:=wb v dp) hv;generalize upd H5 v (wb v dp)=H6 at s6 e6 ⊢;apply#[v,dp,_,Z,e6,s6 _ _ e5,λl nl=>?_];let s7:=aa.new (o:=.tup ((cX (qs.map (·.1)) (runM r hs ts qs f i)).map (·.2))) nl
  have e7:upd H6 l (.tup ((cX (qs.map (·.1)) (runM r hs ts qs f i)).map (·.2))) l\.tup ((fE r hs ts qs f i).1.map kV):=by
   rw[au,iT_];rfl
  generalize upd H6 l (.tup ((cX (qs.map (·.1)) (runM r hs ts qs f i)).map (·.2)))=H7 at s7 e7 ⊢;let rp:=hl_ r ts;apply#[_,Z,_,Z,_,_,Z,Z,by omega,zl,λt nt=>?_];let s8:=aa.new (o:=.tup [.ref l,.int ((0+(i:Int)) % ((fJ r ts:Nat):Int))]) nt
  have e8:upd H7 t (.tup [.ref l,.int ((0+(i:Int)) % ((fJ r ts:Nat):Int))]) t\.tup [.ref l,.int (fE r hs ts qs f i).2]:=by
   rw[au,wo];rfl
  generalize upd H7 t (.tup [.ref l,.int ((0+(i:Int)) % ((fJ r ts:Nat):Int))])=H8 at s8 e8 ⊢;lk;let EX:=(s6.trans s7).trans s8;have mk:gY H8 t (fE r hs ts qs f i):=#[l,e8,s8 _ _ e7];let M8:=kK.nt M5 (NT.of EX);let Lr:=z_.trans (BT.of EX);have vw:Tb H8 T1 T2:=#[gO.a.same EX,gO.b.same EX,gO.ne];apply#[_,Z,_,Z,dm,t,_,_,Z,Z,mk,M8,λz hz=>?_];apply#[_,Z,aN (λcz=>?_) (λcz=>?_)]
  ·let#[j,hj,ej]:=VH.mp (hz.mp cz)
   have mm:(fE r hs ts qs f i,V.int (j:Int))∈g_ r hs ts qs f i:=by
    rw[<- ej];exact bG.mpr #[j,yk.mpr hj,Z]
   apply#[_,Z,_,Z,dm,t,_,_,_,Z,Z,mk,M8,mm,?_];apply#[_,Z,_,Z,_,Z,dm,t,_,_,_,Z,Z,mk,M8,mm,_,_,Z,Z,zl,λa na=>?_];let s9:=aa.new (o:=.tup [.str "ring",.int (j:Int),.int (0+(i:Int) - (j:Int))]) na;apply k _ _ (Lr.trans (BT.of s9)) #[vw.a.same s9,vw.b.same s9,vw.ne] (.inr (.inl #[a,i,j,Z,by omega,go,c,hj,ej,?_]));rw[au,wo]
  have nm:fE r hs ts qs f i∉(g_ r hs ts qs f i).map (·.1):=λhm=>cz (hz.mpr hm)
  have lk:(g_ r hs ts qs f i).length=i:=by
   unfold g_;rw[ay,List.length_range]
  apply#[_,Z,_,Z,_,Z,dm,t,_,_,Z,Z,mk,M8,nm,by omega,λH9 k9 M9=>?_]
  have M9:kK P w H9 dm (g_ r hs ts qs f (i+1)):=by
   have e:g_ r hs ts qs f (i+1)=g_ r hs ts qs f i++[(fE r hs ts qs f i,V.int (0+(i:Int)))]:=by
    unfold g_;rw[List.range_succ,cu,wo];rfl
   rw[e];exact M9
  let#[es8,ep8,_,em,_]:=id M8
  have kT:∀{T qn},cg H8 T qn->cg H9 T qn:=λ⟨es,a1,a2⟩=>#[es,k9 _ _ a1 (bX a1 em nofun),λx hx=>k9 _ _ (a2 x hx) (λz=>by
   let y:=a2 x hx;rw[z,em] at y;exact XG (d7 y).symm)]
  have As:Tb H9 T1 T2:=#[kT vw.a,kT vw.b,vw.ne];have RD:BT T1 T2 H H9:=λb o e y1 y2=>k9 b o (Lr b o e y1 y2) (bw e MF);let e9:=k9 _ _ (EX _ _ e5) WZ;apply#[_,Z,_,Z,_,Z,_,Z,g,p,dp,0+(i:Int),hs,ts,qs,fp,_,r,cc,Z,by omega,PD (RD.nt tb) As e9,λdq CK kn LN xh Kk=>?_];lk;let#[es9,ep9,_,em9,_]:=id M9;apply#[_,_,dq,Z,RD.trans kn,LN,(bw em9 xh).symm,?_,?_,kK.nt M9 (kn.nt As),λj hj=>?_]
  ·cases z:H dq with
   |none=>rfl
   |some o=>
    by_cases y1:dq=T1
    ·let#[tv,hT]:=gc As.a;rw[y1,hT] at xh;cases xh
    by_cases y2:dq=T2
    ·let#[tv,hT]:=gc As.b;rw[y2,hT] at xh;cases xh
    rw[RD _ _ z y1 y2] at xh;cases xh
  ·rw[Kk,wo];rfl
  by_cases z:j<i
  ·exact go j z
  have:j=i:=by omega
  subst this;exact#[c,λj' NY e=>nm (VH.mpr #[j',NY,e])]
 rintro σ H4 ⟨v7,v8,dp,rfl,b4,fj,WZ,np,e4,M4,go⟩;apply#[one,λl nl=>?_];let#[s5,e5]:=bp (o:=.lst [.str "more"]) nl;generalize upd H4 l (.lst [.str "more"])=H5 at s5 e5 ⊢;apply#[l,_,Z,.inl #[.inl (.of e5),λt nt=>?_]];let s6:=aa.new (o:=.tup [.str "more"]) nt;let yP:=s5.trans s6;exact k _ _ (b4.trans (BT.of yP)) #[fj.a.same yP,fj.b.same yP,fj.ne] (.inr (.inr #[t,Z,λj hj=>go j Z1,au]))
end
end Ev
namespace Ev
open PySem L2
section
variable{P:Ad}{w:Af}{K:af}{mg:Str->Option Aa}{base:Heap}{CG CW T1 T2:Addr}
abbrev ZJ:ae:=["goods","stand","rule","moments","placed","sums","moment"]
theorem Hm:bx ZJ vh (aX PJ):=bE
inductive Qd (K:af) (CG CW T1 T2:Addr) (vs:ag) (H:Hp) (Q:VK) (E:XK):Prop
 |mk:∀(g p d:Addr) (n:Nat) (hs:Xa) (ts:Xb) (qs:aI) (fp:ai) (ns:ae) (f:aj),∀r∈rl,vs=[.ref g,.ref d,.str r.1,.int n]->n<=3001->iY K CG CW H g p d hs ts qs fp ns f->Wd hs ts qs f->Tb H T1 T2->(∀l H',BT T1 T2 H H'->Tb H' T1 T2->H l=none->H' l\.lst (fb r hs ts qs f (n+1))->Q (.ref l) H')->Qd K CG CW T1 T2 vs H Q E
theorem h5_{f0:Addr}{fd:Ae}(F:bj K "sums_of" "sums_of" PJ f0 fd)(B:Bi mg)(Cc:!aY 3 BQ qG (Hv K CG CW))(DZ:!aY 3 "checked_moments" fI Qu)(Q0:!aY 9 "placed_after" pX (Kl K CG CW T1 T2))(KZ:!aY 5 "sum_at" kj (KD K CG CW)):!aq a9 10 f0 fd vh (Qd K CG CW T1 T2):=by
 exists F.bL Hm;let#[g,p,d,n,hs,ts,qs,fp,ns,f,r,cc,rfl,n3,S,W,tb,k]:=h;let sz:=cn;refine' #[_,ax ?s1 (ax ?s2 (ax ?s3 (aH (bg (pv 5))))),?kk]
 case s1=>exact bq 4 Hm.nd (aQ Cc hr %[0,1,2|0])
 case s2=>exact bq 5 Hm.nd (eB %[aQ KZ hr %[0,4|0]|0])
 case' s3=>refine' eX eM Z (Cn (by rfl) B.range %[aQ DZ hr %[3|0]|0]) (cO 6 Hm.nd) (ax ?t1 (aH ?t2))
 case t1=>exact bq 4 Hm.nd (aQ Q0 hr %[0,4,2,6|0])
 case t2=>exact jH (km k7 wc wd u_ (pv 5) %[aQ KZ hr %[0,4|0]|0])
 have Fq:∀{a:Addr},H a=none->a∉fp:=λna m=>by
  let#[o,e,_]:=S.has _ m;rw[e] at na;cases na
 apply#[_,Z,_,Z,_,Z,_,_,r,cc,Z,#[g,p,d,hs,ts,qs,fp,ns,f,Z,S.G,S.je,S.hd,S.so,W.nd,W.bS,λdp H1 s1 n1 e1=>?_]];lk;apply#[_,Z,_,Z,g,p,dp,hs,ts,qs,fp,f,Z,#[S.G.same s1,W.Gd,Fq n1,e1,W.at_,W.nd,W.bS],W.wq,λH2 s2=>?_];apply#[zl,λlx nx=>?_];let vF:=s1.trans s2;let#[s3,e3]:=bp (o:=.lst [.int (qw hs qs f)]) nx;let S7:=vF.free nx;have PY:dp≠lx:=bw (s2 _ _ e1) nx;generalize upd H2 lx (.lst [.int (qw hs qs f)])=H3 at s3 e3 ⊢;lk;let jY:=vF.trans s3;apply#[_,Z,(n:Int),Z,by omega,(n:Int),Z,by omega,by omega,?_];apply D4 (λi σ H'=>∃(v6:aL) (dp:Addr),σ=[some (.ref g),some (.ref d),some (.str r.1),some (.int n),some (.ref dp),some (.ref lx),v6]/\BT T1 T2 H H'/\Tb H' T1 T2/\dp≠lx/\H dp=none/\H' dp\.dK (cX (qs.map (·.1)) (runM r hs ts qs f i))/\H' lx\.lst (fb r hs ts qs f (i+1))) #[none,dp,Z,BT.of jY,#[tb.a.same jY,tb.b.same jY,tb.ne],PY,n1,s3 _ _ (s2 _ _ e1),e3] ?_ ?_
 ·rintro i σ H2 hi ⟨v6,dp,rfl,b2,fC,PY,n2,e2,el⟩;lk;rw[ve] at hi;let p9:=b2.nt tb;let W2:=W.run r i;let W3:=W.run r (i+1);apply#[_,Z,_,Z,_,Z,_,Z,g,p,dp,0+(i:Int),hs,ts,qs,fp,_,r,cc,Z,by omega,#[#[S.G.nt p9,W.Gd,Fq n2,e2,W2.at_,W.nd,W.bS],W2,fC,λb hb=>let #[o,e,q]:=S.has b hb;#[o,p9 _ _ e q]],λdq H3 b3 jv n3 e3=>?_];lk;rw[wo] at e3;let IK:=b2.trans b3;let j5:=IK.nt tb
  have nq:H dq=none:=by
   cases z:H dq with
   |none=>rfl
   |some o=>
    by_cases y1:dq=T1
    ·let#[tv,hT]:=gc fC.a;rw[y1,hT] at n3;cases n3
    by_cases y2:dq=T2
    ·let#[tv,hT]:=gc fC.b;rw[y2,hT] at n3;cases n3
    rw[b2 _ _ z y1 y2] at n3;cases n3
  let Kf:=(b3.nt fC).lst el;have WX:dq≠lx:=(bw el n3).symm;apply#[_,Z,.inl #[Z,#[_,.of Kf]],?_];apply#[_,Z,_,Z,g,p,dq,hs,ts,qs,fp,_,Z,#[S.G.nt j5,W.Gd,Fq nq,e3,W3.at_,W.nd,W.bS],W.wq,λH4 s4=>?_];let Ke:=s4 _ _ Kf;apply#[lx,_,_,Z,Z,Ke,by rw[KM];omega,?_];have b5:aP lx H4 (upd H4 lx (.lst (fb r hs ts qs f (i+1)++[.int (qw hs qs (runM r hs ts qs f (i+1)))]))):=aP.upd;have e5:upd H4 lx (.lst (fb r hs ts qs f (i+1)++[.int (qw hs qs (runM r hs ts qs f (i+1)))])) lx\.lst (fb r hs ts qs f (i+1+1)):=by rw[au,QS r hs ts qs f (i+1)]
  generalize eH:upd H4 lx (.lst (fb r hs ts qs f (i+1)++[.int (qw hs qs (runM r hs ts qs f (i+1)))]))=H5 at b5 e5;have eH:upd H4 lx (.lst (fb r hs ts qs f (i+1)++[.int (qw hs qs (oA r hs ts qs (i:Int) (runM r hs ts qs f i)))]))=H5:=eH;rw[eH];have kT:∀{T qn},cg H3 T qn->cg H5 T qn:=λ⟨es,a1,a2⟩=>#[es,b5 _ _ (s4 _ _ a1) (λz=>by rw[z,Kf] at a1;cases a1),λx hx=>b5 _ _ (s4 _ _ (a2 x hx)) (λz=>by have:=a2 x hx;rw[z,Kf] at this;cases this)];exact#[_,dq,Z,λb o e y1 y2=>b5 b o (s4 _ _ (IK b o e y1 y2)) (bw e S7),#[kT jv.a,kT jv.b,jv.ne],WX,nq,b5 _ _ (s4 _ _ e3) WX,e5]
 rintro σ H2 ⟨v6,dp,rfl,b2,fC,PY,n2,e2,el⟩;rw[ve] at el;exact#[_,Z,k lx H2 b2 fC S7 el]
end
end Ev
namespace Ev
open PySem L2
section
variable{r:Rl}{hs:Xa}{ts:Xb}{qs:aI}{f:aj}
theorem Vd{n:Str}:∀{M:ib} {f:aj},n∉M.map (·.1)->fZ f M n=f n
 |[],_,_=>rfl
 |m::M,f,h=>by
  have h:¬(n=m.1∨n∈M.map (·.1)):=⇑h
  show fZ (j2 f m) M n=f n;rw[Vd (λz=>h (.inr z))];unfold j2;rw[aB (λz=>h (.inl z))]
theorem Pb(W:Wd hs ts qs f){n:Str}(h:n∉qs.map (·.1)):∀k:Nat,runM r hs ts qs f k n=f n
 |0=>rfl
 |k+1=>by
  show fZ _ (jx r hs ts qs (runM r hs ts qs f k) k) n=_;rw[Vd λm=>?_,Pb W h k];let#[x,hx,e]:=bG.mp m;exact h (by rw[<- e];exact (JX (W.run r k) r k x hx).1)
theorem lx_(W:Wd hs ts qs f){i j:Nat}(h:fE r hs ts qs f j=fE r hs ts qs f i):runM r hs ts qs f j=runM r hs ts qs f i:=by
 funext n
 by_cases z:n∈qs.map (·.1)
 ·let#[q,hq,rfl]:=bG.mp z;have:=List.map_inj_left.mp (dF Prod.fst h) q hq;exact h9 this
 rw[Pb W z,Pb W z]
theorem VO(W:Wd hs ts qs f){i j:Nat}(hj:j<i)(h:fE r hs ts qs f j=fE r hs ts qs f i):∀k:Nat,runM r hs ts qs f (i+k)=runM r hs ts qs f (j+k)
 |0=>(lx_ W h).symm
 |k+1=>by
  let ih:=VO W hj h k;have em:j % fJ r ts=i % fJ r ts:=Int.ofNat.inj (dF Prod.snd h)
  have e:i+k=(j+k)+((i - j) / fJ r ts) * fJ r ts:=by
   have d:(i - j) % fJ r ts=0:=Nat.sub_mod_eq_zero_of_mod_eq em.symm;have:=Nat.div_add_mod (i - j) (fJ r ts);rw[d,Nat.add_zero,Nat.mul_comm] at this;rw[this];omega
  show fZ _ (jx r hs ts qs (runM r hs ts qs f (i+k)) ((i+k:Nat):Int))=fZ _ (jx r hs ts qs (runM r hs ts qs f (j+k)) ((j+k:Nat):Int));rw[ih,show ((i+k:Nat):Int)=((j+k:Nat):Int)+((i - j) / fJ r ts:Nat) * (fJ r ts:Nat) by rw[e];push_cast;rfl,jO_];exact dF (λg=>fZ g (jx r hs ts qs (runM r hs ts qs f (j+k)) ((j+k:Nat):Int))) ih
theorem V2(W:Wd hs ts qs f){i j:Nat}(hj:j<i)(h:fE r hs ts qs f j=fE r hs ts qs f i)(al:∀k:Nat,k<=i->gJ r hs ts qs (runM r hs ts qs f k)=false)(k:Nat):gJ r hs ts qs (runM r hs ts qs f k)=false:=by
 induction k using Nat.strongRecOn with
 |ind k ih=>
  by_cases z:k<=i
  ·exact al k z
  obtain⟨d,rfl⟩:∃d,k=i+d:=#[k - i,by omega];rw[VO W hj h d];exact ih _ Z1
end
abbrev Kd:=Option (Nat ⊕ Nat × Nat)
def js(r:Rl)(hs:Xa)(ts:Xb)(qs:aI)(f:aj)(n:Nat):Kd->Prop
 |some (.inl i)=>i<=n/\(∀j:Nat,j<i->gJ r hs ts qs (runM r hs ts qs f j)=false)/\gJ r hs ts qs (runM r hs ts qs f i)=true
 |some (.inr (j,i))=>i<=n/\j<i/\(∀k:Nat,k<=i->gJ r hs ts qs (runM r hs ts qs f k)=false)/\(∀a b:Nat,a<b->b<i->fE r hs ts qs f a≠fE r hs ts qs f b)/\fE r hs ts qs f j=fE r hs ts qs f i
 |none=>(∀k:Nat,k<=n->gJ r hs ts qs (runM r hs ts qs f k)=false)/\∀a b:Nat,a<b->b<=n->fE r hs ts qs f a≠fE r hs ts qs f b
theorem J3{r:Rl}{hs:Xa}{ts:Xb}{qs:aI}{f:aj}{n:Nat}(W:Wd hs ts qs f):∀{c c':Kd},js r hs ts qs f n c->js r hs ts qs f n c'->c=c':=by
 have sym:∀{c c':Kd},js r hs ts qs f n c->js r hs ts qs f n c'->(∀i p,c\.inr p->c'≠some (.inl i))/\(∀x,c=none->c'≠some x):=λ{c c'} h h'=>by
  apply#[λi p e e'=>?_,λx e e'=>?_]
  ·subst e e';let#[_,_,h3]:=h';let#[j,i']:=p;let#[_,hj,al,_,em]:=h;rw[V2 W hj em al i] at h3;cases h3
  subst e e';let#[h1,h2]:=h
  match x,h' with
  |.inl i,⟨q1,_,q3⟩=>
   rw[h1 i q1] at q3;cases q3
  |.inr (j,i),⟨q1,q2,_,_,q5⟩=>exact h2 j i q2 q1 q5
 intro c c' h h'
 match c,c',h,h' with
 |none,none,_,_=>rfl
 |none,some x,h,h'=>exact absurd Z ((sym h h').2 x Z)
 |some x,none,h,h'=>exact absurd Z ((sym h' h).2 x Z)
 |some (.inr p),some (.inl i),h,h'=>exact absurd Z ((sym h h').1 i p Z)
 |some (.inl i),some (.inr p),h,h'=>exact absurd Z ((sym h' h).1 i p Z)
 |some (.inl i),some (.inl i'),⟨_,a,b⟩,⟨_,a',b'⟩=>
  have:i=i':=by
   rcases Nat.lt_trichotomy i i' with z|z|z
   ·rw[a' i z] at b;cases b
   ·exact z
   rw[a i' z] at b';cases b'
  rw[this]
 |some (.inr (j,i)),some (.inr (j',i')),⟨_,h2,_,h4,h5⟩,⟨_,fV,_,h4',OB⟩=>
  have:i=i':=by
   rcases Nat.lt_trichotomy i i' with z|z|z
   ·exact absurd h5 (h4' j i h2 z)
   ·exact z
   exact absurd OB (h4 j' i' fV z)
  subst this
  have:j=j':=by
   rcases Nat.lt_trichotomy j j' with z|z|z
   ·exact absurd (h5.trans OB.symm) (h4 j j' z fV)
   ·exact z
   exact absurd (OB.trans h5.symm) (h4 j' j z h2)
  rw[this]
def hU:Kd->Nat
 |some (.inl i)=>i
 |some (.inr p)=>p.2
 |none=>0
def p0(r:Rl)(hs:Xa)(ts:Xb)(qs:aI)(f:aj)(H:Hp)(v:V):Kd->Prop
 |some (.inl i)=>∃t l:Addr,v=.ref t/\H t\.tup [.str "rest",.ref l]/\H l\.lst (fb r hs ts qs f (i+1))
 |some (.inr (j,i))=>∃t:Addr,v=.ref t/\H t\.tup [.str "ring",.int j,.int ((i:Int) - j)]
 |none=>v=.non
theorem p0.nt{r:Rl}{hs:Xa}{ts:Xb}{qs:aI}{f:aj}{H G:Hp}{v:V}{c:Kd}(h:p0 r hs ts qs f H v c)(s:NT H G):p0 r hs ts qs f G v c:=by
 match c,h with
 |some (.inl i),⟨t,l,e,h1,h2⟩=>exact#[t,l,e,s.tup h1,s.lst h2]
 |some (.inr (j,i)),⟨t,e,h1⟩=>exact#[t,e,s.tup h1]
 |none,h=>exact h
theorem KJ{r:Rl}{hs:Xa}{ts:Xb}{qs:aI}{f:aj}{n:Nat}{c:Kd}(h:js r hs ts qs f n c):hU c<=n:=by
 match c,h with
 |some (.inl i),⟨h,_⟩=>exact h
 |some (.inr (j,i)),⟨h,_⟩=>exact h
 |none,_=>exact gM _
theorem lk_{r:Rl}{hs:Xa}{ts:Xb}{qs:aI}{f:aj}{n:Nat}{v:V}{H:Hp}(h:EZ r hs ts qs f n v H):∃(c:Kd) (t:Addr),js r hs ts qs f n c/\v=.ref t/\(match c with
  |some (.inl i)=>∃d:Addr,H t\.tup [.str "rest",.int (i:Int),.ref d]
  |some (.inr (j,i))=>H t\.tup [.str "ring",.int (j:Int),.int ((i:Int) - j)]
  |none=>H t\.tup [.str "more"]):=by
 have dist:∀{m:Nat},(∀j:Nat,j<m->GM r hs ts qs f j)->∀a b:Nat,a<b->b<m->fE r hs ts qs f a≠fE r hs ts qs f b:=λgo a b jB hb=>(go b hb).2 a jB;rcases h with⟨t,d,i,rfl,hi,go,re,ht,_⟩|⟨t,i,j,rfl,hi,go,re,hj,ej,ht⟩|⟨t,rfl,go,ht⟩
 ·exact#[some (.inl i),t,#[hi,λj hj=>(go j hj).1,re],Z,d,ht]
 ·apply#[some (.inr (j,i)),t,#[hi,hj,λk hk=>?_,dist go,ej],Z,ht];by_cases z:k<i
  ·exact (go k z).1
  obtain rfl:k=i:=by omega
  exact re
 exact#[none,t,#[λk hk=>(go k hk).1,λa b jB hb=>(go b hb).2 a jB],Z,ht]
end Ev
namespace L2
open PySem PySem.Spec PyProof.Rows PySem.W cY
end L2
namespace cY
open PySem PySem.W PyProof.Rows
end cY
namespace L2
open PySem PySem.Spec PyProof.Rows PySem.W cY
end L2
namespace HT
open PySem PySem.Spec PyProof.Rows PySem.W jL cY
theorem fe{prog:Ad}{w:Af}{A:Ag}{E:Aa->Ab->Prop}{s:Ab}{t sl:Addr}{items:Array Aa}{vl vu:Aa}{lo hi:Option Int}{Q:Aa->Ab->Prop}(ht:IsTup s.heap t items)(hs:s.heap.IsSliceOf sl vl vu .none)(pl:IsPart vl lo)(pu:IsPart vu hi)
  (hw:bW items.size 0 lo=0/\bW items.size items.size hi=items.size) (h:Q (.ref t) s):wpAny (model prog w) A (getItem (.ref t) (.ref sl)) Q E s:=by
 let#[os,qB,xC,xA]:=id hs;have BG:s.TypeIs (.ref sl) "slice":=#[os,qB,xC];unfold getItem
 try with_reducible apply mZ ?_
 first|refine ao (aK ?_)|skip
 apply ao (wpAny_sequenceKey ht.typeIs (by decide) ?_)
 apply ao (wpAny_callSpecial?_slot (name:=Str.ofString "__getitem__") ht.typeIs DX
  (uJ DX ht.typeIs entry_tuple_getitem ?_ (args_tuple_getitem _ _)))
 show wpAny _ _ (Builtin.Tuple.tupleItemsOf (.ref t) >>= _) _ _ s;apply ao (tupleItemsOf_ ht ?_);apply ao (wpAny_typeOf BG ?_);rw[aJ (by decide)];apply ao (XO hs pl pu ?_)
 have Nk:(((bW items.size 0 lo:Nat):Int) == 0&&(1:Int) == 1&&(bW items.size items.size hi - bW items.size 0 lo) == items.size)=true:=by
  rw[hw.1,hw.2];simp
 show wpAny _ _ (if (((bW items.size 0 lo:Nat):Int) == 0&&(1:Int) == 1&&(bW items.size items.size hi - bW items.size 0 lo) == items.size)=true then _ else _) _ _ s;rw[aJ Nk];apply ao (m:=Builtin.Tuple.tupleIsExact _) ?_;apply ao (m:=typeOf _) (wpAny_typeOf ht.typeIs (aK ?_));show wpAny _ _ (if (Value.type "tuple" == Value.type "tuple")=true then _ else _) _ _ s;rw[aJ (by decide)];apply ao (wpAny_rule ?_)
 first
  |exact ao (aK ⟨_,rfl,aK h⟩)
  |exact aK ⟨_,rfl,aK h⟩
  |exact ao (aK (aK ⟨_,rfl,aK h⟩))
end HT
namespace L2
open PySem PySem.Spec PyProof.Rows PySem.W
inductive E4 (x:V) (lo:Option Int) (hi:Option Int) (H:Hp) (Q:VK):Prop
 |mk:∀a xs,x=.ref a->H a\.tup xs->(∀p H',aa H H'->H' p\.tup (dS xs lo hi)->Q (.ref p) H')->E4 x lo hi H Q
theorem kI_{X:Cx}:IL X E4:=by
 intro pins s σ H x v vl vu lo hi sl Q I rx hs pl pu h;let#[a,xs,rfl,hx,q]:=h;by_cases hw:HT.bW xs.length 0 lo=0/\HT.bW xs.length xs.length hi=xs.length
 ·cases rx;let#[its,r,ht,hz]:=I.tuple (.of hx);have hlen:its.toArray.size=xs.length:=by rw[cq];exact r.length.symm
  apply⟨"tuple",_,PyProof.Rows.slot_tuple_getitem.lookup,ht.typeIs,?_⟩;apply HT.fe ht hs pl pu (by rw[hlen];exact hw) ⟨.ref a,H,I,rfl,q _ _ (aa.refl H) ?_⟩;unfold dS;rw[hw.1,hw.2,List.drop_zero,Nat.sub_zero,eN];exact hx
 exact lK_ pins s σ H (.ref a) v vl vu lo hi sl Q I rx hs pl pu ⟨a,xs,rfl,.of hx,hw,λp hp=>q _ _ (aa.new hp) au⟩
end L2
namespace L2
open PySem PySem.Spec PyProof.Rows
section
variable{X:Cx}
inductive E2 (x:V) (lo:Option Int) (hi:Option Int) (H:Hp) (Q:VK):Prop
 |mk:∀z,x=.str z->z.length<=sizeLine->Q (.str (Txt.slice z lo hi)) H->E2 x lo hi H Q
theorem lg_:IL X E2:=by
 intro pins s σ H x v vl vu lo hi sl Q I rx hs pl pu h;let#[z,rfl,hz,q]:=h;let#[t,rfl]:=rx;apply⟨"str",_,PySem.F.slot_str_getitem.lookup,typeIs_str _ _ _,?_⟩
 have fin:∀lo hi,Q (.str (Txt.slice z lo hi)) H->(Txt.slice z lo hi).length<=sizeLine/\∀t' k,EP X pins σ Q (.str (Txt.slice z lo hi) t') { s with toks:=k }:=λlo hi q=>
  #[nQ (Txt.slice_le z _ _) hz,λt' k=>#[.str _,H,I.kept (h':=s.heap) (t':=k) λ_ _ e=>e,#[t',Z],q]]
 cases pl with
 |none=>
  cases pu with
  |none=>exact wpAny_getItem_str_slice (l:=none) (u:=none) (st:=none) hs Z (post_val_or_str (fin _ _ q))
  |int j u=>exact wpAny_getItem_str_slice (l:=none) (u:=some (j,u)) (st:=none) hs Z (post_val_or_str (fin _ _ q))
 |int i u=>
  cases pu with
  |none=>exact wpAny_getItem_str_slice (l:=some (i,u)) (u:=none) (st:=none) hs Z (post_val_or_str (fin _ _ q))
  |int j u'=>exact wpAny_getItem_str_slice (l:=some (i,u)) (u:=some (j,u')) (st:=none) hs Z (post_val_or_str (fin _ _ q))
end
end L2
namespace cY
open PySem PySem.W PyProof.Rows
section
variable{prog:Ad}{w:Af}{K:Type}[DecidableEq K](knd:KeyKind prog w K)
def nj(h:Heap)(m:List K × K)(a:Addr):Prop:=∃o n c v,h.get? a\o/\o.cls=.type "tuple"/\o.data=.seq (List.toArray [v,.ref c]) n/\IsTupleKey knd h m.1 c/\knd.is m.2 v=true
variable{knd}
variable{A:Ag}{E:Aa->Ab->Prop}{s:Ab}
theorem nj.typeIs{m:List K × K}{a:Addr}(x:nj knd s.heap m a):s.TypeIs (.ref a) "tuple":=let #[o,_,_,_,ho,hc,_]:=x;#[o,ho,hc]
theorem nj.inj{h:Heap}{a:Addr}{x y:List K × K}(hx:nj knd h x a)(hy:nj knd h y a):x=y:=by
 let#[o,n,c,v,ho,_,hd,h1,h2]:=hx;let#[o',n',c',v',gy,_,fH,iw,fV]:=hy;obtain rfl:o=o':=d7 (ho.symm.trans gy);rw[hd] at fH
 injection fH with e _
 have e2:[v,Value.ref c]=[v',Value.ref c']:=dF Array.toList e
 injection e2 with e3 e4
 injection e4 with e4 _
 injection e4 with e4
 subst e3 e4;exact Prod.ext (h1.inj iw) (knd.inj _ _ _ h2 fV)
theorem nj.keeps{h h':Heap}{m:List K × K}{a d:Addr}{o:Obj}{es ep}(x:nj knd h m a)(ho:h.get? d\o)(hd:o.data=.dict es ep)(hs:Heap.SameBut d h h'):nj knd h' m a:=by
 let#[o',n,c,v,gy,hc,fH,h1,h2]:=x
 have mQ:a≠d:=by
  rintro rfl;obtain rfl:o'=o:=d7 (gy.symm.trans ho);rw[hd] at fH;exact nomatch fH
 exact#[o',n,c,v,(hs.2 a mQ).trans gy,hc,fH,h1.keeps ho hd hs,h2]
def Ri(knd:KeyKind prog w K)(m:List K × K):Int:=reduceHash (Builtin.Tuple.tupleHashOf [knd.hash m.2,tupleKeyHash knd m.1])
theorem er_{m:List K × K}{a:Addr}{Q:Int->Ab->Prop}(hu:A.units+1<cLine)(hk:nj knd s.heap m a)(h:Q (Ri knd m) { s with toks:=s.toks+(1+(m.1.length+1)+1) }) :
  wpAny (model prog w) A (pyHash (.ref a)) Q E s:=by
 let hT:=hk.typeIs;let#[o,n,c,v,ho,_,hd,h1,h2]:=hk;unfold pyHash
 first|unfold pyHashByItsType|skip
 first|refine ao (wpAny_cRoomFor_or (.inr Z1) ?_)|skip
 apply ao (wpAny_specialOf hT F.slot_tuple_hash.lookup ?_);show wpAny _ _ (if (some (Value.builtin "tuple.__hash__") == some Value.none)=true then _ else _) Q E s;rw[aB (by rw[beq_builtin_none];exact gW)];apply ao (wpAny_specialOf hT F.slot_tuple_hash.lookup ?_);show wpAny _ _ (callSpecialIfBoundUnlessNone? (.ref a) "__hash__" _ >>= _) Q E s;apply ao (wpAny_callSpecialIfBoundUnlessNone?_slot hT F.slot_tuple_hash (uJ F.slot_tuple_hash hT F.entry_tuple_hash ?_ (F.args_tuple_hash_1 _)));show wpAny _ _ (Builtin.Tuple.tupleItemsOf (.ref a) >>= _) _ _ s;apply ao (wpAny_tupleItemsOf ho hd ?_);apply ao ?_;rw[<- Array.forIn_toList]
 apply wpAny_forIn_list _
  (λrest (b:Array Int) s'=>(rest=[v,.ref c]/\b.toList=[]/\s'=s)∨(rest=[.ref c]/\b.toList=[knd.hash m.2]/\s'={ s with toks:=s.toks+1 })∨(rest=[]/\b.toList=[knd.hash m.2,tupleKeyHash knd m.1]/\s'={ s with toks:=s.toks+1+(m.1.length+1) }))
  _ ?_ ?_ _ _ (.inl #[Z,Z,Z])
 ·rintro x rest b s' (⟨e,hb,rfl⟩|⟨e,hb,rfl⟩|⟨e,_⟩)
  ·injection e with e1 e2
   subst e1 e2;apply ao (knd.pyHash h2 ?_)
   first
    |exact aK (.inr (.inl ⟨rfl,by simp[hb],rfl⟩))
    |exact ao (aK (aK (.inr (.inl ⟨rfl,by simp[hb],rfl⟩))))
  ·injection e with e1 e2
   subst e1 e2;apply ao (wpAny_pyHash_tuple (knd:=knd) (by show _<cLine;omega) h1 ?_)
   first
    |exact aK (.inr (.inr ⟨rfl,by simp[hb],rfl⟩))
    |exact ao (aK (aK (.inr (.inr ⟨rfl,by simp[hb],rfl⟩))))
  cases e
 rintro b s' (⟨e,_⟩|⟨e,_⟩|⟨_,hb,rfl⟩)
 ·cases e
 ·cases e
 show wpAny _ _ (retInt (Builtin.Tuple.tupleHashOf b.toList)) _ _ _;rw[hb];apply wpAny_ret_mkInt ?_;unfold Ri reduceHash at h;show wpAny _ _ (if (decide (-(2:Int) ^ 63<=Builtin.Tuple.tupleHashOf [knd.hash m.2,tupleKeyHash knd m.1])&&decide (Builtin.Tuple.tupleHashOf [knd.hash m.2,tupleKeyHash knd m.1]<2 ^ 63))=true then _ else _) Q E _;by_cases hr:(decide (-(2:Int) ^ 63<=Builtin.Tuple.tupleHashOf [knd.hash m.2,tupleKeyHash knd m.1])&&decide (Builtin.Tuple.tupleHashOf [knd.hash m.2,tupleKeyHash knd m.1]<2 ^ 63))=true
 ·rw[aJ hr];rw[aJ hr] at h;exact aK (by simpa [Nat.add_assoc] using h)
 rw[aB hr];rw[aB hr] at h;exact ao (wpAny_rule (aK (by simpa [Nat.add_assoc] using h)))
theorem dN_{x y:List K × K}{a b:Addr}{P:PySem.Fin->Ab->Prop}(hu:A.units<cLine)(hx:nj knd s.heap x a)(hy:nj knd s.heap y b)(h:P (.done (.ret (.bool (decide (x=y))))) s) :
  wpAny (model prog w) A (Builtin.«tuple.__eq__» ⟨[.ref a,.ref b],[]⟩) P E s:=by
 let Ot:=hy.typeIs;let#[oa,na,c,v,NC,_,Oh,h1,h2]:=hx;let#[ob,nb,c',v',F8,_,mT,iw,fV]:=hy;show wpAny _ _ (isInstance (.ref b) (.type "tuple") >>= _) _ _ s;apply ao (wpAny_isInstance Ot isSubtype_tuple_tuple ?_);simp only[nR,iB,gz];apply ao (wpAny_tupleItemsOf NC Oh ?_);apply ao (wpAny_tupleItemsOf F8 mT ?_);apply ao ?_
 apply wpAny_forIn_list _
  (λrest r s'=>r.1=none/\s'=s/\((rest=[(v,v'),(.ref c,.ref c')])∨(rest=[(.ref c,.ref c')]/\x.2=y.2)∨(rest=[]/\x=y)))
  _ ?_ ?_ _ _ ⟨rfl,rfl,.inl rfl⟩
 ·rintro⟨u,u'⟩ rest r s' ⟨hr,rfl,e|⟨e,e1⟩|⟨e,_⟩⟩
  ·injection e with e2 e3
   injection e2 with e4 e5
   subst e3 e4 e5;apply ao (knd.eqBool (a:=x.2) (b:=y.2) h2 fV ?_);by_cases hk:x.2=y.2
   ·rw[cb hk];simp only[nR,iB,gz];exact aK ⟨rfl,rfl,.inr (.inl ⟨by trivial,hk⟩)⟩
   rw[dH hk];simp only[Bool.not_false,if_true];rw[dH (λz:x=y=>hk (by rw[z]))] at h;exact ao (aK (aK (aK h)))
  ·injection e with e2 e3
   injection e2 with e4 e5
   subst e3 e4 e5;apply ao (wpAny_eqBool_tuple (knd:=knd) hu h1 iw ?_);by_cases hk:x.1=y.1
   ·rw[cb hk];simp only[nR,iB,gz];exact aK ⟨rfl,rfl,.inr (.inr ⟨by trivial,Prod.ext hk e1⟩)⟩
   rw[dH hk];simp only[Bool.not_false,if_true];rw[dH (λz:x=y=>hk (by rw[z]))] at h;exact ao (aK (aK (aK h)))
  cases e
 rintro⟨r1,r2⟩ s' ⟨hr,rfl,e|⟨e,_⟩|⟨_,e⟩⟩
 ·cases e
 ·cases e
 simp only at hr;subst hr;apply aK ?_;rw[cb e] at h;exact h
theorem ej_{x y:List K × K}{a b:Addr}{Q:Bool->Ab->Prop}(hu:A.units+1<cLine)(hx:nj knd s.heap x a)(hy:nj knd s.heap y b)(h:Q (decide (x=y)) s) :
  wpAny (model prog w) A (eqBool (.ref a) (.ref b)) Q E s:=by
 unfold eqBool
 try with_reducible apply mZ ?_
 show wpAny _ _ (if (Value.ref a == Value.ref b)=true then _ else _) Q E s;by_cases jB:(Value.ref a == Value.ref b)=true
 ·rw[aJ jB];have e:a=b:=by have:=eq_of_beq jB;injection this
  subst e;obtain rfl:=hx.inj hy;exact ao (wpAny_rule (aK ⇑h))
 rw[aB jB]
 exact ao (wpAny_richCompare_same_room (op:=.Eq) hx.typeIs hy.typeIs F.slot_tuple_eq
  (uJ F.slot_tuple_eq hx.typeIs F.entry_tuple_eq (dN_ (by show _<cLine;omega) hx hy ⟨_,rfl,(λe=>nomatch e),qk h⟩) (F.args_tuple_eq_2 _ _)) Z1)
theorem f2_{m:List K × K}{a:Addr}{Q:Bool->Ab->Prop}(hk:nj knd s.heap m a)(h:Q true s):wpAny (model prog w) A (eqIsQuiet 8 (.ref a)) Q E s:=by
 let hT:=hk.typeIs;let#[o,n,c,v,ho,_,hd,h1,h2]:=hk;unfold eqIsQuiet;apply ao (wpAny_specialOf hT F.slot_tuple_eq.lookup ?_);show wpAny _ _ (isInstance (.ref a) (.type "tuple") >>= _) _ _ s;apply ao (wpAny_isInstance hT isSubtype_tuple_tuple ?_);simp only[nR,iB,gz];apply ao (wpAny_seqItems ho hd ?_);apply ao ?_;show wpAny _ _ (forIn (List.toArray [v,Value.ref c]) _ _) _ _ s;rw[<- Array.forIn_toList];apply wpAny_forIn_list _ (λrest r s'=>r.1=none/\s'=s/\(rest=[v,.ref c]∨rest=[.ref c]∨rest=[])) _ ?_ ?_ _ _ ⟨rfl,rfl,.inl rfl⟩
 ·rintro u rest r s' ⟨hr,rfl,e|e|e⟩
  ·injection e with e1 e2
   subst e1 e2;rw[eqIsQuiet_byValue _ (knd.byValue _ _ h2)];apply ao (aK ?_);simp only[nR,iB,gz];exact aK ⟨rfl,rfl,.inr (.inl (by trivial))⟩
  ·injection e with e1 e2
   subst e1 e2;apply ao (Xu h1 ?_);simp only[nR,iB,gz];exact aK ⟨rfl,rfl,.inr (.inr (by trivial))⟩
  cases e
 rintro⟨r1,r2⟩ s' ⟨hr,rfl,_⟩;simp only at hr;subst hr;exact aK h
end
def IB{prog:Ad}{w:Af}{K:Type}[DecidableEq K](knd:KeyKind prog w K):HeapKind prog w (List K × K) where
 is:=nj knd
 hash:=Ri knd
 draws:=λm=>1+(m.1.length+1)+1
 room:=λA=>A.units+1<cLine
 inj:=λhx hy=>hx.inj hy
 keeps:=λx ho hd hs=>x.keeps ho hd hs
 pyHash:=λhu hk h=>er_ hu hk h
 eqBool:=λhu hx hy h=>ej_ hu hx hy h
 quiet:=λhk h=>f2_ hk h
end cY
namespace L2
open PySem PySem.Spec PyProof.Rows PySem.W cY
def qM(H:Hp)(b:Addr)(m:bu):Prop:=∃c,H b\.tup [.int m.2,.ref c]/\H c\.tup (m.1.map kV)
def gf(P:Ad)(w:Af)(H:Hp)(d:Addr)(kvs:List (bu × V)):Prop:=∃(es:Array Ah) (ep:Nat) (xs:List ((az × Key) × Addr × Aa)),H d\dP d es ep/\es.toList=xs.map (entryOfKey (IB (d_ P w)))/\Paired (λ(p:bu × V) (q:(az × Key) × Addr × Aa)=>bU p.1=q.1/\qM H q.2.1 p.1/\RelV p.2 q.2.2) kvs xs/\(kvs.map (·.1)).Nodup
theorem qM.keep{H H':Hp}{b:Addr}{m:bu}(h:qM H b m)(k:∀c xs,H c\.tup xs->H' c\.tup xs):qM H' b m:=by
 let#[c,h1,h2]:=h;exact#[c,k _ _ h1,k _ _ h2]
theorem gf.keys{P:Ad}{w:Af}{H:Hp}{kvs:List (bu × V)}{xs:List ((az × Key) × Addr × Aa)}(h:Paired (λ(p:bu × V) (q:(az × Key) × Addr × Aa)=>bU p.1=q.1/\qM H q.2.1 p.1/\RelV p.2 q.2.2) kvs xs):xs.map (·.1)=(kvs.map (·.1)).map bU:=by
 induction h with
 |nil=>rfl
 |cons h t ih=>rw[dZ,dZ,dZ,ih,h.1]
section
variable{X:Cx}{pins:List (Addr × Obj)}{σ:St}{H:Hp}{s:Ab}
theorem K9{P:Ad}{w:Af}{H:Hp}{h:Heap}{b:Addr}{m:bu}(ok:eL P w H h)(e:qM H b m):(IB (d_ P w)).is h (bU m) b:=by
 let#[c,h1,h2]:=e;let#[_,its,r,#[o,q1,q2,n,q3],_]:=(show eI P w H h b (.tup [.int m.2,.ref c]) from ok b _ h1);let#[u,v,rfl,r1,r2]:=vals2 r;cases r2;exact#[o,n,c,u,q1,q2,q3,B_ ok h2,vY (k:=Sum.inl m.2) r1]
theorem OR{d:Addr}{kvs:List (bu × V)}(I:Inv X pins σ H s)(h:gf X.prog X.w H d kvs):(d == sysModules)=false/\∃(es:Array Ah) (ep:Nat) (xs:List ((az × Key) × Addr × Aa)),H d\dP d es ep/\s.heap.DictOfH (IB (d_ X.prog X.w)) d xs/\Paired (λ(p:bu × V) (q:(az × Key) × Addr × Aa)=>bU p.1=q.1/\qM H q.2.1 p.1/\RelV p.2 q.2.2) kvs xs:=by
 let#[es,ep,xs,e,ee,pr,nd]:=h;let#[#[o,ho,hc,hd],hs]:=TR I e;apply#[hs,es,ep,xs,e,#[o,es,ep,ho,hc,hd,ee,λx hx=>?_,?_],pr]
 ·let#[i,hi,ex]:=ku hx;let le:=bH pr;let#[a,b,_]:=ig pr i Z1 hi;rw[ex] at a b;rw[<- a];exact K9 I.aE b
 rw[gf.keys (P:=X.prog) (w:=X.w) pr,pL,qQ];exact (pL.mp nd).imp λn e=>n (Lb e)
theorem J8{kvs:List (bu × V)}{xs:List ((az × Key) × Addr × Aa)}(h:Paired (λ(p:bu × V) (q:(az × Key) × Addr × Aa)=>bU p.1=q.1/\qM H q.2.1 p.1/\RelV p.2 q.2.2) kvs xs)(m:bu):(m∉kvs.map (·.1)->atKey xs (bU m)=none)/\∀v,(m,v)∈kvs->(kvs.map (·.1)).Nodup->∃p,atKey xs (bU m)\p/\RelV v p.2:=by
 induction h with
 |nil=>exact#[λ_=>rfl,λv h=>by cases h]
 |@cons p q ps qs hq t ih=>
  let#[e,_,r]:=hq;by_cases z:p.1=m
  ·have e2:atKey (q::qs) (bU m)\q.2:=by simp[atKey,vc,<- e,z]
   apply#[λn=>absurd (by simp[z]) n,λv hv nd=>#[q.2,e2,?_]];rcases cU.mp hv with hv|hv
   ·rw[<- hv] at r;exact r
   rw[dZ,lA] at nd;exact absurd (bG.mpr #[_,hv,z.symm]) nd.1
  have e2:atKey (q::qs) (bU m)=atKey qs (bU m):=by
   have:¬q.1=bU m:=λy=>z (Lb (e.trans y));simp[atKey,vc,this]
  rw[e2];apply#[λn=>ih.1 λy=>n (by rw[dZ];exact eR _ y),λv hv nd=>?_];rw[dZ,lA] at nd;rcases cU.mp hv with hv|hv
  ·rw[<- hv] at z;exact absurd Z z
  exact ih.2 v hv nd.2
theorem P_{A:Ag}(hu:A.units+2<cLine):(IB (d_ X.prog X.w)).room A.in1:=by
 show A.units+1+1<cLine;omega
end
section
variable{X:Cx}{o i value:Expr}{pos pos':Pos}{td ty tv:TE}
theorem jb_{P:Ad}{w:Af}{H:Hp}{d:Addr}:gf P w (upd H d (dP d #[] 0)) d []:=#[#[],0,[],au,Z,.nil,List.nodup_nil]
def Az(P:Ad)(w:Af)(ty td:TE):TE:=λσ H Q=>ty σ H λy H1=>td σ H1 λx H2=>∃(d b:Addr) (m:bu) (kvs:List (bu × V)),x=.ref d/\y=.ref b/\qM H2 b m/\gf P w H2 d kvs/\∀z:Bool,(z=true ↔ m∈kvs.map (·.1))->Q (.bl z) H2
theorem jt_(hu:X.A.units+2<cLine)(hi:PE X i ty)(ho:PE X o td):PC X .In i o (Az X.prog X.w ty td):=by
 intro pins s σ H Q I h;apply aR (hi pins s σ H _ I h) λiv s1 ⟨y,H1,I1,ry,q1⟩=>aR (ho pins s1 σ H1 _ I1 q1) λu s2 ⟨x,H2,I2,rx,d,b,m,kvs,ex,ey,mk,ms,q2⟩=>?_;subst ex ey;cases (show u=Value.ref d from rx);cases (show iv=Value.ref b from ry);let#[_,_,_,_,_,_,nd]:=id ms;let#[hs,es,ep,xs,e,dd,pr]:=OR I2 ms;apply wpAny_in_heap (P_ hu) (K9 I2.aE mk) hs dd ?_;apply#[.bl _,H2,I2.tok _,Z,q2 _ ?_];by_cases z:m∈kvs.map (·.1)
 ·let#[#[m',v],hv,em]:=bG.mp z;cases em;let#[p,hp,_]:=(J8 pr m').2 v hv nd;rw[hp];exact#[λ_=>z,λ_=>rfl]
 rw[(J8 pr m).1 z];exact#[λh=>(by cases h),λh=>absurd h z]
def wH(P:Ad)(w:Af)(td ty:TE):TE:=λσ H Q=>td σ H λx H1=>ty σ H1 λy H2=>∃(d b:Addr) (m:bu) (kvs:List (bu × V)) (v:V),x=.ref d/\y=.ref b/\qM H2 b m/\gf P w H2 d kvs/\(m,v)∈kvs/\Q v H2
theorem WA(hu:X.A.units+2<cLine)(ho:PE X o td)(hi:PE X i ty)(hs:vn i):PE X (.Subscript o i pos) (wH X.prog X.w td ty):=by
 intro pins s σ H Q I h;apply Ky PySem.F.slot_dict_getitem.lookup hs (aR (ho pins s σ H _ I h) λu s1 ⟨x,H1,I1,rx,q1⟩=>aR (hi pins s1 σ H1 _ I1 q1) λiv s2 ⟨y,H2,I2,ry,d,b,m,kvs,v,ex,ey,mk,ms,mv,q2⟩=>?_);subst ex ey;cases (show u=Value.ref d from rx);cases (show iv=Value.ref b from ry);let#[_,_,_,_,_,_,nd]:=id ms;let#[hs,es,ep,xs,e,dd,pr]:=OR I2 ms;let#[p,hp,rp]:=(J8 pr m).2 v mv nd;exact#[dd.typeIs,wpAny_getItem_heap (P_ hu) (K9 I2.aE mk) dd hp #[v,H2,I2.tok _,rp,q2]]
def w4(P:Ad)(w:Af)(td ty tv:TE):TS:=λD σ H=>tv σ H λv H1=>td σ H1 λx H2=>ty σ H2 λy H3=>∃(d b:Addr) (m:bu) (kvs:List (bu × V)),x=.ref d/\y=.ref b/\qM H3 b m/\gf P w H3 d kvs/\m∉kvs.map (·.1)/\kvs.length<sizeLine/\∀H4,(∀c o,H3 c\o->c≠d->H4 c\o)->gf P w H4 d (kvs++[(m,v)])->D.nx σ H4
theorem hk_(hu:X.A.units+2<cLine)(ho:PE X o td)(hi:PE X i ty)(hv:PE X value tv)(hs:swapsWith value (some (.Subscript o i pos')) pos.line X.env=pure false) :
  PS X (.Assign [.Subscript o i pos'] value pos) (w4 X.prog X.w td ty tv):=by
 intro pins s σ H D I h;apply wpAny_Assign_Subscript (aR (hv pins s σ H _ I h) λr s1 ⟨v,H1,I1,rv,q1⟩=>aR (ho pins s1 σ H1 _ I1 q1) λu s2 ⟨x,H2,I2,rx,q2⟩=>aR (hi pins s2 σ H2 _ I2 q2) λiv s3 ⟨y,H3,I3,ry,d,b,m,kvs,ex,ey,mk,ms,nm,hz,q3⟩=>?_) hs;subst ex ey;cases (show u=Value.ref d from rx);cases (show iv=Value.ref b from ry);let#[_,_,_,_,_,_,nd]:=id ms;let#[hs,es,ep,xs,e,dd,pr]:=OR I3 ms;let le:=bH pr;apply wpAny_setItem_heap (hsz:=by omega) (P_ hu) (K9 I3.aE mk) dd λh' vX Nt=>?_;let#[q,pE,qE,hq,h2,h3,h4,_,h5]:=vX;have A4:Raw h' d pE qE:=#[q,hq,h2,h3];let I4:=KC (t':=s3.toks+(IB (d_ X.prog X.w)).draws (bU m)) I3 (by rw[e];exact True.intro) Nt #[q,hq] (ON A4 hs)
 have kt:∀c xs,H3 c\.tup xs->upd H3 d (dP d pE qE) c\.tup xs:=λc xs ec=>by
  rw[aA (bX ec e nofun)];exact ec
 apply#[σ,_,I4,q3 _ (λc o e n=>by rw[aA n];exact e) #[pE,qE,_,au,h4,?_,?_]]
 ·have st:storedH xs (bU m) b r=xs++[(bU m,b,r)]:=by
   unfold storedH;rw[(J8 pr m).1 nm];rfl
  rw[st];exact Paired.snoc (Paired.bF pr λp q ⟨a,b,c⟩=>#[a,b.keep kt,c]) #[Z,mk.keep kt,rv]
 rw[cu,List.nodup_append];apply#[nd,by simp,λa ha b hb=>?_];rw[show b=m by simpa using hb];intro z;rw[z] at ha;exact nm ha
end
end L2
namespace L2
open PySem PySem.Spec PyProof.Rows PySem.W jL cY
section
variable{X:Cx}
theorem lL_{n m:Nat}{D1 D2:Type}[DecidableEq D1][DecidableEq D2]{R1:Rp D1}{R2:Rp D2}(c1:jM X n R1)(c2:jM X m R2)(h1:X.A.units+n+1<cLine)(h2:X.A.units+m+1<cLine):dN X (compareOp .NotEq) (w_ (r2 X.K R1 R2) true):=by
 intro pins s σ H x y v u Q I rx ry h;let#[d,e,#[a,x1,x2,rfl,t,q1,q2],#[b,y1,y2,rfl,t',CT,CQ],hq]:=h;cases rx;cases ry;let#[its,r,it,_]:=I.tuple t;let#[its',r',Nb,_]:=I.tuple t';let#[u1,u2,rfl,r1,r2]:=vals2 r;let#[w1,w2,rfl,Mm,Ml]:=vals2 r'
 apply SeqAt.RcNeAt.tuples (e:=λj=>if j=0 then decide (d.1=e.1) else decide (d.2=e.2)) (D5 it) (D5 Nb) Z1 (λj g1 g2=>by
  match j,g1,g2 with
  |0,_,_=>exact c1.eq I r1 Mm q1 CT (by show X.A.units+1+n<cLine;omega)
  |1,_,_=>exact c2.eq I r2 Ml q2 CQ (by show X.A.units+1+m<cLine;omega)) X.prog X.w _ _ #[.bl _,H,I,Z,?_]
 have e3:((List.range (min [u1,u2].toArray.size [w1,w2].toArray.size)).all (λj=>if j=0 then decide (d.1=e.1) else decide (d.2=e.2))&&[u1,u2].toArray.size == [w1,w2].toArray.size)=decide (d=e):=by
  show (decide (d.1=e.1)&&(decide (d.2=e.2)&&true)&&true)=_;by_cases z1:d.1=e.1
  ·by_cases z2:d.2=e.2
   ·have:d=e:=Prod.ext z1 z2;simp[this]
   have:¬d=e:=λz=>z2 (by rw[z]);simp[z1,z2,this]
  have:¬d=e:=λz=>z1 (by rw[z]);simp[z1,this]
 rw[e3];exact hq
end
end L2
namespace Ev
open PySem L2
inductive yU (x:V) (y:V) (H:Hp) (Q:VK):Prop
 |mk:∀(a b:Addr) (ns:ae) (f g:aj),x=.ref a->y=.ref b->H a\.dK (cX ns f)->H b\.dK (cX ns g)->Q (.bl (!(ns.all λn=>decide (f n=g n)))) H->yU x y H Q
theorem jS_{X:Cx}(hu:X.A.units<cLine):dN X (compareOp .NotEq) yU:=by
 intro pins s σ H x y v u Q I rx ry h;let#[a,b,ns,f,g,rfl,rfl,ha,hb,q]:=h;cases rx;cases ry;let#[za,na,va,ra,da]:=nE I.aE (.inl ha);let#[zb,nb,vb,rb,db]:=nE I.aE (.inl hb);let la:=ra.length;let lb:=rb.length;rw[jJ] at la lb;apply PySem.W.keq_ne na nb da db hu (r:=ns.all λn=>decide (f n=g n)) (λ_=>U9 rb ns va ra λ_ h=>h) ⟨.bl _,H,I,rfl,?_⟩;rw[<- la,<- lb];simpa using q
theorem lP_:∀r∈rl,decide (Txt.slice r.1 none (some 5)=("turns":Str))=decide (r.2.1=("turns":Str)):=by decide +kernel
theorem lj_:∀r∈rl,r.1.length<=sizeLine:=by decide +kernel
def yy(r:Rl)(ts:Xb)(m:Nat):Int:=if r.2.1="turns" then ((m % fJ r ts:Nat):Int) else 0
section
variable{P:Ad}{w:Af}{K:af}{mg:Str->Option Aa}{base:Heap}{CG CW T1 T2:Addr}
theorem lS:bx [qi,pG,vQ,"_law_moment","_law_rows","_law_turn"] vm (aX s_):=bE
inductive lP (K:af) (CG CW:Addr) (vs:ag) (H:Hp) (Q:VK) (E:XK):Prop
 |mk:∀(g p d:Addr) (m:Nat) (hs:Xa) (ts:Xb) (qs:aI) (fp:ai) (ns:ae) (f:aj),∀r∈rl,vs=[.ref g,.ref d,.str r.1,.int m]->m<=10000->iY K CG CW H g p d hs ts qs fp ns f->Wd hs ts qs f->(∀t c H',aa H H'->H' t\.tup [.int (yy r ts m),.ref c]->H' c\.tup ((qs.map λq=>f q.1).map V.str)->Q (.ref t) H')->lP K CG CW vs H Q E
theorem kC_{f0:Addr}{fd:Ae}(F:bj K "_law_mark" "_law_mark" s_ f0 fd)(B:Bi mg)(TG:dM K CG)(TW:Txt K mg CW)(cT:!br CW 3 "turns" gK (Iu K CW))(cN:!br CG 1 "names" gK (K3 K CG CW)):!aq a9 4 f0 fd vm (lP K CG CW):=by
 apply F.ok lS (λvs H Q E h=>?_) (λaO A outer s H vs Q E hr h=>?_)
 ·let#[g,p,d,m,hs,ts,qs,fp,ns,f,r,cc,rfl,_]:=h;rfl
 let#[g,p,d,m,hs,ts,qs,fp,ns,f,r,cc,rfl,m3,S,W,k]:=h;let sz:=cn;let hu:=gD hr;have iH:bf 1 _:=hr.mono (by decide);refine' ⟨_,ax ?s1 (ax ?s2 (aH ?s3)),?kk⟩
 case s1=>exact bq 4 lS.nd (cy iL (by rfl) B.len ia %[uW cT TW.cl hr (dG (pv 0) Z)|0])
 case s2=>exact bq 5 lS.nd (bN qm (bN uX (pv 3) (cy (QR Z) (by rfl) B.max JZ %[aC,4|0])) (iK Wr (by rfl) B.int GY %[qp iy (uY lg_ (pv 2) uU (uV aC)) dI|0]))
 case' s3=>refine' bg (fB %[5,iK (m_ (K:=K)) (by rfl) B.tuple zV %[?c3|0]|0])
 case c3=>exact iV ["_law_name",pG] 1 [1] (d5 (uW cN TG.cl iH (pv 0))) (λfp s H=>eW (i:=0) (show (["_law_name",pG]:ae).Nodup by decide +kernel) Z (Or.inl Z)) (λfp s H=>ij) (λfp s H=>kq hu (pv 1) (pv 0))
 let#[gR,dw,dy,YQ,bR,g1,g2,_]:=id S.G.ex;let#[eV,d1,l2,d3,ju,RG,ef,w1,_]:=id g2.ex;apply#[_,Z,g,CG,gR,_,_,Z,g1,TG.cl,TG.nW,kA _ _ _,p,eV,_,Z,w1,iM _ _ _ Z0 Z0 Z0,p,hs,ts,bR,Z,g2,W.Gd.rN,λl as H1 s1 _ _ _ _ R=>?_];apply#[l,_,Z,.inl (.of R.1),?_];let la:=bH R.2;rw[ay,la];lk
 have FD:(turnsOf (aM ts)).length<64:=by
  have h1:(turnsOf (aM ts)).length <= [].length+(aM ts).length:=QU (aM ts) [];rw[D7] at h1;have:=W.Gd.rN;simp only[qP] at h1;omega
 apply#[_,Z,_,Z,_,_,Z,?_];rw[show (if (((turnsOf (aM ts)).length:Nat):Int) > 1 then (((turnsOf (aM ts)).length:Nat):Int) else 1)=((max 1 (turnsOf (aM ts)).length:Nat):Int) by split<;>omega]
 apply#[_,_,Z,Z,by omega,?_];apply#[_,Z,_,Z,r.1,Z,lj_ r cc,Z,.inr #[_,Z,?_]];rw[show decide (V.str (Txt.slice r.1 none (some 5))=V.str ("turns":Str))=decide (r.2.1=("turns":Str)) from (pN _ _).trans (lP_ r cc)];apply#[_,_,Z,Z,?cm,?_]
 case cm=>
  unfold yr;have:((m:Int) % ((max 1 (turnsOf (aM ts)).length:Nat):Int))=((m % max 1 (turnsOf (aM ts)).length:Nat):Int):=rfl;let h1:=Nat.mod_le m (max 1 (turnsOf (aM ts)).length);rw[this];exact .inl #[by omega,by omega]
 have et:(m:Int) % ((max 1 (turnsOf (aM ts)).length:Nat):Int) * (if decide (r.2.1=("turns":Str))=true then 1 else 0)=yy r ts m:=by
  unfold yy fJ;by_cases c:r.2.1=("turns":Str)
  ·rw[aJ c,aJ c,aJ (cb c),Int.mul_one];rfl
  rw[aB c,aB ⇑c,Int.mul_zero]
 rw[et];lk;let S1:=S.nt (NT.of s1);clear g1 g2 w1 R la et FD;let#[gR,dw,dy,YQ,bR,g1,g2,_]:=id S1.G.ex;apply#[_,Z,_,Z,g,gR,_,Z,g1,uZ _ _ _ Z0 Z0 Z0,g,p,hs,ts,qs,fp,Z,S1.G,λln xt=>?_];let#[s2,e2]:=bp (o:=.lst ((qs.map (·.1)).map V.str)) xt;let hd2:=s2 _ _ S1.hd;generalize upd H1 ln (.lst ((qs.map (·.1)).map V.str))=H2 at s2 e2 hd2 ⊢;apply#[ln,Z,#[_,.of e2],λD hD=>?_];apply jK (own:=1) (fv:=[some (.ref d)]) (xs:=(qs.map (·.1)).map V.str) Z dR (λi out H'=>aa H2 H'/\H' D\.lst out/\out=(((qs.map (·.1)).take i).map f).map V.str) #[aa.new hD,au,Z] (λi out H' _ ⟨sm,_,_⟩=>.of (sm _ _ e2)) (λout H3 ⟨sm,Du,eo⟩=>?_) (λi y out H' hy ⟨sm,dE,eo⟩=>?_);rotate_left 1
 ·let#[n,hn,rfl]:=iT hy;have hi:i<(qs.map (·.1)).length:=(cw.mp hn).1;let bS:=W.bS;rw[ay] at hi;have nm:n∈ns:=S.so.perm.mem_iff.mpr (dA hn);apply#[_,Z,Z,λNx hN=>dB ?_];apply#[_,Z,_,Z,d,.str (f n),Z,?_,out,dE,by rw[eo,ay,ay,dJ,ay];omega,hN _ _ #[gU sm hD,au,?_]]
  ·rw[<- DT (g:=λn=>V.str (f n)) nm];exact .k (k:=Sum.inr n) (sm _ _ hd2)
  rw[eo,iC hn,cu,cu];rfl
 rw[ay,eN] at eo;apply#[D,_,Z,.inl #[.of Du,λt nt=>?_]];apply#[zl,λt2 p9=>?_];let s4:=aa.new (o:=.tup out) nt;let s5:=aa.new (o:=.tup [.int (yy r ts m),.ref t]) p9;apply k t2 t _ ((s1.trans s2).trans (sm.trans (s4.trans s5))) au (s5 _ _ ?_);rw[au,eo,show (qs.map (·.1)).map f=qs.map λq=>f q.1 from b_]
end
end Ev
namespace Ev
open PySem L2
theorem BT.free{T1 T2 a:Addr}{H H':Hp}(b:BT T1 T2 H H')(tb:Tb H' T1 T2)(n:H' a=none):H a=none:=by
 cases z:H a with
 |none=>rfl
 |some o=>
  by_cases y1:a=T1
  ·let#[tv,hT]:=gc tb.a;rw[y1,hT] at n;cases n
  by_cases y2:a=T2
  ·let#[tv,hT]:=gc tb.b;rw[y2,hT] at n;cases n
  rw[b _ _ z y1 y2] at n;cases n
theorem DO{x y:Str}(h:x≠y):decide (V.str x=V.str y)=false:=by
 rw[pN];exact dH h
section
variable{P:Ad}{w:Af}{K:af}{mg:Str->Option Aa}{base:Heap}{CG CW T1 T2:Addr}
theorem oJ:bx ["goods","stand","rule","most","told"] zN (aX mj):=bE
inductive Ie (K:af) (CG CW T1 T2:Addr) (vs:ag) (H:Hp) (Q:VK) (E:XK):Prop
 |mk:∀(g p d:Addr) (n:Nat) (hs:Xa) (ts:Xb) (qs:aI) (fp:ai) (ns:ae) (f:aj),∀r∈rl,vs=[.ref g,.ref d,.str r.1,.int n]->n<=3000->iY K CG CW H g p d hs ts qs fp ns f->Wd hs ts qs f->Tb H T1 T2->(∀(v:V) (H':Hp) (c:Kd),BT T1 T2 H H'->Tb H' T1 T2->js r hs ts qs f n c->p0 r hs ts qs f H' v c->(∀t l:Addr,v=.ref t->H' t\.tup [.str "rest",.ref l]->H l=none)->Q v H')->Ie K CG CW T1 T2 vs H Q E
theorem ja_{f0:Addr}{fd:Ae}(F:bj K "paper_of" "paper_of" mj f0 fd)(QZ:!aY 10 "run_of" zN (lK K CG CW T1 T2))(KZ:!aY 10 "sums_of" vh (Qd K CG CW T1 T2)):!aq a9 11 f0 fd zN (Ie K CG CW T1 T2):=by
 apply F.ok oJ (λvs H Q E h=>?_) (λaO A outer s H vs Q E hr h=>?_)
 ·let#[g,p,d,n,hs,ts,qs,fp,ns,f,r,cc,rfl,_]:=h;rfl
 let#[g,p,d,n,hs,ts,qs,fp,ns,f,r,cc,rfl,n3,S,W,tb,k]:=h;refine' ⟨_,ax ?s1 (ax ?s2 (ax ?s3 (aH (bg xW)))),?kk⟩
 case s1=>exact bq 4 oJ.nd (aQ QZ hr %[0,1,2,3|0])
 case s2=>exact bO (dj iy (bM dz (pv 4) aC) dI) (aH (bg (fB %[dI,aQ KZ hr %[0,1,2,bM dz (pv 4) aC|0]|0]))) bP
 case s3=>exact bO (dj iy (bM dz (pv 4) aC) dI) (aH (bg (pv 4))) bP
 apply#[_,Z,_,Z,_,Z,_,Z,g,p,d,n,hs,ts,qs,fp,ns,f,r,cc,Z,n3,S,W,tb,λv H1 b1 qZ ru=>?_];let#[c,t,ko,rfl,kt]:=lk_ ru;lk;let Jt:=b1.nt tb;have pM:∀{x:V} {xs:ag},fu (x::xs) 0\x:=L2.gC (j:=0) Z
 match c,ko,kt with
 |some (.inl i),ko,⟨d',ht⟩=>
  apply#[_,Z,t,_,_,.str "rest",Z,Z,.of ht,pM,Z,_,Z,aN (λ_=>?_) (λc=>by simp at c)];apply#[_,Z,_,Z,_,Z,_,Z,t,_,_,.int i,Z,Z,.of ht,L2.gC (j:=1) Z,g,p,d,i,hs,ts,qs,fp,ns,f,r,cc,Z,by have:=ko.1;omega,S.nt Jt,W,qZ,λl H2 b2 fC nl hl=>#[zl,λq nq=>?_]];let s3:=aa.new (o:=.tup [.str "rest",.ref l]) nq
  exact k (.ref q) _ (some (.inl i)) ((b1.trans b2).trans (BT.of s3)) (fC.nt s3) ko #[q,l,Z,au,s3 _ _ hl] λt' l' e e'=>by
   cases e;rw[au] at e';cases e';exact b1.free qZ nl
 |some (.inr (j,i)),ko,ht=>
  apply#[_,Z,t,_,_,.str "ring",Z,Z,.of ht,pM,Z,_,Z,aN (λc=>?_) (λ_=>?_)]
  ·rw[DO Z0] at c;cases c
  apply#[_,Z,t,_,_,.str "ring",Z,Z,.of ht,pM,Z,_,Z,aN (λ_=>?_) (λc=>by simp at c)]
  exact#[_,Z,k (.ref t) _ (some (.inr (j,i))) b1 qZ ko #[t,Z,ht] λt' l' e e'=>by
   cases e;rw[ht] at e';cases e']
 |none,ko,ht=>
  apply#[_,Z,t,_,_,.str "more",Z,Z,.of ht,pM,Z,_,Z,aN (λc=>?_) (λ_=>?_)]
  ·rw[DO Z0] at c;cases c
  apply#[_,Z,t,_,_,.str "more",Z,Z,.of ht,pM,Z,_,Z,aN (λc=>?_) (λ_=>?_)]
  ·rw[DO Z0] at c;cases c
  exact k .non _ none b1 qZ ko Z λt' l' e _=>by cases e
end
end Ev
namespace Ev
open PySem L2
def xi(r:Rl)(hs:Xa)(ts:Xb)(qs:aI)(f:aj)(i:Nat):bu:=(qs.map λq=>Sum.inr (runM r hs ts qs f i q.1),yy r ts i)
theorem lF_(r:Rl)(ts:Xb)(a b:Nat):yy r ts a=yy r ts b ↔ ((a % fJ r ts:Nat):Int)=((b % fJ r ts:Nat):Int):=by
 unfold yy;by_cases c:r.2.1=("turns":Str)
 ·rw[aJ c,aJ c]
 rw[aB c,aB c,show fJ r ts=1 from aB c,Nat.mod_one,Nat.mod_one];exact#[λ_=>rfl,λ_=>rfl]
theorem o8{r:Rl}{hs:Xa}{ts:Xb}{qs:aI}{f:aj}{a b:Nat}:xi r hs ts qs f a=xi r hs ts qs f b ↔ fE r hs ts qs f a=fE r hs ts qs f b:=by
 unfold xi fE;rw[Prod.mk.injEq,Prod.mk.injEq,lF_]
def iG(r:Rl)(hs:Xa)(ts:Xb)(qs:aI)(f:aj)(i:Nat):List (bu × V):=(List.range i).map λj=>(xi r hs ts qs f j,V.int j)
theorem WI{r:Rl}{hs:Xa}{ts:Xb}{qs:aI}{f:aj}{i:Nat}{m:bu}:m∈(iG r hs ts qs f i).map (·.1) ↔ ∃j:Nat,j<i/\xi r hs ts qs f j=m:=by
 unfold iG;rw[b_,bG];constructor
 ·rintro⟨j,hj,e⟩;exact#[j,yk.mp hj,e]
 rintro⟨j,hj,e⟩;exact#[j,yk.mpr hj,e]
theorem gf.nt{P:Ad}{w:Af}{H H':Hp}{d:Addr}{kvs:List (bu × V)}(h:gf P w H d kvs)(s:NT H H'):gf P w H' d kvs:=by
 let#[es,ep,xs,e,ee,pr,nd]:=h;exact#[es,ep,xs,s _ _ e nofun,ee,Paired.bF pr λp q ⟨a,b,c⟩=>#[a,b.keep λc xs e=>s _ _ e nofun,c],nd]
theorem Tb.raw{H H':Hp}{T1 T2 d:Addr}{es:Array Ah}{ep:Nat}(t:Tb H T1 T2)(e:H d\dP d es ep)(k:∀c o,H c\o->c≠d->H' c\o):Tb H' T1 T2:=by
 have kT:∀{T qn},cg H T qn->cg H' T qn:=λ⟨pE,a1,a2⟩=>#[pE,k _ _ a1 (bX a1 e nofun),λx hx=>k _ _ (a2 x hx) (λz=>by
  let y:=a2 x hx;rw[z,e] at y;exact XG (d7 y).symm)]
 exact#[kT t.a,kT t.b,t.ne]
section
variable{P:Ad}{w:Af}{K:af}{mg:Str->Option Aa}{base:Heap}{CG CW T1 T2:Addr}
abbrev duN:ae:=[qi,vQ,"_law_stands",uN,"_law_met","_law_k","_law_mark_here"]
theorem oN:bx duN kF (aX AZ):=bE
structure qU (K:af) (CG CW:Addr) (H:Hp) (g p ls:Addr) (r:Rl) (hs:Xa) (ts:Xb) (qs:aI) (fp:ai) (ns:ae) (f:aj) (m n:Nat):Prop where
 ex:∃ds:ai,H ls\.lst (ds.map V.ref)/\ds.length=m+1/\∀(j:Nat) (a:Addr),ds[j]? = some a->iY K CG CW H g p a hs ts qs fp ns (runM r hs ts qs f j)
 le:m<=n
 no:∀j:Nat,j<m->gJ r hs ts qs (runM r hs ts qs f j)=false
 fin:m=n∨gJ r hs ts qs (runM r hs ts qs f m)=true
theorem qU.nt{K:af}{CG CW:Addr}{H G:Hp}{g p ls:Addr}{r:Rl}{hs:Xa}{ts:Xb}{qs:aI}{fp:ai}{ns:ae}{f:aj}{m n:Nat}(h:qU K CG CW H g p ls r hs ts qs fp ns f m n)(s:NT H G):qU K CG CW G g p ls r hs ts qs fp ns f m n:=by
 let#[ds,h1,h2,h3]:=h.ex;exact#[#[ds,s.lst h1,h2,λj a e=>(h3 j a e).nt s],h.le,h.no,h.fin]
inductive jV (P:Ad) (w:Af) (K:af) (CG CW T1 T2:Addr) (vs:ag) (H:Hp) (Q:VK) (E:XK):Prop
 |mk:∀(g p ls:Addr) (m n:Nat) (hs:Xa) (ts:Xb) (qs:aI) (fp:ai) (ns:ae) (f:aj),∀r∈rl,vs=[.ref g,.str r.1,.ref ls,.int n]->n<=3000->qU K CG CW H g p ls r hs ts qs fp ns f m n->Wd hs ts qs f->Tb H T1 T2->(∀(v:V) (H':Hp) (c:Kd),BT T1 T2 H H'->Tb H' T1 T2->js r hs ts qs f n c->p0 r hs ts qs f H' v c->(∀t l:Addr,v=.ref t->H' t\.tup [.str "rest",.ref l]->H l=none)->Q v H')->jV P w K CG CW T1 T2 vs H Q E
theorem lq_{f0:Addr}{fd:Ae}(F:bj K "_law_due" "_law_due" AZ f0 fd)(B:Bi mg)(Cd:!aY 10 "at_rest" qG (Ks K CG CW T1 T2))(cSu:!aY 6 "sum_of" zK (Ku K CG CW))(Q4:!aY 4 "_law_mark" vm (lP K CG CW)):!aq a9 11 f0 fd kF (jV P w K CG CW T1 T2):=by
 apply F.ok oN (λvs H Q E h=>?_) (λaO A outer s H vs Q E hr h=>?_)
 ·let#[g,p,ls,m,n,hs,ts,qs,fp,ns,f,r,cc,rfl,_]:=h;rfl
 let#[g,p,ls,m,n,hs,ts,qs,fp,ns,f,r,cc,rfl,n3,Wk,W,tb,k]:=h;let sz:=cn;let xn:=nC hr 1;refine' ⟨_,ax ?s1 (ax ?s2 (ax ?s3 (aH (bg xW)))),?kk⟩
 case' s1=>refine' bO (PW.pt (zQ (dj uL (cy iL (by rfl) B.len ia %[2|0]) (bN gX (pv 3) aC)) (Cj (eK ?re)))) (aH (bg (fB %[dI,?co|0]))) bP
 case re=>exact aQ Cd hr %[0,bM gL (pv 2) (GK Hb aC),1|0]
 case' co=>refine' iV [pG,qi] 1 [0] (d5 (pv 2)) (λfp s H=>eW (i:=0) (show ([pG,qi]:ae).Nodup by decide +kernel) Z (Or.inl Z)) (λfp s H=>ij) (λfp s H=>?te)
 case te=>exact aQ cSu hr %[1,0|0]
 case s2=>exact bq 4 oN.nd Vx
 case' s3=>refine' eX eM Z (Cn (by rfl) B.range %[cy (hx_ Z) (by rfl) B.min PyProof.Rows.Boot.«min» %[cy iL (by rfl) B.len ia %[2|0],bN gX (pv 3) aC|0]|0]) (cO 5 oN.nd) (ax ?b1 (ax ?b2 (aH ?b3)))
 case b1=>exact bq 6 oN.nd (aQ Q4 hr %[0,bM gL (pv 2) (pv 5),1,5|0])
 case b2=>exact bO (wj (jt_ xn (pv 6) (pv 4))) (aH (bg (fB %[dI,WA xn (pv 4) (pv 6) (λ_ _=>rfl),bN zO (pv 5) (WA xn (pv 4) (pv 6) (λ_ _=>rfl))|0]))) bP
 case b3=>exact hk_ xn (pv 4) (pv 6) (pv 5) Z
 let#[ds,kZ,ld,da]:=Wk.ex;let mn:=Wk.le;have MW:(ds.map V.ref).length=m+1:=by rw[ay,ld]
 obtain⟨dp,DH⟩:∃dp,ds[m]? = some dp:=#[_,cE Z1]
 have la:fu (ds.map V.ref) (-1)\.ref dp:=by
  rw[VQ Z1,MW,Nat.add_sub_cancel,dU,DH];rfl
 apply#[_,Z,ls,_,Z,.inl (.of kZ),_,Z,_,_,Z,Z,_,_,Z,Z,_,Z,aN (λ_=>?_) (λc=>?_)];rotate_left 1
 ·rw[MW] at c;exact absurd (cb (show ((m+1:Nat):Int)<=(n:Int)+1 by omega)) c
 apply#[_,Z,_,Z,1,Z,ls,_,_,.ref dp,Z,Z,.inl (.inl kZ),la,_,Z,g,p,dp,hs,ts,qs,fp,ns,_,r,cc,Z,da m dp DH,W.run r m,tb,λH1 b1 qZ=>#[_,Z,aN (λc=>?_) (λc=>?_)]]
 ·let Jt:=b1.nt tb;let GX:=Jt.lst kZ;apply#[_,Z,ls,Z,#[_,.of GX],λD hD=>?_];apply iJ_ (λa H4 Q2 h=>#[_,Z,_,Z,h]) W GX (λj a e=>(da j a e).nt Jt) Z1 hD λH2 s2 uC=>?_;rw[ld] at uC;apply#[zl,λq nq=>?_];let s3:=aa.new (o:=.tup [.str "rest",.ref D]) nq
  exact k _ _ (some (.inl m)) ((b1.trans (BT.of s2)).trans (BT.of s3)) ((qZ.nt s2).nt s3) #[mn,Wk.no,c] #[q,D,Z,au,s3 _ _ uC] λt' l' e e'=>by
   cases e;rw[au] at e';cases e';exact b1.free qZ hD
 have c:gJ r hs ts qs (runM r hs ts qs f m)=false:=⇑c
 obtain rfl:m=n:=by
  rcases Wk.fin with e|e
  ·exact e
  rw[c] at e;cases e
 have al:∀j:Nat,j<=m->gJ r hs ts qs (runM r hs ts qs f j)=false:=λj hj=>by
  by_cases z:j<m
  ·exact Wk.no j z
  obtain rfl:j=m:=by omega
  exact c
 intro dm nm;let sm:=aa.new (o:=dP dm #[] 0) nm;have M0:gf P w (upd H1 dm (dP dm #[] 0)) dm []:=jb_;generalize upd H1 dm (dP dm #[] 0)=H2 at sm M0 ⊢;lk;let b2:=b1.trans (BT.of sm);let fC:=qZ.nt sm;let MF:=b1.free qZ nm;let p9:=b2.nt tb;apply#[_,Z,ls,_,Z,.inl (.of (p9.lst kZ)),_,Z,_,_,Z,Z,_,_,Z,?_];rw[MW,show (if ((m:Int)+1)<((m+1:Nat):Int) then ((m:Int)+1) else ((m+1:Nat):Int))=((m+1:Nat):Int) by rw[aB Z1]];apply#[_,Z,by omega,by omega,D4 (lo:=0) (n:=((m+1:Nat):Int).toNat) (λi σ H'=>∃v5 v6:aL,σ=[some (.ref g),some (.str r.1),some (.ref ls),some (.int m),some (.ref dm),v5,v6]/\BT T1 T2 H H'/\Tb H' T1 T2/\gf P w H' dm (iG r hs ts qs f i)/\∀a b:Nat,a<b->b<i->fE r hs ts qs f a≠fE r hs ts qs f b) #[none,none,Z,b2,fC,M0,by omega] ?_ ?_];rotate_left 1
 ·rintro σ H3 ⟨v5,v6,rfl,b3,jv,_,di⟩;exact k _ _ none b3 jv #[al,λa b h1 h2=>di a b h1 (by simp;omega)] Z (λt' l' e _=>by cases e)
 rintro i σ H3 hi ⟨v5,v6,rfl,b3,jv,M3,di⟩;have hi:i<m+1:=⇑hi
 lk;let j5:=b3.nt tb;obtain⟨PZ,Wp⟩:∃a,ds[i]? = some a:=#[_,cE Z1];rw[wo];apply#[_,Z,_,Z,_,Z,ls,_,_,.ref PZ,Z,Z,.of (j5.lst kZ),L2.gC (j:=i) (by rw[dU,Wp];rfl),_,Z,_,Z,g,p,PZ,i,hs,ts,qs,fp,ns,_,r,cc,Z,by omega,(da i PZ Wp).nt j5,W.run r i,λt ct H4 s4 h1 h2=>?_];lk;have mk:qM H4 t (xi r hs ts qs f i):=#[ct,h1,by rw[h2,b_];show some (HO.tup (List.map _ _))\HO.tup (List.map _ (List.map _ _));rw[b_];rfl];let M4:=gf.nt M3 (NT.of s4);let b4:=b3.trans (BT.of s4);let fj:=jv.nt s4;apply#[_,Z,_,Z,dm,t,_,_,Z,Z,mk,M4,λz hz=>?_];apply#[_,Z,aN (λcz=>?_) (λcz=>?_)]
 ·let#[j,hj,ej]:=WI.mp (hz.mp cz)
  have mm:(xi r hs ts qs f i,V.int (j:Int))∈iG r hs ts qs f i:=by
   rw[<- ej];exact bG.mpr #[j,yk.mpr hj,Z]
  apply#[_,Z,_,Z,dm,t,_,_,_,Z,Z,mk,M4,mm,?_];apply#[_,Z,_,Z,_,Z,dm,t,_,_,_,Z,Z,mk,M4,mm,_,_,Z,Z,zl,λa na=>?_];let s9:=aa.new (o:=.tup [.str "ring",.int (j:Int),.int ((i:Int) - (j:Int))]) na
  exact k _ _ (some (.inr (j,i))) (b4.trans (BT.of s9)) (fj.nt s9) #[by omega,hj,λq hq=>al q Z1,di,o8.mp ej] #[a,Z,au] λt' l' e e'=>by
   cases e;rw[au] at e';cases e'
 have S6:xi r hs ts qs f i∉(iG r hs ts qs f i).map (·.1):=λhm=>cz (hz.mpr hm)
 have lk:(iG r hs ts qs f i).length=i:=by
  unfold iG;rw[ay,List.length_range]
 apply#[_,Z,_,Z,_,Z,dm,t,_,_,Z,Z,mk,M4,S6,by omega,λH5 k5 M5=>?_];let#[es8,ep8,_,em,_]:=id M4
 have e:iG r hs ts qs f (i+1)=iG r hs ts qs f i++[(xi r hs ts qs f i,V.int (i:Int))]:=by
  unfold iG;rw[List.range_succ,cu];rfl
 apply#[_,_,Z,λb o eb y1 y2=>k5 b o (b4 b o eb y1 y2) (bw eb MF),fj.raw em k5,by rw[e];exact M5,λa b q1 q2=>?_];by_cases z:b<i
 ·exact di a b q1 z
 obtain rfl:b=i:=by omega
 exact λee=>S6 (WI.mpr #[a,q1,o8.mpr ee])
end
end Ev
namespace L2
open PySem PySem.Spec PyProof.Rows PySem.W
theorem Vq{K:af}{a:Addr}{xs:ag}{g:TG}{tc:TT}{te:TE}{own:Nat}{fv:List aL}{dec:V->Hp->List aL->Prop}{D:Addr}{H:Hp}{Q:VK}{ip:St}(mO:ip=List.replicate own none++fv)(G:yq g own fv dec)(Pv:Nat->ag->Hp->Prop)
  (h0:Pv 0 [] (upd H D (.lst []))) (hl:∀i out H',i<=xs.length->Pv i out H'->fN K H' a xs) (hd:∀out H',Pv xs.length out H'->Q (.ref D) H')
  (uv:∀i x out H',xs[i]? = some x->Pv i out H'->∃o3,dec x H' o3/\o3.length=own/\∀Nx:Hp->Prop,(∀gm H2,Pv (i+1) gm H2->Nx H2)->
   tc (o3++fv) H' λb H4=>if b=true then te (o3++fv) H4 λy H5=>∃c_,H5 D\.lst c_/\c_.length<sizeLine/\Nx (upd H5 D (.lst (c_++[y]))) else Nx H4) :
  vR (RR K a) g tc te ip D H Q:=by
 apply Cr mO G xs.length Pv h0 (λout H' p=>#[#[xs,hl _ _ _ (bo _) p,bo _],hd out H' p]) λi out H' hi p=>?_;let q:=hl i out H' (Nat.le_of_lt hi) p;apply#[#[xs,xs[i],q,by simp[hi]],λx H2 y=>?_];let#[e,y]:=y;subst e;exact uv i x out _ (y xs q) p
theorem lr_{X:Cx}{op:Aa->Aa->Sem Aa}{r1 r2:V->V->Hp->VK->Prop}(h1:dN X op r1)(h2:dN X op r2):dN X op (λx y H Q=>r1 x y H Q∨r2 x y H Q):=λpins s σ H x y v u Q I rx ry h=>h.elim (λh=>h1 pins s σ H x y v u Q I rx ry h) λh=>h2 pins s σ H x y v u Q I rx ry h
end L2
namespace Ev
open PySem L2
section v
theorem PB:bx ["_law_found",xS,"_law_numbers"] kD (aX mh):=bE
inductive HQ (vs:ag) (H:Hp) (Q:VK) (E:XK):Prop
 |mk:∀(v v':V) (r:Rl) (hs:Xa) (ts:Xb) (qs:aI) (f:aj) (c:Kd),vs=[v,v']->p0 r hs ts qs f H v c->p0 r hs ts qs f H v' c->hU c<=3000->(∀H',aa H H'->Q (.bl true) H')->HQ vs H Q E
theorem iA_{f0:Addr}{fd:Ae}(F:bj K "_law_right" "_law_right" mh f0 fd)(B:Bi mg):!aq a9 1 f0 fd kD HQ:=by
 apply F.ok PB (λvs H Q E h=>?_) (λaO A outer s H vs Q E hr h=>?_)
 ·let#[v,v',_,_,_,_,_,_,rfl,_]:=h;rfl
 let#[v,v',r,hs,ts,qs,f,c,rfl,h1,h2,cl,k]:=h;let sz:=cn;refine' ⟨_,ax ?s1 (ax ?s2 (ax ?s3 (ax ?s4 (aH ?s5)))),?kk⟩
 case s1=>exact bO (PW.pt (xM (dj OL (pv 1) xW) (xX (dj OL (pv 0) xW)))) (aH (bg (qp iy (pv 0) (pv 1)))) bP
 case s2=>exact bO (PW.pt (xM (eY (eK (cy jq (by rfl) B.iP iU %[0,jn (v:=.ty "tuple") (by rfl) B.tuple zV Z|0]))) (xX (dj (lr_ (lL_ hZ (QE QD) (nC hr 0) (nC hr 1)) (kF_ QF (nC hr 0))) (pv 0) (pv 1))))) eD bP
 case s3=>exact bq 2 PB.nd (uY kI_ (pv 0) (uV aC) uU)
 case s4=>exact bO (dj iy (bM dz (pv 1) aC) dI) (aH (bq 2 PB.nd (iK (m_ (K:=K)) (by rfl) B.tuple zV %[bM dz (pv 0) aC|0]))) bP
 case' s5=>refine' bg (cy (Vz Z) (by rfl) B.all PyProof.Rows.Boot.«all» %[iV ["_law_number"] 1 [] (l4_ (pv 2)) (λfp s H=>eW (i:=0) (show (["_law_number"]:ae).Nodup by decide +kernel) Z (Or.inl Z)) (λfp s H=>ij) (λfp s H=>?te)|0])
 case te=>exact ny (cy (pI (K:=K) w6 jq) (by rfl) B.iP iU %[0,jn (v:=.ty "int") (by rfl) B.int GY Z|0]) (nu (OJ (cy (pI (K:=K) w6 jq) (by rfl) B.iP iU %[0,jn (v:=.ty "bool") (by rfl) B.bool OW Z|0])))
 have pM:∀{x:V} {xs:ag},fu (x::xs) 0\x:=L2.gC (j:=0) Z
 match c,h1,h2,cl with
 |none,h1,h2,_=>
  obtain rfl:v=.non:=h1;obtain rfl:v'=.non:=h2;apply#[_,Z,Z,_,Z,aN (λ_=>?_) (λc=>by simp at c)];exact#[_,Z,_,Z,Z,by simpa using k H (aa.refl H)]
 |some (.inl i),⟨t,l,e,ht,hl⟩,⟨t',l',e',iu,JM⟩,cl=>
  subst e e';have cl:i<=3000:=cl;apply#[_,Z,Z,_,Z,aN (λc=>by simp at c) (λ_=>?_)];apply#[_,Z,Z,_,Z,aN (λc=>by simp at c) (λ_=>?_)];apply#[_,Z,_,_,_,true,Z,.tup ht,Z,_,Z,aN (λc=>by simp at c) (λ_=>?_)];obtain⟨is,ei⟩:∃is:List Int,is=(List.range (i+1)).map λi=>qw hs qs (runM r hs ts qs f i):=#[_,Z];have fS:H l\.lst (is.map V.int):=by rw[hl,ei];rfl
  have ja:H l'\.lst (is.map V.int):=by rw[JM,ei];rfl
  have li:is.length<=3001:=by rw[ei,ay,List.length_range];omega
  apply#[_,Z,_,Z,.inl #[("rest",is),("rest",is),#[t,_,_,Z,.of ht,Z,l,_,Z,.of fS,O4 is],#[t',_,_,Z,.of iu,Z,l',_,Z,.of ja,O4 is],_,Z,aN (λc=>by simp at c) (λ_=>?_)]];apply#[_,Z,_,Z,t,_,Z,ht,λp H1 s1 hp=>?_];lk;apply sk (λσ H'=>∃(q:Addr) (is:List Int),σ=[some (.ref t),some (.ref t'),some (.ref q)]/\aa H H'/\H' q\.tup (is.map V.int)/\is.length<=3001) ?m2 (λN1 qC=>?m1)
  case m1=>
   apply#[_,Z,t',_,_,.str "rest",Z,Z,.of (s1 _ _ iu),pM,Z,_,Z,aN (λ_=>?_) (λc=>by simp at c)];apply#[_,Z,t,_,_,.ref l,Z,Z,.of (s1 _ _ ht),L2.gC (j:=1) Z,l,_,Z,.inl #[.of (s1 _ _ fS),λq nq=>?_]];exact qC _ _ #[q,is,Z,s1.trans (aa.new nq),au,li]
  rintro σ H2 ⟨q,is,rfl,s2,hq,l3⟩;apply#[_,Z,q,Z,#[_,.of hq],λD hD=>?_];apply Vq (own:=1) (fv:=[]) (xs:=is.map V.int) Z dR (λi out H'=>aa H2 H'/\H' D\.lst out/\out=(List.replicate i true).map V.bl) #[aa.new hD,au,Z] (λi out H' _ ⟨sm,_⟩=>.of (sm _ _ hq)) (λout H' ⟨sm,dE,eo⟩=>?_) (λi x out H' hx ⟨sm,dE,eo⟩=>?_)
  ·exact#[D,List.replicate (is.map V.int).length true,Z,.of (by rw[dE,eo]),by simpa using k H' (s2.trans sm)]
  ·obtain⟨z,rfl⟩:∃z:Int,x=.int z:=by
    let#[z,_,e]:=bG.mp (dA hx);exact#[z,e.symm]
   let hi:=(cw.mp hx).1;rw[ay] at hi;apply#[_,Z,Z,λNx hN=>dB ?_];exact#[_,Z,_,_,_,_,Z,.int z,Z,_,Z,dD #[_,Z,_,_,_,_,Z,.int z,Z,_,Z,out,dE,by rw[eo,ay,Aj];omega,hN _ _ #[gU sm hD,au,by rw[eo,List.replicate_succ',cu];rfl]]]
 |some (.inr (j,i)),⟨t,e,ht⟩,⟨t',e',iu⟩,cl=>
  subst e e';apply#[_,Z,Z,_,Z,aN (λc=>by simp at c) (λ_=>?_)];apply#[_,Z,Z,_,Z,aN (λc=>by simp at c) (λ_=>?_)];apply#[_,Z,_,_,_,true,Z,.tup ht,Z,_,Z,aN (λc=>by simp at c) (λ_=>?_)];apply#[_,Z,_,Z,.inr #[[.inr "ring",.inl j,.inl ((i:Int) - j)],[.inr "ring",.inl j,.inl ((i:Int) - j)],#[t,_,Z,.of ht,.cons Z (.cons Z (.cons Z .nil))],#[t',_,Z,.of iu,.cons Z (.cons Z (.cons Z .nil))],_,Z,aN (λc=>by simp at c) (λ_=>?_)]];apply#[_,Z,_,Z,t,_,Z,ht,λp H1 s1 hp=>?_];lk;apply sk (λσ H'=>∃(q:Addr) (is:List Int),σ=[some (.ref t),some (.ref t'),some (.ref q)]/\aa H H'/\H' q\.tup (is.map V.int)/\is.length<=3001) ?m4 (λN1 qC=>?m3)
  case m3=>
   apply#[_,Z,t',_,_,.str "ring",Z,Z,.of (s1 _ _ iu),pM,Z,_,Z,aN (λc=>?_) (λ_=>?_)]
   ·rw[DO Z0] at c;cases c
   exact qC _ _ #[p,[j,(i:Int) - j],Z,s1,hp,by show 2<=3001;decide]
  rintro σ H2 ⟨q,is,rfl,s2,hq,l3⟩;apply#[_,Z,q,Z,#[_,.of hq],λD hD=>?_];apply Vq (own:=1) (fv:=[]) (xs:=is.map V.int) Z dR (λi out H'=>aa H2 H'/\H' D\.lst out/\out=(List.replicate i true).map V.bl) #[aa.new hD,au,Z] (λi out H' _ ⟨sm,_⟩=>.of (sm _ _ hq)) (λout H' ⟨sm,dE,eo⟩=>?_) (λi x out H' hx ⟨sm,dE,eo⟩=>?_)
  ·exact#[D,List.replicate (is.map V.int).length true,Z,.of (by rw[dE,eo]),by simpa using k H' (s2.trans sm)]
  obtain⟨z,rfl⟩:∃z:Int,x=.int z:=by
   let#[z,_,e]:=bG.mp (dA hx);exact#[z,e.symm]
  let hi:=(cw.mp hx).1;rw[ay] at hi;apply#[_,Z,Z,λNx hN=>dB ?_];exact#[_,Z,_,_,_,_,Z,.int z,Z,_,Z,dD #[_,Z,_,_,_,_,Z,.int z,Z,_,Z,out,dE,by rw[eo,ay,Aj];omega,hN _ _ #[gU sm hD,au,by rw[eo,List.replicate_succ',cu];rfl]]]
end
end Ev
namespace L2
open PySem PySem.Spec PyProof.Rows PySem.W
theorem hj_{K:af}{a:Addr}{xs:ag}{g:TG}{tc:TT}{te:TE}{own:Nat}{fv:List aL}{dec:V->Hp->List aL->Prop}{D:Addr}{H:Hp}{Q:VK}{ip:St}(mO:ip=List.replicate own none++fv)(G:yq g own fv dec)(Pv:Nat->ag->Hp->Prop)
  (h0:Pv 0 [] (upd H D (.lst []))) (hl:∀i out H',i<=xs.length->Pv i out H'->dW K H' a xs) (hd:∀out H',Pv xs.length out H'->Q (.ref D) H')
  (uv:∀i x out H',xs[i]? = some x->Pv i out H'->∀t,H' t=none->∃o3,dec (.ref t) (upd H' t (.tup [.int i,x])) o3/\o3.length=own/\∀Nx:Hp->Prop,(∀gm H2,Pv (i+1) gm H2->Nx H2)->
   tc (o3++fv) (upd H' t (.tup [.int i,x])) λb H4=>if b=true then te (o3++fv) H4 λy H5=>∃c_,H5 D\.lst c_/\c_.length<sizeLine/\Nx (upd H5 D (.lst (c_++[y]))) else Nx H4) :
  vR (Ed K a) g tc te ip D H Q:=by
 apply Cr mO G xs.length Pv h0 (λout H' p=>#[#[xs,hl _ _ _ (bo _) p,Z],hd out H' p]) λi out H' hi p=>?_;let q:=hl i out H' (Nat.le_of_lt hi) p;apply#[#[xs,xs[i],q,by simp[hi]],λx H2 y=>?_];let#[t,x,rfl,ht,y,rfl]:=y;exact uv i x out _ (y xs q) p t ht
theorem ir_{lo:Int}{n:Nat}{g:TG}{tc:TT}{te:TE}{own:Nat}{fv:List aL}{dec:V->Hp->List aL->Prop}{D:Addr}{H:Hp}{Q:VK}{ip:St}(mO:ip=List.replicate own none++fv)(G:yq g own fv dec)(Pv:Nat->ag->Hp->Prop)
  (h0:Pv 0 [] (upd H D (.lst []))) (hd:∀out H',Pv n out H'->Q (.ref D) H')
  (uv:∀i out H',i<n->Pv i out H'->∃o3,dec (.int (lo+i)) H' o3/\o3.length=own/\∀Nx:Hp->Prop,(∀gm H2,Pv (i+1) gm H2->Nx H2)->
   tc (o3++fv) H' λb H4=>if b=true then te (o3++fv) H4 λy H5=>∃c_,H5 D\.lst c_/\c_.length<sizeLine/\Nx (upd H5 D (.lst (c_++[y]))) else Nx H4) :
  vR (CJ lo n) g tc te ip D H Q:=by
 apply Cr mO G n Pv h0 (λout H' p=>#[bo _,hd out H' p]) λi out H' hi p=>?_;apply#[hi,λx H2 y=>?_];let#[e,y]:=y;subst e y;exact uv i out _ hi p
end L2
namespace Ev
open PySem L2
def PN(H:Hp)(y:V)(p:Pc):Prop:=p.2.2=none/\∃t,y=.ref t/\H t\.tup [.str p.1,.int p.2.1,.non]
theorem PN.keep{H H':Hp}{y:V}{p:Pc}(h:PN H y p)(k:∀t vs,H t\.tup vs->H' t\.tup vs):PN H' y p:=#[h.1,h.2.elim λt ⟨e,z⟩=>#[t,e,k _ _ z]]
section
variable{P:Ad}{w:Af}{K:af}{mg:Str->Option Aa}{base:Heap}{CG CW:Addr}
abbrev _h:ae:=[gA,"_law_many",BR,"_law_hands","_law_pieces_here",qi]
theorem G2:bx _h zL (aX AX):=bE
def rW(K:af)(CG CW:Addr):Sp:=λvs H Q _=>∃(l:Addr) (m:Nat),vs=[.ref l,.int m]/\m<=30/\ck H l/\∀(t g p d:Addr) (r:Rl) (hs:Xa) (ts:Xb) (qs:aI) (fp:ai) (ns:ae) (f:aj) (H':Hp),aP l H H'->ck H' l->r∈rl->H' t\.tup [.ref g,.ref d,.str r.1]->Wo K CG CW H' g p d hs ts qs fp ns f->d≠l->l∉fp->Q (.ref t) H'
theorem jV_{f0:Addr}{fd:Ae}(F:bj K "_law_row" "_law_row" AX f0 fd)(B:Bi mg)(cD:!aY 1 qF uR wk)(cN:!aY 2 "_law_names" zL KH)(cW:!ik CW 5 "Web" pR (G5 K CW))(cG:!ik CG 7 "Goods" pP (He K CG CW)):!aq a9 9 f0 fd zL (rW K CG CW):=by
 exists F.bL G2;let#[l,m,rfl,Fw,st,k]:=h;let sz:=cn;refine' #[_,ax ?s1 (ax ?s2 (ax ?s3 (ax ?s4 (aH ?s5)))),?kk]
 case s1=>exact bq 2 G2.nd (aQ cN hr %[0,aC|0])
 case' s2=>refine' bq 3 G2.nd (bN GV (iV ["_law_k","_law_name"] 2 [] (Pt (by rfl) B.enum %[uY yf (pv 2) uU (uV aC)|0]) (λfp s H=>?g2) (λfp s H=>ij) (λfp s H=>?e2)) ?b2)
 case g2=>exact Ii (n:=2) (d6 (eW (i:=0) (show (["_law_k","_law_name"]:ae).Nodup by decide +kernel) Z (Or.inl Z)) (d6 (eW (i:=1) (show (["_law_k","_law_name"]:ae).Nodup by decide +kernel) Z (Or.inl Z)) jI))
 case e2=>exact fB %[1,bN gX aC (pv 0)|0]
 case b2=>exact eB %[fB %[bM gL (pv 2) aC,bN gX aC (aQ cD hr %[0,aC|0])|0]|0]
 case' s3=>refine' HU (i:=4) pV 1 [0] G2.nd Z (Or.inl Z) (d5 (aQ cN hr %[0,1|0])) (λfp s H=>eW (i:=0) (show (pV:ae).Nodup by decide +kernel) Z (Or.inl Z)) (λfp s H=>ij) (λfp s H=>?e3)
 case e3=>exact fB %[0,bN gX aC (aQ cD hr %[1,aC|0]),xW|0]
 case' s4=>refine' bq 5 G2.nd (BZ cG hr %[BZ cW hr %[3,?c4|0],4|0])
 case' c4=>refine' iV ["_law_k",BR] 1 [2] (Cn (by rfl) B.range %[aC|0]) (λfp s H=>eW (i:=0) (show (["_law_k",BR]:ae).Nodup by decide +kernel) Z (Or.inl Z)) (λfp s H=>ij) (λfp s H=>?e4)
 case e4=>exact fB %[bM (vJ (K:=K) mJ gL) (pv 1) (pv 0),bM (vJ (K:=K) mJ gL) (pv 1) (bN gX (pv 0) aC)|0]
 case' s5=>refine' bg (fB %[5,iK (Cw Z) (by rfl) B.dict qN %[?c5|0],dI|0])
 case' c5=>refine' iV ["_law_piece",BR] 1 [2] (d5 (pv 4)) (λfp s H=>eW (i:=0) (show (["_law_piece",BR]:ae).Nodup by decide +kernel) Z (Or.inl Z)) (λfp s H=>ij) (λfp s H=>?e5)
 case e5=>exact fB %[bM (vJ (K:=K) mI dz) (pv 0) aC,bM (vJ (K:=K) mJ gL) (pv 1) aC|0]
 apply#[_,Z,l,8,Z,by decide,st,λln ns H1 b1 fo fn NH N=>?_];let n8:=N.len;have vI:ln≠l:=st.ne fn;lk;apply#[_,Z,_,Z,ln,_,Z,.of NH,λp1 S5=>?_];rw[show dS (ns.map V.str) none (some 7)=(ns.take 7).map V.str by rw[List.map_take];exact IE _ 7];let#[s2,e2]:=bp (o:=.lst ((ns.take 7).map V.str)) S5;generalize upd H1 p1 (.lst ((ns.take 7).map V.str))=H2 at s2 e2 ⊢;apply#[p1,Z,#[_,.of e2],λD hD=>?_];apply hj_ (own:=2) (fv:=[]) (xs:=(ns.take 7).map V.str) Z BH (λi out H'=>aa H2 H'/\H' D\.lst out/\∃hs:Xa,bC K H' out (hs.map kH)/\hs.map (·.1)=(ns.take 7).take i/\∀h∈hs,1<=h.2/\h.2<=1000) #[aa.new hD,au,[],.nil,Z,by simp] (λi out H' _ ⟨sm,_⟩=>.of (sm _ _ e2)) (λyh H3 ⟨s3,Du,hs,th,en,gh⟩=>?_) (λi x out H' hx ⟨sm,dE,hs,th,en,gh⟩ t0 _S=>?_);rotate_left 1
 ·let#[n,hn,rfl]:=iT hx
  have hi:i<7:=by
   have:=(cw.mp hn).1;rw[dJ] at this;omega
  let lo:=bH th;let lh:=dF List.length en;rw[ay] at lo;rw[ay,dJ,dJ] at lh;let s4:=aa.new (o:=.tup [.int i,.str n]) _S;apply#[_,#[t0,_,_,Z,.of au,Z],Z,λNx hN=>dB ?_];apply#[_,Z,_,Z,_,_,Z,Z,zl,λt ht=>?_];let s5:=aa.new (o:=.tup [.str n,.int (1+(i:Int))]) ht;let tN:=s4.trans s5;let pA:=tN _ _ dE;apply#[out,pA,by omega,hN _ _ #[gU (sm.trans tN) hD,au,hs++[(n,1+(i:Int))],?_,?_,λh hh=>?_]]
  ·rw[cu];exact iX (wm (th.same tN) au) pA
  ·rw[cu,en,iC hn];rfl
  rcases fL.mp hh with hh|hh
  ·exact gh h hh
  obtain rfl:h=(n,1+(i:Int)):=⇑hh
  exact#[by show 1<=1+(i:Int);omega,by show 1+(i:Int)<=1000;omega]
 rw[ay,eN] at en;obtain⟨n7,e7⟩:∃x,ns[7]? = some x:=#[_,cE Z1];let mE:=s2.trans s3;let iO:=fo.same mE;let Dj:=mE _ _ NH;have Dl:D≠l:=(fo.same s2).ne hD;apply#[_,Z,ln,_,_,.str n7,Z,Z,.of Dj,L2.gC (j:=7) (by rw[dU,e7];rfl),_,Z,l,101,Z,by decide,by decide,iO,λr H4 r0 r1 b4 gI=>#[_,_,Z,Z,zl,λt ht=>#[zl,λq hq=>?_]]];let s5:=aa.new (o:=.tup [.str n7,.int (900+r)]) ht;let s6:=aa.new (o:=.lst [.ref t]) hq;let oR:=s5.trans s6;let ly:=bH th;let lh:=dF List.length en;rw[ay] at ly;rw[ay,dJ] at lh;apply#[D,q,_,_,Z,Z,oR _ _ (b4 _ _ Du Dl),au,by show yh.length+1<=_;omega,λlh Fo=>?_];let s7:=aa.new (o:=.lst (yh++[.ref t])) Fo;let#[RW,pd]:=iO.some;let oQ:=oR.trans s7
 have Jd:bC K (upd (upd (upd H4 t (.tup [.str n7,.int (900+r)])) q (.lst [.ref t])) lh (.lst (yh++[.ref t]))) (yh++[.ref t]) ((hs++[(n7,900+r)]).map kH):=by
  rw[cu];exact wm ((iS th b4 pd).same oQ) (s7 _ _ (s6 _ _ au))
 have N4:upd (upd (upd H4 t (.tup [.str n7,.int (900+r)])) q (.lst [.ref t])) lh (.lst (yh++[.ref t])) lh\.lst (yh++[.ref t]):=au;have zd:lh≠l:=(gI.same oR).ne Fo;generalize upd (upd (upd H4 t (.tup [.str n7,.int (900+r)])) q (.lst [.ref t])) lh (.lst (yh++[.ref t]))=H5 at oQ Jd N4 ⊢;lk;let gP:=gI.same oQ;let hn5:=oQ _ _ (b4 _ _ Dj vI);have z_:aP l H H5:=((b1.trans (aP.of mE)).trans b4).trans (aP.of oQ)
 have eH:(hs++[(n7,900+r)]).map (·.1)=ns:=by
  rw[cu,en];show ns.take 7++[n7]=ns;rw[<- iC e7];exact ym Z1
 have gH:∀h∈hs++[(n7,900+r)],1<=h.2/\h.2<=1000:=λh hh=>by
  rcases fL.mp hh with hh|hh
  ·exact gh h hh
  obtain rfl:h=(n7,900+r):=⇑hh
  exact#[by show 1<=900+r;omega,by show 900+r<=1000;omega]
 have lH:(hs++[(n7,900+r)]).length=8:=by
  have:=dF List.length eH;rw[ay] at this;omega
 generalize hs++[(n7,900+r)]=hs at eH gH lH Jd;generalize yh++[.ref t]=yh at N4 Jd;clear th en gh e7 s2 e2 s3 Du hD mE Dj pd s5 s6 oR ht hq ly s7 Fo gI b4 iO NH S5 Dl b1;apply#[_,Z,_,Z,l,m,Z,Fw,gP,λlm ms H6 b6 gZ nm UE N6=>#[lm,Z,#[_,.of UE],λlp C3=>?_]];have C6:lm≠l:=gP.ne nm;have Bd:lp≠l:=gZ.ne C3;let m6:=N6.len;apply jK (own:=1) (fv:=[some (.ref l)]) (xs:=ms.map V.str) Z dR (λi out H'=>∃ps:aI,aP l H6 H'/\ck H' l/\H' lp\.lst out/\Paired (PN H') out ps/\ps.map (·.1)=ms.take i/\∀q∈ps,1<=q.2.1/\q.2.1<=3/\q.2.2=none) #[[],aP.of (aa.new C3),gZ.same (aa.new C3),au,.nil,Z,by simp] (λi out H' _ ⟨_,b,_⟩=>.of (b _ _ UE C6)) (λyp H7 ⟨ps,b7,jR,Uz,pn,Kb,gp⟩=>?_) (λi x out H' hx ⟨ps,b,stx,JH,pn,Wb,gp⟩=>?_);rotate_left 1
 ·let#[n,hn,rfl]:=iT hx;let hi:=(cw.mp hn).1;let lo:=bH pn;let lps:=dF List.length Wb;rw[ay,dJ] at lps;apply#[_,Z,Z,λNx hN=>dB ?_];apply#[_,Z,_,Z,l,3,Z,by decide,by decide,stx,λr2 H8 q0 q1 b8 wI=>#[_,_,Z,Z,zl,λt ht=>?_]];let s9:=aa.new (o:=.tup [.str n,.int (1+r2),.non]) ht;let#[Ly,vM]:=stx.some;let Df:=s9 _ _ (b8 _ _ JH Bd);have e9:upd H8 t (.tup [.str n,.int (1+r2),.non]) t\.tup [.str n,.int (1+r2),.non]:=au;let vz:=wI.same s9;generalize upd H8 t (.tup [.str n,.int (1+r2),.non])=H9 at s9 Df e9 vz ⊢
  have tp:∀{u:HO} {t:Addr} {vs:ag},H9 t\.tup vs->upd H9 lp u t\.tup vs:=λe=>by
   rw[aA (bX e Df nofun)];exact e
  apply#[out,Df,by omega,hN _ _ #[ps++[(n,1+r2,none)],λb' o e ne=>?_,Vb vz Bd,au,?_,?_,λq hq=>?_]]
  ·rw[aA (bw e C3)];exact s9 _ _ (b8 _ _ (b _ _ e ne) ne)
  ·exact jG (Paired.bF pn λy q z=>z.keep λt vs e=>tp (s9 _ _ (b8 _ _ e (bX e vM nofun)))) (.cons #[Z,t,Z,tp e9] .nil)
  ·rw[cu,Wb,iC hn];rfl
  rcases fL.mp hq with hq|hq
  ·exact gp q hq
  obtain rfl:q=(n,1+r2,none):=⇑hq
  exact#[by show 1<=1+r2;omega,by show 1+r2<=3;omega,Z]
 rw[ay,eN] at Kb;have MI:(ps.map (·.1)).Nodup:=by rw[Kb];exact N6.nd
 have l7:ps.length<=30:=by
  have:=dF List.length Kb;rw[ay] at this;omega
 lk;let Lm:=b6.trans b7;let#[Yo,Bw]:=gP.some;let JP:=Lm _ _ N4 zd;let UB:=Lm _ _ hn5 vI;let Jb:=iS Jd Lm Bw;let RE:=z_.trans Lm;apply#[_,Z,7,Z,by decide,by decide,λlt C0=>?_];apply ir_ (own:=1) (fv:=[some (.ref ln)]) Z dR (λi out H'=>aa H7 H'/\H' lt\.lst out/\∃ts:Xb,bC K H' out (ts.map kT)/\TJ ns i 0 ts) #[aa.new C0,au,[],.nil,#[by simp,.nil,by simp]] (λyt H8 ⟨s8,Bj,ts,tt,tj⟩=>?_) (λi out H' hi ⟨sm,iu,ts,tt,tj⟩=>?_);rotate_left 1
 ·have hi:i<7:=hi;obtain⟨x,hx⟩:∃x,ns[i]? = some x:=#[_,cE Z1];obtain⟨y,hy⟩:∃y,ns[i+1]? = some y:=#[_,cE Z1];let vL:=sm _ _ UB;let lo:=bH tt;let lt':=tj.len;rw[ay] at lo;apply#[_,Z,Z,λNx hN=>dB ?_];apply#[_,Z,_,Z,ln,_,_,.str x,Z,Z,.of vL,by rw[wo];exact L2.gC (by rw[dU,hx];rfl),_,Z,_,Z,_,_,Z,Z,ln,_,_,.str y,Z,Z,.of vL,by rw[show (0:Int)+(i:Int)+1=((i+1:Nat):Int) by omega];exact L2.gC (by rw[dU,hy];rfl),zl,λt ht=>?_];let s9:=aa.new (o:=.tup [.str x,.str y]) ht;let Ur:=s9 _ _ iu;apply#[out,Ur,by omega,hN _ _ #[gU (sm.trans s9) C0,au,ts++[(x,y)],?_,(tj.add N.nd hx hy (.inl Z)).next Z1]];rw[cu];exact iX (wm (tt.same s9) au) Ur
 have tj:TJ ns 7 0 ts:=tj;let gt:=tj.good N.nd N.ok;have Gd:Good hs ts:=#[λh hh=>#[N.ok _ (by rw[<- eH];exact List.mem_map_of_mem hh),gH h hh],by rw[eH];exact N.nd,by omega,by omega,λt ht=>(gt t ht).1,tj.nd,by have:=tj.len;omega,λt ht=>#[by rw[eH];exact (gt t ht).2.1,by rw[eH];exact (gt t ht).2.2]];have SS:Paired (PN H8) yp ps:=Paired.bF pn λ_ _ z=>z.keep λt vs e=>s8 _ _ e;apply TL Gd (s8 _ _ JP) (Jb.same s8) Bj tt (λp bR H9 s9 W fw=>#[_,Z,VU W Gd (s9 _ _ (s8 _ _ Uz)) (Paired.bF SS λ_ q ⟨z0,t,e,z⟩=>#[t,.non,e,s9 _ _ z,by rw[z0];rfl]) (λq hq=>?_) MI Z1 (λg qs fp HA sA GA Qq fr=>?_)])
 ·have hn:q.1∈ms:=by rw[<- Kb];exact List.mem_map_of_mem hq
  exact#[N6.ok _ hn,(gp q hq).1,by have:=(gp q hq).2.1;omega,λws e=>by rw[(gp q hq).2.2] at e;cases e]
 lk;let SJ:=s9.trans sA;let Jn:=s8.trans SJ;let wI:=jR.same s8;let EJ:=jR.same Jn;have SR:Paired (PN HA) yp ps:=Paired.bF SS λ_ _ z=>z.keep λt vs e=>SJ _ _ e;let Uy:=Jn _ _ Uz;let hnA:=Jn _ _ UB;let#[zG,G',sub,has]:=GA.xI
 have lfp:l∉zG:=λz=>by
  let#[xs8,UH]:=wI.some;rcases fr l (sub _ z) with z|z
  ·have:=fw l z;rw[UH] at this;cases this
  rw[s9 _ _ UH] at z;cases z
 obtain⟨n0,e0⟩:∃x,ns[0]? = some x:=#[_,cE Z1];apply#[_,Z,_,Z,lp,Z,#[_,.of Uy],λD nD=>?_];apply jK (own:=1) (fv:=[some (.ref ln)]) (xs:=yp) Z dR (λi out H'=>aa HA H'/\H' D\.lst out/\k4 K H' out (cX ((ps.map (·.1)).take i) λ_=>n0)) #[aa.new nD,au,.nil] (λi out H' _ ⟨sm,_⟩=>.of (sm _ _ Uy)) (λout HB ⟨sB,hDB,pa⟩=>?_) (λi y out H' hy ⟨sm,dE,pa⟩=>?_);rotate_left 1
 ·let#[q,hq,_,t,rfl,ht]:=nX (g:=id) (by rw[List.map_id];exact SR) hy;let hi:=(cw.mp hq).1;let lo:=bH pa;rw[jJ,dJ,ay] at lo;apply#[_,Z,Z,λNx hN=>dB ?_];apply#[_,Z,t,_,_,.str q.1,Z,Z,.of (sm _ _ ht),Z,_,Z,ln,_,_,.str n0,Z,Z,.of (sm _ _ hnA),L2.gC (j:=0) (by rw[dU,e0];rfl),zl,λt2 Bk=>?_];let yQ:=aa.new (o:=.tup [.str q.1,.str n0]) Bk;let GJ:=yQ _ _ dE;have Kk:upd H' t2 (.tup [.str q.1,.str n0]) t2\.tup [.str q.1,.str n0]:=au;apply#[out,GJ,by omega,hN _ _ #[gU (sm.trans yQ) nD,au,?_]];have pD:∀{b:Addr} {ys:ag},upd H' t2 (.tup [.str q.1,.str n0]) b\.tup ys->b≠D:=λhb=>bX hb GJ nofun;rw[iC (show (ps.map (·.1))[i]? = some q.1 by rw[dU,hq];rfl)];show k4 K _ _ (((ps.map (·.1)).take i++[q.1]).map _);rw[cu];exact jG (Paired.bF pa λy kv ⟨b,z,hb⟩=>#[b,z,by rw[aA (pD (yQ _ _ hb))];exact yQ _ _ hb]) (.cons #[t2,Z,by rw[aA (pD Kk)];exact Kk] .nil)
 let MO:=bH SR;rw[MO,show ps.length=(ps.map (·.1)).length from (ay ..).symm,eN] at pa;apply#[D,out,_,Z,hDB,pa,by rw[jJ,ay];omega,λd nd=>?_]
 have o6:((cX (ps.map (·.1)) λ_=>n0).map (·.1)).Nodup:=by
  rw[Hw,pL,qQ];exact MI.imp λn e=>n (h9 e)
 rw[Cp o6];apply#[zl,λt nt=>?_];let sC:=aa.new (o:=.dK (cX (ps.map (·.1)) λ_=>n0)) nd;let sD:=aa.new (o:=.tup [.ref g,.ref d,.str "below one fall"]) nt;let Jm:=sB.trans (sC.trans sD);let#[r',cc,er]:=TU "below one fall" Z0
 have pm:(ps.map (·.1)).Perm (qs.map (·.1)):=by
  rw[Qq.CY];exact (yi _).symm
 let ql:=Qq.len
 have Ap:∀q∈qs,1<=q.2.1/\q.2.1<=1000000000:=λq hq=>by
  let#[q',hq',rfl]:=Qq.mem q hq;exact#[(gp q' hq').1,by have:=(gp q' hq').2.1;show q'.2.1<=_;omega]
 have m0:n0∈hs.map (·.1):=by rw[eH];exact dA e0
 exact k t g p d r' hs ts qs zG (ps.map (·.1)) (λ_=>n0) _ (RE.trans (aP.of (Jn.trans Jm))) (EJ.same Jm) cc (by rw[er];exact au) #[#[G'.same Jm,λm=>(by
  let#[o,e,_]:=has _ m;rw[sB _ _ e] at nd;cases nd),sD _ _ au,#[pm,λ_ _=>m0],λb hb=>by
  let#[o,e,z]:=has b hb;exact#[o,Jm _ _ e,z]],#[Gd,Qq.nd MI,by omega,λ_ _=>m0,λq hq=>#[by have:=(Ap q hq).1;omega,(Ap q hq).2]],by omega,λq hq=>(Ap q hq).1] ((EJ.same sB).ne nd) lfp
end
end Ev
namespace Ev
open PySem L2
theorem Wo.LA{K:af}{CG CW g p d ls:Addr}{H H':Hp}{r:Rl}{hs:Xa}{ts:Xb}{qs:aI}{fp:ai}{ns:ae}{f:aj}{ds:ai}{m n:Nat}(O:Wo K CG CW H g p d hs ts qs fp ns f)(nt:NT H H')(kZ:H' ls\.lst (ds.map V.ref))(ld:ds.length=m+1)(le:m<=n)
  (da:∀(j:Nat) (a:Addr),ds[j]? = some a->H a=none/\a≠ls/\H' a\.dK (cX ns (runM r hs ts qs f j))) (no:∀j:Nat,j<m->gJ r hs ts qs (runM r hs ts qs f j)=false) (fin:m=n∨gJ r hs ts qs (runM r hs ts qs f m)=true):qU K CG CW H' g p ls r hs ts qs fp ns f m n:=by
 apply#[#[ds,kZ,ld,λj a e=>?_],le,no,fin];let#[na,_,ea]:=da j a e;let pm:=O.S.so.perm;apply#[O.S.G.nt nt,λm=>?_,ea,#[pm,λn hn=>(O.W.run r j).at_ n (pm.mem_iff.mp hn)],λb hb=>?_]
 ·let#[o,e',_]:=O.S.has _ m;rw[na] at e';cases e'
 let#[o,e,q]:=O.S.has b hb;exact#[o,nt _ _ e q,q]
section
variable{P:Ad}{w:Af}{K:af}{mg:Str->Option Aa}{base:Heap}{CG CW T1 T2:Addr}
theorem wU:bx [xS] [xS] (aX mr):=bE
inductive Pu (vs:ag) (H:Hp) (Q:VK) (E:XK):Prop
 |mk:∀(v:V) (r:Rl) (hs:Xa) (ts:Xb) (qs:aI) (f:aj) (c:Kd),vs=[v]->p0 r hs ts qs f H v c->Q (.int (hU c:Nat)) H->Pu vs H Q E
theorem iu_{f0:Addr}{fd:Ae}(F:bj K "_law_last" "_law_last" mr f0 fd)(B:Bi mg):!aq a9 1 f0 fd [xS] Pu:=by
 exists F.bL wU;let#[v,r,hs,ts,qs,f,c,rfl,h,k]:=h;refine' #[_,ax ?s1 (ax ?s2 (aH ?s3)),?kk]
 case s1=>exact bO (dj OL (pv 0) xW) (aH (bg aC)) bP
 case s2=>exact bO (dj iy (bM dz (pv 0) aC) dI) (aH (bg (bN zO (cy iL (by rfl) B.len ia %[bM dz (pv 0) aC|0]) aC))) bP
 case s3=>exact bg (bN gX (bM dz (pv 0) aC) (bM dz (pv 0) aC))
 have pM:∀{x:V} {xs:ag},fu (x::xs) 0\x:=L2.gC (j:=0) Z
 match c,h,k with
 |none,h,k=>
  obtain rfl:v=.non:=h;exact#[_,Z,Z,_,Z,aN (λ_=>k) (λc=>by simp at c)]
 |some (.inl i),⟨t,l,e,ht,hl⟩,k=>
  subst e;apply#[_,Z,Z,_,Z,aN (λc=>by simp at c) (λ_=>?_)];apply#[_,Z,t,_,_,.str "rest",Z,Z,.of ht,pM,Z,_,Z,aN (λ_=>?_) (λc=>by simp at c)];apply#[_,Z,t,_,_,.ref l,Z,Z,.of ht,L2.gC (j:=1) Z,l,_,Z,.inl (.of hl),_,_,Z,Z,?_];rw[KM,show ((i+1:Nat):Int) - 1=(i:Int) by omega];exact k
 |some (.inr (j,i)),⟨t,e,ht⟩,k=>
  subst e;apply#[_,Z,Z,_,Z,aN (λc=>by simp at c) (λ_=>?_)];apply#[_,Z,t,_,_,.str "ring",Z,Z,.of ht,pM,Z,_,Z,aN (λc=>?_) (λ_=>?_)]
  ·rw[DO Z0] at c;cases c
  apply#[_,Z,t,_,_,.int j,Z,Z,.of ht,L2.gC (j:=1) Z,_,Z,t,_,_,.int ((i:Int) - j),Z,Z,.of ht,L2.gC (j:=2) Z,_,_,Z,Z,?_];rw[show (j:Int)+((i:Int) - j)=(i:Int) by omega];exact k
abbrev Ru:ae:=[gA,qi,pG,vQ,uN]
theorem oO:bx [gA,qi,pG,vQ,uN,"_law_other","_law_one",xS] Ru (aX A1):=bE
inductive se (K:af) (CG CW T1 T2:Addr) (vs:ag) (H:Hp) (Q:VK) (E:XK):Prop
 |mk:∀(l g p d:Addr) (n:Nat) (hs:Xa) (ts:Xb) (qs:aI) (fp:ai) (ns:ae) (f:aj),∀r∈rl,vs=[.ref l,.ref g,.ref d,.str r.1,.int n]->n<=3000->ck H l->Wo K CG CW H g p d hs ts qs fp ns f->Tb H T1 T2->d≠l->l∉fp->(∀H1 H',aP l H H1->ck H1 l->NT H1 H'->Tb H' T1 T2->Q (.bl true) H')->se K CG CW T1 T2 vs H Q E
theorem lf_{f0:Addr}{fd:Ae}(F:bj K "_law_by_turns" "_law_by_turns" A1 f0 fd)(cR:!aY 2 "_law_rule" BY lL)(x_:!aY 11 "_law_walked" kG (Hy K CG CW T1 T2))(wa:!aY 11 "_law_due" kF (jV P w K CG CW T1 T2))(DY:!aY 11 "paper_of" zN (Ie K CG CW T1 T2))(v_:!aY 1 "_law_right" kD HQ):!aq a9 12 f0 fd Ru (se K CG CW T1 T2):=by
 apply F.ok oO (λvs H Q E h=>?_) (λaO A outer s H vs Q E hr h=>?_)
 ·let#[l,g,p,d,n,hs,ts,qs,fp,ns,f,r,cc,rfl,_]:=h;rfl
 let#[l,g,p,d,n,hs,ts,qs,fp,ns,f,r,cc,rfl,n3,st,O,tb,dl,lfp,k]:=h;refine' ⟨_,ax ?s1 (ax ?s2 (aH (bg xP))),?kk⟩
 case s1=>exact bq 5 oO.nd (aQ cR hr %[0|0])
 case' s2=>refine' eX eM Z (d5 (eB %[5,3,5|0])) (cO 6 oO.nd) (ax ?b1 (aH ?b2))
 case b1=>exact bq 7 oO.nd (aQ wa hr %[1,6,aQ x_ hr %[1,2,6,4|0],4|0])
 case b2=>exact bO (eY (eK (aQ v_ hr %[aQ DY hr %[1,2,6,4|0],7|0]))) eD bP
 apply#[_,Z,l,Z,st,λq H1 hq b1 fo=>?_];lk;let O1:=O.but b1 st dl lfp;let qZ:=tb.but b1 st;apply#[_,Z,_,Z,_,Z,zl,λa na=>?_];let#[s2,e2]:=bp (o:=.lst [.str q.1,.str r.1,.str q.1]) na;let O2:=O1.nt (NT.of s2);let fC:=qZ.nt s2;generalize upd H1 a (.lst [.str q.1,.str r.1,.str q.1])=H2 at s2 e2 O2 fC ⊢;apply#[a,Z,#[_,.of e2],ie (K:=K) (a:=a) (xs:=[.str q.1,.str r.1,.str q.1]) (λi σ H'=>∃v6 v7:aL,σ=[some (.ref l),some (.ref g),some (.ref d),some (.str r.1),some (.int n),some (.str q.1),v6,v7]/\NT H2 H'/\Tb H' T1 T2) #[none,none,Z,NT.refl _,fC] (λi σ H' _ ⟨_,_,_,nt,_⟩=>.of (nt.lst e2)) ?_ ?_];rotate_left 1
 ·rintro σ H3 ⟨v6,v7,rfl,j5,jv⟩;exact k H1 H3 b1 fo ((NT.of s2).trans j5) jv
 rintro i y σ H3 hy ⟨v6,v7,rfl,j5,jv⟩
 obtain⟨x,hx,rfl⟩:∃x∈rl,y=.str x.1:=by
  have:=dA hy;simp only[cU,List.not_mem_nil,or_false] at this;rcases this with rfl|rfl|rfl
  ·exact#[q,hq,Z]
  ·exact#[r,cc,Z]
  exact#[q,hq,Z]
 lk;let O3:=O2.nt j5;apply#[_,Z,_,Z,_,Z,_,Z,_,Z,_,Z,g,p,d,n,hs,ts,qs,fp,ns,f,x,hx,Z,n3,O3,jv,λls ds m H4 b4 fj _ kZ ld le da no fin=>?_];let gg:=b4.nt jv;let Wk:=O3.LA gg kZ ld le da no fin;apply#[_,Z,g,p,ls,m,n,hs,ts,qs,fp,ns,f,x,hx,Z,n3,Wk,O3.W,fj,λv H5 c b5 gO ko kv _=>?_];let tV:=b5.nt fj;lk;let O5:=(O3.nt gg).nt tV;apply#[_,Z,_,Z,_,Z,_,Z,g,p,d,n,hs,ts,qs,fp,ns,f,x,hx,Z,n3,O5.S,O5.W,gO,λv' H6 c' b6 vy C9 zg _=>?_];let mK:=b6.nt gO;obtain rfl:=J3 O5.W ko C9;apply#[_,Z,v',v,x,hs,ts,qs,f,c,Z,zg,kv.nt mK,by have:=KJ ko;omega,λH7 s7=>#[_,Z,a_ ?_]];exact#[_,_,Z,j5.trans (gg.trans (tV.trans (mK.trans (NT.of s7)))),vy.nt s7]
abbrev loN:ae:=[gA,qi,pG,vQ,xS]
theorem G0:bx loN BY (aX tm):=bE
def rT(T1 T2:Addr):Sp:=λvs H Q _=>∃l:Addr,vs=[.ref l]/\ck H l/\Tb H T1 T2/\∀H',NL l H H'->Tb H' T1 T2->Q (.bl true) H'
theorem kK_{f0:Addr}{fd:Ae}(F:bj K "_law_long" "_law_long" tm f0 fd)(cD:!aY 1 qF uR wk)(yc:!aY 9 "_law_row" zL (rW K CG CW))(x_:!aY 11 "_law_walked" kG (Hy K CG CW T1 T2))(wa:!aY 11 "_law_due" kF (jV P w K CG CW T1 T2))(DY:!aY 11 "paper_of" zN (Ie K CG CW T1 T2))(v_:!aY 1 "_law_right" kD HQ):!aq a9 12 f0 fd BY (rT T1 T2):=by
 exists F.bL G0;let#[l,rfl,st,tb,k]:=h;refine' #[_,ax ?s1 (ax ?s2 (aH ?s3)),?kk]
 case s1=>exact DM (aQ yc hr %[0,bN gX aC (aQ cD hr %[0,aC|0])|0]) (pJ Z (d6 (cO 1 G0.nd) (d6 (cO 2 G0.nd) (d6 (cO 3 G0.nd) jI))))
 case s2=>exact bq 4 G0.nd (aQ wa hr %[1,3,aQ x_ hr %[1,2,3,aC|0],aC|0])
 case s3=>exact bg (aQ v_ hr %[aQ DY hr %[1,2,3,aC|0],4|0])
 apply#[_,Z,_,Z,l,3,Z,by decide,by decide,st,λz H1 z0 z1 b1 fo=>#[_,_,Z,Z,?_]];let#[z,rfl]:=qT z0;apply#[l,13+z,Z,by omega,fo,λt g p d r hs ts qs fp ns f H2 b2 eh vK ht O dl lfp=>?_];apply#[t,_,Z,.of ht,Z,_,_,Z,_,_,Z,_,_,Z,Z,?_];let fC:=(tb.but b1 st).but b2 fo;let _X:=(NL.bt b1).trans (NL.bt b2);dsimp only;apply#[_,Z,_,Z,_,Z,_,Z,_,Z,g,p,d,3000,hs,ts,qs,fp,ns,f,r,vK,Z,by decide,O,fC,λls ds m H4 b4 fj _ kZ ld le da no fin=>?_];let gg:=b4.nt fC;let Wk:=O.LA gg kZ ld le da no fin;apply#[g,p,ls,m,3000,hs,ts,qs,fp,ns,f,r,vK,Z,by decide,Wk,O.W,fj,λv H5 c b5 gO ko kv _=>?_];let tV:=b5.nt fj;lk;let O5:=(O.nt gg).nt tV;apply#[_,Z,_,Z,_,Z,g,p,d,3000,hs,ts,qs,fp,ns,f,r,vK,Z,by decide,O5.S,O5.W,gO,λv' H6 c' b6 vy C9 zg _=>?_];let mK:=b6.nt gO;obtain rfl:=J3 O5.W ko C9;exact#[_,Z,v',v,r,hs,ts,qs,f,c,Z,zg,kv.nt mK,KJ ko,λH7 s7=>k H7 (_X.trans (NL.of (gg.trans (tV.trans (mK.trans (NT.of s7)))))) (vy.nt s7)]
end
end Ev
namespace Ev
open PySem L2
section
variable{K:af}{CG CW g p d l ls T1 T2:Addr}{H H':Hp}{r:Rl}{hs:Xa}{ts:Xb}{qs:aI}{fp:ai}{ns:ae}{f:aj}{m n:Nat}
theorem iY.but(S:iY K CG CW H g p d hs ts qs fp ns f)(b:aP l H H'){xs:ag}(hl:H l\.lst xs)(lfp:l∉fp):iY K CG CW H' g p d hs ts qs fp ns f:=#[S.G.keep (λc hc o e=>b _ _ e (λz=>lfp (z▸hc))) (λc zs e=>b _ _ e (bX e hl nofun)),S.je,b _ _ S.hd (bX S.hd hl nofun),S.so,λc hc=>by
 let#[o,e,q]:=S.has c hc;exact#[o,b _ _ e (λz=>lfp (z▸hc)),q]]
theorem qU.but(h:qU K CG CW H g p ls r hs ts qs fp ns f m n)(b:aP l H H'){xs:ag}(hl:H l\.lst xs)(lfp:l∉fp)(ne:ls≠l):qU K CG CW H' g p ls r hs ts qs fp ns f m n:=by
 let#[ds,h1,h2,h3]:=h.ex;exact#[#[ds,b _ _ h1 ne,h2,λj a e=>(h3 j a e).but b hl lfp],h.le,h.no,h.fin]
theorem p0.but{v:V}{c:Kd}(h:p0 r hs ts qs f H v c)(b:aP l H H'){xs:ag}(hl:H l\.lst xs)(ne:∀t l':Addr,v=.ref t->H t\.tup [.str "rest",.ref l']->l'≠l):p0 r hs ts qs f H' v c:=by
 match c,h with
 |some (.inl i),⟨t,l',e,h1,h2⟩=>exact#[t,l',e,b _ _ h1 (bX h1 hl nofun),b _ _ h2 (ne t l' e h1)]
 |some (.inr (j,i)),⟨t,e,h1⟩=>exact#[t,e,b _ _ h1 (bX h1 hl nofun)]
 |none,h=>exact h
theorem p0.lists{P:Addr->Prop}{v:V}{c:Kd}(h:p0 r hs ts qs f H v c)(s:NT H H')(k:∀t l':Addr,v=.ref t->H t\.tup [.str "rest",.ref l']->P l'):∀t l':Addr,v=.ref t->H' t\.tup [.str "rest",.ref l']->P l':=λt l' e e'=>by
 match c,h with
 |some (.inl i),⟨t0,l0,e0,h1,_⟩=>
  rw[e] at e0;cases e0;rw[s.tup h1] at e';cases e';exact k _ _ e h1
 |some (.inr (j,i)),⟨t0,e0,h1⟩=>
  rw[e] at e0;cases e0;rw[s.tup h1] at e';cases e'
 |none,h=>
  rw[show v=.non from h] at e;cases e
theorem Tb.lst(t:Tb H T1 T2)(b:aP l H H'){xs:ag}(hl:H l\.lst xs):Tb H' T1 T2:=by
 have kT:∀{T qn},cg H T qn->cg H' T qn:=λ⟨es,a1,a2⟩=>#[es,b _ _ a1 (λz=>by rw[z,hl] at a1;cases a1),λx hx=>b _ _ (a2 x hx) (λz=>by have:=a2 x hx;rw[z,hl] at this;cases this)];exact#[kT t.a,kT t.b,t.ne]
theorem hM_{c:Kd}(W:Wd hs ts qs f)(h:js r hs ts qs f n c)(k:qU K CG CW H g p ls r hs ts qs fp ns f m n):hU c<=m:=by
 match c,h with
 |some (.inl i),⟨h1,h2,_⟩=>
  rcases k.fin with e|e
  ·rw[e];exact h1
  ·show i<=m;by_cases z:i<=m
   ·exact z
   ·rw[h2 m Z1] at e;cases e
 |some (.inr (j,i)),⟨h1,h2,h3,_,h5⟩=>
  rcases k.fin with e|e
  ·rw[e];exact h1
  ·rw[V2 W h2 h5 h3 m] at e;cases e
 |none,_=>exact gM _
theorem qU.cut(h:qU K CG CW H g p ls r hs ts qs fp ns f m n){o:Nat}(ho:o<=m):∃ds:ai,H ls\.lst (ds.map V.ref)/\∀(G:Hp) (q:Addr),NT H G->G q\.lst ((ds.take (o+1)).map V.ref)->qU K CG CW G g p q r hs ts qs fp ns f o o:=by
 let#[ds,h1,h2,h3]:=h.ex;apply#[ds,h1,λG q nt hq=>#[#[_,hq,by rw[dJ];omega,λj a e=>?_],bo _,λj hj=>h.no j Z1,.inl Z]]
 have e2:ds[j]? = some a:=by
  rw[List.getElem?_take] at e;split at e
  ·exact e
  cases e
 exact (h3 j a e2).nt nt
end
section
variable{P:Ad}{w:Af}{K:af}{mg:Str->Option Aa}{base:Heap}{CG CW T1 T2:Addr}
abbrev lwN:ae:=[xQ,gA,"_law_cell",qi,pG,vQ,uN,"_law_stands",xS,"_law_handed","_law_found","_law_last_here","_law_other","_law_known"]
theorem nJ:bx lwN [xQ] (aX g7):=bE
def oC(K:af)(T1 T2:Addr):Sp:=λvs H Q _=>∃(a:Addr) (ns:List Int),vs=[.ref a]/\Tb H T1 T2/\dW K H a (ns.map V.int)/\ns.length<=63/\∀H',Q (.bl true) H'
theorem lH_{f0:Addr}{fd:Ae}(F:bj K "law" "law" g7 f0 fd)(B:Bi mg)(cC:!aY 1 "_law_cell_at" pQ (r_ K))(cD:!aY 1 qF uR wk)(xZ:!aY 9 "_law_world" vk (oB K CG CW))(x_:!aY 11 "_law_walked" kG (Hy K CG CW T1 T2))(wa:!aY 11 "_law_due" kF (jV P w K CG CW T1 T2))(DY:!aY 11 "paper_of" zN (Ie K CG CW T1 T2))(v_:!aY 1 "_law_right" kD HQ)(Rg:!aY 12 "_law_by_turns" Ru (se K CG CW T1 T2))(Q7:!aY 1 "_law_last" [xS] Pu)(Q5:!aY 12 "_law_long" BY (rT T1 T2)):!aq a9 13 f0 fd [xQ] (oC K T1 T2):=by
 exists F.bL nJ;let#[la,ns,rfl,tb,JJ,h63,k]:=h;let sz:=cn;refine' #[_,ax ?s1 (ax ?s2 (ax ?s3 (aH (bg xP)))),?kk]
 case s1=>exact bq 1 nJ.nd (eB %[aQ cC hr %[0,aC|0]|0])
 case s2=>exact bO (PW.pt (zQ (dj iy (aQ cD hr %[1,aC|0]) aC) (Cj (eY (eK (aQ Q5 hr %[1|0])))))) eD bP
 case' s3=>refine' eX eM Z ?i3 (cO 2 nJ.nd) (ax ?b1 ?c1)
 case i3=>exact d5 (uY yf (bN kA_ (pv 0) (eB %[aC|0])) uU (uV aC))
 case' c1=>refine' ax ?b2 ?c2
 case' c2=>refine' ax ?b3 ?c3
 case' c3=>refine' ax ?b4 ?c4
 case' c4=>refine' ax ?b5 ?c5
 case' c5=>refine' ax ?b6 ?c6
 case' c6=>refine' ax ?b7 ?c7
 case' c7=>refine' ax ?b8 ?c8
 case' c8=>refine' ax ?b9 ?c9
 case' c9=>refine' ax ?ba ?ca
 case' ca=>refine' ax ?bb (aH ?bc)
 case b1=>exact bq 1 nJ.nd (eB %[2|0])
 case b2=>exact DM (aQ xZ hr %[1,aC,aC|0]) (pJ Z (d6 (cO 3 nJ.nd) (d6 (cO 4 nJ.nd) (d6 (cO 5 nJ.nd) jI))))
 case b3=>exact bq 6 nJ.nd (aQ cD hr %[1,aC|0])
 case b4=>exact bq 7 nJ.nd (aQ x_ hr %[3,4,5,6|0])
 case b5=>exact bq 8 nJ.nd (aQ wa hr %[3,5,7,6|0])
 case b6=>exact bq 9 nJ.nd (iK Lj (by rfl) B.dict qN %[4|0])
 case b7=>exact bq 10 nJ.nd (aQ DY hr %[3,9,5,6|0])
 case b8=>exact bO (PW.pt (xM (eY (eK (aQ v_ hr %[10,8|0]))) (xX (dj (jS_ (Nat.lt_of_succ_lt (nC hr 0))) (pv 9) (pv 4))))) eD bP
 case b9=>exact bO (PW.pt (zQ (dj kW_ (pv 10) xW) (Cj (dj iy (bM dz (pv 10) aC) dI)))) (aH (jH (km k7 wc wd u_ (bM dz (pv 10) aC) %[aC|0]))) bP
 case ba=>exact bO (eY (eK (aQ Rg hr %[1,3,4,5,6|0]))) eD bP
 case bb=>exact bq 11 nJ.nd (aQ Q7 hr %[8|0])
 case' bc=>refine' eX eM Z (d5 (eB %[11,cy (QR Z) (by rfl) B.max JZ %[aC,bN zO (pv 11) aC|0]|0])) (cO 12 nJ.nd) (ax ?k1 (aH ?k2))
 case k1=>exact bq 13 nJ.nd (uY yf (pv 7) uU (uV (bN gX (pv 12) aC)))
 case k2=>exact bO (eY (eK (aQ v_ hr %[aQ DY hr %[3,9,5,12|0],aQ wa hr %[3,5,13,12|0]|0]))) eD bP
 apply#[_,Z,la,ns,3,Z,by decide,JJ,λc=>#[zl,λl nl=>?_]];let s1:=aa.new (o:=.lst [.int c]) nl;have fo:ck (upd H l (.lst [.int c])) l:=.inl #[c,au];generalize upd H l (.lst [.int c])=H1 at s1 fo ⊢;lk;apply sk (λσ H'=>NT H H'/\Tb H' T1 T2/\σ=[some (.ref la),some (.ref l),none,none,none,none,none,none,none,none,none,none,none,none]) ?m2 (λN1 qC=>?m1)
 case m1=>
  apply#[_,Z,l,8,Z,by decide,by decide,fo,λz H2 z0 z1 b2 eh=>#[Z,_,Z,?_]];have p9:NT H H2:=(NL.bt b2).nt nl s1;let fC:=(tb.nt s1).but b2 fo;apply aN (λc=>?_) (λc=>?_);rotate_left 1
  ·exact a_ (qC _ _ #[p9,fC,Z])
  exact#[_,Z,l,Z,eh,fC,λH3 _W jv=>#[_,Z,a_ (qC _ _ #[(((NL.bt b2).trans _W)).nt nl s1,jv,Z])]]
 rintro σ H2 ⟨p9,fC,rfl⟩;clear s1 fo nl;apply#[_,Z,zl,λp1 n1=>?_];apply#[la,p1,_,_,Z,Z,lB_ (p9.trans (NT.of (aa.new n1))) JJ,au,by rw[ay];show _+1<=_;omega,λp2 n2=>?_];apply#[_,Z,p2,_,Z,.of au,λp3 n3=>?_];let s3:=((aa.new (o:=.lst [.int 0]) n1).trans (aa.new (o:=.lst (ns.map V.int++[.int 0])) n2)).trans (aa.new (o:=.lst (dS (ns.map V.int++[.int 0]) none (some 3))) n3)
 have FO:∀y∈dS (ns.map V.int++[.int 0]) none (some 3),∃i,y=.int i:=λy hy=>by
  unfold dS at hy;rcases fL.mp (List.mem_of_mem_drop (List.mem_of_mem_take hy)) with hy|hy
  ·let#[i,_,e]:=bG.mp hy;exact#[i,e.symm]
  exact#[0,by simpa using hy]
 generalize dS (ns.map V.int++[.int 0]) none (some 3)=zs at FO s3 ⊢;have e3:upd (upd (upd H2 p1 (.lst [.int 0])) p2 (.lst (ns.map V.int++[.int 0]))) p3 (.lst zs) p3\.lst zs:=au;generalize upd (upd (upd H2 p1 (.lst [.int 0])) p2 (.lst (ns.map V.int++[.int 0]))) p3 (.lst zs)=H3 at s3 e3 ⊢;apply#[p3,Z,#[_,.of e3],ie (K:=K) (a:=p3) (xs:=zs) (λi σ H'=>∃v1 v2 v3 v4 v5 v6 v7 v8 v9 vA vB vC vD:aL,NT H3 H'/\Tb H' T1 T2/\σ=[some (.ref la),v1,v2,v3,v4,v5,v6,v7,v8,v9,vA,vB,vC,vD]) #[_,none,none,none,none,none,none,none,none,none,none,none,none,NT.refl _,fC.nt s3,Z] (λi σ H' _ ⟨_,_,_,_,_,_,_,_,_,_,_,_,_,nt,_⟩=>.of (nt.lst e3)) ?_ ?_];rotate_left 1
 ·exact λσ HX _=>k _
 rintro i y σ H4 hy ⟨v1,v2,v3,v4,v5,v6,v7,v8,v9,vA,vB,vC,vD,gg,fj,rfl⟩;let#[c,rfl]:=FO y (dA hy);lk;apply#[_,Z,zl,λl nl=>?_];let s5:=aa.new (o:=.lst [.int c]) nl;have gP:ck (upd H4 l (.lst [.int c])) l:=.inl #[c,au];let gO:=fj.nt s5;generalize upd H4 l (.lst [.int c])=H5 at s5 gP gO ⊢;lk;apply#[_,Z,l,5,Z,by decide,gP,λt g p d r hs ts qs fp tW f H6 b6 gZ vK ht O dl lfp nd=>?_];apply#[t,_,Z,.of ht,Z,_,_,Z,_,_,Z,_,_,Z,Z,?_];dsimp only;let vy:=gO.but b6 gP;apply#[_,Z,l,25,Z,by decide,by decide,gZ,λn H7 n0 n1' b7 jR=>?_];let#[n,rfl]:=qT n0;lk;let O7:=O.but b7 gZ dl lfp;let vx:=vy.but b7 gZ;let Ta:=(NL.bt b6).trans (NL.bt b7);clear ht nd b6 b7 O vy gP gZ gO;apply#[_,Z,_,Z,_,Z,_,Z,g,p,d,n,hs,ts,qs,fp,tW,f,r,vK,Z,by omega,O7,vx,λls ds m H8 b8 vw C1 kZ ld le da no fin=>?_];lk;let Fh:=b8.nt vx;let RK:=O7.LA Fh kZ ld le da no fin;let O8:=O7.nt Fh;let wI:=jR.nt Fh;let S_:=Ta.trans (NL.of Fh);have lsl:ls≠l:=jR.ne C1;clear C1 b8 kZ ld le da no fin Fh O7 vx jR Ta;apply#[_,Z,_,Z,_,Z,_,Z,g,p,ls,m,n,hs,ts,qs,fp,tW,f,r,vK,Z,by omega,RK,O8.W,vw,λw' H9 kd b9 As ko kv kf=>?_];lk;let Fg:=b9.nt vw;let XZ:=RK.nt Fg;let O9:=O8.nt Fg;let vz:=wI.nt Fg;let S9:=S_.trans (NL.of Fg);let W:=O9.W;have TC:∀t l':Addr,w'=.ref t->H9 t\.tup [.str "rest",.ref l']->l'≠l:=λt l' e e'=>wI.ne (kf t l' e e');clear b9 Fg RK O8 vw wI S_ kf;apply#[_,Z,d,_,Z,.inl O9.S.hd,λdk o6=>?_];let#[sA,eA]:=bp (o:=.dK (cX tW f)) o6;show iA _ _ _ (upd H9 dk (.dK (cX tW f))) _;generalize upd H9 dk (.dK (cX tW f))=HA at sA eA ⊢;lk;let y_:=NT.of sA;let SA:=O9.S.copy y_ o6 eA;let XY:=XZ.nt y_;let OA:=O9.nt y_;let EJ:=vz.nt y_;let S8:=S9.trans (NL.of y_);let LM:=As.nt sA;let Jz:=kv.nt y_;have TB:∀t l':Addr,w'=.ref t->HA t\.tup [.str "rest",.ref l']->l'≠l:=kv.lists (P:=λx=>x≠l) y_ TC;clear o6 XZ O9 vz S9 As kv TC y_;apply#[_,Z,_,Z,_,Z,_,Z,g,p,dk,n,hs,ts,qs,fp,tW,f,r,vK,Z,by omega,SA,W,LM,λv HB kd' bB Sv C9 zg fr=>?_];obtain rfl:=J3 W ko C9;lk;let MA:=bB.nt LM;apply sk (λσ H'=>NT HA H'/\Tb H' T1 T2/\p0 r hs ts qs f H' v kd/\(∀t l':Addr,v=.ref t->H' t\.tup [.str "rest",.ref l']->HA l'=none)/\σ=[some (.ref la),some (.ref l),some (.int c),some (.ref g),some (.ref d),some (.str r.1),some (.int n),some (.ref ls),some w',some (.ref dk),some v,vB,vC,vD]) ?m4 (λN1 qC=>?m3)
 case m3=>
  apply#[_,Z,_,Z,v,w',r,hs,ts,qs,f,kd,Z,zg,Jz.nt MA,by have:=KJ ko;omega,λHC sC=>#[_,Z,a_ ?_]];let j4:=MA.trans (NT.of sC);apply#[_,Z,_,Z,dk,d,tW,f,f,Z,Z,j4.dK eA,j4.dK OA.S.hd,_,Z,aN (λc=>?_) (λ_=>?_)]
  ·rw[kL_] at c;cases c
  exact qC _ _ #[j4,Sv.nt sC,zg.nt (NT.of sC),zg.lists (P:=λx=>HA x=none) (NT.of sC) fr,Z]
 clear MA Sv bB zg fr LM C9;rintro σ HC ⟨j4,Ar,Tz,Vv,rfl⟩;have pM:∀{x:V} {xs:ag},fu (x::xs) 0\x:=L2.gC (j:=0) Z;apply sk (λσ H'=>NT HA H'/\Tb H' T1 T2/\σ=[some (.ref la),some (.ref l),some (.int c),some (.ref g),some (.ref d),some (.str r.1),some (.int n),some (.ref ls),some w',some (.ref dk),some v,vB,vC,vD]) ?m6 (λN1 qC=>?m5)
 case m5=>
  match kd,ko,Tz with
  |none,_,h=>
   obtain rfl:v=.non:=h;exact#[_,Z,Z,_,Z,aN (λc=>by simp at c) (λ_=>a_ (qC _ _ #[j4,Ar,Z]))]
  |some (.inl i),ko,⟨t,l',e,ht,hl⟩=>
   let _Y:=Vv t l' e ht;let i3:=ko.1;subst e;apply#[_,Z,Z,_,Z,aN (λ_=>?_) (λc=>by simp at c)];apply#[_,Z,t,_,_,.str "rest",Z,Z,.of ht,pM,Z,_,Z,aN (λ_=>?_) (λc=>by simp at c)];apply#[_,Z,t,_,_,.ref l',Z,Z,.of ht,L2.gC (j:=1) Z,.inl #[Z,#[_,.of hl]],l',_,_,Z,Z,hl,by rw[KM];omega,qC _ _ #[λb o e n=>?_,Ar.lst aP.upd hl,Z]];rw[aA (bw e _Y)];exact j4 b o e n
  |some (.inr (j,i)),_,⟨t,e,ht⟩=>
   subst e;apply#[_,Z,Z,_,Z,aN (λ_=>?_) (λc=>by simp at c)];apply#[_,Z,t,_,_,.str "ring",Z,Z,.of ht,pM,Z,_,Z,aN (λc=>?_) (λ_=>qC _ _ #[j4,Ar,Z])];rw[DO Z0] at c;cases c
 clear j4 Ar Tz Vv;rintro σ HC ⟨j4,Ar,rfl⟩;let stC:=EJ.nt j4;let#[xsC,JK]:=stC.some;apply#[_,Z,_,Z,_,Z,_,Z,_,Z,l,g,p,d,n,hs,ts,qs,fp,tW,f,r,vK,Z,by omega,stC,OA.nt j4,Ar,dl,lfp,λHD HE bD ZL Ff ZD=>#[_,Z,a_ ?_]];let RJ:=((XY.nt j4).but bD JK lfp lsl).nt Ff;let SE:=((SA.nt j4).but bD JK lfp).nt Ff;let Tx:=((Jz.nt j4).but bD JK (Jz.lists (P:=λx=>x≠l) j4 TB)).nt Ff;let _V:=((S8.trans (NL.of j4)).trans (NL.bt bD)).trans (NL.of Ff);clear j4 Ar stC JK bD ZL Ff XY SA Jz TB S8 OA EJ;apply#[_,Z,w',r,hs,ts,qs,f,kd,Z,Tx,?_];lk;let lm:=hM_ W ko RJ;let mn:=RJ.le;generalize hU kd=o at lm ⊢;clear Tx ko;apply#[_,Z,_,Z,_,_,Z,Z,_,_,Z,?_];obtain⟨o2,eo,lo⟩:∃o2:Nat,(if ((o:Int) - 1) > 0 then (o:Int) - 1 else 0)=(o2:Int)/\o2<=o:=#[o - 1,by split<;>omega,by omega]
 rw[eo];apply#[zl,λa na=>?_];let#[sF,eF]:=bp (o:=.lst [.int o,.int o2]) na;generalize upd HE a (.lst [.int o,.int o2])=HF at sF eF ⊢;let Mz:=NT.of sF;apply#[a,Z,#[_,.of eF],ie (K:=K) (a:=a) (xs:=[.int o,.int o2]) (λi σ H'=>∃vC vD:aL,σ=[some (.ref la),some (.ref l),some (.int c),some (.ref g),some (.ref d),some (.str r.1),some (.int n),some (.ref ls),some w',some (.ref dk),some v,some (.int o),vC,vD]/\NT HF H'/\Tb H' T1 T2) #[_,_,Z,NT.refl _,ZD.nt sF] (λi σ H' _ ⟨_,_,_,nt,_⟩=>.of (nt.lst eF)) ?_ ?_];rotate_left 1
 ·rintro σ HG ⟨wC,wD,rfl,Js,LL⟩;exact#[_,_,_,_,_,_,_,_,_,_,_,_,_,gg.trans ((_V.trans (NL.of (Mz.trans Js))).nt nl s5),LL,Z]
 rintro i y σ HG hy ⟨wC,wD,rfl,Js,LL⟩
 obtain⟨q,hq,rfl⟩:∃q:Nat,q<=m/\y=.int q:=by
  have:=dA hy;simp only[cU,List.not_mem_nil,or_false] at this;rcases this with rfl|rfl
  ·exact#[o,lm,Z]
  exact#[o2,by omega,Z]
 lk;let#[ds,NN,cut]:=RJ.cut hq;apply#[_,Z,_,Z,_,_,Z,Z,_,Z,ls,_,Z,.of ((Mz.trans Js).lst NN),λp4 n4=>?_];rw[show (q:Int)+1=((q+1:Nat):Int) by omega,IE,<- List.map_take];let#[sH,eH]:=bp (o:=.lst ((ds.take (q+1)).map V.ref)) n4;generalize upd HG p4 (.lst ((ds.take (q+1)).map V.ref))=HH at sH eH ⊢;lk;let Fe:=Js.trans (NT.of sH);let SZ:=Mz.trans Fe;let Su:=LL.nt sH;apply#[_,Z,_,Z,_,Z,_,Z,g,p,dk,q,hs,ts,qs,fp,tW,f,r,vK,Z,by omega,SE.nt SZ,W,Su,λv1 HI c1 bI Ss k1 kv1 _=>?_];let My:=bI.nt Su;apply#[_,Z,_,Z,_,Z,_,Z,g,p,p4,q,q,hs,ts,qs,fp,tW,f,r,vK,Z,by omega,cut HI p4 (SZ.trans My) (My.lst eH),W,Ss,λv2 HJ c2 bJ ZC k2 kv2 _=>?_];let SY:=bJ.nt Ss;obtain rfl:=J3 W k1 k2;apply#[v1,v2,r,hs,ts,qs,f,c1,Z,kv1.nt SY,kv2,by have:=KJ k1;omega,λHK sK=>#[_,Z,a_ ?_]];exact#[_,_,Z,Fe.trans (My.trans (SY.trans (NT.of sK))),ZC.nt sK]
end
end Ev
namespace Ev
open PySem L2
structure Fd (K:af) (mg:Str->Option Aa) (x:Str) (st:Stmt):Prop where
 ex:∃f fd,bj K x x st f fd/\mg x\.ref f/\PySem.W.keepIn K (.ref f)=true
theorem GS{K:af}{h:Heap}{mg:Str->Option Aa}{x:Str}{st:Stmt}(X:K.In h)(G:h.Ns mainGlobals mg){f:Addr}{oc:Aa}{od an:Option Addr}{i9:Array (Option Aa)}{kV doc pm aO ct:Aa}(a:PySem.W.nsIn K mainGlobals x\some (.ref f))
  (l:K.lookup f=some #[oc,od,.func (PySem.W.fnOf x x (jj st) (h_ st) (aX st) .none kV doc pm an aO ct),i9]) (c:PySem.W.codeIn K aO x=true) (k:PySem.W.keepIn K (.ref f)=true):Fd K mg x st:=#[_,_,OO l c k,PySem.W.mg_of X G a,k]
structure Md (K:af) (C:Addr) (m qual:Str) (st:Stmt):Prop where
 ex:∃f fd,bj K m qual st f fd/\Meth K C m f
theorem Ft{K:af}{C:Addr}{m qual:Str}{st:Stmt}{f:Addr}{oc:Aa}{od an:Option Addr}{i9:Array (Option Aa)}{kV doc pm aO ct:Aa}(a:PySem.W.findIn K (.ref C) m\some (.ref f))(i:PySem.W.isFn K (.ref f)=true)
  (l:K.lookup f=some #[oc,od,.func (PySem.W.fnOf m qual (jj st) (h_ st) (aX st) .none kV doc pm an aO ct),i9]) (c:PySem.W.codeIn K aO qual=true) (k:PySem.W.keepIn K (.ref f)=true):Md K C m qual st:=#[_,_,OO l c k,a,i,k]
theorem cal{P:Ad}{w:Af}{K:af}{mg:Str->Option Aa}{base:Heap}{x:Str}{st:Stmt}{k:Nat}{ps:ae}{sp:Sp}(d:Fd K mg x st)(ok:∀f fd,bj K x x st f fd->!aq a9 k f fd ps sp)
  (h:∀(kV doc pm:Aa) (an:Option Addr) (aO ct:Aa) (us:ak),us.length=ps.length->bindArgs (PySem.W.fnOf x x (jj st) (h_ st) (aX st) .none kV doc pm an aO ct) #[us,[]]=pure (ps.zip us)):!aY k x ps sp:=by
 let#[f,fd,F,m,kp]:=d.ex;exact#[f,fd,ok f fd F,m,kp,F.binds h]
theorem QO{P:Ad}{w:Af}{K:af}{mg:Str->Option Aa}{base:Heap}{C:Addr}{m qual:Str}{st:Stmt}{k:Nat}{ps:ae}{sp:Sp}(d:Md K C m qual st)(ok:∀f fd,bj K m qual st f fd->!aq a9 k f fd ps sp)
  (h:∀(kV doc pm:Aa) (an:Option Addr) (aO ct:Aa) (us:ak),us.length=ps.length->bindArgs (PySem.W.fnOf m qual (jj st) (h_ st) (aX st) .none kV doc pm an aO ct) #[us,[]]=pure (ps.zip us)):!br C k m ps sp:=by
 let#[f,fd,F,m]:=d.ex;exact#[f,fd,ok f fd F,m,F.binds h]
theorem QP{P:Ad}{w:Af}{K:af}{mg:Str->Option Aa}{base:Heap}{C:Addr}{x qual:Str}{st:Stmt}{k:Nat}{ps:ae}{sp:Sp}(d:Md K C "__init__" qual st)(hx:mg x\.ref C)(mk:PySem.W.makesIn K C=true)(kc:PySem.W.keepIn K (.ref C)=true)(ok:∀f fd,bj K "__init__" qual st f fd->!aq a9 k f fd ps sp)
  (h:∀(kV doc pm:Aa) (an:Option Addr) (aO ct:Aa) (us:ak),us.length=ps.length->bindArgs (PySem.W.fnOf "__init__" qual (jj st) (h_ st) (aX st) .none kV doc pm an aO ct) #[us,[]]=pure (ps.zip us)):!ik C k x ps sp:=by
 let#[f,fd,F,m]:=d.ex;exact#[f,fd,ok f fd F,#[mk,m.1,m.2,kc],hx,F.binds h]
theorem eQ{K:af}{a:Addr}{od:Option Addr}{p q:Str}{x y:Tok}{z:Aa}{u:V}{n:Nat}{sl:Array (Option Aa)}(h:K.lookup a=some #[.type "tuple",od,.seq (List.toArray [.str p x,.str q y,z]) n,sl])(r:RelV u z):∀H,fN K H a [.str p,.str q,u]:=λH=>
 .inr #[_,_,_,h,Z,Z,(show 3<=sizeLine by decide),.cons #[x,Z] (.cons #[y,Z] (.cons r .nil))]
theorem rules_at{K:af}{w:Af}{mg:Str->Option Aa}{d:Addr}{es:Array Ah}{ep:Nat}{t0 t1 t2 t3 t4 t5 t6 t7 t8 t9 Jg Jf SF SC SB Sz Sy:Tok}{b0 b1 b2 b3 b4 b5 b6 b7 b8 b9 kn Lq Lp yj qO Lo zZ:Addr}
  {_O _N _M _L _K _J _I _H _G _F Mw Mu Mt Ms Mr Mq Mp:Option Addr} {x0 y0 n0 v0 x1 y1 n1 v1 x2 y2 n2 v2 x3 y3 n3 v3 x4 y4 n4 v4 x5 y5 n5 v5 x6 y6 n6 v6 x7 y7 n7 v7 x8 y8 n8 v8 x9 y9 n9 v9 YA Yl xh v10 Yz Yk n11 v11 Yy Yj MK Yx Yi MJ Yw Yh n14 YV Yv Yg n15 YU Yu Yf n16 YT:Nat} {Z9 Z8 Ji Z7 Z6 Z5 Z4 Z3 ZZ ZY Mb Ma L_ L9 L8 L7 L6:Array (Option Aa)}
  (m:mg "RULES"\.ref d) (hs:(d == sysModules)=false) (hl:K.lookup d=some #[.type "dict",none,.dict es ep,#[]]) (he:es.toList=J5 w [("least one high",t0,.ref b0),("least one fall",t1,.ref b1),("least one calm",t2,.ref b2),("least all high",t3,.ref b3),("least all fall",t4,.ref b4),("least all calm",t5,.ref b5),("below one high",t6,.ref b6),("below one fall",t7,.ref b7),("below one calm",t8,.ref b8),("below all high",t9,.ref b9),("below all fall",Jg,.ref kn),("below all calm",Jf,.ref Lq),("shares one",SF,.ref Lp),("shares all",SC,.ref yj),("turns high",SB,.ref qO),("turns fall",Sz,.ref Lo),("turns calm",Sy,.ref zZ)])
  (u0:K.lookup b0=some #[.type "tuple",_O,.seq (List.toArray [.str "least" x0,.str "one" y0,.str "high" v0]) n0,Z9])
  (u1:K.lookup b1=some #[.type "tuple",_N,.seq (List.toArray [.str "least" x1,.str "one" y1,.str "fall" v1]) n1,Z8])
  (u2:K.lookup b2=some #[.type "tuple",_M,.seq (List.toArray [.str "least" x2,.str "one" y2,.str "calm" v2]) n2,Ji])
  (u3:K.lookup b3=some #[.type "tuple",_L,.seq (List.toArray [.str "least" x3,.str "all" y3,.str "high" v3]) n3,Z7])
  (u4:K.lookup b4=some #[.type "tuple",_K,.seq (List.toArray [.str "least" x4,.str "all" y4,.str "fall" v4]) n4,Z6])
  (u5:K.lookup b5=some #[.type "tuple",_J,.seq (List.toArray [.str "least" x5,.str "all" y5,.str "calm" v5]) n5,Z5])
  (u6:K.lookup b6=some #[.type "tuple",_I,.seq (List.toArray [.str "below" x6,.str "one" y6,.str "high" v6]) n6,Z4])
  (u7:K.lookup b7=some #[.type "tuple",_H,.seq (List.toArray [.str "below" x7,.str "one" y7,.str "fall" v7]) n7,Z3])
  (u8:K.lookup b8=some #[.type "tuple",_G,.seq (List.toArray [.str "below" x8,.str "one" y8,.str "calm" v8]) n8,ZZ])
  (u9:K.lookup b9=some #[.type "tuple",_F,.seq (List.toArray [.str "below" x9,.str "all" y9,.str "high" v9]) n9,ZY])
  (Zt:K.lookup kn=some #[.type "tuple",Mw,.seq (List.toArray [.str "below" YA,.str "all" Yl,.str "fall" v10]) xh,Mb])
  (Zs:K.lookup Lq=some #[.type "tuple",Mu,.seq (List.toArray [.str "below" Yz,.str "all" Yk,.str "calm" v11]) n11,Ma])
  (Zr:K.lookup Lp=some #[.type "tuple",Mt,.seq (List.toArray [.str "shares" Yy,.str "one" Yj,.none]) MK,L_])
  (Zq:K.lookup yj=some #[.type "tuple",Ms,.seq (List.toArray [.str "shares" Yx,.str "all" Yi,.none]) MJ,L9])
  (Zo:K.lookup qO=some #[.type "tuple",Mr,.seq (List.toArray [.str "turns" Yw,.str "all" Yh,.str "high" YV]) n14,L8])
  (Zn:K.lookup Lo=some #[.type "tuple",Mq,.seq (List.toArray [.str "turns" Yv,.str "all" Yg,.str "fall" YU]) n15,L7])
  (Zm:K.lookup zZ=some #[.type "tuple",Mp,.seq (List.toArray [.str "turns" Yu,.str "all" Yf,.str "calm" YT]) n16,L6]) :
  Kq K w mg d [b0,b1,b2,b3,b4,b5,b6,b7,b8,b9,kn,Lq,Lp,yj,qO,Lo,zZ]:=by
 apply#[m,Z,#[hs,?_,[("least one high",t0,.ref b0),("least one fall",t1,.ref b1),("least one calm",t2,.ref b2),("least all high",t3,.ref b3),("least all fall",t4,.ref b4),("least all calm",t5,.ref b5),("below one high",t6,.ref b6),("below one fall",t7,.ref b7),("below one calm",t8,.ref b8),("below all high",t9,.ref b9),("below all fall",Jg,.ref kn),("below all calm",Jf,.ref Lq),("shares one",SF,.ref Lp),("shares all",SC,.ref yj),("turns high",SB,.ref qO),("turns fall",Sz,.ref Lo),("turns calm",Sy,.ref zZ)],_,es,ep,hl,#[Z,Z,Z],Z,he,?_],?_]
 ·rw[Wv Z];exact hD_
 ·exact .cons #[Z,Z] (.cons #[Z,Z] (.cons #[Z,Z] (.cons #[Z,Z] (.cons #[Z,Z] (.cons #[Z,Z] (.cons #[Z,Z] (.cons #[Z,Z] (.cons #[Z,Z] (.cons #[Z,Z] (.cons #[Z,Z] (.cons #[Z,Z] (.cons #[Z,Z] (.cons #[Z,Z] (.cons #[Z,Z] (.cons #[Z,Z] (.cons #[Z,Z] (.nil)))))))))))))))))
 exact .cons (eQ u0 #[_,Z]) (.cons (eQ u1 #[_,Z]) (.cons (eQ u2 #[_,Z]) (.cons (eQ u3 #[_,Z]) (.cons (eQ u4 #[_,Z]) (.cons (eQ u5 #[_,Z]) (.cons (eQ u6 #[_,Z]) (.cons (eQ u7 #[_,Z]) (.cons (eQ u8 #[_,Z]) (.cons (eQ u9 #[_,Z]) (.cons (eQ Zt #[_,Z]) (.cons (eQ Zs #[_,Z]) (.cons (eQ Zr Z) (.cons (eQ Zq Z) (.cons (eQ Zo #[_,Z]) (.cons (eQ Zn #[_,Z]) (.cons (eQ Zm #[_,Z]) (.nil)))))))))))))))))
structure Tg (P:Ad) (w:Af) (b:Heap):Prop where
theorem bV{P:Ad}{w:Af}{K:af}{mg:Str->Option Aa}{base:Heap}{x:Str}{st:Stmt}{k:Nat}{ps:ae}{sp:Sp}(q:Tg P w base)(d:Fd K mg x st)(ok:∀f fd,bj K x x st f fd->!aq a9 k f fd ps sp)(h:∀(kV doc pm:Aa) (an:Option Addr) (aO ct:Aa) (us:ak),us.length=ps.length->bindArgs (PySem.W.fnOf x x (jj st) (h_ st) (aX st) .none kV doc pm an aO ct) #[us,[]]=pure (ps.zip us):=by first|(exact λ_ _ _ _ _ _ us (hl:us.length=1)=>match us,hl with | [_],_=>rfl)|(exact λ_ _ _ _ _ _ us (hl:us.length=2)=>match us,hl with | [_,_],_=>rfl)|(exact λ_ _ _ _ _ _ us (hl:us.length=3)=>match us,hl with | [_,_,_],_=>rfl)|(exact λ_ _ _ _ _ _ us (hl:us.length=4)=>match us,hl with | [_,_,_,_],_=>rfl)|(exact λ_ _ _ _ _ _ us (hl:us.length=5)=>match us,hl with | [_,_,_,_,_],_=>rfl)|(exact λ_ _ _ _ _ _ us (hl:us.length=0)=>match us,hl with | [],_=>rfl)):!aY k x ps sp:=cal d ok h
theorem mY{P:Ad}{w:Af}{K:af}{mg:Str->Option Aa}{base:Heap}{C:Addr}{m qual:Str}{st:Stmt}{k:Nat}{ps:ae}{sp:Sp}(q:Tg P w base)(d:Md K C m qual st)(ok:∀f fd,bj K m qual st f fd->!aq a9 k f fd ps sp)(h:∀(kV doc pm:Aa) (an:Option Addr) (aO ct:Aa) (us:ak),us.length=ps.length->bindArgs (PySem.W.fnOf m qual (jj st) (h_ st) (aX st) .none kV doc pm an aO ct) #[us,[]]=pure (ps.zip us):=by first|(exact λ_ _ _ _ _ _ us (hl:us.length=1)=>match us,hl with | [_],_=>rfl)|(exact λ_ _ _ _ _ _ us (hl:us.length=2)=>match us,hl with | [_,_],_=>rfl)|(exact λ_ _ _ _ _ _ us (hl:us.length=3)=>match us,hl with | [_,_,_],_=>rfl)|(exact λ_ _ _ _ _ _ us (hl:us.length=4)=>match us,hl with | [_,_,_,_],_=>rfl)|(exact λ_ _ _ _ _ _ us (hl:us.length=5)=>match us,hl with | [_,_,_,_,_],_=>rfl)|(exact λ_ _ _ _ _ _ us (hl:us.length=0)=>match us,hl with | [],_=>rfl)):!br C k m ps sp:=QO d ok h
theorem QQ{P:Ad}{w:Af}{K:af}{mg:Str->Option Aa}{base:Heap}{C:Addr}{x qual:Str}{st:Stmt}{k:Nat}{ps:ae}{sp:Sp}(q:Tg P w base)(d:Md K C "__init__" qual st)(hx:mg x\.ref C)(mk:PySem.W.makesIn K C=true)(kc:PySem.W.keepIn K (.ref C)=true)(ok:∀f fd,bj K "__init__" qual st f fd->!aq a9 k f fd ps sp)(h:∀(kV doc pm:Aa) (an:Option Addr) (aO ct:Aa) (us:ak),us.length=ps.length->bindArgs (PySem.W.fnOf "__init__" qual (jj st) (h_ st) (aX st) .none kV doc pm an aO ct) #[us,[]]=pure (ps.zip us):=by first|(exact λ_ _ _ _ _ _ us (hl:us.length=1)=>match us,hl with | [_],_=>rfl)|(exact λ_ _ _ _ _ _ us (hl:us.length=2)=>match us,hl with | [_,_],_=>rfl)|(exact λ_ _ _ _ _ _ us (hl:us.length=3)=>match us,hl with | [_,_,_],_=>rfl)|(exact λ_ _ _ _ _ _ us (hl:us.length=4)=>match us,hl with | [_,_,_,_],_=>rfl)|(exact λ_ _ _ _ _ _ us (hl:us.length=5)=>match us,hl with | [_,_,_,_,_],_=>rfl)|(exact λ_ _ _ _ _ _ us (hl:us.length=0)=>match us,hl with | [],_=>rfl)):!ik C k x ps sp:=QP d hx mk kc ok h
theorem l1_(r:Rl)(hs:Xa)(ts:Xb)(qs:aI)(f:aj)(h:Str)(W:Wd hs ts qs f):(uS r hs ts qs f h).length<=1000:=by
 unfold uS;split
 ·exact nQ (i0_ r hs ts qs f h) (by decide)
 split
 ·exact nQ (gY_ r hs ts qs f h W) (by decide)
 exact gb_ r hs ts qs f h W
theorem all_mk{l:W.OpenLaw}{w:Af}{K:af}{h:Heap}{mg:Str->Option Aa}{fa CW CG CS d fl fh fr c1 c2 T1 T2:Addr}{QN:Aa}{as:ai}(X:K.In h)(G:h.Ns mainGlobals mg)(hfa:mg "law"\.ref fa)
  (f0:Fd K mg "is_whole" wY)
  (f1:Fd K mg "is_whole_from" KI)
  (f2:Fd K mg "is_whole_within" lX)
  (f3:Fd K mg "is_name" sX)
  (f4:Fd K mg "lesser_first" Pa)
  (f5:Fd K mg "is_pair_of_names" sV)
  (f6:Fd K mg "sorted_ties" Pj)
  (f7:Fd K mg "greatest_divisor" Mg)
  (f8:Fd K mg "least_multiple" Mf)
  (f9:Fd K mg "is_hand_with_strength" tE)
  (f10:Fd K mg "checked_strengths" AV)
  (f11:Fd K mg "checked_ties" sS)
  (f12:Fd K mg "neighbours_of_all" sW)
  (f13:Fd K mg "checked_ways" mD)
  (f14:Fd K mg "checked_piece" Pw)
  (f15:Fd K mg "checked_pieces" Qr)
  (f16:Fd K mg "checked_stand" PF)
  (f17:Fd K mg "loads_at" P4)
  (f18:Fd K mg "multiple_of_strengths" sY)
  (f19:Fd K mg "levels_at" OY)
  (f20:Fd K mg "is_rule" Px)
  (f21:Fd K mg BU lW)
  (f22:Fd K mg "fits" tH)
  (f23:Fd K mg "heaviest_move" AY)
  (f24:Fd K mg "moves_by_least" P2)
  (f25:Fd K mg "moves_by_below" Qp)
  (f26:Fd K mg "share_moves" AW)
  (f27:Fd K mg "moves_by_shares" Rh)
  (f28:Fd K mg "moves_from" H_)
  (f29:Fd K mg "ties_anew" tK)
  (f30:Fd K mg "first_row_without" Rj)
  (f31:Fd K mg "moves_by_turns" Qh)
  (f32:Fd K mg "moves_seen" jX)
  (f33:Fd K mg BQ Pz)
  (f34:Fd K mg "checked_moments" QX)
  (f35:Fd K mg "moves_of" P7)
  (f36:Fd K mg "rows_by" O6)
  (f37:Fd K mg "rests_at" Qj)
  (f38:Fd K mg "at_rest" PP)
  (f39:Fd K mg "sum_at" l_)
  (f40:Fd K mg "placed_after" mi)
  (f41:Fd K mg "sums_of" PJ)
  (f42:Fd K mg "run_of" me)
  (f43:Fd K mg "paper_of" mj)
  (f44:Fd K mg "sum_of" l8)
  (f45:Fd K mg "_law_cell_at" tJ)
  (f46:Fd K mg qF mC)
  (f47:Fd K mg "_law_names" mq)
  (f48:Fd K mg "_law_web" tw)
  (f49:Fd K mg "_law_ways" sR)
  (f50:Fd K mg "_law_pieces" Pm)
  (f51:Fd K mg "_law_stand" ma)
  (f52:Fd K mg "_law_rule" sU)
  (f53:Fd K mg "_law_world" lV)
  (f54:Fd K mg "_law_walked" Py)
  (f55:Fd K mg "_law_mark" s_)
  (f56:Fd K mg "_law_due" AZ)
  (f57:Fd K mg "_law_right" mh)
  (f58:Fd K mg "_law_by_turns" A1)
  (f59:Fd K mg "_law_last" mr)
  (f60:Fd K mg "_law_row" AX)
  (f61:Fd K mg "_law_long" tm)
  (m0:Md K CW "__init__" "Web.__init__" tD)
  (m1:Md K CW "has_hand" "Web.has_hand" wZ)
  (m2:Md K CW "hands" "Web.hands" mz)
  (m3:Md K CW "strength" "Web.strength" P0)
  (m4:Md K CW "neighbours" "Web.neighbours" ml)
  (m5:Md K CW "are_tied" "Web.are_tied" sT)
  (m6:Md K CW "ties" "Web.ties" lZ)
  (m7:Md K CW "most_neighbours" "Web.most_neighbours" sZ)
  (m8:Md K CW "turns" "Web.turns" lY)
  (m9:Md K CG "__init__" "Goods.__init__" mB)
  (m10:Md K CG "has_piece" "Goods.has_piece" tG)
  (m11:Md K CG "names" "Goods.names" Pr)
  (m12:Md K CG "weight" "Goods.weight" Ql)
  (m13:Md K CG "may_go" "Goods.may_go" tF)
  (m14:Md K CS "__init__" "Sight.__init__" md)
  (m15:Md K CS "lead" "Sight.lead" tq)
  (m16:Md K CS "joint_strength" "Sight.joint_strength" mw)
  {_Q TF Xe SU Xq:Aa} {_D XW:Option Addr} {ZW:Array (Option Aa)} {_R kVh dch _w cth:Aa} {_E anh:Option Addr} {ZX:Array (Option Aa)} {_P kVr dcr _v ctr:Aa} {_C anr:Option Addr} {ZV:Array (Option Aa)} {t8 t9 Jg Jf:Tok}
  (al:W.nsIn K mainGlobals "law"\some (.ref fl)) (ll:K.lookup fl=some #[_Q,_D,.func (W.fnOf "law" "law" (jj g7) (h_ g7) (aX g7) .none TF Xe SU XW QN Xq),ZW]) (cl:W.codeIn K QN "law"=true) (kl:W.keepIn K (.ref fl)=true) (ah:W.nsIn K mainGlobals qK\some (.ref fh)) (lh:K.lookup fh=some #[_R,_E,.func (W.fnOf qK qK (jj iF) (h_ iF) (aX iF) .none kVh dch _w anh (.ref c1) cth),ZX]) (hW:W.codeIn K (.ref c1) qK=true) (kh:W.keepIn K (.ref fh)=true) (h1:W.codeHdIn K c1 T1=true) (aW:W.nsIn K mainGlobals "Web"\some (.ref CW)) (aG:W.nsIn K mainGlobals "Goods"\some (.ref CG)) (aS:W.nsIn K mainGlobals "Sight"\some (.ref CS)) (ar:W.findIn K (.ref CS) BN\some (.ref fr)) (ir:W.isFn K (.ref fr)=true) (lr:K.lookup fr=some #[_P,_C,.func (W.fnOf BN "Sight.rising_neighbours" (jj vT) (h_ vT) (aX vT) .none kVr dcr _v anr (.ref c2) ctr),ZV]) (_j:W.codeIn K (.ref c2) "Sight.rising_neighbours"=true) (kr:W.keepIn K (.ref fr)=true) (h2:W.codeHdIn K c2 T2=true) (c8_:W.nsIn K mainGlobals "MOST_LETTERS"\some (.int 8 t8)) (c9_:W.nsIn K mainGlobals "MOST_HANDS"\some (.int 8 t9)) (Rm:W.nsIn K mainGlobals "MOST_STRENGTH"\some (.int 1000 Jg)) (Rk:W.nsIn K mainGlobals "MOST_WEIGHT"\some (.int 1000000000 Jf)) (YF:W.plainGet K CW Str.empty=true) (YM:W.hasDictIn K CW=true) (YE:W.plainOver K CW=true) (YD:W.findIn K (.ref CW) "__setattr__"\some (.builtin "object.__setattr__")) (YK:W.makesIn K CW=true) (YL:W.keepIn K (.ref CW)=true) (YJ:W.findIn K (.ref CW) vU\none) (YI:W.findIn K (.ref CW) "sorted_pairs"\none) (YH:W.findIn K (.ref CW) B8\none) (gpg:W.plainGet K CG Str.empty=true) (ghd:W.hasDictIn K CG=true) (gpo:W.plainOver K CG=true) (gsa:W.findIn K (.ref CG) "__setattr__"\some (.builtin "object.__setattr__")) (gmk:W.makesIn K CG=true) (gkc:W.keepIn K (.ref CG)=true) (gn0:W.findIn K (.ref CG) "web"\none) (gn1:W.findIn K (.ref CG) qL\none) (gn2:W.findIn K (.ref CG) B2\none) (ZO:W.plainGet K CS Str.empty=true) (_b:W.hasDictIn K CS=true) (ZN:W.plainOver K CS=true) (ZM:W.findIn K (.ref CS) "__setattr__"\some (.builtin "object.__setattr__")) (ZT:W.makesIn K CS=true) (_a:W.keepIn K (.ref CS)=true) (ZS:W.findIn K (.ref CS) "wares"\none) (ZR:W.findIn K (.ref CS) iR\none) (ZQ:W.findIn K (.ref CS) pK\none) (ZP:W.findIn K (.ref CS) B7\none) (iha:W.findIn K (.ref CW) "__class__"\some (.builtin "object.__class__")) (ihn:W.specialIn K (.builtin "object.__class__") "__get__"\some (.builtin "getset_descriptor.__get__")) (itk:W.takesIn K (.builtin "object.__class__")\true) (imo:W.mroIn K CW (.type "object")\true) (Eh:W.nsIn K mainGlobals "sum"\none) (z0:W.nsIn K mainGlobals "isinstance"\none) (z1:W.nsIn K mainGlobals "int"\none) (z2:W.nsIn K mainGlobals "bool"\none) (z3:W.nsIn K mainGlobals "str"\none) (z4:W.nsIn K mainGlobals "tuple"\none) (z5:W.nsIn K mainGlobals "list"\none) (z6:W.nsIn K mainGlobals "dict"\none) (z7:W.nsIn K mainGlobals "len"\none) (z8:W.nsIn K mainGlobals "all"\none) (z9:W.nsIn K mainGlobals "sorted"\none) (Yc:W.nsIn K mainGlobals "max"\none) (Yb:W.nsIn K mainGlobals "range"\none) (Ya:W.nsIn K mainGlobals "any"\none) (X_:W.nsIn K mainGlobals "enumerate"\none) (X9:W.nsIn K mainGlobals "min"\none) (X8:W.nsIn K mainGlobals "abs"\none) (R:Kq K w mg d as) :
  ∃fd:Ae,(∀(s:Ab) (v:Aa),BindsTo s fd #[[v],[]] [(xQ,v)])/\(∀T'∈[T2,T1],isCodeTable h T')/\∀base:Heap,K.In base->base.Ns mainGlobals mg->(∀T'∈[T2,T1],base.BuiltinsAt mg T')->aq l.prog w K mg base a9 13 fa fd [xQ] (oC K T1 T2):=by
 let e:=hfa.symm.trans (W.mg_of X G al);cases e;have B:Bi mg:=#[ki X G z0,ki X G z1,ki X G z2,ki X G z3,ki X G z4,ki X G z5,ki X G z6,ki X G z7,ki X G z8,ki X G z9,ki X G Yc,ki X G Yb,ki X G Ya,ki X G X_,ki X G X9,ki X G X8];have TW:Txt K mg CW:=#[#[YF,YM,YE,YD],YJ,YI,YH];have TG:dM K CG:=#[#[gpg,ghd,gpo,gsa],gn0,gn1,gn2];have TS:gE K CS:=#[#[ZO,_b,ZN,ZM],ZS,ZR,ZQ,ZP];have IW:IU K CW:=#[iha,ihn,itk,imo];let FL:=OO (st:=g7) ll cl kl;have FH:kQ K qK qK iF fh c1 _:=#[#[_,_,_,_,_,_,_,_,Z,lh,hW],kh];have FR:kQ K BN "Sight.rising_neighbours" vT fr c2 _:=#[#[_,_,_,_,_,_,_,_,Z,lr,_j],kr];apply#[W.fnOf "law" "law" (jj g7) (h_ g7) (aX g7) .none TF Xe SU XW QN Xq,λs v=>.of_eq Z,λT' Dt=>?_,λbase KB _ uz=>?_]
 ·have cd:∀{c T0:Addr},W.codeHdIn K c T0=true->isCodeTable h T0:=λ{c _} z=>by
   let#[o,IX,file,tf,flags,tg,inF,text,tt,q1,q2,q3,q4,_]:=W.codeHd_of_K X z;exact#[c,o,IX,q1,q2,q3,q4]
  have Dt:T'=T2∨T'=T1:=⇑Dt
  rcases Dt with rfl|rfl
  ·exact cd h2
  exact cd h1
 have q:Tg l.prog w base:=⟨⟩;let Ij:=bV q f0 λ_ _ F=>lh_ F B;let uK:=bV q f2 λ_ _ F=>j8_ F Ij;let QT:=bV q f1 λ_ _ F=>hs_ F Ij;let uP:=bV q f3 λ_ _ F=>kY_ F B (W.mg_of X G c8_);let Cg:=bV q f4 λ_ _ F=>hL_ F;let Ia:=bV q f5 λ_ _ F=>jP_ F B uP;let zU:=bV q f6 λ_ _ F=>hR_ F B Ia Cg;let Ik:=bV q f9 λ_ _ F=>jT_ F B uP uK (W.mg_of X G Rm);let cStr:=bV q f10 λ_ _ F=>l7_ F B Ik (W.mg_of X G c9_);let HR:=bV q f11 λ_ _ F=>kj_ F B zU;let Ic:=bV q f12 λ_ _ F=>kT_ F Cg;let HP:=QQ q m0 (W.mg_of X G aW) YK YL λ_ _ F=>kf_ F TW B cStr HR Ic;let Ba:=mY q m1 λ_ _ F=>lI_ F TW B;let Fv:=mY q m1 λ_ _ F=>kO_ F TW B;let i_:=mY q m2 λ_ _ F=>ip_ F TW B;let xj:=mY q m3 λ_ _ F=>fa_ F TW Ba;let Fu:=mY q m4 λ_ _ F=>iG_ F TW B Ba;let zc:=mY q m5 λ_ _ F=>jl_ F TW Fv;let Re:=bV q f13 λ_ _ F=>im_ F TW zU zc;let cCP:=bV q f14 λ_ _ F=>if_ F B uP uK Re (W.mg_of X G Rk);let Rf:=bV q f15 λ_ _ F=>gn_ F B cCP;let uQ:=QQ q m9 (W.mg_of X G aG) gmk gkc λ_ _ F=>j4_ F TG TW IW B (W.mg_of X G aW) Rf;let BI:=mY q m10 λ_ _ F=>kN_ (CW:=CW) F TG B;let uD:=mY q m11 λ_ _ F=>hh_ (CW:=CW) F TG B;let g0:=mY q m12 λ_ _ F=>gu_ (CP:=CW) F TG BI;let GN:=mY q m13 λ_ _ F=>k9_ (CP:=CW) F TG TW BI zc Cg;let cGd:=bV q f7 λ_ _ F=>lU_ F;let cLM:=bV q f8 λ_ _ F=>lS_ F cGd;let XH:=bV q f16 λ_ _ F=>h9_ F B TG TW BI Ba uD;let Ih:=bV q f17 λ_ _ F=>gj_ F B TG TW i_ g0;let cMu:=bV q f18 λ_ _ F=>k6_ F TW cLM i_ xj;let K1:=bV q f19 λ_ _ F=>i8_ F TG TW Ih cMu xj;have Rb:aY l.prog w K mg base 6 qK kj (oG K CG CW T1):=#[_,_,lm_ FH B TG TW (W.codeHd_of_K KB h1) (uz T1 Z2) i_ g0,W.mg_of X G ah,kh,FH.fn.binds (λ_ _ _ _ _ _ us (hl:us.length=2)=>match us,hl with | [_,_],_=>rfl)];let ni:=QQ q m14 (W.mg_of X G aS) ZT _a λ_ _ F=>jc_ F TS Ih K1 Rb;let Jl:=mY q m15 λ_ _ F=>jY_ F TS TG TW xj;let SI:=mY q m16 λ_ _ F=>jp_ F TS TG TW xj;have SH:br l.prog w K mg base CS 4 BN jF (GU K CS CG CW T2):=#[_,_,kq_ FR B TS TG TW (W.codeHd_of_K KB h2) (uz T2 Z2) Fu,#[ar,ir,kr],FR.fn.binds (λ_ _ _ _ _ _ us (hl:us.length=2)=>match us,hl with | [_,_],_=>rfl)];let cIR:=bV q f20 λ_ _ F=>ic_ F B R;let KY:=bV q f21 λ_ _ F=>iN_ F R cIR;let cFi:=bV q f22 λ_ _ F=>ki_ F;let Ra:=bV q f23 λ_ _ F=>lt_ F TS TG Jl SI cFi g0 GN;let cBL:=bV q f24 λ_ _ F=>gp_ F TS SH Ra;let cBB:=bV q f25 λ_ _ F=>g2_ F TS SH Jl Ra;let mMo:=mY q m7 λ_ _ F=>kk_ F TW B;let QY:=bV q f26 λ_ _ F=>lw_ F TS TG TW Jl SI mMo g0 GN;let cBS:=bV q f27 λ_ _ F=>eP_ F TS TG TW Fu Jl QY;let cMF:=bV q f28 λ_ _ F=>g0_ (fY_ F cBL) (go_ F cBB) (gl_ F cBS);let cAn:=bV q f29 λ_ _ F=>k5_ F;let mTi:=mY q m6 λ_ _ F=>j9_ F TW cAn;let yc:=bV q f30 λ_ _ F=>ls_ F B;let MM:=mY q m8 λ_ _ F=>jd_ F B TW mTi yc;let cBT:=bV q f31 λ_ _ F=>fT_ F B TS TG TW MM Ra;let yb:=bV q f32 λ_ _ F=>iD_ (kU_ F TS TG TW (λr z=>z) l1_ KY i_ cMF) (il_ F KY cBT);let ya:=bV q f33 λ_ _ F=>gC_ F KY XH;let DZ:=bV q f34 λ_ _ F=>eS_ F QT;let Q3:=bV q f35 λ_ _ F=>hX_ F ya ni yb DZ;let HY:=bV q f36 λ_ _ F=>i9_ F B TW KY MM;let HZ:=bV q f37 λ_ _ F=>io_ F B TG ni yb HY;let HW:=bV q f38 λ_ _ F=>it_ F ya HZ;let HS:=bV q f39 λ_ _ F=>iE_ F (ki X G Eh) Ih K1;let XA:=bV q f40 λ_ _ F=>j3_ F B ni yb;let Q9:=bV q f0 λ_ _ F=>kn_ F B;let QV:=bV q f1 λ_ _ F=>gf_ F Q9;let Im:=bV q f45 λ_ _ F=>ko_ F B;let jf:=bV q f46 λ_ _ F=>iy_ F B;let Cf:=bV q f47 λ_ _ F=>ig_ F B jf;let cLW:=bV q f48 λ_ _ F=>kw_ F B jf Cf;let cLY:=bV q f49 λ_ _ F=>kD_ F B jf;let cLP:=bV q f50 λ_ _ F=>hF_ F B jf Cf cLY;let cLS:=bV q f51 λ_ _ F=>iP_ F B jf;let XF:=bV q f52 λ_ _ F=>kM_ F jf;let xZ:=bV q f53 λ_ _ F=>iR_ F cLW cLP cLS XF HP uQ;let cSO:=bV q f44 λ_ _ F=>iS_ F XH HS;let cSs:=bV q f41 λ_ _ F=>h5_ F B ya DZ XA HS;let QZ:=bV q f42 λ_ _ F=>ke_ F B TG ya QV HY HZ XA;let Ce:=bV q f43 λ_ _ F=>ja_ F QZ cSs;let x_:=bV q f54 λ_ _ F=>hC_ F B HW Q3;let Q4:=bV q f55 λ_ _ F=>kC_ F B TG TW MM uD;let wa:=bV q f56 λ_ _ F=>lq_ F B HW cSO Q4;let v_:=bV q f57 λ_ _ F=>iA_ F B;let Rg:=bV q f58 λ_ _ F=>lf_ F XF x_ wa Ce v_;let Q7:=bV q f59 λ_ _ F=>iu_ F B;let yc:=bV q f60 λ_ _ F=>jV_ F B jf Cf HP uQ;let Q5:=bV q f61 λ_ _ F=>kK_ F jf yc x_ wa Ce v_;exact lH_ FL B Im jf xZ x_ wa Ce v_ Rg Q7 Q5
theorem Vl{H:Hp}{T:Addr}{q:Str}(h:H T\.tbl #[]):cg H T q:=#[[],h,λe he=>by cases he]
theorem walk{l:PySem.W.OpenLaw}{q:Ad}{loose:ae}{XP:(Str->Option Aa)->Heap->Prop}{d:DefRec}{K:Params->af}{as:ai}{T1 T2:Addr}{Kg:∀P:Params,as=(K P).map (·.1)}(hn:l.most\63)(ux:d.params.defaults=[])(FU:([T2,T1].all λT=>!as.contains T)=true)(ne:T1≠T2)
  (F:∀(w:Af) (mg:Str->Option Aa) (fa:Addr) (h:Heap),(K w.params).In h->h.Ns mainGlobals mg->mg d.name\.ref fa->
   ∃fd:Ae,(∀(s:Ab) (u:Aa),BindsTo s fd #[[u],[]] [(xQ,u)])/\(∀T'∈[T2,T1],isCodeTable h T')/\∀base:Heap,(K w.params).In base->base.Ns mainGlobals mg->(∀T'∈[T2,T1],base.BuiltinsAt mg T')->aq l.prog w (K w.params) mg base a9 13 fa fd [xQ] (oC (K w.params) T1 T2)) :
  PySem.W.WalkO q loose XP (PySem.W.kmHook K as Kg [T2,T1]).says l.row.toRowW d [] (λf vs=>PySem.call f vs):=
 L2.qY (n:=63) (k:=13) (x:=xQ) (CX:=λ_=>a9) (sp:=λw=>oC (K w.params) T1 T2) hn (by decide) ux #[Z,by decide,by decide] FU F (λ_ _ a ns hl hT hS=>#[a,ns,Z,#[Vl (hT T1 Z2),Vl (hT T2 Z2),ne],hS,hl,λ_=>rfl]) λ_ _ _ _ _ z=>z
end Ev
namespace PySem.W.Fast
universe tw6225384504288614401 tw8827325521133727745 tw4362478819075685506 tw17264190064409110851 tw11254628086698166310 tw16139826871342512358 tw9825602997125452230 tw3338702120952295334 tw14052224541060749095 tw6961486057399941927 tw1696719215191278984 tw7961970471807432456 tw7288791419252459209 tw10106865569592991593 tw8743564691797064810 tw9711178017787729066 tw8979558077416739114 tw1662830152983028010 tw1062084173288043307 tw5046324819305577355 tw1841670570111420397 tw1134354621265093775 tw4964747985625884879 tw8425473138483150704 tw96533624284354321 tw9496217148605587474 tw3363863593891537523 tw12782664336823313876 tw1022370920910493653 tw15665115039694820630 tw2315862046957692151 tw7456626674005199831 tw15245317226792221880 tw15454249033714409272 tw17085703611858817273 tw4792149314327904761 tw12891533782745942651 tw8188644304167540989 tw9040942700717386141 tw17454914920877412061 tw11427670019170783487 tw16162137180280651037 tw10450179286819030205 tw8981102671015683346 tw14657435282364314555 tw7729381518449752398 tw9323084300205425099 tw16141922288322286935 tw4271056308161452759 tw18334215268423773498 tw12399768234879972543 tw10192261211613633603 tw3574958157166680512 tw8581524780191155975 tw5025249559877907408 tw13976621311661031094 tw12714238724541456135 tw17988694698397836715 tw559044900245572436 tw718196758646364358 tw10362090496256550202 tw15105265077975574846 tw6164966143887996663 tw14869839585261551506 tw7439032357892917460 tw5917647264301757232 tw13717852010258501809 tw5184893358539410220 tw4086175612916951499 tw13656234610858577005 tw10020096290935283766 tw8163817854745611906 tw16124234657143089785 tw12076492066655770855 tw7974713617592266984 tw18234230386478569991 tw14941310871815567183 tw7978123106781738777 tw9443935425949714839 tw10427198608477750034 tw9763785321020520732 tw16774198182696785002 tw12455125160634432272 tw801902858899712348 tw14468405966409838788 tw14905378182428990298 tw1292471197588397389 tw12947692573820252247 tw10839146051800217299 tw637865771109366121 tw12821148920819698999 tw16217259340089340973 tw6968761897481571496 tw9302813602211399314 tw551981194727543651 tw11426235666252219777 tw6762510500529663204 tw7531752100403789842 tw5788849312054459543 tw13441660804623480265 tw12388112464512847815 tw8172474849578333410 tw10950645180938289596 tw10573416255246304978 tw7916926190507639278 tw1339038385018237610 tw4097204874885389575 tw5403594450408323181 tw6796496371091397114 tw4949470212785765692 tw10330988602055404559 tw4333770007765880646 tw9075909813180554545 tw12407471961268068650 tw2411709684405659836 tw12484833988248097100 tw4764754695129844007 tw17471783318337798347 tw14837629700633824391 tw12758556139963651261 tw13329680006534466521 tw13369763808870983883 tw14976373129486148799 tw13119683934647727457 tw500534457301318602 tw9602431277111377787 tw7047237263197401985 tw3211591008509764831 tw2547064313501835046 tw10517736339233750081 tw15213713686369825956 tw824479930931529347 tw10240827433676824368 tw17250116855155525850 tw1056132489242891055 tw1966136168659870617 tw9813597960310442315 tw15058142882993465798 tw13007983911593844492 tw7741220214963597116 tw15605169062505799134 tw2338297925615674893 tw12134917979083275496 tw9459569354599927221 tw13911174582526367752 tw18144194922547278471 tw9732203231380004642 tw2351810098895427909 tw17172178744713087169 tw14633742150002125369 tw16482596999500541229 tw18097828459708728052 tw12382084388162333197 tw6598141302161317040 tw1886555626193764169 tw15786050838876043638 tw12403698117562411522 tw7176095286186254613 tw2898904969925329823 tw6261082490578133778 tw16509172690094856158 tw16621835329364211268 tw1377469340796959323 tw9115731208684974821 tw17662097169319844326 tw17981122905870574522 tw17914263439629812976 tw2816709022628898997 tw1346931534583834136 tw8261512759782904705 tw15924754232932315526 tw10480549404214653208 tw17254722325147254172 tw16340329231881514498 tw16459522431125547256 tw12400304159630708497 tw14724782029547195597 tw11597570481055143660 tw9866497416127273112 tw13395166386422050352 tw4068532308326793211 tw1906636363063047847 tw11863689794169219824 tw2723493980685747699 tw3687677740898269144 tw16336128190024968720 tw15971722498668591523 tw10815940144572610580 tw14936773101839917499 tw1332119249068363684 tw6657399148932991798 tw4811135823692290211 tw15576201841503867987 tw1209072198612364309 tw2199334197173470213 tw6122044899593335590 tw5860979440561157505 tw5180624470115458954 tw6580806004420050738 tw5956441203902088820 tw4362715289277389607 tw8556543203176946121 tw7879621485686023003 tw1167131578819443758 tw10805139684650956400 tw4519213965347161852 tw14000560734510226220 tw5821043359284661258 tw7194297447716121613 tw9884261031688245138 tw17215569180733810386 tw9362213025302734453 tw15700456729957244667 tw5130792111540080260 tw752648301010615669 tw18216860339767307991 tw9966518259655193254 tw17283240365052090060 tw2949184940305693302 tw16633545589243432361 tw11130489325916790893 tw5898127004509830647 tw2774533769234893390 tw1546037045760447306 tw2923022283301060179 tw17614209249444862660 tw7248317602604449104 tw16738363494579043157 tw3071115331212207033 tw13611427126322850839 tw13559403210669634250 tw18003896605958980775 tw6224461236801553797 tw14435966573639516748 tw3877482632632866892 tw12468925228686076 tw7955895322790334610 tw15885098556858101092 tw8035238945944270771 tw9650517075240458262 tw9936778630050951644 tw5589629096706248889 tw12789051979367983258 tw17989599138124119252 tw1071097635199111532 tw13652337391279005228 tw6887153615007723100 tw14509114387332365108 tw246333656766034357 tw11496966873584022042 tw15187546892862411696 tw4374109951003019484 tw349105354635352373 tw9201627874432060971 tw3768114062427223671 tw8151146721349783317 tw6005869171551569601 tw10425372149864935948 tw16427784032775137312 tw8623709161212765738 tw15685880312018411216 tw12662124593271891249 tw11794281845038445811 tw7734659520001588100 tw18265917540250096062 tw13036309092505424017 tw2864534595577334551 tw7225407779308613905 tw129119938292032982 tw14261118882146462540 tw7210850453487598349 tw6655693000502011322 tw27117309416743333 tw5507949786690524155 tw10456685914817295115 tw2232812287680299238 tw16523812027217181962 tw5910787668604886198 tw2613547725833081570 tw7047101174416220778 tw11444642606899085755 tw5894739038507660532 tw9672518000134007388 tw3104590685355311246 tw15631587942282905102 tw10281451337422170092 tw4850259713867190059 tw13044578871206591034 tw13665790485544388947 tw2494895733915206069 tw603171549904594011 tw4536045384948365040 tw1049064994565077837 tw9582082362887969834 tw6736558820124849892 tw1760114894817933479 tw737238063855229896 tw8635392886173284925 tw415999015166429961 tw18080018378663616598 tw6817364827389722439 tw13401640905402361957 tw7222101423622505573 tw3624599995351342842 tw10344747860925712210 tw5159090324178545303 tw15532431665220565549 tw16783638191957176574 tw8801605037745875853 tw4250364090820183521 tw17882898679524839566 tw5913243712995093125 tw15804681070518425397 tw11579759082926430118 tw15429584799989201869 tw9883617735654252120 tw6187520090063338739 tw14994785233108896813 tw6741370203144068800 tw15473921876071121281 tw8671799228511323504 tw2260941108388238911 tw3418739799671863450 tw15409070831492888186 tw14271526748198401288 tw3446600812933883026 tw1423605917661616690 tw12754700920376851860 tw16681371778229958500 tw12884014077384345421 tw16513260554482255544 tw7739333553857983211 tw2690409447005343135 tw9172686869278911328 tw10819788563047678242 tw18144629384466066956 tw18247324274960051122 tw9643548989505838144 tw2973052195636449824 tw7856812565909227348 tw16657530553339776242 tw984357894440985300 tw7576854229627197978 tw1118336278756481191 tw9298174164420572708 tw2074550126162996336 tw11642813792210563973 tw6480495212379765473 tw11858406589124630658 tw6439485066802193443 tw5916170380659228430 tw18172853820754354769 tw13724141390541053803 tw18074238051452589979 tw6841765453078298760 tw1131333803863243515 tw3383548642811869616 tw13223123044952861886 tw5889391308764649411 tw6008343632835659159 tw7214560044724837460 tw5765640241489113446 tw14042289235934578637 tw12941725754067349633 tw3299071643095311058 tw7103274977358392149 tw5503794484802286794 tw18273909921383641239 tw3929210140201153670 tw15759068703696118933 tw2586809046595728712 tw6150279448699771602 tw18093919664244338972 tw17493599153130872483 tw10950396448347997711 tw8943690843516083940 tw16897204834051201169 tw5281870355254847591 tw15691613694228795170 tw14722189784198029554 tw3054504767693168789 tw16608806825998507331 tw17063741883524891011 tw9499037508446719953 tw15173348723374605812 tw11468927302755040199 tw7307802828315729956 tw18433522505002731324 tw5487342400941178589 tw6880220665440468842 tw5733245323436581818 tw4412661732459344327 tw8285959020189406703 tw16477527338512083474 tw11110802885813792505 tw5375020084559399262 tw10052986498451386355 tw10421954274033600306 tw15992118111728985297 tw4815787410147051480 tw4857085082007568704 tw17316156974150231327 tw6559108645864834974 tw13660346299223074171 tw13484254710695495228 tw15724881493879854530 tw6154537463694563563 tw17630799838432994885 tw3166773743243892874 tw16102841004130107821 tw90807777646877671 tw3813432383549757570 tw2190770874882776281 tw10725468207938082049 tw2439500539920844341 tw14083436010336433994 tw383337435153327135 tw6458576514368055385 tw15336126361582323891 tw2784533810544968274 tw9218246160684792155 tw2546195492596005522 tw2544746544329862841 tw12964453797633461105 tw16433013245155340826 tw1307201720795271612 tw17249316554599587795 tw7121255175661533068 tw16960391672669686182 tw11807004082415275587 tw7459294454937153033 tw9920608770945034600 tw9071207918418882322 tw16594393912742033624 tw12233201993218518962 tw16056220860846337341 tw14906744713560200259 tw6969136897989227538 tw7647240157168632569 tw6629525296915102191
end PySem.W.Fast
open PySem PySem.W PyProof.Rows
set_option maxRecDepth 100000 in
local macro_rules|`(%[|$k:num])=>let i:=Lean.mkIdent;if k.getNat==1 then`(Ev.GS $(i `KX) $(i `G) ?_ ?_ ?_ ?_)else`(Ev.Ft ?_ ?_ ?_ ?_ ?_)
theorem PySem.Challenge.cw_evenpieces_k51_papers_told_holds : PySem.Challenge.rw_evenpieces_k51_papers_told.Holds := by
 w_on;o_law;k_head;(case hw=>w_witness2)
 k_fill
 apply Ev.walk (l:=PySem.Challenge.rw_evenpieces_k51_papers_told) rfl rfl (by rfl) (by decide) ?F
 case F=>
  intro w mg fa h KX G hmg;refine' Ev.all_mk KX G hmg %[|1] %[|1] %[|1] %[|1] %[|1] %[|1] %[|1] %[|1] %[|1] %[|1] %[|1] %[|1] %[|1] %[|1] %[|1] %[|1] %[|1] %[|1] %[|1] %[|1] %[|1] %[|1] %[|1] %[|1] %[|1] %[|1] %[|1] %[|1] %[|1] %[|1] %[|1] %[|1] %[|1] %[|1] %[|1] %[|1] %[|1] %[|1] %[|1] %[|1] %[|1] %[|1] %[|1] %[|1] %[|1] %[|1] %[|1] %[|1] %[|1] %[|1] %[|1] %[|1] %[|1] %[|1] %[|1] %[|1] %[|1] %[|1] %[|1] %[|1] %[|1] %[|1] %[|2] %[|2] %[|2] %[|2] %[|2] %[|2] %[|2] %[|2] %[|2] %[|2] %[|2] %[|2] %[|2] %[|2] %[|2] %[|2] %[|2] ?_ ?_ ?_ ?_ ?_ ?_ ?_ ?_ ?h1 ?aW ?aG ?aS ?_ ?_ ?_ ?_ ?_ ?h2 ?_ ?_ ?_ ?_ ?_ ?_ ?_ ?_ ?_ ?_ ?_ ?_ ?_ ?_ ?_ ?_ ?_ ?_ ?_ ?_ ?_ ?_ ?_ ?_ ?_ ?_ ?_ ?_ ?_ ?_ ?_ ?_ ?_ ?_ ?_ ?_ ?_ ?_ ?_ ?_ ?_ ?_ ?_ ?_ ?_ ?_ ?_ ?_ ?_ ?_ ?_ ?_ ?_ (Ev.rules_at ?rm ?rs ?rl ?re ?_ ?_ ?_ ?_ ?_ ?_ ?_ ?_ ?_ ?_ ?_ ?_ ?_ ?_ ?_ ?_ ?_)
  (case aW=>k_is);(case aG=>k_is);(case aS=>k_is)
  any_goals k_is
  (case h1=>kernel_rfl);(case h2=>kernel_rfl)
  case' rm=>refine' PySem.W.mg_of KX G ?rmn
  (first|(case rmn=>k_is)|(case rm=>k_is))
  (try (case rl=>k_is))
  (case rs=>rfl)
  (case re=>rfl)
  any_goals k_is

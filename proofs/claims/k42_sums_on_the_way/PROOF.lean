import PyProof.Rows.All
import Wide.All
import OpenK.AllK
import Wide.FinOn
import Lean
import PyProof.EqAt
import PyProof.EqKinds
import PyProof.TupleCall
import PyProof.FitsReplace
import KE.KLam
import KE.KSortTup
import PySem.Challenge.RW_evenpieces_k42_sums_on_the_way
set_option maxHeartbeats 0
set_option Elab.async false
set_option linter.all false
noncomputable section
local macro_rules|`(def $x:declId $s:optDeclSig $v:declVal)=>`(noncomputable def $x:declId $s:optDeclSig $v:declVal)
local macro_rules|`(abbrev $x:declId $s:optDeclSig $v:declVal)=>`(noncomputable abbrev $x:declId $s:optDeclSig $v:declVal)
local macro_rules|`(universe $x*)=>return Lean.mkNullNode (←x.mapM λa=>do return(←`(theorem $a:ident:True:=⟨⟩)).raw)
abbrev Xa:=List (PySem.Str × Int)
abbrev Xb:=List (PySem.Str × PySem.Str)
set_option compiler.extract_closed false
set_option maxRecDepth 100000
theorem cO:type_of% @PySem.Heap.get?_push_of_some:=@PySem.Heap.get?_push_of_some
abbrev Aa:=PySem.Value
theorem aP:type_of% @PySem.wpAny_bind:=@PySem.wpAny_bind
abbrev Ab:=PySem.Shared
theorem bK:type_of% @PySem.Paired.length:=@PySem.Paired.length
theorem au:type_of% @if_neg:=@if_neg
theorem cw:type_of% @decide_eq_true:=@decide_eq_true
theorem aB:type_of% @if_pos:=@if_pos
theorem dM:type_of% @PySem.PassesOwn.never:=@PySem.PassesOwn.never
abbrev Ad:=PySem.FuncData
abbrev Ae:=PySem.Program
theorem gO:type_of% @PySem.F.plainAttrs_list:=@PySem.F.plainAttrs_list
theorem fI:type_of% @PySem.Heap.get?_push_size:=@PySem.Heap.get?_push_size
theorem dU:type_of% @decide_eq_false:=@decide_eq_false
theorem eK:type_of% @Option.some.inj:=@Option.some.inj
theorem cK:type_of% @PySem.Heap.lt_size:=@PySem.Heap.lt_size
theorem cc:type_of% @PySem.sizeLine_eq:=@PySem.sizeLine_eq
theorem bR:type_of% @PySem.wpAny_pure:=@PySem.wpAny_pure
theorem kC:type_of% @PySem.F.type_list_append:=@PySem.F.type_list_append
theorem kB:type_of% @PySem.F.slot_list_append:=@PySem.F.slot_list_append
abbrev Af:=PySem.World
theorem ma:type_of% @PySem.W.mg_none_of:=@PySem.W.mg_none_of
abbrev Ag:=PySem.Around
theorem l_:type_of% @of_decide_eq_true:=@of_decide_eq_true
theorem dQ:type_of% @congrArg:=@congrArg
theorem mO:type_of% @decide_eq_true_eq:=@decide_eq_true_eq
theorem jJ:type_of% @PySem.boot_len:=@PySem.boot_len
theorem rX:type_of% @PySem.mem_of_lookup:=@PySem.mem_of_lookup
theorem ik:type_of% @Sum.inr.inj:=@Sum.inr.inj
theorem xm:type_of% @PySem.Heap.get?_update_other:=@PySem.Heap.get?_update_other
theorem sO:type_of% @PySem.wpAny_loadPart':=@PySem.wpAny_loadPart'
theorem vN:type_of% @PySem.wpAny_truthy_bool:=@PySem.wpAny_truthy_bool
theorem o5:type_of% @List.cons.inj:=@List.cons.inj
theorem vM:type_of% @PySem.W.kia_one:=@PySem.W.kia_one
theorem MG:type_of% @Int.mul_nonpos_of_nonpos_of_nonneg:=@Int.mul_nonpos_of_nonpos_of_nonneg
theorem Z0{p:Prop}[Decidable p](h:decide p=true:=by decide +kernel):p:=of_decide_eq_true h
theorem Z1{p:Prop}(h:p:=by omega):p:=h
theorem Z2{p:Prop}(h:p:=by simp):p:=h
local macro_rules|`(tactic|let $x:ident:=$e)=>`(tactic|have $x:ident:=$e)
local macro_rules|`($a\$b)=>`($a=some $b)
local macro_rules|`(⇑$h)=>`(by simpa using $h)
local macro_rules|`(tactic|exists $e)=>let i:=Lean.mkIdent;`(tactic|refine $e λ$(i `aR) $(i `A) $(i `outer) $(i `s) $(i `H) $(i `vs) $(i `Q) $(i `E) $(i `hr) $(i `h)=>?_)
local macro_rules|`(section v)=>let i:=Lean.mkIdent;return Lean.mkNullNode #[←`(section),←`(variable{$(i `P):ident:$(i `Ae)}{$(i `w):ident:$(i `Af)}{$(i `K):ident:$(i `af)}{$(i `mg):ident:$(i `Str)->$(i `Option) $(i `Aa)}{$(i `base):ident:$(i `Heap)})]
local macro_rules|`(tactic|apply $e)=>`(tactic|refine $e)
local macro_rules|`(#[$x,$xs,*])=>`(⟨$x,$xs,*⟩)
local macro_rules|`(tactic|let $p:term:=$e)=>let g:=λ(x:Lean.Syntax)=>(if x.isIdent then`(rcasesPat|$(⟨x⟩):ident) else if x.isOfKind ``Lean.Parser.Term.hole then`(rcasesPat|_) else pure ⟨x⟩:Lean.MacroM (Lean.TSyntax `rcasesPat));p.raw.rewriteBottomUpM (λn=>if n.isOfKind `«term#[_,]» then n[1].getSepArgs.mapM (λx=>g x>>=λy=>`(Lean.Parser.Tactic.rcasesPatLo|$y:rcasesPat))>>=λs=>`(rcasesPat|⟨$s,*⟩)>>=λt=>pure t.raw else pure n)>>=λq=>`(tactic|obtain $(⟨q⟩):rcasesPat:=$e)
theorem Z{α:Sort _}{a:α}:a=a:=rfl
abbrev af:=PySem.W.Frag
theorem ao:type_of% @List.length_map:=@List.length_map
theorem cq:type_of% @List.getElem?_eq_some_iff:=@List.getElem?_eq_some_iff
theorem dB:type_of% @List.getElem?_eq_getElem:=@List.getElem?_eq_getElem
theorem cj:type_of% @List.mem_of_getElem?:=@List.mem_of_getElem?
theorem bh:type_of% @List.mem_map:=@List.mem_map
theorem dJ:type_of% @List.mem_cons_of_mem:=@List.mem_cons_of_mem
theorem bq:type_of% @Nat.le_refl:=@Nat.le_refl
theorem cZ:type_of% @List.mem_cons_self:=@List.mem_cons_self
theorem bY:type_of% @List.map_append:=@List.map_append
theorem cX:type_of% @List.length_take:=@List.length_take
theorem dG:type_of% @List.size_toArray:=@List.size_toArray
theorem dR:type_of% @List.getElem?_map:=@List.getElem?_map
theorem dz:type_of% @List.take_length:=@List.take_length
theorem eA:type_of% @List.length_append:=@List.length_append
theorem bX:type_of% @List.mem_cons:=@List.mem_cons
theorem cm:type_of% @List.map_map:=@List.map_map
theorem eJ:type_of% @List.map_cons:=@List.map_cons
theorem hJ:type_of% @Bool.false_ne_true:=@Bool.false_ne_true
theorem fR:type_of% @List.mem_append:=@List.mem_append
theorem iw:type_of% @List.take_add_one:=@List.take_add_one
theorem eV:type_of% @Nat.ne_of_lt:=@Nat.ne_of_lt
theorem hG:type_of% @List.append_nil:=@List.append_nil
theorem jw:type_of% @List.mem_singleton:=@List.mem_singleton
theorem iG:type_of% @List.length_cons:=@List.length_cons
theorem qI:type_of% @Int.eq_ofNat_of_zero_le:=@Int.eq_ofNat_of_zero_le
theorem jy:type_of% @List.getElem_mem:=@List.getElem_mem
theorem kG:type_of% @Nat.lt_of_lt_of_le:=@Nat.lt_of_lt_of_le
theorem pf:type_of% @List.mem_append_right:=@List.mem_append_right
theorem gF:type_of% @Nat.zero_le:=@Nat.zero_le
theorem xG:type_of% @List.nodup_iff_pairwise_ne:=@List.nodup_iff_pairwise_ne
theorem qH:type_of% @List.map_congr_left:=@List.map_congr_left
theorem pe:type_of% @List.pairwise_map:=@List.pairwise_map
theorem si:type_of% @List.getElem_of_mem:=@List.getElem_of_mem
theorem i5:type_of% @Int.le_of_lt:=@Int.le_of_lt
theorem sY:type_of% @Array.length_toList:=@Array.length_toList
theorem xF:type_of% @List.take_of_length_le:=@List.take_of_length_le
theorem A7:type_of% @List.getElem?_append_right:=@List.getElem?_append_right
theorem xE:type_of% @List.length_replicate:=@List.length_replicate
theorem xD:type_of% @List.length_filter_le:=@List.length_filter_le
theorem pb:type_of% @Bool.and_false:=@Bool.and_false
theorem wc:type_of% @List.pairwise_cons:=@List.pairwise_cons
theorem A6:type_of% @List.length_eq_zero_iff:=@List.length_eq_zero_iff
theorem se:type_of% @List.mem_filter:=@List.mem_filter
theorem r_:type_of% @List.nodup_cons:=@List.nodup_cons
theorem Dz:type_of% @List.getElem?_append_left:=@List.getElem?_append_left
theorem r9:type_of% @Bool.false_and:=@Bool.false_and
theorem v_:type_of% @List.lookup_cons:=@List.lookup_cons
theorem xB:type_of% @Int.toNat_natCast:=@Int.toNat_natCast
theorem xA:type_of% @List.append_assoc:=@List.append_assoc
theorem xy:type_of% @List.flatMap_cons:=@List.flatMap_cons
theorem zv:type_of% @List.mem_filterMap:=@List.mem_filterMap
theorem zu:type_of% @Bool.false_eq_true:=@Bool.false_eq_true
theorem zq:type_of% @List.filter_append:=@List.filter_append
theorem DB:type_of% @Option.map_eq_some_iff:=@Option.map_eq_some_iff
theorem we:type_of% @List.length_nil:=@List.length_nil
theorem xI:type_of% @Bool.and_eq_true:=@Bool.and_eq_true
theorem xH:type_of% @List.not_mem_nil:=@List.not_mem_nil
theorem A8:type_of% @List.flatMap_append:=@List.flatMap_append
theorem qJ:type_of% @Nat.le_trans:=@Nat.le_trans
theorem E8:type_of% @Option.isSome_iff_exists:=@Option.isSome_iff_exists
theorem Dp:type_of% @List.length_singleton:=@List.length_singleton
theorem A1:type_of% @Int.emod_lt_of_pos:=@Int.emod_lt_of_pos
theorem AY:type_of% @List.find?_eq_none:=@List.find?_eq_none
theorem vT:type_of% @Nat.lt_irrefl:=@Nat.lt_irrefl
theorem zi:type_of% @Int.emod_nonneg:=@Int.emod_nonneg
theorem EZ:type_of% @List.mem_of_mem_erase:=@List.mem_of_mem_erase
theorem vS:type_of% @List.map_nil:=@List.map_nil
theorem xt:type_of% @Nat.ne_of_gt:=@Nat.ne_of_gt
abbrev aq:=List PySem.Value
abbrev ag:=PySem.Str->PySem.Str
abbrev az:=List PySem.Addr
abbrev ae:=List PySem.Str
namespace L2
open PySem PySem.Spec PyProof.Rows
abbrev Key:=Sum Int Str
def yT:Key->Aa->Bool
 |.inl k,v=>Value.isInt k v
 |.inr x,v=>Value.isStrOf x v
def OX(w:Af):Key->Int
 |.inl k=>hashInt k
 |.inr x=>hashStr w x
theorem sX:∀{k:Key} {v:Aa},yT k v=true->(∃i t,k=Sum.inl i/\v=Value.int i t)∨(∃x t,k=Sum.inr x/\v=Value.str x t)
 |.inl i,v,h=>by
  let#[t,e]:=Value.isInt_shape (k:=i) (v:=v) h;exact .inl #[i,t,Z,e]
 |.inr x,v,h=>by
  let#[t,e]:=Value.isStrOf_shape (x:=x) (v:=v) h;exact .inr #[x,t,Z,e]
theorem iu_(i:Int)(t:Tok):yT (.inl i) (.int i t)=true:=by simp[yT,Value.isInt]
theorem ho_(x:Str)(t:Tok):yT (.inr x) (.str x t)=true:=by simp[yT,Value.isStrOf]
theorem m8_(a b:Int):decide ((Sum.inl a:Key)=Sum.inl b)=(a == b):=by
 by_cases e:a=b
 ·subst e;simp
 have h:¬(Sum.inl a:Key)=Sum.inl b:=λq=>e (Sum.inl.inj q);rw[dU h];exact (beq_eq_false_iff_ne.mpr e).symm
theorem mc_(a b:Str):decide ((Sum.inr a:Key)=Sum.inr b)=decide (a=b):=by
 by_cases e:a=b
 ·subst e;simp
 have h:¬(Sum.inr a:Key)=Sum.inr b:=λq=>e (ik q);rw[dU h,dU e]
theorem lR_(a:Int)(b:Str):decide ((Sum.inl a:Key)=Sum.inr b)=false:=dU (λq=>nomatch q)
theorem ms_(a:Str)(b:Int):decide ((Sum.inr a:Key)=Sum.inl b)=false:=dU (λq=>nomatch q)
def fB(prog:Ae)(w:Af):PySem.KeyKind prog w Key where
 is:=yT
 hash:=OX w
 inj:=λv a b ha hb=>by
  rcases sX ha with⟨i,t,rfl,rfl⟩|⟨x,t,rfl,rfl⟩
  ·rcases sX hb with⟨j,u,rfl,e⟩|⟨y,u,rfl,e⟩
   ·injection e with e1 _;rw[e1]
   exact nomatch e
  rcases sX hb with⟨j,u,rfl,e⟩|⟨y,u,rfl,e⟩
  ·exact nomatch e
  injection e with e1 _;rw[e1]
 byValue:=λk v h=>by
  rcases sX h with⟨i,t,rfl,rfl⟩|⟨x,t,rfl,rfl⟩<;>rfl
 pyHash:=λhv h=>by
  rcases sX hv with⟨i,t,rfl,rfl⟩|⟨x,t,rfl,rfl⟩
  ·exact wpAny_pyHash_int h
  exact wpAny_pyHash_str h
 eqBool:=λhu hv h=>by
  rcases sX hu with⟨i,t,rfl,rfl⟩|⟨x,t,rfl,rfl⟩
  ·rcases sX hv with⟨j,u,rfl,rfl⟩|⟨y,u,rfl,rfl⟩
   ·rw[m8_] at h;exact wpAny_eqBool_int h
   rw[lR_] at h;exact SeqAt.EqAt.int_str i t y u _ _ _ _ h
  rcases sX hv with⟨j,u,rfl,rfl⟩|⟨y,u,rfl,rfl⟩
  ·rw[ms_] at h;exact SeqAt.EqAt.str_int x t j u _ _ _ _ h
  rw[mc_] at h;exact wpAny_eqBool_str h
 «strs»:=λk x t v h=>by
  rcases sX h with⟨i,u,rfl,e⟩|⟨y,u,rfl,e⟩
  ·exact nomatch e
  injection e with e1 _
  subst e1;cases v<;>rfl
theorem fz_(prog:Ae)(w:Af)(i:Int)(t:Tok):(fB prog w).is (.inl i) (.int i t)=true:=iu_ i t
theorem Sw(prog:Ae)(w:Af)(x:Str)(t:Tok):(fB prog w).is (.inr x) (.str x t)=true:=ho_ x t
end L2
abbrev aM:=List L2.Key
namespace L2
open PySem PySem.Spec PyProof.Rows
inductive V where
 |non|bl (b:Bool)|int (i:Int)|str (x:Str)|byt (b:Array UInt8)|flt (b:UInt64)|ref (a:Addr)|ty (n:String)
 deriving DecidableEq
def RelV:V->Aa->Prop
 |.non,u=>u=Value.none
 |.bl b,u=>u=Value.bool b
 |.int i,u=>∃t,u=Value.int i t
 |.str x,u=>∃t,u=Value.str x t
 |.byt b,u=>∃t,u=Value.bytes b t
 |.flt b,u=>∃t,u=Value.float b t
 |.ref a,u=>u=Value.ref a
 |.ty n,u=>u=Value.type n
abbrev Vals:List V->aq->Prop:=Paired RelV
theorem Vals.length{xs:List V}{us:aq}(r:Vals xs us):xs.length=us.length:=bK r
theorem Vals.get:∀{xs:List V} {us:aq} {i:Nat} {x:V},Vals xs us->xs[i]? = some x->∃u,us[i]? = some u/\RelV x u
 |_,_,_,_,.nil,e=>by simp at e
 |_,_,0,_,.cons r _,e=>by simp at e;subst e;exact#[_,Z,r]
 |_,_,i+1,x,.cons _ t,e=>by
  let#[u,h1,h2]:=Vals.get (i:=i) (x:=x) t ⇑e;exact#[u,by simpa using h1,h2]
theorem Vals.set{x:V}{u:Aa}(r:RelV x u):∀{xs:List V} {us:aq} (i:Nat),Vals xs us->Vals (xs.set i x) (us.set i u)
 |_,_,_,.nil=>.nil
 |_,_,0,.cons _ t=>.cons r t
 |_,_,i+1,.cons q t=>.cons q (Vals.set r i t)
theorem Vals.append:∀{xs ys:List V} {us ws:aq},Vals xs us->Vals ys ws->Vals (xs++ys) (us++ws)
 |_,_,_,_,.nil,s=>s
 |_,_,_,_,.cons r t,s=>.cons r (Vals.append t s)
theorem Vals.take:∀{xs:List V} {us:aq} (n:Nat),Vals xs us->Vals (xs.take n) (us.take n)
 |_,_,0,_=>.nil
 |_,_,_+1,.nil=>.nil
 |_,_,n+1,.cons r t=>.cons r (Vals.take n t)
theorem Vals.drop:∀{xs:List V} {us:aq} (n:Nat),Vals xs us->Vals (xs.drop n) (us.drop n)
 |_,_,0,r=>r
 |_,_,_+1,.nil=>.nil
 |_,_,n+1,.cons _ t=>Vals.drop n t
def fU:Option V->Option Aa->Prop
 |some v,some u=>RelV v u
 |none,none=>True
 |_,_=>False
def KV{κ:Type}:List (κ × V)->List (κ × Aa)->Prop:=Paired λ(p:κ × V) (q:κ × Aa)=>p.1=q.1/\RelV p.2 q.2
def kV:Key->V
 |.inl i=>.int i
 |.inr x=>.str x
inductive HO where
  |lst (xs:List V)
  |tup (xs:List V)
  |dK (kvs:List (Key × V))|dT (kvs:List (aM × V))
  |set (S:Int->Bool) (n:Nat)
  |ins (C dx:Addr) (fs:List (Str × V))
  |own (x:Addr)
  |xd (fs:List (Str × V))
  |met (f x:Addr)
  |rng (lo hi:Int)
  |frz (o:Obj) (u:HO)
  |tbl (ps:Array Aa)
  |ext (φ:Heap->Prop)
abbrev Hp:=Addr->Option HO
def upd(H:Hp)(a:Addr)(o:HO):Hp:=λb=>if b=a then some o else H b
variable{H:Hp}{a:Addr}
theorem ay{o:HO}:upd H a o a\o:=by unfold upd;rw[aB Z]
variable{b:Addr}
theorem ax{o:HO}(h:b≠a):upd H a o b=H b:=by unfold upd;rw[au h]
variable{u:HO}
theorem le_{o:HO}:upd (upd H a o) a u=upd H a u:=by
 funext b;unfold upd;split<;>rfl
theorem cu{o:HO}(h:H a\o)(h':H b\u)(d:o≠u):a≠b:=by
 intro e;subst e;rw[h] at h';exact d (eK h')
theorem bj{o:HO}(h:H a\o)(h':H b=none):a≠b:=by
 intro e;subst e;rw[h] at h';cases h'
section
variable(P:Ae)(w:Af)
def gh(H:Hp)(h:Heap)(a:Addr):HO->Prop
 |.lst xs=>xs.length<=sizeLine/\∃(its:aq) (n:Nat),Vals xs its/\h.get? a=some { cls:=.type "list",data:=.seq its.toArray n }
 |.tup xs=>xs.length<=sizeLine/\∃its:aq,Vals xs its/\IsTup h a its.toArray/\∃o,h.get? a\o/\o.dict=none
 |.dK kvs=>kvs.length<=sizeLine/\(a == sysModules)=false/\∃vs,KV kvs vs/\h.DictOf (fB P w) a vs
 |.dT kvs=>kvs.length<=sizeLine/\(a == sysModules)=false/\∃xs:List (aM × Addr × Aa),
   Paired (λ(p:aM × V) (q:aM × Addr × Aa)=>p.1=q.1/\H q.2.1\.tup (p.1.map kV)/\RelV p.2 q.2.2) kvs xs /\
   ∃o es ep,h.get? a\o/\o.ExactDict/\o.data=.dict es ep/\es.toList=xs.map (entryOfKey (tupleKind (fB P w)))/\(xs.map (·.1)).Nodup
 |.set S n=>h.SetOf (intKind P w) a S n
 |.ins C dx fs=>H dx\.own a/\fs.length<=1000/\dx≠a/\h.get? a\PySem.W.instObj C dx /\
   ∃mA,h.Ns1 dx mA/\(∀f,fU (fs.lookup f) (mA f))/\PySem.Within mA (fs.map (·.1))
 |.own _=>∃o,h.get? a\o
 |.xd fs=>∃mA,h.Ns1 a mA/\∀f,fU (fs.lookup f) (mA f)
 |.rng lo hi=>∃t u v,h.get? a=some { cls:=.type "range",data:=.fields (List.toArray [.int lo t,.int hi u,.int 1 v]) }
 |.frz o u=>h.get? a\o/\gh H h a u
 |.tbl ps=>h.get? a=some { cls:=.none,data:=.fields ps }
 |.met f x=>h.get? a\PySem.W.methodObj (.ref f) (.ref x)
 |.ext φ=>φ h/\(∃o,h.get? a\o)/\∀h1 h2:Heap,φ h1->(∀o,h1.get? a\o->h2.get? a\o)->φ h2
def gn(H:Hp)(h:Heap):Prop:=∀a o,H a\o->gh P w H h a o
end
section
variable{P:Ae}{w:Af}{H H':Hp}{h h':Heap}{a:Addr}{o:HO}
theorem gh.lt(x:gh P w H h a o):a<h.objs.size:=by
 cases o with
 |lst xs=>let#[_,_,_,_,e]:=x;exact cK e
 |tup xs=>let#[_,_,_,p,_]:=x;exact p.lt
 |dK kvs=>let#[_,_,_,_,o,_,_,e,_]:=x;exact cK e
 |dT kvs=>let#[_,_,_,_,o,_,_,e,_]:=x;exact cK e
 |set S n=>let#[o,_,_,_,e,_]:=x;exact cK e
 |ins C dx fs=>let#[_,_,_,e,_]:=x;exact cK e
 |own y=>let#[_,e]:=x;exact cK e
 |xd fs=>let#[_,#[_,_,_,e,_],_]:=x;exact cK e
 |rng lo hi=>let#[_,_,_,e]:=x;exact cK e
 |frz ob u=>let#[e,_]:=x;exact cK e
 |tbl ps=>exact cK (show h.get? a\_ from x)
 |met f y=>exact cK (show h.get? a\_ from x)
 |ext φ=>let#[_,#[_,e],_]:=x;exact cK e
theorem Paired.bu{α β:Type}{F G:α->β->Prop}:∀{Gz:List α} {Gy:List β},Paired F Gz Gy->(∀a b,F a b->G a b)->Paired G Gz Gy
 |_,_,.nil,_=>.nil
 |_,_,.cons r t,f=>.cons (f _ _ r) (Paired.bu t f)
theorem gh.fo(x:gh P w H h a o)(k:∀b u,(b=a∨H b\.own a)->h.get? b\u->h'.get? b\u)
  (ho:∀b,H b\.own a->H' b\.own a) (ht:∀b xs,H b\.tup xs->H' b\.tup xs):gh P w H' h' a o:=by
 induction o with
 |lst xs=>let#[z,its,n,r,e]:=x;exact#[z,its,n,r,k _ _ (.inl Z) e]
 |tup xs=>let#[z,its,r,#[ob,e,c],o2,e2,c2]:=x;exact#[z,its,r,#[ob,k _ _ (.inl Z) e,c],o2,k _ _ (.inl Z) e2,c2]
 |dK kvs=>let#[z,y,vs,r,ob,es,ep,e,c]:=x;exact#[z,y,vs,r,ob,es,ep,k _ _ (.inl Z) e,c]
 |dT kvs=>
  let#[z,y,xs,r,ob,es,ep,e,c]:=x;exact#[z,y,xs,Paired.bu r λp q z=>#[z.1,ht _ _ z.2.1,z.2.2],ob,es,ep,k _ _ (.inl Z) e,c]
 |set S n=>let#[ob,es,ep,t,e,c]:=x;exact#[ob,es,ep,t,k _ _ (.inl Z) e,c]
 |ins C dx fs=>
  let#[d,z,ne,e,mA,#[od,es,ep,e2,c],r]:=x;exact#[ho _ d,z,ne,k _ _ (.inl Z) e,mA,#[od,es,ep,k _ _ (.inr d) e2,c],r]
 |own y=>let#[ob,e]:=x;exact#[ob,k _ _ (.inl Z) e]
 |xd fs=>let#[mA,#[od,es,ep,e,c],r]:=x;exact#[mA,#[od,es,ep,k _ _ (.inl Z) e,c],r]
 |rng lo hi=>let#[t,u,v,e]:=x;exact#[t,u,v,k _ _ (.inl Z) e]
 |frz ob u ih=>let#[e,q]:=x;exact#[k _ _ (.inl Z) e,ih q]
 |tbl ps=>
  have e:h.get? a=some { cls:=.none,data:=.fields ps }:=x;show h'.get? a=some { cls:=.none,data:=.fields ps };exact k a _ (.inl Z) e
 |met f y=>
  have e:h.get? a\PySem.W.methodObj (.ref f) (.ref y):=x;show h'.get? a\PySem.W.methodObj (.ref f) (.ref y);exact k a _ (.inl Z) e
 |ext φ=>let#[p,#[o,e],st]:=x;exact#[st _ _ p λo q=>k _ _ (.inl Z) q,#[o,k _ _ (.inl Z) e],st]
theorem gn.lt(x:gn P w H h)(e:H a\o):a<h.objs.size:=(x a o e).lt
theorem gn.fresh(x:gn P w H h)(e:h.objs.size<=a):H a=none:=by
 cases q:H a with
 |none=>rfl
 |some u=>exact absurd (kG (x.lt q) e) (vT _)
theorem gn.kept(x:gn P w H h)(k:∀b u,h.get? b\u->h'.get? b\u):gn P w H h':=λa o e=>
 (x a o e).fo (λb u _ q=>k b u q) (λ_ q=>q) λ_ _ q=>q
theorem gn.laid(x:gn P w H h)(k:∀b u,h.get? b\u->h'.get? b\u)(hp:h.objs.size<=a)(new:gh P w (upd H a o) h' a o):gn P w (upd H a o) h':=λb u e=>by
 let hn:=x.fresh hp;by_cases hb:b=a
 ·subst hb;rw[ay] at e;cases e;exact new
 rw[ax hb] at e;exact (x b u e).fo (λc v _ q=>k c v q) (λc q=>by rw[ax (bj q hn)];exact q) λc xs q=>by rw[ax (bj q hn)];exact q
end
def Rd(H:Hp)(a:Addr)(u:HO):Prop:=H a=some u∨∃o,H a\.frz o u
variable{P:Ae}{w:Af}{h:Heap}
theorem Rd.ok(r:Rd H a u)(x:gn P w H h):gh P w H h a u:=by
 rcases r with r|⟨o,r⟩
 ·exact x a u r
 let#[_,q]:=x a _ r;exact q
def KN:Option HO->Prop
 |some (.lst _)=>True
 |some (.dK _)=>True
 |some (.dT _)=>True
 |some (.set _ _)=>True
 |some (.ins _ _ _)=>True
 |some (.ext _)=>True
 |_=>False
variable{h':Heap}{e x:Addr}{o':HO}
theorem gn.write(ok:gn P w H h)(mu:KN (H x))(he:e=x∨H e\.own x)(k:∀b u,b≠e->h.get? b\u->h'.get? b\u)(Ed:∃u,h'.get? e\u)
  (new:gh P w (upd H x o') h' x o'):gn P w (upd H x o') h':=λb u q=>by
 have Gn:∀c y,H c\.own y->c≠x:=λc y r z=>by subst z;rw[r] at mu;exact mu
 have Oj:∀c xs,H c\.tup xs->c≠x:=λc xs r z=>by subst z;rw[r] at mu;exact mu
 by_cases hb:b=x
 ·subst hb;rw[ay] at q;cases q;exact new
 rw[ax hb] at q;by_cases Ct:b=e
 ·have q':H b\.own x:=by
   rcases he with z|z
   ·exact absurd (Ct.trans z) hb
   rw[Ct];exact z
  rw[q] at q';cases q';let#[v,hv]:=Ed;exact#[v,by rw[Ct];exact hv]
 apply (ok b u q).fo (λc v hc r=>k c v ?_ r) (λc r=>by rw[ax (Gn c b r)];exact r) λc xs r=>by rw[ax (Oj c xs r)];exact r
 rcases hc with rfl|hc
 ·exact Ct
 rintro rfl;rcases he with z|z
 ·exact Gn c b hc z
 rw[hc] at z;cases z;exact hb Z
structure Un (fs ex:az) (H H':Hp) (h h':Heap):Prop where
 keep:∀b o,h.get? b\o->H b=none->b∉fs->b∉ex->h'.get? b\o
 slot:∀b o,h.get? b\o->H b=none->b∈fs->b∉ex->∃sl,h'.get? b=some { o with slots:=sl }
 free:∀b o,h.get? b\o->H b=none->b∉ex->H' b=none
 there:∀b o,h.get? b\o->b∉ex->∃o',h'.get? b\o'
 jO:∀b xs,H b\.tup xs->H' b\.tup xs
 ij:∀b o u,H b\.frz o u->H' b\.frz o u
 je:∀b ps,H b\.tbl ps->∃more,H' b\.tbl (ps++more)
variable{ex fs:az}{H1:Hp}{h1:Heap}
theorem Un.any(u:Un fs ex H H1 h h1){ob:Obj}(q:h.get? b\ob)(n:H b=none)(hx:b∉ex):∃sl,h1.get? b=some { ob with slots:=sl }:=by
 by_cases hb:b∈fs
 ·exact u.slot b ob q n hb hx
 exact#[ob.slots,u.keep b ob q n hb hx]
theorem Un.kept(k:∀b u,h.get? b\u->h'.get? b\u):Un fs ex H H h h':=
 #[λb ob q _ _ _=>k b ob q,λb ob q _ _ _=>#[ob.slots,k b ob q],λ_ _ _ n _=>n,λb ob q _=>#[ob,k b ob q],λ_ _ q=>q,λ_ _ _ q=>q,λ_ ps q=>#[#[],by rw[q];simp]]
theorem Un.refl:Un fs ex H H h h:=Un.kept λ_ _ q=>q
variable{o:HO}
theorem Un.laid(k:∀b u,h.get? b\u->h'.get? b\u)(hp:h.objs.size<=a)(hn:H a=none):Un fs ex H (upd H a o) h h' where
 keep:=λb u q _ _ _=>k b u q
 slot:=λb u q _ _ _=>#[u.slots,k b u q]
 free:=λb u q n _=>by rw[ax (eV (kG (cK q) hp))];exact n
 there:=λb u q _=>#[u,k b u q]
 jO:=λb xs q=>by rw[ax (bj q hn)];exact q
 ij:=λb u xs q=>by rw[ax (bj q hn)];exact q
 je:=λb ps q=>#[#[],by rw[ax (bj q hn),q];simp]
theorem Un.write(mu:KN (H x))(he:e=x∨H e\.own x)(k:∀b u,b≠e->h.get? b\u->h'.get? b\u)(Ed:∃u,h'.get? e\u):Un fs ex H (upd H x o) h h':=by
 have hx:∀b,H b=none->b≠x:=λb n z=>by subst z;rw[n] at mu;exact mu
 have hb:∀b,H b=none->b≠e:=λb n z=>by
  subst z;rcases he with r|r
  ·exact hx b n r
  rw[n] at r;cases r
 have hm:∀b u,H b\u->¬KN (some u)->b≠x:=λb u q nm z=>by subst z;rw[q] at mu;exact nm mu
 apply#[λb u q n _ _=>k b u (hb b n) q,λb u q n _ _=>#[u.slots,k b u (hb b n) q],λb u q n _=>by rw[ax (hx b n)];exact n,λb u q _=>?_,
  λb xs q=>by rw[ax (hm b _ q λz=>z)];exact q,λb u xs q=>by rw[ax (hm b _ q λz=>z)];exact q,λb ps q=>#[#[],by rw[ax (hm b _ q λz=>z),q];simp]]
 by_cases Ct:b=e
 ·subst Ct;exact Ed
 exact#[u,k b u Ct q]
def K0(h:Heap)(H:Hp):az:=(List.range h.objs.size).filter λa=>(H a).isSome
def jt(h:Heap)(H:Hp):Heap:=PySem.W.hideAll h (K0 h H)
theorem iN_(h:Heap)(H:Hp):(jt h H).objs.size=h.objs.size:=PySem.W.hideAll_size _ _
variable{o:Obj}
theorem iT_(e:h.get? b\o)(n:H b=none):(jt h H).get? b\o:=
 PySem.W.hideAll_get _ e λhm=>by
  have q:(H b).isSome=true:=(se.mp hm).2;rw[n] at q;simp at q
theorem lF_(e:(jt h H).get? b\o):h.get? b\o/\H b=none:=by
 have e':h.get? b\o:=PySem.W.of_hideAll (K0 h H) e;apply#[e',?_];cases q:H b with
 |none=>rfl
 |some x=>
  have hm:b∈K0 h H:=se.mpr #[List.mem_range.mpr (cK e'),by simp[q]];have z:(jt h H).get? b=none:=PySem.W.hideAll_none (K0 h H) hm;rw[z] at e;cases e
end L2
abbrev ai:=List L2.V
abbrev aF:=Option L2.V
namespace L2
open PySem PySem.Spec PyProof.Rows
structure Mod (K:af) (mg:Str->Option Aa) (base:Heap):Prop where
 GJ:K.In base
 glob:base.Ns mainGlobals mg
 blt:∃mb,base.Ns builtinsNs mb/\∀x:Str,x≠"__name__"->mb x=bootBuiltins x
 nolimit:base.NoLimit
structure Cx where
 prog:Ae
 w:Af
 K:af
 mg:Str->Option Aa
 base:Heap
 A:Ag
 N:ae
 dD:Ab
 mr:Hp
 env:Env
 outer:List Env
 stack:List Env
 ex:az
 fn:Str->Bool
 calm:Bool
 pn:List (Addr × Obj)
 xe:Aa->Ab->Prop
def rN(l:List Env):az:=l.filterMap (·.frame)
abbrev Cx.fs(X:Cx):az:=rN X.outer
def TM(sc:Scope)(x:Str):Prop:=sc.names.lookup x=some .local∨sc.names.lookup x\.cell∨sc.names.lookup x\.free
def Loc(sc:Scope)(x:Str):Prop:=sc.names.lookup x=some .local∨sc.names.lookup x\.cell
def Look(env:Env)(h:Heap)(m:Str->Option Aa)(x:Str)(u:Aa):Prop:=
 (env.kindOf x\.local/\m x\u)∨((env.kindOf x\.cell∨env.kindOf x\.free)/\∃c,env.cells.lookup x\c/\h.IsCell c (some u))
structure Cx.Ok (X:Cx):Prop where
 mod:Mod X.K X.mg X.base
 kind:X.env.scope.kind=.function
 glob:X.env.globals=mainGlobals
 blt:X.env.builtins=builtinsNs
 above:X.dD.heap.objs.size<=X.env.locals
 inj:∀x y c,X.env.cells.lookup x\c->X.env.cells.lookup y\c->x=y
 has:∀x,(X.env.kindOf x\.cell∨X.env.kindOf x\.free)->∃c,X.env.cells.lookup x\c
 EJ:∀x c,X.fn x=true->X.env.cells.lookup x\c->X.dD.heap.objs.size<=c
 hd:X.calm=true->X.A.handled=none
 frames:X.A.frames\X.stack
 K2:X.stack=X.outer∨(X.stack=X.env::X.outer/\X.env.frame\X.env.locals)
 LX:∀b∈X.ex,b≠X.env.locals/\∀x c,X.env.cells.lookup x\c->c≠b
 bs:∀b o,X.base.get? b\o->X.dD.heap.get? b\o/\X.mr b=none
 vQ:X.base.objs.size<=X.dD.heap.objs.size
 vc:∀b o,X.base.get? b\o->b∉X.ex
 vE:∀b∈X.ex,b∉X.fs
 gA:X.dD.heap.FunFrames X.base X.outer
 yP:∀b∈X.fs,X.mr b=none
structure Inv (X:Cx) (pins:List (Addr × Obj)) (σ:List aF) (H:Hp) (s:Ab):Prop where
 ok:X.Ok
 os:s.os=X.dD.os
 bare:AllBare s.gens
 base:Un X.fs X.ex X.mr H X.dD.heap s.heap
 loc:∃m,s.heap.Ns X.env.locals m/\∀(i:Nat) (x:Str) (v:V),X.N[i]? = some x->σ[i]? = some (some v)->TM X.env.scope x->∃u,RelV v u/\Look X.env s.heap m x u
 cell:∀x c,X.env.cells.lookup x\c->∃v,s.heap.IsCell c v
 free:H X.env.locals=none
 eS:∀x c,X.env.cells.lookup x\c->H c=none
 pin:∀p∈X.pn++pins,s.heap.get? p.1\p.2/\H p.1=none/\p.1≠X.env.locals/\p.1∉X.fs/\∀v,p.2.data≠.cell v
 aN:gn X.prog X.w H s.heap
 len:σ.length=X.N.length
variable{X:Cx}
theorem Cx.Ok.Om(ok:X.Ok){b:Addr}{o:Obj}(e:X.base.get? b\o):b∉X.fs:=λhb=>by
 have:=(ok.gA.mem hb).1;rw[e] at this;cases this
variable{pins:List (Addr × Obj)}{σ:List aF}{H:Hp}{s:Ab}
theorem Inv.bs(I:Inv X pins σ H s):∀b o,X.base.get? b\o->s.heap.get? b\o/\H b=none:=λb o e=>
 #[I.base.keep b o (I.ok.bs b o e).1 (I.ok.bs b o e).2 (I.ok.Om e) (I.ok.vc b o e),I.base.free b o (I.ok.bs b o e).1 (I.ok.bs b o e).2 (I.ok.vc b o e)]
theorem Inv.bk(I:Inv X pins σ H s):∀b o,X.base.get? b\o->s.heap.get? b\o:=λb o e=>(I.bs b o e).1
theorem Inv.mod(I:Inv X pins σ H s):Mod X.K X.mg X.base:=I.ok.mod
theorem Inv.gI(I:Inv X pins σ H s):X.K.In s.heap:=I.ok.mod.GJ.keeps I.bk
theorem Inv.lt(I:Inv X pins σ H s):X.env.locals<s.heap.objs.size:=let #[_,hn,_]:=I.loc;hn.lt
theorem Inv.sz(I:Inv X pins σ H s):X.dD.heap.objs.size<=s.heap.objs.size:=qJ I.ok.above (Nat.le_of_lt I.lt)
variable{a:Addr}
theorem Inv.Ol(I:Inv X pins σ H s)(h:s.heap.objs.size<=a):a∉X.fs:=λhb=>by
 let#[_,o,ho,_]:=I.ok.gA.mem hb;exact absurd (kG (cK ho) (qJ I.sz h)) (vT _)
theorem Inv.xh(I:Inv X pins σ H s):∀x c,X.env.cells.lookup x\c->c≠X.env.locals:=λx c e z=>by
 let#[v,o,ho,hd]:=I.cell x c e;let#[m,#[o',es,ep,jD,iS,_],_]:=I.loc;rw[z,jD] at ho;cases ho;rw[iS] at hd;cases hd
theorem Inv.gA(I:Inv X pins σ H s):s.heap.FunFrames X.base X.outer:=by
 have all:∀(l:List Env),(∀b∈rN l,b∈X.fs)->X.dD.heap.FunFrames X.base l->s.heap.FunFrames X.base l:=by
  intro l
  induction l with
  |nil=>intro _ _;trivial
  |cons env r ih=>
   intro hs hl;let#[hk,#[L,o,hf,hn,ho,hd],hr]:=hl;have hL:L∈X.fs:=hs L (by unfold rN;rw[List.filterMap_cons,hf];exact cZ);let#[sl,e]:=I.base.slot L o ho (I.ok.yP L hL) hL λz=>I.ok.vE L z hL;exact#[hk,#[L,_,hf,hn,e,hd],ih (λb hb=>hs b (by unfold rN;rw[List.filterMap_cons,hf];exact dJ _ hb)) hr]
 exact all X.outer (λ_ hb=>hb) I.ok.gA
theorem Inv.stack(I:Inv X pins σ H s):s.heap.FunFrames X.base X.stack:=by
 rcases I.ok.K2 with e|⟨e,hf⟩
 ·rw[e];exact I.gA
 rw[e];let#[m,hn,_]:=I.loc;apply .cons (by rw[I.ok.kind];decide) hf hn ?_ I.gA;exact Heap.get?_none_of_le (qJ I.ok.vQ I.ok.above)
theorem Inv.ni(I:Inv X pins σ H s):∀b∈rN X.stack,b∈X.env.locals::X.fs:=λb hb=>by
 rcases I.ok.K2 with e|⟨e,hf⟩
 ·rw[e] at hb;exact dJ _ hb
 rw[e] at hb;unfold rN at hb;rw[List.filterMap_cons,hf] at hb;exact hb
theorem Inv.pO(I:Inv X pins σ H s):∀b∈rN X.stack,H b=none:=λb hb=>by
 rcases bX.mp (I.ni b hb) with e|hb
 ·rw[e];exact I.free
 let#[_,o,ho,_]:=I.ok.gA.mem hb;exact I.base.free b o ho (I.ok.yP b hb) λz=>I.ok.vE b z hb
variable{g':Array GenState}{t':Nat}{d':Drawn}{ch:az}{H':Hp}{h':Heap}
theorem Inv.step(I:Inv X pins σ H s)(wW:∀b∈ch,(b∈X.ex∨X.dD.heap.objs.size<=b)/\b≠X.env.locals/\(∀x c,X.env.cells.lookup x\c->c≠b)/\∀p∈X.pn++pins,p.1≠b)(keep:∀b o,b≠X.env.locals->b∉X.fs->b∉ch->s.heap.get? b\o->H b=none->h'.get? b\o)(slot:∀b o,b≠X.env.locals->b∈X.fs->b∉ch->s.heap.get? b\o->H b=none->∃sl,h'.get? b=some { o with slots:=sl })(free:∀b o,b∉ch->s.heap.get? b\o->H b=none->H' b=none)(there:∀b o,b∉ch->s.heap.get? b\o->∃o',h'.get? b\o')(jO:∀b xs,H b\.tup xs->H' b\.tup xs)(ij:∀b o u,H b\.frz o u->H' b\.frz o u)(je:∀b ps,H b\.tbl ps->∃more,H' b\.tbl (ps++more))(ns:∀m,s.heap.Ns X.env.locals m->h'.Ns X.env.locals m)(aN:gn X.prog X.w H' h')(hg:AllBare g') :
  Inv X pins σ H' { s with heap:=h',gens:=g',drawn:=d',toks:=t' }:=by
 have UV:∀b o,X.dD.heap.get? b\o->b≠X.env.locals:=λb o e=>eV (kG (cK e) I.ok.above)
 have Lh:∀b o,X.dD.heap.get? b\o->b∉X.ex->b∉ch:=λb o e hx hb=>by
  rcases (wW b hb).1 with z|z
  ·exact hx z
  exact absurd (kG (cK e) z) (vT _)
 have cellK:∀x c,X.env.cells.lookup x\c->∀v,s.heap.IsCell c v->h'.IsCell c v:=λx c e v ⟨o,ho,hd⟩=>by
  have Gu:c∉ch:=λz=>(wW c z).2.2.1 x c e Z;by_cases hc:c∈X.fs
  ·let#[sl,q]:=slot c o (I.xh x c e) hc Gu ho (I.eS x c e);exact#[_,q,hd]
  exact#[o,keep c o (I.xh x c e) hc Gu ho (I.eS x c e),hd]
 apply#[I.ok,I.os,hg,#[λb o e n hb hx=>?_,λb o e n hb hx=>?_,λb o e n hx=>?_,λb o e hx=>?_,λb xs e=>jO b xs (I.base.jO b xs e),λb o xs e=>ij b o xs (I.base.ij b o xs e),λb ps e=>?_],?_,λx c e=>?_,?_,λx c e=>?_,λp hp=>?_,aN,I.len]
 ·exact keep b o (UV b o e) hb (Lh b o e hx) (I.base.keep b o e n hb hx) (I.base.free b o e n hx)
 ·let#[sl,e1]:=I.base.slot b o e n hb hx;let#[sl',e2]:=slot b _ (UV b o e) hb (Lh b o e hx) e1 (I.base.free b o e n hx);exact#[sl',e2]
 ·let#[o',e1]:=I.base.there b o e hx;exact free b o' (Lh b o e hx) e1 (I.base.free b o e n hx)
 ·let#[o',e1]:=I.base.there b o e hx;exact there b o' (Lh b o e hx) e1
 ·let#[m1,e1]:=I.base.je b ps e;let#[m2,e2]:=je b _ e1;exact#[m1++m2,by rw[e2,Array.append_assoc]]
 ·let#[m,hn,hl]:=I.loc;apply#[m,ns m hn,λi x v e1 e2 e3=>?_];let#[u,r,l]:=hl i x v e1 e2 e3;apply#[u,r,?_];rcases l with l|⟨k,c,e,z⟩
  ·exact .inl l
  exact .inr #[k,c,e,cellK x c e _ z]
 ·let#[v,z]:=I.cell x c e;exact#[v,cellK x c e v z]
 ·let#[m,#[o,_,_,ho,_],_]:=I.loc;exact free _ o (λz=>(wW _ z).2.1 Z) ho I.free
 ·let#[v,o,ho,hd]:=I.cell x c e;exact free c o (λz=>(wW c z).2.2.1 x c e Z) ho (I.eS x c e)
 let#[e,n,ne,nf,d]:=I.pin p hp;have Gu:p.1∉ch:=λz=>(wW p.1 z).2.2.2 p hp Z;exact#[keep p.1 p.2 ne nf Gu e n,free p.1 p.2 Gu e n,ne,nf,d]
theorem Inv.un(I:Inv X pins σ H s)(u:Un X.fs [] H H' s.heap h')(aN:gn X.prog X.w H' h'):Inv X pins σ H' { s with heap:=h',toks:=t' }:=by
 let#[m,#[o,es,ep,ho,r],_]:=id I.loc;let#[sl,hL]:=u.any ho I.free Z2
 exact I.step (g':=s.gens) (d':=s.drawn) (ch:=[]) (λ_ z=>nomatch z) (λb o _ hb _ e n=>u.keep b o e n hb Z2) (λb o _ hb _ e n=>u.slot b o e n hb Z2) (λb o _ e n=>u.free b o e n Z2) (λb o _ e=>u.there b o e Z2) u.jO u.ij u.je (λm' hm=>by
  let#[o',LY,LZ,jD,r']:=hm;rw[ho] at jD;cases jD;exact#[_,LY,LZ,hL,r']) aN I.bare
theorem Inv.call(I:Inv X pins σ H s)(u:Un (rN X.stack) ch H H' s.heap h')(aN:gn X.prog X.w H' h')(hg:AllBare g')(wW:∀b∈ch,(b∈X.ex∨X.dD.heap.objs.size<=b)/\b≠X.env.locals/\(∀x c,X.env.cells.lookup x\c->c≠b)/\∀p∈X.pn++pins,p.1≠b) :
  Inv X pins σ H' { s with heap:=h',gens:=g',drawn:=d',toks:=t' }:=by
 let#[m,#[o,es,ep,ho,r],_]:=id I.loc;let#[sl,hL]:=u.any ho I.free λz=>(wW _ z).2.1 Z
 exact I.step (ch:=ch) wW (λb o hL hb hc e n=>u.keep b o e n (λz=>(bX.mp (I.ni b z)).elim hL hb) hc) (λb o _ _ hc e n=>u.any e n hc) (λb o hc e n=>u.free b o e n hc) (λb o hc e=>u.there b o e hc) u.jO u.ij u.je (λm' hm=>by
  let#[o',LY,LZ,jD,r']:=hm;rw[ho] at jD;cases jD;exact#[_,LY,LZ,hL,r']) aN hg
theorem Inv.turned{it:Addr}(I:Inv X pins σ H s)(k:∀b o,b≠it->s.heap.get? b\o->h'.get? b\o)(hn:H it=none)(hL:it≠X.env.locals)(h1:it∈X.ex∨X.dD.heap.objs.size<=it)(h2:∀x c,X.env.cells.lookup x\c->c≠it)(h3:∀p∈X.pn++pins,p.1≠it):Inv X pins σ H { s with heap:=h',toks:=t' }:=by
 have UU:∀b u,H b\u->b≠it:=λb u e z=>by rw[z,hn] at e;cases e
 apply I.step (g':=s.gens) (d':=s.drawn) (ch:=[it]) (λb hb=>?_) (λb o _ _ hc e _=>k b o (λz=>hc (by simp[z])) e) (λb o _ _ hc e _=>#[o.slots,k b o (λz=>hc (by simp[z])) e]) (λ_ _ _ _ n=>n)
  (λb o hc e=>#[o,k b o (λz=>hc (by simp[z])) e]) (λ_ _ e=>e) (λ_ _ _ e=>e) (λb ps e=>#[#[],by rw[e];simp]) (λm hm=>?_) (λb u e=>?_) I.bare
 ·have e:b=it:=⇑hb
  subst e;exact#[h1,hL,h2,h3]
 ·let#[o,es,ep,ho,r]:=hm;exact#[o,es,ep,k _ o (Ne.symm hL) ho,r]
 apply (I.aN b u e).fo (λc v hc q=>k c v ?_ q) (λ_ q=>q) λ_ _ q=>q;rcases hc with z|z
 ·rw[z];exact UU b u e
 exact UU c _ z
theorem Inv.tok(I:Inv X pins σ H s)(t:Nat):Inv X pins σ H { s with toks:=t }:=I.un (h':=s.heap) (t':=t) Un.refl I.aN
theorem Inv.kept(I:Inv X pins σ H s)(k:∀b u,s.heap.get? b\u->h'.get? b\u):Inv X pins σ H { s with heap:=h',toks:=t' }:=I.un (Un.kept k) (I.aN.kept k)
variable{o:HO}
theorem Inv.laid(I:Inv X pins σ H s)(k:∀b u,s.heap.get? b\u->h'.get? b\u)(hp:s.heap.objs.size<=a)(new:gh X.prog X.w (upd H a o) h' a o) :
  Inv X pins σ (upd H a o) { s with heap:=h',toks:=t' }:=I.un (Un.laid k hp (I.aN.fresh hp)) (I.aN.laid k hp new)
theorem Inv.write{x e:Addr}(I:Inv X pins σ H s)(mu:KN (H x))(he:e=x∨H e\.own x)(k:∀b u,b≠e->s.heap.get? b\u->h'.get? b\u)(Ed:∃u,h'.get? e\u)(new:gh X.prog X.w (upd H x o) h' x o):Inv X pins σ (upd H x o) { s with heap:=h',toks:=t' }:=I.un (Un.write mu he k Ed) (I.aN.write mu he k Ed new)
theorem Inv.qg{Ai:List (Addr × Obj)}(I:Inv X pins σ H s)(h:∀p∈Ai,s.heap.get? p.1\p.2/\H p.1=none/\p.1≠X.env.locals/\p.1∉X.fs/\∀v,p.2.data≠.cell v):Inv X Ai σ H s:=
 #[I.ok,I.os,I.bare,I.base,I.loc,I.cell,I.free,I.eS,λp hp=>(fR.mp hp).elim (λz=>I.pin p (List.mem_append_left _ z)) (h p),I.aN,I.len]
variable{x:Str}{i:Nat}
theorem XH{N:ae}(hN:N.Nodup){j:Nat}(a:N[i]? = some x)(b:N[j]? = some x):i=j:=by
 let#[h1,e1]:=cq.mp a;let#[h2,e2]:=cq.mp b;exact (List.getElem_inj hN).mp (e1.trans e2.symm)
variable{M:Model}{A:Ag}{E:Aa->Ab->Prop}{v:V}{u:Aa}{Q:Unit->Ab->Prop}
theorem YA(I:Inv X pins σ H s)(hN:X.N.Nodup)(hi:X.N[i]? = some x)(hx:Loc X.env.scope x)(r:RelV v u)(h:∀s',Inv X pins (σ.set i (some v)) H s'->(∃a,Heap.SameBut a s.heap s'.heap/\(a=X.env.locals∨X.env.cells.lookup x\a))->Q () s')(hf:X.fn x=true∨X.env.scope.names.lookup x\.local:=by first|exact .inl Z|exact .inr Z|assumption):wpAny M A (storeName X.env x u) Q E s:=by
 let#[m,hn,hl]:=id I.loc;have P_:(X.env.scope.kind == .class || (X.env.scope.kind == .module&&X.env.locals != X.env.globals))=false:=by rw[I.ok.kind];rfl
 have Hv:i<σ.length:=by rw[I.len];exact (cq.mp hi).1
 let xh:=I.xh
 have tracked:∀{a:Addr} {h':Heap},(∃o,s.heap.get? a\o/\H a=none)->Heap.SameBut a s.heap h'->gn X.prog X.w H h':=λ{a h'} ha hs b ob e=>by
  let#[_,_,Aw]:=ha;apply (I.aN b ob e).fo (λc w' hc q=>(hs.2 c ?_).trans q) (λ_ q=>q) λ_ _ q=>q;rintro rfl;rcases hc with rfl|hc
  ·rw[Aw] at e;cases e
  rw[Aw] at hc;cases hc
 rcases hx with hk|hk
 ·apply wpAny_storeName_local hk hn (λh' Hg hs=>?_) P_;let#[oL,_,_,Lw,_]:=id hn;apply h _ #[I.ok,I.os,I.bare,#[λb o e n hb hx=>?_,λb o e n hb hx=>?_,I.base.free,λb o e hx=>?_,I.base.jO,I.base.ij,I.base.je],#[_,Hg,λj y v' e1 e2 e3=>?_],λy c e=>?_,I.free,I.eS,λp hp=>?_,tracked #[oL,Lw,I.free] hs,by simpa using I.len] #[_,hs,.inl Z]
  ·exact (hs.2 b (eV (kG (cK e) I.ok.above))).trans (I.base.keep b o e n hb hx)
  ·let#[sl,e1]:=I.base.slot b o e n hb hx;exact#[sl,(hs.2 b (eV (kG (cK e) I.ok.above))).trans e1]
  ·let#[o',e1]:=I.base.there b o e hx;exact#[o',(hs.2 b (eV (kG (cK e) I.ok.above))).trans e1]
  ·by_cases hj:j=i
   ·subst hj;rw[hi] at e1;cases e1;rw[List.getElem?_set_self Hv] at e2;cases e2;exact#[u,r,.inl #[hk,by simp]]
   rw[List.getElem?_set_ne (Ne.symm hj)] at e2;let#[u',r',q]:=hl j y v' e1 e2 e3;apply#[u',r',?_];rcases q with⟨k,e⟩|⟨k,c,e,z⟩
   ·apply .inl #[k,?_];have:y≠x:=λe=>hj (XH hN e1 (e▸hi));simp[this,e]
   exact .inr #[k,c,e,z.sameBut hs (xh y c e)]
  ·let#[w',z]:=I.cell y c e;exact#[w',z.sameBut hs (xh y c e)]
  let#[e,n,ne,nf,d]:=I.pin p hp;exact#[(hs.2 p.1 ne).trans e,n,ne,nf,d]
 have PY:X.fn x=true:=by
  rcases hf with z|z
  ·exact z
  rw[z] at hk;cases hk
 let#[c,hc]:=I.ok.has x (.inl hk);let#[w',z]:=I.cell x c hc;apply wpAny_storeName_cell I.ok.kind hk hc z (λh' Ef hs=>?_);let#[oc,Hf,Py]:=id z;apply h { s with heap:=h' } #[I.ok,I.os,I.bare,#[λb o e n hb hx=>?_,λb o e n hb hx=>?_,I.base.free,λb o e hx=>?_,I.base.jO,I.base.ij,I.base.je],#[m,hn.sameBut hs (Ne.symm (xh x c hc)),λj y v' e1 e2 e3=>?_],λy c' e=>?_,I.free,I.eS,λp hp=>?_,tracked #[oc,Hf,I.eS x c hc] hs,by simpa using I.len] #[c,hs,.inr hc]
 ·exact (hs.2 b (eV (kG (cK e) (I.ok.EJ x c PY hc)))).trans (I.base.keep b o e n hb hx)
 ·let#[sl,e1]:=I.base.slot b o e n hb hx;exact#[sl,(hs.2 b (eV (kG (cK e) (I.ok.EJ x c PY hc)))).trans e1]
 ·let#[o',e1]:=I.base.there b o e hx;exact#[o',(hs.2 b (eV (kG (cK e) (I.ok.EJ x c PY hc)))).trans e1]
 ·by_cases hj:j=i
  ·subst hj;rw[hi] at e1;cases e1;rw[List.getElem?_set_self Hv] at e2;cases e2;exact#[u,r,.inr #[.inl hk,c,hc,Ef]]
  rw[List.getElem?_set_ne (Ne.symm hj)] at e2;let#[u',r',q]:=hl j y v' e1 e2 e3;apply#[u',r',?_];rcases q with q|⟨k,c',e,z'⟩
  ·exact .inl q
  apply .inr #[k,c',e,z'.sameBut hs ?_];rintro rfl;exact hj (XH hN e1 (I.ok.inj _ _ _ e hc▸hi))
 ·by_cases WV:c'=c
  ·subst WV;exact#[_,Ef]
  let#[w2,z2]:=I.cell y c' e;exact#[w2,z2.sameBut hs WV]
 let#[e,n,ne,nf,d]:=I.pin p hp;apply#[(hs.2 p.1 ?_).trans e,n,ne,nf,d];intro q;rw[q,Hf] at e;have q':oc=p.2:=eK e;exact d w' (by rw[<- q'];exact Py)
theorem XO(I:Inv X pins σ H s)(hN:X.N.Nodup)(hi:X.N[i]? = some x)(hx:Loc X.env.scope x)(r:RelV v u)(h:∀s',Inv X pins (σ.set i (some v)) H s'->Q () s')(hf:X.fn x=true∨X.env.scope.names.lookup x\.local:=by first|exact .inl Z|exact .inr Z|assumption):wpAny M A (storeName X.env x u) Q E s:=
 YA I hN hi hx r (λs' I' _=>h s' I') hf
theorem Inv.IY{s':Ab}(I:Inv X pins σ H s)(ho:s'.os=s.os)(u:Un (rN X.stack) ch H H' s.heap s'.heap)(aN:gn X.prog X.w H' s'.heap)(hg:AllBare s'.gens)(wW:∀b∈ch,(b∈X.ex∨X.dD.heap.objs.size<=b)/\b≠X.env.locals/\(∀x c,X.env.cells.lookup x\c->c≠b)/\∀p∈X.pn++pins,p.1≠b):Inv X pins σ H' s':=by
 let#[h',g',d',t',o']:=s';have e:o'=s.os:=ho;subst e;exact I.call (g':=g') (t':=t') (d':=d') u aN hg wW
abbrev XK:=Aa->Option Addr->Hp->Prop
abbrev St:=List aF
abbrev VK:=V->Hp->Prop
abbrev TE:=St->Hp->VK->Prop
abbrev TT:=St->Hp->(Bool->Hp->Prop)->Prop
abbrev TA:=St->Hp->(ai->Hp->Prop)->Prop
structure Ends where
 nx:St->Hp->Prop
 rt:VK
 bk:St->Hp->Prop:=λ_ _=>False
 ct:St->Hp->Prop:=λ_ _=>False
abbrev TS:=Ends->St->Hp->Prop
def EP(X:Cx)(pins:List (Addr × Obj))(σ:St)(Q:VK)(u:Aa)(s':Ab):Prop:=∃v H',Inv X pins σ H' s'/\RelV v u/\Q v H'
def TP(X:Cx)(pins:List (Addr × Obj))(σ:St)(Q:Bool->Hp->Prop)(b:Bool)(s':Ab):Prop:=∃H',Inv X pins σ H' s'/\Q b H'
def AP(X:Cx)(pins:List (Addr × Obj))(σ:St)(Q:ai->Hp->Prop)(us:aq)(s':Ab):Prop:=∃vs H',Inv X pins σ H' s'/\Vals vs us/\Q vs H'
def SP(X:Cx)(pins:List (Addr × Obj))(D:Ends)(f:Flow)(s':Ab):Prop:=
 match f with
 |.next=>∃bt H',Inv X pins bt H' s'/\D.nx bt H'
 |.brk=>∃bt H',Inv X pins bt H' s'/\D.bk bt H'
 |.cont=>∃bt H',Inv X pins bt H' s'/\D.ct bt H'
 |.ret u=>∃v bt H',Inv X pins bt H' s'/\RelV v u/\D.rt v H'
def PE(X:Cx)(e:Expr)(t:TE):Prop:=
 ∀(pins:List (Addr × Obj)) (s:Ab) (σ:St) (H:Hp) (Q:VK),Inv X pins σ H s->t σ H Q->wpAny (model X.prog X.w) X.A (eval e X.env) (EP X pins σ Q) X.xe s
def PT(X:Cx)(e:Expr)(t:TT):Prop:=
 ∀(pins:List (Addr × Obj)) (s:Ab) (σ:St) (H:Hp) (Q:Bool->Hp->Prop),Inv X pins σ H s->t σ H Q->wpAny (model X.prog X.w) X.A (isTrue e X.env (eval e X.env)) (TP X pins σ Q) X.xe s
def PW(X:Cx)(e:Expr)(t:TT):Prop:=
 ∀(whole:Sem Aa) (pins:List (Addr × Obj)) (s:Ab) (σ:St) (H:Hp) (Q:Bool->Hp->Prop),Inv X pins σ H s->t σ H Q->wpAny (model X.prog X.w) X.A (isTrue e X.env whole) (TP X pins σ Q) X.xe s
theorem PW.pt{e:Expr}{t:TT}(h:PW X e t):PT X e t:=h _
def PA(X:Cx)(es:List Expr)(t:TA):Prop:=
 ∀(pos:Pos) (pins:List (Addr × Obj)) (s:Ab) (σ:St) (H:Hp) (Q:ai->Hp->Prop),Inv X pins σ H s->t σ H Q->wpAny (model X.prog X.w) X.A (spliced (backTo pos (starEach es X.env))) (AP X pins σ Q) X.xe s
def PS(X:Cx)(st:Stmt)(t:TS):Prop:=
 ∀(pins:List (Addr × Obj)) (s:Ab) (σ:St) (H:Hp) (D:Ends),Inv X pins σ H s->t D σ H->wpAny (model X.prog X.w) X.A (exec st X.env) (SP X pins D) X.xe s
def mX(X:Cx)(st:List Stmt)(t:TS):Prop:=
 ∀(pins:List (Addr × Obj)) (s:Ab) (σ:St) (H:Hp) (D:Ends),Inv X pins σ H s->t D σ H->wpAny (model X.prog X.w) X.A (execs st X.env) (SP X pins D) X.xe s
theorem bb{α:Type}{t:Sem α}{Q Q':α->Ab->Prop}(h:wpAny M A t Q E s)(hQ:∀a s,Q a s->Q' a s):wpAny M A t Q' E s:=wpAny_mono h hQ λ_ _ x=>x
end L2
abbrev bZ:=L2.St->L2.Hp->Prop
abbrev bI:=Nat->L2.St->L2.Hp->Prop
abbrev dH:=Nat->List L2.V->L2.Hp->Prop
namespace L2
open PySem PySem.Spec PyProof.Rows
variable{pos:Pos}
variable{σ:St}
variable{op:CmpOp}
variable{c:Expr}
section
variable{X:Cx}
inductive tF (i:Nat) (σ:St) (H:Hp) (Q:VK):Prop
 |mk:∀v,σ[i]? = some (some v)->Q v H->tF i σ H Q
def tC(v:V):TE:=λ_ H Q=>Q v H
theorem mw_{i:Nat}{x:Str}(hN:X.N[i]? = some x)(hv:TM X.env.scope x)(hd:(x == ("__debug__":Str))=false:=by decide)(iT:(x == ("__classdict__":Str))=false:=by decide):PE X (.Name x pos) (tF i):=by
 intro pins s σ H Q I h;let#[v,e,h]:=h;let#[m,hn,hl]:=I.loc;let#[u,r,l]:=hl i x v hN e hv;have fin:EP X pins σ Q u s:=#[v,H,I,r,h];rcases l with⟨hk,hm⟩|⟨hk,c,hc,qv⟩
 ·exact wpAny_Name (wpAny_loadName_local I.ok.kind hk hn hm fin) hd
 rcases hk with hk|hk
 ·exact wpAny_Name (wpAny_loadName_cell I.ok.kind hk hc qv fin) hd
 exact wpAny_Name (wpAny_loadName_free I.ok.kind hk hc qv fin iT) hd
theorem aI{i j pos}:PE X (.Constant (.int i) j pos) (tC (.int i)):=λ_ _ _ H _ I h=>wpAny_Constant_int #[.int i,H,I.tok _,#[_,Z],h]
theorem CD{b j pos}:PE X (.Constant (.bool b) j pos) (tC (.bl b)):=λ_ _ _ H _ I h=>Constant_bool #[.bl b,H,I,Z,h]
theorem C4{j pos}:PE X (.Constant .none j pos) (tC .non):=λ_ _ _ H _ I h=>Constant_none #[.non,H,I,Z,h]
theorem cn{x j pos}:PE X (.Constant (.str x) j pos) (tC (.str x)):=λ_ _ _ H _ I h=>Calls.Constant_str #[.str x,H,I.tok _,#[_,Z],h]
def Gl(X:Cx)(x:Str):Prop:=X.env.kindOf x=some .globalImplicit
theorem L0{E:Aa->Ab->Prop}{pins:List (Addr × Obj)}{s:Ab}{H:Hp}{x:Str}{u:Aa}{Q:Aa->Ab->Prop}(I:Inv X pins σ H s)(hg:Gl X x)(hm:X.mg x\u)(h:Q u s)(hd:(x == ("__debug__":Str))=false:=by decide):wpAny (model X.prog X.w) X.A (eval (.Name x pos) X.env) Q E s:=
 Calls.Name_function_global I.ok.kind hg (Calls.loadGlobal_global (by rw[I.ok.glob];exact I.mod.glob.keeps I.bk) hm h) hd
theorem EA{E:Aa->Ab->Prop}{pins:List (Addr × Obj)}{s:Ab}{H:Hp}{x:Str}{u:Aa}{Q:Aa->Ab->Prop}(I:Inv X pins σ H s)(hg:Gl X x)(hm:X.mg x=none)(hv:bootBuiltins x\u)(h:Q u s)(hn:x≠"__name__":=by decide)(hd:(x == ("__debug__":Str))=false:=by decide):wpAny (model X.prog X.w) X.A (eval (.Name x pos) X.env) Q E s:=by
 let#[mb,h1,h2]:=I.mod.blt;exact Calls.Name_function_global I.ok.kind hg (Calls.loadGlobal_builtin (by rw[I.ok.glob];exact I.mod.glob.keeps I.bk) hm (by rw[I.ok.blt];exact h1.keeps I.bk) ((h2 x hn).trans hv) h) hd
theorem Dh{x:Str}{v:V}{u:Aa}(hg:Gl X x)(hm:X.mg x\u)(r:RelV v u)(hd:(x == ("__debug__":Str))=false:=by decide):PE X (.Name x pos) (tC v):=
 λ_ _ _ H _ I h=>L0 I hg hm #[v,H,I,r,h] hd
theorem o7{x:Str}{v:V}{u:Aa}(hg:Gl X x)(hm:X.mg x=none)(hv:bootBuiltins x\u)(r:RelV v u)(hn:x≠"__name__":=by decide)(hd:(x == ("__debug__":Str))=false:=by decide):PE X (.Name x pos) (tC v):=
 λ_ _ _ H _ I h=>EA I hg hm hv #[v,H,I,r,h] hn hd
variable{a b:Expr}{ta tb:TE}{pos:Pos}
def PC(X:Cx)(op:CmpOp)(a b:Expr)(t:TE):Prop:=
 ∀(pins:List (Addr × Obj)) (s:Ab) (σ:St) (H:Hp) (Q:VK),Inv X pins σ H s->t σ H Q->
  wpAny (model X.prog X.w) X.A (eval a X.env) (λv bf=>wpAny (model X.prog X.w) X.A (eval b X.env) (λu kW=>wpAny (model X.prog X.w) X.A (compareOp op v u) (EP X pins σ Q) X.xe kW) X.xe bf) X.xe s
theorem lH(b:Expr)(h:op≠.In)(h2:op≠.NotIn):behindInMarks op b=false:=by
 have e1:(op == CmpOp.In)=false:=by cases op<;>first|rfl|exact absurd Z h
 have e2:(op == CmpOp.NotIn)=false:=by cases op<;>first|rfl|exact absurd Z h2
 cases b<;>simp[behindInMarks,e1,e2]
def Ny(ta:TE):TE:=λσ H Q=>ta σ H λx H1=>Q (.bl (decide (x=.non))) H1
theorem RelV.va{x:V}{v:Aa}(r:RelV x v):(v == Value.none)=decide (x=.non):=by
 cases x with
 |non=>cases r;rfl
 |bl _=>cases r;rfl
 |int _=>let#[t,rfl]:=r;rfl
 |str _=>let#[t,rfl]:=r;rfl
 |byt _=>let#[t,rfl]:=r;rfl
 |flt _=>let#[t,rfl]:=r;rfl
 |ref _=>cases r;rfl
 |ty _=>cases r;rfl
theorem LW{j pos'}(ha:PE X a ta):PC X .Is a (.Constant .none j pos') (Ny ta):=by
 intro pins s σ H Q I h;apply bb (ha pins s σ H _ I h) λv s1 ⟨x,H1,I1,r1,q1⟩=>?_;exact Constant_none (is_none_gen #[.bl _,H1,I1,by rw[r1.va];rfl,q1])
inductive Uq (Q:Bool->Hp->Prop) (x:V) (H1:Hp):Prop
 |mk:∀c,x=.bl c->Q c H1->Uq Q x H1
def tB(t:TE):TT:=λσ H Q=>t σ H λx H1=>Uq Q x H1
theorem Im{t:TE}(h:PC X op a b t)(h1:behindInMarks op b=false:=by first|exact lH _ (by decide) (by decide)|rfl):PE X (.Compare a [op] [b] pos) t:=λpins s σ H Q I hw=>wpAny_Compare1 (h pins s σ H Q I hw) h1
theorem AV{t:TE}(h:PC X op a b t)(h1:behindInMarks op b=false:=by first|exact lH _ (by decide) (by decide)|rfl):PT X (.Compare a [op] [b] pos) (tB t):=by
 intro pins s σ H Q I hw;apply wpAny_isTrue_Compare1 (bb (h pins s σ H _ I hw) λv s1 h1=>bb h1 λu s2 h2=>bb h2 λc s3 ⟨x,H1,I1,r1,q1⟩=>?_) h1;let#[d,rfl,q]:=q1;cases r1;exact vN #[H1,I1,q]
theorem fZ{e:Expr}{t:TE}(h:PE X e t)(he:∀whole,isTrue e X.env whole=(do let v <- whole;standAt e.pos;holding [v] (truthy v)):=by intro _;rfl):PT X e (tB t):=by
 intro pins s σ H Q I hw;apply isTrue_plain (bb (h pins s σ H _ I hw) λv s1 ⟨x,H1,I1,r1,q1⟩=>?_) (he _);let#[d,rfl,q]:=q1;cases r1;exact vN #[H1,I1,q]
variable{tA K1:TT}{rest:List Expr}
def NF(t u:TT):TT:=λσ H Q=>t σ H λc H1=>if c=true then u σ H1 Q else Q false H1
def tOr(t u:TT):TT:=λσ H Q=>t σ H λc H1=>if c=true then Q true H1 else u σ H1 Q
def Nu(t:TT):TT:=λσ H Q=>t σ H λc H1=>Q (!c) H1
theorem Df(ha:PT X a tA):PW X (.BoolOp .And [a] pos) tA:=by
 intro wh pins s σ H Q I h;apply isTrue_and (bb (ha pins s σ H Q I h) λc s1 e=>?_);cases c with
 |true=>exact isTrue_and_nil e
 |false=>exact e
theorem AR(ha:PT X a tA):PW X (.BoolOp .Or [a] pos) tA:=by
 intro wh pins s σ H Q I h;apply isTrue_or (bb (ha pins s σ H Q I h) λc s1 e=>?_);cases c with
 |false=>exact isTrue_or_nil e
 |true=>exact e
theorem zd(ha:PT X a tA)(hb:PW X (.BoolOp .And (b::rest) pos) K1):PW X (.BoolOp .And (a::b::rest) pos) (NF tA K1):=by
 intro wh pins s σ H Q I h;apply isTrue_and (bb (ha pins s σ H _ I h) λc s1 ⟨H1,I1,q1⟩=>?_);cases c with
 |true=>exact hb wh pins s1 σ H1 Q I1 q1
 |false=>exact#[H1,I1,q1]
theorem AD(ha:PT X a tA)(hb:PW X (.BoolOp .Or (b::rest) pos) K1):PW X (.BoolOp .Or (a::b::rest) pos) (tOr tA K1):=by
 intro wh pins s σ H Q I h;apply isTrue_or (bb (ha pins s σ H _ I h) λc s1 ⟨H1,I1,q1⟩=>?_);cases c with
 |true=>exact#[H1,I1,q1]
 |false=>exact hb wh pins s1 σ H1 Q I1 q1
theorem hU(ha:PT X a tA):PT X (.UnaryOp .Not a pos) (Nu tA):=by
 intro pins s σ H Q I h;exact isTrue_not (ha pins s σ H (λc H1=>Q (!c) H1) I h)
inductive tP (tb:TE) (σ:St) (Q:VK) (x:V) (H1:Hp):Prop
 |mk:∀c,x=.bl c->(if c=true then tb σ H1 Q else Q (.bl false) H1)->tP tb σ Q x H1
def FG(ta tb:TE):TE:=λσ H Q=>ta σ H λx H1=>tP tb σ Q x H1
inductive zI (tb:TE) (σ:St) (Q:VK) (x:V) (H1:Hp):Prop
 |mk:∀c,x=.bl c->(if c=true then Q (.bl true) H1 else tb σ H1 Q)->zI tb σ Q x H1
def Nt(ta tb:TE):TE:=λσ H Q=>ta σ H λx H1=>zI tb σ Q x H1
inductive tJ (Q:VK) (x:V) (H1:Hp):Prop
 |mk:∀c,x=.bl c->Q (.bl (!c)) H1->tJ Q x H1
def Fx(ta:TE):TE:=λσ H Q=>ta σ H λx H1=>tJ Q x H1
theorem o6{op}{t:TE}(h:PE X a t):PE X (.BoolOp op [a] pos) t:=λpins s σ H Q I hw=>BoolOp_one (h pins s σ H Q I hw)
theorem sU(ha:PE X a ta)(hb:PE X (.BoolOp .And (b::rest) pos) tb):PE X (.BoolOp .And (a::b::rest) pos) (FG ta tb):=by
 intro pins s σ H Q I h;apply BoolOp_and (bb (ha pins s σ H _ I h) λv s1 ⟨x,H1,I1,r1,q1⟩=>?_);let#[c,rfl,q1]:=q1;cases r1;apply vN ?_;cases c with
 |true=>exact hb pins s1 σ H1 Q I1 q1
 |false=>exact#[.bl false,H1,I1,Z,q1]
theorem Ej(ha:PE X a ta)(hb:PE X (.BoolOp .Or (b::rest) pos) tb):PE X (.BoolOp .Or (a::b::rest) pos) (Nt ta tb):=by
 intro pins s σ H Q I h;apply BoolOp_or (bb (ha pins s σ H _ I h) λv s1 ⟨x,H1,I1,r1,q1⟩=>?_);let#[c,rfl,q1]:=q1;cases r1;apply vN ?_;cases c with
 |false=>exact hb pins s1 σ H1 Q I1 q1
 |true=>exact#[.bl true,H1,I1,Z,q1]
theorem ma_(ha:PE X a ta):PE X (.UnaryOp .Not a pos) (Fx ta):=by
 intro pins s σ H Q I h;apply UnaryOp_ (bb (ha pins s σ H _ I h) λv s1 ⟨x,H1,I1,r1,q1⟩=>?_);let#[c,rfl,q1]:=q1;cases r1;exact not_of (vN #[.bl (!c),H1,I1,Z,q1])
def tIf(t:TT)(ta tb:TE):TE:=λσ H Q=>t σ H λc H1=>if c=true then ta σ H1 Q else tb σ H1 Q
theorem Yc(hc:PT X c tA)(ha:PE X a ta)(hb:PE X b tb):PE X (.IfExp c a b pos) (tIf tA ta tb):=by
 intro pins s σ H Q I h;apply wpAny_IfExp (bb (hc pins s σ H _ I h) λd s1 ⟨H1,I1,q1⟩=>?_);cases d with
 |true=>exact ha pins s1 σ H1 Q I1 q1
 |false=>exact hb pins s1 σ H1 Q I1 q1
end
def eG(K:af)(H:Hp)(a:Addr)(xs:ai):Prop:=
 Rd H a (.lst xs) ∨
  ∃(o:Obj) (its:Array Aa) (n:Nat),K.lookup a\o/\o.cls=.type "list"/\o.dict=none/\o.data=.seq its n/\its.size<=sizeLine/\Vals xs its.toList
def i6(K:af)(H:Hp)(a:Addr)(xs:ai):Prop:=
 Rd H a (.tup xs) ∨
  ∃(o:Obj) (its:Array Aa) (n:Nat),K.lookup a\o/\o.cls=.type "tuple"/\o.data=.seq its n/\its.size<=sizeLine/\Vals xs its.toList
def TL:Aa->aF
 |.none=>some .non
 |.bool b=>some (.bl b)
 |.int i _=>some (.int i)
 |.str x _=>some (.str x)
 |.bytes b _=>some (.byt b)
 |.float b _=>some (.flt b)
 |.ref a=>some (.ref a)
 |.type n=>some (.ty n)
 |_=>none
theorem RelV.abs{x:V}{u:Aa}(r:RelV x u):TL u\x:=by
 cases x with
 |non=>cases r;rfl
 |bl _=>cases r;rfl
 |int _=>let#[t,rfl]:=r;rfl
 |str _=>let#[t,rfl]:=r;rfl
 |byt _=>let#[t,rfl]:=r;rfl
 |flt _=>let#[t,rfl]:=r;rfl
 |ref _=>cases r;rfl
 |ty _=>cases r;rfl
theorem RelV.inj{x y:V}{u:Aa}(r:RelV x u)(q:RelV y u):x=y:=eK (r.abs.symm.trans q.abs)
theorem Vals.inj:∀{xs ys:ai} {us:aq},Vals xs us->Vals ys us->xs=ys
 |_,_,_,.nil,.nil=>rfl
 |_,_,_,.cons r t,.cons r' t'=>by rw[r.inj r',Vals.inj t t']
section
variable{X:Cx}{pins:List (Addr × Obj)}{σ:St}{H:Hp}{s:Ab}{a:Addr}{xs ys:ai}
theorem eG.of{K:af}(h:H a\.lst xs):eG K H a xs:=.inl (.inl h)
theorem i6.of{K:af}(h:H a\.tup xs):i6 K H a xs:=.inl (.inl h)
theorem Inv.list(I:Inv X pins σ H s)(h:eG X.K H a xs):∃its:aq,Vals xs its/\PlainL s.heap a its.toArray/\xs.length<=sizeLine:=by
 rcases h with h|⟨o,its,n,hk,hc,hd,hs,hz,r⟩
 ·let#[z,its,n,r,e]:=h.ok I.aN;exact#[its,r,#[_,n,e,Z,Z,Z],z]
 apply#[its.toList,r,#[o,n,I.gI a o hk,hc,hd,by simpa using hs],?_];let e:=r.length;simp only[sY] at e;omega
theorem Inv.tuple(I:Inv X pins σ H s)(h:i6 X.K H a xs):∃its:aq,Vals xs its/\IsTup s.heap a its.toArray/\xs.length<=sizeLine:=by
 rcases h with h|⟨o,its,n,hk,hc,hs,hz,r⟩
 ·let#[z,its,r,p,_]:=h.ok I.aN;exact#[its,r,p,z]
 apply#[its.toList,r,#[o,I.gI a o hk,hc,n,by simpa using hs],?_];let e:=r.length;simp only[sY] at e;omega
theorem Inv.lK(I:Inv X pins σ H s)(h:eG X.K H a xs)(h':eG X.K H a ys):xs=ys:=by
 let#[its,r,#[o,n,e,_,_,d],_]:=I.list h;let#[its',r',#[o',n',e',_,_,d'],_]:=I.list h';rw[e] at e';cases e';rw[d] at d'
 injection d' with d1 _
 have:its=its':=⇑(dQ Array.toList d1)
 subst this;exact r.inj r'
theorem Inv.jA(I:Inv X pins σ H s)(h:i6 X.K H a xs)(h':i6 X.K H a ys):xs=ys:=by
 let#[its,r,#[o,e,_,n,d],_]:=I.tuple h;let#[its',r',#[o',e',_,n',d'],_]:=I.tuple h';rw[e] at e';cases e';rw[d] at d'
 injection d' with d1 _
 have:its=its':=⇑(dQ Array.toList d1)
 subst this;exact r.inj r'
end
abbrev Cx.jc(X:Cx)(E:Aa->Ab->Prop):Cx:={ X with xe:=E }
abbrev Cx.BS(X:Cx):Cx:=X.jc λ_ _=>False
theorem Cx.Ok.jc{X:Cx}(ok:X.Ok)(E:Aa->Ab->Prop):(X.jc E).Ok:=
 #[ok.mod,ok.kind,ok.glob,ok.blt,ok.above,ok.inj,ok.has,ok.EJ,ok.hd,ok.frames,ok.K2,ok.LX,ok.bs,ok.vQ,ok.vc,ok.vE,ok.gA,ok.yP]
theorem Cx.Ok.fb{X:Cx}{E:Aa->Ab->Prop}(ok:(X.jc E).Ok):X.Ok:=
 #[ok.mod,ok.kind,ok.glob,ok.blt,ok.above,ok.inj,ok.has,ok.EJ,ok.hd,ok.frames,ok.K2,ok.LX,ok.bs,ok.vQ,ok.vc,ok.vE,ok.gA,ok.yP]
section
variable{X:Cx}{pins:List (Addr × Obj)}{σ:St}{H:Hp}{s:Ab}{E:Aa->Ab->Prop}
theorem Inv.jc(I:Inv X pins σ H s)(E:Aa->Ab->Prop):Inv (X.jc E) pins σ H s:=#[I.ok.jc E,I.os,I.bare,I.base,I.loc,I.cell,I.free,I.eS,I.pin,I.aN,I.len]
theorem Inv.fb(I:Inv (X.jc E) pins σ H s):Inv X pins σ H s:=#[I.ok.fb,I.os,I.bare,I.base,I.loc,I.cell,I.free,I.eS,I.pin,I.aN,I.len]
theorem SP.fb{D:Ends}{f:Flow}{s':Ab}(h:SP (X.jc E) pins D f s'):SP X pins D f s':=by
 cases f with
 |next=>let#[bt,H',I,q]:=h;exact#[bt,H',I.fb,q]
 |brk=>let#[bt,H',I,q]:=h;exact#[bt,H',I.fb,q]
 |cont=>let#[bt,H',I,q]:=h;exact#[bt,H',I.fb,q]
 |ret u=>let#[v,bt,H',I,r,q]:=h;exact#[v,bt,H',I.fb,r,q]
theorem mX.BS{st:List Stmt}{t:TS}(h:mX X.BS st t):mX X st t:=λpins s σ H D I hw=>
 wpAny_mono (h pins s σ H D (I.jc _) hw) (λ_ _ q=>q.fb) λ_ _ z=>False.elim z
end
section
variable{X:Cx}{st:Stmt}{rest:List Stmt}{t u:TS}{e:Expr}{te:TE}{pos:Pos}
def Fy:TS:=λD σ H=>D.nx σ H
def rg(t u:TS):TS:=λD σ H=>t { D with nx:=u D } σ H
theorem bQ:mX X [] Fy:=λ_ _ σ H _ I h=>wpAny_execs_nil #[σ,H,I,h]
theorem ak(h1:PS X st t)(h2:mX X rest u):mX X (st::rest) (rg t u):=by
 intro pins s σ H D I h;apply wpAny_execs_cons (bb (h1 pins s σ H { D with nx:=u D } I h) λf s1 q=>?_);cases f with
 |next=>
  let#[bt,H',I',q]:=q;exact h2 pins s1 bt H' D I' q
 |ret v=>exact q
 |brk=>exact q
 |cont=>exact q
theorem aE(h1:PS X st t):mX X [st] t:=by
 intro pins s σ H D I h;apply wpAny_execs_cons (bb (h1 pins s σ H D I h) λf s1 q=>?_);cases f with
 |next=>exact wpAny_execs_nil q
 |ret v=>exact q
 |brk=>exact q
 |cont=>exact q
theorem Inv.quiet{pins:List (Addr × Obj)}{H:Hp}{s:Ab}(I:Inv X pins σ H s):interactive X.env=false:=by simp[interactive,I.ok.kind]
def FC(te:TE):TS:=λD σ H=>te σ H λ_ H1=>D.nx σ H1
theorem gP(he:PE X e te)(hs:swapsWith e none pos.line X.env=pure false:=by rfl):PS X (.Expr e pos) (FC te):=by
 intro pins s σ H D I h;exact wpAny_Expr_any (bb (he pins s σ H _ I h) λv s1 ⟨x,H1,I1,r1,q1⟩=>#[σ,H1,I1,q1]) I.quiet hs
def Nr(te:TE):TS:=λD σ H=>te σ H D.rt
theorem bo(he:PE X e te):PS X (.Return (some e) pos) (Nr te):=by
 intro pins s σ H D I h;exact wpAny_Return_some (bb (he pins s σ H _ I h) λv s1 ⟨x,H1,I1,r1,q1⟩=>#[x,σ,H1,I1,r1,q1])
def Nz(c:TT)(t u:TS):TS:=λD σ H=>c σ H λb H1=>if b=true then t D σ H1 else u D σ H1
theorem bP{a b:List Stmt}{tc:TT}(hc:PT X c tc)(ha:mX X a t)(hb:mX X b u):PS X (.If c a b pos) (Nz tc t u):=by
 intro pins s σ H D I h;apply wpAny_If (bb (hc pins s σ H _ I h) λd s1 ⟨H1,I1,q1⟩=>?_);cases d with
 |true=>exact ha pins s1 σ H1 D I1 q1
 |false=>exact hb pins s1 σ H1 D I1 q1
def tK:TS:=λ_ _ _=>False
theorem jx_:PS X st tK:=λ_ _ _ _ _ _ h=>h.elim
theorem fH{sts:List Stmt}:mX X sts tK:=λ_ _ _ _ _ _ h=>h.elim
end
abbrev TG:=V->St->Hp->(St->Hp->Prop)->Prop
abbrev DF:=ai->St->Hp->(St->Hp->Prop)->Prop
def PG(X:Cx)(target:Expr)(t:TG):Prop:=
 ∀(pins:List (Addr × Obj)) (s:Ab) (σ:St) (H:Hp) (v:V) (u:Aa) (Q:bZ),Inv X pins σ H s->RelV v u->t v σ H Q->
  wpAny (model X.prog X.w) X.A (assign target X.env u) (λ_ s'=>∃bt H',Inv X pins bt H' s'/\Q bt H') X.xe s
def KM(X:Cx)(ts:List Expr)(t:DF):Prop:=
 ∀(pins:List (Addr × Obj)) (s:Ab) (σ:St) (H:Hp) (vs:ai) (us:aq) (Q:bZ),Inv X pins σ H s->Vals vs us->t vs σ H Q->
  wpAny (model X.prog X.w) X.A (assignInOrder ((assignEach ts X.env).map (·.2)) us) (λ_ s'=>∃bt H',Inv X pins bt H' s'/\Q bt H') X.xe s
abbrev DE:=V->V->V->Hp->(Hp->Prop)->Prop
def KL(X:Cx)(t:DE):Prop:=
 ∀(pins:List (Addr × Obj)) (s:Ab) (σ:St) (H:Hp) (o i v:V) (ov iv u:Aa) (Q:Hp->Prop),Inv X pins σ H s->RelV o ov->RelV i iv->RelV v u->t o i v H Q->
  wpAny (model X.prog X.w) X.A (setItem ov iv u) (λ_ s'=>∃H',Inv X pins σ H' s'/\Q H') X.xe s
variable{es:List Expr}
variable{k n:Nat}
variable{tg:Expr}{te:TE}
variable{pos':Pos}
section
variable{X:Cx}{pos:Pos}
def mN(i:Nat):TG:=λv σ H Q=>Q (σ.set i (some v)) H
theorem e_{i:Nat}{x:Str}(hN:X.N.Nodup)(hi:X.N[i]? = some x)(hx:Loc X.env.scope x)(hf:X.fn x=true∨X.env.scope.names.lookup x\.local:=by first|exact .inl Z|exact .inr Z|assumption):PG X (.Name x pos) (mN i):=by
 intro pins s σ H v u Q I r h;exact wpAny_assign_Name (XO I hN hi hx r (λs' I'=>#[_,H,I',h]) hf)
theorem mT:type_of% PyProof.Rows.Boot.«isinstance»:=PyProof.Rows.Boot.«isinstance»
theorem EG:type_of% PyProof.Rows.Boot.«int»:=PyProof.Rows.Boot.«int»
theorem Ia:type_of% PyProof.Rows.Boot.«str»:=PyProof.Rows.Boot.«str»
theorem RG:type_of% PyProof.Rows.Boot.«tuple»:=PyProof.Rows.Boot.«tuple»
theorem zm:type_of% PyProof.Rows.Boot.«list»:=PyProof.Rows.Boot.«list»
theorem zh:type_of% PyProof.Rows.Boot.«sorted»:=PyProof.Rows.Boot.«sorted»
theorem qF:type_of% PyProof.Rows.Boot.«dict»:=PyProof.Rows.Boot.«dict»
theorem H_:type_of% PyProof.Rows.Boot.«max»:=PyProof.Rows.Boot.«max»
theorem UN(i:Nat){x:Str}(hN:X.N.Nodup:=by first|(show ([_]:List Str).Nodup;decide +kernel)|(show ([_,_]:List Str).Nodup;decide +kernel)|(show ([_,_,_]:List Str).Nodup;decide +kernel)|(show ([_,_,_,_]:List Str).Nodup;decide +kernel))(hi:X.N[i]? = some x:=by rfl)(hx:Loc X.env.scope x:=by first|exact Or.inl Z|exact Or.inr Z)(hf:X.fn x=true∨X.env.scope.names.lookup x\.local:=by first|exact .inl Z|exact .inr Z|assumption):PG X (.Name x pos) (mN i):=e_ hN hi hx hf
theorem bN(i:Nat){x:Str}(hN:X.N.Nodup)(hi:X.N[i]? = some x:=by rfl)(hx:Loc X.env.scope x:=by first|exact Or.inl Z|exact Or.inr Z)(hf:X.fn x=true∨X.env.scope.names.lookup x\.local:=by first|exact .inl Z|exact .inr Z|assumption):PG X (.Name x pos) (mN i):=e_ hN hi hx hf
def yO:DF:=λvs σ H Q=>vs=[]/\Q σ H
inductive xb (t:TG) (u:DF) (vs:ai) (σ:St) (H:Hp) (Q:bZ):Prop
 |mk:∀v r,vs=v::r->(t v σ H λbt H'=>u r bt H' Q)->xb t u vs σ H Q
theorem iA:KM X [] yO:=by
 intro pins s σ H vs us Q I r h;let#[e,h]:=h;subst e;cases r;exact assignInOrder_nil ⟨σ,H,I,h⟩
theorem cU{e:Expr}{t:TG}{u:DF}(h1:PG X e t)(h2:KM X es u)(hs:(assignEach (e::es) X.env).map (·.2)=assign e X.env::(assignEach es X.env).map (·.2):=by rfl):KM X (e::es) (xb t u):=by
 intro pins s σ H vs us Q I r h;let#[v,vr,e1,h]:=h;subst e1;cases r with
 |cons r rr=>
  rw[hs];apply assignInOrder_cons (bb (h1 pins s σ H _ _ _ I r h) λ_ s1 ⟨pG,H1,I1,q1⟩=>?_);exact h2 pins s1 pG H1 _ _ Q I1 rr q1
inductive j0 (K:af) (n:Nat) (t:DF) (v:V) (σ:St) (H:Hp) (Q:bZ):Prop
 |mk:∀a xs,v=.ref a->i6 K H a xs->xs.length=n->t xs σ H Q->j0 K n t v σ H Q
theorem ju{t:DF}(hc:X.calm=true)(h:KM X es t)(hn:(assignEach es X.env).length=n:=by rfl)(B8:(assignEach es X.env).findIdx? (·.1)=none:=by rfl):PG X (.Tuple es k pos) (j0 X.K n t):=by
 intro pins s σ H v u Q I r hw;let#[a,xs,e1,hq,hl,hw]:=hw;subst e1;cases r;let#[its,rv,ht,hz]:=I.tuple hq;apply assign_Tuple_tuple (I.ok.hd hc) ht (by simp[hn,<- hl,rv.length]) B8 λh' hx=>?_;have I1:Inv X pins σ H { s with heap:=h' }:=I.kept (t':=s.toks) λb o e=>hx b o (eV (cK e)) e;exact h pins _ σ H xs _ Q I1 ⇑rv hw
def Qo(to ti:TE)(t:DE):TG:=λv σ H Q=>to σ H λo H1=>ti σ H1 λi H2=>t o i v H2 λH3=>Q σ H3
theorem VE{o i:Expr}{to ti:TE}{t:DE}(ho:PE X o to)(hi:PE X i ti)(hs:KL X t)
  (ha:∀v,assign (.Subscript o i pos) X.env v=(do
   let ov <- holding [v] (eval o X.env)
   let iv <- holding [v,ov] (eval i X.env)
   standAt pos
   holding [v,ov,iv] (setItem ov iv v)
   release [v,ov,iv] []):=by intro _;rfl):PG X (.Subscript o i pos) (Qo to ti t):=by
 intro pins s σ H v u Q I r h;rw[ha];apply aP (wpAny_holding (bb (ho pins s σ H _ I h) λov s1 ⟨x,H1,I1,r1,q1⟩=>?_));apply aP (wpAny_holding (bb (hi pins s1 σ H1 _ I1 q1) λiv s2 ⟨y,H2,I2,r2,q2⟩=>?_));apply aP (wpAny_standAt (aP (wpAny_holding (bb (hs pins s2 σ H2 x y v ov iv u _ I2 r1 r2 r q2) λ_ s3 ⟨H3,I3,q3⟩=>?_))));exact wpAny_release #[σ,H3,I3,q3]
def Bm(te:TE)(g:TG):TS:=λD σ H=>te σ H λx H1=>g x σ H1 D.nx
theorem C6{e:Expr}{g:TG}(he:PE X e te)(hg:PG X tg g)(hs:swapsWithSole [tg] e pos.line X.env=pure false:=by rfl)(hw:swappedStores [tg] e X.env=pure none:=by rfl)(h1:(assignEach [tg] X.env).map (·.2)=[assign tg X.env]:=by rfl):PS X (.Assign [tg] e pos) (Bm te g):=by
 intro pins s σ H D I h;apply wpAny_Assign_stores (bb (he pins s σ H _ I h) λv s1 ⟨x,H1,I1,r1,q1⟩=>?_) hs hw;rw[h1];exact bb (hg pins s1 σ H1 x v _ I1 r1 q1) λ_ s2 q=>q
theorem Vm{i:Nat}{x:Str}{e:Expr}(hN:X.N.Nodup)(hi:X.N[i]? = some x)(hx:Loc X.env.scope x)(he:PE X e te)(hs:swapsWith e (some (.Name x pos')) pos.line X.env=pure false:=by rfl)(hf:X.fn x=true∨X.env.scope.names.lookup x\.local:=by first|exact .inl Z|exact .inr Z|assumption) :
  PS X (.Assign [.Name x pos'] e pos) (Bm te (mN i)):=by
 intro pins s σ H D I h;apply wpAny_Assign_Name (bb (he pins s σ H _ I h) λv s1 ⟨y,H1,I1,r1,q1⟩=>?_) hs;exact XO I1 hN hi hx r1 (λs2 I2=>#[_,H1,I2,q1]) hf
theorem aO(i:Nat){x:Str}{e:Expr}(hN:X.N.Nodup)(he:PE X e te)(hi:X.N[i]? = some x:=by rfl)(hx:Loc X.env.scope x:=by first|exact Or.inl Z|exact Or.inr Z)(hs:swapsWith e (some (.Name x pos')) pos.line X.env=pure false:=by rfl)(hf:X.fn x=true∨X.env.scope.names.lookup x\.local:=by first|exact .inl Z|exact .inr Z|assumption):PS X (.Assign [.Name x pos'] e pos) (Bm te (mN i)):=Vm hN hi hx he hs hf
end
variable{body:List Stmt}{tb:TS}
section
variable{X:Cx}{pos:Pos}
def tD(c:TT)(tb:TS):TS:=λD σ H=>∃W:Nat->St->Hp->Prop,(∃m,W m σ H)/\∀m σ H,W m σ H->
 c σ H λb H1=>if b=true then ∃N:St->Hp->Prop,(∀bt H',N bt H'->∃m',m'<m/\W m' bt H')/\tb { D with nx:=N,ct:=N,bk:=D.nx } σ H1 else D.nx σ H1
theorem IJ{tc:TT}(hp:PassesOwn (model X.prog X.w) X.A X.env X.xe)(hc:PT X c tc)(hb:mX X body tb):PS X (.While c body [] pos) (tD tc tb):=by
 intro pins s σ H D I h;let#[W,#[m0,w0],turn]:=h;apply wpAny_While (codeAny_whileLoop (λn s'=>∃bt H',Inv X pins bt H' s'/\W n bt H') ?_ m0 #[σ,H,I,w0]);rintro n s1 ⟨pG,H1,I1,w1⟩;apply wpAny_passesOwn hp (bb (hc pins s1 pG H1 _ I1 (turn n pG H1 w1)) λb s2 ⟨H2,I2,q2⟩=>?_);cases b with
 |true=>
  let#[N,hN,q2]:=q2;rw[aB Z];apply wpAny_passesOwn hp (bb (hb pins s2 pG H2 _ I2 q2) λf s3 q3=>?_);cases f with
  |next=>
   let#[mz,H3,I3,n3]:=q3;let#[m',hm,w3]:=hN mz H3 n3;exact#[m',hm,mz,H3,I3,w3]
  |cont=>
   let#[mz,H3,I3,n3]:=q3;let#[m',hm,w3]:=hN mz H3 n3;exact#[m',hm,mz,H3,I3,w3]
  |brk=>exact q3
  |ret v=>exact q3
 |false=>
  rw[au hJ];exact wpAny_execs_nil #[pG,H2,I2,q2]
end
structure It where
 go:Nat->Hp->Prop
 xK:Nat->Hp->V->Hp->Prop
 stop:Nat->Hp->Prop
def dI(X:Cx)(pins:List (Addr × Obj))(H:Hp)(b:Addr):Prop:=
 H b=none/\b≠X.env.locals/\b∉X.fs/\(b∈X.ex∨X.dD.heap.objs.size<=b)/\(∀x c,X.env.cells.lookup x\c->c≠b)/\∀p∈X.pn++pins,p.1≠b
variable{b:Addr}
theorem Inv.j4{X:Cx}{pins:List (Addr × Obj)}{H H':Hp}{s:Ab}(I:Inv X pins σ H s)(hb:s.heap.objs.size<=b)(hn:H' b=none):dI X pins H' b:=by
 apply#[hn,xt (kG I.lt hb),I.Ol hb,.inr (qJ I.sz hb),λx c e z=>?_,λp hp z=>?_]
 ·let#[v,q]:=I.cell x c e;exact absurd (kG q.lt (by rw[z];exact hb)) (vT _)
 exact absurd (kG (cK (I.pin p hp).1) (by rw[z];exact hb)) (vT _)
structure Turn (P:Ae) (w:Af) (K:af) (tg:Expr) (J:It) (fp:az) (it:Addr) (tn:Nat->Heap->Prop):Prop where
 mem:it∈fp
 obj:∀i h,tn i h->∀b∈fp,∃o,h.get? b\o/\∀v,o.data≠.cell v
 keep:∀i h h',tn i h->(∀b∈fp,∀o,h.get? b\o->h'.get? b\o)->tn i h'
 item:∀(X:Cx),X.prog=P->X.w=w->X.K=K->X.calm=true->∀(i:Nat) (pins:List (Addr × Obj)) (s:Ab) (σ:St) (H:Hp) (E:Aa->Ab->Prop),Inv X pins σ H s->(∀b∈fp,dI X pins H b)->tn i s.heap->J.go i H->
  wpAny (model P w) X.A (pyNext (.ref it)) (λr s1=>∃u,r\u /\
   wpAny (model P w) X.A (letOwnedTupleGo tg (.ref it) u) (λ_ s2=>∃x H',Inv X pins σ H' s2/\RelV x u/\J.xK i H x H'/\tn (i+1) s2.heap/\∀b∈fp,H' b=none) E s1) E s
 done:∀(X:Cx),X.prog=P->X.w=w->X.K=K->X.calm=true->∀(i:Nat) (pins:List (Addr × Obj)) (s:Ab) (σ:St) (H:Hp) (E:Aa->Ab->Prop),Inv X pins σ H s->(∀b∈fp,dI X pins H b)->tn i s.heap->J.stop i H->
  wpAny (model P w) X.A (pyNext (.ref it)) (λr s1=>r=none/\Inv X pins σ H s1) E s
 self:∀(A:Ag) (i:Nat) (s:Ab) (Q:Aa->Ab->Prop) (E:Aa->Ab->Prop),tn i s.heap->Q (.ref it) s->wpAny (model P w) A (pyIter (.ref it)) Q E s
abbrev TI:=St->Hp->(It->Hp->Prop)->Prop
def _g(X:Cx)(pins:List (Addr × Obj))(σ:St)(tg:Expr)(R:It->Hp->Prop)(Lp:Aa)(s2:Ab):Prop:=
 ∃(it:Addr) (fp:az) (tn:Nat->Heap->Prop) (J:It) (H':Hp),Lp=.ref it/\Inv X pins σ H' s2/\Turn X.prog X.w X.K tg J fp it tn/\tn 0 s2.heap/\(∀b∈fp,dI X pins H' b)/\R J H'
def PI(X:Cx)(tg iter:Expr)(wi:TI):Prop:=
 ∀(pins:List (Addr × Obj)) (s:Ab) (σ:St) (H:Hp) (R:It->Hp->Prop),Inv X pins σ H s->wi σ H R->
  wpAny (model X.prog X.w) X.A (eval iter X.env) (λv s1=>wpAny (model X.prog X.w) X.A (pyIter v) (_g X pins σ tg R) X.xe s1) X.xe s
variable{u:Aa}{o:Obj}
theorem El{M:Model}{A:Ag}{E:Aa->Ab->Prop}{s:Ab}{it:Addr}{n:String}{vs:Array Aa}{Q:Unit->Ab->Prop}(ho:s.heap.get? it\o)(hc:o.cls=.type n)(hd:o.data=.fields vs)(hn:["enumerate","zip","dict_itemiterator","dict_reverseitemiterator","odict_iterator","itertools.zip_longest","itertools.pairwise"].contains n=false)(hQ:Q () s):wpAny M A (letOwnedTupleGo tg (.ref it) u) Q E s:=by
 unfold letOwnedTupleGo
 cases tg<;>first
  |exact bR hQ
  |(cases u<;>first
    |exact bR hQ
    |(apply aP (wpAny_load ho ?_)
      rw[hc,hd];show wpAny M A (if (["enumerate","zip","dict_itemiterator","dict_reverseitemiterator","odict_iterator","itertools.zip_longest","itertools.pairwise"].contains n&&vs[0]? == some (rawInt _))=true then _ else _) Q E s;rw[au (by intro h;rw[hn,r9] at h;cases h)];exact bR hQ))
def Bc(K:af)(a:Addr):It:=
 ⟨λi H=>∃xs x,eG K H a xs/\xs[i]? = some x,λi H x H'=>H'=H/\∀xs,eG K H a xs->xs[i]? = some x,λi H=>∃xs,eG K H a xs/\xs.length<=i⟩
def Fb(lo:Int)(n:Nat):It:=⟨λi _=>i<n,λi H x H'=>H'=H/\x=.int (lo+i),λi _=>n<=i⟩
variable{P:Ae}{w:Af}
theorem iQ_{K:af}(a it:Addr):Turn P w K tg (Bc K a) [it] it (λi h=>h.IsListIter it a i) where
 mem:=by simp
 obj:=λi h st b hb=>by
  have e:b=it:=⇑hb
  subst e;let#[o,e,c,d]:=st;exact#[o,e,λv z=>by rw[d] at z;cases z]
 keep:=λi h h' st k=>st.at λo e=>k it Z2 o e
 item:=by
  intro X hP hw hK hc i pins s σ H E I hf st hg;subst hP hw hK;let#[xs,x,hq,hx]:=hg;let#[its,rv,p,hz]:=I.list hq;let#[u,hu,ru]:=rv.get hx;let#[f0,f1,f2,f3,f4,f5]:=hf it Z2;apply wpAny_pyNext_list_item st p.isList (x:=u) ⇑hu λh' fL sb=>?_;have I1:Inv X pins σ H { s with heap:=h' }:=I.turned (t':=s.toks) (λb o hb e=>(sb.2 b hb).trans e) f0 f1 f3 f4 f5;let#[o,e,c,d]:=id fL;exact#[u,Z,El (s:={ s with heap:=h' }) e c d (by decide) #[x,H,I1,ru,#[Z,λys hy=>by rw[I.lK hy hq];exact hx],fL,λb hb=>(hf b hb).1]]
 done:=by
  intro X hP hw hK hc i pins s σ H E I hf st hg;subst hP hw hK;let#[xs,hq,hx]:=hg;let#[its,rv,p,hz]:=I.list hq;let#[f0,f1,f2,f3,f4,f5]:=hf it Z2;let hl:=rv.length;exact wpAny_pyNext_list_end (I.ok.hd hc) st p.isList (by simp;omega) λh' eb=>#[Z,I.turned (t':=s.toks) (λb o hb e=>eb b o hb e) f0 f1 f3 f4 f5]
 self:=λ_ _ _ _ _ st h=>wpAny_pyIter_listiter st h
theorem gU_{K:af}(it:Addr)(lo:Int)(n:Nat):Turn P w K tg (Fb lo n) [it] it (λi h=>IsRangeIter h it (lo+(i:Nat) * 1) ((n:Int) - (i:Nat)) 1) where
 mem:=by simp
 obj:=λi h st b hb=>by
  have e:b=it:=⇑hb
  subst e
  exact#[_,st,λv z=>by
   have z':Data.fields _=Data.cell v:=z;cases z']
 keep:=λi h h' st k=>k it Z2 _ st
 item:=by
  intro X hP hw hK hc i pins s σ H E I hf st hg;subst hP hw hK;let#[f0,f1,f2,f3,f4,f5]:=hf it Z2;let W:=Walks.range (prog:=X.prog) (w:=X.w) (I.ok.hd hc) it lo 1 n;apply W.item i s _ _ hg st λv h' tk hv fL kk=>?_;let#[t,rfl]:=hv;have I1:Inv X pins σ H { s with heap:=h',toks:=tk }:=I.turned (λb o hb e=>kk b o ⇑hb e) f0 f1 f3 f4 f5;apply#[_,Z,El (s:={ s with heap:=h',toks:=tk }) (n:="range_iterator") fL Z Z (by decide) #[.int (lo+i),H,I1,#[t,?_],#[Z,Z],fL,λb hb=>(hf b hb).1]];rw[Int.mul_one]
 done:=by
  intro X hP hw hK hc i pins s σ H E I hf st hg;subst hP hw hK;let#[f0,f1,f2,f3,f4,f5]:=hf it Z2;exact wpAny_pyNext_range_end (I.ok.hd hc) st (by have:n<=i:=hg;omega) λh' eb=>#[Z,I.turned (t':=s.toks) (λb o hb e=>eb b o hb e) f0 f1 f3 f4 f5]
 self:=λ_ _ _ _ _ st h=>wpAny_pyIter_rangeiter st h
inductive vo (K:af) (R:It->Hp->Prop) (x:V) (H1:Hp):Prop
 |mk:∀a,x=.ref a->(∃xs,eG K H1 a xs)->R (Bc K a) H1->vo K R x H1
def GT(K:af)(tl:TE):TI:=λσ H R=>tl σ H λx H1=>vo K R x H1
variable{X:Cx}
theorem dA{l:Expr}{tl:TE}(hl:PE X l tl):PI X tg l (GT X.K tl):=by
 intro pins s σ H R I h;apply bb (hl pins s σ H _ I h) λv s1 ⟨x,H1,I1,r1,q1⟩=>?_;let#[a,e,#[xs,hq],q]:=q1;subst e;cases r1;let#[its,rv,p,hz]:=I1.list hq;apply wpAny_pyIter_list p.isList ?_;apply#[s1.heap.objs.size,[s1.heap.objs.size],_,_,H1,Z,I1.kept (t':=s1.toks) λb o e=>cO _ e,iQ_ a _,#[_,fI _ Z,Z,Z],λb hb=>?_,q];have e:b=s1.heap.objs.size:=⇑hb
 subst e;exact I1.j4 (bq _) (I1.aN.fresh (bq _))
variable{pins:List (Addr × Obj)}
theorem jA_{H:Hp}{s:Ab}{R:It->Hp->Prop}{E:Aa->Ab->Prop}{lo hi:Int}{t u v:Tok}{tk:Nat}(I:Inv X pins σ H s)(h1:-(2 ^ 62)<=lo)(h2:lo<2 ^ 62)(h3:-(2 ^ 62)<=hi)(h4:hi<2 ^ 62)(q:R (Fb lo (hi - lo).toNat) H):wpAny (model X.prog X.w) X.A (pyIter (.ref s.heap.objs.size)) (_g X pins σ tg R) E { s with heap:=s.heap.push { cls:=.type "range",data:=.fields (List.toArray [.int lo t,.int hi u,.int 1 v]) },toks:=tk }:=by
 apply wpAny_pyIter_range (IsRange.new ..) (small_one h1 h2 h3 h4) ?_;have I1:Inv X pins σ H { s with heap:=s.heap.push { cls:=.type "range",data:=.fields (List.toArray [.int lo t,.int hi u,.int 1 v]) },toks:=tk }:=I.kept λb o e=>cO _ e
 apply#[(s.heap.push { cls:=.type "range",data:=.fields (List.toArray [.int lo t,.int hi u,.int 1 v]) }).objs.size,[(s.heap.push { cls:=.type "range",data:=.fields (List.toArray [.int lo t,.int hi u,.int 1 v]) }).objs.size],_,_,H,Z,
  I1.kept (t':=tk) λb o e=>cO _ e,gU_ _ lo (hi - lo).toNat,?_,λb hb=>?_,q]
 ·have e1:lo+((0:Nat):Int) * 1=lo:=by simp
  have e2:(((hi - lo).toNat:Nat):Int) - ((0:Nat):Int)=Builtin.Range.rangeSize lo hi 1:=by rw[rangeSize_one];split<;>omega
  show IsRangeIter _ _ (lo+((0:Nat):Int) * 1) ((((hi - lo).toNat:Nat):Int) - ((0:Nat):Int)) 1;rw[e1,e2];exact fI _ Z
 have e:b=(s.heap.push { cls:=.type "range",data:=.fields (List.toArray [.int lo t,.int hi u,.int 1 v]) }).objs.size:=⇑hb
 subst e;exact I1.j4 (bq _) (I1.aN.fresh (bq _))
inductive vn (R:It->Hp->Prop) (vs:ai) (H1:Hp):Prop
 |mk:∀j:Int,vs=[.int j]->-(2 ^ 62)<=j->j<2 ^ 62->R (Fb 0 j.toNat) H1->vn R vs H1
def GR(ta:TA):TI:=λσ H R=>ta σ H λvs H1=>vn R vs H1
variable{p:Pos}
theorem EW{a:Expr}{ta:TA}(hg:Gl X "range")(hm:X.mg "range"=none)(ha:PA X [a] ta)(hs:starEach [a] X.env=[(false,eval a X.env)]:=by rfl):PI X tg (.Call (.Name "range" p) [a] [] pos) (GR ta):=by
 intro pins s σ H R I h;apply Call_ (EA I hg hm boot_range (PyProof.Rows.callWith_type1 (bb (ha pos pins s σ H _ I h) λus s1 ⟨vs,H1,I1,r1,q1⟩=>?_) hs Z));let#[j,e,q1,q2,q]:=q1;subst e;cases r1 with
 |cons r rr=>
  cases rr;let#[t,rfl]:=r;exact call_range_1 (jA_ I1 Z1 Z1 q1 q2 ⇑q)
def NA(wi:TI)(g:TG)(tb:TS):TS:=λD σ H=>wi σ H λJ H1=>∃W:Nat->Nat->St->Hp->Prop,(∃m,W 0 m σ H1)/\∀i m σ H,W i m σ H->
 (J.stop i H/\D.nx σ H)∨(J.go i H/\∃N:St->Hp->Prop,(∀bt H',N bt H'->∃m',m'<m/\W (i+1) m' bt H')/\∀x H',J.xK i H x H'->g x σ H' λgQ H2=>tb { D with nx:=N,ct:=N,bk:=D.nx } gQ H2)
def zf(fp:az)(h:Heap):List (Addr × Obj):=fp.filterMap λb=>(h.get? b).map λo=>(b,o)
variable{fp:az}{h:Heap}
theorem MV(hb:b∈fp)(e:h.get? b\o):(b,o)∈zf fp h:=zv.mpr #[b,hb,by rw[e];rfl]
theorem iM_{p:Addr × Obj}(hp:p∈zf fp h):p.1∈fp/\h.get? p.1\p.2:=by
 let#[b,hb,e]:=zv.mp hp;cases q:h.get? b with
 |none=>rw[q] at e;cases e
 |some o=>
  rw[q] at e;have e':(b,o)=p:=eK e;subst e';exact#[hb,q]
theorem Inv.pinned{H:Hp}{s:Ab}(I:Inv X pins σ H s)(hf:∀b∈fp,dI X pins H b)(ho:∀b∈fp,∃o,s.heap.get? b\o/\∀v,o.data≠.cell v):Inv X (pins++zf fp s.heap) σ H s:=
 I.qg λp hp=>(fR.mp hp).elim (λz=>I.pin p (pf _ z)) λz=>by
  let#[hb,e]:=iM_ z;let#[f0,f1,f2,_]:=hf p.1 hb;let#[o,e',d]:=ho p.1 hb;rw[e] at e';cases e';exact#[e,f0,f1,f2,d]
theorem Inv.fe{pl:List (Addr × Obj)}{H:Hp}{s:Ab}(I:Inv X (pins++pl) σ H s):Inv X pins σ H s:=I.qg λp hp=>I.pin p (pf _ (List.mem_append_left _ hp))
theorem eE{iter:Expr}{wi:TI}{g:TG}(hp:PassesOwn (model X.prog X.w) X.A X.env X.xe)(hc:X.calm=true)(hi:PI X tg iter wi)(hg:PG X tg g)(hb:mX X body tb)(hs:∀x,foldedSetIterable iter X.env x=pure x:=by intro _;rfl):PS X (.For tg iter body [] pos) (NA wi g tb):=by
 intro pins s σ H D I h;apply wpAny_For (bb (hi pins s σ H _ I h) λv s1 h1=>bb h1 λLp s2 h2=>?_) hs;let#[it,fp,tn,J,H2,e,I2,T,fK,f2,W,#[m0,w0],turn]:=h2;subst e;have Bn:∀{H':Hp},(∀b∈fp,H' b=none)->∀b∈fp,dI X pins H' b:=λhn b hb=>#[hn b hb,(f2 b hb).2];apply codeAny_forLoop_any (λn s'=>∃i bt H',Inv X pins bt H' s'/\tn i s'.heap/\(∀b∈fp,H' b=none)/\W i n bt H') ?_ m0 #[0,σ,H2,I2,fK,λb hb=>(f2 b hb).1,w0];rintro n s3 ⟨i,mz,H3,I3,gR,HX,w3⟩;rcases turn i n mz H3 w3 with⟨stop,qn⟩|⟨go,N,hN,step⟩
 ·apply wpAny_passesOwn hp (bb (T.done X Z Z Z hc i pins s3 mz H3 X.xe I3 (Bn HX) gR stop) λr s4 ⟨hr,I4⟩=>?_);subst hr;exact wpAny_execs_nil #[mz,H3,I4,qn]
 apply wpAny_passesOwn hp (bb (T.item X Z Z Z hc i pins s3 mz H3 X.xe I3 (Bn HX) gR go) λr s4 ⟨u,hr,h4⟩=>?_);subst hr;apply wpAny_passesOwn hp (bb h4 λ_ s5 ⟨x,H5,I5,r5,y5,gq,qy⟩=>?_);let I5':=I5.pinned (Bn qy) (T.obj _ _ gq);apply wpAny_passesOwn hp (bb (hg _ s5 mz H5 x u _ I5' r5 (step x H5 y5)) λ_ s6 ⟨_o,H6,I6,q6⟩=>?_);apply wpAny_passesOwn hp (bb (hb _ s6 _o H6 _ I6 q6) λf s7 q7=>?_)
 have again:∀{s_:St} {H7:Hp},Inv X (pins++zf fp s5.heap) s_ H7 s7->N s_ H7->∃m,m<n/\∃i bt H',Inv X pins bt H' s7/\tn i s7.heap/\(∀b∈fp,H' b=none)/\W i m bt H':=λ{s_ H7} I7 n7=>by
  let#[m',hm,w7]:=hN s_ H7 n7;apply#[m',hm,i+1,s_,H7,I7.fe,T.keep _ _ _ gq λb hb o e=>(I7.pin (b,o) (pf _ (pf _ (MV hb e)))).1,λb hb=>?_,w7];let#[o,e,d]:=T.obj _ _ gq b hb;exact (I7.pin (b,o) (pf _ (pf _ (MV hb e)))).2.1
 cases f with
 |next=>let#[s_,H7,I7,n7]:=q7;exact again I7 n7
 |cont=>let#[s_,H7,I7,n7]:=q7;exact again I7 n7
 |brk=>let#[s_,H7,I7,q7]:=q7;exact#[s_,H7,I7.fe,q7]
 |ret v=>let#[x7,s_,H7,I7,r7,q7]:=q7;exact#[x7,s_,H7,I7.fe,r7,q7]
theorem fY{K:af}{a:Addr}{xs:ai}{g:TG}{D:Ends}{H:Hp}(Pv:bI)(h0:Pv 0 σ H)(hl:∀i σ H,i<=xs.length->Pv i σ H->eG K H a xs)(hs:∀i x σ H,xs[i]? = some x->Pv i σ H->g x σ H λgQ H2=>tb { D with nx:=Pv (i+1),ct:=Pv (i+1),bk:=D.nx } gQ H2)(hd:∀σ H,Pv xs.length σ H->D.nx σ H) :
  ∃W:Nat->Nat->St->Hp->Prop,(∃m,W 0 m σ H)/\∀i m σ H,W i m σ H->
   ((Bc K a).stop i H/\D.nx σ H)∨((Bc K a).go i H/\∃N:St->Hp->Prop,(∀bt H',N bt H'->∃m',m'<m/\W (i+1) m' bt H')/\∀x H',(Bc K a).xK i H x H'->g x σ H' λgQ H2=>tb { D with nx:=N,ct:=N,bk:=D.nx } gQ H2):=by
 apply#[λi m σ H=>m=xs.length - i/\i<=xs.length/\Pv i σ H,#[xs.length,by simp,gF _,h0],?_];rintro i m σ H ⟨rfl,hi,p⟩;let q:=hl i σ H hi p;by_cases dm:i<xs.length
 ·apply .inr #[#[xs,xs[i],q,by simp[dm]],Pv (i+1),λbt H' p'=>#[xs.length - (i+1),by omega,Z,dm,p'],λx H' y=>?_];let#[e,y]:=y;subst e;exact hs i x σ _ (y xs q) p
 have e:i=xs.length:=by omega
 subst e;exact .inl #[#[xs,q,bq _],hd σ H p]
theorem RN{lo:Int}{g:TG}{D:Ends}{H:Hp}(Pv:bI)(h0:Pv 0 σ H)(hs:∀i σ H,i<n->Pv i σ H->g (.int (lo+i)) σ H λgQ H2=>tb { D with nx:=Pv (i+1),ct:=Pv (i+1),bk:=D.nx } gQ H2)(hd:∀σ H,Pv n σ H->D.nx σ H) :
  ∃W:Nat->Nat->St->Hp->Prop,(∃m,W 0 m σ H)/\∀i m σ H,W i m σ H->
   ((Fb lo n).stop i H/\D.nx σ H)∨((Fb lo n).go i H/\∃N:St->Hp->Prop,(∀bt H',N bt H'->∃m',m'<m/\W (i+1) m' bt H')/\∀x H',(Fb lo n).xK i H x H'->g x σ H' λgQ H2=>tb { D with nx:=N,ct:=N,bk:=D.nx } gQ H2):=by
 apply#[λi m σ H=>m=n - i/\i<=n/\Pv i σ H,#[n,by simp,gF _,h0],?_];rintro i m σ H ⟨rfl,hi,p⟩;by_cases dm:i<n
 ·apply .inr #[dm,Pv (i+1),λbt H' p'=>#[n - (i+1),by omega,Z,dm,p'],λx H' y=>?_];let#[e,y]:=y;subst e y;exact hs i σ _ dm p
 have e:i=n:=by omega
 subst e;exact .inl #[bq _,hd σ H p]
theorem X8{c:TT}{D:Ends}{H:Hp}(Pv:bZ)(μ:St->Hp->Nat)(h0:Pv σ H)(hs:∀σ H,Pv σ H->c σ H λb H1=>if b=true then tb { D with nx:=λbt H'=>Pv bt H'/\μ bt H'<μ σ H,ct:=λbt H'=>Pv bt H'/\μ bt H'<μ σ H,bk:=D.nx } σ H1 else D.nx σ H1)(mono:∀σ H Q Q',(∀b H1,Q b H1->Q' b H1)->c σ H Q->c σ H Q'):tD c tb D σ H:=by
 apply#[λm σ H=>m=μ σ H/\Pv σ H,#[_,Z,h0],?_];rintro m σ H ⟨rfl,p⟩;apply mono σ H _ _ (λb H1 q=>?_) (hs σ H p);cases b with
 |true=>exact#[_,λbt H' ⟨p',l⟩=>#[_,l,Z,p'],q]
 |false=>exact q
abbrev R2:=V->V->Hp->VK->Prop
def eQ(X:Cx)(f:Aa->Aa->Sem Aa)(r:R2):Prop:=
 ∀(pins:List (Addr × Obj)) (s:Ab) (σ:St) (H:Hp) (x y:V) (v u:Aa) (Q:VK),Inv X pins σ H s->RelV x v->RelV y u->r x y H Q->
  wpAny (model X.prog X.w) X.A (f v u) (EP X pins σ Q) X.xe s
def TN(X:Cx)(f:Aa->Sem Aa)(r:V->Hp->VK->Prop):Prop:=
 ∀(pins:List (Addr × Obj)) (s:Ab) (σ:St) (H:Hp) (x:V) (v:Aa) (Q:VK),Inv X pins σ H s->RelV x v->r x H Q->
  wpAny (model X.prog X.w) X.A (f v) (EP X pins σ Q) X.xe s
def gD(X:Cx)(f:Aa)(r:ai->Hp->VK->Prop):Prop:=
 ∀(pins:List (Addr × Obj)) (s:Ab) (σ:St) (H:Hp) (xs:ai) (us:aq) (Q:VK),Inv X pins σ H s->Vals xs us->r xs H Q->
  wpAny (model X.prog X.w) X.A (call f us) (EP X pins σ Q) X.xe s
def Fw(r:R2)(ta tb:TE):TE:=λσ H Q=>ta σ H λx H1=>tb σ H1 λy H2=>r x y H2 Q
def tUn(r:V->Hp->VK->Prop)(ta:TE):TE:=λσ H Q=>ta σ H λx H1=>r x H1 Q
inductive rI (C:Int->Int->Prop) (g:Int->Int->V) (x:V) (y:V) (H:Hp) (Q:VK):Prop
 |mk:∀i j,x=.int i->y=.int j->C i j->Q (g i j) H->rI C g x y H Q
inductive yj (g:Int->Int->V) (x:V) (y:V) (H:Hp) (Q:VK):Prop
 |mk:∀i j,x=.int i->y=.int j->Q (g i j) H->yj g x y H Q
inductive rU (g:Int->V) (x:V) (H:Hp) (Q:VK):Prop
 |mk:∀i,x=.int i->Q (g i) H->rU g x H Q
variable{r:R2}
variable{g:Int->Int->Int}
variable{j:Int}
section
variable{X:Cx}{a b c:Expr}{ta tb tc:TE}{pos:Pos}
theorem Do(ha:PE X a ta)(hb:PE X b tb){s:Ab}{H:Hp}{R:V->V->Hp->Prop}(I:Inv X pins σ H s)(h:ta σ H λx H1=>tb σ H1 λy H2=>R x y H2){Q:Aa->Ab->Prop}{f:Aa->Aa->Sem Aa}(hf:∀v u s2 x y H2,Inv X pins σ H2 s2->RelV x v->RelV y u->R x y H2->wpAny (model X.prog X.w) X.A (f v u) Q X.xe s2) :
  wpAny (model X.prog X.w) X.A (eval a X.env) (λv bf=>wpAny (model X.prog X.w) X.A (eval b X.env) (λu kW=>wpAny (model X.prog X.w) X.A (f v u) Q X.xe kW) X.xe bf) X.xe s:=by
 apply bb (ha pins s σ H _ I h) λv s1 ⟨x,H1,I1,r1,q1⟩=>?_;apply bb (hb pins s1 σ H1 _ I1 q1) λu s2 ⟨y,H2,I2,r2,q2⟩=>?_;exact hf v u s2 x y H2 I2 r1 r2 q2
theorem bw{op:Operator}(ho:eQ X (binaryOp op) r)(ha:PE X a ta)(hb:PE X b tb):PE X (.BinOp a op b pos) (Fw r ta tb):=by
 intro pins s σ H Q I h;exact wpAny_BinOp (Do ha hb I h λv u s2 x y H2 I2 rx ry q=>ho pins s2 σ H2 x y v u Q I2 rx ry q)
theorem mE_{op:UnaryOp}{r:V->Hp->VK->Prop}(ho:TN X (unaryOp op) r)(ha:PE X a ta):PE X (.UnaryOp op a pos) (tUn r ta):=by
 intro pins s σ H Q I h;exact UnaryOp_ (bb (ha pins s σ H _ I h) λv s1 ⟨x,H1,I1,r1,q1⟩=>ho pins s1 σ H1 x v Q I1 r1 q1)
theorem Gg{f:Aa->Aa->Sem Aa}{C:Int->Int->Prop}(rule:∀(i j:Int) (t u:Tok) (s:Ab) (Q:Aa->Ab->Prop) (E:Aa->Ab->Prop),C i j->Q (.int (g i j) s.toks) { s with toks:=s.toks+1 }->wpAny (model X.prog X.w) X.A (f (.int i t) (.int j u)) Q E s) :
  eQ X f (rI C λi j=>.int (g i j)):=by
 intro pins s σ H x y v u Q I rx ry h;let#[i,j,rfl,rfl,hc,q]:=h;let#[t,rfl]:=rx;let#[t',rfl]:=ry;exact rule i j t t' s _ _ hc #[.int (g i j),H,I.tok _,#[_,Z],q]
theorem Gf{f:Aa->Aa->Sem Aa}(rule:∀(i j:Int) (t u:Tok) (s:Ab) (Q:Aa->Ab->Prop) (E:Aa->Ab->Prop),Q (.int (g i j) s.toks) { s with toks:=s.toks+1 }->wpAny (model X.prog X.w) X.A (f (.int i t) (.int j u)) Q E s) :
  eQ X f (yj λi j=>.int (g i j)):=by
 intro pins s σ H x y v u Q I rx ry h;let#[i,j,rfl,rfl,q]:=h;let#[t,rfl]:=rx;let#[t',rfl]:=ry;exact rule i j t t' s _ _ #[.int (g i j),H,I.tok _,#[_,Z],q]
theorem yn{f:Aa->Aa->Sem Aa}{g:Int->Int->Bool}
  (rule:∀(i j:Int) (t u:Tok) (s:Ab) (Q:Aa->Ab->Prop) (E:Aa->Ab->Prop),Q (.bool (g i j)) s->wpAny (model X.prog X.w) X.A (f (.int i t) (.int j u)) Q E s) :
  eQ X f (yj λi j=>.bl (g i j)):=by
 intro pins s σ H x y v u Q I rx ry h;let#[i,j,rfl,rfl,q]:=h;let#[t,rfl]:=rx;let#[t',rfl]:=ry;exact rule i j t t' s _ _ #[.bl (g i j),H,I,Z,q]
def Ud(i j:Int):Prop:=0<j/\j<1073741824
def Uc(i j:Int):Prop:=0<=j/\j<=1000000/\i.natAbs<2 ^ 64
def DK(i j:Int):Prop:=(-(2 ^ 64)<i/\i<2 ^ 64)∨(-(2 ^ 64)<j/\j<2 ^ 64)
theorem DK.ok{i:Int}(h:DK i j):IntMulOk i j:=by
 rcases h with⟨h1,h2⟩|⟨h1,h2⟩
 ·exact .of_left (intBits_le_64 h1 h2)
 exact .of_right (intBits_le_64 h1 h2)
theorem h9:eQ X (binaryOp .Add) (yj λi j=>.int (i+j)):=Gf λ_ _ _ _ _ _ _ q=>add_int q
theorem LH:eQ X (binaryOp .Sub) (yj λi j=>.int (i - j)):=Gf λ_ _ _ _ _ _ _ q=>sub_int q
theorem jI:eQ X (binaryOp .Mult) (rI DK λi j=>.int (i * j)):=Gg λ_ _ _ _ _ _ _ hc q=>mul_int q hc.ok
theorem vR:eQ X (binaryOp .FloorDiv) (rI Ud λi j=>.int (i / j)):=Gg λi j _ _ _ _ _ hc q=>by
 have h1:(0:Int)<j:=hc.1;have h2:j<1073741824:=hc.2;exact floordiv_int Z1 (by rw[Int.fdiv_eq_ediv_of_nonneg i Z1];exact q) (.inl (PyProof.noPylong_small Z1))
theorem sV:eQ X (binaryOp .Mod) (rI (λ_ j=>0<j) λi j=>.int (i % j)):=Gg λi j _ _ _ _ _ hc q=>by
 have h1:(0:Int)<j:=hc;exact mod_int' Z1 (by rw[Int.fmod_eq_emod_of_nonneg i Z1];exact q)
theorem OZ:eQ X (binaryOp .Pow) (rI Uc λi j=>.int (i ^ j.toNat)):=Gg λ_ _ _ _ _ _ _ hc q=>pow_int_small hc.1 hc.2.1 hc.2.2 q
theorem unI{f:Aa->Sem Aa}{g:Int->Int}
  (rule:∀(i:Int) (t:Tok) (s:Ab) (Q:Aa->Ab->Prop) (E:Aa->Ab->Prop),Q (.int (g i) s.toks) { s with toks:=s.toks+1 }->wpAny (model X.prog X.w) X.A (f (.int i t)) Q E s) :
  TN X f (rU λi=>.int (g i)):=by
 intro pins s σ H x v Q I rx h;let#[i,rfl,q]:=h;let#[t,rfl]:=rx;exact rule i t s _ _ #[.int (g i),H,I.tok _,#[_,Z],q]
theorem m0_:TN X (unaryOp .USub) (rU λi=>.int (-i)):=unI λ_ _ _ _ _ q=>neg_int q
end
def FT:V->V->Bool
 |.non,.non=>true | .non,.int _=>true | .int _,.non=>true | .non,.bl _=>true | .bl _,.non=>true | .non,.str _=>true | .str _,.non=>true
 |.int _,.int _=>true | .bl _,.bl _=>true | .str _,.str _=>true | .byt _,.byt _=>true
 |.int _,.str _=>true | .str _,.int _=>true | .bl _,.str _=>true | .str _,.bl _=>true
 |_,_=>false
def rEq:R2:=λx y H Q=>FT x y=true/\Q (.bl (decide (x=y))) H
def rNe:R2:=λx y H Q=>FT x y=true/\Q (.bl (!decide (x=y))) H
theorem VX{i:Int}:decide (V.int i=V.int j)=(i == j):=by
 rw[Bool.eq_iff_iff];simp
theorem Vs{i j:Bool}:decide (V.bl i=V.bl j)=(i == j):=by
 rw[Bool.eq_iff_iff];simp
theorem Xc{i j:Str}:decide (V.str i=V.str j)=(i == j):=by
 rw[Bool.eq_iff_iff];simp
theorem Xk{i j:Array UInt8}:decide (V.byt i=V.byt j)=(i.toList == j.toList):=by
 rw[Bool.eq_iff_iff];cases i;cases j;simp
variable{DP:CmpOp}{r':R2}
section
variable{X:Cx}{a b c:Expr}{ta tb tc:TE}{pos:Pos}
theorem fS{H:Hp}{s:Ab}{Q:VK}{k k':Bool}(I:Inv X pins σ H s)(q:Q (.bl k) H)(e:k=k'):EP X pins σ Q (.bool k') s:=by
 subst e;exact#[.bl k,H,I,Z,q]
theorem iF:eQ X (compareOp .Eq) rEq:=by
 intro pins s σ H x y v u Q I rx ry h;let#[hs,q]:=h;cases x with
 |non=>
  cases rx;cases y with
  |non=>cases ry;exact PySem.EqNone.eq_none_none (fS I q Z2)
  |bl j=>cases ry;exact PySem.EqNone.eq_none_bool (fS I q Z2)
  |int j=>let#[t',rfl]:=ry;exact PySem.EqNone.eq_none_int (fS I q Z2)
  |str j=>let#[t',rfl]:=ry;exact PySem.EqNone.eq_none_str (fS I q Z2)
  |_=>exact absurd (show false=true from hs) hJ
 |bl i=>
  cases rx;cases y with
  |non=>cases ry;exact PySem.EqNone.eq_bool_none (fS I q Z2)
  |bl j=>cases ry;exact eq_bool (fS I q Vs)
  |str j=>let#[t',rfl]:=ry;exact PySem.EqMixed.eq_bool_str (fS I q Z2)
  |_=>exact absurd (show false=true from hs) hJ
 |int i=>
  let#[t,rfl]:=rx;cases y with
  |non=>cases ry;exact PySem.EqNone.eq_int_none (fS I q Z2)
  |int j=>let#[t',rfl]:=ry;exact eq_int (fS I q VX)
  |str j=>let#[t',rfl]:=ry;exact PySem.EqMixed.eq_int_str (fS I q Z2)
  |_=>exact absurd (show false=true from hs) hJ
 |str i=>
  let#[t,rfl]:=rx;cases y with
  |non=>cases ry;exact PySem.EqNone.eq_str_none (fS I q Z2)
  |bl j=>cases ry;exact PySem.EqMixed.eq_str_bool (fS I q Z2)
  |int j=>let#[t',rfl]:=ry;exact PySem.EqMixed.eq_str_int (fS I q Z2)
  |str j=>let#[t',rfl]:=ry;exact eq_str (fS I q Xc)
  |_=>exact absurd (show false=true from hs) hJ
 |byt i=>
  let#[t,rfl]:=rx;cases y with
  |byt j=>let#[t',rfl]:=ry;exact PySem.W.eq_bytes (fS I q Xk)
  |_=>exact absurd (show false=true from hs) hJ
 |_=>cases y<;>exact absurd (show false=true from hs) hJ
theorem CJ:eQ X (compareOp .NotEq) rNe:=by
 intro pins s σ H x y v u Q I rx ry h;let#[hs,q]:=h;cases x with
 |non=>
  cases rx;cases y with
  |non=>cases ry;exact PySem.EqNone.ne_none_none (fS I q Z2)
  |bl j=>cases ry;exact PySem.EqNone.ne_none_bool (fS I q Z2)
  |int j=>let#[t',rfl]:=ry;exact PySem.EqNone.ne_none_int (fS I q Z2)
  |str j=>let#[t',rfl]:=ry;exact PySem.EqNone.ne_none_str (fS I q Z2)
  |_=>exact absurd (show false=true from hs) hJ
 |bl i=>
  cases rx;cases y with
  |non=>cases ry;exact PySem.EqNone.ne_bool_none (fS I q Z2)
  |bl j=>cases ry;exact ne_bool (fS I q (dQ not Vs))
  |str j=>let#[t',rfl]:=ry;exact PySem.EqMixed.ne_bool_str (fS I q Z2)
  |_=>exact absurd (show false=true from hs) hJ
 |int i=>
  let#[t,rfl]:=rx;cases y with
  |non=>cases ry;exact PySem.EqNone.ne_int_none (fS I q Z2)
  |int j=>let#[t',rfl]:=ry;exact ne_int (fS I q (dQ not VX))
  |str j=>let#[t',rfl]:=ry;exact PySem.EqMixed.ne_int_str (fS I q Z2)
  |_=>exact absurd (show false=true from hs) hJ
 |str i=>
  let#[t,rfl]:=rx;cases y with
  |non=>cases ry;exact PySem.EqNone.ne_str_none (fS I q Z2)
  |bl j=>cases ry;exact PySem.EqMixed.ne_str_bool (fS I q Z2)
  |int j=>let#[t',rfl]:=ry;exact PySem.EqMixed.ne_str_int (fS I q Z2)
  |str j=>let#[t',rfl]:=ry;exact ne_str (fS I q (dQ not Xc))
  |_=>exact absurd (show false=true from hs) hJ
 |byt i=>
  let#[t,rfl]:=rx;cases y with
  |byt j=>let#[t',rfl]:=ry;exact PySem.W.ne_bytes (fS I q (dQ not Xk))
  |_=>exact absurd (show false=true from hs) hJ
 |_=>cases y<;>exact absurd (show false=true from hs) hJ
theorem Lo:eQ X (compareOp .Lt) (yj λi j=>.bl (decide (i<j))):=yn λ_ _ _ _ _ _ _ q=>lt_int q
theorem yX:eQ X (compareOp .LtE) (yj λi j=>.bl (decide (i<=j))):=yn λ_ _ _ _ _ _ _ q=>le_int q
theorem sP:eQ X (compareOp .Gt) (yj λi j=>.bl (decide (j<i))):=yn λ_ _ _ _ _ _ _ q=>gt_int q
theorem Vk:eQ X (compareOp .GtE) (yj λi j=>.bl (decide (j<=i))):=yn λ_ _ _ _ _ _ _ q=>ge_int q
inductive Zy (x:V) (y:V) (H:Hp) (Q:VK):Prop
 |mk:∀i j,x=.str i->y=.str j->Q (.bl (decide (i.cps.toList<j.cps.toList))) H->Zy x y H Q
theorem he_:eQ X (compareOp .Lt) Zy:=by
 intro pins s σ H x y v u Q I rx ry h;let#[i,j,rfl,rfl,q]:=h;let#[t,rfl]:=rx;let#[t',rfl]:=ry;exact lt_str (fS I q rfl)
theorem VF:eQ X (compareOp .Is) (λx y H Q=>y=.non/\Q (.bl (decide (x=.non))) H):=by
 intro pins s σ H x y v u Q I rx ry h;let#[rfl,q]:=h;cases ry;apply is_none_gen (fS I q ?_)
 cases x<;>first
  |(cases rx;rfl)
  |(let#[t,rfl]:=rx;rfl)
theorem Xp:eQ X (compareOp .IsNot) (λx y H Q=>y=.non/\Q (.bl (!decide (x=.non))) H):=by
 intro pins s σ H x y v u Q I rx ry h;let#[rfl,q]:=h;cases ry;apply isnot_none_gen (fS I q ?_)
 cases x<;>first
  |(cases rx;rfl)
  |(let#[t,rfl]:=rx;rfl)
theorem vb(b:Expr)(h:op≠.In:=by decide)(h2:op≠.NotIn:=by decide):behindInMarks op b=false:=by
 have e1:(op == CmpOp.In)=false:=by cases op<;>first|rfl|exact absurd rfl h
 have e2:(op == CmpOp.NotIn)=false:=by cases op<;>first|rfl|exact absurd rfl h2
 cases b<;>simp[behindInMarks,e1,e2]
theorem iI(ho:eQ X (compareOp op) r)(ha:PE X a ta)(hb:PE X b tb)(hm:behindInMarks op b=false:=by exact vb _):PE X (.Compare a [op] [b] pos) (Fw r ta tb):=by
 intro pins s σ H Q I h;exact wpAny_Compare1 (Do ha hb I h λv u s2 x y H2 I2 rx ry q=>ho pins s2 σ H2 x y v u Q I2 rx ry q) hm
inductive tH (Q:Bool->Hp->Prop) (x:V) (H':Hp):Prop
 |mk:∀k,x=.bl k->Q k H'->tH Q x H'
def zH(t:TE):TT:=λσ H Q=>t σ H λx H'=>tH Q x H'
theorem c_(ho:eQ X (compareOp op) r)(ha:PE X a ta)(hb:PE X b tb)(hm:behindInMarks op b=false:=by exact vb _):PT X (.Compare a [op] [b] pos) (zH (Fw r ta tb)):=by
 intro pins s σ H Q I h
 apply wpAny_isTrue_Compare1 (bb (ha pins s σ H _ I h) λv s1 ⟨x,H1,I1,r1,q1⟩=>bb (hb pins s1 σ H1 _ I1 q1) λu s2 ⟨y,H2,I2,r2,q2⟩=>
  bb (ho pins s2 σ H2 x y v u _ I2 r1 r2 q2) λc s3 ⟨z,H3,I3,r3,k,e,q3⟩=>?_) hm
 subst e;cases r3;exact vN #[H3,I3,q3]
inductive pM (r':R2) (tc:TE) (σ:St) (Q:VK) (y:V) (z:V) (H3:Hp):Prop
 |mk:∀k,z=.bl k->(if k=true then tc σ H3 λw' H4=>r' y w' H4 Q else Q (.bl false) H3)->pM r' tc σ Q y z H3
def tO(r r':R2)(ta tb tc:TE):TE:=λσ H Q=>ta σ H λx H1=>tb σ H1 λy H2=>r x y H2 λz H3=>pM r' tc σ Q y z H3
theorem Yb(ho:eQ X (compareOp op) r)(jD:eQ X (compareOp DP) r')(ha:PE X a ta)(hb:PE X b tb)(hc:PE X c tc)(hm:lastMarks [op,DP] [b,c]=false:=by with_unfolding_all rfl):PE X (.Compare a [op,DP] [b,c] pos) (tO r r' ta tb tc):=by
 intro pins s σ H Q I h
 apply Compare_chain (bb (ha pins s σ H _ I h) λv s1 ⟨x,H1,I1,r1,q1⟩=>chain_link (bb (hb pins s1 σ H1 _ I1 q1) λu s2 ⟨y,H2,I2,r2,q2⟩=>
  bb (ho pins s2 σ H2 x y v u _ I2 r1 r2 q2) λd s3 ⟨z,H3,I3,r3,k,e,q3⟩=>?_)) hm
 subst e;cases r3;apply vN ?_;cases k with
 |false=>exact ite_ff #[.bl false,H3,I3,Z,q3]
 |true=>exact ite_tt (chain_last (bb (hc pins s3 σ H3 _ I3 q3) λw' s4 ⟨z',H4,I4,r4,q4⟩=>jD pins s4 σ H4 y z' u w' Q I4 r2 r4 q4))
theorem Xt(ho:eQ X (compareOp op) r)(jD:eQ X (compareOp DP) r')(ha:PE X a ta)(hb:PE X b tb)(hc:PE X c tc)(hm:lastMarks [op,DP] [b,c]=false:=by with_unfolding_all rfl):PT X (.Compare a [op,DP] [b,c] pos) (zH (tO r r' ta tb tc)):=by
 intro pins s σ H Q I h
 apply isTrue_chain (bb (ha pins s σ H _ I h) λv s1 ⟨x,H1,I1,r1,q1⟩=>test_link (bb (hb pins s1 σ H1 _ I1 q1) λu s2 ⟨y,H2,I2,r2,q2⟩=>
  bb (ho pins s2 σ H2 x y v u _ I2 r1 r2 q2) λd s3 ⟨z,H3,I3,r3,k,e,q3⟩=>?_)) hm
 subst e;cases r3;apply vN ?_;cases k with
 |false=>
  let#[k',e',q']:=q3;cases e';exact ite_ff #[H3,I3,q']
 |true=>
  apply ite_tt (test_last (bb (hc pins s3 σ H3 _ I3 q3) λw' s4 ⟨z',H4,I4,r4,q4⟩=>bb (jD pins s4 σ H4 y z' u w' _ I4 r2 r4 q4) λd' s5 ⟨z2,H5,I5,r5,k2,e2,q5⟩=>?_));subst e2;cases r5;exact vN #[H5,I5,q5]
theorem gY:(sizeLine:Nat)<2 ^ 63:=by rw[cc];decide
inductive Zb (x:V) (y:V) (H:Hp) (Q:VK):Prop
 |mk:∀i j,x=.str i->y=.str j->i.length+j.length<=sizeLine->Q (.str (i++j)) H->Zb x y H Q
theorem AZ:eQ X (binaryOp .Add) Zb:=by
 intro pins s σ H x y v u Q I rx ry h;let#[i,j,rfl,rfl,hz,q]:=h;let#[t,rfl]:=rx;let#[t',rfl]:=ry;exact add_str (λt' tk=>⟨.str (i++j),H,I.tok _,⟨_,rfl⟩,q⟩) hz
theorem vals1{x:V}{us:aq}(r:Vals [x] us):∃u,us=[u]/\RelV x u:=by
 cases r with
 |cons r1 r2=>cases r2;exact#[_,Z,r1]
theorem vals2{x y:V}{us:aq}(r:Vals [x,y] us):∃u w',us=[u,w']/\RelV x u/\RelV y w':=by
 cases r with
 |cons r1 r2=>
  cases r2 with
  |cons r3 r4=>cases r4;exact#[_,_,Z,r1,r3]
inductive ZC (xs:ai) (H:Hp) (Q:VK):Prop
 |mk:∀i j,xs=[.int i,.int j]->Q (.int (if j > i then j else i)) H->ZC xs H Q
theorem Yj(hc:X.calm=true):gD X (.builtin "max") ZC:=by
 intro pins s σ H xs us Q I r h;let#[i,j,rfl,q]:=h;let#[u,w',rfl,#[t,rfl],#[t',rfl]]:=vals2 r;apply max_two_ints (I.ok.hd hc) λh' tk k=>#[_,H,I.kept k,?_,q];by_cases hj:j > i
 ·rw[aB hj,aB hj];exact#[_,Z]
 rw[au hj,au hj];exact#[_,Z]
inductive ZD (xs:ai) (H:Hp) (Q:VK):Prop
 |mk:∀i j,xs=[.int i,.int j]->Q (.int (if j<i then j else i)) H->ZD xs H Q
theorem hF_(hc:X.calm=true):gD X (.builtin "min") ZD:=by
 intro pins s σ H xs us Q I r h;let#[i,j,rfl,q]:=h;let#[u,w',rfl,#[t,rfl],#[t',rfl]]:=vals2 r;apply min_two_ints (I.ok.hd hc) λh' tk k=>#[_,H,I.kept k,?_,q];by_cases hj:j<i
 ·rw[aB hj,aB hj];exact#[_,Z]
 rw[au hj,au hj];exact#[_,Z]
theorem Jv:gD X (.type "int") (λxs H Q=>(∃i,xs=[.int i]/\Q (.int i) H)∨∃k,xs=[.bl k]/\Q (.int (if k then 1 else 0)) H):=by
 intro pins s σ H xs us Q I r h;rcases h with⟨i,rfl,q⟩|⟨k,rfl,q⟩
 ·let#[u,rfl,t,rfl]:=vals1 r;exact call_int_int #[.int i,H,I,#[_,Z],q]
 let#[u,rfl,r1]:=vals1 r;cases r1;exact call_int_bool #[.int (if k then 1 else 0),H,I.tok _,#[_,Z],q]
end
structure ph (h:Heap) (x dx C:Addr) (mA:Str->Option Aa):Prop where
 obj:h.get? x\PySem.W.instObj C dx
 ns:h.Ns1 dx mA
 ne:dx≠x
variable{mA:Str->Option Aa}
theorem hu_{dx:Addr}(n:h.Ns1 dx mA):∃od,h.get? dx\od/\∀name,PySem.W.lookIn name od\mA name:=by
 let#[o,es,ep,ho,hd,hk,_,hm]:=n;apply#[o,ho,λname=>?_];let e:=hm name;unfold nsFind findBy at e;rw[<- Array.find?_toList] at e;unfold PySem.W.lookIn;rw[hd];dsimp only;split
 ·rename_i y q
  rw[q] at e;exact dQ some e
 rename_i q
 rw[q] at e
 have a:es.toList.any (·.refKey)=false:=by
  rw[List.any_eq_false];intro y hy;let#[z,t,PM]:=hk y (Array.mem_toList_iff.mp hy);simp[DictEntry.refKey,PM]
 have a':¬es.toList.any (·.refKey)=true:=by rw[a];exact hJ
 rw[au a'];exact dQ some e
theorem ph.look{x dx C:Addr}(I:ph h x dx C mA):∃od,PySem.W.InstAt h x (PySem.W.instObj C dx) C (some od)/\∀name,PySem.W.lookIn name od\mA name:=
 let #[od,ho,hl]:=hu_ I.ns
 #[od,#[I.obj,Z,Z,ho],hl]
variable{pl:Sem Bool}
variable{kw:List (Str × Aa)}
section
variable{prog:Ae}{w:Af}{A:Ag}{E:Aa->Ab->Prop}{s:Ab}{K:af}{x dx C f:Addr}{mA:Str->Option Aa}{name:Str}{v:Aa}
theorem kU_{expr:Bool}{Q:Aa->Ab->Prop}(X:K.In s.heap)(I:ph s.heap x dx C mA)(hg:PySem.W.plainGet K C name=true)(hh:PySem.W.hasDictIn K C=true)
  (ha:PySem.W.findIn K (.ref C) name\none) (hv:mA name\v) (hv':PySem.W.handedIn v=true) (h:Q v { s with toks:=s.toks+1 }) :
  wpAny (model prog w) A (getAttr (.ref x) name expr) Q E s:=by
 let#[od,J,hl]:=I.look;exact PySem.W.get_value X J (PySem.W.plainGet_of hg).1 (PySem.W.findObj_own hh ha Z (by rw[hl,hv])) hv' h
theorem j8_{Q:Aa × aq->Ab->Prop}(X:K.In s.heap)(I:ph s.heap x dx C mA)(hg:PySem.W.plainGet K C name=true)(hf:PySem.W.findIn K (.ref C) name\some (.ref f))(ht:PySem.W.isFn K (.ref f)=true)(hv:mA name=none)(h:Q (.ref f,[.ref x]) s) :
  wpAny (model prog w) A (getMethod (.ref x) name pl) Q E s:=by
 let#[od,J,hl]:=I.look;exact PySem.W.method_fn X J (PySem.W.plainGet_of hg).1 (PySem.W.plainGet_of hg).2 hf (beq_iff_eq.mp ht) (by show (PySem.W.lookIn name od).map (·.isSome)=some false;rw[hl,hv];rfl) h
theorem ls_{ns:ae}{Q:Unit->Ab->Prop}(X:K.In s.heap)(I:ph s.heap x dx C mA)
  (hs:PySem.W.findIn K (.ref C) "__setattr__"\some (.builtin "object.__setattr__")) (hp:PySem.W.plainOver K C=true) (ht:PySem.W.takerIn K C name\none) (hh:PySem.W.hasDictIn K C=true)
  (hw:PySem.Within mA ns) (hsz:ns.length<=sizeLine)
  (h:∀h',ph h' x dx C (λy=>if y=name then some v else mA y)->Heap.SameBut dx s.heap h'->Q () { s with heap:=h',toks:=s.toks+2 }) :
  wpAny (model prog w) A (setAttr (.ref x) name v) Q E s:=by
 let#[od,J,hl]:=I.look;apply PySem.W.set_plain X J hs (PySem.W.osa_open (s:={ s with toks:=s.toks+1 }) (r:=none) X J hp ht λb=>?_);let#[cd,hc,iS]:=PySem.W.any_some hh;have hx:s.heap.get? x=some #[.ref C,some dx,.plain,#[]]:=I.obj;apply aP (bR (aP (aP (wpAny_loadPart hx (aP (PySem.W.Looks.here (s:={ s with toks:=s.toks+1 }) (PySem.W.looks_clsIn X hc) ?_))))));rw[iS];apply bR (a:=some dx) (aP (bR (aP ?_)));apply wpAny_nsSet1 (s:={ s with toks:=s.toks+1 }) I.ns λh' Cg B9=>?_;let#[oD,esD,epD,hoD,hdD,hcD]:=Cg.count (PySem.Within.cons name v hw);apply aP (wpAny_lookBehind hoD (by rw[hdD];exact pastItsLine_dict (qJ hcD (by rw[iG];omega))) ?_);exact bR (h _ #[(B9.2 _ (Ne.symm I.ne)).trans I.obj,Cg,I.ne] B9)
theorem jG_{R:Result->Ab->Prop}{vs:aq}(X:K.In s.heap)(hm:PySem.W.makesIn K C=true)(hi:PySem.W.findIn K (.ref C) "__init__"\some (.ref f))(hf:PySem.W.typeIn K (.ref f)\.type "function")(h:codeAny (model prog w) (A.under (.builtin "type.__call__" #[.ref C::vs,kw])) (.call (.ref f) #[.ref (s.heap.objs.size+1)::vs,kw]) (PySem.W.InitBack (s.heap.objs.size+1) R)
   { s with heap:=(s.heap.push PySem.W.emptyDict).push (PySem.W.instObj C s.heap.objs.size) }) :
  codeAny (model prog w) A (.call (.ref C) #[vs,kw]) R s:=by
 let#[hh,g,d,t,os]:=s;exact PySem.W.make_core (PySem.W.makes_of X hm) (PySem.W.looks_findIn X hi) (λself=>PySem.W.bind_fn X self hf) (.inl Z) h
end
def aH(f:Str)(v:V):List (Str × V)->List (Str × V)
 |[]=>[(f,v)]
 |(g,x)::r=>if g=f then (g,v)::r else (g,x)::aH f v r
theorem fJ(f g:Str)(v:V):∀fs:List (Str × V),(aH f v fs).lookup g=if g=f then some v else fs.lookup g
 |[]=>by
  show List.lookup g [(f,v)]=_;by_cases h:g=f
  ·have hb:(g == f)=true:=beq_iff_eq.mpr h;simp only[List.lookup,hb,aB h]
  ·have hb:(g == f)=false:=beq_eq_false_iff_ne.mpr h;simp only[List.lookup,hb,au h]
 |(k,x)::r=>by
  let ih:=fJ f g v r;rw[show aH f v ((k,x)::r)=(if k=f then (k,v)::r else (k,x)::aH f v r) from Z];by_cases hk:k=f
  ·rw[aB hk];by_cases h:g=k
   ·have hb:(g == k)=true:=beq_iff_eq.mpr h;simp only[List.lookup,hb,aB (h.trans hk)]
   have hb:(g == k)=false:=beq_eq_false_iff_ne.mpr h;simp only[List.lookup,hb,au (λe:g=f=>h (e.trans hk.symm))]
  rw[au hk];by_cases h:g=k
  ·have hb:(g == k)=true:=beq_iff_eq.mpr h;simp only[List.lookup,hb,au (λe:g=f=>hk (h.symm.trans e))]
  have hb:(g == k)=false:=beq_eq_false_iff_ne.mpr h;simp only[List.lookup,hb];exact ih
theorem RQ(f:Str)(v:V):∀fs:List (Str × V),f∈(aH f v fs).map (·.1)/\∀g,g∈fs.map (·.1)->g∈(aH f v fs).map (·.1)
 |[]=>#[by simp[aH],λg h=>by simp at h]
 |(k,x)::r=>by
  let#[i1,i2]:=RQ f v r;rw[show aH f v ((k,x)::r)=(if k=f then (k,v)::r else (k,x)::aH f v r) from Z];by_cases hk:k=f
  ·rw[aB hk];subst hk;exact#[by simp,λg h=>by simpa using h]
  rw[au hk];apply#[?_,λg h=>?_]
  ·rw[eJ];exact dJ _ i1
  rw[eJ] at h ⊢;rcases bX.mp h with e|e
  ·exact bX.mpr (.inl e)
  exact dJ _ (i2 g e)
theorem Zd(f:Str)(v:V):∀fs:List (Str × V),(aH f v fs).length<=fs.length+1
 |[]=>by simp[aH]
 |(k,x)::r=>by
  let ih:=Zd f v r;rw[show aH f v ((k,x)::r)=(if k=f then (k,v)::r else (k,x)::aH f v r) from Z];by_cases hk:k=f
  ·rw[aB hk,iG,iG];omega
  rw[au hk,iG,iG];omega
variable{v:V}{o:Option Aa}
theorem fU.some_of(r:fU (some v) o):∃u,o\u/\RelV v u:=by
 cases o with
 |none=>exact (show False from r).elim
 |some u=>exact#[u,Z,r]
theorem fU.none_of(r:fU none o):o=none:=by
 cases o with
 |none=>rfl
 |some u=>exact (show False from r).elim
theorem iw_(r:RelV v u):PySem.W.handedIn u=true:=by
 cases v with
 |non=>cases (show u=Value.none from r);rfl
 |bl b=>cases (show u=Value.bool b from r);rfl
 |int i=>let#[t,e]:=(show ∃t,u=Value.int i t from r);cases e;rfl
 |str x=>let#[t,e]:=(show ∃t,u=Value.str x t from r);cases e;rfl
 |byt b=>let#[t,e]:=(show ∃t,u=Value.bytes b t from r);cases e;rfl
 |flt b=>let#[t,e]:=(show ∃t,u=Value.float b t from r);cases e;rfl
 |ref a=>cases (show u=Value.ref a from r);rfl
 |ty n=>cases (show u=Value.type n from r);rfl
section
variable{P:Ae}{w:Af}{H H':Hp}{h h':Heap}{a C dx:Addr}{fs fs':List (Str × V)}
theorem L7(aN:gn P w H h)(e:H a\.ins C dx fs):∃mA,ph h a dx C mA/\(∀f,fU (fs.lookup f) (mA f))/\PySem.Within mA (fs.map (·.1))/\fs.length<=1000/\H dx\.own a:=by
 let#[d,z,ne,ob,mA,n,r,q]:=(show gh P w H h a (.ins C dx fs) from aN a _ e);exact#[mA,#[ob,n,ne],r,q,z,d]
end
structure pC (K:af) (C:Addr):Prop where
 pg:PySem.W.plainGet K C Str.empty=true
 hd:PySem.W.hasDictIn K C=true
 po:PySem.W.plainOver K C=true
 sa:PySem.W.findIn K (.ref C) "__setattr__"\some (.builtin "object.__setattr__")
theorem pC.get{K:af}{C:Addr}(c:pC K C)(f:Str):PySem.W.plainGet K C f=true:=c.pg
def mQ(K:af)(C:Addr)(f:Str):Prop:=PySem.W.findIn K (.ref C) f=some none
theorem mQ.Fs{K:af}{C:Addr}{f:Str}(n:mQ K C f):PySem.W.takerIn K C f\none:=by
 unfold PySem.W.takerIn;rw[show PySem.W.findIn K (.ref C) f\none from n];rfl
structure Con (K:af) (C:Addr) (f:Str) (v:V) (u:Aa):Prop where
 at_:PySem.W.findIn K (.ref C) f\some u
 rel:RelV v u
 get:PySem.W.specialIn K u "__get__"\none
 cp:PySem.W.copiedNames.contains f=false
structure Meth (K:af) (C:Addr) (m:Str) (f:Addr):Prop where
 at_:PySem.W.findIn K (.ref C) m\some (.ref f)
 fn:PySem.W.isFn K (.ref f)=true
 kp:PySem.W.keepIn K (.ref f)=true
section
variable{X:Cx}{pins:List (Addr × Obj)}{σ:St}{H:Hp}{s:Ab}{a C dx:Addr}{fs:List (Str × V)}{f:Str}{v:V}{A:Ag}{E:Aa->Ab->Prop}
theorem gR_{b:Bool}{Q:Aa->Ab->Prop}(I:Inv X pins σ H s)(e:H a\.ins C dx fs)(c:pC X.K C)(n:mQ X.K C f)(l:fs.lookup f\v)
  (h:∀u s',Inv X pins σ H s'->RelV v u->Q u s'):wpAny (model X.prog X.w) A (getAttr (.ref a) f b) Q E s:=by
 let#[mA,O,r,_,_,_]:=L7 I.aN e;let#[u,hu,ru]:=fU.some_of (v:=v) (o:=mA f) (by rw[<- l];exact r f);exact kU_ I.gI O (c.get f) c.hd n hu (iw_ ru) (h u _ (I.tok _) ru)
theorem Zr{m:Str}{g:Addr}{Q:Aa × aq->Ab->Prop}(I:Inv X pins σ H s)(e:H a\.ins C dx fs)(c:pC X.K C)(k:Meth X.K C m g)(l:fs.lookup m=none)(h:Q (.ref g,[.ref a]) s):wpAny (model X.prog X.w) A (getMethod (.ref a) m pl) Q E s:=by
 let#[mA,O,r,_,_,_]:=L7 I.aN e;have hn:mA m=none:=fU.none_of (by rw[<- l];exact r m);exact j8_ I.gI O (c.get m) k.at_ k.fn hn h
theorem gY_{y:V}{Q:Unit->Ab->Prop}(I:Inv X pins σ H s)(e:H a\.ins C dx fs)(c:pC X.K C)(n:mQ X.K C f)(hl:fs.length<1000)(ry:RelV y u)(h:∀s',Inv X pins σ (upd H a (.ins C dx (aH f y fs))) s'->Q () s'):wpAny (model X.prog X.w) A (setAttr (.ref a) f u) Q E s:=by
 let#[mA,O,r,wi,_,ho]:=L7 I.aN e;have hz:(fs.map (·.1)).length<=sizeLine:=by rw[ao,cc];omega
 apply ls_ I.gI O c.sa c.po n.Fs c.hd wi hz λh' O' sb=>h _ ?_;have hd:∃o,h'.get? dx\o:=let #[o,_,_,e',_]:=O'.ns;#[o,e'];apply I.write (x:=a) (e:=dx) (by rw[e];exact True.intro) (.inr ho) (λb q hb z=>(sb.2 b hb).trans z) hd ?_;apply#[by rw[ax O.ne];exact ho,?_,O.ne,O'.obj,_,O'.ns,λg=>?_,λg hg=>?_]
 ·have:=Zd f y fs;omega
 ·show fU ((aH f y fs).lookup g) (if g=f then some u else mA g);rw[fJ];by_cases q:g=f
  ·rw[aB q,aB q];exact ry
  rw[au q,au q];exact r g
 by_cases q:g=f
 ·rw[q];exact (RQ f y fs).1
 apply (RQ f y fs).2 g (wi g λz=>hg ?_);show (if g=f then some u else mA g)=none;rw[au q];exact z
theorem Inv.made(I:Inv X pins σ H s):Inv X pins σ (upd (upd H s.heap.objs.size (.own (s.heap.objs.size+1))) (s.heap.objs.size+1) (.ins C s.heap.objs.size []))
  { s with heap:=(s.heap.push PySem.W.emptyDict).push (PySem.W.instObj C s.heap.objs.size) }:=by
 have e1:(s.heap.push PySem.W.emptyDict).get? s.heap.objs.size\PySem.W.emptyDict:=fI s.heap Z
 have e2:((s.heap.push PySem.W.emptyDict).push (PySem.W.instObj C s.heap.objs.size)).get? (s.heap.objs.size+1)\PySem.W.instObj C s.heap.objs.size:=by
  have:=fI (s.heap.push PySem.W.emptyDict) (o:=PySem.W.instObj C s.heap.objs.size) Z;rwa [Heap.size_push] at this
 have e3:(s.heap.push PySem.W.emptyDict).Ns s.heap.objs.size (λ_=>none):=#[PySem.W.emptyDict,#[],_,e1,Z,(λe he=>absurd he Z2),λ_=>rfl];let I1:=I.laid (a:=s.heap.objs.size) (o:=.own (s.heap.objs.size+1)) (h':=s.heap.push PySem.W.emptyDict) (t':=s.toks) (λb u q=>cO _ q) (bq _) #[_,e1];apply I1.laid (a:=s.heap.objs.size+1) (o:=.ins C s.heap.objs.size []) (t':=s.toks) (λb u q=>cO _ q) (Nat.le_of_eq (Heap.size_push _ _)) ?_;have ne:s.heap.objs.size≠s.heap.objs.size+1:=eV (Nat.lt_succ_self _);apply#[by rw[ax ne,ay],gF _,ne,e2,λ_=>none,(Heap.Ns1.of_empty e3).at λo q=>cO _ q,λ_=>True.intro,λy hy=>absurd Z hy]
theorem kQ_{prog:Ae}{env:Env}{e:Expr}{f:Str}{s:Ab}{Q:Aa->Ab->Prop}(hb:attributeBase e f env (eval e env)=eval e env)(h:wpAny (model prog w) A (eval e env) (λo bf=>wpAny (model prog w) A (getAttr o f true) Q E bf) E s):wpAny (model prog w) A (eval (.Attribute e f pos) env) Q E s:=
 Attribute_any_ h (by rw[arm_eval_Attribute,hb])
end
inductive zM (K:af) (f:Str) (Q:VK) (x:V) (H1:Hp):Prop
 |mk:∀a C dx fs v,x=.ref a->H1 a\.ins C dx fs->pC K C->mQ K C f->fs.lookup f\v->Q v H1->zM K f Q x H1
def NB(K:af)(ta:TE)(f:Str):TE:=λσ H Q=>ta σ H λx H1=>zM K f Q x H1
inductive zU (K:af) (f:Str) (D:Ends) (σ:St) (y:V) (x:V) (H2:Hp):Prop
 |mk:∀a C dx fs,x=.ref a->H2 a\.ins C dx fs->pC K C->mQ K C f->fs.length<1000->D.nx σ (upd H2 a (.ins C dx (aH f y fs)))->zU K f D σ y x H2
def N4(K:af)(ta tv:TE)(f:Str):TS:=λD σ H=>tv σ H λy H1=>ta σ H1 λx H2=>zU K f D σ y x H2
def KQ(X:Cx)(op:Operator)(rd:V->V->Hp->VK->Prop):Prop:=
 ∀(pins:List (Addr × Obj)) (s:Ab) (σ:St) (H:Hp) (x y:V) (u v:Aa) (Q:VK),Inv X pins σ H s->RelV x u->RelV y v->rd x y H Q->wpAny (model X.prog X.w) X.A (inplaceOp op u v) (EP X pins σ Q) X.xe s
section
variable{X:Cx}{o e value:Expr}{f:Str}{pos pos' Bg:Pos}{ta tv:TE}
theorem eF(he:PE X e ta)(hb:attributeBase e f X.env (eval e X.env)=eval e X.env):PE X (.Attribute e f pos) (NB X.K ta f):=by
 intro pins s σ H Q I h;apply kQ_ hb (bb (he pins s σ H _ I h) λu s1 ⟨x,H1,I1,rx,a,C,dx,fs,v,ex,ea,c,n,l,q⟩=>?_);subst ex;obtain rfl:u=Value.ref a:=rx;exact gR_ I1 ea c n l λu' s2 I2 ru=>#[v,H1,I2,ru,q]
theorem xj(ha:PE X o ta)(hv:PE X value tv)(hs:swapsWith value (some (.Attribute o f pos')) pos.line X.env=pure false):PS X (.Assign [.Attribute o f pos'] value pos) (N4 X.K ta tv f):=by
 intro pins s σ H D I h;apply plainObj_wpAny_Assign_Attribute (bb (hv pins s σ H _ I h) λu s1 ⟨y,H1,I1,ry,q⟩=>bb (ha pins s1 σ H1 _ I1 q) λov s2 ⟨x,H2,I2,rx,a,C,dx,fs,ex,ea,c,n,l,q2⟩=>?_) hs;subst ex;obtain rfl:ov=Value.ref a:=rx;exact gY_ I2 ea c n l ry λs3 I3=>#[σ,_,I3,q2]
inductive F8 (x:V) (y:V) (H:Hp) (Q:VK):Prop
 |mk:∀i j,x=.int i->y=.int j->Q (.int (i+j)) H->F8 x y H Q
theorem lS_:KQ X .Add F8:=by
 rintro pins s σ H x y u v Q I rx ry ⟨i,j,rfl,rfl,q⟩;let#[t,rfl]:=(show ∃t,u=Value.int i t from rx);let#[t',rfl]:=(show ∃t',v=Value.int j t' from ry);exact PyProof.Rows.iadd_int ⟨.int (i+j),H,I.tok _,⟨_,rfl⟩,q⟩
end
section
variable{X:Cx}{pins:List (Addr × Obj)}{σ:St}{H:Hp}{s:Ab}{A:Ag}{E:Aa->Ab->Prop}{Q:Aa->Ab->Prop}{c:Aa}{b:Bool}
inductive gj (K:af) (H:Hp):V->Aa->Prop where
 |non:gj K H .non (.type "NoneType")
 |bl (x:Bool):gj K H (.bl x) (.type "bool")
 |int (i:Int):gj K H (.int i) (.type "int")
 |str (x:Str):gj K H (.str x) (.type "str")
 |flt (x:UInt64):gj K H (.flt x) (.type "float")
 |lst {a:Addr} {xs:ai} (e:H a\.lst xs):gj K H (.ref a) (.type "list")
 |frz {a:Addr} {o:Obj} {xs:ai} (e:H a\.frz o (.lst xs)):gj K H (.ref a) (.type "list")
 |tup {a:Addr} {xs:ai} (e:H a\.tup xs):gj K H (.ref a) (.type "tuple")
 |dK {a:Addr} {kvs:List (Key × V)} (e:H a\.dK kvs):gj K H (.ref a) (.type "dict")
 |dT {a:Addr} {kvs:List (aM × V)} (e:H a\.dT kvs):gj K H (.ref a) (.type "dict")
 |ins {a C dx:Addr} {fs:List (Str × V)} (e:H a\.ins C dx fs) (cl:pC K C) (ha:PySem.W.findIn K (.ref C) "__class__"\some (.builtin "object.__class__"))
   (hn:PySem.W.specialIn K (.builtin "object.__class__") "__get__"\some (.builtin "getset_descriptor.__get__")) (Lr:PySem.W.takesIn K (.builtin "object.__class__")\true)
   (hm:PySem.W.mroIn K C (.type "object")\true):gj K H (.ref a) (.ref C)
theorem Yu{x:V}{t:Aa}(I:Inv X pins σ H s)(rx:RelV x u)(ty:gj X.K H x t)(e:PySem.W.kitOne X.K t c\b)(h:∀tk,Q (.bool b) { s with toks:=tk }) :
  wpAny (model X.prog X.w) A (call (.builtin "isinstance") [u,c]) Q E s:=by
 cases ty with
 |non=>cases (show u=Value.none from rx);exact vM PySem.W.kitx_none I.gI True.intro e nofun h
 |bl y=>cases (show u=Value.bool y from rx);exact vM PySem.W.kitx_bool I.gI True.intro e nofun h
 |int i=>let#[t,q]:=(show ∃t,u=Value.int i t from rx);cases q;exact vM PySem.W.kitx_int I.gI True.intro e nofun h
 |str y=>let#[t,q]:=(show ∃t,u=Value.str y t from rx);cases q;exact vM PySem.W.kitx_str I.gI True.intro e nofun h
 |flt y=>let#[t,q]:=(show ∃t,u=Value.float y t from rx);cases q;exact vM PySem.W.kitx_float I.gI True.intro e nofun h
 |@lst a xs ea=>
  cases (show u=Value.ref a from rx);let#[_,_,n,_,h1]:=(show gh X.prog X.w H s.heap a (.lst xs) from I.aN a _ ea);exact vM PySem.W.kitx_list I.gI #[_,h1,Z] e nofun h
 |@frz a ob xs ea=>
  cases (show u=Value.ref a from rx);let#[_,_,_,n,_,h1]:=(show gh X.prog X.w H s.heap a (.frz ob (.lst xs)) from I.aN a _ ea);exact vM PySem.W.kitx_list I.gI #[_,h1,Z] e nofun h
 |@tup a xs ea=>
  cases (show u=Value.ref a from rx);let#[_,_,_,p,_]:=(show gh X.prog X.w H s.heap a (.tup xs) from I.aN a _ ea);let#[o,h1,h2,_]:=p;exact vM PySem.W.kitx_tuple I.gI #[o,h1,h2] e nofun h
 |@dK a kvs ea=>
  cases (show u=Value.ref a from rx);let#[_,_,vs,_,p]:=(show gh X.prog X.w H s.heap a (.dK kvs) from I.aN a _ ea);let#[o,es,ep,h1,h2,_]:=p;exact vM PySem.W.kitx_dict I.gI #[o,h1,h2.1] e nofun h
 |@dT a kvs ea=>
  cases (show u=Value.ref a from rx);let#[_,_,xs,_,o,es,ep,h1,h2,_]:=(show gh X.prog X.w H s.heap a (.dT kvs) from I.aN a _ ea);exact vM PySem.W.kitx_dict I.gI #[o,h1,h2.1] e nofun h
 |@ins a C dx fs ea cl ha hn Lr hm=>
  cases (show u=Value.ref a from rx);let#[mA,O,_]:=L7 I.aN ea;let#[od,J,_]:=O.look;exact vM (PySem.W.kitx_own (cl.get _) cl.hd ha hn Lr hm) I.gI J e nofun h
end
structure aY (k:Nat) (A:Ag):Prop where
 hd:A.handled=none
 dp:A.depth+3 * k+5<recursionLimit
 un:A.units+16 * k+200<cLine
variable{j:Nat}
theorem aY.mono{A:Ag}(r:aY k A)(h:j<=k):aY j A:=#[r.hd,by have:=r.dp;omega,by have:=r.un;omega]
theorem aY.deeper{A:Ag}(r:aY (k+1) A)(env:Env):aY k (A.deeper env):=
 #[r.hd,by have:=r.dp;show A.depth+1+3 * k+5<_;omega,by have:=r.un;show A.units+3+16 * k+200<_;omega]
theorem aY.in1{A:Ag}(r:aY (k+1) A):aY k A.in1:=
 #[r.hd,by have:=r.dp;show A.depth+3 * k+5<_;omega,by have:=r.un;show A.units+1+16 * k+200<_;omega]
theorem gA_{A:Ag}{C:Addr}{us:aq}:(A.under (.builtin "type.__call__" #[.ref C::us,kw])).depth=A.depth+1:=by
 first|rfl|simp[Around.under,Code.weight,Code.isCreation,Code.isGuard,Code.isCaller,Code.frames,Code.isFrame,guardIds]
theorem gq_{A:Ag}{C:Addr}{us:aq}:(A.under (.builtin "type.__call__" #[.ref C::us,kw])).units=A.units+1:=by
 first|rfl|simp[Around.under,Code.cUnits,Code.frames,Code.isFrame]
theorem aY.make{A:Ag}(r:aY (k+1) A)(C:Addr)(us:aq)(kw:List (Str × Aa)):aY k (A.under (.builtin "type.__call__" #[.ref C::us,kw])):=
 #[r.hd,by have:=r.dp;rw[gA_];omega,by have:=r.un;rw[gq_];omega]
theorem aY.depth{A:Ag}(r:aY k A):A.depth<recursionLimit:=by have:=r.dp;omega
theorem aY.units{A:Ag}(r:aY k A):A.units+64<cLine:=by have:=r.un;omega
theorem aY.Be{A:Ag}(r:aY k A):A.units<cLine:=by have:=r.un;omega
def jQ:TA:=λ_ H Q=>Q [] H
def kU(ta:TE)(tr:TA):TA:=λσ H Q=>ta σ H λx H1=>tr σ H1 λxs H2=>Q (x::xs) H2
section
variable{X:Cx}{e:Expr}{es:List Expr}{te:TE}{t:TA}{pos:Pos}
theorem aJ:PA X [] jQ:=λ_ _ _ _ H Q I h=>Calls.spliced_nil #[[],H,I,.nil,h]
theorem dE(ha:PE X e te)(hr:PA X es t)(hs:starEach (e::es) X.env=(false,eval e X.env)::starEach es X.env:=by rfl):PA X (e::es) (kU te t):=by
 intro pos pins s σ H Q I h;rw[hs];show wpAny _ _ (spliced ((false,eval e X.env)::backTo pos (starEach es X.env))) _ _ s;apply Calls.spliced_cons (bb (ha pins s σ H _ I h) λu s1 ⟨x,H1,I1,r1,q1⟩=>?_);exact bb (hr pos pins s1 σ H1 _ I1 q1) λus s2 ⟨xs,H2,I2,r2,q2⟩=>#[x::xs,H2,I2,.cons r1 r2,q2]
def Ft(t:TA):TE:=λσ H Q=>t σ H λxs H1=>xs.length<=sizeLine/\∀p,H1 p=none->Q (.ref p) (upd H1 p (.tup xs))
def Nv(t:TA):TE:=λσ H Q=>t σ H λxs H1=>xs.length<=sizeLine/\∀p,H1 p=none->Q (.ref p) (upd H1 p (.lst xs))
theorem eW{x1}(h:PA X es t):PE X (.Tuple es x1 pos) (Ft t):=by
 intro pins s σ H Q I hq;apply wpAny_Tuple_spliced (bb (h pos pins s σ H _ I hq) λus s1 ⟨xs,H1,I1,r,z,q⟩=>#[by rw[<- r.length];exact z,?_]);have hf:H1 s1.heap.objs.size=none:=I1.aN.fresh (bq _);apply#[.ref s1.heap.objs.size,upd H1 s1.heap.objs.size (.tup xs),I1.laid (t':=s1.toks) (λb u e=>cO _ e) (bq _) ?_,Z,q _ hf];exact#[z,us,r,#[_,fI _ Z,Z,_,Z],_,fI _ Z,Z]
theorem cy(h:PA X es t):PE X (.List es pos) (Nv t):=by
 intro pins s σ H Q I hq;apply wpAny_List_spliced (bb (h pos pins s σ H _ I hq) λus s1 ⟨xs,H1,I1,r,z,q⟩=>#[by rw[<- r.length];exact z,?_]);have hf:H1 s1.heap.objs.size=none:=I1.aN.fresh (bq _);apply#[.ref s1.heap.objs.size,upd H1 s1.heap.objs.size (.lst xs),I1.laid (t':=s1.toks) (λb u e=>cO _ e) (bq _) ?_,Z,q _ hf];exact#[z,us,0,r,fI _ Z]
end
abbrev Sp:=ai->Hp->VK->XK->Prop
abbrev wF:=List Env->Hp->Ab->XK->Aa->Ab->Prop
structure jz (P:Ae) (w:Af) (K:af) (mg:Str->Option Aa) (base:Heap) (A:Ag) (outer:List Env) (s:Ab) (H:Hp):Prop where
 frames:A.frames\outer
 mod:Mod K mg base
 bs:∀b o,base.get? b\o->s.heap.get? b\o/\H b=none
 vQ:base.objs.size<=s.heap.objs.size
 gA:s.heap.FunFrames base outer
 yP:∀b∈rN outer,H b=none
 aN:gn P w H s.heap
 bare:AllBare s.gens
def CE(outer:List Env)(P:Ae)(w:Af)(H:Hp)(s:Ab)(Q:VK)(u:Aa)(s':Ab):Prop:=
 ∃v H',s'.os=s.os/\AllBare s'.gens/\Un (rN outer) [] H H' s.heap s'.heap/\gn P w H' s'.heap/\RelV v u/\Q v H'
def CR(CX:wF)(outer:List Env)(P:Ae)(w:Af)(H:Hp)(s:Ab)(Q:VK)(E:XK)(r:Result)(s':Ab):Prop:=
 match r with
 |.ok (.ret u)=>CE outer P w H s Q u s'
 |.ok _=>False
 |.error e=>CX outer H s E e s'
structure aj (P:Ae) (w:Af) (K:af) (mg:Str->Option Aa) (base:Heap) (CX:wF) (k:Nat) (f:Addr) (fd:Ad) (ps:ae) (sp:Sp):Prop where
 len:∀vs H Q E,sp vs H Q E->vs.length=ps.length
 run:∀(A:Ag) (outer:List Env) (s:Ab) (H:Hp) (args:Args) (us:aq) (vs:ai) (Q:VK) (E:XK),aY k A->jz P w K mg base A outer s H->BindsTo s fd args (ps.zip us)->Vals vs us->sp vs H Q E->
  codeAny (model P w) A (.call (.ref f) args) (CR CX outer P w H s Q E) s
variable{K:af}{f:Addr}{mg:Str->Option Aa}{base:Heap}{CX:wF}{fd:Ad}{ps:ae}
theorem aj.mono{sp:Sp}(F:aj P w K mg base CX j f fd ps sp)(h:j<=k) :
  aj P w K mg base CX k f fd ps sp:=#[F.len,λA outer s H args us vs Q E hr=>F.run A outer s H args us vs Q E (hr.mono h)]
variable{H:Hp}{A:Ag}{outer:List Env}
theorem jz.make{s:Ab}(e:jz P w K mg base A outer s H)(C:Addr)(us:aq)(kw:List (Str × Aa)) :
  jz P w K mg base (A.under (.builtin "type.__call__" #[.ref C::us,kw])) outer s H:=#[by first|exact e.frames|(simpa [Around.under,Code.envs,Code.isFrame,pushEnvs] using e.frames),e.mod,e.bs,e.vQ,e.gA,e.yP,e.aN,e.bare]
section
variable{X:Cx}{pins:List (Addr × Obj)}{σ:St}{H:Hp}{s s':Ab}
theorem Inv.CO(I:Inv X pins σ H s):jz X.prog X.w X.K X.mg X.base X.A X.stack s H:=
 #[I.ok.frames,I.ok.mod,I.bs,qJ I.ok.vQ I.sz,I.stack,I.pO,I.aN,I.bare]
theorem Inv.after{Q:VK}(I:Inv X pins σ H s)(h:CE X.stack X.prog X.w H s Q u s'):EP X pins σ Q u s':=by
 let#[v,H',os,bare,un,aN,r,q]:=h;let#[hh,g,d,t,os']:=s';obtain rfl:os'=s.os:=os;exact#[v,H',I.call (h':=hh) (g':=g) (d':=d) (t':=t) (ch:=[]) un aN bare (λb z=>absurd z Z2),r,q]
end
def pN(sp:Sp)(hY:ai)(E:XK)(t:TA):TE:=λσ H Q=>t σ H λvs H1=>sp (vs++hY) H1 Q E
inductive tL (C:Addr) (m:Str) (sp:Sp) (hY:ai) (E:XK) (t:TA) (σ:St) (Q:VK) (x:V) (H1:Hp):Prop
 |mk:∀a dx fs,x=.ref a->H1 a\.ins C dx fs->fs.lookup m=none->(t σ H1 λvs H2=>sp (x::(vs++hY)) H2 Q E)->tL C m sp hY E t σ Q x H1
def pL(C:Addr)(m:Str)(sp:Sp)(hY:ai)(E:XK)(ta:TE)(t:TA):TE:=λσ H Q=>ta σ H λx H1=>tL C m sp hY E t σ Q x H1
def zJ(C:Addr)(sp:Sp)(hY:ai)(E:XK)(t:TA):TE:=λσ H Q=>t σ H λvs H1=>∀x dx,H1 x=none->H1 dx=none->dx≠x->
 sp (.ref x::(vs++hY)) (upd (upd H1 dx (.own x)) x (.ins C dx [])) (λv H2=>v=.non/\Q (.ref x) H2) E
def rR(K:af)(fd:Ad)(ps:ae)(ds:aq):Prop:=
 ∀(s:Ab) (us:aq),K.In s.heap->(us++ds).length=ps.length->BindsTo s fd #[us,[]] (ps.zip (us++ds))
theorem rR.all(h:∀us:aq,us.length=ps.length->bindArgs fd #[us,[]]=pure (ps.zip us)):rR K fd ps []:=λs us _ hl=>by
 rw[hG] at hl ⊢;exact .of_eq (h us hl)
def xi(CX:wF)(X:Cx)(E:XK):Prop:=∀(pins:List (Addr × Obj)) (σ:St) (H:Hp) (s:Ab) (e:Aa) (s':Ab),Inv X pins σ H s->CX X.stack H s E e s'->X.xe e s'
variable{E:XK}{Q:VK}{hY vs:ai}{sp:Sp}{ds:aq}
theorem LU{s:Ab}{us:aq}(F:aj X.prog X.w X.K X.mg X.base CX k f fd ps sp)(hr:aY k X.A)(hb:rR X.K fd ps ds)(hd:Vals hY ds)(hx:xi CX X E)(I:Inv X pins σ H s)(r:Vals vs us)(h:sp (vs++hY) H Q E):wpAny (model X.prog X.w) X.A (call (.ref f) us) (EP X pins σ Q) X.xe s:=by
 have r2:Vals (vs++hY) (us++ds):=r.append hd;have hl:(us++ds).length=ps.length:=by rw[<- r2.length];exact F.len _ _ _ _ h
 apply wpAny_call (codeAny_mono (F.run X.A X.stack s H #[us,[]] (us++ds) (vs++hY) Q E hr I.CO (hb s us I.gI hl) r2 h) λr s' hq=>?_);cases r with
 |error e=>exact hx pins σ H s e s' I hq
 |ok fl=>
  cases fl with
  |ret u=>exact I.after hq
  |next=>exact False.elim hq
  |brk=>exact False.elim hq
  |cont=>exact False.elim hq
variable{x:Str}{t:TA}{e:Expr}
theorem lK_(F:aj X.prog X.w X.K X.mg X.base CX k f fd ps sp)(hr:aY k X.A)(hg:Gl X x)(hm:X.mg x\.ref f)(hk:PySem.W.keepIn X.K (.ref f)=true)(hb:rR X.K fd ps ds)(hd:Vals hY ds)(hx:xi CX X E)
  (ha:PA X (e::es) t) (oQ:(x == ("__debug__":Str))=false:=by decide) (he:starEach (e::es) X.env=(false,eval e X.env)::starEach es X.env:=by rfl) (mI:(backTo pos (starEach es X.env)).any (·.1)=false:=by rfl) :
  PE X (.Call (.Name x p) (e::es) [] pos) (pN sp hY E t):=by
 intro pins s σ H Q I h;apply wpAny_Call_Name_kw (L0 I hg hm ?_ oQ);apply PySem.W.callWith_K (h₀:=X.base) I.ok.mod.GJ hk (bb (ha pos pins s σ H _ I h) λus s1 ⟨vs,H1,I1,r,q⟩=>#[I1.gI,?_]) he mI;exact LU F hr hb hd hx I1 r q
theorem jU_(F:aj X.prog X.w X.K X.mg X.base CX k f fd ps sp)(hr:aY k X.A)(hg:Gl X x)(hm:X.mg x\.ref f)(hk:PySem.W.keepIn X.K (.ref f)=true)(hb:rR X.K fd ps ds)(hd:Vals hY ds)(hx:xi CX X E)
  (oQ:(x == ("__debug__":Str))=false:=by decide):PE X (.Call (.Name x p) [] [] pos) (pN sp hY E jQ):=by
 intro pins s σ H Q I h;apply wpAny_Call_Name_kw (L0 I hg hm ?_ oQ);exact PySem.W.callWith_K0 I.gI hk (LU (us:=[]) F hr hb hd hx I .nil h)
variable{o:Expr}{ta:TE}{C:Addr}{m:Str}{apos:Pos}
theorem lq_(he:PE X o ta)(c:pC X.K C)(hm:Meth X.K C m f)(F:aj X.prog X.w X.K X.mg X.base CX k f fd ps sp)(hr:aY k X.A)(hb:rR X.K fd ps ds)(hd:Vals hY ds)(hx:xi CX X E)(ha:PA X (e::es) t)(B8:starEach (e::es) X.env=(false,eval e X.env)::starEach es X.env:=by rfl)(mI:(backTo pos (starEach es X.env)).any (·.1)=false:=by rfl)(ht:eval (.Call (.Attribute o m apos) (e::es) [] pos) X.env=(do
   let ov <- eval o X.env
   standAt apos.atName
   let (f,first) <- holding [ov] (getMethod ov m pl)
   callWith pos f first (backTo pos (starEach (e::es) X.env)) (backToKw pos (keywordEach [] X.env))):=by rfl) :
  PE X (.Call (.Attribute o m apos) (e::es) [] pos) (pL C m sp hY E ta t):=by
 intro pins s σ H Q I h;apply PySem.W.methodCall_KW (pl:=pl) (bb (he pins s σ H _ I h) λu s1 ⟨x,H1,I1,rx,a,dx,fs,ex,ea,l,q⟩=>?_) ht;subst ex;obtain rfl:u=Value.ref a:=rx;apply Zr I1 ea c hm l ?_;apply PySem.W.callWith_K (first:=[.ref a]) (h₀:=X.base) I.ok.mod.GJ hm.kp (bb (ha pos pins s1 σ H1 _ I1 q) λus s2 ⟨vs,H2,I2,r,q2⟩=>#[I2.gI,?_]) B8 mI;exact LU (us:=.ref a::us) (vs:=.ref a::vs) F hr hb hd hx I2 (.cons Z r) q2
theorem jE_(he:PE X o ta)(c:pC X.K C)(hm:Meth X.K C m f)(F:aj X.prog X.w X.K X.mg X.base CX k f fd ps sp)(hr:aY k X.A)(hb:rR X.K fd ps ds)(hd:Vals hY ds)(hx:xi CX X E)(ht:eval (.Call (.Attribute o m apos) [] [] pos) X.env=(do
   let ov <- eval o X.env
   standAt apos.atName
   let (f,first) <- holding [ov] (getMethod ov m pl)
   callWith pos f first (backTo pos (starEach [] X.env)) (backToKw pos (keywordEach [] X.env))):=by rfl) :
  PE X (.Call (.Attribute o m apos) [] [] pos) (pL C m sp hY E ta jQ):=by
 intro pins s σ H Q I h;apply PySem.W.methodCall_KW (pl:=pl) (bb (he pins s σ H _ I h) λu s1 ⟨x,H1,I1,rx,a,dx,fs,ex,ea,l,q⟩=>?_) ht;subst ex;obtain rfl:u=Value.ref a:=rx;apply Zr I1 ea c hm l ?_;exact PySem.W.callWith_K0 (first:=[.ref a]) I1.gI hm.kp (LU (us:=[.ref a]) (vs:=[.ref a]) F hr hb hd hx I1 (.cons Z .nil) q)
structure Mk (K:af) (C f:Addr):Prop where
 makes:PySem.W.makesIn K C=true
 init:PySem.W.findIn K (.ref C) "__init__"\some (.ref f)
 fn:PySem.W.isFn K (.ref f)=true
 kp:PySem.W.keepIn K (.ref C)=true
theorem jq_{s:Ab}{us:aq}(M:Mk X.K C f)(F:aj X.prog X.w X.K X.mg X.base CX k f fd ps sp)(hr:aY (k+1) X.A)(hb:rR X.K fd ps ds)(hd:Vals hY ds)(hx:xi CX X E)(I:Inv X pins σ H s)(r:Vals vs us)(h:∀x dx,H x=none->H dx=none->dx≠x->sp (.ref x::(vs++hY)) (upd (upd H dx (.own x)) x (.ins C dx [])) (λv H2=>v=.non/\Q (.ref x) H2) E) :
  wpAny (model X.prog X.w) X.A (call (.ref C) us) (EP X pins σ Q) X.xe s:=by
 let hq:=h (s.heap.objs.size+1) s.heap.objs.size (I.aN.fresh (Nat.le_succ _)) (I.aN.fresh (bq _)) (eV (Nat.lt_succ_self _));let I2:=Inv.made (C:=C) I;have r2:Vals (V.ref (s.heap.objs.size+1)::(vs++hY)) (Value.ref (s.heap.objs.size+1)::(us++ds)):=.cons Z (r.append hd)
 have hl:(Value.ref (s.heap.objs.size+1)::us++ds).length=ps.length:=by
  let e:=r2.length;rw[F.len _ _ _ _ hq] at e;exact e.symm
 apply wpAny_call (jG_ (f:=f) I.gI M.makes M.init (beq_iff_eq.mp M.fn) (codeAny_mono (F.run _ X.stack _ _ #[Value.ref (s.heap.objs.size+1)::us,[]] (Value.ref (s.heap.objs.size+1)::(us++ds)) _ _ E (hr.make C us [])
  (I2.CO.make C us []) (hb _ (Value.ref (s.heap.objs.size+1)::us) I2.gI hl) r2 hq) λr s' hq'=>?_))
 cases r with
 |error e=>exact hx pins σ _ _ e s' I2 hq'
 |ok fl=>
  cases fl with
  |ret u=>
   let#[v,H',I3,rv,ev,q3]:=I2.after hq';subst ev;exact#[rv,#[V.ref (s.heap.objs.size+1),H',I3,Z,q3]]
  |next=>exact False.elim hq'
  |brk=>exact False.elim hq'
  |cont=>exact False.elim hq'
theorem kP_(M:Mk X.K C f)(F:aj X.prog X.w X.K X.mg X.base CX k f fd ps sp)(hr:aY (k+1) X.A)(hg:Gl X x)(hm:X.mg x\.ref C)(hb:rR X.K fd ps ds)(hd:Vals hY ds)(hx:xi CX X E)
  (ha:PA X (e::es) t) (oQ:(x == ("__debug__":Str))=false:=by decide) (he:starEach (e::es) X.env=(false,eval e X.env)::starEach es X.env:=by rfl) (mI:(backTo pos (starEach es X.env)).any (·.1)=false:=by rfl) :
  PE X (.Call (.Name x p) (e::es) [] pos) (zJ C sp hY E t):=by
 intro pins s σ H Q I h;apply wpAny_Call_Name_kw (L0 I hg hm ?_ oQ);apply PySem.W.callWith_K (h₀:=X.base) I.ok.mod.GJ M.kp (bb (ha pos pins s σ H _ I h) λus s1 ⟨vs,H1,I1,r,q⟩=>#[I1.gI,?_]) he mI;exact jq_ M F hr hb hd hx I1 r q
def PK(X:Cx)(DX:List Keyword)(t:TA):Prop:=
 ∀(pos:Pos) (pins:List (Addr × Obj)) (s:Ab) (σ:St) (H:Hp) (Q:ai->Hp->Prop),Inv X pins σ H s->t σ H Q->wpAny (model X.prog X.w) X.A (evalAll ((backToKw pos (keywordEach DX X.env)).map (·.2))) (AP X pins σ Q) X.xe s
theorem Vr:PK X [] jQ:=λ_ _ _ _ H Q I h=>wpAny_evalAll_nil #[[],H,I,.nil,h]
variable{OV:Pos}{DX:List Keyword}{nm:Option Str}
theorem Wr(ha:PE X e te)(hr:PK X DX t):PK X (#[nm,e,OV]::DX) (kU te t):=by
 intro pos pins s σ H Q I h;show wpAny _ _ (evalAll ((do let v <- eval e X.env;standAt pos;pure v)::(backToKw pos (keywordEach DX X.env)).map (·.2))) _ _ s;apply wpAny_evalAll_cons (aP (bb (ha pins s σ H _ I h) λu s1 ⟨x,H1,I1,r1,q1⟩=>aP (wpAny_standAt (bR ?_))));exact bb (hr pos pins s1 σ H1 _ I1 q1) λus s2 ⟨xs,H2,I2,r2,q2⟩=>#[x::xs,H2,I2,.cons r1 r2,q2]
structure T8 (K:af) (fd:Ad) (ps ks:ae) (g:aq->aq->aq) (gV:ai->ai->ai):Prop where
 to:∀(s:Ab) (us ws:aq),K.In s.heap->(g us ws).length=ps.length->BindsTo s fd #[us,ks.zip ws] (ps.zip (g us ws))
 rel:∀{vs:ai} {us:aq} {zs:ai} {ws:aq},Vals vs us->Vals zs ws->Vals (gV vs zs) (g us ws)
structure bx (N P:ae) (sc:Scope):Prop where
 kind:sc.kind=.function
 co:sc.isCoroutine=false
 gen:sc.isGenerator=false
 nd:N.Nodup
 pre:N.take P.length=P
 par:∀x∈P,sc.names.lookup x\.local∨sc.names.lookup x\.cell
 BU:∀y∈sc.names,y.2≠.free
theorem YV{kindOf:Str->Option NameKind}{x:Str}:∀{binds:List (Str × Aa)} {m:Str->Option Aa},(∀v,(x,v)∉binds)->bindL kindOf binds m x=m x
 |[],_,_=>rfl
 |(n,v)::r,m,h=>by
  unfold bindL;rw[YV λw hw=>h w (dJ _ hw)];split
  ·have:x≠n:=by rintro rfl;exact h v cZ
   simp[this]
  rfl
theorem Yw{kindOf:Str->Option NameKind}{x:Str}:∀{binds:List (Str × Aa)} {m:Str->Option Aa},(∀v,(x,v)∉binds)->bindC kindOf binds m x=m x
 |[],_,_=>rfl
 |(n,v)::r,m,h=>by
  unfold bindC;rw[Yw λw hw=>h w (dJ _ hw)];split
  ·rfl
  have:x≠n:=by rintro rfl;exact h v cZ
  simp[this]
theorem YK{kindOf:Str->Option NameKind}{x:Str}{v:Aa}:∀{P:ae} {vs:aq} {i:Nat} {m:Str->Option Aa},P.Nodup->P[i]? = some x->vs[i]? = some v->kindOf x\.local->
  bindL kindOf (P.zip vs) m x\v
 |[],_,_,_,_,h,_,_=>by simp at h
 |_::_,[],_,_,_,_,h,_=>by simp at h
 |p::P,w::vs,0,m,nd,h1,h2,hk=>by
  simp at h1 h2;subst h1;subst h2;show bindL kindOf ((p,w)::P.zip vs) m p=_;unfold bindL;rw[YV λv hv=>(r_.mp nd).1 (List.of_mem_zip hv).1,aB hk];simp
 |p::P,w::vs,i+1,m,nd,h1,h2,hk=>by
  show bindL kindOf ((p,w)::P.zip vs) m x=_;unfold bindL;exact YK (i:=i) (r_.mp nd).2 ⇑h1 ⇑h2 hk
theorem Yq{kindOf:Str->Option NameKind}{x:Str}{v:Aa}:∀{P:ae} {vs:aq} {i:Nat} {m:Str->Option Aa},P.Nodup->P[i]? = some x->vs[i]? = some v->kindOf x≠some .local->
  bindC kindOf (P.zip vs) m x\v
 |[],_,_,_,_,h,_,_=>by simp at h
 |_::_,[],_,_,_,_,h,_=>by simp at h
 |p::P,w::vs,0,m,nd,h1,h2,hk=>by
  simp at h1 h2;subst h1;subst h2;show bindC kindOf ((p,w)::P.zip vs) m p=_;unfold bindC;rw[Yw λv hv=>(r_.mp nd).1 (List.of_mem_zip hv).1,au hk];simp
 |p::P,w::vs,i+1,m,nd,h1,h2,hk=>by
  show bindC kindOf ((p,w)::P.zip vs) m x=_;unfold bindC;exact Yq (i:=i) (r_.mp nd).2 ⇑h1 ⇑h2 hk
def start(N:ae)(vs:ai):St:=vs.map some++List.replicate (N.length - vs.length) none
def lS(CX:wF)(P:Ae)(w:Af)(K:af)(mg:Str->Option Aa)(base:Heap)(N:ae)(qual:Str)(scope:Scope)(f:Addr)(cd:Aa)(A:Ag)(outer:List Env)(s:Ab)(H:Hp)(E:XK):Cx where
 prog:=P
 w:=w
 K:=K
 mg:=mg
 base:=base
 A:=A.deeper (envOfC qual scope s.heap.objs.size f cd)
 N:=N
 dD:=s
 mr:=H
 env:=envOfC qual scope s.heap.objs.size f cd
 outer:=outer
 stack:=envOfC qual scope s.heap.objs.size f cd::outer
 ex:=[]
 calm:=true
 fn:=λ_=>true
 pn:=[]
 xe:=λe s'=>wpAny (model P w) (A.deeper (envOfC qual scope s.heap.objs.size f cd)) (leaving (envOfC qual scope s.heap.objs.size f cd) e) (λ_ sr=>CX outer H s E e sr) (λe' sr=>CX outer H s E e' sr) s'
theorem XG{sc:Scope}(h:sc.names.lookup x\.cell):∃c,(cellsFrom n sc.names []).lookup x\c:=by
 let q:=PySem.W.cellsFrom_some sc.names n [] (.inl h);exact E8.mp q
variable{N:ae}{qual:Str}{scope:Scope}
theorem i4_{cd:Aa}{s s1:Ab}{us:aq}(S:bx N ps scope)(hd:A.handled=none)(e0:jz P w K mg base A outer s H)(hl:vs.length=ps.length)(r:Vals vs us)(x:InCallC s s.heap.objs.size (bindL (envOfC qual scope s.heap.objs.size f cd).kindOf (ps.zip us) λ_=>none) (cellsFrom (s.heap.objs.size+1) scope.names []) (bindC (envOfC qual scope s.heap.objs.size f cd).kindOf (ps.zip us) λ_=>none) s1) :
  Inv (lS CX P w K mg base N qual scope f cd A outer s H E) [] (start N vs) H s1:=by
 have mI:ps.length<=N.length:=by have:=dQ List.length S.pre;rw[cX] at this;omega
 let#[h1,tk,rfl,hk]:=x.done;have yt:∀b:Addr,b∉(lS CX P w K mg base N qual scope f cd A outer s H E).ex:=λb z=>absurd (show b∈([]:az) from z) Z2
 apply#[#[e0.mod,S.kind,Z,Z,bq _,λy z c h1 h2=>?_,λy hy=>?_,λy c _ h=>?_,λ_=>hd,Around.frames_deeper e0.frames,.inr #[Z,Z],λb z=>absurd z (yt b),e0.bs,e0.vQ,λb _ _=>yt b,λb z=>absurd z (yt b),e0.gA,e0.yP],
  rfl,e0.bare,Un.kept hk,#[_,x.toInCall.ns,λi y v h1 h2 h3=>?_],λy c h=>#[_,x.cell y c h],e0.aN.fresh (bq _),λy c h=>?_,λp hp=>absurd (show p∈([]:List (Addr × Obj)) from hp) Z2,e0.aN.kept hk,?_]
 ·exact name_of_addr x.apart (rX h1) (rX h2)
 ·have hy:scope.names.lookup y\.cell∨scope.names.lookup y\.free:=hy;rcases hy with hy|hy
  ·exact XG hy
  exact absurd Z (S.BU _ (rX hy))
 ·exact Nat.le_of_lt (x.above y c (rX h))
 ·have hi:i<vs.length:=by
   unfold start at h2;by_cases hi:i<vs.length
   ·exact hi
   rw[A7 ⇑hi] at h2;rw[List.getElem?_replicate] at h2;split at h2<;>cases h2
  have ha:vs[i]? = some v:=by
   unfold start at h2;rw[Dz ⇑hi,dR] at h2;cases e:vs[i]? with
   |none=>rw[e] at h2;cases h2
   |some a=>rw[e] at h2;cases h2;rfl
  let#[u,hu,rv]:=r.get ha
  have hp:ps[i]? = some y:=by
   rw[<- S.pre,List.getElem?_take_of_lt Z1];exact h1
  have Li:ps.Nodup:=by rw[<- S.pre];exact S.nd.sublist (List.take_sublist _ _)
  apply#[u,rv,?_];rcases S.par y (cj hp) with k|k
  ·exact .inl #[k,YK Li hp hu k]
  let#[c,e]:=XG (n:=s.heap.objs.size+1) k;apply .inr #[.inl k,c,e,?_];let q:=x.cell y c e;rw[Yq Li hp hu (by show scope.names.lookup y≠_;rw[k];decide)] at q;exact q
 ·exact e0.aN.fresh (Nat.le_of_lt (x.above y c (rX h)))
 unfold start;show _=N.length;rw[eA,ao,xE];omega
theorem U4{name:Str}{params:Arguments}{dV kV doc pm aR ct oc:Aa}{an od:Option Addr}{kn:Array (Option Aa)}(lk:K.lookup f=some #[oc,od,.func (PySem.W.fnOf name qual params body scope dV kV doc pm an aR ct),kn])(iT:PySem.W.codeIn K aR qual=true)(S:bx N ps scope)(len:∀vs H Q E,sp vs H Q E->vs.length=ps.length)(gz:∀(A:Ag) (outer:List Env) (s:Ab) (H:Hp) (vs:ai) (Q:VK) (E:XK),aY k (A.deeper (envOfC qual scope s.heap.objs.size f aR))->sp vs H Q E->
   ∃t,mX (lS CX P w K mg base N qual scope f aR A outer s H E) body t/\t { nx:=λ_ H'=>Q .non H',rt:=Q } (start N vs) H) :
  aj P w K mg base CX (k+1) f (PySem.W.fnOf name qual params body scope dV kV doc pm an aR ct) ps sp:=by
 apply#[len,λA outer s H args us vs Q E hr e0 hb r mG=>?_];let hl:=len _ _ _ _ mG;have KX:K.In s.heap:=e0.mod.GJ.keeps λb o e=>(e0.bs b o e).1;have lim:s.heap.NoLimit:=e0.mod.nolimit.keeps λb o e=>(e0.bs b o e).1
 have Ht:∀y∈ps.zip us,scope.names.lookup y.1\.local∨(scope.names.lookup y.1\.cell/\((cellsFrom (s.heap.objs.size+1) scope.names []).lookup y.1).isSome=true):=λ⟨n,v⟩ hy=>by
  rcases S.par n (List.of_mem_zip hy).1 with q|q
  ·exact .inl q
  exact .inr #[q,PySem.W.cellsFrom_some _ _ _ (.inl q)]
 apply codeAny_call_function hr.depth (KX _ _ lk) Z S.co S.gen Z (PySem.W.codeRec_of KX iT) (hb _ _ _ _ ?_);apply wpAny_newFunctionEnv_cells S.kind Ht λenv he s1 x=>?_;subst he;apply#[lim.keeps x.toInCall.keep,codeAny_func ?_];let#[t,ht,hq]:=gz A outer s H vs Q E (hr.deeper _) mG;have I:Inv (lS CX P w K mg base N qual scope f aR A outer s H E) [] (start N vs) H s1:=i4_ S hr.hd e0 hl r x;apply wpAny_mono (ht [] s1 (start N vs) H _ I hq) (λfl s' hs=>?_) λe s' hs=>hs
 have fin:∀{bt:St} {H':Hp} {v:V} {u:Aa},Inv (lS CX P w K mg base N qual scope f aR A outer s H E) [] bt H' s'->RelV v u->Q v H'->CE outer P w H s Q u s':=
  λ{bt H' v u} J rv q=>#[v,H',J.os,J.bare,J.base,J.aN,rv,q]
 cases fl with
 |ret u=>
  let#[v,bt,H',J,rv,q]:=hs;exact fin J rv q
 |next=>
  let#[bt,H',J,q]:=hs;exact fin (v:=V.non) (u:=Value.none) J Z q
 |brk=>
  let#[_,_,_,q]:=hs;exact False.elim q
 |cont=>
  let#[_,_,_,q]:=hs;exact False.elim q
def Uo(r:ai->Hp->VK->Prop)(t:TA):TE:=λσ H Q=>t σ H λvs H1=>r vs H1 Q
variable{r:ai->Hp->VK->Prop}{id:String}
theorem cQ(hc:gD X (.builtin id) r)(hg:Gl X x)(hm:X.mg x=none)(hv:bootBuiltins x\.builtin id)(ha:PA X (e::es) t)(hn:x≠"__name__":=by decide)(oQ:(x == ("__debug__":Str))=false:=by decide)
  (he:starEach (e::es) X.env=(false,eval e X.env)::starEach es X.env:=by rfl) (mI:(backTo pos (starEach es X.env)).any (·.1)=false:=by rfl):PE X (.Call (.Name x p) (e::es) [] pos) (Uo r t):=by
 intro pins s σ H Q I h;apply wpAny_Call_Name_kw (EA I hg hm hv ?_ hn oQ);exact PyProof.Rows.callWith_builtin1 (bb (ha pos pins s σ H _ I h) λus s1 ⟨vs,H1,I1,r1,q1⟩=>hc pins s1 σ H1 vs us Q I1 r1 q1) he mI
variable{T:String}
theorem iZ(hc:gD X (.type T) r)(hg:Gl X x)(hm:X.mg x=none)(hv:bootBuiltins x\.type T)(ha:PA X (e::es) t)(hn:x≠"__name__":=by decide)(oQ:(x == ("__debug__":Str))=false:=by decide)
  (he:starEach (e::es) X.env=(false,eval e X.env)::starEach es X.env:=by rfl) (mI:(backTo pos (starEach es X.env)).any (·.1)=false:=by rfl):PE X (.Call (.Name x p) (e::es) [] pos) (Uo r t):=by
 intro pins s σ H Q I h;apply wpAny_Call_Name_kw (EA I hg hm hv ?_ hn oQ);exact PyProof.Rows.callWith_type1 (bb (ha pos pins s σ H _ I h) λus s1 ⟨vs,H1,I1,r1,q1⟩=>hc pins s1 σ H1 vs us Q I1 r1 q1) he mI
end L2
local macro_rules|`(!$f:ident $a*)=>if [`br,`pE,`bF,`aj,`jM].contains f.getId then let i:=Lean.mkIdent;`($f $(i `P) $(i `w) $(i `K) $(i `mg) $(i `base) $a*)else Lean.Macro.throwUnsupported
namespace HT
open PySem PyProof.Rows
section
open PySem.SeqAt
open PySem.AutoSeq1 (wpAny_loadPart')
open PySem.MeetsSeq PySem.MeetsSeq2 PySem.MeetsSeq3
end
def lB(n d:Nat):Option Int->Nat
 |none=>d
 |some v=>if v<0 then (v+(n:Int)).toNat else min v.toNat n
theorem lj(n d:Nat):lB n d none=d:=rfl
theorem p9(n d k:Nat):lB n d (some (k:Int))=min k n:=by
 show (if (k:Int)<0 then ((k:Int)+(n:Int)).toNat else min (k:Int).toNat n)=min k n;rw[au Z1,xB]
end HT
namespace L2
open PySem PySem.Spec PyProof.Rows
abbrev TO:=St->Hp->(Option Int->Hp->Prop)->Prop
def PO(X:Cx)(e:Option Expr)(t:TO):Prop:=
 ∀(pins:List (Addr × Obj)) (s:Ab) (σ:St) (H:Hp) (Q:Option Int->Hp->Prop),Inv X pins σ H s->t σ H Q->
  wpAny (model X.prog X.w) X.A (evalPart e X.env) (λu s'=>∃o H',Inv X pins σ H' s'/\IsPart u o/\Q o H') X.xe s
def xS:TO:=λ_ H Q=>Q none H
inductive tI (Q:Option Int->Hp->Prop) (x:V) (H1:Hp):Prop
 |mk:∀i,x=.int i->Q (some i) H1->tI Q x H1
def Fv(t:TE):TO:=λσ H Q=>t σ H λx H1=>tI Q x H1
section
variable{X:Cx}{e:Expr}{te:TE}{lo hi:Option Expr}{tl th:TO}{pos p2:Pos}
theorem xo:PO X none xS:=by
 intro pins s σ H Q I h;rw[evalPart_none];exact bR #[none,H,I,.none,h]
theorem xn(h:PE X e te):PO X (some e) (Fv te):=by
 intro pins s σ H Q I hw;rw[evalPart_some];apply bb (h pins s σ H _ I hw) λu s1 ⟨x,H1,I1,r1,q1⟩=>?_;let#[i,rfl,q]:=q1;let#[t,rfl]:=r1;exact#[some i,H1,I1,.int i t,q]
def TR(X:Cx)(r:V->Option Int->Option Int->Hp->VK->Prop):Prop:=
 ∀(pins:List (Addr × Obj)) (s:Ab) (σ:St) (H:Hp) (x:V) (v vl vu:Aa) (lo hi:Option Int) (sl:Addr) (Q:VK),Inv X pins σ H s->RelV x v->s.heap.IsSliceOf sl vl vu .none->IsPart vl lo->IsPart vu hi->r x lo hi H Q->
  ∃T id,typeLookup (.type T) "__getitem__"=pure (some (.builtin id))/\s.TypeIs v T/\wpAny (model X.prog X.w) X.A (getItem v (.ref sl)) (EP X pins σ Q) X.xe s
def tSl(r:V->Option Int->Option Int->Hp->VK->Prop)(te:TE)(tl th:TO):TE:=λσ H Q=>te σ H λx H1=>tl σ H1 λl H2=>th σ H2 λu H3=>r x l u H3 Q
theorem xq{r:V->Option Int->Option Int->Hp->VK->Prop}(hr:TR X r)(he:PE X e te)(hl:PO X lo tl)(hu:PO X hi th):PE X (.Subscript e (.Slice lo hi none p2) pos) (tSl r te tl th):=by
 intro pins s σ H Q I h;apply Subscript_ (bb (he pins s σ H _ I h) λv s1 ⟨x,H1,I1,r1,q1⟩=>?_);apply wpAny_Slice (bb (hl pins s1 σ H1 _ I1 q1) λvl s2 ⟨l,H2,I2,pl,q2⟩=>bb (hu pins s2 σ H2 _ I2 q2) λvu s3 ⟨u,H3,I3,pu,q3⟩=>?_);rw[evalPart_none];apply bR ?_;have I4:Inv X pins σ H3 { s3 with heap:=s3.heap.push { cls:=.type "slice",data:=.fields (List.toArray [vl,vu,.none]) } }:=I3.kept (t':=s3.toks) λb ob q=>cO _ q;let#[T,id,hT,ht,hg]:=hr pins { s3 with heap:=s3.heap.push { cls:=.type "slice",data:=.fields (List.toArray [vl,vu,.none]) } } σ H3 x v vl vu l u s3.heap.objs.size Q I4 r1 (Heap.IsSliceOf.new ..) pl pu q3;show wpAny (model X.prog X.w) X.A (subscriptTail e (.Slice lo hi none p2) v (.ref s3.heap.objs.size)) (EP X pins σ Q) X.xe { s3 with heap:=s3.heap.push { cls:=.type "slice",data:=.fields (List.toArray [vl,vu,.none]) } };exact tail_any (ops:=[.ref s3.heap.objs.size,v]) ht hT hg (by with_unfolding_all rfl)
def gB(xs:ai)(lo hi:Option Int):ai:=(xs.drop (HT.lB xs.length 0 lo)).take (HT.lB xs.length xs.length hi - HT.lB xs.length 0 lo)
theorem fv_(xs:ai)(lo hi:Option Int):(gB xs lo hi).length<=xs.length:=by
 unfold gB;rw[cX,List.length_drop];omega
end
def Ap(n:Nat)(i:Int):Option Nat:=if 0<=i then (if i<n then some i.toNat else none) else if -(n:Int)<=i then some (i+n).toNat else none
def gK{α:Type}(xs:List α)(i:Int):Option α:=(Ap xs.length i).bind λj=>xs[j]?
variable{j n:Nat}
theorem VU{i:Int}(h:Ap n i\j):seqIndex? i n\j/\j<n/\-(n:Int)<=i/\i<n:=by
 unfold Ap at h;by_cases h0:0<=i
 ·rw[aB h0] at h;by_cases h1:i<n
  ·rw[aB h1] at h;have e:i.toNat=j:=eK h;exact#[by rw[seqIndex_of h0 h1,e],by omega,by omega,h1]
  rw[au h1] at h;cases h
 rw[au h0] at h;by_cases h1:-(n:Int)<=i
 ·rw[aB h1] at h;have e:(i+n).toNat=j:=eK h;exact#[by rw[seqIndex_neg Z1 h1,e],by omega,h1,by omega]
 rw[au h1] at h;cases h
theorem QB{α:Type}{xs:List α}{i:Int}{v:α}(h:gK xs i\v):∃j,seqIndex? i xs.length\j/\xs[j]? = some v/\j<xs.length/\-(xs.length:Int)<=i/\i<xs.length:=by
 unfold gK at h;cases e:Ap xs.length i with
 |none=>rw[e] at h;cases h
 |some j=>
  rw[e] at h;let#[h1,h2,h3,h4]:=VU e;exact#[j,h1,h,h2,h3,h4]
theorem iX{α:Type}{xs:List α}{v:α}(h:xs[j]? = some v):gK xs (j:Int)\v:=by
 have hj:j<xs.length:=(cq.mp h).1
 have e:Ap xs.length (j:Int)\j:=by
  unfold Ap;rw[aB Z1,aB Z1];simp
 unfold gK;rw[e];exact h
def zx(b:Expr):Prop:=∀o i,subscripted b false o i=operate [o,i] (getItem o i)
def E_(X:Cx)(r:R2):Prop:=
 ∀(value slice:Expr) (pins:List (Addr × Obj)) (s:Ab) (σ:St) (H:Hp) (x y:V) (v u:Aa) (Q:VK),Inv X pins σ H s->RelV x v->RelV y u->r x y H Q->
  subscripted slice false v u=operate [v,u] (getItem v u)->wpAny (model X.prog X.w) X.A (subscriptTail value slice v u) (EP X pins σ Q) X.xe s
def _h(X:Cx)(id:String)(r:V->ai->Hp->VK->Prop):Prop:=
 ∀(pins:List (Addr × Obj)) (s:Ab) (σ:St) (H:Hp) (x:V) (xs:ai) (v:Aa) (us:aq) (Q:VK),Inv X pins σ H s->RelV x v->Vals xs us->r x xs H Q->
  wpAny (model X.prog X.w) X.A (call (.builtin id) (v::us)) (EP X pins σ Q) X.xe s
variable{pins:List (Addr × Obj)}{σ:St}{s:Ab}{its its':aq}
variable{A:Ag}{u:Aa}
variable{T:String}
section
variable{X:Cx}{a b:Expr}{ta tb:TE}{pos:Pos}
theorem bM{r:R2}(hr:E_ X r)(ha:PE X a ta)(hb:PE X b tb)(hs:zx b:=by exact λ_ _=>rfl):PE X (.Subscript a b pos) (Fw r ta tb):=by
 intro pins s σ H Q I h;exact Subscript_ (Do ha hb I h λv u s2 x y H2 I2 rx ry q=>hr a b pins s2 σ H2 x y v u Q I2 rx ry q (hs _ _))
inductive BN (K:af) (x:V) (y:V) (H:Hp) (Q:VK):Prop
 |mk:∀p xs i v,x=.ref p->y=.int i->eG K H p xs->gK xs i\v->Q v H->BN K x y H Q
inductive jk (K:af) (x:V) (y:V) (H:Hp) (Q:VK):Prop
 |mk:∀p xs i v,x=.ref p->y=.int i->i6 K H p xs->gK xs i\v->Q v H->jk K x y H Q
inductive F5 (x:V) (y:V) (H:Hp) (Q:VK):Prop
 |mk:∀z i c,x=.str z->y=.int i->z.length<=sizeLine->gK z.cps.toList i\c->Q (.str ⟨(List.toArray [c])⟩) H->F5 x y H Q
theorem gi:E_ X (BN X.K):=by
 intro value slice pins s σ H x y v u Q I rx ry h hs;let#[p,xs,i,z,rfl,rfl,hq,he,q]:=h;cases rx;let#[t,rfl]:=ry;let#[its,r,pl,hz]:=I.list hq;let#[j,h1,h2,h3,h4,h5]:=QB he;let#[w,ew,lE]:=r.get h2;let hl:=r.length;let hn:=gY;have fin:EP X pins σ Q w s:=⟨z,H,I,lE,q⟩;by_cases h0:0<=i
 ·have hj:i.toNat=j:=by
   rw[seqIndex_of h0 h5] at h1;exact eK h1
  exact item_listR pl.isList h0 Z1 (by rw[hj];simpa using ew) fin hs
 have hj:(i+(its.toArray.size:Int)).toNat=j:=by
  rw[seqIndex_neg Z1 h4] at h1;rw[dG,<- hl];exact eK h1
 exact subscriptTail_builtinR (x:=w) pl.isList.typeIs slot_list_getitem.lookup
  (wpAny_getItem_list_neg (Q:=λr s'=>r=w/\EP X pins σ Q r s') pl.isList Z1 (by rw[dG]<;>omega) Z1 (by rw[hj];simpa using ew) ⟨rfl,fin⟩) hs
theorem eP:E_ X (jk X.K):=by
 intro value slice pins s σ H x y v u Q I rx ry h hs;let#[p,xs,i,z,rfl,rfl,hq,he,q]:=h;cases rx;let#[t,rfl]:=ry;let#[its,r,pl,hz]:=I.tuple hq;let#[j,h1,h2,h3,h4,h5]:=QB he;let#[w,ew,lE]:=r.get h2;let hl:=r.length;let hn:=gY;have fin:EP X pins σ Q w s:=⟨z,H,I,lE,q⟩
 exact subscriptTail_builtinR (x:=w) pl.typeIs slot_tuple_getitem.lookup
  (getItem_tuple (j:=j) (Q:=λr s'=>r=w/\EP X pins σ Q r s') pl Z1 Z1 (by rw[dG,<- hl];exact h1) ⇑ew ⟨rfl,fin⟩) hs
theorem VC:E_ X F5:=by
 intro value slice pins s σ H x y v u Q I rx ry h hs;let#[z,i,c,rfl,rfl,hz,he,q]:=h;let#[t,rfl]:=rx;let#[t',rfl]:=ry;let#[j,h1,h2,h3,h4,h5]:=QB he;have hl:z.cps.toList.length=z.length:=by simp[Str.length]
 rw[hl] at h1 h4 h5;let hn:=gY
 exact tail_any (typeIs_str s z t) slot_str_getitem.lookup (getItem_str (c:=c) (by
  have e1:decide (i < -(2 ^ 63:Int))=false:=dU Z1;have e2:decide (i ≥ 2 ^ 63)=false:=dU Z1;rw[e1,e2,Bool.or_false]) (by rw[h1];simpa using h2) ⟨.str ⟨(List.toArray [c])⟩,H,I.tok _,⟨_,rfl⟩,q⟩) hs
theorem gQ_(its:aq)(n j:Nat)(u:Aa):Obj.mapSeq (·.setIfInBounds j u) { cls:=.type "list",data:=.seq its.toArray n }={ cls:=.type "list",data:=.seq (its.set j u).toArray n }:=by
 simp[Obj.mapSeq]
theorem Inv.lst{pins:List (Addr × Obj)}{σ:St}{H:Hp}{s:Ab}{p:Addr}{xs:ai}(I:Inv X pins σ H s)(h:H p\.lst xs) :
  ∃(its:aq) (n:Nat),Vals xs its/\s.heap.get? p=some { cls:=.type "list",data:=.seq its.toArray n }/\xs.length<=sizeLine:=by
 let#[z,its,n,r,e]:=I.aN p _ h;exact⟨its,n,r,e,z⟩
theorem Inv.B1{H:Hp}{p:Addr}{xs ys:ai}{n':Nat}{f:Obj->Obj}(I:Inv X pins σ H s)(h:H p\.lst xs)(ho:s.heap.get? p=some { cls:=.type "list",data:=.seq its.toArray n })(hf:f { cls:=.type "list",data:=.seq its.toArray n }={ cls:=.type "list",data:=.seq its'.toArray n' })(r:Vals ys its')(hz:ys.length<=sizeLine)(t:Nat) :
  Inv X pins σ (upd H p (.lst ys)) { s with heap:=s.heap.update p f,toks:=t }:=by
 have e:(s.heap.update p f).get? p=some { cls:=.type "list",data:=.seq its'.toArray n' }:=by
  rw[Heap.get?_update_self f ho (by rw[hf]<;>rfl),hf]
 apply I.write (x:=p) (e:=p) (by rw[h];trivial) (.inl rfl) (λb u hb q=>(xm _ _ (Ne.symm hb)).trans q) ⟨_,e⟩ ?_;exact⟨hz,its',n',r,e⟩
inductive zZ (o:V) (i:V) (v:V) (H:Hp) (Q:Hp->Prop):Prop
 |mk:∀p xs k j,o=.ref p->i=.int k->H p\.lst xs->Ap xs.length k\j->Q (upd H p (.lst (xs.set j v)))->zZ o i v H Q
theorem XE:KL X zZ:=by
 intro pins s σ H o i v ov iv u Q I ro ri rv h;let#[p,xs,k,j,rfl,rfl,hp,hj,q]:=h;cases ro;let#[t,rfl]:=ri;let#[its,n,r,ho,hz]:=I.lst hp;let#[h1,h2,h3,h4]:=VU hj;let hl:=r.length;let hn:=gY
 have I':Inv X pins σ (upd H p (.lst (xs.set j v))) { s with heap:=s.heap.update p (Obj.mapSeq (·.setIfInBounds j u)) }:=
  I.B1 hp ho (gQ_ its n j u) (r.set rv j) (by rw[List.length_set];exact hz) s.toks
 by_cases h0:0<=k
 ·have hk:k.toNat=j:=by
   rw[seqIndex_of h0 h4] at h1;exact eK h1
  exact PySem.W.ki_setAt ho h0 Z1 (by rw[dG,<- hl];exact h4) (by rw[hk];exact⟨_,I',q⟩)
 have hk:(k+(its.toArray.size:Int)).toNat=j:=by
  rw[seqIndex_neg Z1 h3] at h1;rw[dG,<- hl];exact eK h1
 exact PySem.W.ki_setBack ho Z1 (by rw[dG,<- hl];exact h3) Z1 (by rw[hk];exact⟨_,I',q⟩)
theorem em_(lo hi:Option Int)(n:Nat):(sliceBounds lo hi none n).1=((HT.lB n 0 lo:Nat):Int)/\(sliceBounds lo hi none n).2.1=((HT.lB n n hi:Nat):Int)/\(sliceBounds lo hi none n).2.2=1:=by
 apply⟨?_,?_,rfl⟩
 ·cases lo with
  |none=>simp[sliceBounds,HT.lB]
  |some i=>
   simp only[sliceBounds,HT.lB,Option.getD_none,show (1:Int) > 0 by decide,if_true];by_cases h:i<0
   ·simp only[h,if_true]<;>omega
   simp only[h,if_false]<;>omega
 cases hi with
 |none=>simp[sliceBounds,HT.lB]
 |some i=>
  simp only[sliceBounds,HT.lB,Option.getD_none,show (1:Int) > 0 by decide,if_true];by_cases h:i<0
  ·simp only[h,if_true]<;>omega
  simp only[h,if_false]<;>omega
theorem eh_(its:aq)(lo hi:Option Int):slicePick its.toArray lo hi none=((its.drop (HT.lB its.length 0 lo)).take (HT.lB its.length its.length hi - HT.lB its.length 0 lo)).toArray:=by
 let#[h1,h2,h3]:=em_ lo hi its.toArray.size;unfold slicePick;rw[h1,h2,h3];simp only[sliceRange_one,pick_run,dG]<;>rfl
inductive F1 (K:af) (x:V) (lo:Option Int) (hi:Option Int) (H:Hp) (Q:VK):Prop
 |mk:∀a xs,x=.ref a->eG K H a xs->(∀p,H p=none->Q (.ref p) (upd H p (.lst (gB xs lo hi))))->F1 K x lo hi H Q
theorem A2:TR X (F1 X.K):=by
 intro pins s σ H x v vl vu lo hi sl Q I rx hs pl pu h;let#[a,xs,rfl,hx,q]:=h;cases rx;let#[its,r,ht,hz]:=I.list hx;let hlen:=r.length;apply⟨"list",_,slot_list_getitem.lookup,ht.isList.typeIs,?_⟩;apply wpAny_getItem_list_slice ht.isList hs pl pu .none Z2 ?_ (by rw[dG]<;>omega)
 rw[eh_,<- hlen];apply⟨.ref s.heap.objs.size,_,I.laid (t':=s.toks) (o:=.lst (gB xs lo hi)) (λb ob q=>cO _ q) (bq _) ?_,rfl,q _ (I.aN.fresh (bq _))⟩;exact⟨qJ (fv_ xs lo hi) hz,_,0,(r.drop (HT.lB xs.length 0 lo)).take (HT.lB xs.length xs.length hi - HT.lB xs.length 0 lo),fI _ rfl⟩
def qB:V->Bool
 |.non=>true
 |.bl _=>true
 |.int _=>true
 |.str _=>true
 |_=>false
def jF:V->V->Bool
 |.non,.non=>true
 |.bl a,.bl b=>a == b
 |.bl a,.int b=>(if a then 1 else 0) == b
 |.int a,.bl b=>a == (if b then 1 else 0)
 |.int a,.int b=>a == b
 |.str a,.str b=>a == b
 |_,_=>false
theorem LI{y x:V}{v:Aa}(ry:RelV y u)(rx:RelV x v)(fy:qB y=true)(fx:qB x=true):SeqAt.EqAt A s u v (jF y x):=by
 cases y with
 |non=>
  cases ry;cases x with
  |non=>cases rx;exact SeqAt.EqAt.same _
  |bl b=>cases rx;exact SeqAt.EqAt.none_bool b
  |int b=>let#[t,rfl]:=rx;exact SeqAt.EqAt.none_int b t
  |str b=>let#[t,rfl]:=rx;exact SeqAt.EqAt.none_str b t
  |_=>exact absurd (show false=true from fx) hJ
 |bl a=>
  cases ry;cases x with
  |non=>cases rx;exact SeqAt.EqAt.bool_none a
  |bl b=>cases rx;exact SeqAt.EqAt.bool_bool a b
  |int b=>let#[t,rfl]:=rx;exact SeqAt.EqAt.bool_int a b t
  |str b=>let#[t,rfl]:=rx;exact SeqAt.EqAt.bool_str a b t
  |_=>exact absurd (show false=true from fx) hJ
 |int a=>
  let#[t',rfl]:=ry;cases x with
  |non=>cases rx;exact SeqAt.EqAt.int_none a t'
  |bl b=>cases rx;exact SeqAt.EqAt.int_bool a t' b
  |int b=>let#[t,rfl]:=rx;exact SeqAt.EqAt.int_int a t' b t
  |str b=>let#[t,rfl]:=rx;exact SeqAt.EqAt.int_str a t' b t
  |_=>exact absurd (show false=true from fx) hJ
 |str a=>
  let#[t',rfl]:=ry;cases x with
  |non=>cases rx;exact SeqAt.EqAt.str_none a t'
  |bl b=>cases rx;exact SeqAt.EqAt.str_bool a t' b
  |int b=>let#[t,rfl]:=rx;exact SeqAt.EqAt.str_int a t' b t
  |str b=>let#[t,rfl]:=rx;exact SeqAt.EqAt.str_str a t' b t
  |_=>exact absurd (show false=true from fx) hJ
 |_=>exact absurd (show false=true from fy) hJ
def mK(x:V)(u:Aa):Bool:=match u with
 |.none=>jF .non x
 |.bool b=>jF (.bl b) x
 |.int i _=>jF (.int i) x
 |.str z _=>jF (.str z) x
 |_=>false
theorem O_{x y:V}(r:RelV y u)(f:qB y=true):mK x u=jF y x:=by
 cases y with
 |non=>cases r;rfl
 |bl b=>cases r;rfl
 |int i=>let#[t,rfl]:=r;rfl
 |str z=>let#[t,rfl]:=r;rfl
 |_=>exact absurd (show false=true from f) hJ
theorem QM{x:V}:∀{xs:ai} {us:aq},Vals xs us->xs.all qB=true->us.any (mK x)=xs.any λy=>jF y x
 |_,_,.nil,_=>rfl
 |y::xs,u::us,.cons r t,f=>by
  rw[List.all_cons,xI] at f;rw[List.any_cons,List.any_cons,O_ r f.1,QM t f.2]
theorem IT{A:Ag}{s:Ab}{x:V}{v:Aa}(rx:RelV x v)(fx:qB x=true):∀{xs:ai} {us:aq},Vals xs us->xs.all qB=true->∀u∈us,SeqAt.EqAt A s u v (mK x u)
 |_,_,.nil,_=>λu hu=>by cases hu
 |y::xs,u::us,.cons r t,f=>λu' hu=>by
  rw[List.all_cons,xI] at f;rcases bX.mp hu with rfl|hu
  ·rw[O_ r f.1];exact LI r rx f.1 fx
  exact IT rx fx t f.2 u' hu
def DY(x:V)(xs:ai):Bool:=xs.any λy=>jF y x
inductive DN (K:af) (neg:Bool) (x:V) (y:V) (H:Hp) (Q:VK):Prop
 |mk:∀p xs,y=.ref p->(eG K H p xs∨i6 K H p xs)->qB x=true->xs.all qB=true->Q (.bl (if neg then !DY x xs else DY x xs)) H->DN K neg x y H Q
theorem ME:eQ X (compareOp .In) (DN X.K false):=by
 intro pins s σ H x y v u Q I rx ry h;let#[p,xs,rfl,hq,fx,fs,q]:=h;cases ry;rcases hq with hq|hq
 ·let#[its,r,pl,hz]:=I.list hq;apply SeqAt.in_listAt (mK x) pl.isList (λw hw=>IT rx fx r fs w ⇑hw) ⟨.bl _,H,I,rfl,?_⟩;rw[show its.toArray.any (mK x)=its.any (mK x) by simp,QM r fs];exact q
 let#[its,r,pl,hz]:=I.tuple hq;apply SeqAt.in_tupleAt (mK x) pl (λw hw=>IT rx fx r fs w ⇑hw) ⟨.bl _,H,I,rfl,?_⟩;rw[show its.toArray.any (mK x)=its.any (mK x) by simp,QM r fs];exact q
inductive TC (K:af) (xs:ai) (H:Hp) (Q:VK):Prop
 |mk:∀p ys,xs=[.ref p]->(eG K H p ys∨i6 K H p ys)->Q (.int ys.length) H->TC K xs H Q
theorem mR:gD X (.builtin "len") (TC X.K):=by
 intro pins s σ H xs us Q I r h;let#[p,ys,rfl,hq,q]:=h;let#[u,rfl,rx]:=vals1 r;cases rx;let hn:=gY;rcases hq with hq|hq
 ·let#[its,r',pl,hz]:=I.list hq;let hlen:=r'.length;exact Calls.call_len_list pl.isList (by simp only[dG]<;>omega) ⟨.int ys.length,H,I.tok _,⟨s.toks+1,by rw[dG,hlen]⟩,q⟩
 let#[its,r',pl,hz]:=I.tuple hq;let hlen:=r'.length;exact len_tuple pl (by simp only[dG]<;>omega) ⟨.int ys.length,H,I.tok _,⟨s.toks+1,by rw[dG,hlen]⟩,q⟩
inductive ZU (xs:ai) (H:Hp) (Q:VK):Prop
 |mk:∀z,xs=[.str z]->z.length<=sizeLine->Q (.int z.length) H->ZU xs H Q
theorem ZR:gD X (.builtin "len") ZU:=by
 intro pins s σ H xs us Q I r h;let#[z,rfl,hz,q]:=h;let#[u,rfl,t,rfl]:=vals1 r;let hn:=gY;exact len_str Z1 ⟨.int z.length,H,I.tok _,⟨_,rfl⟩,q⟩
inductive ZX (K:af) (xs:ai) (H:Hp) (Q:VK):Prop
 |mk:∀p ys,xs=[.ref p]->(eG K H p ys∨i6 K H p ys)->(∀l,H l=none->Q (.ref l) (upd H l (.lst ys)))->ZX K xs H Q
theorem eI_:gD X (.type "list") (ZX X.K):=by
 intro pins s σ H xs us Q I r h;let#[p,ys,rfl,hq,q]:=h;let#[u,rfl,rx]:=vals1 r;cases rx
 have fin:∀(its:aq),Vals ys its->ys.length<=sizeLine->∀(h':Heap) (c':Nat),(∀b o',s.heap.get? b\o'->h'.get? b\o')->
   h'.get? s.heap.objs.size=some { cls:=.type "list",dict:=none,data:=.seq its.toArray c',slots:=#[] }->EP X pins σ Q (.ref s.heap.objs.size) { s with heap:=h' }:=λits r' hz h' c' kp e=>
  #[.ref s.heap.objs.size,_,I.laid (t':=s.toks) kp (bq _) (show gh X.prog X.w _ h' _ (.lst ys) from #[hz,its,c',r',e]),Z,q _ (I.aN.fresh (bq _))]
 rcases hq with hq|hq
 ·let#[its,r',pl,hz]:=I.list hq;let hlen:=r'.length;let#[o,ho,hc,n,hd]:=pl.isList;exact call_list_seq p (.inl Z) ho hc hd (λh' c' kp e=>fin its r' hz h' c' kp e) (by simp only[dG]<;>omega)
 let#[its,r',pl,hz]:=I.tuple hq;let hlen:=r'.length;let#[o,ho,hc,n,hd]:=pl;exact call_list_seq p (.inr Z) ho hc hd (λh' c' kp e=>fin its r' hz h' c' kp e) (by simp only[dG]<;>omega)
def Ng(K:af)(T:String)(x:V)(H:Hp):Prop:=match x with
 |.str _=>T="str"
 |.int _=>T="int"
 |.ref p=>(T="list"/\∃xs,eG K H p xs)∨(T="tuple"/\∃o,K.lookup p\o/\o.cls=.type "tuple"/\o.dict=none) ∨
   (T="dict"/\((∃kvs,H p\.dK kvs)∨∃kvs,H p\.dT kvs))∨(T="set"/\∃S n,H p\.set S n)
 |_=>False
theorem Vz{H:Hp}{x:V}{v:Aa}(I:Inv X pins σ H s)(r:RelV x v)(ty:Ng X.K T x H) :
  s.TypeIs v T/\∀a,v=.ref a->∃ob,s.heap.get? a\ob/\ob.dict=none:=by
 cases x with
 |str z=>
  let#[t,rfl]:=r;cases (show T="str" from ty);exact#[typeIs_str s z t,λ_ e=>nomatch e]
 |int i=>
  let#[t,rfl]:=r;cases (show T="int" from ty);exact#[typeIs_int s i t,λ_ e=>nomatch e]
 |ref p=>
  cases r;rcases ty with⟨rfl,xs,hq⟩|⟨rfl,o,hk,hc,hd⟩|⟨rfl,hk⟩|⟨rfl,S,n,hk⟩
  ·let#[its,_,pl,_]:=I.list hq;apply#[pl.isList.typeIs,λa e=>?_];cases e;let#[o,n,e,c,hd,_]:=pl;exact#[o,e,hd]
  ·apply#[#[o,I.gI p o hk,hc],λa e=>?_];cases e;exact#[o,I.gI _ o hk,hd]
  ·have z:∃o,s.heap.get? p\o/\o.ExactDict:=by
    rcases hk with⟨kvs,hk⟩|⟨kvs,hk⟩
    ·let#[_,_,_,_,o,_,_,e,ex,_]:=I.aN p _ hk;exact#[o,e,ex]
    let#[_,_,_,_,o,_,_,e,ex,_]:=I.aN p _ hk;exact#[o,e,ex]
   let#[o,e,ex]:=z;apply#[#[o,e,ex.1],λa e2=>?_];cases e2;exact#[o,e,ex.2.1]
  ·let#[o,_,_,_,e,ex,_]:=I.aN p _ hk;apply#[#[o,e,ex.1],λa e2=>?_];cases e2;exact#[o,e,ex.2.1]
 |_=>exact False.elim ty
def ND(K:af)(T:String)(r:V->ai->Hp->VK->Prop)(to:TE):TE:=λσ H Q=>to σ H λx H1=>Ng K T x H1/\r x [] H1 Q
def tBM(K:af)(T:String)(r:V->ai->Hp->VK->Prop)(to:TE)(t:TA):TE:=λσ H Q=>to σ H λx H1=>Ng K T x H1/\t σ H1 λxs H2=>r x xs H2 Q
variable{o e:Expr}{es:List Expr}{to:TE}{t:TA}{name:Str}{apos dk:Pos}{T id:String}{r:V->ai->Hp->VK->Prop}
theorem lO_(pa:PlainAttrs T)(slot:Slot T name id)(Pj:typeOf (.builtin id)=pure (.type "method_descriptor"))(hm:_h X id r)(ho:PE X o to)
  (iU:attributeBase o name X.env (eval o X.env)=eval o X.env:=by rfl) (iR:(apos.endLine == dk.line)=true:=by rfl):PE X (.Call (.Attribute o name apos) [] [] dk) (ND X.K T r to):=by
 intro pins s σ H Q I h;apply wpAny_Call_method0_late iU iR (bb (ho pins s σ H _ I h) λv s1 ⟨x,H1,I1,r1,ty,q1⟩=>?_);let#[h1,h2]:=Vz I1 r1 ty;exact#[T,id,pa,slot,Pj,h1,h2,Calls.callWith_builtin Z (PySem.evalArgs_none (hm pins s1 σ H1 x [] v [] Q I1 r1 .nil q1))]
theorem gC(pa:PlainAttrs T)(slot:Slot T name id)(Pj:typeOf (.builtin id)=pure (.type "method_descriptor"))(hm:_h X id r)(ho:PE X o to)(ha:PA X (e::es) t)
  (iU:attributeBase o name X.env (eval o X.env)=eval o X.env:=by rfl)
  (P0:((backTo dk (starEach (e::es) X.env)).all (λx=>!x.1)&&(backToKw dk (keywordEach [] X.env)).all (λx=>x.1.isSome)
   && decide ((e::es).length+([]:List Keyword).length+(if ([]:List Keyword).isEmpty then 0 else 1)<30))=true:=by rfl)
  (iR:(apos.endLine == dk.line)=true:=by rfl) (hs:starEach (e::es) X.env=(false,eval e X.env)::starEach es X.env:=by rfl) (Ca:(backTo dk (starEach es X.env)).any (·.1)=false:=by rfl) :
  PE X (.Call (.Attribute o name apos) (e::es) [] dk) (tBM X.K T r to t):=by
 intro pins s σ H Q I h;apply wpAny_Call_method_late iU P0 iR Z (bb (ho pins s σ H _ I h) λv s1 ⟨x,H1,I1,r1,ty,q1⟩=>?_);let#[h1,h2]:=Vz I1 r1 ty;apply#[T,id,pa,slot,Pj,h1,h2,?_];let hA:=ha dk pins s1 σ H1 _ I1 q1;rw[hs] at hA ⊢;apply Calls.callWith_builtin (by show (false || (backTo dk (starEach es X.env)).any (·.1))=false;rw[Ca]<;>rfl) (Calls.evalArgs_plain ?_)
 exact bb hA λus s2 ⟨vs,H2,I2,r2,q2⟩=>hm pins s2 σ H2 x vs v us Q I2 r1 r2 q2
end
def DH(X:Cx)(id:String)(r:V->ai->Hp->VK->Prop):Prop:=
 ∀(pins:List (Addr × Obj)) (s:Ab) (σ:St) (H:Hp) (x:V) (xs:ai) (v:Aa) (us:aq) (Q:VK),Inv X pins σ H s->RelV x v->Vals xs us->r x xs H Q->
  wpAny (model X.prog X.w) X.A (call (.builtin id) (v::us)) (EP X pins σ Q) X.xe s
theorem Vals.one:∀{x:V} {us:aq},Vals [x] us->∃u,us=[u]/\RelV x u
 |_,_,.cons r .nil=>#[_,Z,r]
theorem Vals.zero:∀{us:aq},Vals [] us->us=[]
 |_,.nil=>rfl
theorem Vals.eraseIdx:∀{xs:ai} {us:aq} (i:Nat),Vals xs us->Vals (xs.eraseIdx i) (us.eraseIdx i)
 |_,_,_,.nil=>.nil
 |_,_,0,.cons _ t=>t
 |_,_,i+1,.cons r t=>.cons r (Vals.eraseIdx i t)
theorem Vals.rep{xs:ai}{us:aq}(h:Vals xs us):∀k:Nat,Vals (List.replicate k xs).flatten (List.replicate k us).flatten
 |0=>.nil
 |k+1=>by
  rw[List.replicate_succ,List.replicate_succ,List.flatten_cons,List.flatten_cons];exact Vals.append h (Vals.rep h k)
theorem YY{α:Type}:∀(l:List α) (i:Nat),(l.eraseIdx i).length<=l.length
 |[],_=>bq _
 |_::_,0=>Nat.le_succ _
 |_::r,i+1=>Nat.succ_le_succ (YY r i)
theorem Y0(its:aq):∀(k:Nat) (acc:aq),
  List.foldl (λx1 x2=>x1++x2) acc.toArray (List.replicate k its.toArray)=(acc++(List.replicate k its).flatten).toArray
 |0,acc=>by simp
 |k+1,acc=>by
  have e:acc.toArray++its.toArray=(acc++its).toArray:=by simp
  have e2:(acc++its)++(List.replicate k its).flatten=acc++(List.replicate (k+1) its).flatten:=by
   rw[List.replicate_succ,List.flatten_cons,xA]
  rw[<- e2,<- Y0 its k (acc++its),<- e,List.replicate_succ,List.foldl_cons]
variable{t':Nat}
section
variable{X:Cx}{pins:List (Addr × Obj)}{σ:St}{H:Hp}{s:Ab}{l b:Addr}{xs ys zs:ai}
theorem Inv.yA{f:Array Aa->Array Aa}(I:Inv X pins σ H s)(hH:H l\.lst xs)(e:s.heap.get? l=some { cls:=.type "list",data:=.seq its.toArray n })(hf:f its.toArray=its'.toArray)(hv:Vals ys its')(hz:ys.length<=sizeLine) :
  Inv X pins σ (upd H l (.lst ys)) { s with heap:=s.heap.update l (Obj.mapSeq f),toks:=t' }:=by
 let q:=PySem.IsL.update e f;rw[hf] at q;apply I.write (x:=l) (e:=l) (by rw[hH];exact trivial) (.inl Z) (λb' u hb hu=>(xm s.heap (Obj.mapSeq f) (Ne.symm hb)).trans hu) #[_,q] ?_;exact#[hz,its',_,hv,q]
theorem Inv.yB(I:Inv X pins σ H s)(hv:Vals ys its)(hz:ys.length<=sizeLine) :
  Inv X pins σ (upd H s.heap.objs.size (.lst ys)) { s with heap:=s.heap.push { cls:=.type "list",data:=.seq its.toArray },toks:=t' }:=
 I.laid (λ_ _ q=>cO _ q) (bq _) #[hz,its,0,hv,fI _ Z]
theorem Inv.fresh(I:Inv X pins σ H s):H s.heap.objs.size=none:=I.aN.fresh (bq _)
theorem Inv.jr(I:Inv X pins σ H s)(hH:H l\.lst xs):xs.length<=sizeLine/\∃(its:aq) (n:Nat),Vals xs its/\xs.length=its.length/\s.heap.get? l=some { cls:=.type "list",data:=.seq its.toArray n }:=by
 let#[z,its,n,r,e]:=I.aN l _ hH;exact#[z,its,n,r,r.length,e]
theorem X0(h:n<=sizeLine):Builtin.List.listTooLong n=false:=by
 unfold Builtin.List.listTooLong;exact dU Z1
end
inductive qf (x:V) (vs:ai) (H:Hp) (Q:VK):Prop
 |mk:∀l xs y,x=.ref l->vs=[y]->H l\.lst xs->xs.length<sizeLine->Q .non (upd H l (.lst (xs++[y])))->qf x vs H Q
variable{X:Cx}
theorem ki:DH X "list.append" qf:=by
 intro pins s σ H x vs v us Q I rx rv h;let#[l,xs,y,rfl,rfl,hH,hz,q]:=h;cases rx;let#[u,rfl,ru]:=rv.one;let#[z,its,n,r,hl,e]:=I.jr hH;apply call_meets F.slot_list_append ⟨_,e,rfl⟩ F.entry_list_append (F.args_list_append_2 _ _) (PySem.list_append l its.toArray n u (by rw[dG];omega)) ⟨e,?_⟩;apply⟨.non,_,I.yA (its':=its++[u]) hH e Z2 (r.append (.cons ru .nil)) ?_,rfl,q⟩;rw[eA,Dp];omega
inductive qd (x:V) (vs:ai) (H:Hp) (Q:VK):Prop
 |mk:∀l b xs zs,x=.ref l->vs=[.ref b]->H l\.lst xs->H b\.lst zs->xs.length+zs.length<=sizeLine->Q .non (upd H l (.lst (xs++zs)))->qd x vs H Q
theorem Ju:DH X "list.extend" qd:=by
 intro pins s σ H x vs v us Q I rx rv h;let#[l,b,xs,zs,rfl,rfl,hH,hB,hz,q]:=h;cases rx;let#[u,rfl,ru]:=rv.one;cases ru;let#[z,its,n,r,hl,e]:=I.jr hH;let#[z2,jX,n2,r2,oO,e2]:=I.jr hB;have hsz:its.toArray.size+jX.toArray.size<=sizeLine:=by rw[dG,dG];omega
 have vw:¬(!its.toArray.isEmpty&&Builtin.List.listTooLong (its.toArray.size+jX.toArray.size))=true:=by
  rw[X0 hsz,pb];exact hJ
 apply call_meets F.slot_list_extend ⟨_,e,rfl⟩ F.entry_list_extend (F.args_list_extend_2 _ _)
  (AutoSeq1.list_extend_list_list_0 l its.toArray n b jX.toArray n2 vw (by rw[dG];omega) Z1) ⟨e,e2,?_⟩
 apply⟨.non,_,I.yA (its':=its++jX) hH e Z2 (r.append r2) ?_,rfl,q⟩;rw[eA];omega
inductive uZ (x:V) (vs:ai) (H:Hp) (Q:VK):Prop
 |mk:∀l xs,x=.ref l->vs=[]->H l\.lst xs->Q .non (upd H l (.lst []))->uZ x vs H Q
theorem jY_:DH X "list.clear" uZ:=by
 intro pins s σ H x vs v us Q I rx rv h;let#[l,xs,rfl,rfl,hH,q]:=h;cases rx;let hus:=rv.zero;subst hus;let#[z,its,n,r,hl,e]:=I.jr hH;apply call_meets F.slot_list_clear ⟨_,e,rfl⟩ F.entry_list_clear (F.args_list_clear_1 _) (AutoSeq1.list_clear_list_0 l its.toArray n (by rw[dG];omega)) ⟨e,?_⟩;exact⟨.non,_,I.yA (its':=[]) (ys:=[]) hH e rfl .nil (gF _),rfl,q⟩
inductive BP (x:V) (y:V) (H:Hp) (Q:VK):Prop
 |mk:∀l b xs zs,x=.ref l->y=.ref b->H l\.lst xs->H b\.lst zs->xs.length+zs.length<=sizeLine->(∀p,H p=none->Q (.ref p) (upd H p (.lst (xs++zs))))->BP x y H Q
theorem C0:eQ X (binaryOp .Add) BP:=by
 intro pins s σ H x y v u Q I rx ry h;let#[l,b,xs,zs,rfl,rfl,hH,hB,hz,q]:=h;cases rx;cases ry;let#[z,its,n,r,hl,e]:=I.jr hH;let#[z2,jX,n2,r2,oO,e2]:=I.jr hB;apply PySem.P.add_list e e2 ?_ (by rw[dG,dG];omega);have ea:its.toArray++jX.toArray=(its++jX).toArray:=by simp
 rw[ea];exact⟨.ref _,_,I.yB (t':=s.toks) (r.append r2) (by rw[eA];omega),rfl,q _ I.fresh⟩
inductive F2 (x:V) (y:V) (H:Hp) (Q:VK):Prop
 |mk:∀l k xs,x=.ref l->y=.int k->H l\.lst xs->-(2 ^ 63)<=k->k<2 ^ 63->xs.length * k.toNat<=sizeLine->(∀p,H p=none->Q (.ref p) (upd H p (.lst (List.replicate k.toNat xs).flatten)))->F2 x y H Q
theorem lp_{α:Type}(xs:List α)(k:Nat):(List.replicate k xs).flatten.length=k * xs.length:=by
 induction k with
 |zero=>simp
 |succ k ih=>rw[List.replicate_succ,List.flatten_cons,eA,ih,Nat.succ_mul,Nat.add_comm]
theorem Vv:eQ X (binaryOp .Mult) F2:=by
 intro pins s σ H x y v u Q I rx ry h;let#[l,k,xs,rfl,rfl,hH,h1,h2,hz,q]:=h;cases rx;let#[t,rfl]:=ry;let#[z,its,n,r,hl,e]:=I.jr hH;have hlen:its.toArray.size * k.toNat<=sizeLine:=by rw[dG,<- hl];exact hz
 have Qa:¬its.toArray.size * k.toNat > (2 ^ 63 - 1) / 8:=by
  have:(sizeLine:Nat)<=(2 ^ 63 - 1) / 8:=by decide
  omega
 have PZ:¬(!Builtin.List.listFitsIndex k)=true:=by
  rw[fitsIndex_both h1 h2];exact hJ
 have vw:¬Builtin.List.listTooLong (its.toArray.size * k.toNat)=true:=by
  rw[X0 hlen];exact hJ
 have oN:List.foldl (λx1 x2=>x1++x2) #[] (List.replicate (if its.toArray.isEmpty=true then 0 else k.toNat) its.toArray)=(List.replicate k.toNat its).flatten.toArray:=by
  have f0:∀m:Nat,List.foldl (λx1 x2=>x1++x2) #[] (List.replicate m its.toArray)=(List.replicate m its).flatten.toArray:=λm=>by
   have:=Y0 its m [];rw[List.nil_append] at this;exact this
  rw[f0];cases its with
  |nil=>simp
  |cons a r'=>rw[au Z2]
 apply wpAny_binaryOp_repeat_ref (T:="list") (U:="int") (by decide) #[_,e,Z] (λs'=>typeIs_int s' k t) noFill_list_mul F.fills_int_mul F.slot_int_rmul repeat_list F.slot_int_index.lookup
  (call_meets F.slot_int_rmul (typeIs_int s k t) F.entry_int_rmul (F.args_int_rmul_2 _ _) (int___rmul___int_list k t l its.toArray n)
   #[e,Z,#[_,e,Z],call_meets F.slot_list_mul #[_,e,Z] F.entry_list_mul (F.args_list_mul_2 _ _) (AutoListH.list___mul___list_int_3 l its.toArray n k t PZ Qa vw) #[e,?_]])
 rw[oN];exact#[.ref _,_,I.yB (t':=s.toks) (r.rep k.toNat) (by rw[lp_,Nat.mul_comm];exact hz),Z,q _ I.fresh]
variable{o:aF}
section
variable{κ:Type}[DecidableEq κ]
def bL(kvs:List (κ × V))(k:κ):aF:=(kvs.find? λkv=>decide (kv.1=k)).map (·.2)
def putK(kvs:List (κ × V))(k:κ)(v:V):List (κ × V):=
 if (kvs.any λkv=>decide (kv.1=k))=true then kvs.map (λkv=>if kv.1=k then (kv.1,v) else kv) else kvs++[(k,v)]
theorem Dt{p:κ × V}{r:List (κ × V)}{k:κ}(e:p.1=k):bL (p::r) k\p.2:=by simp[bL,List.find?_cons,e]
theorem Ds{p:κ × V}{r:List (κ × V)}{k:κ}(e:¬p.1=k):bL (p::r) k=bL r k:=by simp[bL,List.find?_cons,e]
theorem IU(k:κ):∀kvs:List (κ × V),(kvs.any λkv=>decide (kv.1=k))=(bL kvs k).isSome
 |[]=>rfl
 |p::r=>by
  rw[List.any_cons];by_cases e:p.1=k
  ·simp only[Dt e,cw e,Bool.true_or,Option.isSome_some]
  rw[Ds e,dU e,Bool.false_or];exact IU k r
theorem SA(kvs:List (κ × V))(k:κ)(v:V):(putK kvs k v).length<=kvs.length+1:=by
 unfold putK;split
 ·rw[ao];omega
 rw[eA,iG,we];omega
theorem E2{kvs:List (κ × V)}{k:κ}(v:V)(h:bL kvs k=none):putK kvs k v=kvs++[(k,v)]:=by
 unfold putK;rw[IU,h];exact au (by decide)
theorem fU.eM{u:Option Aa}(r:fU o u):o.isSome=u.isSome:=by
 cases o with
 |none=>cases u with
  |none=>rfl
  |some _=>exact (show False from r).elim
 |some _=>cases u with
  |none=>exact (show False from r).elim
  |some _=>rfl
theorem KV.val{kvs:List (κ × V)}{vs:List (κ × Aa)}(r:KV kvs vs)(k:κ):fU (bL kvs k) (valueAt vs k):=by
 unfold KV at r
 induction r with
 |nil=>exact True.intro
 |@cons p q ps qs h t ih=>
  let#[h1,h2]:=h;by_cases e:p.1=k
  ·have e':q.1=k:=h1.symm.trans e;have b:valueAt (q::qs) k\q.2:=by simp[valueAt,List.find?_cons,e']
   rw[Dt e,b];exact h2
  have e':¬q.1=k:=λz=>e (h1.trans z);have b:valueAt (q::qs) k=valueAt qs k:=by simp[valueAt,List.find?_cons,e']
  rw[Ds e,b];exact ih
theorem KV.any{kvs:List (κ × V)}{vs:List (κ × Aa)}(r:KV kvs vs)(k:κ):(kvs.any λkv=>decide (kv.1=k))=vs.any λkv=>decide (kv.1=k):=by
 unfold KV at r
 induction r with
 |nil=>rfl
 |cons h t ih=>rw[List.any_cons,List.any_cons,ih,h.1]
theorem KV.BM{kvs:List (κ × V)}{vs:List (κ × Aa)}(r:KV kvs vs)(k:κ){y:V}(ry:RelV y u) :
  KV (kvs.map λkv=>if kv.1=k then (kv.1,y) else kv) (vs.map λkv=>if kv.1=k then (kv.1,u) else kv):=by
 unfold KV at r ⊢
 induction r with
 |nil=>exact .nil
 |@cons p q ps qs h t ih=>
  rw[eJ,eJ];apply .cons ?_ ih;let#[h1,h2]:=h;by_cases e:p.1=k
  ·rw[aB e,aB (h1.symm.trans e)];exact#[h1,ry]
  rw[au e,au (λz=>e (h1.trans z))];exact#[h1,h2]
theorem KV.put{kvs:List (κ × V)}{vs:List (κ × Aa)}(r:KV kvs vs)(k:κ){y:V}(ry:RelV y u):KV (putK kvs k y) (stored vs k u):=by
 unfold putK stored;rw[r.any k];by_cases e:(vs.any λkv=>decide (kv.1=k))=true
 ·rw[aB e,aB e];exact r.BM k ry
 rw[au e,au e];exact Paired.snoc r #[Z,ry]
theorem KV.keys{kvs:List (κ × V)}{vs:List (κ × Aa)}(r:KV kvs vs):kvs.map (·.1)=vs.map (·.1):=by
 unfold KV at r
 induction r with
 |nil=>rfl
 |cons h t ih=>rw[eJ,eJ,ih,h.1]
theorem KV.length{kvs:List (κ × V)}{vs:List (κ × Aa)}(r:KV kvs vs):kvs.length=vs.length:=bK r
end
variable{P:Ae}{w:Af}
theorem yS{k:Key}(r:RelV (kV k) u):(fB P w).is k u=true:=by
 cases k with
 |inl i=>let#[t,e]:=(show ∃t,u=Value.int i t from r);subst e;exact fz_ P w i t
 |inr x=>let#[t,e]:=(show ∃t,u=Value.str x t from r);subst e;exact Sw P w x t
theorem YM{P:Ae}{w:Af}:∀{ks:aM} {us:aq},Vals (ks.map kV) us->ItemsAre (fB P w) ks us
 |[],_,r=>by rw[vS] at r;cases r;exact .nil
 |k::ks,_,r=>by
  rw[eJ] at r;cases r with
  |cons h t=>exact .cons (yS h) (YM t)
abbrev KT(H:Hp):List (aM × V)->List (aM × Addr × Aa)->Prop:=Paired λp q=>p.1=q.1/\H q.2.1\.tup (p.1.map kV)/\RelV p.2 q.2.2
variable{H:Hp}{xs:List (aM × Addr × Aa)}{kvs:List (aM × V)}
theorem KT.val(r:KT H kvs xs)(k:aM):fU (bL kvs k) ((atKey xs k).map (·.2)):=by
 induction r with
 |nil=>exact True.intro
 |@cons p q ps qs h t ih=>
  let#[h1,_,h2]:=h;by_cases e:p.1=k
  ·have e':q.1=k:=h1.symm.trans e;have b:atKey (q::qs) k\q.2:=by simp[atKey,List.find?_cons,e']
   rw[Dt e,b];exact h2
  have e':¬q.1=k:=λz=>e (h1.trans z);have b:atKey (q::qs) k=atKey qs k:=by simp[atKey,List.find?_cons,e']
  rw[Ds e,b];exact ih
theorem KT.BM(r:KT H kvs xs)(k:aM){y:V}(ry:RelV y u) :
  KT H (kvs.map λkv=>if kv.1=k then (kv.1,y) else kv) (xs.map (putAt k u)):=by
 induction r with
 |nil=>exact .nil
 |@cons p q ps qs h t ih=>
  rw[eJ,eJ];apply .cons ?_ ih;let#[h1,h2,h3]:=h;unfold putAt;by_cases e:p.1=k
  ·rw[aB e,aB (h1.symm.trans e)];exact#[h1,h2,ry]
  rw[au e,au (λz=>e (h1.trans z))];exact#[h1,h2,h3]
variable{b:Addr}
theorem KT.put(r:KT H kvs xs)(k:aM){y:V}(hb:H b\.tup (k.map kV))(ry:RelV y u) :
  KT H (putK kvs k y) (storedH xs k b u):=by
 have e:(kvs.any λkv=>decide (kv.1=k))=(atKey xs k).isSome:=by
  rw[IU,(r.val k).eM,Option.isSome_map]
 unfold putK storedH;rw[e];by_cases q:(atKey xs k).isSome=true
 ·rw[aB q,aB q];exact r.BM k ry
 rw[au q,au q];exact Paired.snoc r #[Z,hb,ry]
variable{H':Hp}
theorem KT.keeps(r:KT H kvs xs)(ht:∀b ys,H b\.tup ys->H' b\.tup ys):KT H' kvs xs:=
 Paired.bu r λ_ _ z=>#[z.1,ht _ _ z.2.1,z.2.2]
variable{h:Heap}{a:Addr}
theorem Vj{u:HO}(ok:gn P w H h)(e:Rd H a u):gh P w H h a u:=e.ok ok
theorem rT{kvs:List (Key × V)}(ok:gn P w H h)(e:Rd H a (.dK kvs)):kvs.length<=sizeLine/\(a == sysModules)=false/\∃vs,KV kvs vs/\h.DictOf (fB P w) a vs:=
 show gh P w H h a (.dK kvs) from Vj ok e
theorem AM{kvs:List (Key × V)}(ok:gn P w H h)(e:H a\.dK kvs):kvs.length<=sizeLine/\(a == sysModules)=false/\∃vs,KV kvs vs/\h.DictOf (fB P w) a vs:=rT ok (.inl e)
theorem Ib{ks:aM}(ok:gn P w H h)(e:H a\.tup (ks.map kV)):(tupleKind (fB P w)).is h ks a:=by
 let#[_,its,r,#[o,h1,h2,n,h3],_]:=(show gh P w H h a (.tup (ks.map kV)) from ok a _ e);exact#[o,its.toArray,n,h1,h2,h3,by simpa using YM r]
theorem Em(ok:gn P w H h)(e:Rd H a (.dT kvs)):kvs.length<=sizeLine/\(a == sysModules)=false /\
  ∃xs,KT H kvs xs/\h.DictOfH (tupleKind (fB P w)) a xs:=by
 let#[z,y,xs,r,o,es,ep,h1,h2,h3,h4,h5]:=(show gh P w H h a (.dT kvs) from Vj ok e);apply#[z,y,xs,r,o,es,ep,h1,h2,h3,h4,λx hx=>?_,h5]
 have all:∀{l:List (aM × V)} {m:List (aM × Addr × Aa)},KT H l m->∀x∈m,(tupleKind (fB P w)).is h x.1 x.2.1:=by
  intro l m q
  induction q with
  |nil=>intro x hx;exact nomatch hx
  |@cons p q ps qs hq t ih=>
   intro x hx;rcases bX.mp hx with e|hx
   ·subst e;exact Ib ok (by rw[<- hq.1];exact hq.2.1)
   exact ih x hx
 exact all r x hx
theorem mA_(ok:gn P w H h)(e:H a\.dT kvs):kvs.length<=sizeLine/\(a == sysModules)=false /\
  ∃xs,KT H kvs xs/\h.DictOfH (tupleKind (fB P w)) a xs:=Em ok (.inl e)
def ck(H:Hp)(a:Addr)(y:V)(r:aF):Prop:=
 (∃kvs k,Rd H a (.dK kvs)/\y=kV k/\r=bL kvs k)∨∃kvs k b,Rd H a (.dT kvs)/\y=.ref b/\H b\.tup (k.map kV)/\r=bL kvs k
def pA(H:Hp)(a:Addr)(y v:V)(H':Hp):Prop:=
 (∃kvs k,H a\.dK kvs/\y=kV k/\kvs.length<sizeLine/\H'=upd H a (.dK (putK kvs k v))) ∨
 ∃kvs k b,H a\.dT kvs/\y=.ref b/\H b\.tup (k.map kV)/\kvs.length<sizeLine/\H'=upd H a (.dT (putK kvs k v))
theorem ck.k{kvs:List (Key × V)}{k:Key}(e:H a\.dK kvs):ck H a (kV k) (bL kvs k):=.inl #[kvs,k,.inl e,Z,Z]
theorem ck.t{k:aM}(e:H a\.dT kvs)(eb:H b\.tup (k.map kV)):ck H a (.ref b) (bL kvs k):=.inr #[kvs,k,b,.inl e,Z,eb,Z]
theorem pA.k{kvs:List (Key × V)}{k:Key}{v:V}(e:H a\.dK kvs)(hl:kvs.length<sizeLine):pA H a (kV k) v (upd H a (.dK (putK kvs k v))):=.inl #[kvs,k,e,Z,hl,Z]
theorem pA.t{k:aM}{v:V}(e:H a\.dT kvs)(eb:H b\.tup (k.map kV))(hl:kvs.length<sizeLine) :
  pA H a (.ref b) v (upd H a (.dT (putK kvs k v))):=.inr #[kvs,k,b,e,Z,eb,hl,Z]
variable{h':Heap}
variable{kvs:List (Key × V)}
section
variable{X:Cx}{pins:List (Addr × Obj)}{σ:St}{H:Hp}{s:Ab}{a:Addr}{y v:V}{u r:Aa}{o:aF}{A:Ag}{E:Aa->Ab->Prop}
theorem Inv.big(I:Inv X pins σ H s):sysModules<s.heap.objs.size:=by
 have h:mainGlobals<s.heap.objs.size:=(I.mod.glob.keeps I.bk).lt;exact Nat.lt_trans (by decide) h
theorem YX{Q:Aa->Ab->Prop}(hu:A.units+1<cLine)(I:Inv X pins σ H s)(g:ck H a y (some v))(ry:RelV y u)(h:∀w' s',Inv X pins σ H s'->RelV v w'->Q w' s') :
  wpAny (model X.prog X.w) A (getItem (.ref a) u) Q E s:=by
 rcases g with⟨kvs,k,e,ey,l⟩|⟨kvs,k,b,e,ey,eb,l⟩
 ·subst ey;let#[z,hd,vs,rel,dd]:=rT I.aN e;let#[w',hw,lE]:=fU.some_of (v:=v) (o:=valueAt vs k) (by rw[l];exact rel.val k);exact wpAny_getItem_of (yS ry) dd.mapOf hw (h w' _ (I.tok _) lE)
 subst ey;cases (show u=Value.ref b from ry);let#[z,hd,xs,rel,dd]:=Em I.aN e;let#[w',hw,lE]:=fU.some_of (v:=v) (o:=(atKey xs k).map (·.2)) (by rw[l];exact rel.val k);let#[p,hp,ql]:=DB.mp hw;apply wpAny_getItem_heap (tupleKind_room_in1 hu) (Ib I.aN eb) dd hp ?_;rw[ql];exact h w' _ (I.tok _) lE
theorem R6{Q:Aa->Ab->Prop}(hu:A.units+1<cLine)(I:Inv X pins σ H s)(g:ck H a y o)(ry:RelV y u)(h:∀s',Inv X pins σ H s'->Q (.bool o.isSome) s') :
  wpAny (model X.prog X.w) A (compareOp .In u (.ref a)) Q E s:=by
 rcases g with⟨kvs,k,e,ey,l⟩|⟨kvs,k,b,e,ey,eb,l⟩
 ·subst ey;let#[z,hd,vs,rel,dd]:=rT I.aN e;apply wpAny_in_of (yS ry) hd dd.mapOf ?_;rw[<- (rel.val k).eM,<- l];exact h _ (I.tok _)
 subst ey;cases (show u=Value.ref b from ry);let#[z,hd,xs,rel,dd]:=Em I.aN e;apply wpAny_in_heap (tupleKind_room_in1 hu) (Ib I.aN eb) hd dd ?_;let q:=(rel.val k).eM;rw[Option.isSome_map] at q;rw[<- q,<- l];exact h _ (I.tok _)
theorem lz_{Q:Aa->Ab->Prop}(hu:A.units+1<cLine)(I:Inv X pins σ H s)(g:ck H a y o)(ry:RelV y u)(h:∀s',Inv X pins σ H s'->Q (.bool (!o.isSome)) s') :
  wpAny (model X.prog X.w) A (compareOp .NotIn u (.ref a)) Q E s:=by
 rcases g with⟨kvs,k,e,ey,l⟩|⟨kvs,k,b,e,ey,eb,l⟩
 ·subst ey;let#[z,hd,vs,rel,dd]:=rT I.aN e;apply wpAny_notIn_of (yS ry) hd dd.mapOf ?_;rw[<- (rel.val k).eM,<- l];exact h _ (I.tok _)
 subst ey;cases (show u=Value.ref b from ry);let#[z,hd,xs,rel,dd]:=Em I.aN e;apply wpAny_notIn_heap (tupleKind_room_in1 hu) (Ib I.aN eb) hd dd ?_;let q:=(rel.val k).eM;rw[Option.isSome_map] at q;rw[<- q,<- l];exact h _ (I.tok _)
theorem QA{ob:HO}(I:Inv X pins σ H s)(mu:KN (H a))(hs:Heap.SameBut a s.heap h')(he:∃q,h'.get? a\q)(new:gh X.prog X.w (upd H a ob) h' a ob) :
  Inv X pins σ (upd H a ob) { s with heap:=h',toks:=t' }:=
 I.write (x:=a) (e:=a) mu (.inl Z) (λb q hb z=>(hs.2 b hb).trans z) he new
theorem LV{vs:List (Key × Aa)}(z:kvs.length<=sizeLine)(hd:(a == sysModules)=false)(rel:KV kvs vs)(dd:h'.DictOf (fB P w) a vs) :
  gh P w H' h' a (.dK kvs):=#[z,hd,vs,rel,dd]
theorem YW{Q:Unit->Ab->Prop}(hu:A.units+1<cLine)(I:Inv X pins σ H s)(g:pA H a y v H')(ry:RelV y u)(rv:RelV v r)(h:∀s',Inv X pins σ H' s'->Q () s') :
  wpAny (model X.prog X.w) A (setItem (.ref a) u r) Q E s:=by
 rcases g with⟨kvs,k,e,ey,l,eH⟩|⟨kvs,k,b,e,ey,eb,l,eH⟩
 ·subst ey eH;let#[z,hd,vs,rel,dd]:=AM I.aN e;have hz:vs.length<=sizeLine:=by rw[<- rel.length];exact z
  have hl:(putK kvs k v).length<=sizeLine:=by have:=SA kvs k v;omega
  apply wpAny_setItem_pairs (hsz:=hz) (yS ry) dd λh' yW hs=>h _ ?_;have he:∃q,h'.get? a\q:=let #[q,_,_,hq,_]:=yW;#[q,hq];exact QA I (by rw[e];exact True.intro) hs he (LV hl hd (rel.put k rv) yW)
 subst ey eH;cases (show u=Value.ref b from ry);let#[z,hd,xs,rel,dd]:=mA_ I.aN e;have hz:xs.length<=sizeLine:=by rw[<- bK rel];exact z
 have hl:(putK kvs k v).length<=sizeLine:=by have:=SA kvs k v;omega
 apply wpAny_setItem_heap (hsz:=hz) (tupleKind_room_in1 hu) (Ib I.aN eb) dd λh' yW hs=>h _ ?_;let#[q,es,ep,hq,h2,h3,h4,_,h5]:=yW;apply QA I (by rw[e];exact True.intro) hs #[q,hq] #[hl,hd,_,(rel.put k eb rv).keeps λc ys ec=>?_,q,es,ep,hq,h2,h3,h4,h5];rw[ax (cu ec e nofun)];exact ec
end
variable{E:Aa->Ab->Prop}
theorem mF_{Q:Aa->Ab->Prop}(I:Inv X pins σ H s)(e:Rd H a (.dK kvs))(h:∀t s',Inv X pins σ H s'->Q (.int kvs.length t) s'):wpAny (model X.prog X.w) A (call (.builtin "len") [.ref a]) Q E s:=by
 let#[z,hd,vs,rel,dd]:=rT I.aN e;apply call_len_dict hd dd (by rw[<- rel.length];rw[cc] at z;omega) ?_;rw[<- rel.length];exact h _ _ (I.tok _)
def DG(i:Expr):Prop:=∀ov iv,subscripted i false ov iv=operate [ov,iv] (getItem ov iv)
variable{value:Expr}{pos:Pos}
theorem Ww{prog:Ae}{env:Env}{slice:Expr}{id:String}{Q:Aa->Ab->Prop}(hl:typeLookup (.type T) "__getitem__"=pure (some (.builtin id)))(hs:DG slice)(h:wpAny (model prog w) A (eval value env) (λo bf=>wpAny (model prog w) A (eval slice env) (λi kW=>kW.TypeIs o T/\wpAny (model prog w) A (getItem o i) Q E kW) E bf) E s) :
  wpAny (model prog w) A (eval (.Subscript value slice pos) env) Q E s:=by
 apply Subscript_ (wpAny_mono h (λo bf Pd=>wpAny_mono Pd (λi kW B7=>?_) λ_ _ x=>x) λ_ _ x=>x);let#[hT,B7]:=B7;unfold subscriptTail;apply aP ?_;rw[getitemInPython_of_ne hT.not_modules];apply aP (wpAny_specialOf hT hl ?_)
 have fin:wpAny (model prog w) A (subscripted slice false o i) (λr FI=>wpAny (model prog w) A (letTemporaryGo value o r >>= λ_=>pure r) Q E FI) E kW:=by
  rw[hs o i];exact wpAny_operating (wpAny_mono B7 (λr FI Pb=>aP (wpAny_letTemporaryGo (bR Pb))) λ_ _ x=>x)
 first
  |exact bR (aP fin)
  |exact aP (bR (aP fin))
  |exact aP fin
theorem fb_{y:V}(I:Inv X pins σ H s)(g:ck H a y o):s.TypeIs (.ref a) "dict":=by
 rcases g with⟨kvs,k,e,_,_⟩|⟨kvs,k,b,e,_,_,_⟩
 ·let#[_,_,vs,_,dd]:=rT I.aN e;exact dd.typeIs
 let#[_,_,xs,_,dd]:=Em I.aN e;exact dd.typeIs
inductive tN (Q:VK) (x:V) (y:V) (H2:Hp):Prop
 |mk:∀a v,x=.ref a->ck H2 a y (some v)->Q v H2->tN Q x y H2
def FE(td ty:TE):TE:=λσ H Q=>td σ H λx H1=>ty σ H1 λy H2=>tN Q x y H2
inductive zN (Q:VK) (y:V) (x:V) (H2:Hp):Prop
 |mk:∀a o,x=.ref a->ck H2 a y o->Q (.bl o.isSome) H2->zN Q y x H2
def NC(ty td:TE):TE:=λσ H Q=>ty σ H λy H1=>td σ H1 λx H2=>zN Q y x H2
inductive XX (Q:VK) (y:V) (x:V) (H2:Hp):Prop
 |mk:∀a o,x=.ref a->ck H2 a y o->Q (.bl (!o.isSome)) H2->XX Q y x H2
def xT(ty td:TE):TE:=λσ H Q=>ty σ H λy H1=>td σ H1 λx H2=>XX Q y x H2
inductive uM (D:Ends) (σ:St) (v:V) (x:V) (y:V) (H3:Hp):Prop
 |mk:∀a H4,x=.ref a->pA H3 a y v H4->D.nx σ H4->uM D σ v x y H3
def FV(td ty tv:TE):TS:=λD σ H=>tv σ H λv H1=>td σ H1 λx H2=>ty σ H2 λy H3=>uM D σ v x y H3
def FW(td ty tv:TE)(rd:V->V->Hp->VK->Prop):TS:=λD σ H=>td σ H λx H1=>ty σ H1 λy H2=>∃a v,x=.ref a/\ck H2 a y (some v) /\
 tv σ H2 λy2 H3=>rd v y2 H3 λz H4=>∃H5,pA H4 a y z H5/\D.nx σ H5
variable{i o:Expr}{td ty:TE}
theorem bV(hu:X.A.units+1<cLine)(ho:PE X o td)(hi:PE X i ty)(hs:DG i:=by exact λ_ _=>rfl):PE X (.Subscript o i pos) (FE td ty):=by
 intro pins s σ H Q I h;apply Ww PySem.F.slot_dict_getitem.lookup hs (bb (ho pins s σ H _ I h) λu s1 ⟨x,H1,I1,rx,q1⟩=>bb (hi pins s1 σ H1 _ I1 q1) λiv s2 ⟨y,H2,I2,ry,a,v,ex,g,q2⟩=>?_);subst ex;obtain rfl:u=Value.ref a:=rx;exact#[fb_ I2 g,YX hu I2 g ry λw' s3 I3 lE=>#[v,H2,I3,lE,q2]]
theorem EB(hu:X.A.units+1<cLine)(hi:PE X i ty)(ho:PE X o td):PC X .In i o (NC ty td):=by
 intro pins s σ H Q I h;apply bb (hi pins s σ H _ I h) λiv s1 ⟨y,H1,I1,ry,q1⟩=>bb (ho pins s1 σ H1 _ I1 q1) λu s2 ⟨x,H2,I2,rx,a,ov,ex,g,q2⟩=>?_;subst ex;obtain rfl:u=Value.ref a:=rx;exact R6 hu I2 g ry λs3 I3=>#[.bl ov.isSome,H2,I3,Z,q2]
theorem Yv(hu:X.A.units+1<cLine)(hi:PE X i ty)(ho:PE X o td):PC X .NotIn i o (xT ty td):=by
 intro pins s σ H Q I h;apply bb (hi pins s σ H _ I h) λiv s1 ⟨y,H1,I1,ry,q1⟩=>bb (ho pins s1 σ H1 _ I1 q1) λu s2 ⟨x,H2,I2,rx,a,ov,ex,g,q2⟩=>?_;subst ex;obtain rfl:u=Value.ref a:=rx;exact lz_ hu I2 g ry λs3 I3=>#[.bl (!ov.isSome),H2,I3,Z,q2]
variable{pos':Pos}{tv:TE}
theorem rW(hu:X.A.units+1<cLine)(ho:PE X o td)(hi:PE X i ty)(hv:PE X value tv)(hs:swapsWith value (some (.Subscript o i pos')) pos.line X.env=pure false) :
  PS X (.Assign [.Subscript o i pos'] value pos) (FV td ty tv):=by
 intro pins s σ H D I h;apply wpAny_Assign_Subscript (bb (hv pins s σ H _ I h) λr s1 ⟨v,H1,I1,rv,q1⟩=>bb (ho pins s1 σ H1 _ I1 q1) λu s2 ⟨x,H2,I2,rx,q2⟩=>bb (hi pins s2 σ H2 _ I2 q2) λiv s3 ⟨y,H3,I3,ry,a,H4,ex,g,q3⟩=>?_) hs;subst ex;obtain rfl:u=Value.ref a:=rx;exact YW hu I3 g ry rv λs4 I4=>#[σ,H4,I4,q3]
variable{Bg:Pos}
theorem kG_{op:Operator}{rd:V->V->Hp->VK->Prop}(hu:X.A.units+1<cLine)(ho:PE X o td)(hi:PE X i ty)(hv:PE X value tv)(hop:KQ X op rd)
  (ha:∀ov iv new,augStore i ov iv new=(do holding [new,ov,iv] (setItem ov iv new);release [new,ov,iv] [];pure .next)):PS X (.AugAssign (.Subscript o i Bg) op value pos) (FW td ty tv rd):=by
 intro pins s σ H D I h;apply wpAny_AugAssign_SubscriptAny (bb (ho pins s σ H _ I h) λu s1 ⟨x,H1,I1,rx,q1⟩=>bb (hi pins s1 σ H1 _ I1 q1) λiv s2 ⟨y,H2,I2,ry,a,v,ex,g,q2⟩=>?_) ha;subst ex;obtain rfl:u=Value.ref a:=rx;apply YX hu I2 g ry λw' s3 I3 lE=>bb (hv pins s3 σ H2 _ I3 q2) λw2 s4 ⟨y2,H3,I4,ry2,q3⟩=>bb (hop pins s4 σ H3 v y2 w' w2 _ I4 lE ry2 q3) λw3 s5 ⟨z,H4,I5,rz,H5,g5,q4⟩=>?_;exact YW hu I5 g5 ry rz λs6 I6=>#[σ,H5,I6,q4]
theorem Yi(h:Heap)(hb:sysModules<h.objs.size):gh P w H (h.push { cls:=.type "dict",data:=.dict #[] }) h.objs.size (.dK []):=
 #[gF _,beq_eq_false_iff_ne.mpr (Ne.symm (eV hb)),[],.nil,Heap.DictOf.new h]
theorem jK_(h:Heap)(hb:sysModules<h.objs.size):gh P w H (h.push { cls:=.type "dict",data:=.dict #[] }) h.objs.size (.dT []):=
 #[gF _,beq_eq_false_iff_ne.mpr (Ne.symm (eV hb)),[],.nil,_,#[],0,fI _ Z,#[Z,Z,Z],Z,Z,List.nodup_nil]
def Bl:TE:=λ_ H Q=>∀p,H p=none->Q (.ref p) (upd H p (.dK []))
def Bk:TE:=λ_ H Q=>∀p,H p=none->Q (.ref p) (upd H p (.dT []))
theorem Dv:PE X (.Dict [] [] pos) Bl:=λpins s σ H Q I h=>
 wpAny_Dict_empty #[.ref s.heap.objs.size,_,I.laid (a:=s.heap.objs.size) (o:=.dK []) (t':=s.toks) (λ_ _ q=>cO _ q) (bq _) (Yi s.heap I.big),Z,h _ (I.aN.fresh (bq _))]
theorem jQ_:PE X (.Dict [] [] pos) Bk:=λpins s σ H Q I h=>
 wpAny_Dict_empty #[.ref s.heap.objs.size,_,I.laid (a:=s.heap.objs.size) (o:=.dT []) (t':=s.toks) (λ_ _ q=>cO _ q) (bq _) (jK_ s.heap I.big),Z,h _ (I.aN.fresh (bq _))]
def m_:List (TE × TE)->St->Hp->(List (V × V)->Hp->Prop)->Prop
 |[],_,H,Q=>Q [] H
 |(tk,tv)::r,σ,H,Q=>tk σ H λx H1=>tv σ H1 λy H2=>m_ r σ H2 λps H3=>Q ((x,y)::ps) H3
abbrev VV:List (V × V)->List (Aa × Aa)->Prop:=Paired λp q=>RelV p.1 q.1/\RelV p.2 q.2
def M9(X:Cx)(pos:Pos)(keys:List (Option Expr))(values:List Expr)(zE:List (TE × TE)):Prop:=
 ∀(pins:List (Addr × Obj)) (s:Ab) (σ:St) (H:Hp) (Q:List (V × V)->Hp->Prop),Inv X pins σ H s->m_ zE σ H Q->
  wpAny (model X.prog X.w) X.A (evalPairs (pairTrees keys values X.env pos)) (λvs s'=>∃ps H',Inv X pins σ H' s'/\VV ps vs/\Q ps H') X.xe s
theorem kL_:M9 X pos [] [] []:=λpins s σ H Q I h=>pairTrees_nil_walk #[[],H,I,.nil,h]
variable{zE:List (TE × TE)}
theorem QY{k v:Expr}{ks:List (Option Expr)}{vs:List Expr}{tk:TE}(hk:PE X k tk)(hv:PE X v tv)(hr:M9 X pos ks vs zE) :
  M9 X pos (some k::ks) (v::vs) ((tk,tv)::zE):=λpins s σ H Q I h=>
 pairTrees_cons_walk (bb (hk pins s σ H _ I h) λu s1 ⟨x,H1,I1,rx,q1⟩=>bb (hv pins s1 σ H1 _ I1 q1) λw2 s2 ⟨y,H2,I2,ry,q2⟩=>
  bb (hr pins s2 σ H2 _ I2 q2) λws s3 ⟨ps,H3,I3,rel,q3⟩=>#[(x,y)::ps,H3,I3,.cons #[rx,ry] rel,q3])
def o8(kvs more:List (Key × V)):List (Key × V):=more.foldl (λacc kv=>putK acc kv.1 kv.2) kvs
theorem KV.merge:∀{more:List (Key × V)} {rs:List (Key × Aa)} {kvs:List (Key × V)} {vs:List (Key × Aa)},KV more rs->KV kvs vs->KV (o8 kvs more) (merged vs rs):=by
 intro more rs kvs vs r;unfold KV at r
 induction r generalizing kvs vs with
 |nil=>intro q;exact q
 |@cons p q ps qs h t ih=>
  intro r0
  have e:KV (putK kvs p.1 p.2) (stored vs q.1 q.2):=by
   have:=r0.put p.1 h.2;rw[<- h.1];exact this
  exact ih e
theorem TB:∀(more kvs:List (Key × V)),(o8 kvs more).length<=kvs.length+more.length
 |[],kvs=>by show kvs.length<=kvs.length+0;omega
 |p::r,kvs=>by
  let h1:=TB r (putK kvs p.1 p.2);let h2:=SA kvs p.1 p.2;show (o8 (putK kvs p.1 p.2) r).length<=_;rw[iG];omega
theorem ZA{P:Ae}{w:Af}:∀{kvs:List (Key × V)} {ws:List (Aa × Aa)},VV (kvs.map λkv=>(kV kv.1,kv.2)) ws->∃rs,Carries (fB P w) ws rs/\KV kvs rs
 |[],_,r=>by rw[vS] at r;cases r;exact#[[],True.intro,.nil]
 |p::kvs,_,r=>by
  rw[eJ] at r;cases r with
  |@cons a b as bs h t=>
   let#[rs,c,q]:=ZA (P:=P) (w:=w) t;let#[b1,b2]:=b;exact#[(p.1,b2)::rs,#[yS h.1,Z,c],.cons #[Z,h.2] q]
def FD(zE:List (TE × TE)):TE:=λσ H Q=>∀p,H p=none->m_ zE σ (upd H p (.dK [])) λps H2=>H2 p\.dK []/\∃kvs:List (Key × V),ps=kvs.map (λkv=>(kV kv.1,kv.2))/\kvs.length<=15/\Q (.ref p) (upd H2 p (.dK (o8 [] kvs)))
theorem l5_{keys:List (Option Expr)}{values:List Expr}(h:M9 X pos keys values zE)(vD:keys.all (·.isSome)=true)(hl:keys.length=values.length)(h0:keys≠[])(h15:keys.length<=15):PE X (.Dict keys values pos) (FD zE):=by
 intro pins s σ H Q I q;let hn:=I.aN.fresh (bq s.heap.objs.size);let I1:=I.laid (a:=s.heap.objs.size) (o:=.dK []) (h':=s.heap.push { cls:=.type "dict",data:=.dict #[] }) (t':=s.toks) (λ_ _ q=>cO _ q) (bq _) (Yi s.heap I.big);apply wpAny_Dict_walk (knd:=fB X.prog X.w) vD hl h0 h15 (bb (h pins _ σ _ _ I1 (q _ hn)) λws s2 ⟨ps,H2,I2,rel,e,kvs,ep,lk,q2⟩=>?_);subst ep;let#[rs,c,rk]:=ZA (P:=X.prog) (w:=X.w) rel;let#[z,hd,vs0,r0,dd]:=AM I2.aN e;cases r0;apply#[rs,c,dd,λh' yW hs=>#[.ref s.heap.objs.size,_,?_,Z,q2]]
 have hz:(o8 [] kvs).length<=sizeLine:=by
  let h1:=TB kvs [];rw[we] at h1;rw[cc];omega
 have he:∃q,h'.get? s.heap.objs.size\q:=let #[q,_,_,hq,_]:=yW;#[q,hq];exact QA I2 (by rw[e];exact True.intro) hs he (LV hz hd (rk.merge .nil) yW)
structure M1 (X:Cx) (o:Expr) (m:Str) (apos:Pos) (e:Expr) (dk:Pos):Prop where
 base:attributeBase o m X.env (eval o X.env)=eval o X.env
 few:((backTo dk (starEach [e] X.env)).all (λx=>!x.1)&&(backToKw dk (keywordEach [] X.env)).all (λx=>x.1.isSome)
  && decide (([e]:List Expr).length+([]:List Keyword).length+(if ([]:List Keyword).isEmpty then 0 else 1)<30))=true
 line:(apos.endLine == dk.line)=true
 trees:backTo dk (starEach [e] X.env)=[(false,eval e X.env)]
structure M2 (X:Cx) (o:Expr) (m:Str) (apos:Pos) (e f:Expr) (dk:Pos):Prop where
 base:attributeBase o m X.env (eval o X.env)=eval o X.env
 few:((backTo dk (starEach [e,f] X.env)).all (λx=>!x.1)&&(backToKw dk (keywordEach [] X.env)).all (λx=>x.1.isSome)
  && decide (([e,f]:List Expr).length+([]:List Keyword).length+(if ([]:List Keyword).isEmpty then 0 else 1)<30))=true
 line:(apos.endLine == dk.line)=true
 trees:backTo dk (starEach [e,f] X.env)=[(false,eval e X.env),(false,eval f X.env)]
def IsD(H:Hp)(a:Addr):Prop:=(∃kvs,Rd H a (.dK kvs))∨∃kvs,Rd H a (.dT kvs)
theorem Vy(I:Inv X pins σ H s)(d:IsD H a) :
  s.TypeIs (.ref a) "dict"/\(∀b,Value.ref a=.ref b->∃ob,s.heap.get? b\ob/\ob.dict=none)/\(a == sysModules)=false:=by
 rcases d with⟨kvs,e⟩|⟨kvs,e⟩
 ·let#[_,hd,vs,_,dd]:=rT I.aN e;apply#[dd.typeIs,λb q=>?_,hd];cases q;let#[ob,_,_,h1,h2,_]:=dd;exact#[ob,h1,h2.2.1]
 let#[_,hd,xs,_,dd]:=Em I.aN e;apply#[dd.typeIs,λb q=>?_,hd];cases q;let#[ob,_,_,h1,h2,_]:=dd;exact#[ob,h1,h2.2.1]
theorem jb_{Q:Aa->Ab->Prop}(I:Inv X pins σ H s)(e:Rd H a (.dK kvs))(h:∀p s',H p=none->Inv X pins σ (upd H p (.dK kvs)) s'->Q (.ref p) s'):wpAny (model X.prog X.w) A (call (.type "dict") [.ref a]) Q E s:=by
 let#[z,hd,vs,rel,dd]:=rT I.aN e;apply kt_call_dict hd dd (by rw[<- rel.length];exact z) λh' yW hs=>?_;apply h _ _ (I.aN.fresh (bq _)) (I.laid (a:=s.heap.objs.size) (o:=.dK kvs) (t':=s.toks) (λb q hq=>?_) (bq _) (LV z (beq_eq_false_iff_ne.mpr (Ne.symm (eV I.big))) rel yW));exact (hs.2 b (eV (cK hq))).trans (cO _ hq)
end L2
namespace _n
open PySem PySem.W PySem.Calls PyProof.Rows
variable{P:Params}{h:Heap}
theorem de_:∀(ns:List Int) (vs:aq),WellAll P h vs (ns.map WData.int)->IntsAre vs ns:=by
 intro ns
 induction ns with
 |nil=>
  intro vs w;rw[vS] at w;cases w;exact .nil
 |cons n ns ih=>
  intro vs w;rw[eJ] at w;cases w with
  |cons a b=>
   cases a;exact .cons _ _ (ih _ b)
variable{l:OpenLaw}{n:Nat}
theorem h3_(hn:l.most\n){args:List WData}{vals:aq}(yF:l.row.toRowW.claim.pre args=true)(Pg:WellAll P h vals args) :
  ∃a vs ns,vals=[Value.ref a]/\args=[WData.list (ns.map WData.int)]/\h.get? a=some { cls:=.type "list",data:=.seq vs.toArray }/\IntsAre vs ns/\ns.length<=n:=by
 have hsh:WShape.hasAll [] args [.list .int]=true:=(pre_splitW yF).1;have hc:l.pre.holds [] { args:=args }=true:=(pre_splitW yF).2;let#[d,r,rfl,h1,h2]:=hasAllW_cons hsh;obtain rfl:=hasAllW_nil h2;let#[xs,rfl,h3]:=hasW_list h1;let#[ns,rfl]:=items_int h3
 have hlen:ns.length<=n:=by
  unfold OpenLaw.pre at hc
  have h4:(WTm.not (.lt (.lit (.int (n:Int))) (.len (.arg 0)))).holds [] { args:=[.list (ns.map .int)] }=true:=by
   let h4:=(holds_andW hc).1;rw[hn] at h4;exact h4
  let h5:=condW_of h4 (w_not (w_lt w_lit (w_len_list (w_arg Z))));rw[ao] at h5;apply Nat.le_of_not_lt λq=>?_;have q':(n:Int)<((ns.length:Nat):Int):=by omega
  first
   |(rw[cw q'] at h5;exact absurd h5 (by decide))
   |(simp at h5;omega)
 cases Pg with
 |cons w1 w2=>
  cases w2;cases w1 with
  |list ho vD=>exact#[_,_,ns,Z,Z,ho,de_ ns _ vD,hlen]
theorem hO_(l:OpenLaw)(args:List WData):l.row.toRowW.claim.post args (.bool true) args=true:=
 postW_of (r:=l.row.toRowW) (X:=(true == true))
  (show WShape.has [] (.bool true) .bool=true by first|rfl|decide|simp[WShape.has,WShape.arms,WShape.armsAll])
  (show (WTm.eq .res (.lit (.bool true))).value [] { args:=args,res:=some (.bool true),after:=args }=some (.bool (true == true)) from w_eq_bool (w_res Z) w_lit) Z
theorem md{q:Ae}{loose:ae}{XP:(Str->Option Aa)->Heap->Prop}{YP:Af->Heap->Prop}{d:DefRec}(hn:l.most\n)(lP:d.params.defaults=[])(call:∀(w:Af) (dD bf:Ab) (mg mb:Str->Option Aa) (fa:Addr) (o:Obj) (pm cd doc:Aa) (a:Addr) (vs:aq) (ns:List Int),
   Ground q loose [] XP w dD mg mb bf.heap->YP w bf.heap->
   bf.heap.get? fa\o->o.data=.func (docDef d.name d.params d.body d.scope pm cd doc)->bf.heap.CodeRec cd d.name->mg d.name\.ref fa->
   bf.heap.get? a=some { cls:=.type "list",data:=.seq vs.toArray }->IntsAre vs ns->ns.length<=n->bf.gens=#[]->
   codeAny (model l.prog w) callerA (.call (.ref fa) #[[.ref a],[]]) (λr s'=>r=.ok (.ret (.bool true))/\OldK bf.heap s'.heap/\s'.os=bf.os/\AllBare s'.gens) bf) :
  WalkO q loose XP YP l.row.toRowW d [] (λf vs=>PySem.call f vs):=by
 intro w dD bf mg mb G Y fa o pm cd doc dV kV ho hd iT hD hmg hg args vals as yF hlay hrd Pg hlo;obtain rfl:dV=.none:=Dflts.none hD lP;obtain rfl:kV=.none:=Dflts.noKw hD;let#[a,vs,ns,rfl,rfl,Cd,hints,hlen]:=h3_ hn yF Pg;apply enter_call (codeAny_mono (call w dD bf mg mb fa o pm cd doc a vs ns G Y ho (fd_plain hd) iT hmg Cd hints hlen hg) λr s' hq=>?_);let#[rfl,h2,h3,h4]:=hq;exact#[.inl #[.bool true,.bool true,[],Z,λ_=>rfl,.bool true,hO_ l _,λ_=>#[List.Pairwise.nil,λ_ hm=>(nomatch hm)]],h2,h3,h4]
end _n
namespace L2
open PySem PySem.Spec PyProof.Rows
theorem YZ:∀{vs:aq} {ns:List Int},IntsAre vs ns->Vals (ns.map V.int) vs
 |_,_,.nil=>.nil
 |_,_,.cons n t h=>.cons #[t,Z] (YZ h)
def kA(s:Stmt)(j:Nat):Stmt:=match s with
 |.ClassDef _ _ _ body _ _ _ _ _ _ _=>body.getD j (.Pass #[0,0,0,0])
 |_=>.Pass #[0,0,0,0]
def j6(s:Stmt):Arguments:=match s with
 |.FunctionDef _ a _ _ _ _ _ _ _ _=>a
 |_=>{ posonlyargs:=[],args:=[],vararg:=none,kwonlyargs:=[],kw_defaults:=[],kwarg:=none,defaults:=[] }
def iW(s:Stmt):List Stmt:=match s with
 |.FunctionDef _ _ b _ _ _ _ _ _ _=>b
 |_=>[]
def ba(s:Stmt):Scope:=match s with
 |.FunctionDef _ _ _ _ _ _ sc _ _ _=>sc
 |_=>{ kind:=.function,names:=[],isGenerator:=false,isCoroutine:=false }
abbrev aZ:wF:=λ_ _ _ _ _ _=>False
abbrev E0:XK:=λ_ _ _=>False
variable{X:Cx}
theorem lF:xi aZ X E0:=λ_ _ _ _ _ _ _ h=>h.elim
structure bp (K:af) (x qual:Str) (st:Stmt) (f:Addr) (fd:Ad):Prop where
 ex:∃(oc:Aa) (od:Option Addr) (kV doc pm:Aa) (an:Option Addr) (aR ct:Aa) (kn:Array (Option Aa)),
  fd=PySem.W.fnOf x qual (j6 st) (iW st) (ba st) .none kV doc pm an aR ct/\K.lookup f=some #[oc,od,.func fd,kn]/\PySem.W.codeIn K aR qual=true
 kp:PySem.W.keepIn K (.ref f)=true
variable{qual x:Str}{st:Stmt}{f:Addr}{fd:Ad}{N ps:ae}{k:Nat}{sp:Sp}{P:Ae}{w:Af}{K:af}{mg:Str->Option Aa}{base:Heap}
theorem bp.ok(F:bp K x qual st f fd)(S:bx N ps (ba st))(len:∀vs H Q E,sp vs H Q E->vs.length=ps.length)(gz:∀(aR:Aa) (A:Ag) (outer:List Env) (s:Ab) (H:Hp) (vs:ai) (Q:VK) (E:XK),aY k (A.deeper (envOfC qual (ba st) s.heap.objs.size f aR))->sp vs H Q E->
   ∃t,mX (lS aZ P w K mg base N qual (ba st) f aR A outer s H E).BS (iW st) t/\t { nx:=λ_ H'=>Q .non H',rt:=Q } (start N vs) H):!aj aZ (k+1) f fd ps sp:=by
 let#[oc,od,kV,doc,pm,an,aR,ct,kn,rfl,lk,iT]:=F.ex;apply U4 lk iT S len λA outer s H vs Q E hr mG=>?_;let#[t,h,q]:=gz aR A outer s H vs Q E hr mG;exact#[t,h.BS,q]
theorem bp.bG(F:bp K x qual st f fd)(S:bx N ps (ba st))(gz:∀(aR:Aa) (A:Ag) (outer:List Env) (s:Ab) (H:Hp) (vs:ai) (Q:VK) (E:XK),aY k (A.deeper (envOfC qual (ba st) s.heap.objs.size f aR))->sp vs H Q E->
   ∃t,mX (lS aZ P w K mg base N qual (ba st) f aR A outer s H E).BS (iW st) t/\t { nx:=λ_ H'=>Q .non H',rt:=Q } (start N vs) H)(len:∀vs H Q E,sp vs H Q E->vs.length=ps.length:=by intro vs H Q E h;first|(cases h;subst_vars;rfl)|(let#[rfl,_]:=h;rfl)|(let#[_,rfl,_]:=h;rfl)|(let#[_,_,rfl,_]:=h;rfl)|(let#[_,_,_,rfl,_]:=h;rfl)|(let#[_,_,_,_,rfl,_]:=h;rfl)):!aj aZ (k+1) f fd ps sp:=F.ok S len gz
theorem bp.binds(F:bp K x qual st f fd)(h:∀(kV doc pm:Aa) (an:Option Addr) (aR ct:Aa) (us:aq),us.length=ps.length->bindArgs (PySem.W.fnOf x qual (j6 st) (iW st) (ba st) .none kV doc pm an aR ct) #[us,[]]=pure (ps.zip us)):rR K fd ps []:=by
 let#[oc,od,kV,doc,pm,an,aR,ct,kn,rfl,lk,iT]:=F.ex;exact .all (h kV doc pm an aR ct)
theorem O6{oc:Aa}{od an:Option Addr}{kn:Array (Option Aa)}{kV doc pm aR ct:Aa}(l:K.lookup f=some #[oc,od,.func (PySem.W.fnOf x qual (j6 st) (iW st) (ba st) .none kV doc pm an aR ct),kn])(c:PySem.W.codeIn K aR qual=true)(k:PySem.W.keepIn K (.ref f)=true):bp K x qual st f (PySem.W.fnOf x qual (j6 st) (iW st) (ba st) .none kV doc pm an aR ct):=#[#[oc,od,kV,doc,pm,an,aR,ct,kn,Z,l,c],k]
theorem eO{A:Ag}(hr:aY k A):A.units+1<cLine:=Nat.lt_of_le_of_lt (Nat.add_le_add_left (by decide:1<=64) _) hr.units
theorem pv(i:Nat){pos:Pos}(hN:X.N[i]? = some x:=by rfl)(hv:TM X.env.scope x:=by first|exact Or.inl Z|exact Or.inr (Or.inl Z)|exact Or.inr (Or.inr Z))(hd:(x == ("__debug__":Str))=false:=by decide)(iT:(x == ("__classdict__":Str))=false:=by decide):PE X (.Name x pos) (tF i):=mw_ hN hv hd iT
inductive Zz (xs:ai) (H:Hp) (Q:VK):Prop
 |mk:∀a kvs,xs=[V.ref a]->H a\.dK kvs->Q (.int kvs.length) H->Zz xs H Q
theorem hZ_:gD X (.builtin "len") Zz:=by
 intro pins s σ H xs us Q I r h;let#[a,kvs,rfl,ha,q]:=h;let#[u,rfl,ru]:=vals1 r;cases ru;exact mF_ I (.inl ha) λt s' I'=>#[.int kvs.length,H,I',#[t,Z],q]
variable{A B:Prop}
theorem bE(h:B):if false=true then A else B:=by
 rw[au hJ];exact h
theorem fw(h:A):if true=true then A else B:=by
 rw[aB Z];exact h
variable{c:Prop}
theorem aQ[Decidable c](h1:c->A)(h2:¬c->B):if c then A else B:=by
 by_cases h:c
 ·rw[aB h];exact h1 h
 rw[au h];exact h2 h
theorem vk[Decidable c](hc:c)(h:B):if (!decide c)=true then A else B:=by
 rw[cw hc];exact bE h
def aa(H H':Hp):Prop:=∀b o,H b\o->H' b\o
theorem aa.refl(H:Hp):aa H H:=λ_ _ h=>h
variable{H:Hp}
theorem aa.trans{H1 H2:Hp}(a:aa H H1)(b:aa H1 H2):aa H H2:=λc o h=>b c o (a c o h)
theorem aa.free{H':Hp}(e:aa H H'){l:Addr}(h:H' l=Option.none):H l=Option.none:=by
 cases q:H l with
 |none=>rfl
 |some o=>
  rw[e l o q] at h;cases h
section
variable{κ:Type}[DecidableEq κ]
theorem kZ_{kvs:List (κ × V)}{k:κ}{v:V}(h:bL kvs k\v):k∈kvs.map (·.1):=by
 have q:(kvs.any λkv=>decide (kv.1=k))=true:=by
  rw[IU,h]
  all_goals rfl
 let#[p,hp,e]:=List.any_eq_true.mp q;exact bh.mpr #[p,hp,l_ e]
end
end L2
local macro_rules|`(%[$x,*|$_])=>do return (<-x.getElems.foldrM (λe (a:Lean.Term)=>if e.raw.isNatLit?.isSome then`(L2.dE (L2.pv $e) $a)else`(L2.dE $e $a)) (<-`(L2.aJ)))
namespace L2
open PySem PySem.Spec PyProof.Rows
def j8(env:Env):List (Str × NameKind)->List (Str × Addr)->List (Str × Addr)
 |[],cs=>cs
 |(n,k)::r,cs=>j8 env r (if k == .free then (n,(env.cells.lookup n).getD 0)::cs else cs)
theorem Tw{env:Env}(f:Str × NameKind->List (Str × Addr)->Sem (ForInStep (List (Str × Addr))))
  (hf:∀n k cs,f (n,k) cs=if (k == .free)=true then (do let a <- cellOf env n;pure (.yield ((n,a)::cs))) else pure (.yield cs)) :
  ∀(names:List (Str × NameKind)) (cs:List (Str × Addr)),(∀x∈names,x.2=.free->∃c,env.cells.lookup x.1\c)->forIn names cs f=(pure (j8 env names cs):Sem _)
 |[],cs,_=>by rw[List.forIn_nil];rfl
 |(n,k)::r,cs,h=>by
  rw[List.forIn_cons,hf];have hr:∀x∈r,x.2=.free->∃c,env.cells.lookup x.1\c:=λx hx=>h x (dJ _ hx);unfold j8;by_cases hk:(k == NameKind.free)=true
  ·let#[c,hc]:=h (n,k) cZ ⇑hk;have hc:env.cells.lookup n\c:=hc;rw[aB hk,aB hk];have e:cellOf env n=pure c:=by unfold cellOf;rw[hc]
   rw[e];simp only[pure_bind];rw[Tw f hf r _ hr,hc];rfl
  rw[au hk,au hk];simp only[pure_bind];exact Tw f hf r _ hr
variable{scope:Scope}{env:Env}
theorem ZL(h:∀x∈scope.names,x.2=.free->∃c,env.cells.lookup x.1\c):closureFor scope env=pure (j8 env scope.names []):=by
 simp only[closureFor];rw[Tw (env:=env) _ (λn k cs=>by by_cases hk:(k == NameKind.free)=true<;>simp[hk]) scope.names [] h]
 simp only[pure_bind]
theorem Zl{env:Env}:∀{names:List (Str × NameKind)} {cs:List (Str × Addr)} {x:Str} {c:Addr},(x,c)∈j8 env names cs->(x,c)∈cs∨((x,NameKind.free)∈names/\c=(env.cells.lookup x).getD 0)
 |[],cs,x,c,h=>.inl h
 |(n,k)::r,cs,x,c,h=>by
  unfold j8 at h;rcases Zl h with h|⟨h,e⟩
  ·by_cases hk:(k == NameKind.free)=true
   ·rw[aB hk] at h;rcases bX.mp h with q|q
    ·cases q;have:k=.free:=⇑hk
     subst this;exact .inr #[cZ,Z]
    exact .inl q
   rw[au hk] at h;exact .inl h
  exact .inr #[dJ _ h,e]
theorem Te{env:Env}:∀{names:List (Str × NameKind)} {cs:List (Str × Addr)} {x:Str},(x,NameKind.free)∈names∨(∃c,(x,c)∈cs)->∃c,(x,c)∈j8 env names cs
 |[],cs,x,h=>by
  rcases h with h|h
  ·cases h
  ·exact h
 |(n,k)::r,cs,x,h=>by
  unfold j8;apply Te ?_;rcases h with h|⟨c,h⟩
  ·rcases bX.mp h with e|h
   ·cases e;exact .inr #[(env.cells.lookup n).getD 0,by rw[aB (by decide)];exact cZ]
   exact .inl h
  apply .inr #[c,?_];split
  ·exact dJ _ h
  exact h
theorem Tx:∀(names:List (Str × NameKind)) (n:Nat) (acc cl:List (Str × Addr)),cellsFrom n names (acc++cl)=cellsFrom n names acc++cl
 |[],_,_,_=>rfl
 |(x,k)::r,n,acc,cl=>by
  unfold cellsFrom;split
  ·exact Tx r (n+1) ((x,n)::acc) cl
  exact Tx r n acc cl
theorem Tu:∀{names:List (Str × NameKind)} {n:Nat} {acc:List (Str × Addr)} {x:Str} {c:Addr},(x,c)∈cellsFrom n names acc->(x,c)∈acc∨(x,NameKind.cell)∈names
 |[],_,_,_,_,h=>.inl h
 |(y,k)::r,n,acc,x,c,h=>by
  unfold cellsFrom at h;by_cases hk:(k == NameKind.cell)=true
  ·rw[aB hk] at h;rcases Tu h with h|h
   ·rcases bX.mp h with e|h
    ·cases e;have:k=.cell:=⇑hk
     subst this;exact .inr cZ
    exact .inl h
   exact .inr (dJ _ h)
  rw[au hk] at h;rcases Tu h with h|h
  ·exact .inl h
  exact .inr (dJ _ h)
theorem Tz{α:Type}:∀{l:List (Str × α)} {x:Str} {c:α},(x,c)∈l->∃c',l.lookup x\c'
 |(k,v)::r,x,c,h=>by
  rw[v_];cases hb:x == k with
  |true=>exact#[v,Z]
  |false=>
   rcases bX.mp h with e|h
   ·cases e;simp at hb
   exact Tz h
def lV(scope:Scope)(C:Addr)(env:Env):Env:=
 { scope:=relabel scope env,locals:=C,globals:=env.globals,cells:=cellsFrom (C+1) scope.names (j8 env scope.names []),qual:=env.qual,func:=none,code:=env.code,frame:=env.frame,builtins:=env.builtins }
theorem Zg{M:Model}{A:Ag}{E:Aa->Ab->Prop}{s:Ab}{cl:List (Str × Addr)}{Q:Env->Ab->Prop}(h:Q { scope:=scope,locals:=s.heap.objs.size,globals:=env.globals,cells:=cellsFrom (s.heap.objs.size+1) scope.names cl,qual:=env.qual,func:=none,code:=env.code,frame:=env.frame,builtins:=env.builtins }
   { s with heap:=pushCells (s.heap.push { cls:=.type "dict",data:=.dict #[] }) scope.names }) :
  wpAny M A (newFunctionEnv scope env.globals cl [] env.qual none .none (some env)) Q E s:=by
 simp only[newFunctionEnv,Option.isSome_some,if_true];apply aP (wpAny_alloc ?_);apply aP (wpAny_layCells _ (λname kind cells=>by cases hkc:kind == NameKind.cell<;>simp[hkc]) _ _ _ _ ?_)
 rw[show ({ s with heap:=s.heap.push { cls:=.type "dict",data:=.dict #[] } }:Ab).heap.objs.size=s.heap.objs.size+1 from Heap.size_push ..];rw[List.forIn_nil];exact aP (bR (bR h))
def Mm(PN:ae)(ps:Scope)(N:ae)(own:Nat)(fr:List Nat)(scope:Scope):Bool:=
 decide (scope.kind=.function)&&decide N.Nodup&&decide (own+fr.length=N.length)
 && (scope.names.all λy=>decide (scope.names.lookup y.1\y.2))
 && (scope.names.all λy=>if y.2=.free then decide (ps.names.lookup y.1\.cell) || decide (ps.names.lookup y.1\.free) else true)
 && ((fr.map λj=>PN[j]?) == (N.drop own).map some)
 && ((N.drop own).all λx=>decide (scope.names.lookup x\.free))
structure pB (PN:ae) (ps:Scope) (N:ae) (own:Nat) (fr:List Nat) (scope:Scope):Prop where
 kind:scope.kind=.function
 nd:N.Nodup
 len:own+fr.length=N.length
 look:∀y∈scope.names,scope.names.lookup y.1\y.2
 par:∀y∈scope.names,y.2=.free->ps.names.lookup y.1\.cell∨ps.names.lookup y.1\.free
 rN:(fr.map λj=>PN[j]?)=(N.drop own).map some
 frk:∀x∈N.drop own,scope.names.lookup x\.free
variable{N:ae}{own:Nat}{fr:List Nat}
theorem pB.of{PN:ae}{ps:Scope}(h:Mm PN ps N own fr scope=true):pB PN ps N own fr scope:=by
 unfold Mm at h;simp only[xI,mO,List.all_eq_true,beq_iff_eq] at h;let#[#[#[#[#[#[h1,h2],h3],h4],h5],h6],h7]:=h;apply#[h1,h2,h3,h4,λy hy e=>?_,h6,h7];let q:=h5 y hy;rw[aB e] at q;simpa using q
def Dc(own:Nat)(fr:List Nat)(σ:St):St:=List.replicate own none++fr.map λj=>(σ[j]?).join
def ja(X:Cx)(N:ae)(scope:Scope)(fp:az)(s:Ab)(H:Hp):Cx where
 prog:=X.prog
 w:=X.w
 K:=X.K
 mg:=X.mg
 base:=X.base
 A:=X.A
 N:=N
 dD:=s
 mr:=H
 env:=lV scope s.heap.objs.size X.env
 outer:=X.stack
 stack:=X.stack
 ex:=fp
 fn:=λx=>decide (scope.names.lookup x\.local) || decide (scope.names.lookup x\.cell)
 calm:=X.calm
 pn:=[]
 xe:=λ_ _=>False
theorem ZN{ps:Scope}{env:Env}(he:env.scope=ps){x:Str}:∀{names:List (Str × NameKind)} {k:NameKind},names.lookup x\k->
  (names.map λ(n,k)=>if (k == NameKind.free&&env.scope.kind == .function&&env.kindOf n == some .cell) then (n,NameKind.cell) else (n,k)).lookup x =
   some (if (k == NameKind.free&&env.scope.kind == .function&&env.kindOf x == some .cell) then .cell else k)
 |(n,k')::r,k,h=>by
  rw[v_] at h;rw[eJ];cases hb:x == n with
  |true=>
   rw[hb] at h;cases h;have e:x=n:=⇑hb
   subst e;dsimp only;split<;>simp[v_]
  |false=>
   rw[hb] at h;let ih:=ZN he (env:=env) h;dsimp only;split<;>(rw[v_,hb];exact ih)
theorem Th{env:Env}{x:Str}:∀{names:List (Str × NameKind)} {k:NameKind},(names.map λ(n,k)=>if (k == NameKind.free&&env.scope.kind == .function&&env.kindOf n == some .cell) then (n,NameKind.cell) else (n,k)).lookup x\k->∃k',names.lookup x\k'/\(k'=k∨(k'=.free/\k=.cell))
 |(n,k')::r,k,h=>by
  rw[eJ] at h;rw[v_];dsimp only at h;cases hb:x == n with
  |true=>
   apply#[k',Z,?_];by_cases hc:(k' == NameKind.free&&env.scope.kind == .function&&env.kindOf n == some .cell)=true
   ·rw[aB hc,v_,hb] at h;cases h;simp only[xI,beq_iff_eq] at hc;exact .inr #[hc.1.1,Z]
   ·rw[au hc,v_,hb] at h;cases h;exact .inl Z
  |false=>
   have h':(r.map λ(n,k)=>if (k == NameKind.free&&env.scope.kind == .function&&env.kindOf n == some .cell) then (n,NameKind.cell) else (n,k)).lookup x\k:=by
    split at h<;>(rw[v_,hb] at h;exact h)
   exact Th h'
theorem e9_{α:Type}{x:Str}{c:α}:∀{l r:List (Str × α)},(l++r).lookup x\c->(x,c)∈l∨(x,c)∈r:=λh=>fR.mp (rX h)
section
variable{X:Cx}{pins:List (Addr × Obj)}{σ:St}{H:Hp}{s:Ab}{N:ae}{own:Nat}{fr:List Nat}{scope:Scope}{fp:az}
theorem XU(I:Inv X pins σ H s)(S:pB X.N X.env.scope N own fr scope){x:Str}{c:Addr}(h:(x,c)∈j8 X.env scope.names []):X.env.cells.lookup x\c/\(x,NameKind.free)∈scope.names:=by
 rcases Zl h with h|⟨h,e⟩
 ·cases h
 let#[c',hc]:=I.ok.has x (S.par _ h Z);apply#[?_,h];rw[e,hc];rfl
theorem Inv.block(I:Inv X pins σ H s)(S:pB X.N X.env.scope N own fr scope)(Lz:∀b∈fp,dI X pins H b)(hfo:∀b∈fp,∃o,s.heap.get? b\o) :
  Inv (ja X N scope fp s H) [] (Dc own fr σ) H { s with heap:=pushCells (s.heap.push { cls:=.type "dict",data:=.dict #[] }) scope.names }:=by
 have kept:∀b o,s.heap.get? b\o->(pushCells (s.heap.push { cls:=.type "dict",data:=.dict #[] }) scope.names).get? b\o:=λb o e=>pushCells_keeps _ _ b o (cO _ e);let MC:=cellsFrom_ok scope.names (s.heap.push { cls:=.type "dict",data:=.dict #[] }) (s.heap.objs.size+1) [] #[λ_ _ hm=>(nomatch hm),List.Pairwise.nil] (by rw[Heap.size_push];exact bq _);rw[Heap.size_push] at MC;have ecs:cellsFrom (s.heap.objs.size+1) scope.names (j8 X.env scope.names [])=cellsFrom (s.heap.objs.size+1) scope.names []++j8 X.env scope.names []:=Tx _ _ [] _
 have iO:∀{x c},(cellsFrom (s.heap.objs.size+1) scope.names (j8 X.env scope.names [])).lookup x\c->((x,c)∈cellsFrom (s.heap.objs.size+1) scope.names []/\(x,NameKind.cell)∈scope.names/\s.heap.objs.size+1<=c)∨(X.env.cells.lookup x\c/\(x,NameKind.free)∈scope.names):=λ{x c} h=>by
  rw[ecs] at h;rcases e9_ h with h|h
  ·apply .inl #[h,?_,(MC.empty _ _ h).2];rcases Tu h with q|q
   ·cases q
   exact q
  exact .inr (XU I S h)
 have Gh:∀{x c},X.env.cells.lookup x\c->c<s.heap.objs.size:=λ{x c} h=>by
  let#[v,hv]:=I.cell x c h;exact hv.lt
 have hb:∀b∈fp,b<s.heap.objs.size:=λb hb=>let #[o,e]:=hfo b hb;cK e
 apply#[#[I.ok.mod,S.kind,I.ok.glob,I.ok.blt,bq _,λx y c h1 h2=>?_,λx hx=>?_,λx c hf h=>?_,I.ok.hd,I.ok.frames,.inl Z,λb vC=>#[eV (hb b vC),λx c h=>?_],I.bs,?_,λb o e vC=>?_,λb vC hs=>?_,I.stack,I.pO],
  rfl,I.bare,Un.kept kept,#[_,(Heap.Ns.new s.heap (.type "dict")).keeps (pushCells_keeps _ _),λi x v h1 h2 h3=>?_],λx c h=>?_,I.aN.fresh (bq _),λx c h=>?_,λp hp=>absurd (show p∈([]:List (Addr × Obj)) from hp) Z2,I.aN.kept kept,?_]
 ·-- inj
  rcases iO h1 with⟨m1,k1,l1⟩|⟨m1,k1⟩<;>rcases iO h2 with⟨m2,k2,l2⟩|⟨m2,k2⟩
  ·exact name_of_addr MC.apart m1 m2
  ·exact absurd (Gh m2) (Nat.not_lt.mpr (Nat.le_of_succ_le l1))
  ·exact absurd (Gh m1) (Nat.not_lt.mpr (Nat.le_of_succ_le l2))
  exact I.ok.inj x y c m1 m2
 ·-- has
  have key:(x,NameKind.cell)∈scope.names∨(x,NameKind.free)∈scope.names:=by
   rcases hx with hx|hx
   ·let#[k',e,q]:=Th (env:=X.env) (show _\NameKind.cell from hx);let m:=rX e;rcases q with q|⟨q,_⟩
    ·exact .inl (q▸m)
    exact .inr (q▸m)
   let#[k',e,q]:=Th (env:=X.env) (show _\NameKind.free from hx);let m:=rX e;rcases q with q|⟨_,q⟩
   ·exact .inr (q▸m)
   cases q
  show ∃c,(cellsFrom (s.heap.objs.size+1) scope.names (j8 X.env scope.names [])).lookup x\c
  have:((cellsFrom (s.heap.objs.size+1) scope.names (j8 X.env scope.names [])).lookup x).isSome=true:=by
   apply PySem.W.cellsFrom_some _ _ _ ?_;rcases key with q|q
   ·exact .inl (S.look _ q)
   let#[c,m]:=Te (env:=X.env) (names:=scope.names) (cs:=[]) (x:=x) (.inl q);let#[c',e]:=Tz m;exact .inr (by rw[e];rfl)
  exact E8.mp this
 ·-- EJ
  rcases iO h with⟨_,_,l⟩|⟨_,k⟩
  ·exact Nat.le_of_succ_le l
  let e:=S.look _ k;have hf:(decide (scope.names.lookup x\.local) || decide (scope.names.lookup x\.cell))=true:=hf;rw[show scope.names.lookup x\.free from e] at hf;exact absurd hf (by decide)
 ·rcases iO h with⟨_,_,l⟩|⟨q,_⟩
  ·exact xt (kG (hb b vC) (Nat.le_of_succ_le l))
  exact (Lz b vC).2.2.2.2.1 x c q
 ·exact qJ I.ok.vQ I.sz
 ·rcases (Lz b vC).2.2.2.1 with q|q
  ·exact I.ok.vc b o e q
  exact absurd (kG (cK e) I.ok.vQ) Z1
 ·rcases bX.mp (I.ni b hs) with q|q
  ·exact (Lz b vC).2.1 q
  exact (Lz b vC).2.2.1 q
 ·-- names
  have hi:own<=i:=by
   apply Nat.le_of_not_lt λdm=>?_;unfold Dc at h2;rw[Dz (by rw[xE];exact dm),List.getElem?_replicate,aB dm] at h2;cases h2
  have ku:(fr.map λj=>(σ[j]?).join)[i - own]? = some (some v):=by
   unfold Dc at h2;rw[A7 (by rw[xE];exact hi),xE] at h2;exact h2
  have h1:N[i]? = some x:=h1;have hx:(N.drop own)[i - own]? = some x:=by rw[List.getElem?_drop,show own+(i - own)=i by omega];exact h1
  rw[dR] at ku;cases ej:fr[i - own]? with
  |none=>rw[ej] at ku;cases ku
  |some j=>
   rw[ej] at ku;have ku:(σ[j]?).join\v:=eK ku
   have rF:σ[j]? = some (some v):=by
    cases q:σ[j]? with
    |none=>rw[q] at ku;cases ku
    |some o=>rw[q] at ku;exact dQ some ku
   have hN:X.N[j]? = some x:=by
    let q:=dQ (λl=>l[i - own]?) S.rN;simp only[dR,ej,hx,Option.map_some] at q;exact eK q
   let kf:=S.frk x (cj hx);let mf:=rX kf;let#[m,hm,hv]:=I.loc;let pk:=S.par _ mf Z;let#[u,ru,lk]:=hv j x v hN rF (pk.elim (λq=>.inr (.inl q)) λq=>.inr (.inr q));apply#[u,ru,?_];have UM:X.env.kindOf x\.cell∨X.env.kindOf x\.free:=pk;rcases lk with⟨k,_⟩|⟨_,c,hc,qv⟩
   ·rw[k] at UM;rcases UM with q|q<;>cases q
   let#[c',m1]:=Te (env:=X.env) (names:=scope.names) (cs:=[]) (x:=x) (.inl mf);let e1:=(XU I S m1).1;rw[hc] at e1;cases e1;apply .inr #[?_,c,?_,qv.keeps kept]
   ·let q:=ZN (env:=X.env) Z kf;show (relabel scope X.env).names.lookup x\.cell∨(relabel scope X.env).names.lookup x\.free;unfold relabel;rw[q];split
    ·exact .inl Z
    exact .inr Z
   let#[c2,e2]:=E8.mp (PySem.W.cellsFrom_some (x:=x) scope.names (s.heap.objs.size+1) (j8 X.env scope.names []) (.inr (by let#[c',e]:=Tz m1;rw[e];rfl)));show (cellsFrom (s.heap.objs.size+1) scope.names (j8 X.env scope.names [])).lookup x\c;rcases iO e2 with⟨_,q,_⟩|⟨q,_⟩
   ·have:=S.look _ q;rw[show scope.names.lookup x\.free from kf] at this;cases this
   rw[hc] at q;cases q;exact e2
 ·-- cells
  rcases iO h with⟨q,_,_⟩|⟨q,_⟩
  ·exact#[_,(MC.empty _ _ q).1]
  let#[v,hv]:=I.cell x c q;exact#[v,hv.keeps kept]
 ·rcases iO h with⟨q,_,l⟩|⟨q,_⟩
  ·exact I.aN.fresh Z1
  exact I.eS x c q
 show (Dc own fr σ).length=N.length;unfold Dc;rw[eA,xE,ao];exact S.len
end
def KJ(X:Cx)(ifs:List Expr)(t:TT):Prop:=
 ∀(pins:List (Addr × Obj)) (s:Ab) (σ:St) (H:Hp) (Q:Bool->Hp->Prop),Inv X pins σ H s->t σ H Q->
  wpAny (model X.prog X.w) X.A (forIn ifs true λc r=>if r=true then do let ok <- isTrue c X.env (eval c X.env);pure (ForInStep.yield ok) else pure (ForInStep.yield r)) (TP X pins σ Q) X.xe s
def tx:TT:=λ_ H Q=>Q true H
variable{σ:St}
theorem dW{H:Hp}{A B:Hp->Prop}(h:A H):tx σ H λb H4=>if b=true then A H4 else B H4:=by
 unfold tx;exact fw h
variable{X:Cx}
theorem iH:KJ X [] tx:=λ_ _ _ H _ I h=>wpAny_tests_nil #[H,I,h]
theorem QK{c:Expr}{t:TT}(h:PT X c t):KJ X [c] t:=λpins s σ H Q I q=>wpAny_tests_one (h pins s σ H Q I q)
def AL(J:It)(g:TG)(tc:TT)(te:TE)(kj:St)(D:Addr)(H1:Hp)(Q:VK):Prop:=∃W:Nat->Nat->St->Hp->Prop,
 (∃m,W 0 m kj (upd H1 D (.lst [])))/\∀i m bt H',W i m bt H'->(J.stop i H'/\Q (.ref D) H') ∨
  (J.go i H'/\∃Nx:St->Hp->Prop,(∀gQ H2,Nx gQ H2->∃m',m'<m/\W (i+1) m' gQ H2) /\
   ∀x H2,J.xK i H' x H2->g x bt H2 λmz H3=>tc mz H3 λb H4=>if b=true then te mz H4 λy H5=>∃out,H5 D\.lst out/\out.length<sizeLine/\Nx mz (upd H5 D (.lst (out++[y]))) else Nx mz H4)
def zO(wi:TI)(own:Nat)(fr:List Nat)(g:TG)(tc:TT)(te:TE):TE:=λσ H Q=>wi σ H λJ H1=>∀D,H1 D=none->AL J g tc te (Dc own fr σ) D H1 Q
variable{Q:VK}{J:It}{D:Addr}{elt iter tg:Expr}{ifs:List Expr}{pos:Pos}{g:TG}{tc:TT}{te:TE}
theorem Xm{R:Result->Ab->Prop}{pins:List (Addr × Obj)}{H1:Hp}{s2:Ab}{it:Addr}{fp:az}{tn:Nat->Heap->Prop}(S:pB X.N X.env.scope N own fr scope)(hc:X.calm=true)(hg:∀fp s H,PG (ja X N scope fp s H) tg g)(ht:∀fp s H,KJ (ja X N scope fp s H) ifs tc)(he:∀fp s H,PE (ja X N scope fp s H) elt te)(I3:Inv X pins σ (upd H1 D (.lst [])) s2)(T:Turn X.prog X.w X.K tg J fp it tn)(st:tn 0 s2.heap)(f2:∀b∈fp,dI X pins (upd H1 D (.lst [])) b)(k:AL J g tc te (Dc own fr σ) D H1 Q)(hR:∀H' s',Inv X pins σ H' s'->(∃m,s'.heap.Ns s2.heap.objs.size m)->H' s2.heap.objs.size=none->Q (.ref D) H'->R (.ok .next) s') :
  codeAny (model X.prog X.w) X.A (.compStart (.ListComp elt [#[tg,iter,ifs,0]] scope pos) 0 (.ref it) (.ref D) (lV scope s2.heap.objs.size X.env)) R
   { s2 with heap:=pushCells (s2.heap.push { cls:=.type "dict",data:=.dict #[] }) scope.names }:=by
 let#[W,#[m0,w0],turn]:=k;let I4:=I3.block (N:=N) S f2 (λb hb=>let #[o,e,_]:=T.obj _ _ st b hb;#[o,e]);have kept:∀b o,s2.heap.get? b\o->(pushCells (s2.heap.push { cls:=.type "dict",data:=.dict #[] }) scope.names).get? b\o:=λb o e=>pushCells_keeps _ _ b o (cO _ e);have ia:tn 0 (pushCells (s2.heap.push { cls:=.type "dict",data:=.dict #[] }) scope.names):=T.keep _ _ _ st λb hb o e=>kept b o e
 have fx:∀{H':Hp},(∀b∈fp,H' b=none)->∀b∈fp,dI (ja X N scope fp s2 (upd H1 D (.lst []))) [] H' b:=λhn b hb=>
  #[hn b hb,(I4.ok.LX b hb).1,I4.ok.vE b hb,.inl hb,(I4.ok.LX b hb).2,λp hp=>absurd (show p∈([]:List (Addr × Obj)) from hp) Z2]
 have loop:codeAny (model X.prog X.w) X.A (.compLoop (.ListComp elt [#[tg,iter,ifs,0]] scope pos) 0 (.ref it) (.ref D) (lV scope s2.heap.objs.size X.env)) R
   { s2 with heap:=pushCells (s2.heap.push { cls:=.type "dict",data:=.dict #[] }) scope.names }:=by
  apply codeAny_loop Z (λn s'=>∃i bt H',Inv (ja X N scope fp s2 (upd H1 D (.lst []))) [] bt H' s'/\tn i s'.heap/\(∀b∈fp,H' b=none)/\W i n bt H') (λn s' hI=>?_) m0 #[0,_,_,I4,ia,λb hb=>(f2 b hb).1,w0];let#[i,bt,H',I5,gq,qy,w5]:=hI;show wpAny _ X.A ((compTurn (.ListComp elt [#[tg,iter,ifs,0]] scope pos) 0 (.ref it) (.ref D) (lV scope s2.heap.objs.size X.env)).onRaise (λx=>do noteFrame x (lV scope s2.heap.objs.size X.env);theTreesLotGoes x)) _ _ s';apply wpAny_noted (wpAny_mono (E:=λ_ _=>False) ?_ (λ_ _ q=>q) λ_ _ q=>q.elim);rw[compTurn_list];apply aP (wpAny_standAt (aP ?_));rcases turn i n bt H' w5 with⟨stop,q⟩|⟨go,Nx,hN,step⟩
  ·apply bb (T.done (ja X N scope fp s2 (upd H1 D (.lst []))) Z Z Z hc i [] s' bt H' _ I5 (fx qy) gq stop) λr s6 ⟨hr,I6⟩=>?_;subst hr;apply bR (hR H' s6 (I3.IY I6.os I6.base I6.aN I6.bare λb hb=>?_) ?_ I6.free q)
   ·exact#[(f2 b hb).2.2.2.1,(f2 b hb).2.1,(f2 b hb).2.2.2.2.1,(f2 b hb).2.2.2.2.2]
   let#[m,hm,_]:=I6.loc;exact#[m,hm]
  apply bb (T.item (ja X N scope fp s2 (upd H1 D (.lst []))) Z Z Z hc i [] s' bt H' _ I5 (fx qy) gq go) λr s6 ⟨u,hr,h6⟩=>?_;subst hr;apply aP (bb h6 λ_ s7 ⟨x,H7,I7,r7,y7,tQ,fr7⟩=>?_);let I7':=I7.pinned (fx fr7) (T.obj _ _ tQ)
  have back:∀{wG:St} {H8:Hp} {s8:Ab},Inv (ja X N scope fp s2 (upd H1 D (.lst []))) ([]++zf fp s7.heap) wG H8 s8->Nx wG H8->∃m,m<n/\∃i bt H',Inv (ja X N scope fp s2 (upd H1 D (.lst []))) [] bt H' s8/\tn i s8.heap/\(∀b∈fp,H' b=none)/\W i m bt H':=λ{wG H8 s8} I8 n8=>by
   let#[m',hm,w8]:=hN wG H8 n8;apply#[m',hm,i+1,wG,H8,I8.fe,T.keep _ _ _ tQ λb hb o e=>(I8.pin (b,o) (pf _ (pf _ (MV hb e)))).1,λb hb=>?_,w8];let#[o,e,d]:=T.obj _ _ tQ b hb;exact (I8.pin (b,o) (pf _ (pf _ (MV hb e)))).2.1
  apply aP (bb (hg fp s2 (upd H1 D (.lst [])) _ s7 bt H7 x u _ I7' r7 (step x H7 y7)) λ_ s8 ⟨wG,H8,I8,q8⟩=>?_);apply aP (bb (ht fp s2 (upd H1 D (.lst [])) _ s8 wG H8 _ I8 q8) λb s9 ⟨H9,I9,q9⟩=>?_);cases b with
  |false=>
   simp only[zu,if_false] at q9 ⊢;exact bR #[Z,back I9 q9]
  |true=>
   simp only[if_true] at q9 ⊢;apply aP (aP (bb (he fp s2 (upd H1 D (.lst [])) _ s9 wG H9 _ I9 q9) λy N9 ⟨yv,wC,I10,r10,out,hD,hz,q10⟩=>?_));apply aP (bb (ki (X:=ja X N scope fp s2 (upd H1 D (.lst []))) _ N9 wG wC (.ref D) [yv] (.ref D) [y] (λ_ H'=>Nx wG H') I10 Z (.cons r10 .nil) #[D,out,yv,Z,Z,hD,hz,q10]) λ_ zX ⟨_,Ua,I11,_,q11⟩=>?_);exact bR (bR #[Z,back I11 q11])
 exact codeAny_compStart_list loop (T.self _ 0 _ _ _ ia loop)
variable{wi:TI}
theorem i4(N:ae)(own:Nat)(fr:List Nat)(hi:PI X tg iter wi)(hg:∀fp s H,PG (ja X N scope fp s H) tg g)(ht:∀fp s H,KJ (ja X N scope fp s H) ifs tc)(he:∀fp s H,PE (ja X N scope fp s H) elt te)
  (S:Mm X.N X.env.scope N own fr scope=true:=by kernel_rfl) (hc:X.calm=true:=by rfl) (hs:∀x,foldedSetIterable iter X.env x=pure x:=by intro _;rfl) :
  PE X (.ListComp elt [#[tg,iter,ifs,0]] scope pos) (zO wi own fr g tc te):=by
 intro pins s σ H Q I h;let S':=pB.of S;rw[eval_ListComp];have vA:closureFor scope X.env=pure (j8 X.env scope.names []):=ZL λx hx e=>I.ok.has x.1 (S'.par x hx e);apply wpAny_comprehension_free (use:=none) Z hs vA S'.kind (λx hx e=>by rw[S'.look x hx,e]) (bb (hi pins s σ H _ I h) λv s1 h1=>bb h1 λLp s2 h2=>?_);let#[it,fp,tn,J,H1,rfl,I2,T,fK,f2,k]:=h2;apply wpAny_newObj_type (Zg ?_);have hD:H1 s2.heap.objs.size=none:=I2.fresh;let I3:=I2.yB (ys:=[]) (its:=[]) (t':=s2.toks) .nil (gF _);have kept:∀b o,s2.heap.get? b\o->(s2.heap.push { cls:=.type "list",data:=.seq ([]:aq).toArray }).get? b\o:=λb o e=>cO _ e;apply Xm (own:=own) (fr:=fr) (Q:=Q) S' hc hg ht he I3 T (T.keep _ _ _ fK λb hb o e=>kept b o e) (λb hb=>?_) (k _ hD) ?_
 ·apply#[?_,(f2 b hb).2];let#[o,e,_]:=T.obj _ _ fK b hb;rw[ax (eV (cK e))];exact (f2 b hb).1
 rintro H' s' I' ⟨m,hm⟩ hn q;apply#[m,hm,λh' sH=>#[.ref s2.heap.objs.size,H',?_,Z,q]]
 exact I'.turned (t':=s'.toks) (λb o hb e=>sH.extBut b o hb e) hn (xt I3.lt) (.inr I3.sz) (λx c P9 e=>by
  let#[v,hv]:=I3.cell x c P9
  exact absurd hv.lt (by rw[e];exact vT _)) λp hp e=>by
   have:=(I3.pin p hp).1;rw[e] at this;exact absurd (cK this) (vT _)
def FF(i:Nat)(te:TE):TS:=λD σ H=>te σ H λx H1=>D.nx (σ.set i (some x)) H1
theorem Mi{i:Nat}{x:Str}{px:Pos}(N:ae)(own:Nat)(fr:List Nat)(hN:X.N.Nodup)(hi':X.N[i]? = some x)(hx:Loc X.env.scope x)
  (hi:PI X tg iter wi) (hg:∀fp s H,PG (ja X N scope fp s H) tg g) (ht:∀fp s H,KJ (ja X N scope fp s H) ifs tc) (he:∀fp s H,PE (ja X N scope fp s H) elt te) {pos':Pos}
  (S:Mm X.N X.env.scope N own fr scope=true:=by kernel_rfl) (hc:X.calm=true:=by rfl) (hs:∀x,foldedSetIterable iter X.env x=pure x:=by intro _;rfl)
  (hf:X.fn x=true∨X.env.scope.names.lookup x\.local:=by first|exact .inl Z|exact .inr Z|assumption)
  (hsw:swapsWith (.ListComp elt [#[tg,iter,ifs,0]] scope pos) (some (.Name x px)) pos'.line X.env=pure true:=by rfl) :
  PS X (.Assign [.Name x px] (.ListComp elt [#[tg,iter,ifs,0]] scope pos) pos') (FF i (zO wi own fr g tc te)):=by
 intro pins s σ H E I h;let S':=pB.of S;rw[exec_Assign_Name_used _ _ _ _ hsw];apply aP (wpAny_standAt (aP ?_));show wpAny _ X.A (do let _ <- comprehension (.ListComp elt [#[tg,iter,ifs,0]] scope pos) scope X.env _ (newList []) false (eval iter X.env) (some (assign (.Name x px) X.env))) _ _ s;have vA:closureFor scope X.env=pure (j8 X.env scope.names []):=ZL λx hx e=>I.ok.has x.1 (S'.par x hx e)
 apply aP (wpAny_mono (wpAny_comprehension_free (use:=some (assign (.Name x px) X.env)) (Q:=λ_ s'=>SP X pins E .next s') Z hs vA S'.kind (λx hx e=>by rw[S'.look x hx,e]) (bb (hi pins s σ H _ I h) λv s1 h1=>bb h1 λLp s2 h2=>?_))
  (λ_ s' hq=>bR (bR hq)) λ_ _ e=>e)
 let#[it,fp,tn,J,H1,rfl,I2,T,fK,f2,k]:=h2;apply wpAny_newObj_type (Zg ?_);have hD:H1 s2.heap.objs.size=none:=I2.fresh;let I3:=I2.yB (ys:=[]) (its:=[]) (t':=s2.toks) .nil (gF _);have kept:∀b o,s2.heap.get? b\o->(s2.heap.push { cls:=.type "list",data:=.seq ([]:aq).toArray }).get? b\o:=λb o e=>cO _ e;apply Xm (own:=own) (fr:=fr) (Q:=λx H1=>E.nx (σ.set i (some x)) H1) S' hc hg ht he I3 T (T.keep _ _ _ fK λb hb o e=>kept b o e) (λb hb=>?_) (k _ hD) ?_
 ·apply#[?_,(f2 b hb).2];let#[o,e,_]:=T.obj _ _ fK b hb;rw[ax (eV (cK e))];exact (f2 b hb).1
 rintro H' s' I' ⟨m,hm⟩ hn q
 have xh:∀y c,X.env.cells.lookup y\c->c≠(s2.heap.push { cls:=.type "list",data:=.seq ([]:aq).toArray }).objs.size:=λy c P9 e=>by
  let#[v,hv]:=I3.cell y c P9;exact absurd hv.lt (by rw[e];exact vT _)
 show wpAny _ X.A (assign (.Name x px) X.env (.ref s2.heap.objs.size)) _ _ s';apply wpAny_assign_Name (YA (v:=V.ref s2.heap.objs.size) I' hN hi' hx Z (λsr I'' ⟨a,B9,ha⟩=>?_) hf)
 have hCa:(s2.heap.push { cls:=.type "list",data:=.seq ([]:aq).toArray }).objs.size≠a:=by
  rcases ha with e|e
  ·rw[e];exact xt I3.lt
  exact (xh x a e).symm
 apply#[m,hm.sameBut B9 hCa,λh' sH=>#[_,H',?_,q]]
 exact I''.turned (t':=sr.toks) (λb o hb e=>sH.extBut b o hb e) hn (xt I3.lt) (.inr I3.sz) xh λp hp e=>by
   have:=(I3.pin p hp).1;rw[e] at this;exact absurd (cK this) (vT _)
def DI(g:TG)(own:Nat)(fv:List aF)(dec:V->Hp->List aF->Prop):Prop:=
 ∀(x:V) (o:List aF) (H:Hp) (k:bZ) (o3:List aF),o.length=own->dec x H o3->k (o3++fv) H->g x (o++fv) H k
variable{fv:List aF}
theorem ee:DI (mN 0) 1 fv (λx _ o3=>o3=[some x]):=λx o H k o3 hl e h=>by
 subst e
 match o,hl with
 |[a],_=>exact h
inductive IF (K:af) (x:V) (H:Hp) (o3:List aF):Prop
 |mk:∀p u v,x=.ref p->i6 K H p [u,v]->o3=[some u,some v]->IF K x H o3
inductive IE (K:af) (x:V) (H:Hp) (o3:List aF):Prop
 |mk:∀p u v w,x=.ref p->i6 K H p [u,v,w]->o3=[some u,some v,some w]->IE K x H o3
variable{K:af}
theorem Cw:DI (j0 K 2 (xb (mN 0) (xb (mN 1) yO))) 2 fv (IF K):=λx o H k o3 hl e h=>by
 let#[p,u,v,rfl,hp,rfl]:=e
 match o,hl with
 |[a,b],_=>exact#[p,[u,v],Z,hp,Z,u,[v],Z,v,[],Z,Z,h]
theorem Qn:DI (j0 K 3 (xb (mN 0) (xb (mN 1) (xb (mN 2) yO)))) 3 fv (IE K):=λx o H k o3 hl e h=>by
 let#[p,u,v,w,rfl,hp,rfl]:=e
 match o,hl with
 |[a,b,c],_=>exact#[p,[u,v,w],Z,hp,Z,u,[v,w],Z,v,[w],Z,w,[],Z,Z,h]
variable{H:Hp}{dec:V->Hp->List aF->Prop}{kj:St}
theorem zk(rF:kj=List.replicate own none++fv)(G:DI g own fv dec)(n:Nat)(Pv:dH)(h0:Pv 0 [] (upd H D (.lst [])))(G4:∀out H',Pv n out H'->J.stop n H'/\Q (.ref D) H')(Co:∀i out H',i<n->Pv i out H'->J.go i H'/\∀x H2,J.xK i H' x H2->∃o3,dec x H2 o3/\o3.length=own/\∀Nx:Hp->Prop,(∀jT H2,Pv (i+1) jT H2->Nx H2)->
   tc (o3++fv) H2 λb H4=>if b=true then te (o3++fv) H4 λy H5=>∃fu,H5 D\.lst fu/\fu.length<sizeLine/\Nx (upd H5 D (.lst (fu++[y]))) else Nx H4) :
  AL J g tc te kj D H Q:=by
 subst rF;apply#[λi m bt H'=>m=n - i/\i<=n/\(∃o:List aF,bt=o++fv/\o.length=own)/\∃out,Pv i out H',#[n,by simp,gF _,#[_,Z,xE],_,h0],?_];rintro i m bt H' ⟨rfl,hi,⟨o,rfl,ho⟩,out,p⟩;by_cases dm:i<n
 ·let#[go,k]:=Co i out H' dm p;apply .inr #[go,λgQ H2=>(∃o:List aF,gQ=o++fv/\o.length=own)/\∃out,Pv (i+1) out H2,λgQ H2 q=>#[n - (i+1),by omega,Z,dm,q],λx H2 y=>?_];let#[o3,d,l3,q]:=k x H2 y;exact G x o H2 _ o3 ho d (q (λH2=>(∃o:List aF,o3++fv=o++fv/\o.length=own)/\∃out,Pv (i+1) out H2) λjT H2 z=>#[#[o3,Z,l3],jT,z])
 have e:i=n:=by omega
 subst e;exact .inl (G4 out H' p)
theorem mU{a:Addr}{xs:ai}(rF:kj=List.replicate own none++fv)(G:DI g own fv dec)(Pv:dH)(h0:Pv 0 [] (upd H D (.lst [])))(hl:∀i out H',i<=xs.length->Pv i out H'->eG K H' a xs)(hd:∀out H',Pv xs.length out H'->Q (.ref D) H')(Co:∀i x out H',xs[i]? = some x->Pv i out H'->∃o3,dec x H' o3/\o3.length=own/\∀Nx:Hp->Prop,(∀jT H2,Pv (i+1) jT H2->Nx H2)->
   tc (o3++fv) H' λb H4=>if b=true then te (o3++fv) H4 λy H5=>∃fu,H5 D\.lst fu/\fu.length<sizeLine/\Nx (upd H5 D (.lst (fu++[y]))) else Nx H4) :
  AL (Bc K a) g tc te kj D H Q:=by
 apply zk rF G xs.length Pv h0 (λout H' p=>#[#[xs,hl _ _ _ (bq _) p,bq _],hd out H' p]) λi out H' hi p=>?_;let q:=hl i out H' (Nat.le_of_lt hi) p;apply#[#[xs,xs[i],q,by simp[hi]],λx H2 y=>?_];let#[e,y]:=y;subst e;exact Co i x out _ (y xs q) p
end L2
namespace KR
open PySem PySem.W PyProof.Rows
def Ok{α:Type}(f:Nat->Nat->Bool)(n:Nat):KasT α->(α->Prop)->Prop
 |.ret a,Q=>Q a
 |.ask i j k,Q=>i<n/\j<n/\Ok f n (k (f i j)) Q
theorem Ok.bind{α β:Type}{f:Nat->Nat->Bool}{n:Nat}{g:α->KasT β}{Q:β->Prop}:∀{t:KasT α} {R:α->Prop},Ok f n t R->(∀a,R a->Ok f n (g a) Q)->Ok f n (t.bind g) Q
 |.ret a,R,h,k=>k a h
 |.ask i j t,R,h,k=>#[h.1,h.2.1,Ok.bind h.2.2 k]
theorem Ok.imp{α:Type}{f:Nat->Nat->Bool}{n:Nat}{Q R:α->Prop}(k:∀a,Q a->R a):∀{t:KasT α},Ok f n t Q->Ok f n t R
 |.ret a,h=>k a h
 |.ask i j t,h=>#[h.1,h.2.1,Ok.imp k h.2.2]
theorem Ok.wp{α:Type}{f:Nat->Nat->Bool}{n:Nat}{cmp:Nat->Nat->(Bool->Ab->Prop)->Ab->Prop}{s:Ab}(hc:∀i j C,i<n->j<n->C (f i j) s->cmp i j C s){Q:α->Prop}{G:α->Ab->Prop}(k:∀a,Q a->G a s) :
  ∀{t:KasT α},Ok f n t Q->t.kasWp cmp G s
 |.ret a,h=>k a h
 |.ask i j t,h=>hc i j _ h.1 h.2.1 (Ok.wp hc k h.2.2)
structure Ord (f:Nat->Nat->Bool):Prop where
 gf:∀i,f i i=false
 trans:∀{i j k},f j i=false->f k j=false->f k i=false
 zF:∀{i j},f i j=true->f j i=false
variable{p:Array Nat}
variable{i j:Nat}
variable{k:Nat}
variable{n:Nat}
variable{dY:Nat}
section
variable{f:Nat->Nat->Bool}(O:Ord f){N:Nat}
abbrev at'(p:Array Nat)(i:Nat):Nat:=p.getD i 0
def Up(f:Nat->Nat->Bool)(p:Array Nat)(k:Nat):Prop:=∀i j,i<=j->j<k->f (at' p j) (at' p i)=false
def Down(f:Nat->Nat->Bool)(p:Array Nat)(k:Nat):Prop:=∀i j,i<=j->j<k->f (at' p i) (at' p j)=false
def sj(f:Nat->Nat->Bool)(p:Array Nat)(lo k:Nat):Prop:=∀i,lo<=i->i<k->f (at' p i) (at' p (k - 1))=false/\f (at' p (k - 1)) (at' p i)=false
def Good(N:Nat)(p:Array Nat):Prop:=p.Perm (List.range N).toArray
theorem Good.size(h:Good N p):p.size=N:=by
 have:=h.size_eq;simpa using this
theorem Good.lt(h:Good N p)(hN:0<N)(i:Nat):at' p i<N:=by
 unfold at';by_cases hi:i<p.size
 ·have e:p.getD i 0=p[i]:=by simp[Array.getD,hi]
  rw[e];have m:p[i]∈(List.range N).toArray:=h.mem_iff.mp (Array.getElem_mem hi);simpa using m
 have e:p.getD i 0=0:=by simp[Array.getD,hi]
 rw[e];exact hN
theorem Good.rev(h:Good N p)(i j:Nat):Good N (kas_rev p i j):=(mirror_perm _ _ _ _).trans h
theorem Good.bub(h:Good N p)(i j:Nat):Good N (bubble p i j):=(bubble_perm _ _ _).trans h
theorem Iy{q:Array Nat}(h:p[i]? = q[j]?):at' p i=at' q j:=by
 unfold at';rw[Array.getD_eq_getD_getElem?,Array.getD_eq_getD_getElem?,h]
theorem C3(hj:j<=p.size)(k:Nat):at' (kas_rev p i j) k=if i<=k/\k<j then at' p (i+j - 1 - k) else at' p k:=by
 let e:=getElem?_mirror_all (i:=i) hj k;unfold kas_rev;split
 ·rename_i c
  rw[aB c] at e;exact Iy e
 rename_i c
 rw[au c] at e;exact Iy e
theorem VG{l:Nat}(hk:k<p.size)(hl:l<=k)(i:Nat):at' (bubble p k (k - l)) i=if i=l then at' p k else if l<i/\i<=k then at' p (i - 1) else at' p i:=by
 let e:=getElem?_bubble hk (k - l) Z1 i;rw[show k - (k - l)=l by omega] at e;by_cases c:i=l
 ·rw[aB c] at e ⊢;exact Iy e
 rw[au c] at e ⊢;split
 ·rename_i d
  rw[aB d] at e;exact Iy e
 rename_i d
 rw[au d] at e;exact Iy e
include O
theorem Up.more(h:Up f p n)(h1:1<=n)(c:f (at' p n) (at' p (n - 1))=false):Up f p (n+1):=λi j oP hj=>by
 by_cases e:j<n
 ·exact h i j oP e
 have e:j=n:=by omega
 subst e;by_cases e2:i=j
 ·subst e2;exact O.gf _
 exact O.trans (h i (j - 1) Z1 Z1) c
theorem Down.more(h:Down f p n)(h1:1<=n)(c:f (at' p (n - 1)) (at' p n)=false):Down f p (n+1):=λi j oP hj=>by
 by_cases e:j<n
 ·exact h i j oP e
 have e:j=n:=by omega
 subst e;by_cases e2:i=j
 ·subst e2;exact O.gf _
 exact O.trans c (h i (j - 1) Z1 Z1)
theorem O4{p:Array Nat}(g:Good N p)(hN:0<N):∀(m n:Nat),1<=n->Up f p n->Ok f N (kas_asc p m n) λr=>n<=r/\r<=n+m/\Up f p r/\(r<n+m->f (at' p r) (at' p (r - 1))=true)
 |0,n,_,h=>#[bq _,bq _,h,λq=>absurd q Z1]
 |m+1,n,h1,h=>by
  apply#[g.lt hN _,g.lt hN _,?_];dsimp only;by_cases c:f (at' p n) (at' p (n - 1))=true
  ·rw[aB c];exact#[bq _,by omega,h,λ_=>c]
  rw[au c];apply (O4 g hN m (n+1) Z1 (h.more O h1 ⇑c)).imp λr ⟨a,b,u,z⟩=>#[by omega,by omega,u,λq=>z Z1]
theorem sj.rev{lo:Nat}(h:sj f p lo k)(hk:k<=p.size)(i:Nat):f (at' (kas_rev p lo k) i) (at' p i)=false/\f (at' p i) (at' (kas_rev p lo k) i)=false:=by
 rw[C3 hk];split
 ·rename_i c
  let#[a1,a2]:=h i c.1 c.2;let#[b1,b2]:=h (lo+k - 1 - i) Z1 Z1;exact#[O.trans a2 b1,O.trans b2 a1]
 exact#[O.gf _,O.gf _]
theorem Down.rev{lo:Nat}(h:Down f p n)(l:sj f p lo k)(hk:k<=p.size):Down f (kas_rev p lo k) n:=λi j oP hj=>by
 let#[a1,_]:=l.rev O hk i;let#[_,b2]:=l.rev O hk j;exact O.trans (O.trans b2 (h i j oP hj)) a1
theorem Ma(hN:0<N):∀(m:Nat) (p:Array Nat) (n q:Nat),Good N p->1<=n->q+1<=n->n+m<=N->Down f p n->sj f p (n - (q+1)) n->
  Ok f N (kas_desc m p n q) λr=>Good N r.1/\n<=r.2.1/\r.2.1<=n+m/\Down f r.1 r.2.1/\r.2.2+1<=r.2.1/\sj f r.1 (r.2.1 - (r.2.2+1)) r.2.1
 |0,p,n,q,g,h1,hq,hn,d,l=>#[g,bq _,bq _,d,hq,l]
 |m+1,p,n,q,g,h1,hq,hn,d,l=>by
  apply#[g.lt hN _,g.lt hN _,?_];dsimp only;by_cases c:f (at' p n) (at' p (n - 1))=true
  ·rw[aB c];have d2:Down f p (n+1):=d.more O h1 (O.zF c)
   have one:∀p':Array Nat,sj f p' (n+1 - (0+1)) (n+1):=λp' i h2 h3=>by
    have e:i=n+1 - 1:=by omega
    subst e;exact#[O.gf _,O.gf _]
   by_cases Ws:q > 0
   ·rw[aB Ws];have hk:n<=p.size:=by rw[g.size];omega
    exact (Ma hN m _ (n+1) 0 (g.rev _ _) Z1 Z1 Z1 (d2.rev O l hk) (one _)).imp λr ⟨a,b,b2,z⟩=>#[a,by omega,by omega,z]
   rw[au Ws];exact (Ma hN m _ (n+1) 0 g Z1 Z1 Z1 d2 (one _)).imp λr ⟨a,b,b2,z⟩=>#[a,by omega,by omega,z]
  rw[au c];apply#[g.lt hN _,g.lt hN _,?_];dsimp only;have c:f (at' p n) (at' p (n - 1))=false:=⇑c
  by_cases e:f (at' p (n - 1)) (at' p n)=true
  ·rw[aB e];exact#[g,bq _,by show n<=n+(m+1);omega,d,hq,l]
  rw[au e];have e:f (at' p (n - 1)) (at' p n)=false:=⇑e
  apply (Ma hN m p (n+1) (q+1) g Z1 Z1 Z1 (d.more O h1 e) λi h2 h3=>?_).imp λr ⟨a,b,b2,z⟩=>#[a,by omega,by omega,z];show f (at' p i) (at' p n)=false/\f (at' p n) (at' p i)=false;by_cases ei:i=n
  ·subst ei;exact#[O.gf _,O.gf _]
  let#[a1,a2]:=l i Z1 Z1;exact#[O.trans e a1,O.trans a2 c]
def Rw(f:Nat->Nat->Bool)(N dY:Nat)(r:Nat × Array Nat):Prop:=Good N r.2/\1<=r.1/\r.1<=dY/\Up f r.2 r.1
theorem Xf(hN:0<N)(g:Good N p)(h1:1<=n)(hn:n<=dY)(hr:dY<=N)(d:Down f p n):Ok f N (kas_tail3 n dY p) (Rw f N dY):=by
 unfold kas_tail3
 have u:Up f (kas_rev p 0 n) n:=λi j oP hj=>by
  rw[C3 (by rw[g.size];omega),C3 (by rw[g.size];omega),aB Z1,aB Z1];exact d _ _ Z1 Z1
 exact (O4 O (g.rev _ _) hN (dY - n) n h1 u).bind λm ⟨a,b,u,_⟩=>#[g.rev _ _,by show 1<=m;omega,by show m<=dY;omega,u]
theorem Ze(hN:0<N)(g:Good N p)(hn:n+1<=dY)(hr:dY<=N)(d:Down f p (n+1)):Ok f N (kas_descPart n dY p) (Rw f N dY):=by
 unfold kas_descPart;apply (Ma O hN (dY - (n+1)) p (n+1) 0 g Z1 Z1 Z1 d λi h2 h3=>?_).bind λr ⟨g',a,b,d',hq,l⟩=>?_
 ·have e:i=n+1 - 1:=by omega
  subst e;exact#[O.gf _,O.gf _]
 split
 ·exact Xf O hN (g'.rev _ _) Z1 Z1 hr (d'.rev O l (by rw[g'.size];omega))
 exact Xf O hN g' Z1 Z1 hr d'
theorem jD_(hN:0<N)(g:Good N p)(h1:1<=dY)(hr:dY<=N):Ok f N (kas_count dY p) (Rw f N dY):=by
 unfold kas_count;apply (O4 O g hN (dY - 1) 1 (bq _) λi j oP hj=>?_).bind λn ⟨a,b,u,st⟩=>?_
 ·have e:i=j:=by omega
  subst e;exact O.gf _
 by_cases e:(n == dY)=true
 ·rw[aB e];exact#[g,a,by show n<=dY;omega,u]
 rw[au e];have e:n≠dY:=⇑e
 let c:=st Z1;by_cases h2:n > 1
 ·rw[aB h2];apply#[g.lt hN _,g.lt hN _,?_];dsimp only;by_cases c2:f (at' p 0) (at' p (n - 1))=true
  ·rw[aB c2];exact#[g,a,by show n<=dY;omega,u]
  rw[au c2];have c2:f (at' p 0) (at' p (n - 1))=false:=⇑c2
  apply Ze O hN (g.rev _ _) Z1 hr λi j oP hj=>?_;by_cases ej:j<n
  ·rw[C3 (by rw[g.size];omega),C3 (by rw[g.size];omega),aB Z1,aB Z1];exact u _ _ Z1 Z1
  have ej:j=n:=by omega
  subst ej;by_cases ei:i=j
  ·subst ei;exact O.gf _
  rw[C3 (by rw[g.size];omega),C3 (by rw[g.size];omega),aB Z1,au Z1];exact O.trans (O.trans (O.zF c) c2) (u 0 _ Z1 Z1)
 rw[au h2];have e1:n=1:=by omega
 subst e1;apply Ze O hN g Z1 hr λi j oP hj=>?_;by_cases ei:i=j
 ·subst ei;exact O.gf _
 have q1:i=0:=by omega
 have q2:j=1:=by omega
 subst q1;subst q2;exact O.zF c
theorem QX(hN:0<N){p:Array Nat}{k:Nat}(g:Good N p)(u:Up f p k):∀(m l r:Nat),r - l<=m->l<=r->r<=k->(∀i,i<l->f (at' p k) (at' p i)=false)->(∀i,r<=i->i<k->f (at' p k) (at' p i)=true)->
  Ok f N (kas_place p k m l r) λx=>x<=k/\(∀i,i<x->f (at' p k) (at' p i)=false)/\∀i,x<=i->i<k->f (at' p k) (at' p i)=true
 |0,l,r,hm,hl,hr,h1,h2=>by
  have e:l=r:=by omega
  subst e;exact#[hr,h1,h2]
 |m+1,l,r,hm,hl,hr,h1,h2=>by
  unfold kas_place;by_cases e:l ≥ r
  ·rw[aB e];have e:l=r:=by omega
   subst e;exact#[hr,h1,h2]
  rw[au e];apply#[g.lt hN _,g.lt hN _,?_];dsimp only;by_cases c:f (at' p k) (at' p ((l+r) / 2))=true
  ·rw[aB c];apply QX hN g u m l _ Z1 Z1 Z1 h1 λi h3 h4=>?_;by_cases ei:f (at' p k) (at' p i)=true
   ·exact ei
   have ei:f (at' p k) (at' p i)=false:=⇑ei
   have:=O.trans (u _ i h3 h4) ei;rw[c] at this;cases this
  rw[au c];have c:f (at' p k) (at' p ((l+r) / 2))=false:=⇑c
  exact QX hN g u m _ r Z1 Z1 hr (λi h3=>O.trans (u i _ Z1 Z1) c) h2
theorem VN(hN:0<N):∀(m:Nat) (p:Array Nat) (k:Nat),Good N p->k+m=N->Up f p k->Ok f N (kas_bin m p k) λr=>Good N r/\Up f r N
 |0,p,k,g,e,u=>by
  have e:k=N:=by omega
  subst e;exact#[g,u]
 |m+1,p,k,g,e,u=>by
  unfold kas_bin;apply (QX O hN g u k 0 k Z1 Z1 (bq _) (λi h=>absurd h Z1) λi h1 h2=>absurd h2 Z1).bind λl ⟨hl,h1,h2⟩=>?_;have hk:k<p.size:=by rw[g.size];omega
  apply VN hN m _ (k+1) (g.bub _ _) Z1 λi j oP hj=>?_;rw[VG hk hl,VG hk hl];by_cases ej:j=l
  ·rw[aB ej];by_cases ei:i=l
   ·rw[aB ei];exact O.gf _
   rw[au ei,au Z1];exact h1 i Z1
  rw[au ej];by_cases YG:l<j/\j<=k
  ·rw[aB YG];by_cases ei:i=l
   ·rw[aB ei];exact O.zF (h2 (j - 1) Z1 Z1)
   rw[au ei];by_cases YH:l<i/\i<=k
   ·rw[aB YH];exact u _ _ Z1 Z1
   rw[au YH];exact u _ _ Z1 Z1
  rw[au YG];rw[au (show ¬i=l by omega),au (show ¬(l<i/\i<=k) by omega)];exact u _ _ Z1 Z1
theorem Xq(hN:0<N):Ok f N (kas_sort N) λp=>Good N p/\Up f p N:=by
 unfold kas_sort;apply (jD_ O hN (p:=(List.range N).toArray) (Array.Perm.refl _) hN (bq _)).bind λr ⟨g,h1,h2,u⟩=>?_;split
 ·rename_i c
  rw[show max r.1 1=r.1 by omega];exact VN O hN _ _ _ g Z1 u
 rename_i c
 have e:r.1=N:=by omega
 exact#[g,e▸u]
end
def zC(prog:Ae)(w:Af)(A:Ag)(f:Nat->Nat->Bool)(vs:aq)(s:Ab):Prop:=
 ∃κ,(∀Q:SortKind->Ab->Prop,Q κ s->wpAny (model prog w) A (keyKind' vs.toArray) Q (λ_ _=>False) s)/\∀i j C,i<vs.length->j<vs.length->C (f i j) s->kas_ask prog w A κ vs i j C s
def IG(a:Addr)(h h':Heap):Prop:=∀b o,b≠a->h.get? b\o->h'.get? b\o
def oV(p:Array Nat)(vs:aq):aq:=p.toList.map λi=>vs.getD i Value.none
theorem Zf(vs:aq):oV (List.range vs.length).toArray vs=vs:=by
 unfold oV;apply List.ext_getElem? ?_;intro i;simp only[dR];by_cases h:i<vs.length
 ·simp[h]
 simp[Nat.le_of_not_lt h]
variable{f:Nat->Nat->Bool}{prog:Ae}{w:Af}{A:Ag}{E:Aa->Ab->Prop}{s:Ab}
theorem jW_{a:Addr}{vs:aq}{P:Fin->Ab->Prop}(O:Ord f)(ho:s.heap.get? a\seqObj "list" vs.toArray n)(cz:vs.length<64)(Cu:2<=vs.length->∀h',IG a s.heap h'->zC prog w A f vs { s with heap:=h' })(h:∀(p:Array Nat) (h':Heap) (e:Nat),Good vs.length p->Up f p vs.length->h'.get? a\seqObj "list" (oV p vs).toArray e->IG a s.heap h'->P (.done (.ret .none)) { s with heap:=h' }) :
  wpAny (model prog w) A (Builtin.«list.sort» #[[.ref a],[]]) P E s:=by
 have haz:a<s.heap.objs.size:=cK ho;obtain⟨e1,Ea⟩:∃e1,(s.heap.update a (Obj.mapSeq λ_=>(#[]:Array Aa))).get? a\seqObj "list" #[] e1:=#[_,get?_update_seq ho (λ_=>#[])]
 have DV:vs.length<=sizeLine:=by
  have:=cc;omega
 rw[list_sort_plain];apply aP (listItems_at ho Z (aP (listUpdate_at ho Z (aP (seqEpoch_at Ea Z (aP (wpAny_newTuple (aP (wpAny_newList (wpAny_holding ?_) (gF _))) DV)))) ⇑DV (gF _))))
 have keep:∀g:Array Aa->Array Aa,IG a s.heap ((((s.heap.update a (Obj.mapSeq λ_=>(#[]:Array Aa))).push (seqObj "tuple" vs.toArray 0)).push (seqObj "list" #[] 0)).update a (Obj.mapSeq g)):=λg b o hb e=>by
  apply (xm _ _ (Ne.symm hb)).trans (cO _ (cO _ ?_));exact (xm _ _ (Ne.symm hb)).trans e
 have GN:IG a s.heap (((s.heap.update a (Obj.mapSeq λ_=>(#[]:Array Aa))).push (seqObj "tuple" vs.toArray 0)).push (seqObj "list" #[] 0)):=λb o hb e=>
  cO _ (cO _ ((xm _ _ (Ne.symm hb)).trans e))
 have D_:(((s.heap.update a (Obj.mapSeq λ_=>(#[]:Array Aa))).push (seqObj "tuple" vs.toArray 0)).push (seqObj "list" #[] 0)).get? a\seqObj "list" #[] e1:=cO _ (cO _ Ea);show wpAny (model prog w) A _ P E { s with heap:=((s.heap.update a (Obj.mapSeq λ_=>(#[]:Array Aa))).push (seqObj "tuple" vs.toArray 0)).push (seqObj "list" #[] 0) };dsimp only;by_cases h2:vs.toArray.size<2
 ·rw[aB h2,aB h2];apply aP (bR ?_);rw[StateT.run_pure]
  have yR:((vs.toArray.zip vs.toArray).map λx:Keyed=>x.2)=(oV (List.range vs.length).toArray vs).toArray:=by
   rw[Zf];apply Array.ext' ?_;simp[List.map_snd_zip]
  apply aP (bR (aP (seqEpoch_at D_ Z (aP (listUpdate_at D_ Z ?_ (gF _) ?_)))))
  ·simp only[bne_self_eq_false,zu,if_false];apply bR (h (List.range vs.length).toArray _ _ (Array.Perm.refl _) (λi j oP hj=>?_) ((get?_update_seq D_ _).trans (dQ (λz=>some (seqObj "list" z _)) yR)) (keep _))
   have e:i=j:=by
    simp only[dG] at h2;omega
   subst e;exact O.gf _
  have e:((vs.toArray.zip vs.toArray).map λx:Keyed=>x.2).size<=sizeLine+1:=by
   simp only[Array.size_map,Array.size_zip,dG];omega
  exact e
 rw[au h2,au h2]
 have ku:2<=vs.length:=by
  simp only[dG] at h2;omega
 let#[κ,hk,hc]:=Cu ku _ GN;apply aP (wpAny_mono (hk (λk s'=>k=κ/\s'=_) #[Z,Z]) (λk s' Hs=>?_) λ_ _ x=>x.elim);let#[rfl,rfl]:=Hs
 apply aP (wpAny_mono (kat_run (ks:=vs) (vs:=vs) (G:=λp s'=>s'={ s with heap:=((s.heap.update a (Obj.mapSeq λ_=>(#[]:Array Aa))).push (seqObj "tuple" vs.toArray 0)).push (seqObj "list" #[] 0) }/\Good vs.length p/\Up f p vs.length)
  (Q:=λfL s'=>∃p:Array Nat,arrOf fL=p.map (kas_item (vs.toArray.zip vs.toArray))/\failedOf fL=none/\s'={ s with heap:=((s.heap.update a (Obj.mapSeq λ_=>(#[]:Array Aa))).push (seqObj "tuple" vs.toArray 0)).push (seqObj "list" #[] 0) }/\Good vs.length p/\Up f p vs.length)
  rfl ku cz (λp fL s' _ q1 q2 q3=>#[p,q1,q2,q3]) (Ok.wp hc (λp q=>#[Z,q]) (Xq O Z1))) ?_ λ_ _ x=>x)
 rintro⟨⟨⟩,fL⟩ s' ⟨p,Qc,hf,sH,g,u⟩;have sH:s'={ s with heap:=((s.heap.update a (Obj.mapSeq λ_=>(#[]:Array Aa))).push (seqObj "tuple" vs.toArray 0)).push (seqObj "list" #[] 0) }:=sH;subst sH
 have yR:((arrOf fL).map λx:Keyed=>x.2)=(oV p vs).toArray:=by
  rw[Qc];apply Array.ext' ?_;unfold oV;simp only[Array.map_map,Array.toList_map,List.toList_toArray];apply qH λi _=>?_;show (kas_item (vs.toArray.zip vs.toArray) i).2=_;unfold kas_item;by_cases hi:i<vs.length
  ·simp[Array.getD,hi]
  simp[Array.getD,hi,Nat.le_of_not_lt hi]
 have esz:((arrOf fL).map λx:Keyed=>x.2).size=vs.length:=by
  rw[yR];unfold oV;simp only[dG,ao,sY];exact g.size
 apply aP (seqEpoch_at D_ Z (aP (listUpdate_at D_ Z ?_ (gF _) (by rw[esz];omega))));rw[hf];simp only[bne_self_eq_false,zu,if_false];exact bR (h p _ _ g u ((get?_update_seq D_ _).trans (dQ (λz=>some (seqObj "list" z _)) yR)) (keep _))
theorem Zm{x:Aa}{Q:Aa->Ab->Prop}(O:Ord f)(oS:wpAny (model prog w) A.in1 (collect x) (λvs s1=>vs.length<64/\(2<=vs.length->∀h':Heap,(∀b o,s1.heap.get? b\o->h'.get? b\o)->zC prog w A.in1.in1 f vs { s1 with heap:=h' }) /\
   ∀(p:Array Nat) (h':Heap) (e:Nat),Good vs.length p->Up f p vs.length->h'.get? s1.heap.objs.size\seqObj "list" (oV p vs).toArray e->(∀b o,s1.heap.get? b\o->h'.get? b\o)->Q (.ref s1.heap.objs.size) { s1 with heap:=h' }) E s) :
  wpAny (model prog w) A (call (.builtin "sorted") [x]) Q E s:=by
 apply Calls.call_function_entry kind_sorted plain_sorted entry_sorted (args_sorted1 _) ?_;unfold Builtin.«sorted»;apply aP (m:=checkCount "sorted" 1 1 _) (bR (aP (wpAny_mono oS (λvs s1 q=>?_) λ_ _ z=>z)));let#[cz,Cu,hQ]:=q;apply aP (wpAny_newList ?_ (by have:=cc;omega));have hn:(s1.heap.push (seqObj "list" vs.toArray 0)).get? s1.heap.objs.size\seqObj "list" vs.toArray 0:=fI _ Z
 have old:∀h',IG s1.heap.objs.size (s1.heap.push (seqObj "list" vs.toArray 0)) h'->∀b o,s1.heap.get? b\o->h'.get? b\o:=λh' k b o e=>
  k b o (eV (cK e)) (cO _ e)
 apply aP (wpAny_holding (wpAny_call_entry slot_list_sort #[_,hn,Z] entry_list_sort (jW_ O hn cz (λh2 h' k=>Cu h2 h' (old h' k)) λp h' e g u q k=>#[_,Z,?_]) (args_list_sort _)));exact bR #[_,Z,hQ p h' e g u q (old h' k)]
end KR
namespace L2
open PySem PySem.Spec PyProof.Rows PySem.W KR
def jW:Key->Key->Bool
 |.inl i,.inl j=>decide (i<j)
 |.inl _,.inr _=>true
 |.inr _,.inl _=>false
 |.inr x,.inr y=>decide (x.cps.toList<y.cps.toList)
def bD:aM->aM->Bool
 |[],[]=>false
 |[],_::_=>true
 |_::_,[]=>false
 |a::r,b::q=>if a=b then bD r q else jW a b
theorem Wg:∀a:Key,jW a a=false
 |.inl i=>by simp[jW]
 |.inr x=>by simp[jW,List.lt_irrefl]
theorem YB:∀{a b:Key},jW a b=true->jW b a=false
 |.inl i,.inl j,h=>by
  simp only[jW,mO,decide_eq_false_iff_not] at *;omega
 |.inl _,.inr _,_=>rfl
 |.inr _,.inl _,h=>by cases h
 |.inr x,.inr y,h=>by
  simp only[jW,mO,decide_eq_false_iff_not] at *;exact λq=>List.lt_irrefl _ (List.lt_trans h q)
theorem Wf:∀{a b:Key},jW a b=false->jW b a=false->a=b
 |.inl i,.inl j,h,h2=>by
  simp only[jW,decide_eq_false_iff_not] at *;rw[show i=j by omega]
 |.inl _,.inr _,h,_=>by cases h
 |.inr _,.inl _,_,h=>by cases h
 |.inr x,.inr y,h,h2=>by
  simp only[jW,decide_eq_false_iff_not] at *;rw[ext_toList (List.le_antisymm (List.not_lt.mp h2) (List.not_lt.mp h))]
theorem i0_:∀{a b c:Key},jW a b=true->jW b c=true->jW a c=true
 |.inl i,.inl j,.inl k,h,h2=>by
  simp only[jW,mO] at *;omega
 |.inl _,.inl _,.inr _,_,_=>rfl
 |.inl _,.inr _,.inr _,_,_=>rfl
 |.inl _,.inr _,.inl _,_,h=>by cases h
 |.inr _,.inl _,_,h,_=>by cases h
 |.inr _,.inr _,.inl _,_,h=>by cases h
 |.inr x,.inr y,.inr z,h,h2=>by
  simp only[jW,mO] at *;exact List.lt_trans h h2
theorem EU:∀a:aM,bD a a=false
 |[]=>rfl
 |a::r=>by
  unfold bD;rw[aB Z];exact EU r
theorem Ti:∀{a b:aM},bD a b=true->bD b a=false
 |[],[],h=>by cases h
 |[],_::_,_=>rfl
 |_::_,[],h=>by cases h
 |a::r,b::q,h=>by
  unfold bD at h ⊢;by_cases e:a=b
  ·rw[aB e] at h;rw[aB e.symm];exact Ti h
  rw[au e] at h;rw[au (Ne.symm e)];exact YB h
theorem IP:∀{a b:aM},bD a b=false->bD b a=false->a=b
 |[],[],_,_=>rfl
 |[],_::_,h,_=>by cases h
 |_::_,[],_,h=>by cases h
 |a::r,b::q,h,h2=>by
  unfold bD at h h2;by_cases e:a=b
  ·rw[aB e] at h;rw[aB e.symm] at h2;rw[e,IP h h2]
  rw[au e] at h;rw[au (Ne.symm e)] at h2;exact absurd (Wf h h2) e
theorem ZQ:∀{a b c:aM},bD a b=true->bD b c=true->bD a c=true
 |[],_,[],h,h2=>by
  rename_i b
  cases b with
  |nil=>cases h
  |cons _ _=>cases h2
 |[],_,_::_,_,_=>rfl
 |_::_,[],_,h,_=>by cases h
 |_::_,_::_,[],_,h=>by cases h
 |a::r,b::q,c::t,h,h2=>by
  unfold bD at h h2 ⊢;by_cases e:a=b
  ·subst e;rw[aB Z] at h;by_cases e2:a=c
   ·rw[aB e2] at h2 ⊢;exact ZQ h h2
   rw[au e2] at h2 ⊢;exact h2
  rw[au e] at h;by_cases e2:b=c
  ·subst e2;rw[au e];exact h
  rw[au e2] at h2;let h3:=i0_ h h2;rw[au (λq=>by rw[q,Wg] at h3;cases h3)];exact h3
theorem EX{a b c:aM}(h:bD b a=false)(h2:bD c b=false):bD c a=false:=by
 cases e:bD c a with
 |false=>rfl
 |true=>
  by_cases e1:bD a b=true
  ·have:=ZQ e e1;rw[h2] at this;cases this
  have e1:bD a b=false:=⇑e1
  have:=IP e1 h;subst this;rw[h2] at e;cases e
def pF(ks:List aM):Prop:=ks.Pairwise λa b=>bD b a=false
theorem S6:∀{a b:List aM},a.Perm b->pF a->pF b->a=b
 |[],b,p,_,_=>by
  have:=p.length_eq;cases b with
  |nil=>rfl
  |cons _ _=>cases this
 |x::r,[],p,_,_=>by
  have:=p.length_eq;cases this
 |x::r,y::q,p,h1,h2=>by
  let#[a1,a2]:=wc.mp h1;let#[b1,b2]:=wc.mp h2
  have e:x=y:=by
   rcases bX.mp (p.mem_iff.mp cZ) with m|m
   ·exact m
   rcases bX.mp (p.mem_iff.mpr cZ) with m2|m2
   ·exact m2.symm
   exact IP (b1 _ m) (a1 _ m2)
  subst e;rw[S6 ((List.perm_cons _).mp p) a2 b2]
def aU(ks:List aM):List aM:=ks.mergeSort λa b=>!bD b a
theorem mV(ks:List aM):(aU ks).Perm ks:=List.mergeSort_perm _ _
theorem MT(ks:List aM):pF (aU ks):=by
 have:=List.pairwise_mergeSort (le:=λa b=>!bD b a) (λa b c h1 h2=>by
  simp only[Bool.not_eq_true'] at *;exact EX h1 h2) (λa b=>by
  simp only[Bool.or_eq_true,Bool.not_eq_true'];by_cases e:bD b a=true
  ·exact .inr (Ti e)
  exact .inl ⇑e) ks
 exact this.imp λh=>by simpa using h
variable{ks:List aM}
theorem Mw{vg:List aM}(p:vg.Perm ks)(h:pF vg):vg=aU ks:=S6 (p.trans (mV ks).symm) h (MT ks)
variable{p:Array Nat}
theorem Jr{α:Type}{n:Nat}(g:Good n p)(F:Nat->α):(p.toList.map F).Perm ((List.range n).map F):=by
 have e:p.toList.Perm (List.range n):=by
  have:=Array.perm_iff_toList_perm.mp g;simpa using this
 exact e.map F
theorem QH{f:Nat->Nat->Bool}(hf:∀i j,i<ks.length->j<ks.length->f i j=bD (ks.getD i []) (ks.getD j []))(g:Good ks.length p)(u:Up f p ks.length):pF (p.toList.map λi=>ks.getD i []):=by
 unfold pF;rw[pe,List.pairwise_iff_getElem];intro i j hi hj oP;let hs:=g.size;rw[sY] at hi hj;have hj':j<ks.length:=by omega
 let q:=u i j (Nat.le_of_lt oP) hj';have hN:0<ks.length:=by omega
 rw[hf _ _ (g.lt hN _) (g.lt hN _)] at q;have e1:at' p i=p.toList[i]:=by simp[at',Array.getD,hi]
 have e2:at' p j=p.toList[j]:=by simp[at',Array.getD,hj]
 rw[e1,e2] at q;exact q
theorem Q3(ks:List aM):Ord λi j=>bD (ks.getD i []) (ks.getD j []):=#[λ_=>EU _,λh h2=>EX h h2,λh=>Ti h]
theorem Jw{α:Type}(d:α)(l:List α):((List.range l.length).map λi=>l.getD i d)=l:=by
 apply List.ext_getElem? ?_;intro i;simp only[dR];by_cases h:i<l.length
 ·simp[h]
 simp[Nat.le_of_not_lt h]
variable{ys:ai}{vs:aq}
theorem RI(r:Vals ys vs)(g:Good vs.length p):Vals (p.toList.map λi=>ys.getD i .non) (oV p vs):=by
 unfold oV
 have key:∀l:List Nat,(∀i∈l,i<vs.length)->Vals (l.map λi=>ys.getD i .non) (l.map λi=>vs.getD i Value.none):=λl=>by
  induction l with
  |nil=>exact λ_=>.nil
  |cons i l ih=>
   intro h;apply .cons ?_ (ih λj hj=>h j (dJ _ hj));let hi:=h i cZ;have hy:i<ys.length:=by rw[r.length];exact hi
   let#[u,hu,ru]:=r.get (dB hy);have e1:ys.getD i .non=ys[i]:=by simp[hy]
   have e2:vs.getD i Value.none=u:=by simp[hu]
   show RelV (ys.getD i .non) (vs.getD i Value.none);rw[e1,e2];exact ru
 apply key p.toList λi hi=>?_;have m:i∈(List.range vs.length).toArray:=g.mem_iff.mp ⇑hi;simpa using m
theorem V8:∀{ss:ae} {vs:aq},Vals (ss.map V.str) vs->StrsAre vs ss
 |[],_,.nil=>.nil
 |x::r,_,.cons h t=>by
  let#[tk,rfl]:=h;exact .cons x tk (V8 t)
def aV(ss:ae):ae:=(aU (ss.map λx=>[Sum.inr x])).map λk=>match k with
 |[.inr x]=>x
 |_=>⟨#[]⟩
def da(x:Str):aM:=[Sum.inr x]
variable{prog:Ae}{w:Af}{A:Ag}{s:Ab}
theorem iA_{ss:ae}(r:StrsAre vs ss)(h2:2<=vs.length):zC prog w A (λi j=>bD ((ss.map da).getD i []) ((ss.map da).getD j [])) vs s:=by
 apply#[oneType',λQ q=>?_,λi j C hi hj hC=>?_]
 ·match vs,h2 with
  |v₁::v₂::t,_=>
   rw[keyKind_strs r];exact bR q
 unfold kas_ask;rw[keyLt'_oneType]
 have look:∀k,k<vs.length->∃x t,vs.getD k Value.none=.str x t/\(ss.map da).getD k []=[Sum.inr x]:=λk hk=>by
  let e:=r.strs;let#[x,t,q]:=r.all vs[k] (jy hk);apply#[x,t,by simp[hk,q],?_]
  have WG:k<ss.length:=by
   rw[<- e,ao];exact hk
  have e2:ss[k]=x:=by
   have e3:(vs.map strOf)[k]? = ss[k]?:=by rw[e]
   rw[dR,dB hk,dB WG,q] at e3;exact (eK e3).symm
  simp[WG,e2,da]
 let#[x,t,e1,e2]:=look i hi;let#[y,u,e3,e4]:=look j hj;rw[e1,e3];dsimp only at hC;rw[e2,e4] at hC;apply oneLt_str ?_;unfold bD at hC;by_cases e:x=y
 ·subst e;rw[aB Z] at hC;have:decide (x.cps.toList<x.cps.toList)=false:=by simp[List.lt_irrefl]
  rw[this];exact hC
 rw[au (λq=>e (ik q))] at hC;exact hC
def Aq:Key->Bool
 |.inl _=>false
 |.inr _=>true
variable{a b:Key}
theorem hR_{E:Aa->Ab->Prop}{c:Bool}{p q:Aa}{Q:Bool->Ab->Prop}(ra:RelV (kV a) p)(rb:RelV (kV b) q)(hk:Aq a=Aq b)(h:Q (jW a b) s) :
  wpAny (model prog w) A (oneLt' c p q) Q E s:=by
 cases a with
 |inl i=>
  cases b with
  |inr y=>cases hk
  |inl j=>
   let#[t,rfl]:=ra;let#[u,rfl]:=rb;cases c with
   |true=>exact oneLt_int h
   |false=>exact kat_one _ _ (lt_int (show PySem.W.BoolBack Q (.bool _) s from h))
 |inr x=>
  cases b with
  |inl j=>cases hk
  |inr y=>
   let#[t,rfl]:=ra;let#[u,rfl]:=rb;cases c with
   |true=>exact oneLt_str h
   |false=>exact kat_one _ _ (PyProof.Rows.lt_str (show PySem.W.BoolBack Q (.bool _) s from h))
theorem V2(hk:Aq a=Aq b):jF (kV a) (kV b)=decide (a=b):=by
 cases a with
 |inl i=>
  cases b with
  |inr y=>cases hk
  |inl j=>
   show (i == j)=_;by_cases e:i=j
   ·subst e;simp
   ·rw[dU (λq=>e (Sum.inl.inj q))];simpa using e
 |inr x=>
  cases b with
  |inl j=>cases hk
  |inr y=>
   show (x == y)=_;by_cases e:x=y
   ·subst e;simp
   rw[dU (λq=>e (ik q))];simpa using e
theorem X6(a:Key):qB (kV a)=true:=by cases a<;>rfl
theorem ZG{prog:Ae}{w:Af}{A:Ag}{s:Ab}{Q:Bool->Ab->Prop}:∀{k1 k2:aM} {us vs:aq} (i:Nat),Vals (k1.map kV) us->Vals (k2.map kV) vs->k1.map Aq=k2.map Aq->Q (bD k1 k2) s->KatLex prog w A true false Q (us.zip vs) i s
 |[],[],_,_,i,.nil,.nil,_,h=>h
 |[],_::_,_,_,_,_,_,h,_=>by cases h
 |_::_,[],_,_,_,_,_,h,_=>by cases h
 |a::k1,b::k2,u::us,v::vs,i,.cons ra r1,.cons rb r2,hk,h=>by
  let#[e1,e2]:=o5 hk;apply kat_cons ?_;apply LI ra rb (X6 a) (X6 b) prog w _ _ ?_;rw[V2 e1];unfold bD at h;by_cases e:a=b
  ·rw[aB e] at h;rw[cw e];exact kat_yes (ZG (i+1) r1 r2 e2 h)
  rw[au e] at h;rw[dU e];exact kat_no (hR_ ra rb e1 h)
def bg(K:af)(H:Hp):ai->List aM->Prop:=Paired λy k=>∃a,y=V.ref a/\H a\.tup (k.map kV)
def AE(ks:List aM)(sh:List Bool):Prop:=sh≠[]/\∀k∈ks,k.map Aq=sh
theorem Yk{X:Cx}{pins:List (Addr × Obj)}{σ:St}{H:Hp}{s':Ab}{sh:List Bool}(I:Inv X pins σ H s)(r:Vals ys vs)(t:bg X.K H ys ks)(al:AE ks sh)(h2:2<=vs.length)(kp:∀b o,s.heap.get? b\o->s'.heap.get? b\o):zC X.prog X.w A (λi j=>bD (ks.getD i []) (ks.getD j [])) vs s':=by
 have look:∀k,k<vs.length->∃a its,vs.getD k Value.none=.ref a/\Vals ((ks.getD k []).map kV) its/\IsTup s'.heap a its.toArray/\ks.getD k []∈ks:=λk hk=>by
  have hy:k<ys.length:=by rw[r.length];exact hk
  have Eb:k<ks.length:=by rw[<- bK t];exact hy
  let#[u,hu,ru]:=r.get (dB hy)
  have gen:∀{ys:ai} {ks:List aM} (k:Nat) (hy:k<ys.length) (Eb:k<ks.length),bg X.K H ys ks->∃a,ys[k]=V.ref a/\H a\.tup (ks[k].map kV):=λ{ys ks} k hy Eb t=>by
   induction t generalizing k with
   |nil=>exact absurd hy Z2
   |cons h t ih=>
    cases k with
    |zero=>exact h
    |succ k=>exact ih k ⇑hy ⇑Eb
  let#[a,e,sq]:=gen k hy Eb t;let#[its,ri,ti,_]:=I.tuple (i6.of sq);rw[e] at ru;cases ru;have e2:ks.getD k []=ks[k]:=by simp[Eb]
  apply#[a,its,by simp[hu],by rw[e2];exact ri,ti.keeps kp,?_];rw[e2];exact jy Eb
 let#[rH,HM]:=al
 obtain⟨c,FP,rfl⟩:∃c FP,sh=c::FP:=by
  cases sh with
  |nil=>exact absurd Z rH
  |cons c FP=>exact#[c,FP,Z]
 apply#[tuples' true,λQ q=>?_,λi j C hi hj hC=>?_]
 ·have CI:∀l:aq,(∀v∈l,∃(a:Addr) (its:aq) (k:aM),v=.ref a/\Vals (k.map kV) its/\IsTup s'.heap a its.toArray/\k.map Aq=c::FP)->∃fs,KatTups s'.heap l fs/\fs.length=l.length/\∀v∈fs,Looks (model X.prog X.w) s'.heap (typeOf v) (.type (if c then "str" else "int")):=λl=>by
   induction l with
   |nil=>exact λ_=>#[[],.nil,Z,λ_ h=>nomatch h]
   |cons v l ih=>
    intro h;let#[fs,h1,h2,h3]:=ih λv hv=>h v (dJ _ hv);let#[a,its,k,rfl,rv,#[o,ho,hc,n,hd],hk]:=h v cZ
    match k,its,rv,hk with
    |k0::k,u::its,.cons r0 _,hk=>
     apply#[u::fs,.cons ho hc hd Z2 h1,by simp[h2],λv hv=>?_];rcases bX.mp hv with e|hv
     ·subst e;let e0:=(o5 hk).1;cases k0 with
      |inl i=>
       let#[t,rfl]:=r0;rw[<- e0];exact .now
      |inr x=>
       let#[t,rfl]:=r0;rw[<- e0];exact .now
     exact h3 v hv
  let#[fs,h1,h3,h4]:=CI vs λv hv=>by
   let#[k,hk,rfl]:=si hv;let#[a,its,e,rv,ti,m]:=look k hk;apply#[a,its,_,?_,rv,ti,HM _ m];rw[<- e];simp[hk]
  apply kat_kind h1 Z1 h4 (by cases c<;>decide) ?_
  have e:((Value.type (if c then "str" else "int")) != Value.type "tuple")=true:=by cases c<;>decide
  rw[e];exact q
 unfold kas_ask;let#[a,its,e1,r1,#[o,ho,_,n,hd],m1]:=look i hi;let#[b,jX,e2,r2,#[o2,Ce,_,n2,hd2],m2]:=look j hj;rw[e1,e2];apply kat_lt ho hd Ce hd2 ?_;let l1:=r1.length;let l2:=r2.length;let l3:=dQ List.length ((HM _ m1).trans (HM _ m2).symm);simp only[ao] at l1 l2 l3;rw[show decide (its.toArray.size<jX.toArray.size)=false by simp;omega];exact ZG 0 r1 r2 ((HM _ m1).trans (HM _ m2).symm) hC
end L2
namespace DJ
open PySem PySem.W PyProof.Rows
def Raw(h:Heap)(d:Addr)(es:Array DictEntry)(ep:Nat):Prop:=∃o,h.get? d\o/\o.ExactDict/\o.data=.dict es ep
variable{h h':Heap}{d:Addr}{es:Array DictEntry}{ep:Nat}
theorem Raw.fo(x:Raw h d es ep)(k:∀o,h.get? d\o->h'.get? d\o):Raw h' d es ep:=let #[o,e,r]:=x;#[o,k o e,r]
variable{s:Ab}
theorem Raw.ty(x:Raw s.heap d es ep):s.TypeIs (.ref d) "dict":=let #[o,e,c,_]:=x;#[o,e,c.1]
variable{prog:Ae}{w:Af}{A:Ag}{E:Aa->Ab->Prop}
theorem jo_{Q:Aa->Ab->Prop}(hd:(d == sysModules)=false)(x:Raw s.heap d es ep)(q:Q (.ref s.heap.objs.size) { s with heap:=s.heap.push { cls:=.type "dict_keyiterator",data:=.fields (List.toArray [.ref d,.int 0 0,.int es.size 0,.int ep 0]) } }) :
  wpAny (model prog w) A (pyIter (.ref d)) Q E s:=by
 let#[o,ho,hc,yL]:=id x;apply wpAny_pyIter_slot x.ty F.slot_dict_iter (wpAny_call_entry F.slot_dict_iter x.ty F.entry_dict_iter ?_ (F.args_dict_iter_1 _));unfold Builtin.«dict.__iter__» Builtin.Dict.dictSlotNone;apply aP (aP (wpAny_notOrdered_dict x.ty (show wpAny _ _ (pure (Value.ref d)) _ _ s from bR (show wpAny _ _ (Builtin.Dict.showsAll d >>= _) _ _ s from ?_))));unfold Builtin.Dict.showsAll;rw[au (by rw[hd];decide)];apply aP (bR (aP (wpAny_dictEntries ho yL (aP (wpAny_dictEpoch ho yL (aP (wpAny_newObj_type (bR #[_,Z,"dict_keyiterator",_,#[_,fI _ Z,Z],F.slot_dict_keyiterator_next.lookup,?_]))))))));exact q
variable{Q:Option Aa->Ab->Prop}{it:Addr}{i:Nat}
theorem j2_(hit:s.heap.IsKeyIter it d i es.size ep)(x:Raw s.heap d es ep)(hi:i<es.size)(q:∀h',h'.IsKeyIter it d (i+1) es.size ep->Heap.SameBut it s.heap h'->Q (some es[i].key) { s with heap:=h' }):wpAny (model prog w) A (pyNext (.ref it)) Q E s:=by
 let#[o,ho,hc,hd]:=id hit;let#[od,He,iT,HJ]:=id x;unfold pyNext;apply aP (wpAny_attempt (wpAny_callSpecial?_slot (name:=Str.ofString "__next__") hit.typeIs F.slot_dict_keyiterator_next (wpAny_call_entry F.slot_dict_keyiterator_next hit.typeIs F.entry_dict_keyiterator_next ?_ (F.args_dict_keyiterator_next_1 _))));apply aP (bR (aP (aP ?_)))
 first|refine aP (wpAny_typeNameOfWhole_keyiter hit.typeIs (bR (aP (wpAny_fieldsOf ho hd ?_))))|refine aP (wpAny_typeNameOf_keyiter hit.typeIs (bR (aP (wpAny_fieldsOf ho hd ?_))))
 simp only[show Builtin.Dict_items.ownsTuple "dict_keyiterator"=false by decide,zu,if_false];apply (show wpAny _ _ (if (Value.ref d == Value.none)=true then _ else _) _ _ s from ?_);rw[au (λz=>by cases z)];apply aP (bR (aP (wpAny_dictEntries He HJ ?_)));rw[au Z2];apply aP (bR (aP (wpAny_dictEpoch He HJ ?_)));rw[au Z2];apply bR ?_;simp only[show ¬((i:Int)<0) from by omega,if_false,xB,Array.getElem?_eq_getElem hi];apply aP ?_
 first|refine aP (wpAny_typeNameOfWhole_keyiter hit.typeIs (bR (aP (wpAny_isOneOf_keyiter hit.typeIs ?_))))|refine aP (wpAny_typeNameOf_keyiter hit.typeIs (bR (aP (wpAny_isOneOf_keyiter hit.typeIs ?_))))
 apply (show wpAny _ _ (setField (.ref it) 1 (rawInt ((i:Int)+1)) >>= _) _ _ s from aP (wpAny_setField ho hd Z2 ?_))
 have turned:(s.heap.update it (Obj.mapFields (·.setIfInBounds 1 (rawInt ((i:Int)+1))))).IsKeyIter it d (i+1) es.size ep:=
  #[_,Heap.get?_update_self _ ho (Obj.isFreed_of_fields (Obj.data_mapFields hd _)),(Obj.cls_mapFields ..).trans hc,by rw[Obj.data_mapFields hd];simp[rawInt]]
 apply aP (wpAny_holding (aP (wpAny_isOneOf_keyiter (s:={ s with heap:=s.heap.update it (Obj.mapFields (·.setIfInBounds 1 (rawInt ((i:Int)+1)))) }) turned.typeIs ?_)));exact (show wpAny _ _ (pure es[i].key) _ _ _ from bR (bR #[_,Z,bR (q _ turned (Heap.SameBut.update ..))]))
theorem ju_(hh:A.handled=none)(hit:s.heap.IsKeyIter it d es.size es.size ep)(x:Raw s.heap d es ep)(q:∀h',Heap.ExtBut it s.heap h'->Q none { s with heap:=h' }):wpAny (model prog w) A (pyNext (.ref it)) Q E s:=by
 let#[o,ho,hc,hd]:=id hit;let#[od,He,iT,HJ]:=id x;unfold pyNext;apply aP (wpAny_attempt (wpAny_callSpecial?_slot (name:=Str.ofString "__next__") hit.typeIs F.slot_dict_keyiterator_next (wpAny_call_entry F.slot_dict_keyiterator_next hit.typeIs F.entry_dict_keyiterator_next ?_ (F.args_dict_keyiterator_next_1 _))));apply aP (bR (aP (aP ?_)))
 first|refine aP (wpAny_typeNameOfWhole_keyiter hit.typeIs (bR (aP (wpAny_fieldsOf ho hd ?_))))|refine aP (wpAny_typeNameOf_keyiter hit.typeIs (bR (aP (wpAny_fieldsOf ho hd ?_))))
 simp only[show Builtin.Dict_items.ownsTuple "dict_keyiterator"=false by decide,zu,if_false];apply (show wpAny _ _ (if (Value.ref d == Value.none)=true then _ else _) _ _ s from ?_);rw[au (λz=>by cases z)];apply aP (bR (aP (wpAny_dictEntries He HJ ?_)));rw[au Z2];apply aP (bR (aP (wpAny_dictEpoch He HJ ?_)));rw[au Z2];apply bR ?_;simp only[show ¬((es.size:Int)<0) from by omega,if_false,xB,Array.getElem?_eq_none (bq _)];apply aP ?_
 first|refine aP (wpAny_typeNameOfWhole_keyiter hit.typeIs (bR ?g))|refine aP (wpAny_typeNameOf_keyiter hit.typeIs (bR ?g))
 apply (show wpAny _ _ (setField (.ref it) 0 .none >>= _) _ _ s from aP (wpAny_setField ho hd Z2 (show wpAny _ _ (newExc (.type "StopIteration") [] >>= _) _ _ _ from aP ?_)));simp only[newExc,newTuple];apply aP (wpAny_newObj_type (aP (m:=firstArgMember _ _) (wpAny_of_eq (a:=Value.none) (by first|rfl|(simp only[firstArgMember];rfl)) (wpAny_newObj_type ?_ (by size_fits)))) (by size_fits));simp only[raiseNew];apply aP (wpAny_handled ?_);rw[show A.in1.handled=none from hh];apply aP (bR (wpAny_throw ?_));exact aP (wpAny_isInstance (T:="StopIteration") (b:=true) #[_,fI _ Z,Z] isSubtype_stop (bR (q _ (((Heap.SameBut.update ..).extBut.push _).push _))))
theorem iD_(hh:A.handled=none)(I d:Addr)(rH:d≠I)(es:Array DictEntry)(ep:Nat) :
  Walks prog w A I [I,d] [I] es.size (λi v=>∃h:i<es.size,v=es[i].key) (λi h=>h.IsKeyIter I d i es.size ep/\Raw h d es ep) where
 sub:=λb hb=>by simp only[jw] at hb;simp[hb]
 frame:=λ_ _ _ st k=>#[st.1.at λo e=>k I Z2 o e,st.2.fo λo e=>k d Z2 o e]
 item:=λi s Q E hi st hQ=>j2_ st.1 st.2 hi λh' Cn sH=>hQ _ h' s.toks #[hi,Z] #[Cn,st.2.fo λo e=>sH.extBut d o rH e] λb o hb e=>sH.extBut b o (λh=>hb (by simp[h])) e
 done:=λs Q E st hQ=>ju_ hh st.1 st.2 λh' he'=>hQ h' s.toks λb o hb e=>he' b o (λh=>hb (by simp[h])) e
 self:=λ_ _ _ _ st hQ=>wpAny_pyIter_keyiter st.1 hQ
theorem kR_(lo:(d == sysModules)=false):KdlSrc prog w "dict" d d es.size (λi v=>∃h:i<es.size,v=es[i].key) (λh=>Raw h d es ep) where
 type:=λs x=>x.ty
 there:=λh x=>let #[o,e,_]:=x;#[cK e,cK e]
 keep:=λh h' x k=>x.fo λo e=>k d (.inl Z) o e
 notList:=by decide
 notTuple:=by decide
 hint:=λ_ _ s _ x q=>kdl_hint_dict x.ty q
 iter:=λA s hh x=>#[_,_,λE Q q=>jo_ lo x q,iD_ hh _ d (let #[o,e,_]:=x;eV (cK e)) es ep,#[#[_,fI _ Z,Z,Z],x.fo λo e=>cO _ e]]
theorem dB_:typeLookup (.type "list") "keys"=pure none:=by rw[typeLookup_type,builtinLookup_eq_fast];kernel_rfl
variable{a:Addr}{xs:Array Aa}{k:Nat}{tk:Tok}{R:Result->Ab->Prop}
theorem iE_(hx:s.heap.get? a\seqObj "list" xs k)(h:raisesAttr (.ref a) "keys" A R s) :
  codeAny (model prog w) A (.call (.builtin "list.__getattribute__") #[[.ref a,.str "keys" tk],[]]) R s:=by
 apply codeAny_call_builtin F.slot_list_getattribute.plain am_entry_list_getattribute (F.slot_list_getattribute.check _ _ _ _ _ _ _ _ #[_,hx,Z] (F.args_list_getattribute_2 _ _) ?_);exact meets_getattribute_miss_list a xs k #[] "keys" tk dB_ (by decide) (by size_fits) prog w A R s #[hx,h]
theorem BV(hx:s.heap.get? a\seqObj "list" xs k)(hA:A.handled=none)(h:∀h' tk,(∀b o,s.heap.get? b\o->h'.get? b\o)->Q none { s with heap:=h',toks:=tk }):wpAny (model prog w) A (getAttr? (.ref a) "keys") Q E s:=by
 let#[hp,g,d,tk,os]:=s;have ty:∀wL,(#[hp,g,d,wL,os]:Ab).TypeIs (.ref a) "list":=λ_=>#[_,hx,Z];let f1:=sub_AttributeError;let f2:=F.slot_list_getattribute.lookup;let f3:=F.slot_list_getattribute.bind (.ref a);let f4:=am_list_getattr_none;unfold getAttr? getAttrBy? getAttrBy
 repeat (any_goals (first|assumption|exact ty _|wp_step))
 apply iE_ hx #[hA,λh' wL e DZ=>?_];let#[t',u',he]:=DZ.there;show wpAny _ _ (getattributeRaised _ _ _ _ _ _ _) _ _ _;unfold getattributeRaised
 repeat (any_goals (first|assumption|wp_step))
 exact h _ _ DZ.keeps
theorem YC:entryFor table "dict.update.loop"\Builtin.«dict.update.loop»:=entryFor_of_tree (by kernel_rfl)
theorem Mu:plainId "dict.update.loop"=true:=by decide +kernel
theorem VJ(d it:Addr)(i:Int)(tk:Tok):Builtin.«dict.update.loop» #[[.ref d,.ref it,.int i tk,.none],[]]=(do
  let r <- pyNext (.ref it)
  match r with
  |none=>do Builtin.Dict.addKeywords d [];ret .none
  |some item=>do
   holding [item] (do
    let pair <- (Builtin.Dict.pairItems item).tryCatch λe=>do
     if !(<- isInstance e (.type "TypeError")) then throw e
     rule "dict.update.element-no-sequence"
     raiseError "TypeError" s!"cannot convert dictionary update sequence element #{i} to a sequence"
    match pair with
    |[k,v]=>holding [k,v] (dictSet d k v)
    |l=>do
     rule "dict.update.element-length"
     raiseError "ValueError" s!"dictionary update sequence element #{i} has length {l.length}; 2 is required")
   again (.builtin "dict.update.loop" #[[.ref d,.ref it,rawInt (i+1),.none],[]])):=by
 unfold Builtin.«dict.update.loop»;apply dQ (λf=>pyNext (.ref it) >>= f) (funext λr=>?_);cases r<;>rfl
variable{b l:Addr}{ys:Array Aa}
variable{its:aq}
section
variable{prog:Ae}{w:Af}{K:Type}[DecidableEq K]{knd:PySem.KeyKind prog w K}{A:Ag}
def QJ(knd:PySem.KeyKind prog w K)(h:Heap):aq->List (K × Aa)->Prop:=Paired λv p=>∃a key,v=.ref a/\IsTup h a (List.toArray [key,p.2])/\knd.is p.1 key=true
def iN(kvs:List (K × Aa))(ps:List (K × Aa)):List (K × Aa):=ps.foldl (λacc p=>stored acc p.1 p.2) kvs
theorem gu_(kvs:List (K × Aa))(k:K)(v:Aa):(stored kvs k v).length<=kvs.length+1:=by
 unfold stored;split
 ·simp
 simp
theorem ZE(t:IsTup h b ys)(q:h.IsListIter it l i):b≠it:=λz=>by
 let#[o,ho,hc,_]:=t;let#[o2,Ce,Ee,_]:=q;subst z;rw[ho] at Ce;cases Ce;rw[hc] at Ee;exact absurd Ee (by decide)
theorem fq_{kvs:List (K × Aa)}(t:IsTup h b ys)(q:h.DictOf knd d kvs):b≠d:=λz=>by
 let#[o,ho,hc,_]:=t;let#[o2,es,ep,Ce,Ee,_]:=q;subst z;rw[ho] at Ce;cases Ce;let WW:=Ee.1;rw[hc] at WW;exact absurd WW (by decide)
theorem YL{kvs:List (K × Aa)}(q:h.DictOf knd d kvs)(k:∀o,h.get? d\o->h'.get? d\o):h'.DictOf knd d kvs:=by
 let#[o,es,ep,ho,r]:=q;exact#[o,es,ep,k _ ho,r]
theorem j1_{key x:Aa}{k:K}{kvs:List (K × Aa)}(Cr:d≠it)(hi:its.toArray[i]? = some (.ref a))(ht:IsTup s.heap a (List.toArray [key,x]))(hk:knd.is k key=true)(hit:s.heap.IsListIter it l i)(hl:s.heap.IsList l its.toArray)(hd:s.heap.DictOf knd d kvs)(hz:kvs.length<=1000)(hR:∀h2,h2.DictOf knd d (stored kvs k x)->(∀b o,b≠d->b≠it->s.heap.get? b\o->h2.get? b\o)->h2.IsListIter it l (i+1)->codeAny (model prog w) A (.builtin "dict.update.loop" #[[.ref d,.ref it,rawInt ((i:Int)+1),.none],[]]) R { s with heap:=h2,toks:=s.toks+1 }) :
  codeAny (model prog w) A (.builtin "dict.update.loop" #[[.ref d,.ref it,.int i tk,.none],[]]) R s:=by
 apply codeAny_builtin YC ?_;rw[Around.under_plainId Mu _,VJ];apply aP (wpAny_pyNext_list_item hit hl hi λh1 PQ Po=>?_);let#[ot,hot,HK,nt,hdt]:=id ht;have G_:h1.get? a\ot:=Po.extBut _ _ (ZE ht hit) hot;apply aP (wpAny_holding (aP (wpAny_tryCatch ?_)));unfold Builtin.Dict.pairItems;apply aP (wpAny_typeOf (T:="tuple") #[ot,G_,HK] ?_);rw[aB (by decide)];unfold seqItems?;apply aP (aP (wpAny_load G_ ?_));rw[hdt];apply bR (bR ?_);apply (show wpAny _ _ (holding [key,x] (dictSet d key x)) _ _ _ from wpAny_holding (wpAny_dictSet_pairs hk (YL hd λo q=>Po.extBut _ _ Cr q) (λh2 hd2 B9=>?_) (by have:=cc;omega)));exact bR #[plainId_quiet Mu _,hR h2 hd2 (λb o h3 h4 q=>B9.extBut _ _ h3 (Po.extBut _ _ h4 q)) (PQ.extBut B9.extBut (Ne.symm Cr))]
theorem lj_{kvs:List (K × Aa)}(Cr:d≠it)(hh:A.handled=none)(hi:its.toArray[i]? = none)(hit:s.heap.IsListIter it l i)(hl:s.heap.IsList l its.toArray)(hd:s.heap.DictOf knd d kvs)(hR:∀h',h'.DictOf knd d kvs->(∀b o,b≠it->s.heap.get? b\o->h'.get? b\o)->R (.ok (.ret .none)) { s with heap:=h' }) :
  codeAny (model prog w) A (.builtin "dict.update.loop" #[[.ref d,.ref it,.int i tk,.none],[]]) R s:=by
 apply codeAny_builtin YC ?_;rw[Around.under_plainId Mu _,VJ];apply aP (wpAny_pyNext_list_end hh hit hl hi λh' he=>?_);exact aP (m:=Builtin.Dict.addKeywords d []) (bR (bR (hR h' (YL hd λo q=>he _ _ Cr q) λb o hb q=>he b o hb q)))
theorem lU_(hil:l≠it)(Cr:d≠it)(LA:d≠l)(hh:A.handled=none)(rest:aq):∀(ps:List (K × Aa)) (i:Nat) (kvs:List (K × Aa)) (s:Ab) (R:Result->Ab->Prop) (tk:Tok),its.drop i=rest->QJ knd s.heap rest ps->
  s.heap.IsListIter it l i->s.heap.IsList l its.toArray->s.heap.DictOf knd d kvs->kvs.length+ps.length<=1000->
  (∀h' wL,h'.DictOf knd d (iN kvs ps)->(∀b o,b≠d->b≠it->s.heap.get? b\o->h'.get? b\o)->R (.ok (.ret .none)) { s with heap:=h',toks:=wL })->
  codeAny (model prog w) A (.builtin "dict.update.loop" #[[.ref d,.ref it,.int i tk,.none],[]]) R s:=by
 induction rest with
 |nil=>
  intro ps i kvs s R tk e hp hit hl hd hz hR;cases hp
  have hi:its.toArray[i]? = none:=by
   have:=dQ List.length e;simp only[List.length_drop,we] at this;simp;omega
  exact lj_ Cr hh hi hit hl hd λh' iS kp=>hR h' s.toks iS λb o _ hb q=>kp b o hb q
 |cons v rest ih=>
  intro ps i kvs s R tk e hp hit hl hd hz hR;cases hp with
  |@cons _ p _ ps h0 hr=>
  let#[a,key,hv,ht,hk]:=h0;let#[k,x]:=p;subst hv
  have hi:its.toArray[i]? = some (.ref a):=by
   have q:(its.drop i)[0]? = some (.ref a):=by rw[e];rfl
   rw[List.getElem?_drop] at q;simpa using q
  have e':its.drop (i+1)=rest:=by
   rw[<- List.drop_drop,e];rfl
  simp only[iG] at hz;apply j1_ Cr hi ht hk hit hl hd Z1 λh2 hd2 kp yK=>?_;have c1:((i:Int)+1)=((i+1:Nat):Int):=by omega
  rw[c1];apply ih ps (i+1) (stored kvs k x) _ R 0 e' (L2.Paired.bu hr λv p ⟨b,ky,e1,t1,k1⟩=>#[b,ky,e1,?_,k1]) yK (hl.at λo q=>kp _ _ (Ne.symm LA) hil q) hd2 (by have:=gu_ kvs k x;omega) λh' wL iS kp'=>hR h' wL iS λb o h3 h4 q=>kp' b o h3 h4 (kp b o h3 h4 q);let#[o,ho,r]:=id t1;exact#[o,kp _ _ (fq_ t1 hd) (ZE t1 hit) ho,r]
theorem eJ_{n:Nat}{ps:List (K × Aa)}{Q:Aa->Ab->Prop}(hh:A.handled=none)(ho:s.heap.get? l\seqObj "list" its.toArray n)(hp:QJ knd s.heap its ps)(hz:ps.length<=1000)(h:∀h' wL,h'.DictOf knd s.heap.objs.size (iN [] ps)->(∀b o,s.heap.get? b\o->h'.get? b\o)->Q (.ref s.heap.objs.size) { s with heap:=h',toks:=wL }) :
  wpAny (model prog w) A (call (.type "dict") [.ref l]) Q E s:=by
 apply callType_codes (Q₁:=λobj bf=>obj=.ref s.heap.objs.size/\bf={ s with heap:=s.heap.push { cls:=.type "dict",data:=.dict #[] } }) F.kt_called_dict (F.kt_typeCall_dict_1 _) F.entry_dict_init (kt_code_dict_new _ #[Z,Z]) ?_;rintro obj bf ⟨rfl,rfl⟩;have oN:(s.heap.push { cls:=.type "dict",data:=.dict #[] }).DictOf knd s.heap.objs.size []:=Heap.DictOf.new s.heap;have jZ:(s.heap.push { cls:=.type "dict",data:=.dict #[] }).get? l\seqObj "list" its.toArray n:=cO _ ho;apply#[oN.typeIs,F.args_dict_init_2 _ _,?_];unfold Builtin.«dict.__init__» Builtin.Dict.selfAndRest;apply aP (aP (wpAny_notOrdered_dict oN.typeIs ?_));apply (show wpAny _ _ (pure (s.heap.objs.size,[Value.ref l])) _ _ _ from bR ?_);apply (show wpAny _ _ (Builtin.Dict.updateFrom "dict.__init__" s.heap.objs.size (.ref l) [] .none) _ _ _ from ?_);unfold Builtin.Dict.updateFrom;apply aP (wpAny_typeOf (T:="list") #[_,jZ,Z] ?_);rw[aB (by decide)];apply aP (BV jZ hh λh2 wK k2=>?_);simp only[Option.isNone_none,if_true];have oO:h2.get? l\seqObj "list" its.toArray n:=k2 _ _ jZ;apply aP (wpAny_rule (aP (wpAny_pyIter_list #[_,oO,Z,_,Z] ?_)));apply bR #[plainId_quiet Mu _,?_];have all:∀{b o},s.heap.get? b\o->(h2.push { cls:=.type "list_iterator",data:=.fields (List.toArray [.ref l,.int 0 0]) }).get? b\o:=λq=>cO _ (k2 _ _ (cO _ q))
 have hd2:h2.DictOf knd s.heap.objs.size []:=by
  let#[o,es,ep,ho,r]:=oN;exact#[o,es,ep,k2 _ _ ho,r]
 have NI:s.heap.objs.size<h2.objs.size:=by
  let#[o,es,ep,ho,r]:=hd2;exact cK ho
 have lz:l<s.heap.objs.size:=cK ho
 apply lU_ (A:=A.in1) (knd:=knd) (its:=its) (it:=h2.objs.size) (l:=l) (d:=s.heap.objs.size) (eV (Nat.lt_trans lz NI)) (eV NI) (xt lz) hh its ps 0 [] _ _ 0 Z (L2.Paired.bu hp λv p ⟨b,ky,e1,t1,k1⟩=>#[b,ky,e1,t1.keeps λb o q=>all q,k1])
  #[_,fI _ Z,Z,Z] #[_,cO _ oO,Z,_,Z] (by
   let#[o,es,ep,ho,r]:=hd2;exact#[o,es,ep,cO _ ho,r]) ⇑hz λh' wL iS kp=>#[Z,h h' wL iS λb o q=>?_]
 have bl:b<s.heap.objs.size:=cK q;exact kp b o (eV bl) (eV (Nat.lt_trans bl NI)) (all q)
end
end DJ
theorem zl{n:Nat}(h:decide (n<=16777216)=true:=by rfl):n<=PySem.sizeLine:=by
 rw[PySem.sizeLine_eq];exact l_ h
namespace L2
open PySem PySem.Spec PyProof.Rows PySem.W KR DJ
variable{ys:ai}
theorem bg.same{K:af}{H H':Hp}{ks:List aM}(t:bg K H ys ks)(e:aa H H'):bg K H' ys ks:=Paired.bu t λy k ⟨a,z,q⟩=>#[a,z,e _ _ q]
theorem aa.new{H:Hp}{l:Addr}{o:HO}(h:H l=none):aa H (upd H l o):=λb u e=>by rw[ax (bj e h)];exact e
section
variable{X:Cx}{pins:List (Addr × Obj)}{σ:St}{H H':Hp}{s:Ab}{h':Heap}{t':Nat}
theorem Inv.many(I:Inv X pins σ H s)(k:∀b o,s.heap.get? b\o->h'.get? b\o)(hold:aa H H')(oN:∀b,H b=none->b<s.heap.objs.size->H' b=none)
  (hob:∀b o,H' b\o->H b=none->∃xs its,o=.tup xs/\xs.length<=sizeLine/\Vals xs its/\IsTup h' b its.toArray/\∃o,h'.get? b\o/\o.dict=none):Inv X pins σ H' { s with heap:=h',toks:=t' }:=by
 apply I.un #[λb o q _ _ _=>k b o q,λb o q _ _ _=>#[o.slots,k b o q],λb o q n _=>oN b n (cK q),λb o q _=>#[o,k b o q],λb xs q=>hold b _ q,λb o u q=>hold b _ q,λb ps q=>#[#[],by rw[Array.append_empty];exact hold b _ q]] λb o q=>?_;cases e:H b with
 |some u=>
  let e2:=hold b u e;rw[q] at e2;cases e2;exact (I.aN b o e).fo (λc v _ z=>k c v z) (λc z=>hold c _ z) λc xs z=>hold c _ z
 |none=>
  let#[xs,its,rfl,z,r,t]:=hob b o q e;exact#[z,its,r,t]
end
variable{R:aq->Ab->Prop}
section
variable{X:Cx}{pins:List (Addr × Obj)}{σ:St}{H:Hp}{s:Ab}{A:Ag}{E:Aa->Ab->Prop}
theorem Rz{p:Addr}(I:Inv X pins σ H s)(h:eG X.K H p ys)(hz:ys.length<=100000)(q:∀vs s1,Inv X pins σ H s1->Vals ys vs->R vs s1):wpAny (model X.prog X.w) A (collect (.ref p)) R E s:=by
 let#[its,r,pl,_]:=I.list h;let hl:=r.length;apply collect_list pl.isList (q its _ ?_ r) (by have:=cc;omega);apply I.kept (t':=s.toks) λb u e=>?_;have lt:b<s.heap.objs.size:=cK e;rw[Heap.get?_update_ne _ _ _ _ (eV lt)];exact cO _ e
theorem MZ{P:Nat->Aa->Prop}{acc:Array Aa}(h:ItemsOf P acc ys.length)(hp:∀(j:Nat) v,P j v->∀y,ys[j]? = some y->RelV y v):Vals ys acc.toList:=by
 have gen:∀(ys:ai) (vs:aq),ys.length=vs.length->(∀(j:Nat) y v,ys[j]? = some y->vs[j]? = some v->RelV y v)->Vals ys vs:=λys=>by
  induction ys with
  |nil=>
   intro vs hl _;cases vs with
   |nil=>exact .nil
   |cons _ _=>cases hl
  |cons y ys ih=>
   intro vs hl h;cases vs with
   |nil=>cases hl
   |cons v vs=>exact .cons (h 0 y v Z Z) (ih vs ⇑hl λj y v a b=>h (j+1) y v ⇑a ⇑b)
 apply gen ys acc.toList (by rw[sY];exact h.1.symm) λj y v a b=>hp j v (h.2 j v ?_) y a;rw[<- Array.getElem?_toList];exact b
theorem Vu{d:Addr}{kvs:List (Key × V)}(I:Inv X pins σ H s)(h:Rd H d (.dK kvs)):∃(P:Nat->Aa->Prop) (OK:Heap->Prop),KdlSrc X.prog X.w "dict" d d (kvs.map λkv=>kV kv.1).length P OK/\OK s.heap/\∀(j:Nat) v,P j v->∀y,(kvs.map λkv=>kV kv.1)[j]? = some y->RelV y v:=by
 let#[z,hd,vs,rel,dd]:=rT I.aN h;let#[ep,dat]:=dd.dictAt;let hl:=rel.length;apply#[λi v=>∃k x,vs[i]? = some (k,x)/\(fB X.prog X.w).is k v=true,λh=>h.DictAt (fB X.prog X.w) d vs ep,(by rw[ao,hl];exact kdl_dict (knd:=fB X.prog X.w) (kvs:=vs) (ep:=ep) hd),dat,λj v ⟨k,x,e,hk⟩ y hy=>?_];rw[dR] at hy;have ek:kvs.map (·.1)=vs.map (·.1):=rel.keys;have e2:(kvs.map (·.1))[j]? = (vs.map (·.1))[j]?:=by rw[ek]
 rw[dR,dR,e] at e2;cases e3:kvs[j]? with
 |none=>rw[e3] at e2;cases e2
 |some kv=>
  rw[e3] at e2 hy;have e4:kv.1=k:=eK e2;have e5:kV kv.1=y:=eK hy;rw[<- e5,e4];have hk:yT k v=true:=hk;rcases sX hk with⟨i,t,rfl,rfl⟩|⟨x,t,rfl,rfl⟩
  ·exact#[t,Z]
  exact#[t,Z]
theorem Vx{d:Addr}{kvs:List (Key × V)}(hh:A.handled=none)(I:Inv X pins σ H s)(h:Rd H d (.dK kvs))(q:∀vs s1,Inv X pins σ H s1->Vals (kvs.map λkv=>kV kv.1) vs->R vs s1):wpAny (model X.prog X.w) A (collect (.ref d)) R E s:=by
 let#[P,OK,S,ok,hp]:=Vu I h;apply kdu_collect S hh ok ?_ λh' tk acc k a=>q _ _ (I.kept k) (MZ a hp);rw[ao];exact (rT I.aN h).1
theorem m4_{d:Addr}{kvs:List (aM × V)}(I:Inv X pins σ H s)(h:Rd H d (.dT kvs)):∃(ys:ai) (P:Nat->Aa->Prop) (OK:Heap->Prop),bg X.K H ys (kvs.map (·.1))/\ys.length<=sizeLine/\KdlSrc X.prog X.w "dict" d d ys.length P OK/\OK s.heap/\∀(j:Nat) v,P j v->∀y,ys[j]? = some y->RelV y v:=by
 let#[z,hd,xs,rel,o,es,ep,ho,hc,yL,Cq,nd]:=h.ok I.aN
 have l1:es.size=xs.length:=by
  have:=dQ List.length Cq;simpa using this
 let l2:=bK rel;apply#[xs.map λx=>V.ref x.2.1,λi v=>∃h:i<es.size,v=es[i].key,λh=>Raw h d es ep,?_,by rw[ao];omega,(by rw[ao,<- l1];exact kR_ (es:=es) (ep:=ep) hd),#[o,ho,hc,yL],λj v ⟨hj,e⟩ y hy=>?_]
 ·have gen:∀{kvs:List (aM × V)} {xs:List (aM × Addr × Aa)},KT H kvs xs->bg X.K H (xs.map λx=>V.ref x.2.1) (kvs.map (·.1)):=λ{kvs xs} r=>by
   induction r with
   |nil=>exact .nil
   |cons h _ ih=>exact .cons #[_,Z,h.2.1] ih
  exact gen rel
 rw[dR] at hy;have hx:j<xs.length:=by omega
 rw[dB hx] at hy;have e1:V.ref xs[j].2.1=y:=eK hy
 have e2:es[j]=entryOfKey (tupleKind (fB X.prog X.w)) xs[j]:=by
  have e3:es.toList[j]? = (xs.map (entryOfKey (tupleKind (fB X.prog X.w))))[j]?:=by rw[Cq]
  rw[dR,dB hx,Array.getElem?_toList,Array.getElem?_eq_getElem hj] at e3;exact eK e3
 rw[<- e1,e,e2];rfl
theorem ml_{d:Addr}{kvs:List (aM × V)}(hh:A.handled=none)(I:Inv X pins σ H s)(h:Rd H d (.dT kvs))(q:∀ys vs s1,Inv X pins σ H s1->Vals ys vs->bg X.K H ys (kvs.map (·.1))->R vs s1):wpAny (model X.prog X.w) A (collect (.ref d)) R E s:=by
 let#[ys,P,OK,t,z,S,ok,hp]:=m4_ I h;exact kdu_collect S hh ok z λh' tk acc k a=>q ys _ _ (I.kept k) (MZ a hp) t
def rY(v d:Addr):HO:=.ext λh=>h.IsItemsView v d
def qG(v d:Addr):HO:=.ext λh=>h.IsValuesView v d
def jH(K:af)(H:Hp):ai->List (Key × V)->Prop:=Paired λy p=>∃a,y=V.ref a/\H a\.tup [kV p.1,p.2]
theorem hT_{v d:Addr}{kvs:List (Key × V)}(hh:A.handled=none)(I:Inv X pins σ H s)(hv:H v\rY v d)(h:Rd H d (.dK kvs))(q:∀H1 ys vs s1,Inv X pins σ H1 s1->aa H H1->Vals ys vs->jH X.K H1 ys kvs->R vs s1) :
  wpAny (model X.prog X.w) A (collect (.ref v)) R E s:=by
 let#[z,hd,vs,rel,dd]:=rT I.aN h;let#[ep,dat]:=dd.dictAt;let#[iv,_,_]:=I.aN v _ hv;let hl:=rel.length;apply kdx_collect (knd:=fB X.prog X.w) (kvs:=vs) (ep:=ep) hh iv dat Z1 λh' tk as k la G=>?_;have up:∀b,b∈as->s.heap.objs.size<b:=G.above
 have M6:∀(j:Nat) b p,as[j]? = some b->kvs[j]? = some p->∃its,Vals [kV p.1,p.2] its/\IsTup h' b its.toArray/\∃o,h'.get? b\o/\o.dict=none:=λj b p hj hp=>by
  let#[key,kk,x,e1,e2,e3]:=G.pairs j b hj
  have gen:∀{kvs:List (Key × V)} {vs:List (Key × Aa)},KV kvs vs->∀(j:Nat),vs[j]? = some (kk,x)->kvs[j]? = some p->p.1=kk/\RelV p.2 x:=λ{kvs vs} r=>by
   induction r with
   |nil=>intro j e;simp at e
   |@cons p' q _ _ h _ ih=>
    intro j e e';cases j with
    |zero=>
     have e:q=(kk,x):=⇑e
     have e':p'=p:=⇑e'
     subst e';rw[e] at h;exact h
    |succ j=>exact ih j ⇑e ⇑e'
  let#[g1,g2]:=gen rel j e1 hp;apply#[[key,x],.cons ?_ (.cons g2 .nil),#[_,e3,Z,_,Z],_,e3,Z];rw[g1];have e2:yT kk key=true:=e2;rcases sX e2 with⟨i,t,rfl,rfl⟩|⟨x,t,rfl,rfl⟩
  ·exact#[t,Z]
  exact#[t,Z]
 have look:∀{as:az} {kvs:List (Key × V)},as.Pairwise (· < ·)->∀(j:Nat) b p,as[j]? = some b->kvs[j]? = some p->(as.zip kvs).lookup b\p:=λ{as}=>by
  induction as with
  |nil=>intro kvs _ j b p e;simp at e
  |cons a as ih=>
   intro kvs pw j b p e e';cases kvs with
   |nil=>simp at e'
   |cons q kvs=>
    let#[p1,p2]:=wc.mp pw;show ((a,q)::as.zip kvs).lookup b\p;cases j with
    |zero=>
     have e:a=b:=⇑e
     have e':q=p:=⇑e'
     subst e;subst e';rw[List.lookup_cons_self]
    |succ j=>
     have e:as[j]? = some b:=⇑e
     have e':kvs[j]? = some p:=⇑e'
     let lt:=p1 b (cj e);rw[v_,show (b == a)=false by simp only[beq_eq_false_iff_ne];exact xt lt];exact ih p2 j b p e e'
 have lk:as.length=kvs.length:=by omega
 let H1:Hp:=λb=>if b∈as then ((as.zip kvs).lookup b).map λp=>HO.tup [kV p.1,p.2] else H b
 have HR:∀(j:Nat) b p,as[j]? = some b->kvs[j]? = some p->H1 b\.tup [kV p.1,p.2]:=λj b p e e'=>by
  show (if b∈as then _ else _)=_;rw[aB (cj e),look G.rise j b p e e'];rfl
 have qx:∀b,b∉as->H1 b=H b:=λb hb=>au hb;have old:∀b,b<s.heap.objs.size->b∉as:=λb hb m=>absurd (up b m) Z1;apply q H1 (as.map V.ref) _ _ (I.many (t':=tk) k (λb o e=>by rw[qx b (old b (I.aN.lt e))];exact e) (λb e hb=>by rw[qx b (old b hb)];exact e) λb o e e0=>?_) (λb o e=>by rw[qx b (old b (I.aN.lt e))];exact e) ?_ ?_
 ·by_cases m:b∈as
  ·let#[j,hj]:=List.mem_iff_getElem?.mp m
   have jl:j<kvs.length:=by
    have:=(cq.mp hj).1;omega
   let e':=HR j b kvs[j] hj (dB jl);rw[e] at e';cases e';let#[its,r,t]:=M6 j b _ hj (dB jl);exact#[_,its,Z,zl,r,t]
  rw[qx b m,e0] at e;cases e
 ·have gen:∀as:az,Vals (as.map V.ref) (as.map Value.ref):=λas=>by
   induction as with
   |nil=>exact .nil
   |cons a as ih=>exact .cons Z ih
  exact gen as
 have gen:∀(iy:az) (gg:List (Key × V)),iy.length=gg.length->(∀(j:Nat) b p,iy[j]? = some b->gg[j]? = some p->H1 b\.tup [kV p.1,p.2])->jH X.K H1 (iy.map V.ref) gg:=λiy=>by
  induction iy with
  |nil=>
   intro gg hl _;cases gg with
   |nil=>exact .nil
   |cons _ _=>cases hl
  |cons a iy ih=>
   intro gg hl h;cases gg with
   |nil=>cases hl
   |cons p gg=>exact .cons #[a,Z,h 0 a p Z Z] (ih gg ⇑hl λj b p e e'=>h (j+1) b p ⇑e ⇑e')
 exact gen as kvs lk HR
end
theorem Yh{a b:ae}(h:a.map da=b.map da):a=b:=by
 induction a generalizing b with
 |nil=>
  cases b with
  |nil=>rfl
  |cons _ _=>cases h
 |cons x a ih=>
  cases b with
  |nil=>cases h
  |cons y b=>
   let#[h1,h2]:=o5 h;have h1:[(Sum.inr x:Key)]=[Sum.inr y]:=h1;cases h1;rw[ih h2]
theorem SV(ss:ae):(aV ss).map da=aU (ss.map da):=by
 have all:∀k∈aU (ss.map da),∃x,k=da x:=λk hk=>by
  let#[x,_,e]:=bh.mp ((mV _).mem_iff.mp hk);exact#[x,e.symm]
 have gen:∀l:List aM,(∀k∈l,∃x,k=da x)->(l.map λk=>match k with | [.inr x]=>x|_=>(⟨#[]⟩:Str)).map da=l:=λl=>by
  induction l with
  |nil=>exact λ_=>rfl
  |cons k l ih=>
   intro h;let#[x,rfl]:=h k cZ;rw[eJ,eJ,ih λk hk=>h k (dJ _ hk)];rfl
 exact gen _ all
theorem gM(ss:ae):(aV ss).Perm ss:=by
 have p:((aV ss).map da).Perm (ss.map da):=by rw[SV];exact mV _
 have back:∀l:ae,(l.map da).map (λk=>match k with | [.inr x]=>x|_=>(⟨#[]⟩:Str))=l:=λl=>by
  rw[cm]
  induction l with
  |nil=>rfl
  |cons x l ih=>rw[eJ,ih];rfl
 let q:=p.map (λk=>match k with | [.inr x]=>x|_=>(⟨#[]⟩:Str));rwa [back,back] at q
variable{u:Aa}
section
variable{X:Cx}{pins:List (Addr × Obj)}{σ:St}{H:Hp}{s:Ab}
theorem ZO{ss:ae}{Q:VK}(cz:ss.length<64)(oS:wpAny (model X.prog X.w) X.A.in1 (collect u) (λvs s1=>∃H1,Inv X pins σ H1 s1/\Vals (ss.map V.str) vs/\∀l,H1 l=none->Q (.ref l) (upd H1 l (.lst ((aV ss).map V.str)))) X.xe s) :
  wpAny (model X.prog X.w) X.A (call (.builtin "sorted") [u]) (EP X pins σ Q) X.xe s:=by
 apply Zm (Q3 (ss.map da)) (bb oS λvs s1 ⟨H1,I1,r,q⟩=>?_);have hl:vs.length=ss.length:=by rw[<- r.length,ao]
 apply#[by omega,λh2 h' _=>iA_ (V8 r) h2,λp h' e g up hD kp=>?_];have g':Good (ss.map da).length p:=by rw[ao,<- hl];exact g
 let asc:=QH (ks:=ss.map da) (λi j _ _=>rfl) g' (by rw[ao,<- hl];exact up)
 have perm:(p.toList.map λi=>(ss.map da).getD i []).Perm (ss.map da):=by
  have:=Jr g' λi=>(ss.map da).getD i [];rwa [Jw] at this
 let es:=Mw perm asc
 have inr:∀i∈p.toList,i<ss.length:=λi hi=>by
  have m:i∈(List.range vs.length).toArray:=g.mem_iff.mp ⇑hi;rw[hl] at m;simpa using m
 have e1:(p.toList.map λi=>ss.getD i ⟨#[]⟩)=aV ss:=by
  apply Yh ?_;rw[SV,<- es,cm];apply qH λi hi=>?_;have:=inr i hi;simp[this]
 let rv:=RI r g
 have e2:(p.toList.map λi=>(ss.map V.str).getD i .non)=(aV ss).map V.str:=by
  rw[<- e1,cm];apply qH λi hi=>?_;have:=inr i hi;simp[this]
 rw[e2] at rv;apply#[.ref s1.heap.objs.size,_,I1.laid (t':=s1.toks) kp (bq _) (show gh X.prog X.w _ h' _ (.lst ((aV ss).map V.str)) from #[?_,oV p vs,e,rv,hD]),Z,q _ (I1.aN.fresh (bq _))];rw[ao,(gM ss).length_eq];have:=cc;omega
theorem jg_{K:af}{H:Hp}{ks:List aM}(t:bg K H ys ks):∀l:List Nat,(∀i∈l,i<ys.length)->bg K H (l.map λi=>ys.getD i .non) (l.map λi=>ks.getD i []):=λl=>by
 induction l with
 |nil=>exact λ_=>.nil
 |cons i l ih=>
  intro h;apply .cons ?_ (ih λj hj=>h j (dJ _ hj));let hi:=h i cZ
  have gen:∀{ys:ai} {ks:List aM} (i:Nat),i<ys.length->bg K H ys ks->∃a,ys.getD i .non=V.ref a/\H a\.tup ((ks.getD i []).map kV):=λ{ys ks} i hy t=>by
   induction t generalizing i with
   |nil=>exact absurd hy Z2
   |cons h t ih=>
    cases i with
    |zero=>exact h
    |succ i=>exact ih i ⇑hy
  exact gen i hi t
theorem Tt{ks:List aM}{sh:List Bool}{Q:VK}(cz:ks.length<64)(al:AE ks sh)(oS:wpAny (model X.prog X.w) X.A.in1 (collect u) (λvs s1=>∃H1 ys,Inv X pins σ H1 s1/\Vals ys vs/\bg X.K H1 ys ks/\∀l zs,H1 l=none->bg X.K H1 zs (aU ks)->zs.Perm ys->Q (.ref l) (upd H1 l (.lst zs))) X.xe s) :
  wpAny (model X.prog X.w) X.A (call (.builtin "sorted") [u]) (EP X pins σ Q) X.xe s:=by
 apply Zm (Q3 ks) (bb oS λvs s1 ⟨H1,ys,I1,r,t,q⟩=>?_);let l1:=r.length;let l2:=bK t;have hl:vs.length=ks.length:=by omega
 apply#[by omega,λh2 h' k=>Yk I1 r t al h2 k,λp h' e g up hD kp=>?_];have g':Good ks.length p:=by rw[<- hl];exact g
 let asc:=QH (ks:=ks) (λi j _ _=>rfl) g' (by rw[<- hl];exact up)
 have perm:(p.toList.map λi=>ks.getD i []).Perm ks:=by
  have:=Jr g' λi=>ks.getD i [];rwa [Jw] at this
 let es:=Mw perm asc
 have inr:∀i∈p.toList,i<ys.length:=λi hi=>by
  have m:i∈(List.range vs.length).toArray:=g.mem_iff.mp ⇑hi;rw[<- l1] at m;simpa using m
 let tz:=jg_ t p.toList inr;rw[es] at tz;let rv:=RI r g
 have pz:(p.toList.map λi=>ys.getD i .non).Perm ys:=by
  have:=Jr (n:=ys.length) (by rw[l1];exact g) λi=>ys.getD i .non;rwa [Jw] at this
 apply#[.ref s1.heap.objs.size,_,I1.laid (t':=s1.toks) kp (bq _) (show gh X.prog X.w _ h' _ (.lst (p.toList.map λi=>ys.getD i .non)) from #[?_,oV p vs,e,rv,hD]),Z,q _ _ (I1.aN.fresh (bq _)) tz pz];rw[pz.length_eq];have:=cc;omega
end
inductive uS (K:af) (xs:ai) (H:Hp) (Q:VK):Prop
 |mk:∀p ss,xs=[.ref p]->eG K H p (ss.map V.str)->ss.length<64->(∀l,H l=none->Q (.ref l) (upd H l (.lst ((aV ss).map V.str))))->uS K xs H Q
variable{X:Cx}
theorem SY:gD X (.builtin "sorted") (uS X.K):=by
 intro pins s σ H xs us Q I r h;let#[p,ss,rfl,hp,cz,q]:=h;let#[u,rfl,ru]:=vals1 r;cases ru;exact ZO cz (Rz I hp (by rw[ao];omega) λvs s1 I1 r1=>⟨H,I1,r1,q⟩)
inductive uR (K:af) (xs:ai) (H:Hp) (Q:VK):Prop
 |mk:∀p ys ks sh,xs=[.ref p]->eG K H p ys->bg K H ys ks->AE ks sh->ks.length<64->(∀l zs,H l=none->bg K H zs (aU ks)->zs.Perm ys->Q (.ref l) (upd H l (.lst zs)))->uR K xs H Q
theorem gG_:gD X (.builtin "sorted") (uR X.K):=by
 intro pins s σ H xs us Q I r h;let#[p,ys,ks,sh,rfl,hp,t,al,cz,q]:=h;let#[u,rfl,ru]:=vals1 r;cases ru;let l:=bK t;exact Tt cz al (Rz I hp Z1 λvs s1 I1 r1=>⟨H,ys,I1,r1,t,q⟩)
inductive qa (K:af) (xs:ai) (H:Hp) (Q:VK):Prop
 |mk:∀d kvs sh,xs=[.ref d]->H d\.dT kvs->AE (kvs.map (·.1)) sh->kvs.length<64->(∀l zs,H l=none->bg K H zs (aU (kvs.map (·.1)))->Q (.ref l) (upd H l (.lst zs)))->qa K xs H Q
theorem fh_(hc:X.calm=true):gD X (.builtin "sorted") (qa X.K):=by
 intro pins s σ H xs us Q I r h;let#[d,kvs,sh,rfl,hd,al,cz,q]:=h;let#[u,rfl,ru]:=vals1 r;cases ru;exact Tt (by rw[ao];exact cz) al (ml_ (I.ok.hd hc) I (.inl hd) λys vs s1 I1 r1 t=>⟨H,ys,I1,r1,t,λl zs n t' _=>q l zs n t'⟩)
inductive qb (xs:ai) (H:Hp) (Q:VK):Prop
 |mk:∀d kvs ss,xs=[.ref d]->H d\.dK kvs->kvs.map (·.1)=ss.map Sum.inr->ss.length<64->(∀l,H l=none->Q (.ref l) (upd H l (.lst ((aV ss).map V.str))))->qb xs H Q
theorem ZJ(hc:X.calm=true):gD X (.builtin "sorted") qb:=by
 intro pins s σ H xs us Q I r h;let#[d,kvs,ss,rfl,hd,ek,cz,q]:=h;let#[u,rfl,ru]:=vals1 r;cases ru;apply ZO cz (Vx (I.ok.hd hc) I (.inl hd) λvs s1 I1 r1=>⟨H,I1,?_,q⟩)
 have e:(kvs.map λkv=>kV kv.1)=ss.map V.str:=by
  rw[show (kvs.map λkv=>kV kv.1)=(kvs.map (·.1)).map kV by rw[cm];rfl,ek,cm];rfl
 rwa [e] at r1
inductive uT (K:af) (xs:ai) (H:Hp) (Q:VK):Prop
 |mk:∀(v d:Addr) (kvs:List (Key × V)) (ks:List (Key × Key)) (sh:List Bool),xs=[.ref v]->H v\rY v d->H d\.dK kvs->kvs=ks.map (λk:Key × Key=>(k.1,kV k.2))->AE (ks.map λk=>[k.1,k.2]) sh->ks.length<64->(∀l H1 zs,aa H H1->H1 l=none->bg K H1 zs (aU (ks.map λk=>[k.1,k.2]))->Q (.ref l) (upd H1 l (.lst zs)))->uT K xs H Q
theorem gL_(hc:X.calm=true):gD X (.builtin "sorted") (uT X.K):=by
 intro pins s σ H xs us Q I r h;let#[v,d,kvs,ks,sh,rfl,hv,hd,ek,al,cz,q]:=h;let#[u,rfl,ru]:=vals1 r;cases ru;apply Tt (by rw[ao];exact cz) al (hT_ (I.ok.hd hc) I hv (.inl hd) λH1 ys vs s1 I1 sm r1 t=>⟨H1,ys,I1,r1,?_,λl zs n t' _=>q l H1 zs sm n t'⟩);subst ek
 have gen:∀(ks:List (Key × Key)) (ys:ai),jH X.K H1 ys (ks.map (λk:Key × Key=>(k.1,kV k.2)))->bg X.K H1 ys (ks.map λk=>[k.1,k.2]):=λks=>by
  induction ks with
  |nil=>
   intro ys t;cases t;exact .nil
  |cons k ks ih=>
   intro ys t;cases t with
   |cons h t=>exact .cons h (ih _ t)
 exact gen ks ys t
inductive uW (xs:ai) (H:Hp) (Q:VK):Prop
 |mk:∀d kvs,xs=[.ref d]->Rd H d (.dK kvs)->(∀l,H l=none->Q (.ref l) (upd H l (.lst (kvs.map λkv=>kV kv.1))))->uW xs H Q
theorem S7(hc:X.calm=true):gD X (.type "list") uW:=by
 intro pins s σ H xs us Q I r h;let#[d,kvs,rfl,hd,q]:=h;let#[u,rfl,ru]:=vals1 r;cases ru;let#[P,OK,S,ok,hp]:=Vu I hd;let z:=(rT I.aN hd).1;apply kdl_call S (I.ok.hd hc) ok (by rw[ao];exact z) λh' tk acc c k hD a=>?_;apply#[.ref s.heap.objs.size,_,I.laid (t':=tk) k (bq _) (show gh X.prog X.w _ h' _ (.lst (kvs.map λkv=>kV kv.1)) from #[by rw[ao];exact z,acc.toList,c,MZ a hp,by rw[Array.toArray_toList];exact hD]),Z,q _ I.fresh]
theorem KV.iN{κ:Type}[DecidableEq κ]:∀{more:List (κ × V)} {rs:List (κ × Aa)} {kvs:List (κ × V)} {vs:List (κ × Aa)},KV more rs->KV kvs vs->KV (more.foldl (λacc kv=>putK acc kv.1 kv.2) kvs) (DJ.iN vs rs):=λ{more rs kvs vs} h=>by
 induction h generalizing kvs vs with
 |nil=>exact λh=>h
 |@cons p q _ _ h _ ih=>
  intro h2;let#[k,y]:=p;let#[k',u]:=q;let#[h1,h3]:=h;have h1:k=k':=h1;subst h1;exact ih (h2.put k h3)
inductive qe (K:af) (xs:ai) (H:Hp) (Q:VK):Prop
 |mk:∀p ys kvs,xs=[.ref p]->H p\.lst ys->jH K H ys kvs->kvs.length<=1000->(∀l,H l=none->Q (.ref l) (upd H l (.dK (o8 [] kvs))))->qe K xs H Q
theorem wb(hc:X.calm=true):gD X (.type "dict") (qe X.K):=by
 intro pins s σ H xs us Q I r h;let#[p,ys,kvs,rfl,hp,t,hz,q]:=h;let#[u,rfl,ru]:=vals1 r;cases ru;let#[z,its,n,rv,hl,ho]:=I.jr hp
 have gen:∀{ys:ai} {its:aq} {kvs:List (Key × V)},Vals ys its->jH X.K H ys kvs->∃ps,KV kvs ps/\QJ (fB X.prog X.w) s.heap its ps:=λ{ys its kvs} rv t=>by
  induction t generalizing its with
  |nil=>
   cases rv;exact#[[],.nil,.nil]
  |@cons y p ys kvs h t ih=>
   cases rv with
   |cons r0 rv=>
    let#[ps,h1,h2]:=ih rv;let#[a,e,sq]:=h;subst e;cases r0;let#[tv,rt,it,_]:=I.tuple (i6.of sq);let#[key,x,e2,rk,rx]:=vals2 rt;subst e2;apply#[(p.1,x)::ps,Paired.cons (show p.1=p.1/\RelV p.2 x from #[Z,rx]) h1,Paired.cons (show ∃a' GM,Value.ref a=.ref a'/\IsTup s.heap a' (List.toArray [GM,x])/\(fB X.prog X.w).is p.1 GM=true from #[a,key,Z,it,yS rk]) h2]
 let#[ps,h1,h2]:=gen rv t;let lp:=KV.length h1;apply eJ_ (knd:=fB X.prog X.w) (I.ok.hd hc) ho h2 Z1 λh' tk hd kp=>?_;apply#[.ref s.heap.objs.size,_,I.laid (t':=tk) kp (bq _) (LV ?_ (beq_eq_false_iff_ne.mpr (Ne.symm (eV I.big))) (KV.iN h1 .nil) hd),Z,q _ I.fresh];have:=TB kvs [];have:=cc;simp only[we] at *;show (o8 [] kvs).length<=sizeLine;omega
theorem R7:∀{bs:List Bool} {vs:aq},Vals (bs.map V.bl) vs->vs=bs.map Value.bool
 |[],_,.nil=>rfl
 |b::bs,_,.cons h t=>by
  cases h;rw[R7 t];rfl
inductive BQ (K:af) (g:List Bool->Bool) (xs:ai) (H:Hp) (Q:VK):Prop
 |mk:∀p bs,xs=[.ref p]->eG K H p (bs.map V.bl)->Q (.bl (g bs)) H->BQ K g xs H Q
theorem j7_(hc:X.calm=true):gD X (.builtin "all") (BQ X.K λbs=>bs.all id):=by
 intro pins s σ H xs us Q I r h;let#[p,bs,rfl,hp,q]:=h;let#[u,rfl,ru]:=vals1 r;cases ru;let#[its,rv,pl,z]:=I.list hp;obtain rfl:=R7 rv;let hl:=pl.isList;have lt:p<s.heap.objs.size:=by let#[_,e,_]:=hl;exact cK e
 apply call_all_walk (wpAny_pyIter_list hl ⟨s.heap.objs.size,[s.heap.objs.size,p],[s.heap.objs.size],(bs.map Value.bool).toArray.size,_,_,λi=>(bs[i]?).getD true,rfl,Walks.list (A:=X.A.in1) (I.ok.hd hc) _ p (eV lt) _,⟨⟨_,fI _ rfl,rfl,rfl⟩,hl.push _⟩,λi v s' Q' E' hP hQ=>?_,λh' tk hk=>?_⟩)
 ·have hP:(bs.map Value.bool).toArray[i]? = some v:=hP;simp only[List.getElem?_toArray,dR] at hP;cases e:bs[i]? with
  |none=>rw[e] at hP;cases hP
  |some b=>
   have hQ:Q' ((bs[i]?).getD true) s':=hQ;rw[e] at hP hQ;cases hP;exact vN hQ
 have e:((List.range (bs.map Value.bool).toArray.size).all λi=>(bs[i]?).getD true)=bs.all id:=by
  rw[dG,ao];exact LSm.range_all bs
 rw[e];exact#[.bl _,H,I.kept (LSm.kept_iter hk),Z,q]
theorem XD(hc:X.calm=true):gD X (.builtin "any") (BQ X.K λbs=>bs.any id):=by
 intro pins s σ H xs us Q I r h;let#[p,bs,rfl,hp,q]:=h;let#[u,rfl,ru]:=vals1 r;cases ru;let#[its,rv,pl,z]:=I.list hp;obtain rfl:=R7 rv;let hl:=pl.isList;have lt:p<s.heap.objs.size:=by let#[_,e,_]:=hl;exact cK e
 apply call_any_walk (wpAny_pyIter_list hl #[s.heap.objs.size,[s.heap.objs.size,p],[s.heap.objs.size],(bs.map Value.bool).toArray.size,_,_,λi=>(bs[i]?).getD false,Z,Walks.list (A:=X.A.in1) (I.ok.hd hc) _ p (eV lt) _,#[#[_,fI _ Z,Z,Z],hl.push _],λi v s' Q' E' hP hQ=>?_,λh' tk hk=>?_])
 ·have hP:(bs.map Value.bool).toArray[i]? = some v:=hP;simp only[List.getElem?_toArray,dR] at hP;cases e:bs[i]? with
  |none=>rw[e] at hP;cases hP
  |some b=>
   have hQ:Q' ((bs[i]?).getD false) s':=hQ;rw[e] at hP hQ;cases hP;exact vN hQ
 have e:((List.range (bs.map Value.bool).toArray.size).any λi=>(bs[i]?).getD false)=bs.any id:=by
  rw[dG,ao];exact LSm.range_any bs
 rw[e];exact#[.bl _,H,I.kept (LSm.kept_iter hk),Z,q]
theorem V3:∀{ns:List Int} {vs:aq},Vals (ns.map V.int) vs->IntsAre vs ns
 |[],_,.nil=>.nil
 |n::ns,_,.cons h t=>by
  let#[tk,rfl]:=h;exact .cons _ _ (V3 t)
inductive F3 (K:af) (xs:ai) (H:Hp) (Q:VK):Prop
 |mk:∀(p:Addr) (ns:List Int),xs=[.ref p]->eG K H p (ns.map V.int)->0<ns.length->(∀m,m∈ns->(∀a∈ns,a<=m)->Q (.int m) H)->F3 K xs H Q
theorem Ye(hc:X.calm=true):gD X (.builtin "max") (F3 X.K):=by
 intro pins s σ H xs us Q I r h;let#[p,ns,rfl,hp,hn,q]:=h;let#[u,rfl,ru]:=vals1 r;cases ru;let#[its,rv,pl,z]:=I.list hp;let hi:=V3 rv;let#[xs,e]:=hi.allInts.items;let hl:=pl.isList;have Cf:ns=xs.toList.map (·.1):=by rw[<- hi.numsOf,<- nums_intItems,<- e]
 have hsz:0<xs.size:=by
  let h3:=hn;rw[Cf] at h3;simpa using h3
 rw[e] at hl;apply max_intList (I.ok.hd hc) hl hsz λv h' tk hv hk=>?_;let#[t,rfl]:=intItems_at hv;let#[h1,h2]:=argBest_gt (numAt xs) (xs.size - 1);apply#[.int _,H,I.kept hk,#[t,Z],q _ ?_ λa ha=>?_]
 ·rw[Cf,numAt_eq];exact getD_mem (by rw[ao,sY];omega)
 rw[Cf] at ha;let#[j,hj,rfl]:=mem_getD ha;rw[ao,sY] at hj;rw[<- numAt_eq];exact h2 j Z1
end L2
namespace Na
open PySem PySem.SeqAt PyProof.Rows
open AutoSeq1 (wpAny_loadPart')
open MeetsSeq MeetsSeq2 MeetsSeq3 SeqRoads2
theorem mC_(l b:Addr)(xs ys:Array Aa)(n m:Nat)(dl db:Option Addr)(sl sb:Array (Option Aa))(hs:xs.size=ys.size)(e:Nat->Bool)(k:Nat) :
  ∀i:Nat,xs.size - i=k->Meets (Builtin.«list.__eq__.loop» #[[.ref l,.ref b,rawInt i,rawInt 3],[]])
   (λA R s=>(s.heap.get? l=some { cls:=.type "list",dict:=dl,data:=.seq xs n,slots:=sl }/\s.heap.get? b=some { cls:=.type "list",dict:=db,data:=.seq ys m,slots:=sb }) /\
    (∀j (h1:j<xs.size) (h2:j<ys.size),EqAt A.in1 s xs[j] ys[j] (e j))/\R (.ok (.ret (.bool (!((List.range xs.size).drop i).all e)))) s):=by
 induction k with
 |zero=>
  intro i hk prog w A R s ⟨⟨gl,gb⟩,he,h⟩;let#[hp,g,d,tk,os]:=s
  wp_walk using sO gl,sO gb
  rw[show xs[((i:Nat):Int).toNat]? = none by simp;omega,show ys[((i:Nat):Int).toNat]? = none by simp;omega];rw[show (List.range xs.size).drop i=[] by simp;omega] at h
  wp_walk using sO gl,sO gb
  apply (show R (.ok (.ret (.bool (xs.size != ys.size)))) _ from ?_);rw[show (xs.size != ys.size)=false by simp[hs]];exact h
 |succ k ih=>
  intro i hk prog w A R s ⟨⟨gl,gb⟩,he,h⟩;let#[hp,g,d,tk,os]:=s
  wp_walk using sO gl,sO gb
  have z1:i<xs.size:=by omega
  have z2:i<ys.size:=by omega
  have q1:xs[((i:Nat):Int).toNat]? = some xs[i]:=by simp[z1]
  have q2:ys[((i:Nat):Int).toNat]? = some ys[i]:=by simp[z2]
  rw[show (List.range xs.size).drop i=i::(List.range xs.size).drop (i+1) by simp[List.drop_eq_getElem_cons,z1],List.all_cons] at h;rw[q1,q2];apply aP (he i z1 z2 prog w _ _ ?_);cases c:e i with
  |true=>
   rw[c] at h
   wp_walk
   rw[show ((i:Int)+1)=((i+1:Nat):Int) by omega];apply#[plainId_quiet plain_eq_loop _,codeAny_builtin entry_eq_loop ?_];rw[Around.under_plainId plain_eq_loop _];exact ih (i+1) Z1 prog w A R _ #[#[gl,gb],he,by simpa using h]
  |false=>
   rw[c] at h
   wp_walk using sO gl,sO gb
   rw[q1,q2]
   wp_walk
   simpa using h
theorem jB_(l b:Addr)(xs ys:Array Aa)(n m:Nat)(dl db:Option Addr)(sl sb:Array (Option Aa))(hs:xs.size=ys.size)(e:Nat->Bool) :
  Meets (Builtin.«list.__ne__» #[[.ref l,.ref b],[]])
   (λA R s=>(s.heap.get? l=some { cls:=.type "list",dict:=dl,data:=.seq xs n,slots:=sl }/\s.heap.get? b=some { cls:=.type "list",dict:=db,data:=.seq ys m,slots:=sb }) /\
    (∀j (h1:j<xs.size) (h2:j<ys.size),EqAt A.in1 s xs[j] ys[j] (e j))/\R (.ok (.ret (.bool (!(List.range xs.size).all e)))) s):=by
 intro prog w A R s ⟨⟨gl,gb⟩,he,h⟩;let#[hp,g,d,tk,os]:=s;let f3:=AutoSeq1.sub_list_list;have no:¬(xs.size != ys.size)=true:=by simp[hs]
 wp_walk using sO gl,sO gb
 apply#[plainId_quiet plain_eq_loop _,codeAny_builtin entry_eq_loop ?_];rw[Around.under_plainId plain_eq_loop _];exact mC_ l b xs ys n m dl db sl sb hs e _ 0 Z prog w A R _ #[#[gl,gb],he,by simpa using h]
theorem iS_(l b:Addr)(xs ys:Array Aa)(n m:Nat)(dl db:Option Addr)(sl sb:Array (Option Aa))(hs:(xs.size != ys.size)=true) :
  Meets (Builtin.«list.__ne__» #[[.ref l,.ref b],[]])
   (λA R s=>(s.heap.get? l=some { cls:=.type "list",dict:=dl,data:=.seq xs n,slots:=sl }/\s.heap.get? b=some { cls:=.type "list",dict:=db,data:=.seq ys m,slots:=sb })/\R (.ok (.ret (.bool true))) s):=
 .of_wp λprog w A R s ⟨⟨gl,gb⟩,h⟩=>by
  let#[hp,g,d,tk,os]:=s;let f3:=AutoSeq1.sub_list_list
  wp_walk using sO gl,sO gb
  exact#[_,Z,h]
variable{b l:Addr}{xs ys:Array Aa}{E Q:Aa->Ab->Prop}{prog:Ae}{w:Af}{A:Ag}{s:Ab}
theorem rC{e:Nat->Bool}(hl:s.heap.IsList l xs)(hb:s.heap.IsList b ys)(hs:xs.size=ys.size)(hu:A.units<cLine)(he:∀j (h1:j<xs.size) (h2:j<ys.size),EqAt A.in1 s xs[j] ys[j] (e j))(h:Q (.bool (!(List.range xs.size).all e)) s):wpAny (model prog w) A (compareOp .NotEq (.ref l) (.ref b)) Q E s:=by
 let#[#[c1,d1,t1,l1],o1,k1,n1,z1]:=id hl;let#[#[c2,d2,t2,l2],o2,k2,n2,z2]:=id hb;simp only at k1 z1 k2 z2;subst k1 z1 k2 z2;exact richCompare_meets_room (op:=.NotEq) #[_,o1,Z] #[_,o2,Z] F.slot_list_ne F.entry_list_ne (F.args_list_ne_2 _ _) (jB_ l b xs ys n1 n2 d1 d2 l1 l2 hs e) #[#[o1,o2],he,show Value.bool (!(List.range xs.size).all e)≠Value.notImplemented/\Q (.bool (!(List.range xs.size).all e)) s from #[(λx=>nomatch x),h]] hu
theorem iM(hl:s.heap.IsList l xs)(hb:s.heap.IsList b ys)(hs:(xs.size != ys.size)=true)(hu:A.units<cLine)(h:Q (.bool true) s):wpAny (model prog w) A (compareOp .NotEq (.ref l) (.ref b)) Q E s:=by
 let#[#[c1,d1,t1,l1],o1,k1,n1,z1]:=id hl;let#[#[c2,d2,t2,l2],o2,k2,n2,z2]:=id hb;simp only at k1 z1 k2 z2;subst k1 z1 k2 z2;exact richCompare_meets_room (op:=.NotEq) #[_,o1,Z] #[_,o2,Z] F.slot_list_ne F.entry_list_ne (F.args_list_ne_2 _ _) (iS_ l b xs ys n1 n2 d1 d2 l1 l2 hs) #[#[o1,o2],show Value.bool true≠Value.notImplemented/\Q (.bool true) s from #[(λx=>nomatch x),h]] hu
end Na
namespace L2
open PySem PySem.Spec PyProof.Rows PySem.W KR DJ
abbrev Rp(D:Type):=Hp->V->D->Prop
structure wD (X:Cx) (n:Nat) {D:Type} [DecidableEq D] (R:Rp D):Prop where
 eq:∀{pins:List (Addr × Obj)} {σ:St} {H:Hp} {s:Ab} {A:Ag} {x y:V} {u v:Aa} {d e:D},Inv X pins σ H s->RelV x u->RelV y v->R H x d->R H y e->A.units+n<cLine->SeqAt.EqAt A s u v (decide (d=e))
 one:∀{pins:List (Addr × Obj)} {σ:St} {H:Hp} {s:Ab} {x:V} {d e:D},Inv X pins σ H s->R H x d->R H x e->d=e
def rS:Rp Str:=λ_ x d=>x=.str d
def rZ:Rp Int:=λ_ x d=>x=.int d
def r2(K:af){D1 D2:Type}(R1:Rp D1)(R2:Rp D2):Rp (D1 × D2):=λH x d=>∃a u v,x=.ref a/\i6 K H a [u,v]/\R1 H u d.1/\R2 H v d.2
def rL(K:af){D:Type}(R:Rp D):Rp (List D):=λH x ds=>∃a xs,x=.ref a/\eG K H a xs/\Paired (R H) xs ds
variable{X:Cx}
theorem fQ:wD X 0 rS where
 eq:=λ{pins σ H s A x y u v d e} I ru rv hx hy hu=>by
  have hx:x=.str d:=hx;have hy:y=.str e:=hy;subst hx;subst hy;let q:=LI (A:=A) (s:=s) ru rv Z Z
  have e2:jF (.str d) (.str e)=decide (d=e):=by
   show (d == e)=_;by_cases h:d=e
   ·subst h;simp
   simp[h]
  rwa [e2] at q
 one:=λ{pins σ H s x d e} I hx hy=>by
  have hx:x=.str d:=hx;have hy:x=.str e:=hy;rw[hx] at hy;exact V.str.inj hy
theorem IQ:wD X 0 rZ where
 eq:=λ{pins σ H s A x y u v d e} I ru rv hx hy hu=>by
  have hx:x=.int d:=hx;have hy:y=.int e:=hy;subst hx;subst hy;let q:=LI (A:=A) (s:=s) ru rv Z Z
  have e2:jF (.int d) (.int e)=decide (d=e):=by
   show (d == e)=_;by_cases h:d=e
   ·subst h;simp
   simp[h]
  rwa [e2] at q
 one:=λ{pins σ H s x d e} I hx hy=>by
  have hx:x=.int d:=hx;have hy:x=.int e:=hy;rw[hx] at hy;exact V.int.inj hy
theorem Zn{h:Heap}{a:Addr}{its:Array Aa}(t:IsTup h a its):h.IsTuple a its:=t
variable{n:Nat}
theorem zc{m:Nat}{D1 D2:Type}[DecidableEq D1][DecidableEq D2]{R1:Rp D1}{R2:Rp D2}(c1:wD X n R1)(c2:wD X m R2):wD X (max n m+1) (r2 X.K R1 R2) where
 one:=λ{pins σ H s x d e} I hx hy=>by
  let#[a,u,v,rfl,t,q1,q2]:=hx;let#[b,u',v',e0,t',Le,Ld]:=hy;cases e0;let e1:=I.jA t t';cases e1;exact Prod.ext (c1.one I q1 Le) (c2.one I q2 Ld)
 eq:=λ{pins σ H s A x y u v d e} I ru rv hx hy hu=>by
  let DZ:=hx;let hy':=hy;let#[a,x1,x2,rfl,t,q1,q2]:=hx;let#[b,y1,y2,rfl,t',Le,Ld]:=hy;cases ru;cases rv;by_cases WZ:a=b
  ·subst WZ;let e1:=I.jA t t';cases e1;have:d=e:=Prod.ext (c1.one I q1 Le) (c2.one I q2 Ld);rw[cw this];exact SeqAt.EqAt.same _
  let#[its,r,it,_]:=I.tuple t;let#[its',r',it',_]:=I.tuple t';let#[u1,u2,rfl,r1,r2]:=vals2 r;let#[w1,w2,rfl,r1',r2']:=vals2 r'
  let key:=SeqAt.EqAt.of_refs WZ (SeqAt.RcAt.tuples (A:=A) (s:=s) (e:=λj=>if j=0 then decide (d.1=e.1) else decide (d.2=e.2)) (Zn it) (Zn it') Z1 λj h1 h2=>by
   match j,h1,h2 with
   |0,_,_=>exact c1.eq I r1 r1' q1 Le (by show A.units+1+n<cLine;omega)
   |1,_,_=>exact c2.eq I r2 r2' q2 Ld (by show A.units+1+m<cLine;omega))
  have e3:((List.range (min [u1,u2].toArray.size [w1,w2].toArray.size)).all (λj=>if j=0 then decide (d.1=e.1) else decide (d.2=e.2))&&[u1,u2].toArray.size == [w1,w2].toArray.size)=decide (d=e):=by
   show (decide (d.1=e.1)&&(decide (d.2=e.2)&&true)&&true)=_;by_cases h1:d.1=e.1
   ·by_cases h2:d.2=e.2
    ·have:d=e:=Prod.ext h1 h2;simp[this]
    have:¬d=e:=λz=>h2 (by rw[z]);simp[h1,h2,this]
   have:¬d=e:=λz=>h1 (by rw[z]);simp[h1,this]
  rw[e3] at key;exact key
theorem iz{α β:Type}{F:α->β->Prop}:∀{l:List α} {m:List β},Paired F l m->∀(i:Nat) (h1:i<l.length) (h2:i<m.length),F l[i] m[i]
 |_,_,.cons h t,0,_,_=>h
 |_,_,.cons h t,i+1,h1,h2=>iz t i ⇑h1 ⇑h2
theorem ZP{D:Type}[DecidableEq D]:∀{ds es:List D},ds.length=es.length->((List.range ds.length).all λj=>decide (ds[j]? = es[j]?))=decide (ds=es):=λ{ds es} hl=>by
 by_cases h:ds=es
 ·subst h;simp
 rw[dU h]
 have:∃i,i<ds.length/\ds[i]?≠es[i]?:=by
  apply Classical.byContradiction λhn=>h ?_;apply List.ext_getElem? ?_;intro i;by_cases hi:i<ds.length
  ·exact Classical.byContradiction λq=>hn #[i,hi,q]
  rw[List.getElem?_eq_none Z1,List.getElem?_eq_none Z1]
 let#[i,hi,q]:=this;rw[List.all_eq_false];exact#[i,by simpa using hi,by simpa using q]
variable{pins:List (Addr × Obj)}{σ:St}{s:Ab}{A:Ag}
theorem X_{D:Type}[DecidableEq D]{R:Rp D}(c:wD X n R){H:Hp}(I:Inv X pins σ H s){xs ys:ai}{us vs:aq}{ds es:List D}(ru:Vals xs us)(rv:Vals ys vs)(hx:Paired (R H) xs ds)(hy:Paired (R H) ys es)(hu:A.units+n<cLine) :
  ∀j (h1:j<us.toArray.size) (h2:j<vs.toArray.size),SeqAt.EqAt A s us.toArray[j] vs.toArray[j] (decide (ds[j]? = es[j]?)):=λj h1 h2=>by
 let l1:=ru.length;let l2:=rv.length;let l3:=bK hx;let l4:=bK hy;simp only[dG] at h1 h2;let q:=c.eq (A:=A) I (iz ru j Z1 h1) (iz rv j Z1 h2) (iz hx j Z1 Z1) (iz hy j Z1 Z1) hu
 have e:decide (ds[j]? = es[j]?)=decide (ds[j]' Z1=es[j]' Z1):=by
  rw[dB Z1,dB Z1];by_cases z:ds[j]' Z1=es[j]' Z1
  ·simp[z]
  simp[z]
 rw[e];exact q
def F7{D:Type}[DecidableEq D](R:Rp D)(neg:Bool):V->V->Hp->VK->Prop:=λx y H Q=>∃d e,R H x d/\R H y e/\Q (.bl (if neg then !decide (d=e) else decide (d=e))) H
theorem Vn{D:Type}[DecidableEq D]{R:Rp D}(c:wD X n R)(hu:X.A.units+n+1<cLine):eQ X (compareOp .Eq) (F7 (rL X.K R) false):=by
 intro pins s σ H x y v u Q I rx ry h;let#[d,e,#[a,xs,rfl,t,q],#[b,ys,rfl,t',q'],hq]:=h;cases rx;cases ry;let#[us,r,pl,_]:=I.list t;let#[vs,r',yl,_]:=I.list t';let l1:=r.length;let l2:=r'.length;let l3:=bK q;let l4:=bK q';by_cases hl:d.length=e.length
 ·apply SeqAt.eq_listAt pl.isList yl.isList (by simp only[dG];omega) Z1 (X_ c I r r' q q' (A:=X.A.in1) (by show X.A.units+1+n<cLine;omega)) #[.bl _,H,I,Z,?_];rw[show us.toArray.size=d.length by simp only[dG];omega,ZP hl];exact hq
 apply SeqAt.eq_list_lengthsAt pl.isList yl.isList (by simp only[dG,bne_iff_ne];omega) Z1 #[.bl _,H,I,Z,?_];have hq:Q (.bl (decide (d=e))) H:=hq;rwa [dU (λz=>hl (by rw[z]))] at hq
theorem Ql{D:Type}[DecidableEq D]{R:Rp D}(c:wD X n R)(hu:X.A.units+n+1<cLine):eQ X (compareOp .NotEq) (F7 (rL X.K R) true):=by
 intro pins s σ H x y v u Q I rx ry h;let#[d,e,#[a,xs,rfl,t,q],#[b,ys,rfl,t',q'],hq]:=h;cases rx;cases ry;let#[us,r,pl,_]:=I.list t;let#[vs,r',yl,_]:=I.list t';let l1:=r.length;let l2:=r'.length;let l3:=bK q;let l4:=bK q';have hq:Q (.bl (!decide (d=e))) H:=hq;by_cases hl:d.length=e.length
 ·apply Na.rC pl.isList yl.isList (by simp only[dG];omega) Z1 (X_ c I r r' q q' (A:=X.A.in1) (by show X.A.units+1+n<cLine;omega)) #[.bl _,H,I,Z,?_];rw[show us.toArray.size=d.length by simp only[dG];omega,ZP hl];exact hq
 apply Na.iM pl.isList yl.isList (by simp only[dG,bne_iff_ne];omega) Z1 #[.bl _,H,I,Z,?_];rwa [dU (λz=>hl (by rw[z]))] at hq
def BO(K:af){D:Type}[DecidableEq D](R:Rp D)(neg:Bool):V->V->Hp->VK->Prop:=λx y H Q=>∃d es,R H x d/\rL K R H y es/\Q (.bl (if neg then !decide (d∈es) else decide (d∈es))) H
theorem VM{D:Type}[DecidableEq D]{R:Rp D}(c:wD X n R){H:Hp}(I:Inv X pins σ H s){x:V}{u:Aa}{d:D}(ru:RelV x u)(hx:R H x d)(hu:A.units+n<cLine):∀{ys:ai} {vs:aq} {es:List D},Vals ys vs->Paired (R H) ys es->
  ∃f:Aa->Bool,(∀w∈vs,SeqAt.EqAt A s w u (f w))/\vs.any f=decide (d∈es):=λ{ys vs es} rv hy=>by
 let f:Aa->Bool:=λw=>@decide (∃y e,RelV y w/\R H y e/\e=d) (Classical.propDecidable _)
 have sound:∀y w e,RelV y w->R H y e->f w=decide (e=d):=λy w e h1 h2=>by
  by_cases z:e=d
  ·rw[cw z];exact @cw _ (Classical.propDecidable _) #[y,e,h1,h2,z]
  rw[dU z];apply @dU _ (Classical.propDecidable _) λ⟨y',e',g1,g2,g3⟩=>z ?_;have:y'=y:=RelV.inj g1 h1;subst this;rw[<- g3];exact c.one I h2 g2
 apply#[f,?_,?_]
 ·induction rv generalizing es with
  |nil=>exact λw hw=>nomatch hw
  |cons h t ih=>
   cases hy with
   |cons g t'=>
    intro w hw;rcases bX.mp hw with rfl|hw
    ·rw[sound _ _ _ h g];exact c.eq I h ru g hx hu
    exact ih t' w hw
 induction rv generalizing es with
 |nil=>
  cases hy;simp
 |cons h t ih=>
  cases hy with
  |@cons _ e _ es g t'=>
   rw[List.any_cons,ih t',sound _ _ _ h g];by_cases z:e=d
   ·subst z;simp
   by_cases z2:d∈es
   ·simp[z2]
   have:¬d∈e::es:=λq=>by
    rcases bX.mp q with q|q
    ·exact z q.symm
    exact z2 q
   rw[dU z,dU z2,dU this];rfl
theorem Ik{D:Type}[DecidableEq D]{R:Rp D}(c:wD X n R)(hu:X.A.units+n+1<cLine):eQ X (compareOp .In) (BO X.K R false):=by
 intro pins s σ H x y v u Q I rx ry h;let#[d,es,hx,#[a,ys,rfl,t,q],hq]:=h;cases ry;let#[us,r,pl,_]:=I.list t;let#[f,h1,h2]:=VM c I (A:=X.A.in1) rx hx (by show X.A.units+1+n<cLine;omega) r q;apply SeqAt.in_listAt f pl.isList (λw hw=>h1 w ⇑hw) #[.bl _,H,I,Z,?_];rw[show us.toArray.any f=us.any f by simp,h2];exact hq
theorem Mx{D:Type}[DecidableEq D]{R:Rp D}(c:wD X n R)(hu:X.A.units+n+1<cLine):eQ X (compareOp .NotIn) (BO X.K R true):=by
 intro pins s σ H x y v u Q I rx ry h;let#[d,es,hx,#[a,ys,rfl,t,q],hq]:=h;cases ry;let#[us,r,pl,_]:=I.list t;let#[f,h1,h2]:=VM c I (A:=X.A.in1) rx hx (by show X.A.units+1+n<cLine;omega) r q;apply SeqAt.notIn_listAt f pl.isList (λw hw=>h1 w ⇑hw) #[.bl _,H,I,Z,?_];rw[show us.toArray.any f=us.any f by simp,h2];exact hq
inductive F6 (K:af) (xs:ai) (H:Hp) (Q:VK):Prop
 |mk:∀x T t b,xs=[x,.ty T]->gj K H x t->PySem.W.kitOne K t (.type T)\b->Q (.bl b) H->F6 K xs H Q
theorem o9:gD X (.builtin "isinstance") (F6 X.K):=by
 intro pins s σ H xs us Q I r h;let#[x,T,t,b,rfl,ty,e,q]:=h;let#[u,w',rfl,ru,lE]:=vals2 r;cases (show w'=Value.type T from lE);exact Yu I ru ty e λtk=>#[.bl b,H,I.tok tk,Z,q]
inductive Zw (x:V) (y:V) (H:Hp) (Q:VK):Prop
 |mk:∀i j,x=.str i->y=.str j->Q (.bl (!decide (j.cps.toList<i.cps.toList))) H->Zw x y H Q
theorem Yp:eQ X (compareOp .LtE) Zw:=by
 intro pins s σ H x y v u Q I rx ry h;let#[i,j,rfl,rfl,q]:=h;let#[t,rfl]:=rx;let#[t',rfl]:=ry;exact PySem.P.le_str ⟨.bl _,H,I,rfl,q⟩
inductive tE (mk:Addr->Addr->HO) (Q:VK) (x:V) (H1:Hp):Prop
 |mk:∀d kvs,x=.ref d->H1 d\.dK kvs->(∀v,H1 v=none->Q (.ref v) (upd H1 v (mk v d)))->tE mk Q x H1
def zG(mk:Addr->Addr->HO)(td:TE):TE:=λσ H Q=>td σ H λx H1=>tE mk Q x H1
variable{H:Hp}{d:Addr}
theorem Wc{cls:String}(I:Inv X pins σ H s)(φ:Heap->Prop)(hφ:φ (s.heap.push { cls:=.type cls,data:=.fields (List.toArray [.ref d]) }))(hs:∀h1 h2:Heap,φ h1->(∀o,h1.get? s.heap.objs.size\o->h2.get? s.heap.objs.size\o)->φ h2) :
  Inv X pins σ (upd H s.heap.objs.size (.ext φ)) { s with heap:=s.heap.push { cls:=.type cls,data:=.fields (List.toArray [.ref d]) } }:=
 I.laid (t':=s.toks) (λ_ _ q=>cO _ q) (bq _) #[hφ,#[_,fI _ Z],hs]
variable{o:Expr}{td:TE}{apos dk:Pos}
theorem IM(ho:PE X o td)(iU:attributeBase o "items" X.env (eval o X.env)=eval o X.env:=by rfl)(iR:(apos.endLine == dk.line)=true:=by rfl):PE X (.Call (.Attribute o "items" apos) [] [] dk) (zG rY td):=by
 intro pins s σ H Q I h;apply wpAny_Call_method0_late iU iR (bb (ho pins s σ H _ I h) λv s1 ⟨x,H1,I1,r1,d,kvs,e,hd,q⟩=>?_);subst e;cases r1;let#[t1,t2,t3]:=Vy I1 (.inl #[kvs,.inl hd]);let#[_,_,vs,rel,dd]:=AM I1.aN hd;apply#["dict","dict.items",PySem.F.plainAttrs_dict,PySem.F.slot_dict_items,PySem.F.type_dict_items,t1,t2,Calls.callWith_builtin Z (PySem.evalArgs_none ?_)];apply call_meetsIn PySem.F.slot_dict_items t1 PySem.F.entry_dict_items (PySem.F.args_dict_items_1 _) (meets_dict_items (fB X.prog X.w) d t3) #[#[vs,dd],?_];exact#[.ref _,_,Wc I1 _ #[_,fI _ Z,Z,Z] λh1 h2 ⟨o,e,r⟩ k=>#[o,k o e,r],Z,q _ I1.fresh]
theorem RL(ho:PE X o td)(iU:attributeBase o "values" X.env (eval o X.env)=eval o X.env:=by rfl)(iR:(apos.endLine == dk.line)=true:=by rfl):PE X (.Call (.Attribute o "values" apos) [] [] dk) (zG qG td):=by
 intro pins s σ H Q I h;apply wpAny_Call_method0_late iU iR (bb (ho pins s σ H _ I h) λv s1 ⟨x,H1,I1,r1,d,kvs,e,hd,q⟩=>?_);subst e;cases r1;let#[t1,t2,t3]:=Vy I1 (.inl #[kvs,.inl hd]);let#[_,_,vs,rel,dd]:=AM I1.aN hd;apply#["dict","dict.values",PySem.F.plainAttrs_dict,PySem.F.slot_dict_values,PySem.F.type_dict_values,t1,t2,Calls.callWith_builtin Z (PySem.evalArgs_none ?_)];apply call_meetsIn PySem.F.slot_dict_values t1 PySem.F.entry_dict_values (PySem.F.args_dict_values_1 _) (meets_dict_values (fB X.prog X.w) d t3) #[#[vs,dd],?_];exact#[.ref _,_,Wc I1 _ #[_,fI _ Z,Z,Z] λh1 h2 ⟨o,e,r⟩ k=>#[o,k o e,r],Z,q _ I1.fresh]
variable{kvs:List (Key × V)}
theorem Inv.freeze(I:Inv X pins σ H s)(h:H d\.dK kvs):∃o,s.heap.get? d\o/\Inv X pins σ (upd H d (.frz o (.dK kvs))) s:=by
 let#[z,hd,vs,rel,dd]:=AM I.aN h;let#[o,es,ep,ho,r]:=id dd;have other:∀{b u},H b\u->u≠.dK kvs->upd H d (.frz o (.dK kvs)) b\u:=λ{b u} e ne=>by rw[ax (cu e h ne)];exact e
 apply#[o,ho,I.un (h':=s.heap) (t':=s.toks) #[λb u q _ _ _=>q,λb u q _ _ _=>#[u.slots,q],λb u q n _=>?_,λb u q _=>#[u,q],λb xs q=>other q Z2,λb u v q=>other q Z2,λb ps q=>#[#[],by rw[Array.append_empty];exact other q Z2]] λb u q=>?_]
 ·by_cases e:b=d
  ·subst e;rw[h] at n;cases n
  rw[ax e];exact n
 by_cases e:b=d
 ·subst e;rw[ay] at q;cases q;exact#[ho,z,hd,vs,rel,dd]
 rw[ax e] at q;exact (I.aN b u q).fo (λc v _ z=>z) (λc z=>other z Z2) λc xs z=>other z Z2
variable{o:Obj}
theorem Inv.jP(I:Inv X pins σ H s)(h:H d\.frz o (.dK kvs))(h0:∀o u,X.mr d≠some (.frz o u)):Inv X pins σ (upd H d (.dK kvs)) s:=by
 have other:∀{b u},H b\u->(∀o v,u≠.frz o v)->upd H d (.dK kvs) b\u:=λ{b u} e ne=>by rw[ax (cu e h (ne _ _))];exact e
 have iL:∀{b},H b=none->upd H d (.dK kvs) b=none:=λ{b} e=>by
  rw[ax (λz=>by subst z;rw[h] at e;cases e)];exact e
 apply#[I.ok,I.os,I.bare,#[I.base.keep,I.base.slot,λb u q n hx=>iL (I.base.free b u q n hx),I.base.there,λb xs q=>other (I.base.jO b xs q) Z2,λb u v q=>?_,λb ps q=>?_],I.loc,I.cell,iL I.free,λx c e=>iL (I.eS x c e),λp hp=>?_,λb u q=>?_,I.len]
 ·have:=I.base.ij b u v q;rw[ax (λz=>by subst z;exact h0 _ _ q)];exact this
 ·let#[more,e]:=I.base.je b ps q;exact#[more,other e Z2]
 ·let#[a1,a2,a3]:=I.pin p hp;exact#[a1,iL a2,a3]
 by_cases e:b=d
 ·subst e;rw[ay] at q;cases q;let#[ho,z,hd,vs,rel,dd]:=I.aN b _ h;exact#[z,hd,vs,rel,dd]
 rw[ax e] at q;exact (I.aN b u q).fo (λc v _ z=>z) (λc z=>other z Z2) λc xs z=>other z Z2
def Fu(t:TE):TE:=λσ H Q=>∃d kvs,H d\.dK kvs/\t σ H λv H1=>∃o,H1 d\.frz o (.dK kvs)/\Q v (upd H1 d (.dK kvs))
variable{e:Expr}
theorem V7{t:TE}(h:PE X e t):PE X e (Fu t):=by
 intro pins s σ H Q I q;let#[d,kvs,hd,q]:=q;apply bb (h pins s σ H _ I q) λu s' ⟨v,H1,I1,r,o,hf,q1⟩=>#[v,_,I1.jP hf (λo u z=>?_),r,q1];have:=I.base.ij _ _ _ z;rw[hd] at this;cases this
def _i(d:Addr)(o:Obj)(kvs:List (Key × V)):It:=#[λi H=>H d\.frz o (.dK kvs)/\i<kvs.length,λi H x H'=>H'=H/\∃k,kvs[i]? = some (k,x),λi H=>H d\.frz o (.dK kvs)/\kvs.length<=i]
variable{es:Array DictEntry}{ep:Nat}
theorem EY(I:Inv X pins σ H s)(h:H d\.frz o (.dK kvs))(ho:o.data=.dict es ep):∃vs,KV kvs vs/\s.heap.DictAt (fB X.prog X.w) d vs ep:=by
 let#[e,z,hd,vs,rel,o',LY,LZ,e',c',d',r]:=I.aN d _ h;rw[e] at e';cases e';rw[ho] at d';cases d';exact#[vs,rel,o,es,e,c',ho,r]
theorem LF{κ:Type}{kvs:List (κ × V)}{vs:List (κ × Aa)}(r:KV kvs vs):∀(i:Nat) {k:κ} {x:V},kvs[i]? = some (k,x)->∃u,vs[i]? = some (k,u)/\RelV x u:=by
 induction r with
 |nil=>intro i k x e;simp at e
 |@cons p q _ _ h _ ih=>
  intro i k x e;cases i with
  |zero=>
   have e:p=(k,x):=⇑e
   subst e;apply#[q.2,?_,h.2];rw[List.getElem?_cons_zero];have h1:k=q.1:=h.1;rw[h1]
  |succ i=>exact ih i ⇑e
variable{P:Ae}{w:Af}{K:af}{tg:Expr}
theorem i3_(d it:Addr)(o:Obj)(kvs:List (Key × V))(ho:o.data=.dict es ep):Turn P w K tg (_i d o kvs) [it] it (λi h=>h.IsValIter it d i kvs.length ep) where
 mem:=by simp
 obj:=λi h st b hb=>by
  obtain rfl:b=it:=⇑hb
  let#[o,e,c,d]:=st;exact#[o,e,λv z=>by rw[d] at z;cases z]
 keep:=λi h h' st k=>st.at λo e=>k it Z2 o e
 item:=by
  intro X hP hw hK hc i pins s σ H E I hf st hg;subst hP hw hK;let#[hd,hi]:=hg;let#[vs,rel,dat]:=EY I hd ho;obtain⟨⟨k,x⟩,hx⟩:∃p,kvs[i]? = some p:=#[kvs[i],by simp[hi]];let#[u,hu,ru]:=LF rel i hx;let#[f0,f1,f2,f3,f4,f5]:=hf it Z2;rw[rel.length] at st;apply wpAny_pyNext_values_item st dat hu λh' fL sb=>?_;have I1:Inv X pins σ H { s with heap:=h' }:=I.turned (t':=s.toks) (λb o hb e=>(sb.2 b hb).trans e) f0 f1 f3 f4 f5;let#[o',e,c,dd]:=id fL;apply#[u,Z,El (s:={ s with heap:=h' }) e c dd (by decide) #[x,H,I1,ru,#[Z,k,hx],?_,λb hb=>(hf b hb).1]];show h'.IsValIter it d (i+1) kvs.length ep;rw[rel.length];exact fL
 done:=by
  intro X hP hw hK hc i pins s σ H E I hf st hg;subst hP hw hK;let#[hd,hi]:=hg;let#[vs,rel,dat]:=EY I hd ho;let#[f0,f1,f2,f3,f4,f5]:=hf it Z2;rw[rel.length] at st hi;exact wpAny_pyNext_values_end (I.ok.hd hc) st dat (by simp;omega) λh' eb=>#[Z,I.turned (t':=s.toks) (λb o hb e=>eb b o hb e) f0 f1 f3 f4 f5]
 self:=λ_ _ _ _ _ st h=>wpAny_pyIter_valiter st h
inductive vm (R:It->Hp->Prop) (x:V) (H1:Hp):Prop
 |mk:∀v d kvs,x=.ref v->H1 v\qG v d->H1 d\.dK kvs->(∀o,R (_i d o kvs) (upd H1 d (.frz o (.dK kvs))))->vm R x H1
def GQ(tv:TE):TI:=λσ H R=>tv σ H λx H1=>vm R x H1
theorem Xd{tv:TE}(he:PE X e tv):PI X tg e (GQ tv):=by
 intro pins s σ H R I h;apply bb (he pins s σ H _ I h) λu s1 ⟨x,H1,I1,r1,v,d,kvs,ex,hv,hd,q⟩=>?_;subst ex;cases r1;let#[iv,_,_]:=I1.aN v _ hv;let#[o,ho,I2]:=I1.freeze hd;let#[z,_,vs,rel,o',es,ep,jD,c',dt,r]:=AM I1.aN hd;rw[ho] at jD;cases jD;have rH:v≠d:=cu hv hd nofun;apply wpAny_pyIter_values (knd:=fB X.prog X.w) (kvs:=vs) (ep:=ep) iv #[o,es,ho,c',dt,r] ?_;apply#[s1.heap.objs.size,[s1.heap.objs.size],_,_,_,Z,I2.kept (t':=s1.toks) λb o e=>cO _ e,i3_ d _ o kvs dt,?_,λb hb=>?_,q o]
 ·rw[rel.length];exact#[_,fI _ Z,Z,Z]
 obtain rfl:b=s1.heap.objs.size:=⇑hb
 exact I2.j4 (bq _) (I2.aN.fresh (bq _))
def T9(x:Str):It:=#[λi _=>i<x.cps.size,λi H v H'=>H'=H/\∃c,x.cps[i]? = some c/\v=.str ⟨(List.toArray [c])⟩,λi _=>x.cps.size<=i]
theorem gF_(it:Addr)(x:Str)(t:Tok):Turn P w K tg (T9 x) [it] it (λi h=>i<=x.cps.size/\h.IsStrIter it "str_ascii_iterator" x t i) where
 mem:=by simp
 obj:=λi h st b hb=>by
  obtain rfl:b=it:=⇑hb
  let#[o,e,c,d]:=st.2;exact#[o,e,λv z=>by rw[d] at z;cases z]
 keep:=λi h h' st k=>#[st.1,let #[o,ho,r]:=st.2;#[o,k it Z2 o ho,r]]
 item:=by
  intro X hP hw hK hc i pins s σ H E I hf st hg;subst hP hw hK;have hg:i<x.cps.size:=hg;let#[f0,f1,f2,f3,f4,f5]:=hf it Z2;apply wpAny_pyNext_ascii_item st.2 (c:=x.cps[i]) (by simp[hg]) λh' fL sb=>?_;have I1:Inv X pins σ H { s with heap:=h',toks:=s.toks+1 }:=I.turned (t':=s.toks+1) (λb o hb e=>(sb.2 b hb).trans e) f0 f1 f3 f4 f5;let#[o',e,c,dd]:=id fL;exact#[_,Z,El (s:={ s with heap:=h',toks:=s.toks+1 }) e c dd (by decide) #[.str ⟨#[x.cps[i]]⟩,H,I1,#[_,Z],#[Z,_,by simp[hg],Z],#[hg,fL],λb hb=>(hf b hb).1]]
 done:=by
  intro X hP hw hK hc i pins s σ H E I hf st hg;subst hP hw hK;have hg:x.cps.size<=i:=hg;let#[f0,f1,f2,f3,f4,f5]:=hf it Z2;exact wpAny_pyNext_ascii_end (I.ok.hd hc) st.2 (by simp[hg]) λh' eb=>#[Z,I.turned (t':=s.toks) (λb o hb e=>eb b o hb e) f0 f1 f3 f4 f5]
 self:=λ_ _ _ _ _ st h=>wpAny_pyIter_striter_ascii st.2 h
theorem hh_(it:Addr)(x:Str)(t:Tok):Turn P w K tg (T9 x) [it] it (λi h=>i<=x.cps.size/\h.IsStrIter it "str_iterator" x t i) where
 mem:=by simp
 obj:=λi h st b hb=>by
  obtain rfl:b=it:=⇑hb
  let#[o,e,c,d]:=st.2;exact#[o,e,λv z=>by rw[d] at z;cases z]
 keep:=λi h h' st k=>#[st.1,let #[o,ho,r]:=st.2;#[o,k it Z2 o ho,r]]
 item:=by
  intro X hP hw hK hc i pins s σ H E I hf st hg;subst hP hw hK;have hg:i<x.cps.size:=hg;let#[f0,f1,f2,f3,f4,f5]:=hf it Z2;apply wpAny_pyNext_wide_item st.2 (c:=x.cps[i]) (by simp[hg]) λh' fL sb=>?_;have I1:Inv X pins σ H { s with heap:=h',toks:=s.toks+1 }:=I.turned (t':=s.toks+1) (λb o hb e=>(sb.2 b hb).trans e) f0 f1 f3 f4 f5;let#[o',e,c,dd]:=id fL;exact#[_,Z,El (s:={ s with heap:=h',toks:=s.toks+1 }) e c dd (by decide) #[.str ⟨#[x.cps[i]]⟩,H,I1,#[_,Z],#[Z,_,by simp[hg],Z],#[hg,fL],λb hb=>(hf b hb).1]]
 done:=by
  intro X hP hw hK hc i pins s σ H E I hf st hg;subst hP hw hK;have hg:x.cps.size<=i:=hg;let#[f0,f1,f2,f3,f4,f5]:=hf it Z2;exact wpAny_pyNext_wide_end (I.ok.hd hc) st.2 (by simp[hg]) λh' eb=>#[Z,I.turned (t':=s.toks) (λb o hb e=>eb b o hb e) f0 f1 f3 f4 f5]
 self:=λ_ _ _ _ _ st h=>wpAny_pyIter_striter_wide st.2 h
inductive Ar (R:It->Hp->Prop) (v:V) (H1:Hp):Prop
 |mk:∀x,v=.str x->R (T9 x) H1->Ar R v H1
def O8(tl:TE):TI:=λσ H R=>tl σ H λv H1=>Ar R v H1
theorem mq_{l:Expr}{tl:TE}(hl:PE X l tl):PI X tg l (O8 tl):=by
 intro pins s σ H R I h;apply bb (hl pins s σ H _ I h) λv s1 ⟨y,H1,I1,r1,x,e,q⟩=>?_;subst e;let#[t,rfl]:=r1
 have fp:∀b∈[s1.heap.objs.size],dI X pins H1 b:=λb hb=>by
  obtain rfl:b=s1.heap.objs.size:=⇑hb
  exact I1.j4 (bq _) (I1.aN.fresh (bq _))
 cases ha:x.cps.all (· < 128)
 ·apply wpAny_pyIter_wide ha ?_;exact#[s1.heap.objs.size,[s1.heap.objs.size],_,_,H1,Z,I1.kept (t':=s1.toks) λb o e=>cO _ e,hh_ _ x t,#[gF _,_,fI _ Z,Z,Z],fp,q]
 apply wpAny_pyIter_ascii ha ?_;exact#[s1.heap.objs.size,[s1.heap.objs.size],_,_,H1,Z,I1.kept (t':=s1.toks) λb o e=>cO _ e,gF_ _ x t,#[gF _,_,fI _ Z,Z,Z],fp,q]
theorem Ge{f:Aa->Aa->Sem Aa}(r:af->R2)(h:eQ X f (r X.K))(hK:X.K=K:=by rfl):eQ X f (r K):=by
 subst hK;exact h
theorem vL{f:Aa}(r:af->ai->Hp->VK->Prop)(h:gD X f (r X.K))(hK:X.K=K:=by rfl):gD X f (r K):=by
 subst hK;exact h
theorem yD(r:af->R2)(h:E_ X (r X.K))(hK:X.K=K:=by rfl):E_ X (r K):=by
 subst hK;exact h
abbrev F4(K:af):=TC K
theorem Je(hK:X.K=K:=by rfl):gD X (.builtin "len") (F4 K):=vL F4 mR hK
theorem II{N:ae}{scope:Scope}{fp:az}{es:List Expr}{k:Nat}{pos:Pos}{t:DF}(h:KM (ja X N scope fp s H) es t)(hc:X.calm=true:=by rfl)(hn:(assignEach es (ja X N scope fp s H).env).length=n:=by rfl)(B8:(assignEach es (ja X N scope fp s H).env).findIdx? (·.1)=none:=by rfl):PG (ja X N scope fp s H) (.Tuple es k pos) (j0 X.K n t):=ju (X:=ja X N scope fp s H) hc h hn B8
end L2
abbrev vI:PySem.Str:="_law_hand"
abbrev vH:PySem.Str:="_law_ties"
abbrev CQ:PySem.Str:="ways_by_name"
abbrev rQ:PySem.Str:="_law_one"
abbrev yY:PySem.Str:="_law_script"
abbrev y_:PySem.Str:="_law_digit"
abbrev CV:PySem.Str:="pieces_by_hand"
abbrev CL:PySem.Str:="rising_neighbours"
abbrev qA:PySem.Str:="_law_piece"
abbrev CU:PySem.Str:="neighbours_by_hand"
abbrev i9:PySem.Str:="_law_stand"
abbrev lY:PySem.Str:="_law_other"
abbrev oT:PySem.Str:="_law_found"
abbrev Er:PySem.Str:="abcdefghijklmnopqrstuvwxyz"
abbrev w9:PySem.Str:="strength_by_hand"
abbrev sS:PySem.Str:="weight_by_name"
abbrev sR:PySem.Str:="heaviest_first"
abbrev qD:PySem.Str:="level_by_hand"
abbrev kz:PySem.Str:="_law_state_here"
abbrev jL:PySem.Str:="load_by_hand"
abbrev gE:PySem.Str:="_law_world_here"
abbrev mL:List PySem.Str:=["self","one","other"]
abbrev Eo:List PySem.Str:=[gE,i9,"_law_rule","_law_moment"]
abbrev mj:List PySem.Str:=[gE,"_law_held_here",rQ,lY]
abbrev mM:List PySem.Str:=["goods","placed"]
abbrev qV:List PySem.Str:=[gE,i9,"_law_pair","_law_guard","_law_given"]
abbrev kE:List PySem.Str:=["self","hand"]
abbrev Eu:List PySem.Str:=[kz,"_law_hands",vH]
abbrev Ex:List PySem.Str:=[gE,i9,vI]
abbrev w_:List PySem.Str:=["sight","hand","words"]
abbrev AH:List PySem.Str:=[kz,"_law_base"]
abbrev g_:List PySem.Str:=["thing"]
abbrev qC:List PySem.Str:=["self","thing"]
abbrev qU:List PySem.Str:=[gE,qA,rQ,lY]
abbrev AJ:List PySem.Str:=["sight","rule","moment"]
abbrev mi:List PySem.Str:=["sight","one","other","guard","given"]
abbrev AF:List PySem.Str:=["name","weight","ways"]
abbrev Ew:List PySem.Str:=[gE,i9]
abbrev sQ:List PySem.Str:=["one","other"]
abbrev wz:List PySem.Str:=[gE,i9,"_law_moment","_law_guard"]
abbrev iY:List PySem.Str:=["self"]
abbrev qT:List PySem.Str:=["_law_guard","_law_drop_here","_law_much"]
abbrev wx:List PySem.Str:=[gE,i9,vI,"_law_words"]
abbrev wu:List PySem.Str:=[gE,i9,"_law_shared_here"]
abbrev Ep:List PySem.Str:=["sight","hand","guard"]
abbrev AI:List PySem.Str:=["self","piece"]
abbrev qS:List PySem.Str:=[gE,"_law_pieces"]
abbrev qR:List PySem.Str:=["self","piece","one","other"]
abbrev qQ:List PySem.Str:=[kz,"_law_great"]
abbrev mh:List PySem.Str:=["thing","least","most"]
abbrev qP:List PySem.Str:=[kz,"_law_many"]
abbrev wk:List PySem.Str:=["_law_hands",vH,"_law_pieces"]
abbrev me:List PySem.Str:=["high","fall","calm"]
abbrev qO:List PySem.Str:=[qA,i9]
abbrev wj:List PySem.Str:=["goods","placed","rule","moment"]
abbrev wg:List PySem.Str:=["goods","stand","rule","moments"]
abbrev qN:List PySem.Str:=["self","goods","placed"]
abbrev qM:List PySem.Str:=["guard","lead","burden"]
abbrev qL:List PySem.Str:=["goods","stand","rule"]
abbrev qK:List PySem.Str:=[yY,"_law_k"]
namespace Ev
open PySem L2
def top(i:Nat):Stmt:=PySem.Challenge.pw_evenpieces_k42_sums_on_the_way.main.body.getD i (.Pass #[0,0,0,0])
abbrev BG:Stmt:=top 12
abbrev nZ:Stmt:=top 14
abbrev uy:Stmt:=top 15
abbrev RH:Stmt:=top 16
abbrev uw:Stmt:=top 17
abbrev RE:Stmt:=top 18
abbrev uP:Stmt:=top 19
abbrev uG:Stmt:=top 51
abbrev BE:Stmt:=top 52
abbrev uq:Stmt:=top 53
abbrev ux:Stmt:=top 54
abbrev jR:Stmt:=top 56
def gX(a b:Str):Bool:=decide (a.cps.toList<b.cps.toList)
def aL(a b:Str):Str × Str:=if gX a b=true then (a,b) else (b,a)
variable{f:Addr}{fd:Ad}
variable{X:Cx}{k:Nat}{ps:ae}{sp:Sp}{pos:Pos}{e:Expr}{es:List Expr}{t:TA}
section v
theorem bH{N p:List Str}{c:Scope}(h:bx N p c:=by exact#[Z,Z,Z,by decide +kernel,Z,by decide +kernel,by decide +kernel]):bx N p c:=h
theorem ue:bx sQ sQ (ba RH):=bH
def MP:Sp:=λvs H Q _=>∃a b,vs=[.str a,.str b]/\∀t,H t=none->Q (.ref t) (upd H t (.tup [.str (aL a b).1,.str (aL a b).2]))
theorem hd_(F:bp K "lesser_first" "lesser_first" RH f fd):!aj aZ 1 f fd sQ MP:=by
 exists F.bG ue;let#[a,b,rfl,k]:=h;apply#[_,aE (bo (Yc (c_ he_ (pv 0) (pv 1)) (eW %[0,1|0]) (eW %[1,0|0]))),?_];apply#[_,Z,_,Z,a,b,Z,Z,_,Z,?_];apply aQ (λc=>?_) (λc=>?_)
 ·apply#[_,Z,_,Z,zl,λt ht=>?_];have:=k t ht;rwa [show aL a b=(a,b) from aB c] at this
 apply#[_,Z,_,Z,zl,λt ht=>?_];have:=k t ht;rwa [show aL a b=(b,a) from au c] at this
theorem xY:bx mh mh (ba nZ):=bH
def Rc:Sp:=λvs H Q _=>∃i a b:Int,vs=[.int i,.int a,.int b]/\Q (.bl (decide (a<=i)&&decide (i<=b))) H
structure Bi (mg:Str->Option Aa):Prop where
 mF:mg "isinstance"=none
 int:mg "int"=none
 bool:mg "bool"=none
 str:mg "str"=none
 tuple:mg "tuple"=none
 list:mg "list"=none
 dict:mg "dict"=none
 len:mg "len"=none
 all:mg "all"=none
 sorted:mg "sorted"=none
 max:mg "max"=none
 range:mg "range"=none
 any:mg "any"=none
 enum:mg "enumerate"=none
 min:mg "min"=none
 abs:mg "abs"=none
structure br (P:Ae) (w:Af) (K:af) (mg:Str->Option Aa) (base:Heap) (k:Nat) (x:Str) (ps:ae) (sp:Sp):Prop where
 ex:∃f fd,aj P w K mg base aZ k f fd ps sp/\mg x\.ref f/\PySem.W.keepIn K (.ref f)=true/\rR K fd ps []
theorem aX{n_:Nat}{x:Str}{p:Pos}(c:br X.prog X.w X.K X.mg X.base k x ps sp)(hr:aY n_ X.A)(ha:PA X (e::es) t)(hg:Gl X x:=by rfl)(oQ:(x == ("__debug__":Str))=false:=by decide)(he:starEach (e::es) X.env=(false,eval e X.env)::starEach es X.env:=by rfl)(mI:(backTo pos (starEach es X.env)).any (·.1)=false:=by rfl)(hk:k<=n_:=by decide):PE X (.Call (.Name x p) (e::es) [] pos) (pN sp [] E0 t):=by
 let#[f,fd,F,m,kp,b]:=c.ex;exact lK_ F (hr.mono hk) hg m kp b .nil lF ha oQ he mI
theorem FU:bx g_ g_ (ba BG):=bH
def tV:Sp:=λvs H Q _=>∃i:Int,vs=[.int i]/\Q (.bl true) H
theorem mv_(F:bp K "is_whole" "is_whole" BG f fd)(B:Bi mg):!aj aZ 1 f fd g_ tV:=by
 exists F.bG FU;let#[i,rfl,k]:=h;apply#[_,aE (bo (sU (cQ o9 (by rfl) B.mF mT %[0,o7 (v:=.ty "int") (by rfl) B.int EG Z|0]) (o6 (ma_ (cQ o9 (by rfl) B.mF mT %[0,o7 (v:=.ty "bool") (by rfl) B.bool PyProof.Rows.Boot.«bool» rfl|0]))))),?_];exact#[_,Z,_,_,_,_,Z,.int i,Z,_,Z,fw #[_,Z,_,_,_,_,Z,.int i,Z,_,Z,k]]
theorem ji_(F:bp K "is_whole_within" "is_whole_within" nZ f fd)(cI:!br 1 "is_whole" g_ tV):!aj aZ 2 f fd mh Rc:=by
 exists F.bG xY;let#[i,a,b,rfl,k]:=h;apply#[_,aE (bo (sU (aX cI hr %[0|0]) (o6 (Yb yX yX (pv 1) (pv 0) (pv 2))))),?_];apply#[_,Z,i,Z,_,Z,fw ?_];apply#[_,Z,_,Z,_,_,Z,Z,_,Z,?_];apply aQ (λc=>?_) (λc=>?_)
 ·apply#[_,Z,_,_,Z,Z,?_];rw[c] at k;exact k
 rw[show decide (a<=i)=false by simpa using c] at k;exact k
def lG(c:Nat):Bool:=decide (97<=c)&&decide (c<=122)
def jK(x:Str):Bool:=decide (1<=x.length)&&decide (x.length<=8)&&x.cps.toList.all lG
theorem Bu:bx g_ g_ (ba uy):=bH
def LM:Sp:=λvs H Q _=>∃x:Str,vs=[.str x]/\x.length<=100000/\∀H',aa H H'->Q (.bl (jK x)) H'
theorem kY_{c:Nat}:(!decide ((⟨(List.toArray [c])⟩:Str).cps.toList<("a":Str).cps.toList))=decide (97<=c):=by
 have e:("a":Str).cps.toList=[97]:=by decide +kernel
 rw[e];show (!decide ([c] < [97]))=decide (97<=c);by_cases h:97<=c
 ·have:¬[c] < [97]:=by simp[List.cons_lt_cons_iff];omega
  simp[this,h]
 have:[c] < [97]:=by simp[List.cons_lt_cons_iff];omega
 simp[this,h]
theorem kN_{c:Nat}:(!decide (("z":Str).cps.toList<(⟨(List.toArray [c])⟩:Str).cps.toList))=decide (c<=122):=by
 have e:("z":Str).cps.toList=[122]:=by decide +kernel
 rw[e];show (!decide ([122] < [c]))=decide (c<=122);by_cases h:c<=122
 ·have:¬[122] < [c]:=by simp[List.cons_lt_cons_iff];omega
  simp[this,h]
 have:[122] < [c]:=by simp[List.cons_lt_cons_iff];omega
 simp[this,h]
theorem l6_(F:bp K "is_name" "is_name" uy f fd)(B:Bi mg){t8:Tok}(m8:mg "MOST_LETTERS"\.int 8 t8):!aj aZ 1 f fd g_ LM:=by
 exists F.bG Bu;let#[x,rfl,hz,k]:=h;let sz:=cc
 apply#[_,ak (bP (AD (hU (fZ (cQ o9 (by rfl) B.mF mT %[0,o7 (v:=.ty "str") (by rfl) B.str Ia Z|0])))
   (AR (hU (Xt yX yX aI (cQ ZR (by rfl) B.len jJ %[0|0]) (Dh (v:=.int 8) (by rfl) m8 #[t8,Z]))))).pt (aE (bo CD)) bQ)
  (aE (bo (cQ (j7_ Z) (by rfl) B.all PyProof.Rows.Boot.«all» (dE
   (i4 ["letter"] 1 [] (mq_ (pv 0)) (λfp s H=>e_ (i:=0) (show (["letter"]:ae).Nodup by decide +kernel) Z (Or.inl Z)) (λfp s H=>iH) (λfp s H=>Yb Yp Yp cn (pv 0) cn)) aJ)))),?_]
 apply#[_,Z,_,_,_,_,Z,.str x,Z,_,Z,?_];apply bE ?_;apply#[_,Z,x,Z,by omega,_,_,Z,Z,_,Z,?_]
 have fin:(decide (1<=x.length)&&decide (x.length<=8))=false->∀H',aa H H'->Q (.bl false) H':=λe H' sm=>by
  have:=k H' sm;rwa [show jK x=false by unfold jK;rw[e];rfl] at this
 apply aQ (λc=>?_) (λc=>?_)
 ·have c1:1<=x.length:=by
   have:(1:Int)<=(x.length:Int):=⇑c
   omega
  apply#[_,_,Z,Z,_,Z,?_];apply aQ (λc2=>?_) (λc2=>?_)
  ·-- too long
   have c3:¬x.length<=8:=by
    have:¬((x.length:Int)<=8):=⇑c2
    omega
   exact fin (by rw[dU c3,pb]) H (aa.refl H)
  have c3:x.length<=8:=by
   have:(x.length:Int)<=8:=⇑c2
   omega
  apply#[_,Z,x,Z,λD hD=>?_]
  let T6:dH:=λi out H'=>H'=upd H D (.lst out)/\out=((x.cps.toList.take i).map lG).map V.bl
  apply zk (own:=1) (fv:=[]) Z ee x.cps.size T6 #[Z,by simp] (λout H' ⟨e1,e2⟩=>?_) (λi out H' hi ⟨e1,e2⟩=>?_)
  ·apply#[bq _,D,x.cps.toList.map lG,Z,.of ?_,?_]
   ·rw[e1,ay,e2,xF Z2]
   have:=k H' (by rw[e1];exact aa.new hD);rwa [show jK x=(x.cps.toList.map lG).all id by unfold jK;rw[cw c1,cw c3,List.all_map];rfl] at this
  apply#[hi,λv H2 y=>?_];let#[eH,c,hc,rfl]:=y;subst eH;apply#[_,Z,Z,λNx hN=>dW ?_]
  have lo:out.length<sizeLine:=by
   rw[e2];have hs:x.length=x.cps.size:=rfl;simp only[ao,cX,sY];omega
  have nx:Nx (upd H2 D (.lst (out++[V.bl (lG c)]))):=hN (out++[V.bl (lG c)]) _ #[by rw[e1,le_],by
   rw[e2,iw];simp[hc]]
  have Z7:H2 D\.lst out:=by rw[e1,ay]
  apply#[_,Z,_,_,Z,Z,_,Z,?_];rw[kY_];apply aQ (λc2=>?_) (λc2=>?_)
  ·apply#[_,_,Z,Z,out,Z7,lo,?_];rw[kN_];rwa [show lG c=decide (c<=122) by unfold lG;rw[c2];rfl] at nx
  apply#[out,Z7,lo,?_];rwa [show lG c=false by unfold lG;rw[show decide (97<=c)=false by simpa using c2];rfl] at nx
 have c1:¬1<=x.length:=by
  have:¬((1:Int)<=(x.length:Int)):=⇑c
  omega
 exact#[_,Z,fw (fin (by rw[dU c1];rfl) H (aa.refl H))]
end
def kT(t:Str × Str):aM:=[.inr t.1,.inr t.2]
def CK(t:Str × Str):Prop:=jK t.1=true/\jK t.2=true/\t.1≠t.2
theorem My{x:Str}(h:jK x=true):x.length<=8:=by
 unfold jK at h;simp only[xI,mO] at h;exact h.1.2
theorem wQ{H:Hp}{p:Addr}{t:Str × Str}(h:H p\.tup ((kT t).map kV)):H p\.tup [.str t.1,.str t.2]:=h
variable{ks:List aM}
variable{D:Addr}{o:HO}
section v
theorem Bt:bx g_ g_ (ba uw):=bH
def tT:Sp:=λvs H Q _=>∃(p:Addr) (a b:Str),vs=[.ref p]/\H p\.tup [.str a,.str b]/\a.length<=100000/\b.length<=100000/\∀H',aa H H'->Q (.bl (jK a&&jK b&&!decide (a=b))) H'
theorem lf_(F:bp K "is_pair_of_names" "is_pair_of_names" uw f fd)(B:Bi mg)(cN:!br 1 "is_name" g_ LM):!aj aZ 2 f fd g_ tT:=by
 exists F.bG Bt;let#[p,a,b,rfl,hp,la,lb,k]:=h
 apply#[_,ak (bP (AD (hU (fZ (cQ o9 (by rfl) B.mF mT %[0,o7 (v:=.ty "tuple") (by rfl) B.tuple RG Z|0])))
   (AR (c_ CJ (cQ mR (by rfl) B.len jJ %[0|0]) aI))).pt (aE (bo CD)) bQ)
  (aE (bo (sU (aX cN hr %[bM eP (pv 0) aI|0]) (sU (aX cN hr %[bM eP (pv 0) aI|0])
   (o6 (iI CJ (bM eP (pv 0) aI) (bM eP (pv 0) aI))))))),?_]
 apply#[_,Z,_,_,_,_,Z,.tup hp,Z,_,Z,bE ?_];apply#[_,Z,p,_,Z,.inr (.of hp),Z,_,Z,?_];apply vk (show V.int ((2:Nat):Int)=V.int 2 from Z) ?_;apply#[_,Z,p,_,_,_,Z,Z,.of hp,Z,a,Z,la,λH1 s1=>#[_,Z,?_]];let Lv:=s1 _ _ hp;apply aQ (λc=>?_) (λc=>?_)
 ·apply#[_,Z,p,_,_,_,Z,Z,.of Lv,Z,b,Z,lb,λH2 s2=>#[_,Z,?_]];let ql:=s2 _ _ Lv;let kk:=k H2 (s1.trans s2);apply aQ (λc2=>?_) (λc2=>?_)
  ·apply#[_,Z,p,_,_,_,Z,Z,.of ql,Z,_,Z,p,_,_,_,Z,Z,.of ql,Z,Z,?_];rw[c,c2] at kk
   have e:decide (V.str a=V.str b)=decide (a=b):=by
    by_cases z:a=b
    ·simp[z]
    simp[z]
   show Q (.bl (!decide (V.str a=V.str b))) H2;rw[e];exact kk
  rw[c,show jK b=false by simpa using c2] at kk;exact kk
 let kk:=k H1 s1;rw[show jK a=false by simpa using c] at kk;exact kk
theorem MS:bx ["ties","found","pair","tie"] ["ties"] (ba RE):=bH
def Si(K:af):Sp:=λvs H Q _=>∃(l:Addr) (ys:ai) (ts:Xb),vs=[.ref l]/\H l\.lst ys/\bg K H ys (ts.map kT)/\(∀t∈ts,CK t)/\(ts.map λt=>kT (aL t.1 t.2)).Nodup/\ts.length<64 /\
 ∀l' zs H',aa H H'->H l'=none->H' l'\.lst zs->bg K H' zs (aU (ts.map λt=>kT (aL t.1 t.2)))->Q (.ref l') H'
theorem jx{α β γ:Type}{F:α->γ->Prop}{g:β->γ}{ys:List α}{ts:List β}(t:Paired F ys (ts.map g)){i:Nat}{y:α}(h:ys[i]? = some y):∃x,ts[i]? = some x/\F y (g x):=by
 have hi:i<ys.length:=(cq.mp h).1;let hl:=bK t;rw[ao] at hl;have:=iz t i hi (by rw[ao];omega);rw[List.getElem_map] at this;apply#[ts[i],dB Z1,?_];rw[(cq.mp h).2] at this;exact this
theorem A4{κ:Type}[DecidableEq κ]{kvs:List (κ × V)}{k:κ}(h:k∉kvs.map (·.1)):bL kvs k=none:=by
 cases e:bL kvs k with
 |none=>rfl
 |some v=>exact absurd (kZ_ e) h
theorem A5{α β:Type}(g:α->β){ts:List α}{i:Nat}{x:α}(h:ts[i]? = some x):(ts.take (i+1)).map g=(ts.take i).map g++[g x]:=by
 rw[iw,h,bY];rfl
theorem Jp{α β:Type}{g:α->β}{ts:List α}{i:Nat}{x:α}(h:(ts.map g).Nodup)(hx:ts[i]? = some x):g x∉(ts.take i).map g:=by
 intro m;have hi:i<ts.length:=(cq.mp hx).1;let#[y,hy,e]:=bh.mp m;let#[j,hj,e2]:=si hy;rw[cX] at hj;rw[List.getElem_take] at e2;rw[xG,pe,List.pairwise_iff_getElem] at h;apply h j i Z1 hi Z1 ?_;rw[e2,e,(cq.mp hx).2]
theorem i9_(F:bp K "sorted_ties" "sorted_ties" RE f fd)(B:Bi mg)(cP:!br 2 "is_pair_of_names" g_ tT)(cL:!br 1 "lesser_first" sQ MP):!aj aZ 3 f fd ["ties"] (Si K):=by
 exists F.bG MS;let#[l,ys,ts,rfl,hl,tu,good,nd,cz,k]:=h;let hu:=eO hr;let sz:=cc
 apply#[_,ak (bP (hU (fZ (cQ o9 (by rfl) B.mF mT %[0,o7 (v:=.ty "list") (by rfl) B.list zm Z|0]))) fH bQ)
  (ak (aO 1 MS.nd jQ_)
  (ak (eE dM Z (dA (pv 0)) (bN 2 MS.nd)
   (ak (bP (hU (fZ (aX cP hr %[2|0]))) fH bQ)
   (ak (aO 3 MS.nd (aX cL hr %[bM eP (pv 2) aI,bM eP (pv 2) aI|0]))
   (ak (bP (AV (EB hu (pv 3) (pv 1))) fH bQ)
   (aE (rW hu (pv 1) (pv 3) CD Z))))))
  (aE (bo (cQ (fh_ Z) (by rfl) B.sorted zh %[1|0]))))),?_]
 apply#[_,Z,_,_,_,_,Z,.lst hl,Z,_,Z,bE ?_];intro d hd;have s0:aa H (upd H d (.dT [])):=aa.new hd
 let T5:bI:=λi σ H2=>∃(v3 v4:aF),σ=[some (.ref l),some (.ref d),v3,v4]/\aa H H2/\H2 d\.dT ((ts.take i).map λt=>(kT (aL t.1 t.2),V.bl true))
 apply#[_,Z,l,Z,#[_,.of (s0 _ _ hl)],fY (K:=K) (a:=l) (xs:=ys) T5 #[none,none,Z,s0,ay] (λi σ H2 _ ⟨_,_,_,s2,_⟩=>.of (s2 _ _ hl)) ?_ ?_]
 ·rintro i y σ H2 hy ⟨v3,v4,rfl,s2,hd2⟩;let#[t,ht,a,rfl,ha]:=jx tu hy;let#[g1,g2,g3]:=good t (cj ht);let wX:=s2 _ _ (wQ ha);apply#[_,Z,a,t.1,t.2,Z,wX,by have:=My g1;omega,by have:=My g2;omega,λH3 s3=>#[_,Z,?_]];let sN:=s3 _ _ wX;let oR:=s3 _ _ hd2;rw[g1,g2,dU g3];apply bE ?_;apply#[_,Z,a,_,_,_,Z,Z,.of sN,Z,_,Z,a,_,_,_,Z,Z,.of sN,Z,t.1,t.2,Z,λb hb=>?_];have s4:aa H3 (upd H3 b (.tup [.str (aL t.1 t.2).1,.str (aL t.1 t.2).2])):=aa.new hb;let WS:=s4 _ _ oR;have WY:upd H3 b (.tup [.str (aL t.1 t.2).1,.str (aL t.1 t.2).2]) b\.tup ((kT (aL t.1 t.2)).map kV):=ay
  have wM:bL ((ts.take i).map λt=>(kT (aL t.1 t.2),V.bl true)) (kT (aL t.1 t.2))=none:=A4 (by
   rw[cm];exact Jp (g:=λt=>kT (aL t.1 t.2)) nd ht)
  apply#[_,Z,_,Z,d,_,Z,.t (k:=kT (aL t.1 t.2)) WS WY,_,Z,?_];rw[wM];apply bE ?_;apply#[_,Z,_,Z,d,_,Z,.t (k:=kT (aL t.1 t.2)) WS WY (by rw[ao,cX];omega),?_];apply#[_,_,Z,λc o e=>?_,?_]
  ·rw[ax (bj e hd)];exact s4 _ _ (s3 _ _ (s2 _ _ e))
  rw[ay,E2 _ wM,A5 _ ht]
 rintro σ H2 ⟨v3,v4,rfl,s2,hd2⟩;let le:=bK tu;rw[ao] at le;rw[le,dz] at hd2;apply#[_,Z,d,_,[true,true],Z,hd2,#[by decide,λk hk=>?_],by rw[ao];exact cz,λl' zs hn tz=>?_]
 ·rw[cm] at hk;let#[t,_,rfl]:=bh.mp hk;rfl
 rw[cm] at tz;exact k l' zs _ (s2.trans (aa.new hn)) (s2.free hn) ay (tz.same (aa.new hn))
theorem BD:bx ["ties"] ["ties"] (ba uP):=bH
def tZ(K:af):Sp:=λvs H Q _=>∃(l:Addr) (ys:ai) (ts:Xb),vs=[.ref l]/\H l\.lst ys/\bg K H ys (ts.map kT)/\ts.length<=1000 /\
 ∀l' zs H',aa H H'->H l'=none->H' l'\.lst zs->bg K H' zs (ts.map kT)->Q (.ref l') H'
theorem vX{K:af}{H:Hp}{ys:ai}{a:Addr}{k:aM}(t:bg K H ys ks)(h:H a\.tup (k.map kV)):bg K H (ys++[.ref a]) (ks++[k]):=Paired.snoc t #[a,Z,h]
theorem fF{H H1:Hp}(h:aa H H1)(hD:H D=none):aa H (upd H1 D o):=λb u e=>by rw[ax (bj e hD)];exact h b u e
theorem jb{K:af}{H:Hp}{ys:ai}{xs:ai}(t:bg K H ys ks)(hD:H D\.lst xs):bg K (upd H D o) ys ks:=Paired.bu t λy k ⟨a,z,q⟩=>#[a,z,by rw[ax (cu q hD nofun)];exact q]
theorem kW_(F:bp K "ties_anew" "ties_anew" uP f fd):!aj aZ 1 f fd ["ties"] (tZ K):=by
 exists F.bG BD;let#[l,ys,ts,rfl,hl,tu,hz,k]:=h;let sz:=cc
 apply#[_,aE (bo (i4 sQ 2 [] (dA (pv 0)) (λfp s H=>II (n:=2) (cU (e_ (i:=0) (show (sQ:ae).Nodup by decide +kernel) Z (Or.inl Z)) (cU (e_ (i:=1) (show (sQ:ae).Nodup by decide +kernel) Z (Or.inl Z)) iA)))
  (λfp s H=>iH) (λfp s H=>eW %[0,1|0]))),?_]
 apply#[_,Z,l,Z,#[_,.of hl],λD hD=>?_];let le:=bK tu;rw[ao] at le
 let T4:dH:=λi out H'=>aa H H'/\H' D\.lst out/\bg K H' out ((ts.take i).map kT)
 apply mU (own:=2) (fv:=[]) (xs:=ys) Z Cw T4 #[aa.new hD,ay,.nil] (λi out H' _ ⟨sm,_,_⟩=>.of (sm _ _ hl)) (λout H' ⟨sm,hd,tz⟩=>?_) (λi x out H' hx ⟨sm,hd,tz⟩=>?_)
 ·rw[le,dz] at tz;exact k D out H' sm hD hd tz
 let#[t,ht,a,rfl,ha]:=jx tu hx;apply#[_,#[a,_,_,Z,.of (sm _ _ (wQ ha)),Z],Z,λNx hN=>dW ?_];apply#[_,Z,_,Z,zl,λp hp=>#[out,(aa.new hp) _ _ hd,?_,?_]]
 ·have:=bK tz;rw[ao,cX] at this;omega
 have ql:upd H' p (.tup [.str t.1,.str t.2]) p\.tup ((kT t).map kV):=ay;apply hN (out++[.ref p]) _ #[fF (sm.trans (aa.new hp)) hD,ay,?_];rw[A5 _ ht];exact jb (vX (tz.same (aa.new hp)) ql) ((aa.new hp) _ _ hd)
end
def kH(h:Str × Int):aM:=[.inr h.1,.inl h.2]
def AA(h:Str × Int):Prop:=jK h.1=true/\1<=h.2/\h.2<=1000
def B2:aM->Key × V
 |[k,v]=>(k,kV v)
 |_=>(.inl 0,.non)
def dN(hs:Xa):List (Key × V):=(aU (hs.map kH)).map B2
theorem Pr{H:Hp}{p:Addr}{t:Str × Int}(h:H p\.tup ((kH t).map kV)):H p\.tup [.str t.1,.int t.2]:=h
theorem Zx:∀(more kvs:List (Key × V)),(kvs.map (·.1)++more.map (·.1)).Nodup->o8 kvs more=kvs++more
 |[],kvs,_=>by
  show kvs=kvs++[];rw[hG]
 |p::more,kvs,h=>by
  show o8 (putK kvs p.1 p.2) more=kvs++p::more
  have hn:bL kvs p.1=none:=A4 λm=>by
   rw[eJ,List.nodup_append] at h;exact h.2.2 p.1 m p.1 cZ Z
  rw[E2 _ hn,Zx more (kvs++[(p.1,p.2)])]
  ·simp
  simpa using h
theorem xx{more:List (Key × V)}(h:(more.map (·.1)).Nodup):o8 [] more=more:=by
 rw[Zx more [] ⇑h];rfl
theorem Zo(hs:Xa):((dN hs).map (·.1)).Perm (hs.map λh=>Sum.inr h.1):=by
 unfold dN;rw[cm];let p:=(mV (hs.map kH)).map λk=>(B2 k).1;rw[cm] at p;exact p
theorem Y8{hs:Xa}(h:(hs.map (·.1)).Nodup):((dN hs).map (·.1)).Nodup:=by
 apply (Zo hs).nodup_iff.mpr ?_;have:(hs.map λh=>(Sum.inr h.1:Key))=(hs.map (·.1)).map Sum.inr:=by rw[cm];rfl
 rw[this,xG,pe];exact h.imp λn e=>n (ik e)
theorem lX{A:Ag}(hr:aY k A)(n:Nat)(h:n+1<=64:=by decide):A.units+n+1<cLine:=by
 have:=hr.units;omega
variable{tk:Tok}
variable{ns:ae}
section v
theorem Bz:bx g_ g_ (ba uG):=bH
def tW:Sp:=λvs H Q _=>∃(p:Addr) (a:Str) (n:Int),vs=[.ref p]/\H p\.tup [.str a,.int n]/\a.length<=100000/\∀H',aa H H'->Q (.bl (jK a&&(decide (1<=n)&&decide (n<=1000)))) H'
theorem lC_(F:bp K "is_hand_with_strength" "is_hand_with_strength" uG f fd)(B:Bi mg)(cN:!br 1 "is_name" g_ LM)(cW:!br 2 "is_whole_within" mh Rc)(mS:mg "MOST_STRENGTH"\.int 1000 tk) :
  aj P w K mg base aZ 3 f fd g_ tW:=by
 exists F.bG Bz;let#[p,a,n,rfl,hp,la,k]:=h
 apply#[_,ak (bP (AD (hU (fZ (cQ o9 (by rfl) B.mF mT %[0,o7 (v:=.ty "tuple") (by rfl) B.tuple RG Z|0])))
   (AR (c_ CJ (cQ mR (by rfl) B.len jJ %[0|0]) aI))).pt (aE (bo CD)) bQ)
  (aE (bo (sU (aX cN hr %[bM eP (pv 0) aI|0]) (o6 (aX cW hr %[bM eP (pv 0) aI,aI,Dh (v:=.int 1000) (by rfl) mS #[tk,Z]|0]))))),?_]
 apply#[_,Z,_,_,_,_,Z,.tup hp,Z,_,Z,bE ?_];apply#[_,Z,p,_,Z,.inr (.of hp),Z,_,Z,?_];apply vk (show V.int ((2:Nat):Int)=V.int 2 from Z) ?_;apply#[_,Z,p,_,_,_,Z,Z,.of hp,Z,a,Z,la,λH1 s1=>#[_,Z,?_]];let Lv:=s1 _ _ hp;let kk:=k H1 s1;apply aQ (λc=>?_) (λc=>?_)
 ·apply#[_,Z,p,_,_,_,Z,Z,.of Lv,Z,n,1,1000,Z,?_];rw[c] at kk;exact kk
 rw[show jK a=false by simpa using c] at kk;exact kk
theorem ub:bx ["hands","found","hand"] ["hands"] (ba BE):=bH
def zR(K:af):Sp:=λvs H Q _=>∃(l:Addr) (ys:ai) (hs:Xa),vs=[.ref l]/\H l\.lst ys/\bg K H ys (hs.map kH)/\(∀h∈hs,AA h)/\(hs.map (·.1)).Nodup/\1<=hs.length/\hs.length<=8 /\
 ∀d H',aa H H'->H d=none->H' d\.dK (dN hs)->Q (.ref d) H'
theorem lZ_(F:bp K "checked_strengths" "checked_strengths" BE f fd)(B:Bi mg)(cH:!br 3 "is_hand_with_strength" g_ tW)(mH:mg "MOST_HANDS"\.int 8 tk):!aj aZ 4 f fd ["hands"] (zR K):=by
 exists F.bG ub;let#[l,ys,hs,rfl,hl,tu,good,nd,h1,h8,k]:=h;let hu:=eO hr;let sz:=cc;let le:=bK tu;rw[ao] at le
 apply#[_,ak (bP (AD (hU (fZ (cQ o9 (by rfl) B.mF mT %[0,o7 (v:=.ty "list") (by rfl) B.list zm Z|0])))
   (AR (hU (Xt yX yX aI (cQ mR (by rfl) B.len jJ %[0|0]) (Dh (v:=.int 8) (by rfl) mH #[tk,Z]))))).pt fH bQ)
  (ak (aO 1 ub.nd Dv)
  (ak (eE dM Z (dA (pv 0)) (bN 2 ub.nd)
   (ak (bP (hU (fZ (aX cH hr %[2|0]))) fH bQ)
   (ak (bP (AV (EB hu (bM eP (pv 2) aI) (pv 1))) fH bQ)
   (aE (rW hu (pv 1) (bM eP (pv 2) aI) (bM eP (pv 2) aI) Z)))))
  (aE (bo (iZ (wb Z) (by rfl) B.dict qF %[cQ (gL_ Z) (by rfl) B.sorted zh %[IM (pv 1)|0]|0]))))),?_]
 apply#[_,Z,_,_,_,_,Z,.lst hl,Z,_,Z,bE ?_];apply#[_,Z,l,_,Z,.inl (.of hl),_,_,Z,Z,_,Z,?_];rw[cw (show (1:Int)<=(ys.length:Int) by omega)];apply fw #[_,_,Z,Z,_,Z,?_];rw[cw (show (ys.length:Int)<=8 by omega)];apply bE ?_;intro d hd;have s0:aa H (upd H d (.dK [])):=aa.new hd
 let T3:bI:=λi σ H2=>∃(v2:aF),σ=[some (.ref l),some (.ref d),v2]/\aa H H2/\H2 d\.dK ((hs.take i).map λh=>(Sum.inr h.1,V.int h.2))
 apply#[_,Z,l,Z,#[_,.of (s0 _ _ hl)],fY (K:=K) (a:=l) (xs:=ys) T3 #[none,Z,s0,ay] (λi σ H2 _ ⟨_,_,s2,_⟩=>.of (s2 _ _ hl)) ?_ ?_]
 ·rintro i y σ H2 hy ⟨v2,rfl,s2,hd2⟩;let#[t,ht,a,rfl,ha]:=jx tu hy;let#[g1,g2,g3]:=good t (cj ht);let wX:=s2 _ _ (Pr ha);apply#[_,Z,a,t.1,t.2,Z,wX,by have:=My g1;omega,λH3 s3=>#[_,Z,?_]];let sN:=s3 _ _ wX;let oR:=s3 _ _ hd2;rw[g1,cw g2,cw g3];apply bE ?_
  have wM:bL ((hs.take i).map λh=>((Sum.inr h.1:Key),V.int h.2)) (Sum.inr t.1)=none:=A4 (by
   rw[cm];let q:=Jp (g:=λh:Str × Int=>h.1) nd ht;intro m;let#[h,hh,e]:=bh.mp m;exact q (bh.mpr #[h,hh,ik e]))
  apply#[_,Z,a,_,_,_,Z,Z,.of sN,Z,_,Z,d,_,Z,.k (k:=Sum.inr t.1) oR,_,Z,?_];rw[wM];apply bE ?_;apply#[_,Z,a,_,_,_,Z,Z,.of sN,Z,_,Z,_,Z,a,_,_,_,Z,Z,.of sN,Z,d,_,Z,.k (k:=Sum.inr t.1) oR (by rw[ao,cX];omega),?_];apply#[_,Z,λc o e=>?_,?_]
  ·rw[ax (bj e hd)];exact s3 _ _ (s2 _ _ e)
  rw[ay,E2 _ wM,A5 _ ht]
 rintro σ H2 ⟨v2,rfl,s2,hd2⟩;rw[le,dz] at hd2;apply#[_,Z,d,_,Z,hd2,λv hv=>?_];have s3:aa H2 (upd H2 v (rY v d)):=aa.new hv;apply#[v,d,_,hs.map λh=>(Sum.inr h.1,Sum.inl h.2),[true,false],Z,ay,s3 _ _ hd2,by rw[cm];rfl,#[by decide,λq hq=>?_],by rw[ao];omega,λl' H4 zs s4 hn tz=>?_]
 ·rw[cm] at hq;let#[h,_,rfl]:=bh.mp hq;rfl
 have ez:((hs.map λh=>((Sum.inr h.1:Key),(Sum.inl h.2:Key))).map λk=>[k.1,k.2])=hs.map kH:=by rw[cm];rfl
 rw[ez] at tz
 have pz:jH K (upd H4 l' (.lst zs)) zs (dN hs):=by
  have shape:∀k∈aU (hs.map kH),∃a b,k=[a,b]:=λk hk=>by
   let#[h,_,e]:=bh.mp ((mV _).mem_iff.mp hk);exact#[_,_,e.symm]
  have gen:∀(ks:List aM) (zs:ai),(∀k∈ks,∃a b,k=[a,b])->bg K (upd H4 l' (.lst zs)) zs ks->jH K (upd H4 l' (.lst zs)) zs (ks.map B2):=λks=>by
   intro zs;generalize upd H4 l' (.lst zs)=HH;intro sh t
   induction t with
   |nil=>exact .nil
   |cons h t ih=>
    let#[a,b,rfl]:=sh _ cZ;exact .cons h (ih λk hk=>sh k (dJ _ hk))
  exact gen _ _ shape (tz.same (aa.new hn))
 apply#[l',zs,_,Z,ay,pz,?_,λd' iS=>?_]
 ·have:=(Zo hs).length_eq;simp only[ao] at this;omega
 rw[xx (Y8 nd)];have FY:aa H (upd H4 l' (.lst zs)):=(s2.trans (s3.trans s4)).trans (aa.new hn);exact k d' _ (FY.trans (aa.new iS)) (FY.free iS) ay
theorem LP:bx ["ties","strengths","found","one","other"] ["ties","strengths"] (ba uq):=bH
inductive nj (K:af) (vs:ai) (H:Hp) (Q:VK) (E:XK):Prop
 |mk:∀(l d:Addr) (ys:ai) (ts:Xb) (kvs:List (Key × V)),vs=[.ref l,.ref d]->H l\.lst ys->bg K H ys (ts.map kT)->(∀t∈ts,CK t)->(ts.map λt=>kT (aL t.1 t.2)).Nodup->ts.length<64->H d\.dK kvs->(∀t∈ts,(bL kvs (Sum.inr t.1)).isSome=true/\(bL kvs (Sum.inr t.2)).isSome=true)->(∀l' zs H',aa H H'->H l'=none->H' l'\.lst zs->bg K H' zs (aU (ts.map λt=>kT (aL t.1 t.2)))->Q (.ref l') H')->nj K vs H Q E
theorem L_(a b:Str):aL a b=(a,b)∨aL a b=(b,a):=by
 unfold aL;split
 ·exact .inl rfl
 exact .inr rfl
theorem lD_(F:bp K "checked_ties" "checked_ties" uq f fd)(B:Bi mg)(cS:!br 3 "sorted_ties" ["ties"] (Si K)):!aj aZ 4 f fd ["ties","strengths"] (nj K):=by
 exists F.bG LP;let#[l,d,ys,ts,kvs,rfl,hl,tu,good,nd,cz,hd,there,k]:=h;let hu:=eO hr
 apply#[_,ak (aO 2 LP.nd (aX cS hr %[0|0]))
  (ak (bP (AV (LW (pv 2))) fH bQ)
  (ak (eE dM Z (dA (pv 2)) (ju Z (cU (bN 3 LP.nd) (cU (bN 4 LP.nd) iA)))
   (aE (bP (AD (AV (Yv hu (pv 3) (pv 1))) (AR (AV (Yv hu (pv 4) (pv 1))))).pt fH bQ)))
  (aE (bo (pv 2))))),?_]
 apply#[_,Z,l,ys,ts,Z,hl,tu,good,nd,cz,λl' zs H1 s1 hf jZ tz=>?_];apply#[_,Z,_,Z,bE ?_]
 let TZ:bI:=λi σ H2=>∃(v3 v4:aF),σ=[some (.ref l),some (.ref d),some (.ref l'),v3,v4]/\H2=H1
 apply#[_,Z,l',Z,#[_,.of jZ],fY (K:=K) (a:=l') (xs:=zs) TZ #[none,none,Z,Z] (λi σ H2 _ ⟨_,_,_,e⟩=>by subst e;exact .of jZ) ?_ ?_]
 ·rintro i y σ H2 hy ⟨v3,v4,rfl,rfl⟩;let ez:=bK tz;have hi:i<zs.length:=(cq.mp hy).1;let#[a,e,ha]:=iz tz i hi Z1;rw[(cq.mp hy).2] at e;subst e;let#[t,ht,e]:=bh.mp ((mV _).mem_iff.mp (jy (show i<(aU (ts.map λt=>kT (aL t.1 t.2))).length by omega)));rw[<- e] at ha;let#[t1,t2]:=there t ht
  have both:(bL kvs (Sum.inr (aL t.1 t.2).1)).isSome=true/\(bL kvs (Sum.inr (aL t.1 t.2).2)).isSome=true:=by
   rcases L_ t.1 t.2 with q|q
   ·rw[q];exact#[t1,t2]
   rw[q];exact#[t2,t1]
  let wV:=s1 _ _ hd;apply#[a,_,Z,.of (wQ ha),Z,_,_,Z,_,_,Z,Z,?_];apply#[_,Z,_,Z,d,_,Z,.k (k:=Sum.inr (aL t.1 t.2).1) wV,_,Z,?_];rw[both.1];apply bE ?_;apply#[_,Z,_,Z,d,_,Z,.k (k:=Sum.inr (aL t.1 t.2).2) wV,_,Z,?_];rw[both.2];apply bE ?_;exact#[_,_,Z,Z]
 rintro σ H2 ⟨v3,v4,rfl,rfl⟩;exact#[_,Z,k l' zs _ s1 hf jZ tz]
def near(ns:ae)(ts:Xb)(n:Str):ae:=ns.filter λo=>decide (aL n o∈ts)
theorem nM:bx ["names","ties","found","hand"] ["names","ties"] (ba ux):=bH
def j9(ns:ae)(as:az):List (Key × V):=(ns.zip as).map λp=>(Sum.inr p.1,V.ref p.2)
inductive nD (K:af) (vs:ai) (H:Hp) (Q:VK) (E:XK):Prop
 |mk:∀(l1 l2:Addr) (ns:ae) (zs:ai) (ts:Xb),vs=[.ref l1,.ref l2]->H l1\.lst (ns.map V.str)->H l2\.lst zs->bg K H zs (ts.map kT)->ns.Nodup->ns.length<=1000->l1≠l2->(∀d as H',aa H H'->H d=none->as.length=ns.length->H' d\.dK (j9 ns as)->(∀(i:Nat) n a,ns[i]? = some n->as[i]? = some a->H a=none/\H' a\.lst ((near ns ts n).map V.str))->Q (.ref d) H')->nD K vs H Q E
theorem Iz{K:af}{H:Hp}:∀{ts:Xb} {zs:ai},bg K H zs (ts.map kT)->Paired (r2 K rS rS H) zs ts
 |[],_,.nil=>.nil
 |t::ts,_,.cons ⟨a,e,h⟩ r=>.cons #[a,_,_,e,.of (wQ h),Z,Z] (Iz r)
theorem i0{i:Nat}{x:V}(h:(ns.map V.str)[i]? = some x):∃n,ns[i]? = some n/\x=.str n:=by
 rw[dR] at h;cases e:ns[i]? with
 |none=>rw[e] at h;cases h
 |some n=>rw[e] at h;exact#[n,Z,(eK h).symm]
theorem ZI{α:Type}(p:α->Bool){l:List α}{i:Nat}{x:α}(h:l[i]? = some x):(l.take (i+1)).filter p=(l.take i).filter p++(if p x then [x] else []):=PySem.take_succ_filter p l i x h
theorem l1_(F:bp K "neighbours_of_all" "neighbours_of_all" ux f fd)(cL:!br 1 "lesser_first" sQ MP):!aj aZ 2 f fd ["names","ties"] (nD K):=by
 exists F.bG nM;let#[l1,l2,ns,zs,ts,rfl,jZ,oO,tz,nd,h8,rH,k]:=h;let hu:=eO hr;let Pi:=hr.units;let sz:=cc
 apply#[_,ak (aO 2 nM.nd Dv)
  (ak (eE dM Z (dA (pv 0)) (bN 3 nM.nd)
   (aE (rW hu (pv 2) (pv 3) (i4 ["other","hand","ties"] 1 [3,1] (dA (pv 0)) (λfp s H=>e_ (i:=0) (show (["other","hand","ties"]:ae).Nodup by decide +kernel) Z (Or.inl Z))
    (λfp s H=>QK (c_ (Ge (K:=K) (λK=>BO K (r2 K rS rS) false) (Ik (zc fQ fQ) (lX hr _))) (aX cL hr %[1,0|0]) (pv 2) (by with_unfolding_all rfl))) (λfp s H=>pv 0)) Z)))
  (aE (bo (pv 2)))),?_]
 intro d hd;have s0:aa H (upd H d (.dK [])):=aa.new hd
 apply#[_,Z,l1,Z,#[_,.of (s0 _ _ jZ)],fY (K:=K) (a:=l1) (xs:=ns.map V.str) (λi σ H2=>∃(v3:aF) (as:az),σ=[some (.ref l1),some (.ref l2),some (.ref d),v3]/\aa H H2/\as.length=i/\H2 d\.dK (j9 (ns.take i) as) /\
  ∀(j:Nat) n a,ns[j]? = some n->as[j]? = some a->H a=none/\a≠d/\H2 a\.lst ((near ns ts n).map V.str)) #[none,[],Z,s0,Z,ay,λj n a _ e=>by simp at e] (λi σ H2 _ ⟨_,_,_,s2,_⟩=>.of (s2 _ _ jZ)) ?_ ?_]
 ·rintro i y σ H2 hy ⟨v3,as,rfl,s2,la,hd2,lists⟩;let#[n,hn,rfl]:=i0 hy;have hi:i<ns.length:=(cq.mp hn).1
  have lk:(j9 (ns.take i) as).length=i:=by
   unfold j9;rw[ao,List.length_zip,cX];omega
  apply#[_,Z,l1,Z,#[_,.of (s2 _ _ jZ)],λD hD=>?_]
  let TY:dH:=λj out H'=>aa H2 H'/\H' D\.lst out/\out=((ns.take j).filter λo=>decide (aL n o∈ts)).map V.str
  apply mU (own:=1) (fv:=[some (.str n),some (.ref l2)]) (xs:=ns.map V.str) Z ee TY #[aa.new hD,ay,Z] (λj out H' _ ⟨sm,_,_⟩=>.of (sm _ _ (s2 _ _ jZ))) (λout H' ⟨sm,eN,eo⟩=>?_) (λj x out H' hx ⟨sm,eN,eo⟩=>?_)
  ·rw[ao,dz] at eo
   have wM:bL (j9 (ns.take i) as) (Sum.inr n)=none:=A4 λm=>by
    unfold j9 at m;rw[cm] at m;let#[p,hp,e]:=bh.mp m;have e:p.1=n:=ik e;let q:=Jp (g:=id) (by rw[List.map_id];exact nd) hn;rw[List.map_id] at q;exact q (e▸(List.of_mem_zip hp).1)
   have UW:D≠d:=λz=>by subst z;rw[hD] at hd2;cases hd2
   apply#[_,Z,_,Z,d,_,Z,.k (k:=Sum.inr n) (sm _ _ hd2) Z1,?_];apply#[_,as++[D],Z,λc o e=>?_,by rw[eA,la];rfl,?_,λj n' a Hg ha=>?_]
   ·rw[ax (bj e hd)];exact sm _ _ (s2 _ _ e)
   ·rw[ay,E2 _ wM];congr 2;unfold j9;rw[iw,hn,List.zip_append (by rw[cX];omega),bY];rfl
   by_cases hj:j<as.length
   ·rw[Dz hj] at ha;let#[q1,q2,q3]:=lists j n' a Hg ha;apply#[q1,q2,?_];rw[ax q2];exact sm _ _ q3
   have WK:j=i:=by
    have:=(cq.mp ha).1;rw[eA] at this;simp only[Dp] at this;omega
   subst WK;rw[A7 Z1,la,Nat.sub_self] at ha;have ha:D=a:=⇑ha
   subst ha;rw[hn] at Hg;cases Hg;apply#[s2.free hD,UW,?_];rw[ax UW,eN,eo];rfl
  let#[o,ho,rfl]:=i0 hx;apply#[_,Z,Z,λNx hN=>?_];apply#[_,Z,_,Z,n,o,Z,λt ht=>?_];have s3:aa H' (upd H' t (.tup [.str (aL n o).1,.str (aL n o).2])):=aa.new ht;let tz':=((tz.same s2).same sm).same s3
  have lo:out.length<sizeLine:=by
   rw[eo,ao];have:=xD (λo=>decide (aL n o∈ts)) (ns.take j);rw[cX] at this;omega
  apply#[_,Z,aL n o,ts,#[t,_,_,Z,.of ay,Z,Z],#[l2,zs,Z,.of (s3 _ _ (sm _ _ (s2 _ _ oO))),Iz tz'],_,Z,?_];apply aQ (λc=>?_) (λc=>?_)
  ·apply#[_,Z,out,s3 _ _ eN,lo,hN _ _ #[fF (sm.trans s3) hD,ay,?_]];have c:decide (aL n o∈ts)=true:=⇑c
   rw[ZI _ ho,aB c,bY,eo];rfl
  apply hN _ _ #[sm.trans s3,s3 _ _ eN,?_];have c:¬decide (aL n o∈ts)=true:=⇑c
  rw[ZI _ ho,au c,hG,eo]
 rintro σ H2 ⟨v3,as,rfl,s2,la,hd2,lists⟩;rw[ao] at la hd2;rw[dz] at hd2;exact#[_,Z,k d as _ s2 hd la hd2 λj n a h1 h2=>#[(lists j n a h1 h2).1,(lists j n a h1 h2).2.2]]
end
abbrev uE:Stmt:=kA jR 0
abbrev yi:Stmt:=kA jR 1
abbrev oC:Stmt:=kA jR 2
abbrev RW:Stmt:=kA jR 3
abbrev ow:Stmt:=kA jR 4
abbrev ur:Stmt:=kA jR 5
abbrev oh:Stmt:=kA jR 6
abbrev uA:Stmt:=kA jR 7
def HU:aM->Str
 |.inr a::_=>a
 |_=>⟨#[]⟩
def Nh:aM->Str × Str
 |[.inr a,.inr b]=>(a,b)
 |_=>(⟨#[]⟩,⟨#[]⟩)
def aD(hs:Xa):ae:=(aU (hs.map kH)).map HU
def aK(ts:Xb):Xb:=(aU (ts.map λt=>kT (aL t.1 t.2))).map Nh
theorem Jt(ts:Xb):(aK ts).map kT=aU (ts.map λt=>kT (aL t.1 t.2)):=by
 unfold aK;rw[cm]
 have all:∀k∈aU (ts.map λt=>kT (aL t.1 t.2)),∃t:Str × Str,k=kT t:=λk hk=>by
  let#[t,_,e]:=bh.mp ((mV _).mem_iff.mp hk);exact#[_,e.symm]
 generalize aU (ts.map λt=>kT (aL t.1 t.2))=l at all
 induction l with
 |nil=>rfl
 |cons k l ih=>
  let#[t,rfl]:=all k cZ;rw[eJ,ih λk hk=>all k (dJ _ hk)];rfl
theorem M0(hs:Xa):∀k∈aU (hs.map kH),∃h:Str × Int,h∈hs/\k=kH h:=λk hk=>by
 let#[t,ht,e]:=bh.mp ((mV _).mem_iff.mp hk);exact#[t,ht,e.symm]
theorem Xz(hs:Xa):((dN hs).map λkv=>kV kv.1)=(aD hs).map V.str:=by
 unfold dN aD;rw[cm,cm];apply qH λk hk=>?_;let#[h,_,rfl]:=M0 hs k hk;rfl
theorem Yf(hs:Xa):(dN hs).map (·.1)=(aD hs).map Sum.inr:=by
 unfold dN aD;rw[cm,cm];apply qH λk hk=>?_;let#[h,_,rfl]:=M0 hs k hk;rfl
theorem fG(hs:Xa):(aD hs).Perm (hs.map (·.1)):=by
 unfold aD;let p:=(mV (hs.map kH)).map HU;rw[cm] at p;exact p
theorem YN{κ:Type}[DecidableEq κ]{kvs:List (κ × V)}{k:κ}(h:k∈kvs.map (·.1)):(bL kvs k).isSome=true:=by
 rw[<- IU];let#[p,hp,e]:=bh.mp h;exact List.any_eq_true.mpr #[p,hp,cw e]
theorem Mb{hs:Xa}{n:Str}:(bL (dN hs) (Sum.inr n)).isSome=decide (n∈hs.map (·.1)):=by
 by_cases h:n∈hs.map (·.1)
 ·rw[cw h];apply YN ?_;rw[Yf];exact bh.mpr #[n,(fG hs).mem_iff.mpr h,Z]
 rw[dU h,A4]
 ·rfl
 rw[Yf];intro m;let#[x,hx,e]:=bh.mp m;cases e;exact h ((fG hs).mem_iff.mp hx)
theorem DT:¬((w9:Str)="sorted_pairs"):=by decide +kernel
theorem Oy:¬((w9:Str)=CU):=by decide +kernel
theorem n23:¬(("sorted_pairs":Str)=CU):=by decide +kernel
def dj(d1 l2 d3:Addr):List (Str × V):=aH CU (.ref d3) (aH "sorted_pairs" (.ref l2) (aH w9 (.ref d1) []))
theorem LC(d1 l2 d3:Addr):(dj d1 l2 d3).lookup (w9:Str)\.ref d1:=by
 unfold dj;rw[fJ,au Oy,fJ,au DT,fJ,aB Z]
theorem lQ_(d1 l2 d3:Addr):(dj d1 l2 d3).lookup ("sorted_pairs":Str)\.ref l2:=by
 unfold dj;rw[fJ,au n23,fJ,aB Z]
theorem O5(d1 l2 d3:Addr):(dj d1 l2 d3).lookup (CU:Str)\.ref d3:=by
 unfold dj;rw[fJ,aB Z]
variable{m:Str}
theorem ka(d1 l2 d3:Addr)(h1:¬m=w9)(h2:¬m="sorted_pairs")(h3:¬m=CU):(dj d1 l2 d3).lookup m=none:=by
 unfold dj;rw[fJ,au h3,fJ,au h2,fJ,au h1]
 all_goals rfl
structure hE (K:af) (C:Addr) (H:Hp) (p:Addr) (hs:Xa) (ts:Xb) (fp:az):Prop where
 ex:∃(dx d1 l2 d3:Addr) (zs:ai) (as:az),fp=p::d1::l2::d3::as/\H p\.ins C dx (dj d1 l2 d3)/\H d1\.dK (dN hs)/\H l2\.lst zs/\bg K H zs ((aK ts).map kT)/\H d3\.dK (j9 (aD hs) as)/\as.length=(aD hs).length /\
  ∀(i:Nat) n a,(aD hs)[i]? = some n->as[i]? = some a->H a\.lst ((near (aD hs) (aK ts) n).map V.str)
variable{H':Hp}
theorem hE.keep{K:af}{C:Addr}{H:Hp}{p:Addr}{hs:Xa}{ts:Xb}{fp:az}(W:hE K C H p hs ts fp)(k:∀b∈fp,∀o,H b\o->H' b\o)(kt:∀b xs,H b\.tup xs->H' b\.tup xs):hE K C H' p hs ts fp:=by
 let#[dx,d1,l2,d3,zs,as,rfl,h1,h2,h3,h4,h5,h6,h7]:=W.ex;apply#[dx,d1,l2,d3,zs,as,Z,k _ Z2 _ h1,k _ Z2 _ h2,k _ Z2 _ h3,Paired.bu h4 λy q ⟨a,e,z⟩=>#[a,e,kt _ _ z],k _ Z2 _ h5,h6,λi n a e1 e2=>k _ ?_ _ (h7 i n a e1 e2)];have:=cj e2;simp[this]
theorem hE.same{K:af}{C:Addr}{H:Hp}{p:Addr}{hs:Xa}{ts:Xb}{fp:az}(W:hE K C H p hs ts fp)(s:aa H H'):hE K C H' p hs ts fp:=W.keep (λb _ o e=>s b o e) λb xs e=>s b _ e
structure Good (hs:Xa) (ts:Xb):Prop where
 aN:∀h∈hs,AA h
 qo:(hs.map (·.1)).Nodup
 h1:1<=hs.length
 h8:hs.length<=8
 tok:∀t∈ts,CK t
 Bh:(ts.map λt=>kT (aL t.1 t.2)).Nodup
 sk:ts.length<64
 qZ:∀t∈ts,t.1∈hs.map (·.1)/\t.2∈hs.map (·.1)
theorem Good.sE{hs:Xa}{ts:Xb}(G:Good hs ts):(aD hs).Nodup:=(fG hs).nodup_iff.mpr G.qo
theorem Good.eU{hs:Xa}{ts:Xb}(G:Good hs ts):(aD hs).length=hs.length:=by
 rw[(fG hs).length_eq,ao]
theorem E1(ts:Xb):(aK ts).length=ts.length:=by
 unfold aK;rw[ao,(mV _).length_eq,ao]
structure Txt (K:af) (mg:Str->Option Aa) (C:Addr):Prop where
 cl:pC K C
 nS:mQ K C w9
 nP:mQ K C "sorted_pairs"
 nN:mQ K C CU
section v
theorem nO:bx ["self","hands","ties","strengths","checked"] ["self","hands","ties"] (ba uE):=bH
inductive nI (K:af) (C:Addr) (vs:ai) (H:Hp) (Q:VK) (E:XK):Prop
 |mk:∀(p dx lh lt:Addr) (ys zs:ai) (hs:Xa) (ts:Xb),vs=[.ref p,.ref lh,.ref lt]->H p\.ins C dx []->H lh\.lst ys->bg K H ys (hs.map kH)->H lt\.lst zs->bg K H zs (ts.map kT)->Good hs ts->(∀fp H',(∀b o,H b\o->b≠p->H' b\o)->hE K C H' p hs ts fp->(∀b∈fp,b=p∨H b=none)->Q .non H')->nI K C vs H Q E
theorem kE_{C:Addr}(F:bp K "__init__" "Web.__init__" uE f fd)(T:Txt K mg C)(B:Bi mg)(cS:!br 4 "checked_strengths" ["hands"] (zR K))(cT:!br 4 "checked_ties" ["ties","strengths"] (nj K))(cN:!br 2 "neighbours_of_all" ["names","ties"] (nD K)) :
  aj P w K mg base aZ 5 f fd ["self","hands","ties"] (nI K C):=by
 exists F.bG nO;let#[p,dx,lh,lt,ys,zs,hs,ts,rfl,hp,ig,th,dm,tt,G,k]:=h
 apply#[_,ak (aO 3 nO.nd (aX cS hr %[1|0]))
  (ak (aO 4 nO.nd (aX cT hr %[2,3|0]))
  (ak (xj (pv 0) (pv 3) Z) (ak (xj (pv 0) (pv 4) Z)
  (aE (xj (pv 0) (aX cN hr %[iZ (S7 Z) (by rfl) B.list zm %[3|0],4|0]) Z))))),?_]
 apply#[_,Z,lh,ys,hs,Z,ig,th,G.aN,G.qo,G.h1,G.h8,λd1 H1 s1 f1 wV=>?_];apply#[_,Z,_,Z,lt,d1,zs,ts,_,Z,s1 _ _ dm,tt.same s1,G.tok,G.Bh,G.sk,wV,λt ht=>?_,λl2 Ff H2 s2 f2 oO tz=>?_]
 ·rw[Mb,Mb];exact#[cw (G.qZ t ht).1,cw (G.qZ t ht).2]
 let Cs:=s2 _ _ wV;let ql:=s2 _ _ (s1 _ _ hp);have p1:p≠d1:=cu ql Cs nofun;have p2:p≠l2:=cu ql oO nofun;apply#[_,Z,_,Z,p,C,dx,[],Z,ql,T.cl,T.nS,by show 0<1000;decide,?_];apply#[_,Z,_,Z,p,C,dx,_,Z,ay,T.cl,T.nP,by show 1<1000;decide,?_]
 let H3:Hp:=upd (upd H2 p (.ins C dx (aH w9 (.ref d1) []))) p (.ins C dx (aH "sorted_pairs" (.ref l2) (aH w9 (.ref d1) [])))
 have h3:∀{b o},H2 b\o->b≠p->H3 b\o:=λe ne=>by
  show upd (upd H2 p _) p _ _=_;rw[ax ne,ax ne];exact e
 have Qm:H3 p\.ins C dx (aH "sorted_pairs" (.ref l2) (aH w9 (.ref d1) [])):=ay
 have Gp:∀{b},H3 b=none->H2 b=none:=λ{b} e=>by
  by_cases z:b=p
  ·subst z;rw[Qm] at e;cases e
  have e:upd (upd H2 p _) p _ b=none:=e;rw[ax z,ax z] at e;exact e
 have Ui:bg K H3 Ff ((aK ts).map kT):=by
  rw[Jt];exact Paired.bu tz λy q ⟨a,e,z⟩=>#[a,e,h3 z (cu z ql nofun)]
 apply#[_,Z,d1,_,Z,.inl (h3 Cs p1.symm),λl1 jZ=>?_];rw[Xz];have s4:aa H3 (upd H3 l1 (.lst ((aD hs).map V.str))):=aa.new jZ;have Ou:l1≠l2:=(bj (H:=H3) (h3 oO p2.symm) jZ).symm;apply#[_,Z,l1,l2,aD hs,Ff,aK ts,Z,ay,s4 _ _ (h3 oO p2.symm),Ui.same s4,G.sE,by rw[G.eU];have:=G.h8;omega,Ou,λd3 as H5 s5 f5 la oR lists=>?_];let D0:=s5 _ _ (s4 _ _ Qm);apply#[_,Z,p,C,dx,_,Z,D0,T.cl,T.nN,by show 2<1000;decide,?_]
 have up:∀{b o},H2 b\o->b≠p->upd H5 p (.ins C dx (dj d1 l2 d3)) b\o:=λe ne=>by
  rw[ax ne];exact s5 _ _ (s4 _ _ (h3 e ne))
 have qy:∀{b},upd H3 l1 (.lst ((aD hs).map V.str)) b=none->H b=none:=λe=>s1.free (s2.free (Gp (s4.free e)));have P8:d3≠p:=(bj (s4 _ _ Qm) f5).symm;apply k (p::d1::l2::d3::as) _ (λb o e ne=>up (s2 _ _ (s1 _ _ e)) ne) #[dx,d1,l2,d3,Ff,as,Z,ay,up Cs p1.symm,up oO p2.symm,?_,?_,la,λi n a e1 e2=>?_] λb hb=>?_
 ·exact Paired.bu (Ui.same (s4.trans s5)) λy q ⟨a,e,z⟩=>#[a,e,by rw[ax (cu z D0 nofun)];exact z]
 ·rw[ax P8];exact oR
 ·let#[q1,q2]:=lists i n a e1 e2;rw[ax (cu q2 D0 nofun)];exact q2
 simp only[bX] at hb;rcases hb with rfl|rfl|rfl|rfl|hb
 ·exact .inl Z
 ·exact .inr f1
 ·exact .inr (s1.free f2)
 ·exact .inr (qy f5)
 let#[i,hi,e]:=si hb;have e1:as[i]? = some b:=by rw[dB hi,e]
 have hn:i<(aD hs).length:=by omega
 exact .inr (qy (lists i _ b (dB hn) e1).1)
end
structure bF (P:Ae) (w:Af) (K:af) (mg:Str->Option Aa) (base:Heap) (C:Addr) (k:Nat) (m:Str) (ps:ae) (sp:Sp):Prop where
 ex:∃f fd,aj P w K mg base aZ k f fd ps sp/\Meth K C m f/\rR K fd ps []
variable{o:Expr}{apos:Pos}{ta:TE}{pl:Sem Bool}
theorem fX{C:Addr}(c:bF X.prog X.w X.K X.mg X.base C k m ps sp)(cl:pC X.K C)(hr:aY k X.A)(he:PE X o ta)(ha:PA X (e::es) t)(B8:starEach (e::es) X.env=(false,eval e X.env)::starEach es X.env:=by rfl)(mI:(backTo pos (starEach es X.env)).any (·.1)=false:=by rfl)(ht:eval (.Call (.Attribute o m apos) (e::es) [] pos) X.env=(do
   let ov <- eval o X.env
   standAt apos.atName
   let (f,first) <- holding [ov] (getMethod ov m pl)
   callWith pos f first (backTo pos (starEach (e::es) X.env)) (backToKw pos (keywordEach [] X.env))):=by rfl) :
  PE X (.Call (.Attribute o m apos) (e::es) [] pos) (pL C m sp [] E0 ta t):=by
 let#[f,fd,F,hm,b]:=c.ex;exact lq_ he cl hm F hr b .nil lF ha B8 mI ht
theorem AS{C:Addr}(c:bF X.prog X.w X.K X.mg X.base C k m ps sp)(cl:pC X.K C)(hr:aY k X.A)(he:PE X o ta)(ht:eval (.Call (.Attribute o m apos) [] [] pos) X.env=(do
   let ov <- eval o X.env
   standAt apos.atName
   let (f,first) <- holding [ov] (getMethod ov m pl)
   callWith pos f first (backTo pos (starEach [] X.env)) (backToKw pos (keywordEach [] X.env))):=by rfl) :
  PE X (.Call (.Attribute o m apos) [] [] pos) (pL C m sp [] E0 ta jQ):=by
 let#[f,fd,F,hm,b]:=c.ex;exact jE_ he cl hm F hr b .nil lF ht
theorem gW_{hs:Xa}(nd:(hs.map (·.1)).Nodup){x:Str}{n:Int}(h:(x,n)∈hs):bL (dN hs) (Sum.inr x)\.int n:=by
 have m:((Sum.inr x:Key),V.int n)∈dN hs:=by
  unfold dN;apply bh.mpr #[kH (x,n),(mV _).mem_iff.mpr (bh.mpr #[_,h,Z]),Z]
 let nk:=Y8 nd;generalize dN hs=kvs at m nk
 induction kvs with
 |nil=>cases m
 |cons p r ih=>
  let#[n1,n2]:=r_.mp nk;rcases bX.mp m with e|m
  ·rw[<- e];exact Dt Z
  rw[Ds (λe:p.1=Sum.inr x=>n1 (bh.mpr #[_,m,e.symm]))];exact ih m n2
variable{as:az}
theorem hf_(nd:ns.Nodup)(la:as.length=ns.length){i:Nat}{n:Str}(hn:ns[i]? = some n):∃a,as[i]? = some a/\bL (j9 ns as) (Sum.inr n)\.ref a:=by
 induction ns generalizing as i with
 |nil=>simp at hn
 |cons x ns ih=>
  cases as with
  |nil=>cases la
  |cons b as=>
   let#[n1,n2]:=r_.mp nd;cases i with
   |zero=>
    have e:x=n:=⇑hn
    subst e;exact#[b,Z,Dt Z]
   |succ i=>
    have hn:ns[i]? = some n:=⇑hn
    let#[a,h1,h2]:=ih n2 ⇑la hn;apply#[a,by simpa using h1,?_];show bL ((Sum.inr x,V.ref b)::j9 ns as) (Sum.inr n)=_;rw[Ds λe=>n1 (by rw[show x=n from ik e];exact cj hn)];exact h2
section v
theorem zS:bx qC qC (ba yi):=bH
inductive k4 (K:af) (C:Addr) (vs:ai) (H:Hp) (Q:VK) (E:XK):Prop
 |mk:∀(p:Addr) (x:Str) (hs:Xa) (ts:Xb) (fp:az),vs=[.ref p,.str x]->hE K C H p hs ts fp->Q (.bl (decide (x∈hs.map (·.1)))) H->k4 K C vs H Q E
theorem mr_{C:Addr}(F:bp K "has_hand" "Web.has_hand" yi f fd)(T:Txt K mg C)(B:Bi mg):!aj aZ 1 f fd qC (k4 K C):=by
 exists F.bG zS;let#[p,x,hs,ts,fp,rfl,W,k]:=h;let hu:=eO hr;let#[dx,d1,l2,d3,zs,as,rfl,h1,h2,h3,h4,h5,h6,h7]:=W.ex;apply#[_,aE (bo (sU (cQ o9 (by rfl) B.mF mT %[1,o7 (v:=.ty "str") (by rfl) B.str Ia Z|0]) (o6 (Im (EB hu (pv 1) (eF (pv 0) Z)))))),?_];apply#[_,Z,_,_,_,_,Z,.str x,Z,_,Z,fw ?_];apply#[_,Z,_,Z,p,C,dx,_,_,Z,h1,T.cl,T.nS,LC _ _ _,d1,_,Z,.k (k:=Sum.inr x) h2,?_];rw[Mb];exact k
theorem yg:bx iY iY (ba oC):=bH
inductive EN (K:af) (C:Addr) (vs:ai) (H:Hp) (Q:VK) (E:XK):Prop
 |mk:∀(p:Addr) (hs:Xa) (ts:Xb) (fp:az),vs=[.ref p]->hE K C H p hs ts fp->(∀l,H l=none->Q (.ref l) (upd H l (.lst ((aD hs).map V.str))))->EN K C vs H Q E
theorem jZ_{C:Addr}(F:bp K "hands" "Web.hands" oC f fd)(T:Txt K mg C)(B:Bi mg):!aj aZ 1 f fd iY (EN K C):=by
 exists F.bG yg;let#[p,hs,ts,fp,rfl,W,k]:=h;let#[dx,d1,l2,d3,zs,as,rfl,h1,h2,h3,h4,h5,h6,h7]:=W.ex;apply#[_,aE (bo (iZ (S7 Z) (by rfl) B.list zm %[eF (pv 0) Z|0])),?_];apply#[_,Z,p,C,dx,_,_,Z,h1,T.cl,T.nS,LC _ _ _,d1,_,Z,.inl h2,λl hl=>?_];rw[Xz];exact k l hl
theorem fw':bx kE kE (ba RW):=bH
inductive E4 (K:af) (C:Addr) (vs:ai) (H:Hp) (Q:VK) (E:XK):Prop
 |mk:∀(p:Addr) (x:Str) (n:Int) (hs:Xa) (ts:Xb) (fp:az),vs=[.ref p,.str x]->hE K C H p hs ts fp->(hs.map (·.1)).Nodup->(x,n)∈hs->Q (.int n) H->E4 K C vs H Q E
theorem fo_{C:Addr}(F:bp K "strength" "Web.strength" RW f fd)(T:Txt K mg C)(cH:!bF C 1 "has_hand" qC (k4 K C)):!aj aZ 2 f fd kE (E4 K C):=by
 apply F.bG fw' λaR A outer s H vs Q E hr h=>?_;let#[p,x,n,hs,ts,fp,rfl,W,nd,hx,k]:=h;let hu:=eO hr;let#[dx,d1,l2,d3,zs,as,rfl,h1,h2,h3,h4,h5,h6,h7]:=id W.ex;apply#[_,ak (bP (hU (fZ (fX cH T.cl hr (pv 0) %[1|0]))) fH bQ) (aE (bo (bV hu (eF (pv 0) Z) (pv 1)))),?_];apply#[_,Z,p,dx,_,Z,h1,ka _ _ _ Z0 Z0 Z0,_,Z,p,x,hs,ts,_,Z,W,_,Z,?_];rw[cw (bh.mpr #[_,hx,Z])];apply bE ?_;apply#[_,Z,p,C,dx,_,_,Z,h1,T.cl,T.nS,LC _ _ _,_,Z,d1,_,Z,?_,k];rw[<- gW_ nd hx];exact .k (k:=Sum.inr x) h2
theorem yb:bx kE kE (ba ow):=bH
inductive Ml (K:af) (C:Addr) (vs:ai) (H:Hp) (Q:VK) (E:XK):Prop
 |mk:∀(p:Addr) (x:Str) (hs:Xa) (ts:Xb) (fp:az),vs=[.ref p,.str x]->hE K C H p hs ts fp->(aD hs).Nodup->x∈hs.map (·.1)->(∀l,H l=none->Q (.ref l) (upd H l (.lst ((near (aD hs) (aK ts) x).map V.str))))->Ml K C vs H Q E
theorem Vo{H:Hp}{hs:Xa}{ts:Xb}{x:Str}(nd:(aD hs).Nodup)(hx:x∈hs.map (·.1))(la:as.length=(aD hs).length)(h7:∀(i:Nat) n a,(aD hs)[i]? = some n->as[i]? = some a->H a\.lst ((near (aD hs) (aK ts) n).map V.str)):∃a,bL (j9 (aD hs) as) (Sum.inr x)\.ref a/\H a\.lst ((near (aD hs) (aK ts) x).map V.str):=by
 let#[i,hi,e]:=si ((fG hs).mem_iff.mpr hx);have hn:(aD hs)[i]? = some x:=by rw[dB hi,e]
 let#[a,h1,h2]:=hf_ nd la hn;exact⟨a,h2,h7 i x a hn h1⟩
theorem j0_{C:Addr}(F:bp K "neighbours" "Web.neighbours" ow f fd)(T:Txt K mg C)(B:Bi mg)(cH:!bF C 1 "has_hand" qC (k4 K C)):!aj aZ 2 f fd kE (Ml K C):=by
 exists F.bG yb;let#[p,x,hs,ts,fp,rfl,W,nd,hx,k]:=h;let hu:=eO hr;let#[dx,d1,l2,d3,zs,as,rfl,h1,h2,h3,h4,h5,h6,h7]:=id W.ex;let#[a,e1,ha]:=Vo nd hx h6 h7;apply#[_,ak (bP (hU (fZ (fX cH T.cl hr (pv 0) %[1|0]))) fH bQ) (aE (bo (iZ eI_ (by rfl) B.list zm %[bV hu (eF (pv 0) Z) (pv 1)|0]))),?_];apply#[_,Z,p,dx,_,Z,h1,ka _ _ _ Z0 Z0 Z0,_,Z,p,x,hs,ts,_,Z,W,_,Z,?_];rw[cw hx];apply bE ?_;apply#[_,Z,p,C,dx,_,_,Z,h1,T.cl,T.nN,O5 _ _ _,_,Z,d3,.ref a,Z,?_,a,_,Z,.inl (.of ha),k];rw[<- e1];exact .k (k:=Sum.inr x) h5
theorem Br:bx mL mL (ba ur):=bH
theorem Dr{H:Hp}:∀ns:ae,Paired (rS H) (ns.map V.str) ns
 |[]=>.nil
 |_::ns=>.cons Z (Dr ns)
theorem xZ:bx iY iY (ba oh):=bH
inductive Ri (K:af) (C:Addr) (vs:ai) (H:Hp) (Q:VK) (E:XK):Prop
 |mk:∀(p:Addr) (hs:Xa) (ts:Xb) (fp:az),vs=[.ref p]->hE K C H p hs ts fp->ts.length<64->(∀l zs H',aa H H'->H l=none->H' l\.lst zs->bg K H' zs ((aK ts).map kT)->Q (.ref l) H')->Ri K C vs H Q E
theorem ja_{C:Addr}(F:bp K "ties" "Web.ties" oh f fd)(T:Txt K mg C)(cA:!br 1 "ties_anew" ["ties"] (tZ K)):!aj aZ 2 f fd iY (Ri K C):=by
 exists F.bG xZ;let#[p,hs,ts,fp,rfl,W,cz,k]:=h;let#[dx,d1,l2,d3,zs,as,rfl,h1,h2,h3,h4,h5,h6,h7]:=W.ex;apply#[_,aE (bo (aX cA hr %[eF (pv 0) Z|0])),?_];exact#[_,Z,p,C,dx,_,_,Z,h1,T.cl,T.nP,lQ_ _ _ _,l2,zs,aK ts,Z,h3,h4,by rw[E1];omega,k]
theorem Bw:bx iY iY (ba uA):=bH
def fP(hs:Xa)(ts:Xb):List Int:=(aD hs).map λn=>((near (aD hs) (aK ts) n).length:Int)
inductive nF (K:af) (C:Addr) (vs:ai) (H:Hp) (Q:VK) (E:XK):Prop
 |mk:∀(p:Addr) (hs:Xa) (ts:Xb) (fp:az),vs=[.ref p]->hE K C H p hs ts fp->0<(aD hs).length->(aD hs).length<=1000->(∀m H',aa H H'->m∈fP hs ts->(∀a∈fP hs ts,a<=m)->Q (.int m) H')->nF K C vs H Q E
theorem kK_{C:Addr}(F:bp K "most_neighbours" "Web.most_neighbours" uA f fd)(T:Txt K mg C)(B:Bi mg):!aj aZ 1 f fd iY (nF K C):=by
 exists F.bG Bw;let#[p,hs,ts,fp,rfl,W,h0,h8,k]:=h;let sz:=cc;let#[dx,d1,l2,d3,zs,as,rfl,h1,h2,h3,h4,h5,h6,h7]:=W.ex
 apply#[_,aE (bo (cQ (Ye Z) (by rfl) B.max H_ %[V7 (i4 ["row"] 1 [] (Xd (RL (eF (pv 0) Z))) (λfp s H=>e_ (i:=0) (show (["row"]:ae).Nodup by decide +kernel) Z (Or.inl Z)) (λfp s H=>iH)
  (λfp s H=>cQ (Je (K:=K)) (by rfl) B.len jJ %[0|0]))|0])),?_]
 apply#[d3,_,h5,_,Z,p,C,dx,_,_,Z,h1,T.cl,T.nN,O5 _ _ _,d3,_,Z,h5,λv hv=>?_];have s1:aa H (upd H v (qG v d3)):=aa.new hv;apply#[v,d3,_,Z,ay,s1 _ _ h5,λo D hD=>?_]
 have lk:(j9 (aD hs) as).length=(aD hs).length:=by
  unfold j9;rw[ao,List.length_zip];omega
 have vU:∀{b u},H b\u->u≠.dK (j9 (aD hs) as)->upd (upd H v (qG v d3)) d3 (.frz o (.dK (j9 (aD hs) as))) b\u:=λe ne=>by
  rw[ax (cu e h5 ne)];exact s1 _ _ e
 apply zk (own:=1) (fv:=[]) Z ee (aD hs).length (λi out H'=>aa (upd (upd H v (qG v d3)) d3 (.frz o (.dK (j9 (aD hs) as)))) H'/\H' D\.lst out/\out=((fP hs ts).take i).map V.int) #[aa.new hD,ay,Z] (λout H' ⟨sm,eN,eo⟩=>?_) (λi out H' hi ⟨sm,eN,eo⟩=>?_)
 ·let hf:=sm _ _ (show upd (upd H v (qG v d3)) d3 (.frz o (.dK (j9 (aD hs) as))) d3\_ from ay);have Dd:D≠d3:=cu eN hf nofun;have ll:(fP hs ts).length=(aD hs).length:=by unfold fP;rw[ao]
  rw[<- ll,dz] at eo;apply#[#[hf,by omega],o,hf,D,fP hs ts,Z,.of ?_,by omega,λm hm hle=>k m _ (λb u e=>?_) hm hle]
  ·rw[ax Dd,eN,eo]
  by_cases z:b=d3
  ·subst z;rw[ay,<- h5];exact e
  rw[ax z];exact sm _ _ (by rw[ax z];exact s1 _ _ e)
 let hf:=sm _ _ (show upd (upd H v (qG v d3)) d3 (.frz o (.dK (j9 (aD hs) as))) d3\_ from ay);apply#[#[hf,by omega],λx H2 y=>?_];let#[eH,kk,hk]:=y;subst eH;have hn:(aD hs)[i]? = some (aD hs)[i]:=dB hi;have ha:as[i]? = some (as[i]' Z1):=dB Z1
 have ex:x=.ref (as[i]' Z1):=by
  unfold j9 at hk;rw[dR,dB (by rw[List.length_zip];omega),List.getElem_zip] at hk;exact (Prod.mk.inj (eK hk)).2.symm
 subst ex;let B_:=h7 i _ _ hn ha;apply#[_,Z,Z,λNx hN=>dW ?_];apply#[_,Z,_,_,Z,.inl (.of (sm _ _ (vU B_ nofun))),out,eN,?_,hN _ _ #[fF sm hD,ay,?_]]
 ·rw[eo,ao,cX];unfold fP;rw[ao];omega
 rw[A5 _ (show (fP hs ts)[i]? = some (((near (aD hs) (aK ts) (aD hs)[i]).length:Nat):Int) by unfold fP;rw[dR,hn];rfl),eo,ao]
end
end Ev
namespace L2
open PySem PySem.Spec PyProof.Rows PySem.W
def KO(K:af)(a:Addr):It:=
 #[λi H=>∃xs x,eG K H a xs/\xs[i]? = some x,λi H y H'=>∃t x,y=.ref t/\H t=none/\(∀xs,eG K H a xs->xs[i]? = some x)/\H'=upd H t (.tup [.int i,x]),λi H=>∃xs,eG K H a xs/\xs.length=i]
variable{X:Cx}{pins:List (Addr × Obj)}{σ:St}{s:Ab}{h':Heap}{t':Nat}{fp:az}
theorem Inv.pJ{H:Hp}{T:Addr}{xs:ai}{its:aq}(I:Inv X pins σ H s)(k:∀b o,b∉fp->s.heap.get? b\o->h'.get? b\o)(hf:∀b∈fp,dI X pins H b)(hT:s.heap.objs.size<=T)(hz:xs.length<=sizeLine)(r:Vals xs its)(ht:IsTup h' T its.toArray/\∃o,h'.get? T\o/\o.dict=none):Inv X pins σ (upd H T (.tup xs)) { s with heap:=h',toks:=t' }:=by
 have fT:H T=none:=I.aN.fresh hT;have nf:∀b u,H b\u->b∉fp:=λb u e hb=>by rw[(hf b hb).1] at e;cases e
 have old:∀{b u},H b\u->upd H T (.tup xs) b\u:=λe=>by rw[ax (bj e fT)];exact e
 apply I.step (g':=s.gens) (d':=s.drawn) (ch:=fp) (λb hb=>?_) (λb o _ _ hc e _=>k b o hc e) (λb o _ _ hc e _=>#[o.slots,k b o hc e]) (λb o _ e n=>?_)
  (λb o hc e=>#[o,k b o hc e]) (λb ys e=>old e) (λb o u e=>old e) (λb ps e=>#[#[],by rw[Array.append_empty];exact old e]) (λm hm=>?_) (λb u e=>?_) I.bare
 ·let#[f0,f1,f2,f3,f4,f5]:=hf b hb;exact#[f3,f1,f4,f5]
 ·rw[ax (λz=>by subst z;exact absurd (cK e) (Nat.not_lt.mpr hT))];exact n
 ·let#[o,es,ep,ho,r]:=hm;exact#[o,es,ep,k _ o (λhb=>(hf _ hb).2.1 Z) ho,r]
 by_cases z:b=T
 ·subst z;rw[ay] at e;cases e;exact#[hz,its,r,ht]
 rw[ax z] at e;apply (I.aN b u e).fo (λc v hc q=>k c v ?_ q) (λ_ q=>old q) λ_ _ q=>old q;rcases hc with z|z
 ·rw[z];exact nf b u e
 exact nf c _ z
theorem Inv.jN{H:Hp}(I:Inv X pins σ H s)(k:∀b o,b∉fp->s.heap.get? b\o->h'.get? b\o)(hf:∀b∈fp,dI X pins H b):Inv X pins σ H { s with heap:=h',toks:=t' }:=by
 have nf:∀b u,H b\u->b∉fp:=λb u e hb=>by rw[(hf b hb).1] at e;cases e
 apply I.step (g':=s.gens) (d':=s.drawn) (ch:=fp) (λb hb=>?_) (λb o _ _ hc e _=>k b o hc e) (λb o _ _ hc e _=>#[o.slots,k b o hc e]) (λb o _ e n=>n)
  (λb o hc e=>#[o,k b o hc e]) (λb ys e=>e) (λb o u e=>e) (λb ps e=>#[#[],by rw[Array.append_empty];exact e]) (λm hm=>?_) (λb u e=>?_) I.bare
 ·let#[f0,f1,f2,f3,f4,f5]:=hf b hb;exact#[f3,f1,f4,f5]
 ·let#[o,es,ep,ho,r]:=hm;exact#[o,es,ep,k _ o (λhb=>(hf _ hb).2.1 Z) ho,r]
 apply (I.aN b u e).fo (λc v hc q=>k c v ?_ q) (λ_ q=>q) λ_ _ q=>q;rcases hc with z|z
 ·rw[z];exact nf b u e
 exact nf c _ z
variable{elts:List Expr}{pos:Pos}
theorem hL_{P:Ae}{w:Af}{K:af}{k:Nat}(a e it:Addr)(h1:e≠it)(h2:a≠e)(h3:a≠it):Turn P w K (.Tuple elts k pos) (KO K a) [e,it] e (λi h=>(∃old,IsEnum h e it i old)/\h.IsListIter it a i) where
 mem:=by simp
 obj:=λi h st b hb=>by
  let#[#[old,q],o,e2,c,d]:=st;rcases bX.mp hb with rfl|hb
  ·exact#[_,q,λv z=>by cases z]
  obtain rfl:b=it:=⇑hb
  exact#[o,e2,λv z=>by rw[d] at z;cases z]
 keep:=λi h h' st kk=>by
  let#[#[old,q],fK]:=st;exact#[#[old,kk e Z2 _ q],fK.at λo q2=>kk it Z2 o q2]
 item:=by
  intro X hP hw hK hc i pins s σ H E I hf st hg;subst hP hw hK;let#[xs,x,hq,hx]:=hg;let#[its,rv,p,hz]:=I.list hq;let#[u,hu,ru]:=rv.get hx;let W:=WalksT.enumerate (prog:=X.prog) (w:=X.w) (A:=X.A) (I.ok.hd hc) e it a h1 h2 h3 its.toArray
  have hi:i<its.toArray.size:=by
   simp only[dG];exact (cq.mp hu).1
  let#[old,he]:=st.1;let hit:=st.2;apply wpAny_pyNext_enum_item he hit p.isList (x:=u) (by rw[List.getElem?_toArray];exact hu) h1 λh' ho Cn LB hsz hk=>?_;have P1:e<s.heap.objs.size:=cK he;have PR:it<s.heap.objs.size:=by let#[_,x,_]:=hit;exact cK x
  have mid:(∃x,IsEnumOut h' e it ((i:Int)+1) x s.heap.objs.size)/\h'.IsListIter it a (i+1)/\h'.IsList a its.toArray/\s.heap.objs.size≠e/\s.heap.objs.size≠it:=#[#[_,ho],Cn,p.isList.at λo x=>hk a o h2 h3 x,xt P1,xt PR];have kk:∀b o,b∉[e,it]->s.heap.get? b\o->h'.get? b\o:=λb o hb x=>hk b o (λe'=>hb (by simp[e'])) (λe'=>hb (by simp[e'])) x;have O2:h'.IsTuple s.heap.objs.size (List.toArray [.int i s.toks,u]):=#[_,LB,Z,_,Z];obtain⟨T,eT⟩:∃T,T=s.heap.objs.size:=#[_,Z];obtain⟨t,et⟩:∃t,t=s.toks:=#[_,Z];obtain⟨tk,Lr⟩:∃tk,tk=s.toks+1:=#[_,Z];rw[<- eT] at O2 mid LB ⊢;have hT:s.heap.objs.size<=T:=Nat.le_of_eq eT.symm;rw[<- et] at O2 LB;rw[<- Lr];apply#[_,Z,W.go elts k pos i T { s with heap:=h',toks:=tk } _ _ mid λku fL OW=>?_];have nT:T∉[e,it]:=W.apart i T h' mid
  have O1:ku.IsTuple T (List.toArray [.int i t,u]):=by
   let#[o,q,r]:=O2;exact#[o,OW T o nT q,r]
  have I1:Inv X pins σ (upd H T (.tup [.int i,x])) { s with heap:=ku,toks:=tk }:=I.pJ (t':=tk) (fp:=[e,it]) (its:=[.int i t,u]) (λb o hb q=>OW b o hb (kk b o hb q)) hf hT (zl) (.cons #[t,Z] (.cons ru .nil)) #[O1,_,OW T _ nT LB,Z];apply#[.ref T,_,I1,Z,#[T,x,Z,I.aN.fresh hT,λys hy=>by rw[I.lK hy hq];exact hx,Z],#[?_,fL.2.1],λb hb=>?_]
  ·let#[old,q]:=fL.1;exact#[old,by simpa using q]
  rw[ax (λz:b=T=>nT (by rw[<- z];exact hb))];exact (hf b hb).1
 done:=by
  intro X hP hw hK hc i pins s σ H E I hf st hg;subst hP hw hK;let#[xs,hq,hx]:=hg;let#[its,rv,p,hz]:=I.list hq;let W:=WalksT.enumerate (prog:=X.prog) (w:=X.w) (A:=X.A) (I.ok.hd hc) e it a h1 h2 h3 its.toArray
  have hn:its.toArray.size=i:=by
   have:=rv.length;simp only[dG];omega
  apply W.done s _ _ (by rw[hn];exact#[st.1,st.2,p.isList]) λh' tk kk=>#[Z,I.jN (t':=tk) (fp:=[e,it]) kk hf]
 self:=λA i s Q E st h=>by
  let#[old,q]:=st.1;exact wpAny_pyIter_enum q h
inductive vq (K:af) (R:It->Hp->Prop) (vs:ai) (H1:Hp):Prop
 |mk:∀a,vs=[.ref a]->(∃xs,eG K H1 a xs)->R (KO K a) H1->vq K R vs H1
def GV(K:af)(ta:TA):TI:=λσ H R=>ta σ H λvs H1=>vq K R vs H1
theorem Xn{kk:Nat}{p2:Pos}{a:Expr}{ta:TA}{p:Pos}(hg:Gl X "enumerate")(hm:X.mg "enumerate"=none)(ha:PA X [a] ta)(hs:starEach [a] X.env=[(false,eval a X.env)]:=by rfl):PI X (.Tuple elts kk p2) (.Call (.Name "enumerate" p) [a] [] pos) (GV X.K ta):=by
 intro pins s σ H R I h;apply Call_ (EA I hg hm boot_enumerate (PyProof.Rows.callWith_type1 (bb (ha pos pins s σ H _ I h) λus s1 ⟨vs,H1,I1,r1,q1⟩=>?_) hs Z));let#[l,e,#[xs,hq],q]:=q1;subst e;cases r1 with
 |cons r rr=>
  cases rr;cases r;let#[its,rv,pl,hz]:=I1.list hq;have ll:l<s1.heap.objs.size:=by let#[_,e,_]:=pl.isList;exact cK e
  apply call_enumerate_list pl.isList λh' he hi hn kp=>?_;apply wpAny_pyIter_enum he ?_;apply#[s1.heap.objs.size+1,[s1.heap.objs.size+1,s1.heap.objs.size],_,_,H1,Z,I1.kept (t':=s1.toks) kp,hL_ l _ _ (Nat.succ_ne_self _) (eV (Nat.lt_succ_of_lt ll)) (eV ll),#[#[_,he],hi],λb hb=>?_,q]
  have e:s1.heap.objs.size<=b:=by
   rcases bX.mp hb with rfl|hb
   ·exact Nat.le_succ _
   obtain rfl:b=s1.heap.objs.size:=⇑hb
   exact bq _
  exact I1.j4 e (I1.aN.fresh e)
theorem Xv{K:af}{a:Addr}{xs:ai}{g:TG}{tb:TS}{D:Ends}{H:Hp}(Pv:bI)(h0:Pv 0 σ H)(hl:∀i σ H,i<=xs.length->Pv i σ H->eG K H a xs)(hs:∀i x σ H,xs[i]? = some x->Pv i σ H->∀t,H t=none->g (.ref t) σ (upd H t (.tup [.int i,x])) λgQ H2=>tb { D with nx:=Pv (i+1),ct:=Pv (i+1),bk:=D.nx } gQ H2)(hd:∀σ H,Pv xs.length σ H->D.nx σ H) :
  ∃W:Nat->Nat->St->Hp->Prop,(∃m,W 0 m σ H)/\∀i m σ H,W i m σ H->
   ((KO K a).stop i H/\D.nx σ H)∨((KO K a).go i H/\∃N:St->Hp->Prop,(∀bt H',N bt H'->∃m',m'<m/\W (i+1) m' bt H')/\∀x H',(KO K a).xK i H x H'->g x σ H' λgQ H2=>tb { D with nx:=N,ct:=N,bk:=D.nx } gQ H2):=by
 apply#[λi m σ H=>m=xs.length - i/\i<=xs.length/\Pv i σ H,#[xs.length,by simp,gF _,h0],?_];rintro i m σ H ⟨rfl,hi,p⟩;let q:=hl i σ H hi p;by_cases dm:i<xs.length
 ·apply .inr #[#[xs,xs[i],q,by simp[dm]],Pv (i+1),λbt H' p'=>#[xs.length - (i+1),by omega,Z,dm,p'],λx H' y=>?_];let#[t,x,rfl,ht,y,rfl]:=y;exact hs i x σ H (y xs q) p t ht
 have e:i=xs.length:=by omega
 subst e;exact .inl #[#[xs,q,Z],hd σ H p]
theorem EE(a b c:Str):DY (.str a) [.str b,.str c]=(decide (b=a) || decide (c=a)):=by
 have e:∀x y:Str,jF (.str x) (.str y)=decide (x=y):=λx y=>by
  have:=V2 (a:=Sum.inr x) (b:=Sum.inr y) Z;rw[show jF (.str x) (.str y)=jF (kV (Sum.inr x)) (kV (Sum.inr y)) from Z,this];by_cases z:x=y
  ·simp[z]
  simp[z]
 unfold DY;simp only[List.any_cons,List.any_nil,Bool.or_false,e]
section
variable{M:Model}{A:Ag}{E:Aa->Ab->Prop}{s:Ab}{base:Heap}{env:Env}{outer:List Env}{L e:Addr}{cls cx fl:Aa}{Q:Unit->Ab->Prop}
end
section
variable{P:Ae}{w:Af}{H H':Hp}{B h0 h h1:Heap}{l:List Env}
end
section
variable{X:Cx}{pins:List (Addr × Obj)}{σ:St}{H H':Hp}{s s1:Ab}{B h:Heap}{a:Addr}{cls a0:Aa}{E:XK}
end
section
variable{P:Ae}{w:Af}{K:af}{mg:Str->Option Aa}{base:Heap}{N:ae}{qual:Str}{scope:Scope}{f:Addr}{cd:Aa}{A:Ag}{outer:List Env}{s:Ab}{H:Hp}{E:XK}
end
section v
end
open PySem.Calls Builtin Builtin.ObjectAttr Builtin.Getset_descriptor
structure Ub (K:af) (C:Addr):Prop where
 cl:(clsIn K C).isSome=true
 ga:findIn K (.ref C) "__getattribute__"\some (.builtin "BaseException.__getattribute__")
 ha:findIn K (.ref C) "__getattr__"\none
 ca:findIn K (.ref C) "__class__"\some (.builtin "object.__class__")
 gt:specialIn K (.builtin "object.__class__") "__get__"\some (.builtin "getset_descriptor.__get__")
 tk:takesIn K (.builtin "object.__class__")\true
 mo:mroIn K C (.type "object")\true
 mb:mroIn K C (.type "BaseException")\true
section
variable{prog:Ae}{w:Af}{A:Ag}{E:Aa->Ab->Prop}{s:Ab}{K:af}{x C:Addr}
end
inductive Ac (K:af) (xs:ai) (H:Hp) (Q:VK):Prop
 |mk:∀x C t b,xs=[x,.ref C]->gj K H x t->PySem.W.kitOne K t (.ref C)\b->Q (.bl b) H->Ac K xs H Q
theorem h9_:gD X (.builtin "isinstance") (Ac X.K):=by
 intro pins s σ H xs us Q I r h;let#[x,C,t,b,rfl,ty,e,q]:=h;let#[u,w',rfl,ru,lE]:=vals2 r;cases (show w'=Value.ref C from lE);exact Yu I ru ty e λtk=>#[.bl b,H,I.tok tk,Z,q]
end L2
namespace Ev
open PySem L2
abbrev uN:Stmt:=top 64
abbrev oF:Stmt:=top 67
abbrev uD:Stmt:=top 69
abbrev NZ:Stmt:=top 20
abbrev Rh:Stmt:=top 30
abbrev nX:Stmt:=top 31
abbrev oz:Stmt:=top 65
abbrev oj:Stmt:=top 66
abbrev oy:Stmt:=top 68
abbrev oG:Stmt:=top 59
abbrev Ru:Stmt:=top 60
abbrev Sd:Stmt:=top 61
abbrev Ig:Stmt:=top 62
abbrev Q8:Stmt:=top 23
abbrev Sk:Stmt:=top 24
abbrev NY:Stmt:=top 21
abbrev uz:Stmt:=top 25
abbrev QI:Stmt:=top 26
abbrev RO:Stmt:=top 55
abbrev Rn:Stmt:=top 13
abbrev jg:Stmt:=top 32
abbrev LJ:Stmt:=top 33
abbrev uJ:Stmt:=top 34
abbrev BH:Stmt:=top 35
abbrev BF:Stmt:=top 36
abbrev Se:Stmt:=top 37
abbrev Sh:Stmt:=top 38
abbrev RU:Stmt:=top 39
abbrev Iu:Stmt:=top 40
abbrev Sa:Stmt:=top 41
abbrev k_:Stmt:=top 42
abbrev Rg:Stmt:=top 43
abbrev RP:Stmt:=top 44
abbrev Sj:Stmt:=top 70
abbrev oe:Stmt:=top 71
abbrev Rr:Stmt:=top 72
abbrev nU:Stmt:=top 74
abbrev uF:Stmt:=top 75
abbrev uL:Stmt:=top 76
abbrev uB:Stmt:=top 77
abbrev oB:Stmt:=top 78
abbrev BI:Stmt:=top 79
abbrev uO:Stmt:=top 80
abbrev Rt:Stmt:=top 81
abbrev oH:Stmt:=top 82
abbrev Sl:Stmt:=top 83
abbrev Re:Stmt:=top 85
abbrev oq:Stmt:=top 84
abbrev Ro:Stmt:=top 86
abbrev Q9:Stmt:=top 89
abbrev ou:Stmt:=top 46
abbrev Q_:Stmt:=top 47
abbrev oi:Stmt:=top 27
abbrev uv:Stmt:=top 88
abbrev uK:Stmt:=top 73
abbrev Q0:Stmt:=top 90
abbrev uu:Stmt:=top 91
abbrev iK:Stmt:=top 92
def a_(l:Addr)(H H':Hp):Prop:=∀b o,H b\o->b≠l->H' b\o
theorem a_.refl(l:Addr)(H:Hp):a_ l H H:=λ_ _ e _=>e
variable{l:Addr}{H H1:Hp}
theorem a_.trans{H2:Hp}(h:a_ l H H1)(h2:a_ l H1 H2):a_ l H H2:=λb o e n=>h2 b o (h b o e n) n
theorem a_.of(h:aa H H1):a_ l H H1:=λb o e _=>h b o e
theorem a_.upd{o:HO}:a_ l H (upd H l o):=λb u e n=>by rw[ax n];exact e
def d_(H:Hp)(l:Addr):Prop:=∃a b c:Int,H l\.lst [.int a,.int b,.int c]
theorem d_.some(h:d_ H l):∃xs,H l\.lst xs:=by
 let#[a,b,c,e]:=h;exact#[_,e]
variable{H':Hp}
theorem d_.same(h:d_ H l)(s:aa H H'):d_ H' l:=by
 let#[a,b,c,e]:=h;exact#[a,b,c,s _ _ e]
theorem d_.ne{a:Addr}(h:d_ H l)(e:H a=none):a≠l:=by
 rintro rfl;let#[x,y,z,h]:=h;rw[e] at h;cases h
theorem a_.free{b:Addr}(h:a_ l H H')(s:d_ H' l)(e:H' b=none):H b=none:=by
 cases z:H b with
 |none=>rfl
 |some o=>
  by_cases q:b=l
  ·subst q;let#[x,y,u,s]:=s;rw[e] at s;cases s
  rw[h b o z q] at e;cases e
theorem iX{α:Type}{xs:List α}{i:Int}(h0:0<=i)(h1:i<xs.length):gK xs i=xs[i.toNat]?:=by
 unfold gK Ap;rw[aB h0,aB h1];rfl
theorem j3_:(Er:Str).cps.toList=[97,98,99,100,101,102,103,104,105,106,107,108,109,110,111,112,113,114,115,116,117,118,119,120,121,122]:=by decide +kernel
def Et{α:Type}(l:List α)(k:Nat)(x:α):List α:=l.take k++x::l.drop k
theorem S0{α:Type}(l:List α)(k:Nat)(x:α):(Et l k x).Perm (x::l):=by
 unfold Et;apply List.perm_middle.trans ?_;rw[List.take_append_drop]
theorem hq_{α:Type}(l:List α)(k:Nat)(x:α):(Et l k x).length=l.length+1:=(S0 l k x).length_eq
theorem yK{α:Type}{a b:α}{r:Int}(h0:0<=r)(h1:r<2):gK [a,b] r\a∨gK [a,b] r\b:=by
 have:r=0∨r=1:=by omega
 rcases this with rfl|rfl
 ·exact .inl Z
 exact .inr Z
variable{K:af}
theorem xw{ys:ai}{ks:List aM}(t:bg K H ys ks)(b:a_ l H H'){xs:ai}(hl:H l\.lst xs):bg K H' ys ks:=Paired.bu t λy k ⟨a,z,q⟩=>#[a,z,b _ _ q (cu q hl nofun)]
variable{ns:ae}
theorem YU{D:Addr}(h:H D\.lst (ns.map V.str)):rL K rS H (.ref D) ns:=#[D,_,Z,.of h,Dr ns]
def kO(t:Str × Str):aM:=kT (aL t.1 t.2)
structure TI (ns:ae) (k j:Nat) (ts:Xb):Prop where
 at':∀t∈ts,∃(a b:Nat) (x y:Str),b<a/\(a<k∨(a=k/\b<j))/\ns[a]? = some x/\ns[b]? = some y/\(t=(x,y)∨t=(y,x))
 nd:(ts.map kO).Nodup
 len:ts.length<=7 * k+j
variable{j k:Nat}{ts:Xb}
theorem TI.skip(h:TI ns k j ts):TI ns k (j+1) ts:=
 #[λt ht=>let #[a,b,x,y,h1,h2,h3,h4,h5]:=h.at' t ht;#[a,b,x,y,h1,by omega,h3,h4,h5],h.nd,by have:=h.len;omega]
theorem TI.next(h:TI ns k k ts)(h7:k<=7):TI ns (k+1) 0 ts:=
 #[λt ht=>let #[a,b,x,y,h1,h2,h3,h4,h5]:=h.at' t ht;#[a,b,x,y,h1,by omega,h3,h4,h5],h.nd,by have:=h.len;omega]
theorem Io{a b:Str × Str}(h:kT a=kT b):a=b:=by
 unfold kT at h;let#[h1,h2]:=o5 h;let#[h2,_]:=o5 h2;exact Prod.ext (ik h1) (ik h2)
variable{x:Str}
theorem Ir(nd:ns.Nodup){i:Nat}(h:ns[i]? = some x)(h2:ns[j]? = some x):i=j:=by
 let#[hi,e1]:=cq.mp h;let#[hj,e2]:=cq.mp h2;exact (List.getElem_inj nd).mp (e1.trans e2.symm)
variable{a b:Str}
theorem O0{c d:Str}(h:kO (a,b)=kO (c,d)):(a=c/\b=d)∨(a=d/\b=c):=by
 let h:=Io h;dsimp only at h;rcases L_ a b with e|e<;>rcases L_ c d with e2|e2<;>rw[e,e2] at h<;>let h1:=(Prod.mk.inj h).1<;>let h2:=(Prod.mk.inj h).2
 ·exact .inl #[h1,h2]
 ·exact .inr #[h1,h2]
 ·exact .inr #[h2,h1]
 exact .inl #[h2,h1]
theorem TI.add(h:TI ns k j ts)(nd:ns.Nodup){y:Str}{t:Str × Str}(hj:j<k)(hx:ns[k]? = some x)(hy:ns[j]? = some y)(ht:t=(x,y)∨t=(y,x))(q:Nat):TI ns k (j+1) (Et ts q t):=by
 apply#[λu hu=>?_,?_,by have:=h.len;rw[hq_];omega]
 ·rcases bX.mp ((S0 _ _ _).mem_iff.mp hu) with rfl|hu
  ·exact#[k,j,x,y,hj,.inr #[Z,by omega],hx,hy,ht]
  exact h.skip.at' u hu
 apply ((S0 ts q t).map kO).nodup_iff.mpr ?_;rw[eJ];apply r_.mpr #[λm=>?_,h.nd];let#[u,hu,e]:=bh.mp m;let#[a,b,c,d,h1,h2,h3,h4,h5]:=h.at' u hu
 have key:(c=x/\d=y)∨(c=y/\d=x):=by
  rcases h5 with rfl|rfl<;>rcases ht with rfl|rfl<;>rcases O0 e with⟨q1,q2⟩|⟨q1,q2⟩<;>simp_all
 rcases key with⟨rfl,rfl⟩|⟨rfl,rfl⟩
 ·have:=Ir nd h3 hx;have:=Ir nd h4 hy;omega
 have:=Ir nd h3 hy;have:=Ir nd h4 hx;omega
theorem TI.good(h:TI ns k j ts)(nd:ns.Nodup)(ok:∀n∈ns,jK n=true):∀t∈ts,CK t/\t.1∈ns/\t.2∈ns:=λt ht=>by
 let#[a,b,x,y,h1,h2,h3,h4,h5]:=h.at' t ht;let mx:=cj h3;let my:=cj h4
 have ne:x≠y:=λe=>by
  subst e;have:=Ir nd h3 h4;omega
 rcases h5 with rfl|rfl
 ·exact#[#[ok _ mx,ok _ my,ne],mx,my]
 exact#[#[ok _ my,ok _ mx,ne.symm],my,mx]
theorem jH_(ns:ae)(k:Nat):gB (ns.map V.str) none (some (k:Int))=(ns.take k).map V.str:=by
 unfold gB;rw[HT.lj,HT.p9,List.drop_zero,Nat.sub_zero,List.map_take,ao];by_cases h:k<=ns.length
 ·rw[Nat.min_eq_left h]
 rw[Nat.min_eq_right Z1,xF (by rw[ao];omega),xF (by rw[ao];omega)]
theorem QD(a:Str):gX a a=false:=Wg (Sum.inr a)
theorem Y1(h:gX a b=true):gX b a=false:=YB (a:=Sum.inr a) (b:=Sum.inr b) h
theorem VW(h:gX a b=false)(h2:gX b a=false):a=b:=ik (Wf (a:=Sum.inr a) (b:=Sum.inr b) h h2)
theorem GF(a b:Str):bD (da a) (da b)=gX a b:=by
 show (if (Sum.inr a:Key)=Sum.inr b then false else gX a b)=gX a b;by_cases h:a=b
 ·subst h;rw[aB Z,QD]
 rw[au λe=>h (ik e)]
def gG(ns:ae):Prop:=ns.Pairwise λa b=>gX b a=false
theorem gG.keys(h:gG ns):pF (ns.map da):=by
 unfold pF;rw[pe];exact h.imp λq=>by rw[GF];exact q
theorem Zj{a b:ae}(p:a.Perm b)(h1:gG a)(h2:gG b):a=b:=Yh (S6 (p.map da) h1.keys h2.keys)
theorem MB(ss:ae):gG (aV ss):=by
 let h:=MT (ss.map da);rw[<- SV] at h;unfold pF at h;rw[pe] at h;exact h.imp λq=>by rw[GF] at q;exact q
theorem We(hs:Xa):gG (aD hs):=by
 unfold aD gG;rw[pe];apply (MT (hs.map kH)).imp_of_mem λ{a b} ha hb q=>?_;let#[x,_,rfl]:=M0 hs a ha;let#[y,_,rfl]:=M0 hs b hb;show gX y.1 x.1=false;by_cases h:y.1=x.1
 ·rw[h,QD]
 have q:(if (Sum.inr y.1:Key)=Sum.inr x.1 then bD [Sum.inl y.2] [Sum.inl x.2] else gX y.1 x.1)=false:=q;rwa [au λe=>h (ik e)] at q
theorem h1_(hs:Xa):aD hs=aV (hs.map (·.1)):=Zj ((fG hs).trans (gM _).symm) (We hs) (MB _)
theorem Mz(a b:Str):aL a b=aL b a:=by
 unfold aL;by_cases h:gX a b=true
 ·rw[aB h,au (by rw[Y1 h];decide)]
 by_cases h2:gX b a=true
 ·rw[au h,aB h2]
 have:=VW ⇑h ⇑h2;subst this;rw[au h]
theorem MQ{x:Str × Str}:x∈aK ts ↔ ∃t∈ts,aL t.1 t.2=x:=by
 have e:kT x∈(aK ts).map kT ↔ x∈aK ts:=#[λh=>by
  let#[y,hy,e]:=bh.mp h;rw[<- Io e];exact hy,λh=>bh.mpr #[x,h,Z]]
 rw[<- e,Jt,(mV _).mem_iff,bh];exact#[λ⟨t,ht,q⟩=>#[t,ht,Io q],λ⟨t,ht,q⟩=>#[t,ht,by rw[q]]]
theorem Qy(a b:Str):kO (a,b)=kO (b,a):=by
 show kT (aL a b)=kT (aL b a);rw[Mz]
end Ev
namespace L2
open PySem PySem.Spec PyProof.Rows
inductive F0 (x:V) (lo:Option Int) (hi:Option Int) (H:Hp) (Q:VK):Prop
 |mk:∀z,x=.str z->z.length<=sizeLine->Q (.str (Txt.slice z lo hi)) H->F0 x lo hi H Q
variable{X:Cx}
theorem Vq:TR X F0:=by
 intro pins s σ H x v vl vu lo hi sl Q I rx hs pl pu h;let#[z,rfl,hz,q]:=h;let#[t,rfl]:=rx;apply⟨"str",_,PySem.F.slot_str_getitem.lookup,typeIs_str _ _ _,?_⟩
 have fin:∀lo hi,Q (.str (Txt.slice z lo hi)) H->(Txt.slice z lo hi).length<=sizeLine/\∀t' k,EP X pins σ Q (.str (Txt.slice z lo hi) t') { s with toks:=k }:=λlo hi q=>
  #[qJ (Txt.slice_le z _ _) hz,λt' k=>#[.str _,H,I.kept (h':=s.heap) (t':=k) λ_ _ e=>e,#[t',Z],q]]
 cases pl with
 |none=>
  cases pu with
  |none=>exact wpAny_getItem_str_slice (l:=none) (u:=none) (st:=none) hs Z (post_val_or_str (fin _ _ q))
  |int j u=>exact wpAny_getItem_str_slice (l:=none) (u:=some (j,u)) (st:=none) hs Z (post_val_or_str (fin _ _ q))
 |int i u=>
  cases pu with
  |none=>exact wpAny_getItem_str_slice (l:=some (i,u)) (u:=none) (st:=none) hs Z (post_val_or_str (fin _ _ q))
  |int j u'=>exact wpAny_getItem_str_slice (l:=some (i,u)) (u:=some (j,u')) (st:=none) hs Z (post_val_or_str (fin _ _ q))
theorem m1_{x:Str}{j:Nat}(h:j<=x.length):(Txt.slice x none (some (j:Int))).cps.toList=x.cps.toList.take j:=by
 have:=eq_of_beq (slice_closes_toL (x:=x) (j:=(j:Int)) Z1 Z1);rw[this];simp
theorem jJ_{x:Str}{i:Nat}(h:i<=x.length):(Txt.slice x (some (i:Int)) none).cps.toList=x.cps.toList.drop i:=by
 rw[slice_from_eq (x:=x) (i:=(i:Int)) (b:=(x.length:Int)) Z1 Z1 Z]
 have:((x.length:Int) - (i:Int)).toNat=x.cps.toList.length - i:=by
  have:x.length=x.cps.toList.length:=by rw[sY];rfl
  omega
 rw[this];simp;rw[xF];simp
open PySem.Builtin PySem.Builtin.Str
theorem X5:∀{ss:ae} {us:aq},Vals (ss.map V.str) us->StrsAre us ss
 |[],_,.nil=>.nil
 |x::ss,_,.cons r rs=>by
  let#[t,rfl]:=r;exact .cons x t (X5 rs)
theorem Yl:∀(l:List (Str × Tok)),Vals ((l.map (·.1)).map V.str) (strValues l)
 |[]=>.nil
 |(x,t)::l=>.cons #[t,Z] (Yl l)
inductive rJoin (K:af) (x:V) (vs:ai) (H:Hp) (Q:VK):Prop
 |mk:∀(sep:Str) (p:Addr) (ss:ae),x=.str sep->vs=[.ref p]->eG K H p (ss.map V.str)->(ss.map (·.length)).sum+ss.length * sep.length<=16777216->Q (.str (Txt.join sep ss)) H->rJoin K x vs H Q
theorem kI_:DH X "str.join" (rJoin X.K):=by
 intro pins s σ H x vs v us Q I rx rv h;let#[sep,p,ss,rfl,rfl,hp,hz,q]:=h;let#[t,rfl]:=rx;let#[u,rfl,ru]:=rv.one;cases (show u=Value.ref p from ru);let#[its,r,ht,_]:=I.list hp;exact join_list ht.isList (X5 r) hz λt' k=>#[.str _,H,I.tok k,#[t',Z],q]
open PySem.W
inductive z_ (x:V) (y:V) (H:Hp) (Q:VK):Prop
 |mk:∀z n,x=.str z->y=.int n->PySem.MulOk z n->Q (.str (Txt.mul z n)) H->z_ x y H Q
theorem ly_:eQ X (binaryOp .Mult) z_:=by
 intro pins s σ H x y v u Q I rx ry h;let#[z,n,rfl,rfl,ok,q]:=h;let#[t,rfl]:=rx;let#[t2,rfl]:=ry;exact SB.mul ok λt' k=>#[.str _,H,I.tok _,#[_,Z],q]
end L2
namespace Ev
open PySem L2
theorem vy{α:Type}{p:α->Prop}{xs:List α}{r:Int}{n:Nat}(hn:xs.length=n)(h0:0<=r)(h1:r<(n:Int))(h:∀v∈xs,p v):∃v,gK xs r\v/\p v:=by
 have hl:r.toNat<xs.length:=by omega
 apply#[xs[r.toNat],?_,h _ (jy hl)];rw[iX h0 Z1,dB hl]
theorem BC:bx qK qK (ba uN):=bH
def tY(K:af):Sp:=λvs H Q _=>∃(l:Addr) (ns:List Int) (k:Int),vs=[.ref l,.int k]/\0<=k/\eG K H l (ns.map V.int)/\∀n,Q (.int n) H
variable{f:Addr}{fd:Ad}{P:Ae}{w:Af}{K:af}{mg:Str->Option Aa}{base:Heap}
theorem kz_(F:bp K "_law_cell_at" "_law_cell_at" uN f fd)(B:Bi mg):!aj aZ 1 f fd qK (tY K):=by
 exists F.bG BC;let#[l,ns,i,rfl,h0,hl,k]:=h;apply#[_,ak (bP (c_ Lo (pv 1) (cQ mR (by rfl) B.len jJ %[0|0])) (aE (bo (bM gi (pv 0) (pv 1)))) bQ) (aE (bo aI)),?_];apply#[_,Z,_,Z,l,_,Z,.inl hl,_,_,Z,Z,_,Z,?_];apply aQ (λc=>?_) (λc=>?_)
 ·have c:i<(ns.map V.int).length:=⇑c
  have e:gK (ns.map V.int) i\.int (ns[i.toNat]'(by rw[ao] at c;omega)):=by
   rw[iX h0 c,dR,dB (by rw[ao] at c;omega)];rfl
  exact#[_,Z,_,Z,l,_,_,_,Z,Z,hl,e,k _]
 exact k 0
theorem QR:bx ["_law_number"] ["_law_number"] (ba oz):=bH
def pQ:Sp:=λvs H Q _=>∃n:Int,vs=[.int n]/\∀r:Int,Q (.int r) H
theorem small(x:Int):-(2 ^ 64)<x % 2147483647/\x % 2147483647<2 ^ 64:=by
 let a:=zi x (show (2147483647:Int)≠0 by decide);let b:=A1 x (show (0:Int)<2147483647 by decide);omega
theorem t_(x:Int):-(2 ^ 64)<x % 2147483647+1/\x % 2147483647+1<2 ^ 64:=by
 let a:=zi x (show (2147483647:Int)≠0 by decide);let b:=A1 x (show (0:Int)<2147483647 by decide);omega
theorem jM_(F:bp K "_law_mixed" "_law_mixed" oz f fd):!aj aZ 1 f fd ["_law_number"] pQ:=by
 exists F.bG QR;let#[n,rfl,k]:=h;refine' #[_,ak ?s1 (ak ?s2 ?s3),?kk]
 case s1=>exact aO 0 QR.nd (bw sV (bw jI (bw h9 (bw sV (pv 0) aI) aI) aI) aI)
 case s2=>exact aO 0 QR.nd (bw sV (bw jI (pv 0) (bw h9 (bw vR (pv 0) aI) aI)) aI)
 case s3=>exact aE (bo (bw sV (bw jI (bw h9 (pv 0) aI) (bw h9 (bw vR (pv 0) aI) aI)) aI))
 apply#[_,Z,_,_,Z,Z,by show (0:Int)<2147483647;decide,_,_,Z,Z,_,_,Z,Z,.inl (t_ n),_,_,Z,Z,by show (0:Int)<2147483647;decide,?_];apply#[_,Z,_,Z,_,_,Z,Z,#[by decide,by decide],_,_,Z,Z,_,_,Z,Z,.inl (small _),_,_,Z,Z,by show (0:Int)<2147483647;decide,?_];exact#[_,Z,_,_,Z,Z,_,Z,_,_,Z,Z,#[by decide,by decide],_,_,Z,Z,_,_,Z,Z,.inl (t_ _),_,_,Z,Z,by show (0:Int)<2147483629;decide,k _]
theorem x_:bx ["_law_cell","_law_k"] ["_law_cell","_law_k"] (ba oj):=bH
def pP:Sp:=λvs H Q _=>∃(c:Int) (i:Nat),vs=[.int c,.int i]/\i<100/\∀l H',aa H H'->H l=none->d_ H' l->Q (.ref l) H'
theorem jV_(F:bp K "_law_state" "_law_state" oj f fd):!aj aZ 1 f fd ["_law_cell","_law_k"] pP:=by
 exists F.bG x_;let#[c,i,rfl,hi,k]:=h;apply#[_,aE (bo (cy %[bw vR (pv 0) aI,bw sV (pv 0) aI,bw h9 (pv 0) (bw jI aI (pv 1))|0])),?_];apply#[_,Z,_,_,Z,Z,#[by decide,by decide],_,Z,_,_,Z,Z,by show (0:Int)<2;decide,_,Z,_,Z,_,_,Z,Z,.inl #[by decide,by decide],_,_,Z,Z,zl,λl hl=>?_];exact k l _ (aa.new hl) hl #[_,_,_,ay]
theorem p8:bx [kz,"_law_base",oT] AH (ba oF):=bH
def De:Sp:=λvs H Q _=>∃(l:Addr) (b:Int),vs=[.ref l,.int b]/\0<b/\b<1073741824/\d_ H l/\∀r H',0<=r->r<b->a_ l H H'->d_ H' l->Q (.int r) H'
theorem jh_(F:bp K y_ y_ oF f fd)(cM:!br 1 "_law_mixed" ["_law_number"] pQ):!aj aZ 2 f fd AH De:=by
 exists F.bG p8;let#[l,b,rfl,h0,h1,#[x,y,z,hl],k]:=h;refine' #[_,ak ?s1 (ak ?s2 ?s3),?kk]
 case s1=>exact bP (zd (c_ iF (bM gi (pv 0) aI) aI) (Df (c_ sP (bM gi (pv 0) aI) aI))).pt (ak (aO 2 p8.nd (bw sV (bM gi (pv 0) aI) (pv 1))) (ak (C6 (bw vR (bM gi (pv 0) aI) (pv 1)) (VE (pv 0) aI XE)) (aE (bo (pv 2))))) bQ
 case s2=>exact C6 (aX cM hr %[bw h9 (bM gi (pv 0) aI) aI|0]) (VE (pv 0) aI XE)
 case s3=>exact aE (bo (bw sV (bw vR (bM gi (pv 0) aI) aI) (pv 1)))
 have other:∀{R:Prop},R->R:=λh=>h;apply#[_,Z,l,_,_,_,Z,Z,.of hl,Z,Z,_,Z,?_];apply aQ (λc=>?_) (λc=>?_)
 ·apply#[_,Z,l,_,_,_,Z,Z,.of hl,Z,_,_,Z,Z,_,Z,?_];apply aQ (λc2=>?_) (λc2=>?_)
  ·apply#[_,Z,l,_,_,_,Z,Z,.of hl,Z,_,Z,_,_,Z,Z,h0,?_];apply#[_,Z,l,_,_,_,Z,Z,.of hl,Z,_,Z,_,_,Z,Z,#[h0,h1],_,Z,l,_,_,0,Z,Z,hl,Z,?_];exact#[_,Z,k _ _ (zi _ Z1) (A1 _ h0) a_.upd #[_,_,_,ay]]
  apply#[_,Z,l,_,_,_,Z,Z,.of hl,Z,_,_,Z,Z,_,Z,λr=>#[_,Z,l,_,_,2,Z,Z,hl,Z,?_]];apply#[_,Z,l,_,_,_,Z,Z,.of ay,Z,_,_,Z,Z,#[by decide,by decide],_,Z,_,_,Z,Z,h0,?_];exact k _ _ (zi _ Z1) (A1 _ h0) a_.upd #[_,_,_,ay]
 apply#[_,Z,l,_,_,_,Z,Z,.of hl,Z,_,_,Z,Z,_,Z,λr=>#[_,Z,l,_,_,2,Z,Z,hl,Z,?_]];apply#[_,Z,l,_,_,_,Z,Z,.of ay,Z,_,_,Z,Z,#[by decide,by decide],_,Z,_,_,Z,Z,h0,?_];exact k _ _ (zi _ Z1) (A1 _ h0) a_.upd #[_,_,_,ay]
variable{σ:St}{H:Hp}
theorem dg{t u:TS}{D:Ends}(R:bZ)(later:∀σ H,R σ H->u D σ H)(now:∀N:St->Hp->Prop,(∀σ H,R σ H->N σ H)->t { D with nx:=N } σ H):rg t u D σ H:=now (u D) later
theorem setG{i:Nat}{v:V}{N:bZ}(h:N (σ.set i (some v)) H):mN i v σ H N:=h
variable{a l:Addr}{o:HO}
theorem d_.upd(h:d_ H l)(n:a≠l):d_ (L2.upd H a o) l:=by
 let#[x,y,z,e]:=h;exact#[x,y,z,by rw[ax n.symm];exact e]
variable{H':Hp}
theorem a_.snd(h:a_ l H H')(e:H a=none):a_ l H (L2.upd H' a o):=λb u q n=>by
 rw[ax (bj q e)];exact h b u q n
theorem iU_(sep:Str)(ss:ae):(Txt.join sep ss).length<=(ss.map (·.length)).sum+ss.length * sep.length:=by
 show (Builtin.Str.glued sep ss).length<=_;rw[size_glued];have:(ss.length - 1) * sep.length<=ss.length * sep.length:=Nat.mul_le_mul_right _ Z1;omega
variable{ss:ae}{m:Nat}
theorem lT_(h:∀x∈ss,x.length<=m):(ss.map (·.length)).sum<=m * ss.length:=by
 induction ss with
 |nil=>simp
 |cons x ss ih=>
  let a:=h x cZ;let b:=ih λy hy=>h y (dJ _ hy);rw[eJ,List.sum_cons,iG,Nat.mul_add,Nat.mul_one];omega
theorem jk_(h:∀x∈ss,∀c∈x.cps.toList,lG c=true):∀c∈(Txt.join "" ss).cps.toList,lG c=true:=by
 rw[show Txt.join "" ss=Str.join "" ss from StrLaws.glued_eq_join "" ss];intro c hc;rcases (PyProof.Rows.mem_join (sep:="") (ts:=ss) c).mp hc with⟨t,ht,m⟩|⟨_,m⟩
 ·exact h t ht c m
 rw[show ("":Str)=⟨#[]⟩ by decide +kernel] at m;simp at m
theorem xv(x:Str):x.length=x.cps.toList.length:=by rw[sY];rfl
theorem GS(a b:Str):(a++b).cps.toList=a.cps.toList++b.cps.toList:=by rw[PySem.Str.cps_append,Array.toList_append]
theorem ke:(Er:Str).length=26/\(Er:Str).cps.toList.length=26:=by decide +kernel
variable{q:Nat}
theorem Wu(h:q<26):gK (Er:Str).cps.toList (q:Int)\(97+q):=by
 rw[iX Z1 (by rw[ke.2];omega),j3_];have:∀q:Fin 26,([97,98,99,100,101,102,103,104,105,106,107,108,109,110,111,112,113,114,115,116,117,118,119,120,121,122]:List Nat)[(q.val:Int).toNat]? = some (97+q.val):=by decide +kernel
 exact this #[q,h]
theorem VS(h:q<26):lG (97+q)=true:=by
 unfold lG;simp;omega
structure Nm (m:Nat) (ns:ae):Prop where
 len:ns.length=m
 nd:ns.Nodup
 ok:∀n∈ns,jK n=true
variable{ns:ae}
theorem kS_{f:Nat}{a b:List Nat}(hm:m<=30)(hl:ns.length=m)(oa:∀c∈a,lG c=true)(ob:∀c∈b,lG c=true)(l7:a.length+b.length<=6)(h:∀k n,ns[k]? = some n->n.cps.toList=a++(97+(f+7 * k) % 26)::(b++List.replicate (k / 26) 122)):Nm m ns:=by
 apply#[hl,?_,?_]
 ·apply xG.mpr (List.pairwise_iff_getElem.mpr λi j hi hj oP e=>?_);let e1:=h i _ (dB hi);let e2:=h j _ (dB hj);rw[e,e2] at e1;let#[c1,c2]:=o5 (List.append_cancel_left e1);let c3:=dQ List.length c2;rw[eA,eA,xE,xE] at c3;omega
 intro n hn;let#[k,hk]:=List.mem_iff_getElem?.mp hn;let e:=h k n hk;unfold jK;rw[xv,e]
 have hk30:k<30:=by
  have:=(cq.mp hk).1;omega
 simp only[eA,iG,xE,List.all_append,List.all_cons,xI,mO,List.all_eq_true];exact#[#[by omega,by omega],oa,VS (Nat.mod_lt _ (by decide)),ob,λc hc=>by rw[(List.mem_replicate.mp hc).2];rfl]
abbrev U2:ae:=["_law_k","_law_letters",kz]
abbrev U1:ae:=["_law_k","_law_first","_law_letters"]
abbrev U0:ae:=["_law_k","_law_place","_law_signs","_law_stem"]
theorem BY(h:q<=1):PySem.MulOk "z" (q:Int)/\(Txt.mul "z" (q:Int)).cps.toList=List.replicate q 122:=by
 have:q=0∨q=1:=by omega
 rcases this with rfl|rfl
 ·exact#[by unfold PySem.MulOk;decide +kernel,by decide +kernel]
 exact#[by unfold PySem.MulOk;decide +kernel,by decide +kernel]
theorem EK:bx [kz,"_law_many","_law_letters","_law_stem","_law_place","_law_first","_law_signs"] qP (ba oy):=bH
def RB:Sp:=λvs H Q _=>∃(l:Addr) (m:Nat),vs=[.ref l,.int m]/\m<=30/\d_ H l/\∀(a:Addr) (ns:ae) (H':Hp),a_ l H H'->d_ H' l->H a=none->H' a\.lst (ns.map V.str)->Nm m ns->Q (.ref a) H'
theorem iW_(F:bp K "_law_named" "_law_named" oy f fd)(B:Bi mg)(cD:!br 2 y_ AH De):!aj aZ 3 f fd qP RB:=by
 exists F.bG EK;let#[l,m,rfl,m8,st,k]:=h;let sz:=cc;refine' #[_,?r0,?kk]
 case' r0=>refine' ak ?s1 ?r1
 case' r1=>refine' ak ?s2 ?r2
 case' r2=>refine' ak ?s3 ?r3
 case' r3=>refine' ak ?s4 ?r4
 case' r4=>refine' ak ?s5 ?r5
 case' r5=>refine' aE ?s6
 case s1=>exact aO 2 EK.nd cn
 case' s2=>refine' aO 3 EK.nd ?a1
 case' a1=>refine' gC PySem.F.plainAttrs_str PySem.F.slot_str_join PySem.F.type_str_join kI_ ?a2 ?a3
 case a2=>exact cn
 case' a3=>refine' dE ?a4 aJ
 case' a4=>refine' i4 U2 1 [2,0] ?d1 ?d2 ?d3 ?d4
 case d1=>exact EW (by rfl) B.range %[aX cD hr %[0,aI|0]|0]
 case d2=>exact λfp s H=>e_ (i:=0) (show U2.Nodup by decide +kernel) Z (Or.inl Z)
 case d3=>exact λfp s H=>iH
 case d4=>exact λfp s H=>bM VC (pv 1) (aX cD hr %[2,aI|0])
 case s3=>exact aO 4 EK.nd (aX cD hr %[0,bw h9 (cQ ZR (by rfl) B.len jJ %[3|0]) aI|0])
 case s4=>exact aO 5 EK.nd (aX cD hr %[0,aI|0])
 case' s5=>refine' aO 6 EK.nd ?e0
 case' e0=>refine' i4 U1 1 [5,2] ?e1 ?e2 ?e3 ?e4
 case e1=>exact EW (by rfl) B.range %[1|0]
 case e2=>exact λfp s H=>e_ (i:=0) (show U1.Nodup by decide +kernel) Z (Or.inl Z)
 case e3=>exact λfp s H=>iH
 case e4=>exact λfp s H=>bM VC (pv 2) (bw sV (bw h9 (pv 1) (bw jI aI (pv 0))) aI)
 case' s6=>refine' bo ?f0
 case' f0=>refine' i4 U0 1 [4,6,3] ?f1 ?f2 ?f3 ?f4
 case f1=>exact EW (by rfl) B.range %[1|0]
 case f2=>exact λfp s H=>e_ (i:=0) (show U0.Nodup by decide +kernel) Z (Or.inl Z)
 case f3=>exact λfp s H=>iH
 case' f4=>intro fp s H
 case' f4=>refine' bw AZ ?g1 ?g2
 case' g1=>refine' bw AZ ?g3 ?g4
 case' g3=>refine' bw AZ ?g5 ?g6
 case g5=>exact xq Vq (pv 3) xo (xn (pv 1))
 case g6=>exact bM (yD (K:=K) BN gi) (pv 2) (pv 0)
 case g4=>exact xq Vq (pv 3) (xn (pv 1)) xo
 case g2=>exact bw ly_ cn (bw vR (pv 0) aI)
 apply#[Z,_,Z,l,7,Z,by decide,by decide,st,λr H1 r0 r7 b1 mD=>#[r,Z,by omega,by omega,λD hD=>?_]];let Dl:=mD.ne hD
 let TX:dH:=λi out H'=>∃ss:ae,a_ l H1 H'/\d_ H' l/\out=ss.map V.str/\H' D\.lst out/\ss.length=i/\∀x∈ss,x.length<=1/\∀c∈x.cps.toList,lG c=true
 apply zk (own:=1) (fv:=[some (.str Er),some (.ref l)]) Z ee r.toNat TX #[[],a_.of (aa.new hD),mD.same (aa.new hD),Z,ay,Z,by simp] (λout H2 ⟨ss,b2,fK,eo,jE,le,h1⟩=>#[bq _,?_]) (λi out H2 hi ⟨ss,b2,fK,eo,jE,le,h1⟩=>#[hi,λx H3 ⟨e3,ex⟩=>?_]);rotate_left 1
 ·subst e3;apply#[_,Z,Z,λNx hN=>dW ?_];apply#[_,Z,_,Z,l,26,Z,by decide,by decide,fK,λq H4 q0 UJ b4 ia=>?_];let#[q,rfl]:=qI q0;have F9:q<26:=by omega
  apply#[_,_,97+q,Z,Z,by rw[ke.1];decide,Wu F9,out,b4 _ _ jE Dl,?_,hN (out++[.str ⟨(List.toArray [97+q])⟩]) _ #[ss++[⟨(List.toArray [97+q])⟩],?_,ia.upd Dl,?_,ay,?_,?_]]
  ·rw[eo,ao];omega
  ·exact (b2.trans b4).snd hD
  ·rw[eo,bY];rfl
  ·rw[eA,le];rfl
  intro x hx;rcases fR.mp hx with hx|hx
  ·exact h1 x hx
  obtain rfl:x=⟨(List.toArray [97+q])⟩:=⇑hx
  apply#[bq 1,λc hc=>?_];obtain rfl:c=97+q:=⇑hc
  exact VS F9
 subst eo;let sl:=lT_ λx hx=>(h1 x hx).1;have l8:ss.length<=6:=by omega
 let Z6:=b1.trans b2;let fD:=b1.free mD hD;apply#["",D,ss,Z,Z,.of jE,by show (ss.map (·.length)).sum+ss.length * 0<=16777216;omega,?_]
 have jl:(Txt.join "" ss).length<=6:=by
  have:=iU_ "" ss;have e0:("":Str).length=0:=by decide +kernel
  rw[e0] at this;omega
 let jo:=jk_ λx hx=>(h1 x hx).2;generalize Txt.join "" ss=jn at jl jo ⊢;clear jE h1 sl;apply#[_,Z,_,Z,jn,Z,by omega,_,_,Z,Z,l,_,Z,by omega,by omega,fK,λpl H4 p0 p1 b4 ia=>?_];let#[pl,rfl]:=qI p0;have UQ:pl<=jn.length:=by omega
 apply#[_,Z,l,26,Z,by decide,by decide,ia,λfi H5 f0 f1 b5 gq=>?_];let#[fi,rfl]:=qI f0;let Z5:=Z6.trans (b4.trans b5);clear Z6 b4 b5 b1 b2;apply#[_,Z,(m:Int),Z,by omega,by omega,λD2 jE=>?_];let D2l:=gq.ne jE;let fD2:=Z5.free gq jE
 let TV:dH:=λi out H'=>aa H5 H'/\out=((List.range i).map λk=>V.str ⟨(List.toArray [97+(fi+7 * k) % 26])⟩)/\H' D2\.lst out
 apply zk (own:=1) (fv:=[some (.int fi),some (.str Er)]) Z ee m TV #[aa.new jE,Z,ay] (λout H6 ⟨s6,eo,h6⟩=>#[bq _,?_]) (λi out H6 hi ⟨s6,eo,h6⟩=>#[hi,λx H7 ⟨e7,ex⟩=>?_]);rotate_left 1
 ·subst e7;subst ex;have UJ:(fi+7 * i) % 26<26:=Nat.mod_lt _ (by decide);apply#[_,Z,Z,λNx hN=>dW ?_];apply#[_,Z,_,Z,_,Z,_,_,Z,Z,.inl #[by decide,by decide],_,_,Z,Z,_,_,Z,Z,by show (0:Int)<26;decide,?_];have e:((fi:Int)+7 * (0+(i:Int))) % 26=(((fi+7 * i) % 26:Nat):Int):=by omega
  apply#[_,_,97+(fi+7 * i) % 26,Z,Z,by rw[ke.1];decide,?_,out,h6,?_,hN (out++[.str ⟨(List.toArray [97+(fi+7 * i) % 26])⟩]) _ #[fF s6 jE,?_,ay]]
  ·rw[e];exact Wu UJ
  ·rw[eo,ao,List.length_range];omega
  rw[eo,List.range_succ,bY];rfl
 subst eo;have Z4:a_ l H H6:=Z5.trans (a_.of s6);let mC:=gq.same s6;have hl6:jn.length=jn.cps.toList.length:=xv jn;apply#[_,Z,(m:Int),Z,by omega,by omega,λD3 Eh=>?_];let D3l:=mC.ne Eh;let fD3:=Z4.free mC Eh
 let TU:dH:=λi out H'=>∃ns:ae,aa H6 H'/\out=ns.map V.str/\H' D3\.lst out/\ns.length=i/\∀k n,ns[k]? = some n->n.cps.toList=jn.cps.toList.take pl++(97+(fi+7 * k) % 26)::(jn.cps.toList.drop pl++List.replicate (k / 26) 122)
 apply zk (own:=1) (fv:=[some (.int pl),some (.ref D2),some (.str jn)]) Z ee m TU #[[],aa.new Eh,Z,ay,Z,by simp] (λout H7 ⟨ns,s7,eo,h7,le,hn⟩=>#[bq _,?_]) (λi out H7 hi ⟨ns,s7,eo,h7,le,hn⟩=>#[hi,λx H8 ⟨e8,ex⟩=>?_])
 ·subst eo;apply k D3 ns H7 (Z4.trans (a_.of s7)) (mC.same s7) fD3 h7 (kS_ m8 le (λc hc=>jo c (List.mem_of_mem_take hc)) (λc hc=>jo c (List.mem_of_mem_drop hc)) ?_ hn);rw[cX,List.length_drop];omega
 subst e8;subst ex;apply#[_,Z,Z,λNx hN=>dW ?_];let ct:=m1_ (x:=jn) UQ;let cf:=jJ_ (x:=jn) UQ
 have lt:(Txt.slice jn none (some (pl:Int))).length<=6:=by
  rw[xv,ct,cX];omega
 have lf:(Txt.slice jn (some (pl:Int)) none).length<=6:=by
  rw[xv,cf,List.length_drop];omega
 have ha:((List.range m).map λk=>V.str ⟨(List.toArray [97+(fi+7 * k) % 26])⟩)[i]? = some (V.str ⟨(List.toArray [97+(fi+7 * i) % 26])⟩):=by
  rw[dR,List.getElem?_range hi];rfl
 apply#[_,Z,_,Z,_,Z,jn,Z,by omega,_,Z,_,Z,D2,_,_,V.str ⟨(List.toArray [97+(fi+7 * i) % 26])⟩,Z,Z,.of (s7 _ _ h6),?_,_,_,Z,Z,?_,?_]
 ·rw[iX Z1 (by rw[ao,List.length_range];omega),Int.zero_add];exact ha
 ·show (Txt.slice jn none (some (pl:Int))).length+1<=sizeLine;omega
 have l1:(Txt.slice jn none (some (pl:Int))++(⟨(List.toArray [97+(fi+7 * i) % 26])⟩:Str)).length<=7:=by
  rw[xv,GS,eA,<- xv];show _+1<=7;omega
 apply#[_,Z,_,Z,_,Z,jn,Z,by omega,_,_,Z,Z,by omega,?_]
 have l2:(Txt.slice jn none (some (pl:Int))++(⟨(List.toArray [97+(fi+7 * i) % 26])⟩:Str)++Txt.slice jn (some (pl:Int)) none).length<=13:=by
  rw[xv,GS,eA,<- xv,<- xv];omega
 have z0:((0:Int)+(i:Int)) / 26=((i / 26:Nat):Int):=by omega
 have q1:i / 26<=1:=by omega
 have lz:(Txt.mul "z" ((i / 26:Nat):Int)).length<=1:=by
  rw[xv,(BY q1).2,xE];exact q1
 apply#[_,Z,_,_,Z,Z,#[by decide,by decide],"z",((i / 26:Nat):Int),Z,by show V.int ((0+(i:Int)) / 26)=_;rw[z0],(BY q1).1,_,_,Z,Z,?_,out,h7,?_,hN _ _ #[ns++[Txt.slice jn none (some (pl:Int))++(⟨(List.toArray [97+(fi+7 * i) % 26])⟩:Str)++Txt.slice jn (some (pl:Int)) none++Txt.mul "z" ((i / 26:Nat):Int)],fF s7 Eh,?_,ay,?_,?_]]
 ·omega
 ·rw[eo,ao];omega
 ·rw[eo,bY];rfl
 ·rw[eA,le];rfl
 intro k n hk;by_cases z:k<ns.length
 ·rw[Dz z] at hk;exact hn k n hk
 rw[A7 Z1] at hk
 have hk0:k - ns.length=0:=by
  have:=(cq.mp hk).1;simp at this;omega
 rw[hk0] at hk;have:k=i:=by omega
 subst this;obtain rfl:=(eK hk);rw[GS,GS,GS,ct,cf,(BY q1).2];simp
theorem Dn(ys:ai)(k:Nat):gB ys none (some (k:Int))=ys.take k:=by
 unfold gB;rw[HT.lj,HT.p9,List.drop_zero,Nat.sub_zero];by_cases h:k<=ys.length
 ·rw[Nat.min_eq_left h]
 rw[Nat.min_eq_right Z1,xF (bq _),xF Z1]
structure WI (K:af) (H0 H:Hp) (l ln lh lt:Addr) (ns:ae) (nh k j:Nat):Prop where
 but:a_ l H0 H
 st:d_ H l
 hn:H ln\.lst (ns.map V.str)
 iV:∃(ys:ai) (hs:Xa),H lh\.lst ys/\bg K H ys (hs.map kH)/\hs.map (·.1)=ns.take nh/\∀h∈hs,1<=h.2/\h.2<=1000
 q_:∃(zs:ai) (ts:Xb),H lt\.lst zs/\bg K H zs (ts.map kT)/\TI ns k j ts
 nl:ln≠l
 hl:lh≠l
 tl:lt≠l
 th:lt≠lh
 Gq:ln≠lh
 nt:ln≠lt
 fh:H0 lh=none
 ft:H0 lt=none
variable{H0:Hp}{lh ln lt:Addr}{j k nh:Nat}
theorem WI.mv(W:WI K H0 H l ln lh lt ns nh k j)(b:a_ l H H')(s:d_ H' l):WI K H0 H' l ln lh lt ns nh k j:=by
 let#[xs,hx]:=W.st.some;let#[ys,hs,h1,h2,h3,h4]:=W.iV;let#[zs,ts,t1,t2,t3]:=W.q_;exact#[W.but.trans b,s,b _ _ W.hn W.nl,#[ys,hs,b _ _ h1 W.hl,xw h2 b hx,h3,h4],#[zs,ts,b _ _ t1 W.tl,xw t2 b hx,t3],W.nl,W.hl,W.tl,W.th,W.Gq,W.nt,W.fh,W.ft]
theorem WI.same(W:WI K H0 H l ln lh lt ns nh k j)(s:aa H H'):WI K H0 H' l ln lh lt ns nh k j:=W.mv (a_.of s) (W.st.same s)
variable{n:Str}
theorem WI.hand(W:WI K H0 H l ln lh lt ns nh k j){t:Addr}{x:Int}{ys:ai}(hx:1<=x/\x<=1000)(hn:ns[nh]? = some n)(hy:H lh\.lst ys)(ht:H t\.tup [.str n,.int x]):WI K H0 (upd H lh (.lst (ys++[.ref t]))) l ln lh lt ns (nh+1) k j:=by
 let#[Nc,hs,h1,h2,h3,h4]:=W.iV;rw[hy] at h1;cases h1;let#[zs,ts,t1,t2,t3]:=W.q_;have tt:H t\.tup ((kH (n,x)).map kV):=ht;apply#[W.but.snd W.fh,W.st.upd W.hl,by rw[ax W.Gq];exact W.hn,#[_,hs++[(n,x)],ay,?_,?_,λh hh=>?_],#[zs,ts,by rw[ax W.th];exact t1,jb t2 hy,t3],W.nl,W.hl,W.tl,W.th,W.Gq,W.nt,W.fh,W.ft]
 ·rw[bY];exact jb (vX h2 tt) hy
 ·rw[bY,h3,iw,hn];rfl
 rcases fR.mp hh with hh|hh
 ·exact h4 h hh
 obtain rfl:h=(n,x):=⇑hh
 exact hx
theorem id_{α:Type}(l:List α)(x:α):Et l l.length x=l++[x]:=by
 unfold Et;rw[dz,List.drop_length]
theorem sW:bx [kz,"_law_names","_law_plain","_law_dense","_law_hands",vH,"_law_k","_law_name","_law_some",lY,"_law_pair"] [kz] (ba uD):=bH
def tU(K:af):Sp:=λvs H Q _=>∃(l:Addr),vs=[.ref l]/\d_ H l/\∀(t lh lt:Addr) (ys zs:ai) (hs:Xa) (ts:Xb) (H':Hp),a_ l H H'->d_ H' l->H' t\.tup [.ref lh,.ref lt]->H lh=none->H lt=none->lh≠lt->lh≠l->lt≠l->
 H' lh\.lst ys->bg K H' ys (hs.map kH)->H' lt\.lst zs->bg K H' zs (ts.map kT)->Good hs ts->Q (.ref t) H'
theorem aA(n:H a=none):aa H (upd H a o)/\upd H a o a\o:=#[aa.new n,ay]
theorem kM_(F:bp K "_law_web" "_law_web" uD f fd)(B:Bi mg)(cD:!br 2 y_ AH De)(cN:!br 3 "_law_named" qP RB):!aj aZ 4 f fd [kz] (tU K):=by
 exists F.bG sW;let#[l,rfl,st,k]:=h;let sz:=cc;refine' #[_,?r0,?kk]
 case' r0=>refine' ak ?s1 ?r1
 case' r1=>refine' ak ?s2 ?r2
 case' r2=>refine' ak ?s3 ?r3
 case' r3=>refine' ak ?s4 ?r4
 case' r4=>refine' ak ?s5 ?r5
 case' r5=>refine' ak ?s6 ?r6
 case' r6=>refine' aE ?s7
 case s1=>exact aO 1 sW.nd (aX cN hr %[0,bw h9 aI (aX cD hr %[0,aI|0])|0])
 case s2=>exact aO 2 sW.nd (aX cD hr %[0,aI|0])
 case s3=>exact aO 3 sW.nd (bw h9 aI (aX cD hr %[0,aI|0]))
 case s4=>exact aO 4 sW.nd (cy aJ)
 case s5=>exact aO 5 sW.nd (cy aJ)
 case' s6=>refine' eE dM Z (Xn (by rfl) B.enum %[1|0]) (ju Z (cU (bN 6 sW.nd) (cU (bN 7 sW.nd) iA))) ?b0
 case' b0=>refine' ak ?b1 ?c1
 case' c1=>refine' ak ?b2 ?c2
 case' c2=>refine' aE ?b3
 case' b1=>refine' aO 8 sW.nd (cy ?l0)
 case' l0=>refine' dE aI ?l1
 case' l1=>refine' dE (bw h9 aI (aX cD hr %[0,aI|0])) ?l2
 case' l2=>refine' dE (bw h9 aI (aX cD hr %[0,aI|0])) ?l3
 case l3=>exact dE aI aJ
 case' b2=>refine' gP (gC gO kB kC ki (pv 4) %[eW %[7,?d1|0]|0])
 case d1=>exact bM gi (pv 8) (bw jI (aX cD hr %[0,aI|0]) (iZ Jv (by rfl) B.int EG %[iI sP (pv 2) aI|0]))
 case' b3=>refine' eE dM Z (dA (xq A2 (pv 1) xo (xn (pv 6)))) (bN 9 sW.nd) ?e0
 case' e0=>refine' ak ?e1 ?e2
 case e1=>exact aO 10 sW.nd (bM gi (cy %[eW %[7,9|0],eW %[9,7|0]|0]) (aX cD hr %[0,aI|0]))
 case' e2=>refine' aE (aO 5 sW.nd (bw C0 (pv 5) (bw Vv (cy %[10|0]) ?g1)))
 case g1=>exact iZ Jv (by rfl) B.int EG %[iI Lo (aX cD hr %[0,aI|0]) (pv 3)|0]
 case s7=>exact bo (eW %[4,5|0])
 apply#[_,Z,_,Z,l,8,Z,by decide,by decide,st,λr H1 r0 r8 b1 mD=>#[_,_,Z,Z,?_]];let#[r,rfl]:=qI r0;apply#[l,1+r,by show [V.ref l,V.int (1+(r:Int))]=[V.ref l,V.int ((1+r:Nat):Int)];rw[Int.natCast_add];rfl,by omega,mD,λln ns H2 b2 fK fn Cg N=>?_];have n8:ns.length<=8:=by rw[N.len];omega
 have n1:1<=ns.length:=by rw[N.len];omega
 have GB:ln≠l:=mD.ne fn;apply#[_,Z,l,3,Z,by decide,by decide,fK,λyk H3 p0 p1 b3 gR=>?_];apply#[_,Z,l,3,Z,by decide,by decide,gR,λdn H4 d0 d1 b4 ia=>#[_,_,Z,Z,?_]];let Lx:=b4 _ _ (b3 _ _ Cg GB) GB;have B4:a_ l H H4:=b1.trans (b2.trans (b3.trans b4));apply#[zl,λlh ig=>?_];let#[s5,Ck]:=aA (o:=.lst []) ig;let GD:=ia.ne ig;have fh:H lh=none:=B4.free ia ig;have DR:ln≠lh:=bj Lx ig;generalize upd H4 lh (.lst [])=H5 at s5 Ck ⊢;apply#[zl,λlt dm=>?_];let s6:=aa.new (o:=.lst []) dm;let gq:=ia.same s5;let yz:=gq.ne dm;let B5:=B4.trans (a_.of s5);have ft:H lt=none:=B5.free gq dm;have W0:WI K H (upd H5 lt (.lst [])) l ln lh lt ns 0 0 0:=#[B5.trans (a_.of s6),gq.same s6,s6 _ _ (s5 _ _ Lx),#[[],[],s6 _ _ Ck,.nil,Z,by simp],#[[],[],ay,.nil,#[by simp,.nil,gF _]],GB,GD,yz,(bj Ck dm).symm,DR,bj (s5 _ _ Lx) dm,fh,ft];clear B4 B5 b1 b2 b3 b4 mD fK gR ia gq s5 s6 fn Cg Lx;generalize upd H5 lt (.lst [])=H6 at W0 ⊢;apply setG ?_;dsimp only
 let KI:bZ:=λσ H'=>∃(lt:Addr) (v6 v7 v8 v9 v10:aF),σ=[some (.ref l),some (.ref ln),some (.int yk),some (.int (1+dn)),some (.ref lh),some (.ref lt),v6,v7,v8,v9,v10]/\WI K H H' l ln lh lt ns ns.length ns.length 0
 apply dg KI ?last ?loop
 case last=>
  rintro σ H7 ⟨lt,v6,v7,v8,v9,v10,rfl,W⟩;let#[ys,hs,h1,h2,h3,h4]:=W.iV;let#[zs,ts,t1,t2,t3]:=W.q_;rw[dz] at h3;apply#[_,Z,_,Z,zl,λt ht=>?_];let s8:=aa.new (o:=.tup [.ref lh,.ref lt]) ht;apply k t lh lt ys zs hs ts _ (W.but.trans (a_.of s8)) (W.st.same s8) ay W.fh W.ft W.th.symm W.hl W.tl (s8 _ _ h1) (h2.same s8) (s8 _ _ t1) (t2.same s8) ?_;let tg:=t3.good N.nd N.ok
  have hlen:hs.length=ns.length:=by
   have:=dQ List.length h3;rwa [ao] at this
  apply#[λh hh=>#[N.ok _ ?_,h4 h hh],by rw[h3];exact N.nd,by omega,by omega,λt ht=>(tg t ht).1,t3.nd,by have:=t3.len;omega,λt ht=>by rw[h3];exact (tg t ht).2];rw[<- h3];exact bh.mpr #[h,hh,Z]
 case loop=>
  intro N0 hN
  let KH:bI:=λi σ H'=>∃(lt:Addr) (v6 v7 v8 v9 v10:aF),σ=[some (.ref l),some (.ref ln),some (.int yk),some (.int (1+dn)),some (.ref lh),some (.ref lt),v6,v7,v8,v9,v10]/\WI K H H' l ln lh lt ns i i 0
  apply#[_,Z,ln,Z,#[_,.of W0.hn],Xv (K:=K) (a:=ln) (xs:=ns.map V.str) KH
   #[lt,none,none,none,none,none,Z,W0] (λi σ H' _ ⟨_,_,_,_,_,_,_,W⟩=>.of W.hn) ?_ ?_]
  rotate_left 1
  ·rintro σ H' ⟨lt,v6,v7,v8,v9,v10,rfl,W⟩;rw[ao] at W;exact hN _ _ #[lt,v6,v7,v8,v9,v10,Z,W]
  rintro i x σ H7 hx ⟨lt,v6,v7,v8,v9,v10,rfl,W⟩ u hu;let#[one,Cc,rfl]:=i0 hx;have hi:i<ns.length:=(cq.mp Cc).1;have s7:aa H7 (upd H7 u (.tup [.int i,.str one])):=aa.new hu;have Wj:upd H7 u (.tup [.int i,.str one]) u\.tup [.int i,.str one]:=ay;apply#[u,_,Z,.of Wj,Z,_,_,Z,_,_,Z,Z,?_];let W8:=W.same s7;clear W Wj;generalize upd H7 u (.tup [.int i,.str one])=H8 at W8 ⊢;clear s7 hu;dsimp only
  let KG:bZ:=λσ H'=>∃(lt ls:Addr) (v9 v10:aF) (a b:Int),σ=[some (.ref l),some (.ref ln),some (.int yk),some (.int (1+dn)),some (.ref lh),some (.ref lt),some (.int i),some (.str one),some (.ref ls),v9,v10]/\WI K H H' l ln lh lt ns i i 0/\H' ls\.lst [.int 1,.int a,.int b,.int 1000]/\ls≠l/\1<=a/\a<=1000/\1<=b/\b<=1000
  apply dg KG ?m2 ?m1
  case m1=>
   intro N2 hN2;apply#[_,Z,l,4,Z,by decide,by decide,W8.st,λr1 H9 q0 q1 b9 zQ=>#[_,_,Z,Z,?_]];let W9:=W8.mv b9 zQ;apply#[_,Z,l,1000,Z,by decide,by decide,W9.st,λr2 wC q2 q3 jv jf=>#[_,_,Z,Z,?_]];let A_:=W9.mv jv jf;apply#[zl,λls yH=>?_];exact hN2 _ _ #[lt,ls,_,_,1+r1,1+r2,Z,A_.same (aa.new yH),ay,A_.st.ne yH,by omega,by omega,by omega,by omega]
  rintro σ H9 ⟨lt,ls,v9,v10,a,b,rfl,W9,yH,lsl,a1,a2,b1,b2⟩
  let KF:bZ:=λσ H'=>∃(lt ls:Addr) (v9 v10:aF),σ=[some (.ref l),some (.ref ln),some (.int yk),some (.int (1+dn)),some (.ref lh),some (.ref lt),some (.int i),some (.str one),some (.ref ls),v9,v10]/\WI K H H' l ln lh lt ns (i+1) i 0
  apply dg KF ?m4 ?m3
  case m3=>
   intro N3 hN3;let#[ys,hs,h1,h2,h3,h4]:=W9.iV;apply#[_,Z,.inl #[Z,_,.of h1],_,Z,_,Z,_,Z,l,4,Z,by decide,by decide,W9.st,λr1 wC q0 q1 jv jf=>?_];let A_:=W9.mv jv jf
   obtain⟨ix,e0,e4,eix⟩:∃ix:Int,0<=ix/\ix<4/\r1 * (if decide (0<yk)=true then 1 else 0)=ix:=by
    apply#[_,?_,?_,Z]
    ·by_cases c:decide (0<yk)=true
     ·rw[aB c];omega
     rw[au c];omega
    by_cases c:decide (0<yk)=true
    ·rw[aB c];omega
    rw[au c];omega
   let#[v,hv,x,rfl,x1,x2]:=vy (p:=λv:V=>∃x:Int,v=V.int x/\1<=x/\x<=1000) (xs:=[V.int 1,.int a,.int b,.int 1000]) (n:=4) Z e0 e4 (λv hv=>by
    simp only[bX,xH,or_false] at hv;rcases hv with rfl|rfl|rfl|rfl
    ·exact#[_,Z,by decide,by decide]
    ·exact#[_,Z,a1,a2]
    ·exact#[_,Z,b1,b2]
    exact#[_,Z,by decide,by decide])
   let Hj:=jv _ _ yH lsl;apply#[_,Z,_,_,Z,Z,.inr #[_,Z,_,_,Z,Z,.inl #[by omega,by omega],ls,_,_,_,Z,dQ V.int eix,.of Hj,hv,zl,λt ht=>?_]];let M8:=A_.same (aa.new (o:=.tup [.str one,.int x]) ht);let Xs:=jv _ _ h1 W9.hl;apply#[lh,_,_,Z,Z,aa.new (o:=.tup [.str one,.int x]) ht _ _ Xs,?_,hN3 _ _ #[lt,ls,v9,v10,Z,M8.hand #[x1,x2] Cc (aa.new (o:=.tup [.str one,.int x]) ht _ _ Xs) ay]];have:=dQ List.length h3;have:=bK h2;rw[ao] at this;rw[ao,cX] at *;omega
  rintro σ wC ⟨lt,ls,v9,v10,rfl,A_⟩;apply#[_,Z,_,Z,_,Z,ln,_,Z,.of A_.hn,λp hp=>?_];rw[jH_];let M8:=A_.same (aa.new (o:=.lst ((ns.take i).map V.str)) hp);have Cb:upd wC p (.lst ((ns.take i).map V.str)) p\.lst ((ns.take i).map V.str):=ay;let lp:=A_.st.ne hp;generalize upd wC p (.lst ((ns.take i).map V.str))=Ua at M8 Cb ⊢
  let KD:bI:=λj σ H'=>∃(lt ls:Addr) (v9 v10:aF),σ=[some (.ref l),some (.ref ln),some (.int yk),some (.int (1+dn)),some (.ref lh),some (.ref lt),some (.int i),some (.str one),some (.ref ls),v9,v10]/\H' p\.lst ((ns.take i).map V.str)/\WI K H H' l ln lh lt ns (i+1) i j
  apply#[p,Z,#[_,.of Cb],fY (K:=K) (a:=p) (xs:=(ns.take i).map V.str) KD
   #[lt,ls,v9,v10,Z,Cb,M8] (λj σ H' _ ⟨_,_,_,_,_,q,_⟩=>.of q) ?_ ?_]
  rotate_left 1
  ·rintro σ H' ⟨lt,ls,v9,v10,rfl,_,W⟩;apply#[lt,_,_,_,_,_,Z,?_];let#[zs,ts,t1,t2,t3]:=W.q_;rw[ao,cX,Nat.min_eq_left Z1] at t3;exact#[W.but,W.st,W.hn,W.iV,#[zs,ts,t1,t2,t3.next Z1],W.nl,W.hl,W.tl,W.th,W.Gq,W.nt,W.fh,W.ft]
  rintro j y σ Fe hy ⟨lt,ls,v9,v10,rfl,Pu,_c⟩;let#[o,ho,rfl]:=i0 hy
  have hj:j<i:=by
   have:=(cq.mp ho).1;rw[cX] at this;omega
  rw[List.getElem?_take,aB hj] at ho;apply setG ?_;dsimp only
  let KC:bZ:=λσ H'=>∃(lt ls t:Addr) (v9:aF) (tt:Str × Str),σ=[some (.ref l),some (.ref ln),some (.int yk),some (.int (1+dn)),some (.ref lh),some (.ref lt),some (.int i),some (.str one),some (.ref ls),v9,some (.ref t)]/\H' p\.lst ((ns.take i).map V.str)/\WI K H H' l ln lh lt ns (i+1) i j/\H' t\.tup ((kT tt).map kV)/\(tt=(one,o)∨tt=(o,one))
  apply dg KC ?m6 ?m5
  case m5=>
   intro N5 hN5;apply#[_,Z,_,Z,zl,λt1 Au=>?_];let zX:=aa.new (o:=.tup [.str one,.str o]) Au;apply#[_,Z,_,Z,zl,λt2 Pn=>?_];let fV:=aa.new (o:=.tup [.str o,.str one]) Pn;apply#[zl,λlx sJ=>?_];let jh:=aa.new (o:=.lst [.ref t1,.ref t2]) sJ;let DD:=_c.same ((zX.trans fV).trans jh);let yG:=jh _ _ (fV _ _ (zX _ _ Pu));apply#[_,Z,l,2,Z,by decide,by decide,DD.st,λr5 _j q4 q5 o_ NM=>?_];have OG:lx≠l:=(_c.same (zX.trans fV)).st.ne sJ;let qr:=o_ _ _ (show upd (upd (upd Fe t1 (.tup [.str one,.str o])) t2 (.tup [.str o,.str one])) lx (.lst [.ref t1,.ref t2]) lx=_ from ay) OG;let#[_D,Hq]:=DD.st.some;let G0:=jh _ _ (fV _ _ (show upd Fe t1 (.tup [.str one,.str o]) t1=_ from ay));let GY:=jh _ _ (show upd (upd Fe t1 (.tup [.str one,.str o])) t2 (.tup [.str o,.str one]) t2=_ from ay);let GZ:=o_ _ _ G0 (cu G0 Hq nofun);let GX:=o_ _ _ GY (cu GY Hq nofun)
   have pick:∃(t:Addr) (tt:Str × Str),gK [V.ref t1,V.ref t2] r5\.ref t/\_j t\.tup ((kT tt).map kV)/\(tt=(one,o)∨tt=(o,one)):=by
    rcases yK (a:=V.ref t1) (b:=V.ref t2) q4 q5 with e|e
    ·exact#[t1,(one,o),e,GZ,.inl Z]
    exact#[t2,(o,one),e,GX,.inr Z]
   let#[t,tt,et,Pk,wR]:=pick;exact#[lx,_,_,_,Z,Z,.of qr,et,hN5 _ _ #[lt,ls,t,_,tt,Z,o_ _ _ yG lp,DD.mv o_ NM,Pk,wR]]
  rintro σ T_ ⟨lt,ls,t,v9,tt,rfl,yG,DD,Pk,wR⟩;let#[zs,ts,t1,t2,t3]:=DD.q_;apply#[_,Z,_,Z,zl,λlx sJ=>?_];let Lb:=aa.new (o:=.lst [.ref t]) sJ;let M7:=DD.same Lb;have qr:upd T_ lx (.lst [.ref t]) lx\.lst [.ref t]:=ay;let OG:=DD.st.ne sJ;have lxh:lx≠p:=(bj yG sJ).symm;let G8:=Lb _ _ yG;let vt:=Lb _ _ Pk;generalize upd T_ lx (.lst [.ref t])=_j at Lb M7 qr G8 vt ⊢;apply#[_,Z,l,3,Z,by decide,by decide,M7.st,λr6 H15 q6 q7 vY NL=>#[_,Z,_,_,Z,Z,.inr #[_,Z,?_]]];let _b:=M7.mv vY NL;let Hh:=vY _ _ qr OG;let Pt:=vY _ _ G8 lp;let#[_C,PL]:=M7.st.some;let GW:=vY _ _ vt (cu vt PL nofun);let#[zD,Fm,u1,u2,u3]:=_b.q_
  have u7:zD.length<=100:=by
   let a1:=bK u2;let a2:=u3.len;rw[ao] at a1;omega
  have fin:∀(b:Bool) (q:Addr) (M_:Hp),aa H15 M_->∀u,M_ u=none->WI K H (upd M_ u (.lst (zD++(List.replicate (if b=true then (1:Int) else 0).toNat [V.ref t]).flatten))) l ln lh u ns (i+1) i (j+1):=by
   intro b q M_ BL u hu;let E9:=_b.same BL;let A9:=E9.same (aa.new (o:=.lst (zD++(List.replicate (if b=true then (1:Int) else 0).toNat [V.ref t]).flatten)) hu);apply#[A9.but,A9.st,A9.hn,A9.iV,#[_,if b=true then Fm++[tt] else Fm,ay,?_,?_],A9.nl,A9.hl,E9.st.ne hu,?_,A9.Gq,?_,A9.fh,E9.but.free E9.st hu]
   ·let Uh:=(u2.same BL).same (aa.new (o:=.lst (zD++(List.replicate (if b=true then (1:Int) else 0).toNat [V.ref t]).flatten)) hu);cases b with
    |true=>
     show bg K _ (zD++[V.ref t]) ((Fm++[tt]).map kT);rw[bY];exact vX Uh (aa.new hu _ _ (BL _ _ GW))
    |false=>
     show bg K _ (zD++[]) (Fm.map kT);rw[hG];exact Uh
   ·cases b with
    |true=>
     have:=u3.add N.nd hj Cc ho wR Fm.length;rw[id_] at this;exact this
    |false=>exact u3.skip
   ·let#[ys,hs,h1,_]:=E9.iV;exact (bj h1 hu).symm
   exact bj E9.hn hu
  apply#[lx,_,_,Z,Z,Hh,?_,?_,?_,λq hq=>?_]
  ·by_cases c:decide (r6<1+dn)=true
   ·rw[aB c];decide
   rw[au c];decide
  ·by_cases c:decide (r6<1+dn)=true
   ·rw[aB c];decide
   rw[au c];decide
  ·by_cases c:decide (r6<1+dn)=true
   ·rw[aB c];show 1 * 1<=sizeLine;decide
   rw[au c];show 1 * 0<=sizeLine;decide
  let BL:=aa.new (o:=.lst (List.replicate (if decide (r6<1+dn)=true then (1:Int) else 0).toNat [V.ref t]).flatten) hq;apply#[lt,q,_,_,Z,Z,BL _ _ u1,ay,?_,λu hu=>#[u,ls,_,_,Z,aa.new hu _ _ (BL _ _ Pt),fin _ q _ BL u hu]];by_cases c:decide (r6<1+dn)=true
  ·rw[aB c];show zD.length+1<=sizeLine;omega
  rw[au c];show zD.length+0<=sizeLine;omega
theorem R0{α:Type}{ps:List (Str × α)}(nd:(ps.map (·.1)).Nodup){a b:Str × α}(ha:a∈ps)(hb:b∈ps)(e:a.1=b.1):a=b:=by
 induction ps with
 |nil=>cases ha
 |cons p ps ih=>
  rw[eJ,r_] at nd;rcases bX.mp ha with za|ha
  ·rcases bX.mp hb with zb|hb
   ·rw[za,zb]
   rw[za] at e;exact absurd (show p.1∈ps.map (·.1) from bh.mpr #[b,hb,e.symm]) nd.1
  rcases bX.mp hb with zb|hb
  ·rw[zb] at e;exact absurd (show p.1∈ps.map (·.1) from bh.mpr #[a,ha,e]) nd.1
  exact ih nd.2 ha hb
def strOf(hs:Xa)(n:Str):Int:=((hs.find? λh=>decide (h.1=n)).map (·.2)).getD 0
variable{hs:Xa}
theorem zj(h:n∈hs.map (·.1)):(n,strOf hs n)∈hs:=by
 unfold strOf;let#[x,hx,e]:=bh.mp h;cases q:hs.find? λh=>decide (h.1=n) with
 |none=>
  have:=AY.mp q x hx;simp[e] at this
 |some y=>
  let m:=List.mem_of_find?_eq_some q;have:=List.find?_some q;have e2:y.1=n:=⇑this
  show (n,y.2)∈hs;rw[<- e2];exact m
theorem XA(nd:(hs.map (·.1)).Nodup){s:Int}(h:(n,s)∈hs):strOf hs n=s:=by
 let m:=zj (bh.mpr #[_,h,Z]:n∈hs.map (·.1));exact dQ Prod.snd (R0 nd m h Z)
variable{a b:Int}
theorem jO_(ha:0<=a)(h:0<b):Int.gcd b (a % b)=Int.gcd a b:=by
 let#[m,rfl]:=qI ha;let#[n,rfl]:=qI (i5 h);rw[<- Int.natCast_emod];show Nat.gcd n (m % n)=Nat.gcd m n;rw[Nat.gcd_comm n,<- Nat.gcd_rec,Nat.gcd_comm]
theorem mG_(hb:0<b)(qw:b<=2000000):0<(Int.gcd a b:Int)/\(Int.gcd a b:Int)<1073741824:=by
 have h1:0<Int.gcd a b:=Int.gcd_pos_of_ne_zero_right a Z1;have h2:(Int.gcd a b:Int) ∣ b:=Int.gcd_dvd_right a b;let h3:=Int.le_of_dvd hb h2;omega
theorem rj:bx ["one","other","rest","divisor","left"] sQ (ba NZ):=bH
def FM:Sp:=λvs H Q _=>∃a b:Int,vs=[.int a,.int b]/\0<=a/\0<b/\Q (.int (Int.gcd a b)) H
theorem mx_(F:bp K "greatest_divisor" "greatest_divisor" NZ f fd):!aj aZ 1 f fd sQ FM:=by
 exists F.bG rj;let#[a,b,rfl,ha,hb,k]:=h;refine' #[_,ak ?s1 (ak ?s2 (ak ?s3 ?s4)),?kk]
 case s1=>exact aO 2 rj.nd (pv 0)
 case s2=>exact aO 3 rj.nd (pv 1)
 case s3=>exact IJ dM (c_ CJ (pv 2) aI) (ak (aO 4 rj.nd (bw sV (pv 3) (pv 2))) (ak (aO 3 rj.nd (pv 2)) (aE (aO 2 rj.nd (pv 4)))))
 case s4=>exact aE (bo (pv 3))
 apply#[_,Z,_,Z,?_];apply X8 (λσ H'=>H'=H/\∃(r d:Int) (v4:aF),σ=[some (.int a),some (.int b),some (.int r),some (.int d),v4]/\0<=r/\0<d/\Int.gcd r d=Int.gcd a b) (λσ _=>match σ with | [_,_,some (.int r),_,_]=>r.toNat|_=>0) #[Z,a,b,none,Z,ha,hb,Z] ?_ ?_
 ·rintro σ H' ⟨rfl,r,d,v4,rfl,hr0,hd,e⟩;apply#[_,Z,Z,_,Z,?_];apply aQ (λc=>?_) (λc=>?_)
  ·have ko:0<r:=by
    have:r≠0:=by
     intro z;subst z;simp at c
    omega
   apply#[_,Z,_,Z,_,_,Z,Z,ko,_,Z,_,Z,?_];let h1:=zi d (Int.ne_of_gt ko);let h2:=A1 d ko;apply#[#[Z,_,_,_,Z,h1,ko,?_],?_]
   ·rw[<- e,Int.gcd_comm (d % r) r,jO_ (i5 hd) ko,Int.gcd_comm]
   show (d % r).toNat<r.toNat;omega
  have ko:r=0:=⇑c
  subst ko;apply#[_,Z,?_]
  have e2:(Int.gcd a b:Int)=d:=by
   rw[<- e,Int.gcd_zero_left];omega
  rw[<- e2];exact k
 intro σ H' Q1 Q2 hq h;let#[x,e,h1,c,h2,h3]:=h;exact#[x,e,h1,c,h2,hq _ _ h3]
end Ev
local macro_rules|`(tactic|lk)=>`(tactic|(refine Ev.setG ?_;dsimp only))
namespace L2
open PySem PySem.Spec PyProof.Rows
def LN(w:Af)(l:List (Str × Tok × Aa)):List DictEntry:=l.map λx=>#[hashStr w x.1,.str x.1 x.2.1,x.2.2]
def mq(K:af)(w:Af)(d:Addr)(kvs:List (Str × V)):Prop:=
 (d == sysModules)=false/\(kvs.map (·.1)).Nodup/\∃(l:List (Str × Tok × Aa)) (o:Obj) (es:Array DictEntry) (ep:Nat),K.lookup d\o/\o.ExactDict/\o.data=.dict es ep/\es.toList=LN w l/\Paired (λ(p:Str × V) (x:Str × Tok × Aa)=>p.1=x.1/\RelV p.2 x.2.2) kvs l
theorem Yo{P:Ae}{w:Af}:∀{l:List (Str × Tok × Aa)},Pairs (fB P w) (LN w l) (l.map λx=>((Sum.inr x.1:Key),x.2.2))
 |[]=>.nil
 |x::l=>.cons (Sw P w x.1 x.2.1) Z (Yo (l:=l))
variable{kvs:List (Str × V)}{l:List (Str × Tok × Aa)}
theorem Ya(h:Paired (λ(p:Str × V) (x:Str × Tok × Aa)=>p.1=x.1/\RelV p.2 x.2.2) kvs l):kvs.map (·.1)=l.map (·.1):=by
 induction h with
 |nil=>rfl
 |cons a _ ih=>rw[eJ,eJ,ih,a.1]
theorem mq.of{P:Ae}{K:af}{w:Af}{d:Addr}{h:Heap}(k:mq K w d kvs)(X:K.In h):∃l:List (Str × Tok × Aa),Paired (λ(p:Str × V) (x:Str × Tok × Aa)=>p.1=x.1/\RelV p.2 x.2.2) kvs l/\h.DictOf (fB P w) d (l.map λx=>((Sum.inr x.1:Key),x.2.2)):=by
 let#[_,nd,l,o,es,ep,ho,hx,hd,he,hp]:=k;apply#[l,hp,o,es,ep,X _ _ ho,hx,hd,λe m=>?_,?_,?_]
 ·have m:e∈LN w l:=by
   rw[<- he];simpa using m
  let#[x,_,rfl]:=bh.mp m;exact#[Sum.inr x.1,Sw P w x.1 x.2.1,Z]
 ·rw[he];exact Yo
 rw[Ya hp] at nd;rw[cm,xG,pe];rw[xG,pe] at nd;exact nd.imp λn e=>n (ik e)
theorem lI_(h:Paired (λ(p:Str × V) (x:Str × Tok × Aa)=>p.1=x.1/\RelV p.2 x.2.2) kvs l)(nd:(kvs.map (·.1)).Nodup){z:Str}{v:V}(m:(z,v)∈kvs):∃u,valueAt (l.map λx=>((Sum.inr x.1:Key),x.2.2)) (Sum.inr z)\u/\RelV v u:=by
 unfold valueAt
 induction h with
 |nil=>cases m
 |@cons p x kvs l a _ ih=>
  rw[eJ] at nd ⊢;rw[List.find?_cons];let#[n1,n2]:=r_.mp nd;by_cases e:x.1=z
  ·rcases bX.mp m with m|m
   ·subst m;apply#[x.2.2,?_,a.2];simp[e]
   exact absurd (by rw[a.1,e];exact bh.mpr #[_,m,Z]) n1
  rcases bX.mp m with m|m
  ·subst m;exact absurd a.1.symm e
  have:=ih n2 m;simp[e];simpa using this
theorem hs_(h:Paired (λ(p:Str × V) (x:Str × Tok × Aa)=>p.1=x.1/\RelV p.2 x.2.2) kvs l)(z:Str):(valueAt (l.map λx=>((Sum.inr x.1:Key),x.2.2)) (Sum.inr z)).isSome=decide (z∈kvs.map (·.1)):=by
 rw[Ya h];unfold valueAt;rw[Option.isSome_map,List.isSome_find?];rw[Bool.eq_iff_iff,List.any_eq_true,decide_eq_true_iff];constructor
 ·rintro⟨kv,hm,e⟩;let#[x,hx,rfl]:=bh.mp hm;have e:(Sum.inr x.1:Key)=Sum.inr z:=⇑e
  exact bh.mpr #[x,hx,ik e]
 intro m;let#[x,hx,e]:=bh.mp m;exact#[_,bh.mpr #[x,hx,Z],by simp[e]]
inductive zL (K:af) (w:Af) (Q:VK) (y:V) (x:V) (H2:Hp):Prop
 |mk:∀d kvs z,x=.ref d->mq K w d kvs->y=.str z->Q (.bl (decide (z∈kvs.map (·.1)))) H2->zL K w Q y x H2
def Nw(K:af)(w:Af)(ty td:TE):TE:=λσ H Q=>ty σ H λy H1=>td σ H1 λx H2=>zL K w Q y x H2
variable{X:Cx}{i o:Expr}{td ty:TE}
theorem lP_(hi:PE X i ty)(ho:PE X o td):PC X .In i o (Nw X.K X.w ty td):=by
 intro pins s σ H Q I h;apply bb (hi pins s σ H _ I h) λiv s1 ⟨y,H1,I1,ry,q1⟩=>bb (ho pins s1 σ H1 _ I1 q1) λu s2 ⟨x,H2,I2,rx,d,kvs,z,ex,kd,ey,q2⟩=>?_;subst ex;subst ey;obtain rfl:u=Value.ref d:=rx;let#[l,hp,dd]:=kd.of (P:=X.prog) I2.gI;apply wpAny_in_of (yS (k:=Sum.inr z) ry) kd.1 dd.mapOf ?_;rw[hs_ hp];exact#[.bl _,H2,I2.tok _,Z,q2]
inductive tM (K:af) (w:Af) (Q:VK) (x:V) (y:V) (H2:Hp):Prop
 |mk:∀d kvs z v,x=.ref d->mq K w d kvs->y=.str z->(z,v)∈kvs->Q v H2->tM K w Q x y H2
def FB(K:af)(w:Af)(td ty:TE):TE:=λσ H Q=>td σ H λx H1=>ty σ H1 λy H2=>tM K w Q x y H2
variable{pos:Pos}
theorem l7_(ho:PE X o td)(hi:PE X i ty)(hs:DG i):PE X (.Subscript o i pos) (FB X.K X.w td ty):=by
 intro pins s σ H Q I h;apply Ww PySem.F.slot_dict_getitem.lookup hs (bb (ho pins s σ H _ I h) λu s1 ⟨x,H1,I1,rx,q1⟩=>bb (hi pins s1 σ H1 _ I1 q1) λiv s2 ⟨y,H2,I2,ry,d,kvs,z,v,ex,kd,ey,hm,q2⟩=>?_);subst ex;subst ey;obtain rfl:u=Value.ref d:=rx;let#[l,hp,dd]:=kd.of (P:=X.prog) I2.gI;let#[w',hw,lE]:=lI_ hp kd.2.1 hm;exact#[dd.mapOf.typeIs,wpAny_getItem_of (yS (k:=Sum.inr z) ry) dd.mapOf hw #[v,H2,I2.tok _,lE,q2]]
end L2
namespace Ev
open PySem L2
abbrev Rl:=Str × Str × Str × Option Str
def rl:List Rl:=[("least one high","least","one",some "high"),("least one fall","least","one",some "fall"),("least one calm","least","one",some "calm"),("least all high","least","all",some "high"),("least all fall","least","all",some "fall"),("least all calm","least","all",some "calm"),("below one high","below","one",some "high"),("below one fall","below","one",some "fall"),("below one calm","below","one",some "calm"),("below all high","below","all",some "high"),("below all fall","below","all",some "fall"),("below all calm","below","all",some "calm"),("shares one","shares","one",none),("shares all","shares","all",none),("turns high","turns","all",some "high"),("turns fall","turns","all",some "fall"),("turns calm","turns","all",some "calm")]
def fN:Option Str->V
 |some x=>.str x
 |none=>.non
def oI:ae:=rl.map (·.1)
theorem hC_:oI.Nodup:=by decide +kernel
def UH(as:az):List (Str × V):=List.zipWith (λ(r:Rl) a=>(r.1,V.ref a)) rl as
structure Mo (K:af) (w:Af) (mg:Str->Option Aa) (d:Addr) (as:az):Prop where
 mg:mg "RULES"\.ref d
 len:as.length=17
 kd:mq K w d (UH as)
 tup:Paired (λa (r:Rl)=>∀H,i6 K H a [.str r.2.1,.str r.2.2.1,fN r.2.2.2]) as rl
variable{as:az}
theorem YS(h:as.length=17):(UH as).map (·.1)=oI:=by
 have:∀(rs:List Rl) (as:az),as.length=rs.length->(List.zipWith (λ(r:Rl) a=>(r.1,V.ref a)) rs as).map (·.1)=rs.map (·.1):=by
  intro rs
  induction rs with
  |nil=>intro as _;rfl
  |cons r rs ih=>
   intro as e;cases as with
   |nil=>cases e
   |cons a as=>
    rw[List.zipWith_cons_cons,eJ,eJ,ih as ⇑e]
 exact this rl as h
theorem VI{K:af}:∀{rs:List Rl} {as:az},Paired (λa (r:Rl)=>∀H,i6 K H a [.str r.2.1,.str r.2.2.1,fN r.2.2.2]) as rs->∀r∈rs,∃a,(r.1,V.ref a)∈List.zipWith (λ(r:Rl) a=>(r.1,V.ref a)) rs as/\∀H,i6 K H a [.str r.2.1,.str r.2.2.1,fN r.2.2.2]
 |_,_,.nil,r,h=>by cases h
 |r0::rs,a::as,.cons h t,r,m=>by
  rw[List.zipWith_cons_cons];rcases bX.mp m with rfl|m
  ·exact#[a,cZ,h]
  let#[b,hb,hs]:=VI t r m;exact#[b,dJ _ hb,hs]
def GP(ns:ae):Option Str->Bool
 |some x=>decide (x∈ns)
 |none=>false
theorem ug:bx g_ g_ (ba Rh):=bH
def XZ:Sp:=λvs H Q _=>∃r∈rl,vs=[.str r.1]/\Q (.bl true) H
variable{d f:Addr}{fd:Ad}{P:Ae}{w:Af}{K:af}{mg:Str->Option Aa}{base:Heap}
theorem hH_(F:bp K "is_rule" "is_rule" Rh f fd)(B:Bi mg)(R:Mo K w mg d as):!aj aZ 1 f fd g_ XZ:=by
 exists F.bG ug;let#[r,iP,rfl,k]:=h;apply#[_,aE (bo (sU (cQ o9 (by rfl) B.mF mT %[0,o7 (v:=.ty "str") (by rfl) B.str Ia Z|0]) (o6 (Im (lP_ (pv 0) (Dh (v:=.ref d) (by rfl) R.mg Z)))))),?_];apply#[_,Z,_,_,_,_,Z,.str r.1,Z,_,Z,fw #[_,Z,d,_,r.1,Z,R.kd,Z,?_]];rw[YS R.len,show decide (r.1∈oI)=true from cw (bh.mpr #[r,iP,Z])];exact k
theorem xX:bx ["rule"] ["rule"] (ba nX):=bH
def Mt(K:af):Sp:=λvs H Q _=>∃r∈rl,vs=[.str r.1]/\∀a,(∀H',i6 K H' a [.str r.2.1,.str r.2.2.1,fN r.2.2.2])->Q (.ref a) H
theorem jF_(F:bp K "checked_words" "checked_words" nX f fd)(R:Mo K w mg d as)(cI:!br 1 "is_rule" g_ XZ):!aj aZ 2 f fd ["rule"] (Mt K):=by
 exists F.bG xX;let#[r,iP,rfl,k]:=h;apply#[_,ak (bP (hU (fZ (aX cI hr %[0|0]))) (aE jx_) bQ) (aE (bo (l7_ (Dh (v:=.ref d) (by rfl) R.mg Z) (pv 0) (λ_ _=>rfl)))),?_];let#[a,ha,hs]:=VI R.tup r iP;exact#[_,Z,r,iP,Z,_,Z,bE #[_,Z,d,_,r.1,.ref a,Z,R.kd,Z,ha,k a hs]]
end Ev
namespace HT
open PySem PySem.Spec PyProof.Rows
end HT
namespace L2
open PySem PySem.Spec PyProof.Rows
end L2
namespace Ev
open PySem L2
structure Ez (ts ws:Xb):Prop where
 good:∀w∈ws,CK w
 nd:(ws.map kO).Nodup
 hX:∀w∈ws,kO w∈ts.map kO
 len:ws.length<=ts.length
theorem kO_{ts us ws:Xb}(good:∀t∈ts,CK t)(nd:(ts.map kO).Nodup)(sub:us.Sublist ts)(p:Paired (λw u=>w=u∨w=(u.2,u.1)) ws us):Ez ts ws:=by
 have e:ws.map kO=us.map kO:=by
  clear sub
  induction p with
  |nil=>rfl
  |cons h _ ih=>
   rw[eJ,eJ,ih];rcases h with rfl|rfl
   ·rfl
   exact dQ (·::_) (Qy _ _)
 apply#[λw hw=>?_,?_,λw hw=>?_,?_]
 ·let#[i,hi,ew]:=si hw;let hl:=bK p;let q:=iz p i hi Z1;rw[ew] at q;let g:=good _ (sub.subset (jy (show i<us.length by omega)));rcases q with q|q
  ·rw[q];exact g
  rw[q];exact#[g.2.1,g.1,g.2.2.symm]
 ·rw[e];exact (sub.map kO).nodup nd
 ·have:kO w∈ws.map kO:=bh.mpr #[w,hw,Z];rw[e] at this;exact (sub.map kO).subset this
 rw[bK p];exact sub.length_le
def bU(K:af)(H:Hp)(v:V):Option (Xb)->Prop
 |none=>v=.non
 |some ws=>∃a ys,v=.ref a/\H a\.lst ys/\bg K H ys (ws.map kT)
variable{K:af}{H H':Hp}{v:V}{o:Option (Xb)}
theorem bU.same(h:bU K H v o)(s:aa H H'):bU K H' v o:=by
 cases o with
 |none=>exact h
 |some ws=>
  let#[a,ys,e,ha,t]:=h;exact#[a,ys,e,s _ _ ha,t.same s]
abbrev Pc:=Str × Int × Option (Xb)
def wA(K:af)(H:Hp)(y:V)(p:Pc):Prop:=∃t v,y=.ref t/\H t\.tup [.str p.1,.int p.2.1,v]/\bU K H v p.2.2
abbrev AK(K:af)(H:Hp)(ys:ai)(ps:List Pc):Prop:=Paired (wA K H) ys ps
structure CY (ts:Xb) (p:Pc):Prop where
 nm:jK p.1=true
 w1:1<=p.2.1
 w2:p.2.1<=1000000000
 ws:∀ws,p.2.2\ws->Ez ts ws
theorem wA.same{y:V}{p:Pc}(h:wA K H y p)(s:aa H H'):wA K H' y p:=by
 let#[t,v,e,ht,hv]:=h;exact#[t,v,e,s _ _ ht,hv.same s]
theorem bU.put{D:Addr}{xs:ai}{u:HO}(h:bU K H v o)(hD:H D\.lst xs)(ne:v≠.ref D):bU K (upd H D u) v o:=by
 cases o with
 |none=>exact h
 |some ws=>
  let#[a,ys,e,ha,t]:=h;subst e;exact#[a,ys,Z,by rw[ax λz=>ne (by rw[z])];exact ha,jb t hD]
end Ev
abbrev aC:=List Ev.Pc
namespace Ev
open PySem L2
theorem kI{α β:Type}{F:α->β->Prop}:∀{ys Nc:List α} {ks vg:List β},Paired F ys ks->Paired F Nc vg->Paired F (ys++Nc) (ks++vg)
 |_,_,_,_,.nil,h=>h
 |_,_,_,_,.cons a t,h=>.cons a (kI t h)
def mm(K:af)(H:Hp)(v:V):Option Str->Prop
 |some x=>v=.str x
 |none=>∃t,gj K H v t/\PySem.W.kitOne K t (.type "str")\false
def kL(hs:Xa)(ts:Xb):Option Str->Option Str->Bool
 |some x,some y=>decide (x∈hs.map (·.1))&&(decide (y∈hs.map (·.1))&&decide (y∈near (aD hs) (aK ts) x))
 |_,_=>false
theorem M4(hs:Xa)(ts:Xb)(x y:Str):kL hs ts (some x) (some y)=(decide (x∈hs.map (·.1))&&(decide (y∈hs.map (·.1))&&decide (y∈near (aD hs) (aK ts) x))):=rfl
variable{f:Addr}{fd:Ad}
variable{H' H0:Hp}
variable{D:Addr}{u:HO}{v:V}{o:Option (Xb)}
section v
inductive nJ (K:af) (C:Addr) (vs:ai) (H:Hp) (Q:VK) (E:XK):Prop
 |mk:∀(p:Addr) (v:V) (x:Option Str) (hs:Xa) (ts:Xb) (fp:az),vs=[.ref p,v]->hE K C H p hs ts fp->mm K H v x->Q (.bl (GP (hs.map (·.1)) x)) H->nJ K C vs H Q E
theorem kD_{C:Addr}(F:bp K "has_hand" "Web.has_hand" yi f fd)(T:Txt K mg C)(B:Bi mg):!aj aZ 1 f fd qC (nJ K C):=by
 exists F.bG zS;let#[p,v,x,hs,ts,fp,rfl,W,sv,k]:=h;let hu:=eO hr;let#[dx,d1,l2,d3,zs,as,rfl,h1,h2,h3,h4,h5,h6,h7]:=W.ex;apply#[_,aE (bo (sU (cQ o9 (by rfl) B.mF mT %[1,o7 (v:=.ty "str") (by rfl) B.str Ia Z|0]) (o6 (Im (EB hu (pv 1) (eF (pv 0) Z)))))),?_];cases x with
 |some x=>
  cases (show v=.str x from sv);apply#[_,Z,_,_,_,_,Z,.str x,Z,_,Z,fw ?_];apply#[_,Z,_,Z,p,C,dx,_,_,Z,h1,T.cl,T.nS,LC _ _ _,d1,_,Z,.k (k:=Sum.inr x) h2,?_];rw[Mb];exact k
 |none=>
  let#[t,ty,e]:=sv;exact#[_,Z,_,_,_,_,Z,ty,e,_,Z,bE k]
inductive L6 (K:af) (C:Addr) (vs:ai) (H:Hp) (Q:VK) (E:XK):Prop
 |mk:∀(p:Addr) (v u:V) (x y:Option Str) (hs:Xa) (ts:Xb) (fp:az),vs=[.ref p,v,u]->hE K C H p hs ts fp->(aD hs).Nodup->mm K H v x->mm K H u y->Q (.bl (kL hs ts x y)) H->L6 K C vs H Q E
theorem jf_{C:Addr}(F:bp K "are_tied" "Web.are_tied" ur f fd)(T:Txt K mg C)(cH:!bF C 1 "has_hand" qC (nJ K C)):!aj aZ 2 f fd mL (L6 K C):=by
 exists F.bG Br;let#[p,v,u,x,y,hs,ts,fp,rfl,W,nd,sv,su,k]:=h;let hu:=eO hr;let#[dx,d1,l2,d3,zs,as,rfl,h1,h2,h3,h4,h5,h6,h7]:=id W.ex;have qm:(dj d1 l2 d3).lookup ("has_hand":Str)=none:=ka _ _ _ Z0 Z0 Z0;apply#[_,aE (bo (sU (fX cH T.cl hr (pv 0) %[1|0]) (sU (fX cH T.cl hr (pv 0) %[2|0]) (o6 (iI (Ik fQ (lX hr 0)) (pv 2) (bV hu (eF (pv 0) Z) (pv 1)) (by with_unfolding_all rfl)))))),?_];apply#[_,Z,p,dx,_,Z,h1,qm,_,Z,p,v,x,hs,ts,_,Z,W,sv,_,Z,?_];cases x with
 |none=>exact bE k
 |some x=>
  cases (show v=.str x from sv);apply aQ (λc=>?_) (λc=>?_)
  ·have hx:x∈hs.map (·.1):=l_ c;let#[a,e1,ha]:=Vo nd hx h6 h7;apply#[_,Z,p,dx,_,Z,h1,qm,_,Z,p,u,y,hs,ts,_,Z,W,su,_,Z,?_];cases y with
   |none=>exact bE k
   |some y=>
    cases (show u=.str y from su);rw[M4,cw hx,Bool.true_and] at k;apply aQ (λc2=>?_) (λc2=>?_)
    ·have hy:y∈hs.map (·.1):=l_ c2;rw[cw hy,Bool.true_and] at k;apply#[_,Z,_,Z,p,C,dx,_,_,Z,h1,T.cl,T.nN,O5 _ _ _,_,Z,d3,.ref a,Z,?_,y,_,Z,#[a,_,Z,.of ha,Dr _],k];rw[<- e1];exact .k (k:=Sum.inr x) h5
    have hy:¬y∈hs.map (·.1):=λz=>c2 (cw z);rw[dU hy,r9] at k;exact k
  have hx:¬x∈hs.map (·.1):=λz=>c (cw z);cases y with
  |none=>exact k
  |some y=>
   rw[M4,dU hx,r9] at k;exact k
theorem je_{hs:Xa}{ts ws:Xb}(G:Good hs ts)(W:Ez ts ws){t:Str × Str}(ht:t∈aK ws):kL hs ts (some t.1) (some t.2)=true:=by
 let#[x,hx,ex]:=MQ.mp ht;let#[u,hu,eu]:=bh.mp (W.hX x hx);have eo:aL u.1 u.2=t:=(Io eu).trans ex
 have both:t.1∈hs.map (·.1)/\t.2∈hs.map (·.1)/\aL t.1 t.2=t:=by
  let#[g1,g2]:=G.qZ u hu;rcases L_ u.1 u.2 with e|e
  ·rw[<- eo,e];exact#[g1,g2,e]
  rw[<- eo,e];exact#[g2,g1,(Mz _ _).trans e]
 let#[m1,m2,m3]:=both;have m4:t.2∈near (aD hs) (aK ts) t.1:=se.mpr #[(fG hs).mem_iff.mpr m2,cw (by rw[m3];exact MQ.mpr #[u,hu,eo])];rw[M4,cw m1,cw m2,cw m4];rfl
theorem Mj:bx ["web","ways","found","one","other"] ["web","ways"] (ba oG):=bH
inductive Rj (K:af) (C:Addr) (vs:ai) (H:Hp) (Q:VK) (E:XK):Prop
 |mk:∀(p:Addr) (v:V) (o:Option (Xb)) (hs:Xa) (ts:Xb) (fp:az),vs=[.ref p,v]->hE K C H p hs ts fp->Good hs ts->bU K H v o->(∀ws,o\ws->Ez ts ws)->(∀v' H',aa H H'->bU K H' v' (o.map aK)->(∀a,v'=.ref a->H a=none)->Q v' H')->Rj K C vs H Q E
theorem jN_{C:Addr}(F:bp K "checked_ways" "checked_ways" oG f fd)(T:Txt K mg C)(cS:!br 3 "sorted_ties" ["ties"] (Si K))(cT:!bF C 2 "are_tied" mL (L6 K C)):!aj aZ 4 f fd ["web","ways"] (Rj K C):=by
 exists F.bG Mj;let#[p,v,o,hs,ts,fp,rfl,W,G,wy,gw,k]:=h;let hu:=eO hr;have vv:aY 2 _:=hr.mono (by decide)
 apply#[_,ak (bP (AV (LW (pv 1))) (aE (bo C4)) bQ)
  (ak (aO 2 Mj.nd (aX cS hr %[1|0]))
  (ak (bP (AV (LW (pv 2))) fH bQ)
  (ak (eE dM Z (dA (pv 2)) (ju Z (cU (bN 3 Mj.nd) (cU (bN 4 Mj.nd) iA)))
   (aE (bP (hU (fZ (fX cT T.cl vv (pv 0) %[3,4|0]))) fH bQ)))
  (aE (bo (pv 2)))))),?_]
 cases o with
 |none=>
  cases (show v=.non from wy);exact#[_,Z,_,Z,fw (k .non H (aa.refl H) Z (λa z=>by cases z))]
 |some ws=>
  let#[a,ys,rfl,ha,tu]:=wy;let Wo:=gw ws Z;apply#[_,Z,_,Z,bE ?_];apply#[_,Z,a,ys,ws,Z,ha,tu,Wo.good,Wo.nd,by have:=Wo.len;have:=G.sk;omega,λl' zs H1 s1 hf jZ tz=>?_];apply#[_,Z,_,Z,bE ?_];let W1:=W.same s1;let#[dx,d1,l2,d3,mB,as,rfl,h1,h2,h3,h4,h5,h6,h7]:=id W1.ex;have qm:(dj d1 l2 d3).lookup ("are_tied":Str)=none:=ka _ _ _ Z0 Z0 Z0;rw[<- Jt] at tz
  let KA:bI:=λi σ H2=>∃(v3 v4:aF),σ=[some (.ref p),some (.ref a),some (.ref l'),v3,v4]/\H2=H1
  apply#[_,Z,l',Z,#[_,.of jZ],fY (K:=K) (a:=l') (xs:=zs) KA #[none,none,Z,Z] (λi σ H2 _ ⟨_,_,_,e⟩=>by subst e;exact .of jZ) ?_ ?_]
  ·rintro i y σ H2 hy ⟨v3,v4,rfl,rfl⟩;let#[t,ht,q,rfl,hq]:=jx tz hy;apply#[q,_,Z,.of (wQ hq),Z,_,_,Z,_,_,Z,Z,?_];apply#[_,Z,p,dx,_,Z,h1,qm,_,Z,_,Z,p,_,_,some t.1,some t.2,hs,ts,_,Z,W1,G.sE,Z,Z,_,Z,?_];rw[je_ G Wo (cj ht)];apply bE ?_;exact#[_,_,Z,Z]
  rintro σ H2 ⟨v3,v4,rfl,rfl⟩;exact#[_,Z,k (.ref l') _ s1 #[l',zs,Z,jZ,tz] (λc z=>by cases z;exact hf)]
def yq(p:Pc):Pc:=(p.1,p.2.1,p.2.2.map aK)
def sT(K:af)(H0 H:Hp)(y:V)(p:Pc):Prop:=∃t v,y=.ref t/\H t\.tup [.str p.1,.int p.2.1,v]/\bU K H v p.2.2/\∀a,v=.ref a->H0 a=none
theorem sT.same{K:af}{H:Hp}{y:V}{p:Pc}(h:sT K H0 H y p)(s:aa H H'):sT K H0 H' y p:=by
 let#[t,v,e,ht,hv,hn]:=h;exact#[t,v,e,s _ _ ht,hv.same s,hn]
theorem bU.up{K:af}{H:Hp}(h:bU K H v o)(n1:∀xs,H D≠some (.lst xs))(n2:∀xs,H D≠some (.tup xs)):bU K (upd H D u) v o:=by
 cases o with
 |none=>exact h
 |some ws=>
  let#[a,ys,e,ha,t]:=h;exact#[a,ys,e,by rw[ax (λz:a=D=>n1 ys (z▸ha))];exact ha,Paired.bu t λy k ⟨b,z,q⟩=>#[b,z,by rw[ax (λz:b=D=>n2 _ (z▸q))];exact q]]
theorem sT.up{K:af}{H:Hp}{y:V}{p:Pc}(h:sT K H0 H y p)(n1:∀xs,H D≠some (.lst xs))(n2:∀xs,H D≠some (.tup xs)):sT K H0 (upd H D u) y p:=by
 let#[t,v,e,ht,hv,hn]:=h;exact#[t,v,e,by rw[ax (λz:t=D=>n2 _ (z▸ht))];exact ht,hv.up n1 n2,hn]
theorem Sf{ps:aC}{cs:ai}(nd:(ps.map (·.1)).Nodup)(hl:cs.length=ps.length):∀{j:Nat} {q:Pc} {c:V},ps[j]? = some q->cs[j]? = some c->bL ((ps.zip cs).map λq=>((Sum.inr q.1.1:Key),q.2)) (Sum.inr q.1)\c:=by
 induction ps generalizing cs with
 |nil=>
  intro j q c h;simp at h
 |cons p ps ih=>
  intro j q c h1 h2;cases cs with
  |nil=>cases hl
  |cons b cs=>
   rw[eJ] at nd;let#[n1,n2]:=r_.mp nd;cases j with
   |zero=>
    have e1:p=q:=⇑h1
    have e2:b=c:=⇑h2
    subst e1 e2;exact Dt Z
   |succ j=>
    have h1:ps[j]? = some q:=⇑h1
    have h2:cs[j]? = some c:=⇑h2
    show bL ((Sum.inr p.1,b)::((ps.zip cs).map λq=>((Sum.inr q.1.1:Key),q.2))) (Sum.inr q.1)=_;rw[Ds λe=>n1 (by rw[show p.1=q.1 from ik e];exact bh.mpr #[q,cj h1,Z])];exact ih n2 ⇑hl h1 h2
theorem uo:bx ["web","piece"] ["web","piece"] (ba Ru):=bH
inductive Q5 (K:af) (C:Addr) (vs:ai) (H:Hp) (Q:VK) (E:XK):Prop
 |mk:∀(p:Addr) (y:V) (q:Pc) (hs:Xa) (ts:Xb) (fp:az),vs=[.ref p,y]->hE K C H p hs ts fp->Good hs ts->wA K H y q->CY ts q->(∀y' H',aa H H'->sT K H H' y' (yq q)->Q y' H')->Q5 K C vs H Q E
theorem hS_{C:Addr}(F:bp K "checked_piece" "checked_piece" Ru f fd)(B:Bi mg)(cN:!br 1 "is_name" g_ LM)(cW:!br 2 "is_whole_within" mh Rc)(cC:!br 4 "checked_ways" ["web","ways"] (Rj K C)){tk:Tok}(mW:mg "MOST_WEIGHT"\.int 1000000000 tk) :
  aj P w K mg base aZ 5 f fd ["web","piece"] (Q5 K C):=by
 exists F.bG uo;let#[p,y,q,hs,ts,fp,rfl,W,G,#[t,v,rfl,ht,wy],gp,k]:=h
 apply#[_,ak (bP (AD (hU (fZ (cQ o9 (by rfl) B.mF mT %[1,o7 (v:=.ty "tuple") (by rfl) B.tuple RG Z|0])))
   (AR (c_ CJ (cQ mR (by rfl) B.len jJ %[1|0]) aI))).pt fH bQ)
  (ak (bP (hU (fZ (aX cN hr %[bM eP (pv 1) aI|0]))) fH bQ)
  (ak (bP (hU (fZ (aX cW hr %[bM eP (pv 1) aI,aI,Dh (v:=.int 1000000000) (by rfl) mW #[tk,Z]|0]))) fH bQ)
  (aE (bo (eW %[bM eP (pv 1) aI,bM eP (pv 1) aI,aX cC hr %[0,bM eP (pv 1) aI|0]|0]))))),?_]
 apply#[_,Z,_,_,_,_,Z,.tup ht,Z,_,Z,bE ?_];apply#[_,Z,t,_,Z,.inr (.of ht),Z,_,Z,?_];apply vk (show V.int ((3:Nat):Int)=V.int 3 from Z) ?_;apply#[_,Z,t,_,_,_,Z,Z,.of ht,Z,q.1,Z,by have:=My gp.nm;omega,λH1 s1=>#[_,Z,?_]];rw[gp.nm];apply bE ?_;let Au:=s1 _ _ ht;apply#[_,Z,t,_,_,_,Z,Z,.of Au,Z,q.2.1,1,1000000000,Z,_,Z,?_];rw[cw gp.w1,cw gp.w2];apply bE ?_;apply#[_,Z,t,_,_,_,Z,Z,.of Au,Z,_,Z,t,_,_,_,Z,Z,.of Au,Z,_,Z,_,Z,t,_,_,_,Z,Z,.of Au,Z,p,v,q.2.2,hs,ts,fp,Z,W.same s1,G,wy.same s1,gp.ws,λv' H2 s2 _O hf=>?_];apply#[zl,λt' G2=>?_];exact k (.ref t') _ (s1.trans (s2.trans (aa.new G2))) #[t',v',Z,ay,_O.same (aa.new G2),λa z=>s1.free (hf a z)]
theorem MN:bx ["web","pieces","found","piece","checked"] ["web","pieces"] (ba Sd):=bH
structure Qs (ps qs:aC):Prop where
 sF:qs.map (·.1)=aV (ps.map (·.1))
 mem:∀q∈qs,∃p∈ps,q=yq p
inductive RR (K:af) (C:Addr) (vs:ai) (H:Hp) (Q:VK) (E:XK):Prop
 |mk:∀(p l:Addr) (ys:ai) (ps:aC) (hs:Xa) (ts:Xb) (fp:az),vs=[.ref p,.ref l]->hE K C H p hs ts fp->Good hs ts->H l\.lst ys->AK K H ys ps->(∀q∈ps,CY ts q)->(ps.map (·.1)).Nodup->ps.length<64->(∀l' zs qs H',aa H H'->H' l'\.lst zs->Paired (sT K H H') zs qs->Qs ps qs->Q (.ref l') H')->RR K C vs H Q E
theorem gw_{C:Addr}(F:bp K "checked_pieces" "checked_pieces" Sd f fd)(B:Bi mg)(cP:!br 5 "checked_piece" ["web","piece"] (Q5 K C)):!aj aZ 6 f fd ["web","pieces"] (RR K C):=by
 exists F.bG MN;let#[p,l,ys,ps,hs,ts,fp,rfl,W,G,hl,pc,gp,nd,cz,k]:=h;let hu:=eO hr;let sz:=cc;let le:=bK pc
 apply#[_,ak (bP (hU (fZ (cQ o9 (by rfl) B.mF mT %[1,o7 (v:=.ty "list") (by rfl) B.list zm Z|0]))) fH bQ)
  (ak (aO 2 MN.nd Dv)
  (ak (eE dM Z (dA (pv 1)) (bN 3 MN.nd)
   (ak (aO 4 MN.nd (aX cP hr %[0,3|0]))
   (ak (bP (AV (EB hu (bM eP (pv 4) aI) (pv 2))) fH bQ)
   (aE (rW hu (pv 2) (bM eP (pv 4) aI) (pv 4) Z)))))
  (aE (bo (i4 ["name","found"] 1 [2] (dA (cQ (ZJ Z) (by rfl) B.sorted zh %[2|0])) (λfp s H=>e_ (i:=0) (show (["name","found"]:ae).Nodup by decide +kernel) Z (Or.inl Z)) (λfp s H=>iH)
   (λfp s H=>bV hu (pv 1) (pv 0))))))),?_]
 apply#[_,Z,_,_,_,_,Z,.lst hl,Z,_,Z,bE ?_];intro d hd;have s0:aa H (upd H d (.dK [])):=aa.new hd
 let Kz:bI:=λi σ H2=>∃(v3 v4:aF) (cs:ai),σ=[some (.ref p),some (.ref l),some (.ref d),v3,v4]/\aa H H2/\Paired (sT K H H2) cs ((ps.take i).map yq)/\H2 d\.dK (((ps.take i).zip cs).map λq=>(Sum.inr q.1.1,q.2))
 apply#[_,Z,l,Z,#[_,.of (s0 _ _ hl)],fY (K:=K) (a:=l) (xs:=ys) Kz #[none,none,[],Z,s0,.nil,ay] (λi σ H2 _ ⟨_,_,_,_,s2,_⟩=>.of (s2 _ _ hl)) ?_ ?_]
 ·rintro i y σ H2 hy ⟨v3,v4,cs,rfl,s2,pn,hd2⟩;have hi:i<ys.length:=(cq.mp hy).1;have hq:ps[i]? = some (ps[i]' Z1):=dB Z1;let py:=iz pc i hi Z1;rw[(cq.mp hy).2] at py;generalize ps[i]' Z1=q at hq py;apply#[_,Z,_,Z,p,y,q,hs,ts,fp,Z,W.same s2,G,py.same s2,gp q (cj hq),λy' H3 s3 pw=>?_];let#[t,v,rfl,ht,wy,hf]:=pw;let oR:=s3 _ _ hd2;let lc:=bK pn;rw[ao,cX] at lc
  have keys:((((ps.take i).zip cs).map λq=>((Sum.inr q.1.1:Key),q.2)).map (·.1))=((ps.take i).map (·.1)).map Sum.inr:=by
   rw[cm];have:((λx:Key × V=>x.1) ∘ λq:Pc × V=>((Sum.inr q.1.1:Key),q.2))=(λp:Pc=>(Sum.inr p.1:Key)) ∘ Prod.fst:=rfl;rw[this,<- cm,List.map_fst_zip (by rw[cX];omega),cm];rfl
  have wM:bL (((ps.take i).zip cs).map λq=>((Sum.inr q.1.1:Key),q.2)) (Sum.inr q.1)=none:=A4 (by
   rw[keys];intro m;let#[x,hx,e]:=bh.mp m;cases e;exact Jp (g:=λp:Pc=>p.1) nd hq hx)
  apply#[_,Z,t,_,_,_,Z,Z,.of ht,Z,_,Z,d,_,Z,.k (k:=Sum.inr q.1) oR,_,Z,?_];rw[wM];apply bE ?_;apply#[_,Z,_,Z,_,Z,t,_,_,_,Z,Z,.of ht,Z,d,_,Z,.k (k:=Sum.inr q.1) oR (by rw[ao,List.length_zip,cX];omega),?_];let jS:=s2.trans s3;have n1:∀xs,H3 d≠some (.lst xs):=λxs z=>by rw[oR] at z;cases z
  have n2:∀xs,H3 d≠some (.tup xs):=λxs z=>by rw[oR] at z;cases z
  apply#[_,_,cs++[.ref t],Z,λc o e=>?_,?_,?_]
  ·rw[ax (bj e hd)];exact jS _ _ e
  ·rw[iw,hq,bY];exact kI (Paired.bu pn λy q h=>(h.same s3).up n1 n2) (.cons (sT.up #[t,v,Z,ht,wy,λa z=>s2.free (hf a z)] n1 n2) .nil)
  rw[ay,E2 _ wM,iw,hq,List.zip_append (by rw[cX];omega),bY];rfl
 rintro σ H2 ⟨v3,v4,cs,rfl,s2,pn,hd2⟩;rw[le,dz] at pn hd2;let lc:=bK pn;rw[ao] at lc
 have keys:(((ps.zip cs).map λq=>((Sum.inr q.1.1:Key),q.2)).map (·.1))=(ps.map (·.1)).map Sum.inr:=by
  rw[cm];have:((λx:Key × V=>x.1) ∘ λq:Pc × V=>((Sum.inr q.1.1:Key),q.2))=(λp:Pc=>(Sum.inr p.1:Key)) ∘ Prod.fst:=rfl;rw[this,<- cm,List.map_fst_zip Z1,cm];rfl
 apply#[_,Z,d,_,ps.map (·.1),Z,hd2,keys,by rw[ao];exact cz,λls yH=>?_];let#[s3,rK]:=aA (o:=.lst ((aV (ps.map (·.1))).map V.str)) yH;apply#[ls,Z,#[_,.of rK],λD hD=>?_];generalize upd H2 ls (.lst ((aV (ps.map (·.1))).map V.str))=H3 at s3 rK hD ⊢;have lss:(aV (ps.map (·.1))).length=ps.length:=by rw[(gM _).length_eq,ao]
 apply mU (own:=1) (fv:=[some (.ref d)]) (xs:=(aV (ps.map (·.1))).map V.str) Z ee (λi out H'=>∃qs:aC,aa H3 H'/\H' D\.lst out/\Paired (sT K H H2) out qs/\qs.map (·.1)=(aV (ps.map (·.1))).take i/\∀q∈qs,∃p∈ps,q=yq p) #[[],aa.new hD,ay,.nil,Z,by simp] (λi out H' _ ⟨_,sm,_⟩=>.of (sm _ _ rK)) (λzs H4 ⟨qs,s4,rM,pq,en,mem⟩=>?_) (λi x out H' hx ⟨qs,sm,eN,pq,en,mem⟩=>?_)
 ·rw[ao,dz] at en;exact k D zs qs H4 (s2.trans (s3.trans s4)) rM (Paired.bu pq λy q h=>h.same (s3.trans s4)) #[en,mem]
 let#[n,hn,rfl]:=i0 hx;have hm:n∈ps.map (·.1):=(gM _).mem_iff.mp (cj hn);let#[q,hq,eq]:=bh.mp hm;let#[j,hj,ej]:=si hq;have hqj:ps[j]? = some q:=by rw[dB hj,ej]
 have WU:cs[j]? = some (cs[j]' Z1):=dB Z1;let hv:=Sf nd lc hqj WU;let pj:=iz pn j Z1 (by rw[ao];omega);rw[List.getElem_map,ej] at pj;generalize cs[j]' Z1=c at WU hv pj;rw[eq] at hv;let lo:=bK pq;let lq:=dQ List.length en;rw[ao,cX] at lq;have hi:i<(aV (ps.map (·.1))).length:=(cq.mp hn).1;apply#[_,Z,Z,λNx hN=>dW ?_];apply#[_,Z,_,Z,d,c,Z,?_,out,eN,by omega,hN _ _ #[qs++[yq q],fF sm hD,ay,?_,?_,?_]]
 ·rw[<- hv];exact .k (k:=Sum.inr n) (sm _ _ (s3 _ _ hd2))
 ·exact kI pq (.cons pj .nil)
 ·rw[bY,en,iw,hn,<- eq];rfl
 intro q' hq';rcases fR.mp hq' with hq'|hq'
 ·exact mem q' hq'
 obtain rfl:q'=yq q:=⇑hq'
 exact#[q,hq,Z]
end
abbrev oE:Stmt:=kA Ig 0
abbrev uI:Stmt:=kA Ig 1
abbrev Rq:Stmt:=kA Ig 2
abbrev R8:Stmt:=kA Ig 3
abbrev uH:Stmt:=kA Ig 5
def cb(p dw dy:Addr):List (Str × V):=aH CQ (.ref dy) (aH sS (.ref dw) (aH "web" (.ref p) []))
theorem g12:¬(("web":Str)=sS):=by decide +kernel
theorem g13:¬(("web":Str)=CQ):=by decide +kernel
theorem g23:¬((sS:Str)=CQ):=by decide +kernel
theorem qE(p dw dy:Addr):(cb p dw dy).lookup ("web":Str)\.ref p:=by
 unfold cb;rw[fJ,au g13,fJ,au g12,fJ,aB Z]
theorem QE(p dw dy:Addr):(cb p dw dy).lookup (sS:Str)\.ref dw:=by
 unfold cb;rw[fJ,au g23,fJ,aB Z]
theorem lh_(p dw dy:Addr):(cb p dw dy).lookup (CQ:Str)\.ref dy:=by
 unfold cb;rw[fJ,aB Z]
theorem xp(p dw dy:Addr){m:Str}(h1:¬m="web")(h2:¬m=sS)(h3:¬m=CQ):(cb p dw dy).lookup m=none:=by
 unfold cb;rw[fJ,au h3,fJ,au h2,fJ,au h1]
 all_goals rfl
def mY(qs:aC):List (Key × V):=qs.map λq=>(Sum.inr q.1,V.int q.2.1)
def xM(qs:aC)(vs:ai):List (Key × V):=(qs.zip vs).map λx=>(Sum.inr x.1.1,x.2)
theorem X3(qs:aC):(mY qs).map (·.1)=(qs.map (·.1)).map Sum.inr:=by
 unfold mY;rw[cm,cm];rfl
variable{qs:aC}
theorem jT_{vs:ai}(h:vs.length=qs.length):(xM qs vs).map (·.1)=(qs.map (·.1)).map Sum.inr:=by
 unfold xM;rw[cm];have:((λx:Key × V=>x.1) ∘ λq:Pc × V=>((Sum.inr q.1.1:Key),q.2))=(λp:Pc=>(Sum.inr p.1:Key)) ∘ Prod.fst:=rfl;rw[this,<- cm,List.map_fst_zip Z1,cm];rfl
structure iE (K:af) (CG CW:Addr) (H:Hp) (g p:Addr) (hs:Xa) (ts:Xb) (qs:aC) (fp:az):Prop where
 ex:∃(dx dw dy:Addr) (vs:ai) (cE:az),H g\.ins CG dx (cb p dw dy)/\hE K CW H p hs ts cE/\H dw\.dK (mY qs)/\H dy\.dK (xM qs vs)/\Paired (λv (q:Pc)=>bU K H v q.2.2) vs qs /\
  g∈fp/\dw∈fp/\dy∈fp/\(∀b∈cE,b∈fp)/\∀v∈vs,∀a,v=.ref a->a∈fp
theorem Sx{α β:Type}{F G:α->β->Prop}:∀{l:List α} {m:List β},Paired F l m->(∀a∈l,∀b,F a b->G a b)->Paired G l m
 |_,_,.nil,_=>.nil
 |_,_,.cons h t,f=>.cons (f _ cZ _ h) (Sx t λa ha=>f a (dJ _ ha))
theorem bU.keep{K:af}{H:Hp}(h:bU K H v o)(k:∀a,v=.ref a->∀u,H a\u->H' a\u)(kt:∀b xs,H b\.tup xs->H' b\.tup xs):bU K H' v o:=by
 cases o with
 |none=>exact h
 |some ws=>
  let#[a,ys,e,ha,t]:=h;exact#[a,ys,e,k a e _ ha,Paired.bu t λy q ⟨b,z,hb⟩=>#[b,z,kt _ _ hb]]
variable{fp:az}
theorem iE.keep{K:af}{CG CW:Addr}{H:Hp}{g p:Addr}{hs:Xa}{ts:Xb}(G:iE K CG CW H g p hs ts qs fp)(k:∀b∈fp,∀o,H b\o->H' b\o)(kt:∀b xs,H b\.tup xs->H' b\.tup xs):iE K CG CW H' g p hs ts qs fp:=by
 let#[dx,dw,dy,vs,cE,h1,h2,h3,h4,h5,m1,m2,m3,m4,m5]:=G.ex;exact#[dx,dw,dy,vs,cE,k _ m1 _ h1,h2.keep (λb hb o e=>k b (m4 b hb) o e) kt,k _ m2 _ h3,k _ m3 _ h4,Sx h5 λv hv q h=>h.keep (λa z u e=>k a (m5 v hv a z) u e) kt,m1,m2,m3,m4,m5]
theorem iE.same{K:af}{CG CW:Addr}{H:Hp}{g p:Addr}{hs:Xa}{ts:Xb}(G:iE K CG CW H g p hs ts qs fp)(s:aa H H'):iE K CG CW H' g p hs ts qs fp:=G.keep (λb _ o e=>s b o e) λb xs e=>s b _ e
structure eR (K:af) (CG:Addr):Prop where
 cl:pC K CG
 nW:mQ K CG "web"
 nG:mQ K CG sS
 nY:mQ K CG CQ
structure KP (K:af) (C:Addr):Prop where
 ha:PySem.W.findIn K (.ref C) "__class__"\some (.builtin "object.__class__")
 hn:PySem.W.specialIn K (.builtin "object.__class__") "__get__"\some (.builtin "getset_descriptor.__get__")
 tk:PySem.W.takesIn K (.builtin "object.__class__")\true
 mo:PySem.W.mroIn K C (.type "object")\true
theorem k0_(K:af)(c:Aa):PySem.W.kitOne K c c\true:=by
 unfold PySem.W.kitOne;rw[aB (beq_self_eq_true c)]
theorem Xu{K:af}{H0 H:Hp}:∀{zs:ai} {qs:aC},Paired (sT K H0 H) zs qs->∃vs:ai,vs.length=qs.length/\Paired (λz (x:Pc × V)=>∃t,z=.ref t/\H t\.tup [.str x.1.1,.int x.1.2.1,x.2]) zs (qs.zip vs)/\Paired (λv (q:Pc)=>bU K H v q.2.2) vs qs/\∀v∈vs,∀a,v=.ref a->H0 a=none
 |_,_,.nil=>#[[],Z,.nil,.nil,by simp]
 |_,_,.cons ⟨t,v,e,ht,wy,hn⟩ r=>by
  let#[vs,h1,h2,h3,h4]:=Xu r;apply#[v::vs,by simp[h1],.cons #[t,e,ht] h2,.cons wy h3,λu hu=>?_];rcases bX.mp hu with rfl|hu
  ·exact hn
  exact h4 u hu
theorem X2{K:af}{l:Addr}{zs:ai}{xs:List (Pc × V)}{H:Hp}{Q:VK}{kj:St}{j:Nat}(sel:Pc × V->V)(hj:∀x:Pc × V,[some (V.str x.1.1),some (V.int x.1.2.1),some x.2][j]? = some (some (sel x)))(rF:kj=[none,none,none])(hl:H l\.lst zs)(pz:Paired (λz (x:Pc × V)=>∃t,z=.ref t/\H t\.tup [.str x.1.1,.int x.1.2.1,x.2]) zs xs)(Ay:xs.length<=1000)(hD:H D=none)(q:∀H' out,aa H H'->H' D\.lst out->jH K H' out (xs.map λx=>(Sum.inr x.1.1,sel x))->Q (.ref D) H') :
  AL (Bc K l) (j0 K 3 (xb (mN 0) (xb (mN 1) (xb (mN 2) yO)))) tx (Ft (kU (tF 0) (kU (tF j) jQ))) kj D H Q:=by
 let sz:=cc;let le:=bK pz
 let Ky:dH:=λi out H'=>aa H H'/\H' D\.lst out/\jH K H' out ((xs.take i).map λx=>(Sum.inr x.1.1,sel x))
 apply mU (own:=3) (fv:=[]) (xs:=zs) rF Qn Ky #[aa.new hD,ay,.nil] (λi out H' _ ⟨sm,_,_⟩=>.of (sm _ _ hl)) (λout H4 ⟨sm,rM,eo⟩=>?_) (λi y out H' hy ⟨sm,eN,eo⟩=>?_)
 ·rw[le,dz] at eo;exact q _ _ sm rM eo
 have hi:i<zs.length:=(cq.mp hy).1;have hx:xs[i]? = some (xs[i]' Z1):=dB Z1;let#[t,et,ht]:=iz pz i hi Z1;rw[(cq.mp hy).2] at et;subst et;generalize xs[i]' Z1=x at hx ht;let lo:=bK eo;rw[ao,cX] at lo;apply#[_,#[t,_,_,_,Z,.of (sm _ _ ht),Z],Z,λNx hN=>dW ?_];apply#[_,Z,_,hj x,zl,λp hp=>?_];let s2:=aa.new (o:=.tup [.str x.1.1,sel x]) hp;apply#[out,s2 _ _ eN,by omega,hN _ _ #[fF (sm.trans s2) hD,ay,?_]];rw[A5 _ hx];have pD:∀{b:Addr} {ys:ai},upd H' p (.tup [.str x.1.1,sel x]) b\.tup ys->b≠D:=λhb=>cu hb (s2 _ _ eN) nofun;apply kI (Paired.bu eo λy kv ⟨b,z,hb⟩=>#[b,z,by rw[ax (pD (s2 _ _ hb))];exact s2 _ _ hb]) (.cons #[p,Z,?_] .nil);have ql:upd H' p (.tup [.str x.1.1,sel x]) p\.tup [.str x.1.1,sel x]:=ay;rw[ax (pD ql)];exact ql
section v
theorem p7:bx ["self","web","pieces","checked"] ["self","web","pieces"] (ba oE):=bH
inductive Rb (K:af) (CG CW:Addr) (vs:ai) (H:Hp) (Q:VK) (E:XK):Prop
 |mk:∀(g dx p l:Addr) (ys:ai) (ps:aC) (hs:Xa) (ts:Xb) (cE:az),vs=[.ref g,.ref p,.ref l]->H g\.ins CG dx []->hE K CW H p hs ts cE->g∉cE->Good hs ts->H l\.lst ys->AK K H ys ps->(∀q∈ps,CY ts q)->(ps.map (·.1)).Nodup->ps.length<64->(∀qs fp H',(∀b o,H b\o->b≠g->H' b\o)->iE K CG CW H' g p hs ts qs fp->Qs ps qs->(∀b∈fp,b=g∨b∈cE∨H b=none)->Q .non H')->Rb K CG CW vs H Q E
theorem jl_{CG CW:Addr}(F:bp K "__init__" "Goods.__init__" oE f fd)(T:eR K CG)(TW:Txt K mg CW)(IW:KP K CW)(B:Bi mg)(OA:mg "Web"\.ref CW)(cP:!br 6 "checked_pieces" ["web","pieces"] (RR K CW)):!aj aZ 7 f fd ["self","web","pieces"] (Rb K CG CW):=by
 exists F.bG p7;let#[g,dx,p,l,ys,ps,hs,ts,cE,rfl,hg,W,gw,G,hl,pc,gp,nd,cz,k]:=h
 apply#[_,ak (bP (hU (fZ (cQ h9_ (by rfl) B.mF mT %[1,Dh (v:=.ref CW) (by rfl) OA Z|0]))) fH bQ)
  (ak (aO 3 p7.nd (aX cP hr %[1,2|0]))
  (ak (xj (pv 0) (pv 1) Z)
  (ak (xj (pv 0) (iZ (wb Z) (by rfl) B.dict qF %[i4 AF 3 [] (dA (pv 3)) (λfp s H=>II (n:=3) (cU (e_ (i:=0) (show (AF:ae).Nodup by decide +kernel) Z (Or.inl Z)) (cU (e_ (i:=1) (show (AF:ae).Nodup by decide +kernel) Z (Or.inl Z)) (cU (e_ (i:=2) (show (AF:ae).Nodup by decide +kernel) Z (Or.inl Z)) iA)))) (λfp s H=>iH) (λfp s H=>eW %[0,1|0])|0]) Z)
  (aE (xj (pv 0) (iZ (wb Z) (by rfl) B.dict qF %[i4 AF 3 [] (dA (pv 3)) (λfp s H=>II (n:=3) (cU (e_ (i:=0) (show (AF:ae).Nodup by decide +kernel) Z (Or.inl Z)) (cU (e_ (i:=1) (show (AF:ae).Nodup by decide +kernel) Z (Or.inl Z)) (cU (e_ (i:=2) (show (AF:ae).Nodup by decide +kernel) Z (Or.inl Z)) iA)))) (λfp s H=>iH) (λfp s H=>eW %[0,2|0])|0]) Z))))),?_]
 let#[gm,d1,l2,d3,mB,as,ef,w1,_]:=id W.ex;apply#[_,Z,_,_,_,_,Z,.ins w1 TW.cl IW.ha IW.hn IW.tk IW.mo,k0_ _ _,_,Z,bE ?_];apply#[_,Z,_,Z,p,l,ys,ps,hs,ts,cE,Z,W,G,hl,pc,gp,nd,cz,λlc zs qs H1 s1 Ho pn Qq=>?_];let#[vs,lv,pz,_M,Fh]:=Xu pn;let Hx:=s1 _ _ hg
 have lq:qs.length=ps.length:=by
  have:=dQ List.length Qq.sF;rw[ao,(gM _).length_eq,ao] at this;exact this
 have qnd:(qs.map (·.1)).Nodup:=by
  rw[Qq.sF];exact (gM _).nodup_iff.mpr nd
 apply#[_,Z,_,Z,g,CG,dx,[],Z,Hx,T.cl,T.nW,by show 0<1000;decide,?_];have up1:∀{b o},H1 b\o->b≠g->upd H1 g (.ins CG dx (aH "web" (.ref p) [])) b\o:=λe ne=>by rw[ax ne];exact e
 have PX:upd H1 g (.ins CG dx (aH "web" (.ref p) [])) g\.ins CG dx (aH "web" (.ref p) []):=ay
 have Es:∀{b},upd H1 g (.ins CG dx (aH "web" (.ref p) [])) b=none->H1 b=none:=λ{b} e=>by
  by_cases z:b=g
  ·rw[z,ay] at e;cases e
  rw[ax z] at e;exact e
 generalize upd H1 g (.ins CG dx (aH "web" (.ref p) []))=H2 at up1 PX Es ⊢;have Ln:lc≠g:=cu Ho Hx nofun;have pz2:Paired (λz (x:Pc × V)=>∃t,z=.ref t/\H2 t\.tup [.str x.1.1,.int x.1.2.1,x.2]) zs (qs.zip vs):=Paired.bu pz λz x ⟨t,e,ht⟩=>#[t,e,up1 ht (cu ht Hx nofun)];have pH:(qs.zip vs).length<=1000:=by rw[List.length_zip];omega
 apply#[_,Z,lc,Z,#[_,.of (up1 Ho Ln)],λD hD=>?_];apply X2 (λx=>.int x.1.2.1) (λx=>rfl) Z (up1 Ho Ln) pz2 pH hD λH3 out s3 Eh pa3=>?_;apply#[D,out,_,Z,Eh,pa3,by rw[ao];exact pH,λdw P6=>?_]
 have ekv:((qs.zip vs).map λx:Pc × V=>((Sum.inr x.1.1:Key),V.int x.1.2.1))=mY qs:=by
  unfold mY;have:(λx:Pc × V=>((Sum.inr x.1.1:Key),V.int x.1.2.1))=(λq:Pc=>((Sum.inr q.1:Key),V.int q.2.1)) ∘ Prod.fst:=rfl;rw[this,<- cm,List.map_fst_zip Z1]
 have Aj:(qs.map (·.1)).map (Sum.inr:Str->Key) |>.Nodup:=by
  rw[xG,pe];exact qnd.imp λn e=>n (ik e)
 rw[ekv,xx (by rw[X3];exact Aj)];let s4:=aa.new (o:=.dK (mY qs)) P6;let WO:=s4 _ _ (s3 _ _ PX);apply#[_,Z,g,CG,dx,_,Z,WO,T.cl,T.nG,by show 1<1000;decide,?_];let La:=s3.trans s4;have HI:upd H3 dw (.dK (mY qs)) dw\.dK (mY qs):=ay;have Y7:dw≠g:=(bj (s3 _ _ PX) P6).symm;have fr4:∀{b},upd H3 dw (.dK (mY qs)) b=none->H2 b=none:=λe=>La.free e;have dwn:H2 dw=none:=s3.free P6;generalize upd H3 dw (.dK (mY qs))=H4 at s4 WO La HI fr4 ⊢;have wJ:∀{b o},H4 b\o->b≠g->upd H4 g (.ins CG dx (aH sS (.ref dw) (aH "web" (.ref p) []))) b\o:=λe ne=>by rw[ax ne];exact e
 have PV:upd H4 g (.ins CG dx (aH sS (.ref dw) (aH "web" (.ref p) []))) g\.ins CG dx (aH sS (.ref dw) (aH "web" (.ref p) [])):=ay
 have qy:∀{b},upd H4 g (.ins CG dx (aH sS (.ref dw) (aH "web" (.ref p) []))) b=none->H4 b=none:=λ{b} e=>by
  by_cases z:b=g
  ·rw[z,ay] at e;cases e
  rw[ax z] at e;exact e
 generalize upd H4 g (.ins CG dx (aH sS (.ref dw) (aH "web" (.ref p) [])))=H5 at wJ PV qy ⊢;have xO:∀{b o},H1 b\o->b≠g->H5 b\o:=λe ne=>wJ (La _ _ (up1 e ne)) ne;have pz5:Paired (λz (x:Pc × V)=>∃t,z=.ref t/\H5 t\.tup [.str x.1.1,.int x.1.2.1,x.2]) zs (qs.zip vs):=Paired.bu pz λz x ⟨t,e,ht⟩=>#[t,e,xO ht (cu ht Hx nofun)];apply#[_,Z,lc,Z,#[_,.of (xO Ho Ln)],λD2 jE=>?_];apply X2 (λx=>x.2) (λx=>rfl) Z (xO Ho Ln) pz5 pH jE λH6 fu s6 Qh pa6=>?_;apply#[D2,fu,_,Z,Qh,pa6,by rw[ao];exact pH,λdy P3=>?_];rw[show ((qs.zip vs).map λx:Pc × V=>((Sum.inr x.1.1:Key),x.2))=xM qs vs from Z,xx (by rw[jT_ lv];exact Aj)];let s7:=aa.new (o:=.dK (xM qs vs)) P3;let lC:=s6.trans s7;let WN:=lC _ _ PV;apply#[_,Z,g,CG,dx,_,Z,WN,T.cl,T.nY,by show 2<1000;decide,?_];have HG:upd H6 dy (.dK (xM qs vs)) dy\.dK (xM qs vs):=ay;have dyg:dy≠g:=(bj (s6 _ _ PV) P3).symm;have dyn:H5 dy=none:=s6.free P3;generalize upd H6 dy (.dK (xM qs vs))=H7 at s7 lC WN HG ⊢
 have fin:∀{b o},H1 b\o->b≠g->upd H7 g (.ins CG dx (cb p dw dy)) b\o:=λe ne=>by
  rw[ax ne];exact lC _ _ (xO e ne)
 have Fj:∀b xs,H1 b\.tup xs->upd H7 g (.ins CG dx (cb p dw dy)) b\.tup xs:=λb xs e=>fin e (cu e Hx nofun);have nH:∀{b},H1 b=none->H b=none:=λe=>s1.free e;apply k qs (g::dw::dy::(cE++vs.filterMap λv=>match v with | .ref a=>some a|_=>none)) _ (λb o e ne=>fin (s1 _ _ e) ne) #[dx,dw,dy,vs,cE,ay,?_,?_,?_,?_,by simp,by simp,by simp,λb hb=>by simp[hb],λv hv a z=>?_] Qq λb hb=>?_
 ·exact W.keep (λb hb o e=>fin (s1 _ _ e) (λz=>gw (z▸hb))) λb xs e=>Fj b xs (s1 _ _ e)
 ·rw[ax Y7];exact lC _ _ (wJ HI Y7)
 ·rw[ax dyg];exact HG
 ·exact Sx _M λv hv q h=>h.keep (λa z u e=>fin e (λzz=>by
   subst zz;have:=Fh v hv _ z;rw[hg] at this;cases this)) λb xs e=>Fj b xs e
 ·apply dJ _ (dJ _ (dJ _ (pf _ (zv.mpr #[v,hv,?_]))));rw[z]
 simp only[bX,fR,zv] at hb;rcases hb with rfl|rfl|rfl|hb|⟨v,hv,e⟩
 ·exact .inl Z
 ·exact .inr (.inr (nH (Es dwn)))
 ·exact .inr (.inr (nH (Es (La.free (qy dyn)))))
 ·exact .inr (.inl hb)
 cases v with
 |ref a=>
  cases e;exact .inr (.inr (Fh _ hv _ Z))
 |_=>cases e
end
end Ev
namespace L2
open PySem
end L2
namespace Ev
open PySem L2
theorem fl_{kvs:List (Key × V)}{ns:ae}(h:kvs.map (·.1)=ns.map Sum.inr)(x:Str):(bL kvs (Sum.inr x)).isSome=decide (x∈ns):=by
 by_cases hx:x∈ns
 ·rw[cw hx];apply YN ?_;rw[h];exact bh.mpr #[x,hx,Z]
 rw[dU hx,A4]
 ·rfl
 rw[h];intro m;let#[y,hy,e]:=bh.mp m;cases e;exact hx hy
variable{q:Pc}
theorem m2_{qs:aC}(nd:(qs.map (·.1)).Nodup)(hq:q∈qs):bL (mY qs) (Sum.inr q.1)\.int q.2.1:=by
 let#[j,hj,e]:=si hq;have:=Sf (ps:=qs) (cs:=qs.map λq=>V.int q.2.1) nd (by rw[ao]) (j:=j) (q:=q) (c:=.int q.2.1) (by rw[dB hj,e]) (by rw[dR,dB hj,e];rfl)
 have e2:((qs.zip (qs.map λq=>V.int q.2.1)).map λq=>((Sum.inr q.1.1:Key),q.2))=mY qs:=by
  unfold mY;rw[List.zip_map_right,cm]
  have:qs.zip qs=qs.map λq=>(q,q):=by
   clear nd hq this hj e j
   induction qs with
   |nil=>rfl
   |cons a l ih=>rw[List.zip_cons_cons,ih,eJ]
  rw[this,cm];rfl
 rwa [e2] at this
theorem mu_{qs:aC}{vs:ai}(nd:(qs.map (·.1)).Nodup){K:af}{H:Hp}(h:Paired (λv (q:Pc)=>bU K H v q.2.2) vs qs)(hq:q∈qs):∃v∈vs,bL (xM qs vs) (Sum.inr q.1)\v/\bU K H v q.2.2:=by
 let#[j,hj,e]:=si hq;let hl:=bK h;have hv:j<vs.length:=by omega
 let p:=iz h j hv hj;rw[e] at p;exact#[vs[j],jy hv,Sf nd Z1 (by rw[dB hj,e]) (dB hv),p]
def Cy(hs:Xa)(ts:Xb)(o:Option (Xb))(x y:Option Str):Bool:=
 kL hs ts x y&&match o,x,y with
  |none,_,_=>true
  |some ws,some a,some b=>decide (aL a b∈ws)
  |_,_,_=>false
variable{f:Addr}{fd:Ad}
section v
theorem BA:bx qC qC (ba uI):=bH
inductive Ic (K:af) (CG CW:Addr) (vs:ai) (H:Hp) (Q:VK) (E:XK):Prop
 |mk:∀(g p:Addr) (v:V) (x:Option Str) (hs:Xa) (ts:Xb) (qs:aC) (fp:az),vs=[.ref g,v]->iE K CG CW H g p hs ts qs fp->mm K H v x->Q (.bl (GP (qs.map (·.1)) x)) H->Ic K CG CW vs H Q E
theorem kF_{CG CW:Addr}(F:bp K "has_piece" "Goods.has_piece" uI f fd)(T:eR K CG)(B:Bi mg):!aj aZ 1 f fd qC (Ic K CG CW):=by
 exists F.bG BA;let#[g,p,v,x,hs,ts,qs,fp,rfl,G,sv,k]:=h;let hu:=eO hr;let#[dx,dw,dy,vs,cE,h1,h2,h3,h4,h5,m1,m2,m3,m4,m5]:=G.ex;apply#[_,aE (bo (sU (cQ o9 (by rfl) B.mF mT %[1,o7 (v:=.ty "str") (by rfl) B.str Ia Z|0]) (o6 (Im (EB hu (pv 1) (eF (pv 0) Z)))))),?_];cases x with
 |some x=>
  cases (show v=.str x from sv);apply#[_,Z,_,_,_,_,Z,.str x,Z,_,Z,fw ?_];apply#[_,Z,_,Z,g,CG,dx,_,_,Z,h1,T.cl,T.nG,QE _ _ _,dw,_,Z,.k (k:=Sum.inr x) h3,?_];rw[fl_ (X3 qs)];exact k
 |none=>
  let#[t,ty,e]:=sv;exact#[_,Z,_,_,_,_,Z,ty,e,_,Z,bE k]
theorem ui:bx iY iY (ba Rq):=bH
inductive So (K:af) (CG CW:Addr) (vs:ai) (H:Hp) (Q:VK) (E:XK):Prop
 |mk:∀(g p:Addr) (hs:Xa) (ts:Xb) (qs:aC) (fp:az),vs=[.ref g]->iE K CG CW H g p hs ts qs fp->(∀l,H l=none->Q (.ref l) (upd H l (.lst ((qs.map (·.1)).map V.str))))->So K CG CW vs H Q E
theorem in_{CG CW:Addr}(F:bp K "names" "Goods.names" Rq f fd)(T:eR K CG)(B:Bi mg):!aj aZ 1 f fd iY (So K CG CW):=by
 exists F.bG ui;let#[g,p,hs,ts,qs,fp,rfl,G,k]:=h;let#[dx,dw,dy,vs,cE,h1,h2,h3,h4,h5,m1,m2,m3,m4,m5]:=G.ex;apply#[_,aE (bo (iZ (S7 Z) (by rfl) B.list zm %[eF (pv 0) Z|0])),?_];apply#[_,Z,g,CG,dx,_,_,Z,h1,T.cl,T.nG,QE _ _ _,dw,_,Z,.inl h3,λl hl=>?_]
 have e:((mY qs).map λkv=>kV kv.1)=(qs.map (·.1)).map V.str:=by
  unfold mY;rw[cm,cm];rfl
 rw[e];exact k l hl
structure Ref (K:af) (mg:Str->Option Aa) (x:Str) (C:Addr):Prop where
 mg:mg x\.ref C
 ex:PySem.W.excIn K C [.type "ValueError",.type "Exception",.type "BaseException",.type "object"] "ValueError.__new__"=true
theorem rn:bx AI AI (ba R8):=bH
inductive Dq (K:af) (CG CW CP:Addr) (vs:ai) (H:Hp) (Q:VK) (E:XK):Prop
 |mk:∀(g p:Addr) (v:V) (x:Option Str) (hs:Xa) (ts:Xb) (qs:aC) (fp:az),vs=[.ref g,v]->iE K CG CW H g p hs ts qs fp->(qs.map (·.1)).Nodup->mm K H v x->((∃q∈qs,x\q.1/\Q (.int q.2.1) H)∨False)->Dq K CG CW CP vs H Q E
theorem gK_{CG CW CP:Addr}(F:bp K "weight" "Goods.weight" R8 f fd)(T:eR K CG)(cH:!bF CG 1 "has_piece" qC (Ic K CG CW)):!aj aZ 2 f fd AI (Dq K CG CW CP):=by
 exists F.bG rn;let#[g,p,v,x,hs,ts,qs,fp,rfl,G,nd,sv,k]:=h;let hu:=eO hr;let#[dx,dw,dy,vs,cE,h1,h2,h3,h4,h5,m1,m2,m3,m4,m5]:=id G.ex;have qm:(cb p dw dy).lookup ("has_piece":Str)=none:=xp _ _ _ Z0 Z0 Z0;apply#[_,ak (bP (hU (fZ (fX cH T.cl hr (pv 0) %[1|0]))) fH bQ) (aE (bo (bV hu (eF (pv 0) Z) (pv 1)))),?_];apply#[_,Z,g,dx,_,Z,h1,qm,_,Z,g,p,v,x,hs,ts,qs,fp,Z,G,sv,_,Z,?_];rcases k with⟨q,hq,rfl,k⟩|k
 ·cases (show v=.str q.1 from sv);rw[show GP (qs.map (·.1)) (some q.1)=true from cw (bh.mpr #[q,hq,Z])];apply bE ?_;apply#[_,Z,g,CG,dx,_,_,Z,h1,T.cl,T.nG,QE _ _ _,_,Z,dw,_,Z,?_,k];rw[<- m2_ nd hq];exact .k (k:=Sum.inr q.1) h3
 exact k.elim
theorem uj:bx ["self","piece","one","other","ties"] qR (ba uH):=bH
inductive LQ (K:af) (CG CW CP:Addr) (vs:ai) (H:Hp) (Q:VK) (E:XK):Prop
 |mk:∀(g p:Addr) (v u1 u2:V) (x y1 y2:Option Str) (hs:Xa) (ts:Xb) (qs:aC) (fp:az),vs=[.ref g,v,u1,u2]->iE K CG CW H g p hs ts qs fp->(qs.map (·.1)).Nodup->(aD hs).Nodup->mm K H v x->((∃q∈qs,x\q.1/\mm K H u1 y1/\mm K H u2 y2/\∀H',aa H H'->Q (.bl (Cy hs ts q.2.2 y1 y2)) H')∨False)->LQ K CG CW CP vs H Q E
theorem lA_{CG CW CP:Addr}(F:bp K "may_go" "Goods.may_go" uH f fd)(T:eR K CG)(TW:Txt K mg CW)(cH:!bF CG 1 "has_piece" qC (Ic K CG CW))(cT:!bF CW 2 "are_tied" mL (L6 K CW))(cL:!br 1 "lesser_first" sQ MP) :
  aj P w K mg base aZ 3 f fd qR (LQ K CG CW CP):=by
 exists F.bG uj;let#[g,p,v,u1,u2,x,y1,y2,hs,ts,qs,fp,rfl,G,nd,sE,sv,k]:=h;let hu:=eO hr;have ko:aY 1 _:=hr.mono (by decide);let#[dx,dw,dy,vs,cE,h1,h2,h3,h4,h5,m1,m2,m3,m4,m5]:=id G.ex;have qm:(cb p dw dy).lookup ("has_piece":Str)=none:=xp _ _ _ Z0 Z0 Z0;let#[gm,d1,l2,d3,mB,as,ef,w1,_]:=id h2.ex;have iQ:(dj d1 l2 d3).lookup ("are_tied":Str)=none:=ka _ _ _ Z0 Z0 Z0
 apply#[_,ak (bP (hU (fZ (fX cH T.cl ko (pv 0) %[1|0]))) fH bQ)
  (ak (bP (hU (fZ (fX cT TW.cl hr (eF (pv 0) Z) %[2,3|0]))) (aE (bo CD)) bQ)
  (ak (aO 4 uj.nd (bV hu (eF (pv 0) Z) (pv 1)))
  (aE (bo (Ej (Im (LW (pv 4))) (o6 (iI (Ik (zc fQ fQ) (lX hr _)) (aX cL hr %[2,3|0]) (pv 4) (by with_unfolding_all rfl)))))))),?_]
 apply#[_,Z,g,dx,_,Z,h1,qm,_,Z,g,p,v,x,hs,ts,qs,fp,Z,G,sv,_,Z,?_];rcases k with⟨q,hq,rfl,s1,s2,k⟩|k
 ·cases (show v=.str q.1 from sv);rw[show GP (qs.map (·.1)) (some q.1)=true from cw (bh.mpr #[q,hq,Z])];apply bE ?_;apply#[_,Z,g,CG,dx,_,_,Z,h1,T.cl,T.nW,qE _ _ _,p,gm,_,Z,w1,iQ,_,Z,_,Z,p,u1,u2,y1,y2,hs,ts,cE,Z,h2,sE,s1,s2,_,Z,?_];cases tb:kL hs ts y1 y2 with
  |false=>
   apply fw ?_;have:=k H (aa.refl H);unfold Cy at this;rw[tb,r9] at this;exact this
  |true=>
   apply bE ?_;let#[u,Wk,eu,wy]:=mu_ nd h5 hq;apply#[_,Z,g,CG,dx,_,_,Z,h1,T.cl,T.nY,lh_ _ _ _,_,Z,dy,u,Z,?_,?_]
   ·rw[<- eu];exact .k (k:=Sum.inr q.1) h4
   apply#[_,Z,_,Z,?_];unfold Cy at k;rw[tb] at k;cases e:q.2.2 with
   |none=>
    rw[e] at wy k;cases (show u=.non from wy);exact fw (k H (aa.refl H))
   |some ws=>
    rw[e] at wy k;let#[a,ys,rfl,ha,tu]:=wy;cases y1 with
    |none=>cases tb
    |some a1=>
     cases y2 with
     |none=>cases tb
     |some a2=>
      cases (show u1=.str a1 from s1);cases (show u2=.str a2 from s2);apply bE #[_,Z,_,Z,a1,a2,Z,λt ht=>?_];have s3:aa H (upd H t (.tup [.str (aL a1 a2).1,.str (aL a1 a2).2])):=aa.new ht;apply#[_,Z,aL a1 a2,ws,#[t,_,_,Z,.of ay,Z,Z],#[a,ys,Z,.of (s3 _ _ ha),Iz (tu.same s3)],?_];let z:=k _ s3;rw[Bool.true_and] at z;rw[au hJ];show Q (.bl _) _;have z:Q (.bl (decide (aL a1 a2∈ws))) (upd H t (.tup [.str (aL a1 a2).1,.str (aL a1 a2).2])):=z;generalize upd H t (.tup [.str (aL a1 a2).1,.str (aL a1 a2).2])=Hz at z ⊢;by_cases hm:aL a1 a2∈ws
      ·simpa [hm] using z
      simpa [hm] using z
 exact k.elim
end
end Ev
namespace L2
open PySem PySem.Spec PyProof.Rows PySem.W
variable{P:Ae}{w:Af}
theorem Xi{k:Key}{key:Aa}(h:(fB P w).is k key=true):RelV (kV k) key:=by
 have e2:yT k key=true:=h;rcases sX e2 with⟨i,t,rfl,rfl⟩|⟨x,t,rfl,rfl⟩
 ·exact#[t,Z]
 exact#[t,Z]
def Itm(d:Addr)(o:Obj)(kvs:List (Key × V)):It:=#[λi H=>H d\.frz o (.dK kvs)/\i<kvs.length,λi H y H'=>∃t k x,y=.ref t/\H t=none/\kvs[i]? = some (k,x)/\H'=upd H t (.tup [kV k,x]),λi H=>H d\.frz o (.dK kvs)/\kvs.length<=i]
variable{elts:List Expr}{ep kk:Nat}{es:Array DictEntry}
theorem gN_{K:af}{pos:Pos}(d it:Addr)(o:Obj)(kvs:List (Key × V))(ho:o.data=.dict es ep):Turn P w K (.Tuple elts kk pos) (Itm d o kvs) [it] it (λi h=>∃ok ov,IsItemIter h it d i kvs.length ep ok ov) where
 mem:=by simp
 obj:=λi h st b hb=>by
  obtain rfl:b=it:=⇑hb
  let#[ok,ov,q]:=st;exact#[_,q,λv z=>by cases z]
 keep:=λi h h' st k=>by
  let#[ok,ov,q]:=st;exact#[ok,ov,k it Z2 _ q]
 item:=by
  intro X hP hw hK hc i pins s σ H E I hf st hg;subst hP hw hK;let#[hd,hi]:=hg;let#[vs,rel,dat]:=EY I hd ho;obtain⟨⟨k,x⟩,hx⟩:∃p,kvs[i]? = some p:=#[kvs[i],by simp[hi]];let#[u,hu,ru]:=LF rel i hx;let#[ok,ov,st]:=st;have itl:it<s.heap.objs.size:=cK st;rw[rel.length] at st;apply wpAny_pyNext_items_item st dat hu λkey h' hk out ht sz kp=>?_;apply#[_,Z,wpAny_letOwnedTupleGo_items (s:={ s with heap:=h' }) out λh2 fK sb=>?_];have nT:s.heap.objs.size≠it:=xt itl;have I1:Inv X pins σ (upd H s.heap.objs.size (.tup [kV k,x])) { s with heap:=h2 }:=I.pJ (t':=s.toks) (fp:=[it]) (its:=[key,u]) (λb o hb q=>(sb.2 b ⇑hb).trans (kp b o ⇑hb q)) hf (bq _) (zl) (.cons (Xi hk) (.cons ru .nil)) #[#[_,(sb.2 _ nT).trans ht,Z,_,Z],_,(sb.2 _ nT).trans ht,Z];apply#[.ref _,_,I1,Z,#[_,k,x,Z,I.aN.fresh (bq _),hx,Z],#[_,_,by rw[rel.length];exact fK],λb hb=>?_];have e:b=it:=⇑hb
  rw[ax (λz=>nT (z.symm.trans e))];exact (hf b hb).1
 done:=by
  intro X hP hw hK hc i pins s σ H E I hf st hg;subst hP hw hK;let#[hd,hi]:=hg;let#[vs,rel,dat]:=EY I hd ho;let#[f0,f1,f2,f3,f4,f5]:=hf it Z2;let#[ok,ov,st]:=st;rw[rel.length] at st hi;exact wpAny_pyNext_items_end (I.ok.hd hc) st dat (by simp;omega) λh' eb=>#[Z,I.turned (t':=s.toks) (λb o hb e=>eb b o hb e) f0 f1 f3 f4 f5]
 self:=λA i s Q E st h=>by
  let#[ok,ov,q]:=st;exact kcp_self q h
inductive qj (R:It->Hp->Prop) (x:V) (H1:Hp):Prop
 |mk:∀v d kvs,x=.ref v->H1 v\rY v d->H1 d\.dK kvs->(∀o,R (Itm d o kvs) (upd H1 d (.frz o (.dK kvs))))->qj R x H1
def B6(tv:TE):TI:=λσ H R=>tv σ H λx H1=>qj R x H1
variable{X:Cx}{e:Expr}{tv:TE}
theorem MH{p2:Pos}(he:PE X e tv):PI X (.Tuple elts kk p2) e (B6 tv):=by
 intro pins s σ H R I h;apply bb (he pins s σ H _ I h) λu s1 ⟨x,H1,I1,r1,v,d,kvs,ex,hv,hd,q⟩=>?_;subst ex;cases r1;let#[iv,_,_]:=I1.aN v _ hv;let#[o,ho,I2]:=I1.freeze hd;let#[z,_,vs,rel,o',es,ep,jD,c',dt,r]:=AM I1.aN hd;rw[ho] at jD;cases jD;apply wpAny_pyIter_items (knd:=fB X.prog X.w) (kvs:=vs) (ep:=ep) iv #[o,es,ho,c',dt,r] ?_;apply#[s1.heap.objs.size,[s1.heap.objs.size],_,_,_,Z,I2.kept (t':=s1.toks) λb o e=>cO _ e,gN_ d _ o kvs dt,?_,λb hb=>?_,q o]
 ·rw[rel.length];exact#[.none,.none,fI _ Z]
 obtain rfl:b=s1.heap.objs.size:=⇑hb
 exact I2.j4 (bq _) (I2.aN.fresh (bq _))
variable{d:Addr}{o:Obj}{kvs:List (Key × V)}{g:TG}
theorem RT{tb:TS}{D:Ends}{σ:St}{H:Hp}(Pv:bI)(h0:Pv 0 σ H)(hl:∀i σ H,i<=kvs.length->Pv i σ H->H d\.frz o (.dK kvs))(hs:∀i k x σ H,kvs[i]? = some (k,x)->Pv i σ H->∀t,H t=none->g (.ref t) σ (upd H t (.tup [kV k,x])) λgQ H2=>tb { D with nx:=Pv (i+1),ct:=Pv (i+1),bk:=D.nx } gQ H2)(hd:∀σ H,Pv kvs.length σ H->D.nx σ H) :
  ∃W:Nat->Nat->St->Hp->Prop,(∃m,W 0 m σ H)/\∀i m σ H,W i m σ H->
   ((Itm d o kvs).stop i H/\D.nx σ H)∨((Itm d o kvs).go i H/\∃N:St->Hp->Prop,(∀bt H',N bt H'->∃m',m'<m/\W (i+1) m' bt H')/\∀x H',(Itm d o kvs).xK i H x H'->g x σ H' λgQ H2=>tb { D with nx:=N,ct:=N,bk:=D.nx } gQ H2):=by
 apply#[λi m σ H=>m=kvs.length - i/\i<=kvs.length/\Pv i σ H,#[kvs.length,by simp,gF _,h0],?_];rintro i m σ H ⟨rfl,hi,p⟩;let q:=hl i σ H hi p;by_cases dm:i<kvs.length
 ·apply .inr #[#[q,dm],Pv (i+1),λbt H' p'=>#[kvs.length - (i+1),by omega,Z,dm,p'],λx H' y=>?_];let#[t,k,x,rfl,ht,hx,rfl]:=y;exact hs i k x σ H hx p t ht
 have e:i=kvs.length:=by omega
 subst e;exact .inl #[#[q,bq _],hd σ H p]
def Fc(d:Addr)(o:Obj)(kvs:List (Key × V)):It:=#[λi H=>H d\.frz o (.dK kvs)/\i<kvs.length,λi H y H'=>H'=H/\∃k x,kvs[i]? = some (k,x)/\y=kV k,λi H=>H d\.frz o (.dK kvs)/\kvs.length<=i]
variable{tg:Expr}
theorem iJ_{K:af}(d it:Addr)(o:Obj)(kvs:List (Key × V))(ho:o.data=.dict es ep):Turn P w K tg (Fc d o kvs) [it] it (λi h=>h.IsKeyIter it d i kvs.length ep) where
 mem:=by simp
 obj:=λi h st b hb=>by
  obtain rfl:b=it:=⇑hb
  let#[o,e,c,d]:=st;exact#[o,e,λv z=>by rw[d] at z;cases z]
 keep:=λi h h' st k=>st.at λo e=>k it Z2 o e
 item:=by
  intro X hP hw hK hc i pins s σ H E I hf st hg;subst hP hw hK;let#[hd,hi]:=hg;let#[vs,rel,dat]:=EY I hd ho;obtain⟨⟨k,x⟩,hx⟩:∃p,kvs[i]? = some p:=#[kvs[i],by simp[hi]];let#[u,hu,ru]:=LF rel i hx;let#[f0,f1,f2,f3,f4,f5]:=hf it Z2;rw[rel.length] at st;apply wpAny_pyNext_dict_item st dat hu λkey h' hk fL sb=>?_;have I1:Inv X pins σ H { s with heap:=h' }:=I.turned (t':=s.toks) (λb o hb e=>(sb.2 b hb).trans e) f0 f1 f3 f4 f5;let#[o',e,c,dd]:=id fL;apply#[key,Z,El (s:={ s with heap:=h' }) e c dd (by decide) #[kV k,H,I1,Xi hk,#[Z,k,x,hx,Z],?_,λb hb=>(hf b hb).1]];show h'.IsKeyIter it d (i+1) kvs.length ep;rw[rel.length];exact fL
 done:=by
  intro X hP hw hK hc i pins s σ H E I hf st hg;subst hP hw hK;let#[hd,hi]:=hg;let#[vs,rel,dat]:=EY I hd ho;let#[f0,f1,f2,f3,f4,f5]:=hf it Z2;rw[rel.length] at st hi;exact wpAny_pyNext_dict_end (I.ok.hd hc) st dat (by simp;omega) λh' eb=>#[Z,I.turned (t':=s.toks) (λb o hb e=>eb b o hb e) f0 f1 f3 f4 f5]
 self:=λ_ _ _ _ _ st h=>wpAny_pyIter_keyiter st h
inductive vp (R:It->Hp->Prop) (x:V) (H1:Hp):Prop
 |mk:∀d kvs,x=.ref d->H1 d\.dK kvs->(∀o,R (Fc d o kvs) (upd H1 d (.frz o (.dK kvs))))->vp R x H1
def GU(tv:TE):TI:=λσ H R=>tv σ H λx H1=>vp R x H1
theorem IH(he:PE X e tv):PI X tg e (GU tv):=by
 intro pins s σ H R I h;apply bb (he pins s σ H _ I h) λu s1 ⟨x,H1,I1,r1,d,kvs,ex,hd,q⟩=>?_;subst ex;cases r1;let#[o,ho,I2]:=I1.freeze hd;let#[z,rH,vs,rel,o',es,ep,jD,c',dt,r]:=AM I1.aN hd;rw[ho] at jD;cases jD;apply wpAny_pyIter_dict (knd:=fB X.prog X.w) (kvs:=vs) (ep:=ep) rH #[o,es,ho,c',dt,r] ?_;apply#[s1.heap.objs.size,[s1.heap.objs.size],_,_,_,Z,I2.kept (t':=s1.toks) λb o e=>cO _ e,iJ_ d _ o kvs dt,?_,λb hb=>?_,q o]
 ·rw[rel.length];exact#[_,fI _ Z,Z,Z]
 obtain rfl:b=s1.heap.objs.size:=⇑hb
 exact I2.j4 (bq _) (I2.aN.fresh (bq _))
theorem Yz{tc:TT}{te:TE}{own:Nat}{fv:List aF}{dec:V->Hp->List aF->Prop}{D:Addr}{H:Hp}{Q:VK}{kj:St}(rF:kj=List.replicate own none++fv)(G:DI g own fv dec)(Pv:dH)(h0:Pv 0 [] (upd H D (.lst [])))(hl:∀i out H',i<=kvs.length->Pv i out H'->H' d\.frz o (.dK kvs))(hd:∀out H',Pv kvs.length out H'->Q (.ref D) H')(Co:∀i k x out H',kvs[i]? = some (k,x)->Pv i out H'->∃o3,dec (kV k) H' o3/\o3.length=own/\∀Nx:Hp->Prop,(∀jT H2,Pv (i+1) jT H2->Nx H2)->
   tc (o3++fv) H' λb H4=>if b=true then te (o3++fv) H4 λy H5=>∃fu,H5 D\.lst fu/\fu.length<sizeLine/\Nx (upd H5 D (.lst (fu++[y]))) else Nx H4) :
  AL (Fc d o kvs) g tc te kj D H Q:=by
 apply zk rF G kvs.length Pv h0 (λout H' p=>#[#[hl _ _ _ (bq _) p,bq _],hd out H' p]) λi out H' hi p=>?_;let q:=hl i out H' (Nat.le_of_lt hi) p;apply#[#[q,hi],λx H2 y=>?_];let#[e,k,v,hx,rfl]:=y;subst e;exact Co i k v out _ hx p
inductive tG (t:TS) (D:Ends) (σ:St) (H:Hp):Prop
 |mk:∀d kvs,H d\.dK kvs->t { nx:=λpG H1=>∃o,H1 d\.frz o (.dK kvs)/\D.nx pG (upd H1 d (.dK kvs)),rt:=λv H1=>∃o,H1 d\.frz o (.dK kvs)/\D.rt v (upd H1 d (.dK kvs)) } σ H->tG t D σ H
theorem Di{st:Stmt}{t:TS}(h:PS X st t):PS X st (tG t):=by
 intro pins s σ H D I q;let#[d,kvs,hd,q]:=q
 have nf:∀o u,X.mr d≠some (.frz o u):=λo u z=>by
  have:=I.base.ij _ _ _ z;rw[hd] at this;cases this
 apply bb (h pins s σ H _ I q) λf s' p=>?_;cases f with
 |next=>
  let#[pG,H1,I1,o,hf,q1]:=p;exact#[pG,_,I1.jP hf nf,q1]
 |brk=>
  let#[pG,H1,I1,q1]:=p;exact False.elim q1
 |cont=>
  let#[pG,H1,I1,q1]:=p;exact False.elim q1
 |ret u=>
  let#[v,pG,H1,I1,r,o,hf,q1]:=p;exact#[v,pG,_,I1.jP hf nf,r,q1]
theorem Zv:∀{ns:List Int} {its:aq},Vals (ns.map V.int) its->∃xs:List (Int × Tok),its.toArray=intItems xs.toArray/\xs.map (·.1)=ns
 |[],_,.nil=>#[[],by unfold intItems;simp,Z]
 |n::ns,_,.cons ⟨t,e⟩ r=>by
  let#[xs,h1,h2]:=Zv r;apply#[(n,t)::xs,?_,by simp[h2]];subst e;apply Array.ext' ?_;let h3:=dQ Array.toList h1;unfold intItems at h3 ⊢;simp at h3 ⊢;exact h3
theorem Zk{xs:List (Int × Tok)}:∀n,n<=xs.length->preSum (numAt xs.toArray) n=((xs.map (·.1)).take n).sum
 |0,_=>by simp[preSum]
 |n+1,h=>by
  let ih:=Zk (xs:=xs) n Z1;show preSum (numAt xs.toArray) n+numAt xs.toArray n=_;rw[ih,iw,List.sum_append];congr 1;unfold numAt;rw[List.getElem?_toArray,dR,dB Z1];simp
inductive zY (K:af) (xs:ai) (H:Hp) (Q:VK):Prop
 |mk:∀(l:Addr) (ns:List Int),xs=[.ref l]->eG K H l (ns.map V.int)->Q (.int ns.sum) H->zY K xs H Q
theorem iB_(hc:X.calm=true):gD X (.builtin "sum") (zY X.K):=by
 intro pins s σ H xs us Q I r h;let#[l,ns,rfl,hl,q]:=h;let#[u,rfl,ru]:=vals1 r;cases ru;let#[its,rv,p,hz]:=I.list hl;let#[zs,e1,e2]:=Zv rv;let il:=p.isList;rw[e1] at il;apply sum_intListG (I.ok.hd hc) il λh' tk t' k=>?_;apply#[.int ns.sum,H,I.kept (t':=tk) k,#[t',?_],q]
 have:preSum (numAt zs.toArray) zs.toArray.size=ns.sum:=by
  rw[dG,Zk _ (bq _),<- e2,xF Z2]
 rw[this]
end L2
namespace Ev
open PySem L2
structure Fz (d:Addr) (o:Obj) (kvs:List (Key × V)) (H H':Hp):Prop where
 at_:H' d\.frz o (.dK kvs)
 sm:∀b u,b≠d->H b\u->H' b\u
section
variable{d:Addr}{o:Obj}{kvs:List (Key × V)}{H H' H2:Hp}
theorem Fz.start:Fz d o kvs H (upd H d (.frz o (.dK kvs))):=#[ay,λb u ne e=>by rw[ax ne];exact e]
theorem Fz.step(f:Fz d o kvs H H')(s:aa H' H2):Fz d o kvs H H2:=#[s _ _ f.at_,λb u ne e=>s _ _ (f.sm b u ne e)]
theorem Fz.jP(f:Fz d o kvs H H')(hd:H d\.dK kvs):aa H (upd H' d (.dK kvs)):=λb u e=>by
 by_cases z:b=d
 ·subst z;rw[hd] at e;cases e;exact ay
 rw[ax z];exact f.sm b u z e
theorem Fz.Az{K:af}{CG CW g p:Addr}{hs:Xa}{ts:Xb}{qs:aC}{fp:az}(f:Fz d o kvs H H')(hd:H d\.dK kvs)(G:iE K CG CW H g p hs ts qs fp)(nd:d∉fp):iE K CG CW H' g p hs ts qs fp:=
 G.keep (λb hb u e=>f.sm b u (λz=>nd (z▸hb)) e) λb xs e=>f.sm b _ (cu e hd nofun) e
end
def bB(ns:ae)(g:Str->V):List (Key × V):=ns.map λn=>(Sum.inr n,g n)
theorem ET(ns:ae)(g:Str->V):(bB ns g).map (·.1)=ns.map Sum.inr:=by
 unfold bB;rw[cm];rfl
theorem f_(ns:ae)(g:Str->V):(bB ns g).length=ns.length:=ao _
variable{n:Str}
theorem ES{ns:ae}{g:Str->V}(h:n∈ns):bL (bB ns g) (Sum.inr n)\g n:=by
 induction ns with
 |nil=>cases h
 |cons m ns ih=>
  by_cases e:m=n
  ·subst e;exact Dt Z
  have:bL (bB (m::ns) g) (Sum.inr n)=bL (bB ns g) (Sum.inr n):=Ds λz=>e (ik z);rw[this];rcases bX.mp h with z|z
  ·exact absurd z.symm e
  exact ih z
theorem EV{ns:ae}{g k:Str->V}(h:∀n∈ns,g n=k n):bB ns g=bB ns k:=qH λn hn=>by rw[h n hn]
variable{v:V}
theorem Qv{ns:ae}{g:Str->V}(h:n∈ns):putK (bB ns g) (Sum.inr n) v=bB ns λm=>if m=n then v else g m:=by
 unfold putK;rw[aB]
 ·unfold bB;rw[cm];apply qH λm _=>?_;by_cases e:m=n
  ·subst e;simp
  have:¬((Sum.inr m:Key)=Sum.inr n):=λz=>e (ik z);simp[e]
 apply List.any_eq_true.mpr #[(Sum.inr n,g n),bh.mpr #[n,h,Z],by simp]
theorem L9{ns:ae}{g:Str->V}(h:n∉ns):putK (bB ns g) (Sum.inr n) v=bB (ns++[n]) λm=>if m=n then v else g m:=by
 rw[E2 _ (A4 (by
  rw[ET];intro m;let#[x,hx,e]:=bh.mp m;exact h (ik e▸hx)))]
 unfold bB;rw[bY];congr 1
 ·apply qH λm hm=>?_;have e:¬m=n:=λz=>h (z▸hm);simp[e]
 simp
variable{i:Nat}
theorem xk{ns:ae}{g:Str->V}{k:Key}{x:V}(h:(bB ns g)[i]? = some (k,x)):∃n,ns[i]? = some n/\k=Sum.inr n/\x=g n:=by
 unfold bB at h;rw[dR] at h;cases e:ns[i]? with
 |none=>rw[e] at h;cases h
 |some n=>
  rw[e] at h;let h:=eK h;exact#[n,Z,(dQ Prod.fst h).symm,(dQ Prod.snd h).symm]
theorem Jn{ns:ae}(nd:ns.Nodup)(h:ns[i]? = some n):n∉ns.take i:=by
 let q:=Jp (g:=id) (ts:=ns) (by rw[List.map_id];exact nd) h;rwa [List.map_id] at q
theorem eZ{ns:ae}(h:ns[i]? = some n):ns.take (i+1)=ns.take i++[n]:=by
 rw[iw,h];rfl
abbrev b_(ns:ae)(f:ag):List (Key × V):=bB ns λn=>.str (f n)
def d9(q:Pc):Str × Int:=(q.1,q.2.1)
def ld(f:ag)(ws:Xa)(h:Str):Int:=((ws.filter λx=>decide (f x.1=h)).map (·.2)).sum
theorem V_(f:ag)(ws:Xa)(x:Str × Int)(h:Str):ld f (ws++[x]) h=if h=f x.1 then ld f ws h+x.2 else ld f ws h:=by
 unfold ld;rw[zq];by_cases e:f x.1=h
 ·rw[aB e.symm,bY,List.sum_append];simp[e]
 rw[au λz=>e z.symm];simp[e]
theorem Xy{a b:List Int}(p:a.Perm b):a.sum=b.sum:=by
 induction p with
 |nil=>rfl
 |cons x _ ih=>simp[ih]
 |swap x y l=>simp only[List.sum_cons];omega
 |trans _ _ h1 h2=>exact h1.trans h2
theorem lE_(f:ag){a b:Xa}(p:a.Perm b)(h:Str):ld f a h=ld f b h:=Xy ((p.filter _).map _)
theorem V5:∀{l:List Int},(∀x∈l,0<=x)->0<=l.sum
 |[],_=>by simp
 |x::l,h=>by
  rw[List.sum_cons];have:=h x cZ;have:=V5 (l:=l) λy hy=>h y (dJ _ hy);omega
theorem lW_{f:ag}{ws:Xa}{h:Str}(p:∀x∈ws,0<=x.2):0<=ld f ws h:=V5 λx hx=>by
 let#[y,hy,rfl]:=bh.mp hx;exact p y (se.mp hy).1
variable{ps:aC}
theorem Qs.nd{qs:aC}(Q:Qs ps qs)(nd:(ps.map (·.1)).Nodup):(qs.map (·.1)).Nodup:=by
 rw[Q.sF];exact (gM _).nodup_iff.mpr nd
theorem Qs.len{qs:aC}(Q:Qs ps qs):qs.length=ps.length:=by
 have:=dQ List.length Q.sF;rw[ao,(gM _).length_eq,ao] at this;exact this
theorem Qs.ws{qs:aC}(Q:Qs ps qs)(nd:(ps.map (·.1)).Nodup):(qs.map d9).Perm (ps.map d9):=by
 have nw:∀{l:aC},(l.map (·.1)).Nodup->(l.map d9).Nodup:=λ{l} h=>by
  have e:(l.map (·.1))=(l.map d9).map (·.1):=by rw[cm];rfl
  rw[e] at h;exact (pe.mp h).imp λn z=>n (by rw[z])
 apply (List.perm_ext_iff_of_nodup (nw (Q.nd nd)) (nw nd)).mpr λa=>#[λh=>?_,λh=>?_]
 ·let#[q,hq,rfl]:=bh.mp h;let#[p,hp,rfl]:=Q.mem q hq;exact bh.mpr #[p,hp,Z]
 let#[p,hp,rfl]:=bh.mp h
 have m:p.1∈qs.map (·.1):=by
  rw[Q.sF];exact (gM _).mem_iff.mpr (bh.mpr #[p,hp,Z])
 let#[q,hq,e]:=bh.mp m;let#[p',hp',e']:=Q.mem q hq;have:p'=p:=R0 nd hp' hp (by rw[e'] at e;exact e);apply bh.mpr #[q,hq,?_];rw[e',this];rfl
variable{fd:Ad}
section v
structure qW (hs:Xa) (qs:aC) (ns:ae) (f:ag):Prop where
 perm:ns.Perm (qs.map (·.1))
 at_:∀n∈ns,f n∈hs.map (·.1)
theorem MU:bx ["goods","stand","piece","hand","names"] ["goods","stand"] (ba Q8):=bH
inductive Me (K:af) (CG CW:Addr) (vs:ai) (H:Hp) (Q:VK) (E:XK):Prop
 |mk:∀(g p d:Addr) (hs:Xa) (ts:Xb) (qs:aC) (fp:az) (ns:ae) (f:ag),vs=[.ref g,.ref d]->iE K CG CW H g p hs ts qs fp->d∉fp->H d\.dK (b_ ns f)->qW hs qs ns f->(qs.map (·.1)).Nodup->qs.length<64->(∀d' H',aa H H'->H d'=none->H' d'\.dK (b_ (qs.map (·.1)) f)->Q (.ref d') H')->Me K CG CW vs H Q E
theorem iz_{f CG CW:Addr}(F:bp K "checked_stand" "checked_stand" Q8 f fd)(B:Bi mg)(T:eR K CG)(TW:Txt K mg CW)(cH:!bF CG 1 "has_piece" qC (Ic K CG CW))(cW:!bF CW 1 "has_hand" qC (k4 K CW))(cN:!bF CG 1 "names" iY (So K CG CW)) :
  aj P w K mg base aZ 2 f fd ["goods","stand"] (Me K CG CW):=by
 exists F.bG MU;let#[g,p,d,hs,ts,qs,fp,ns,f,rfl,G,rO,hd,so,nd,cz,k]:=h;let hu:=eO hr;let sz:=cc;refine' #[_,?r0,?kk]
 case' r0=>refine' ak ?s1 ?r1
 case s1=>exact bP (hU (fZ (cQ o9 (by rfl) B.mF mT %[1,o7 (v:=.ty "dict") (by rfl) B.dict qF Z|0]))) fH bQ
 case' r1=>refine' ak ?s2 ?r2
 case' s2=>refine' Di (eE dM Z ?i2 ?g2 ?b2)
 case i2=>exact MH (IM (pv 1))
 case g2=>exact ju Z (cU (bN 2 MU.nd) (cU (bN 3 MU.nd) iA))
 case b2=>exact ak (bP (hU (fZ (fX cH T.cl hr (pv 0) %[2|0]))) fH bQ) (aE (bP (hU (fZ (fX cW TW.cl hr (eF (pv 0) Z) %[3|0]))) fH bQ))
 case' r2=>refine' ak ?s3 ?r3
 case s3=>exact aO 4 MU.nd (AS cN T.cl hr (pv 0))
 case' r3=>refine' ak ?s4 (aE ?s5)
 case s4=>exact bP (c_ CJ (cQ hZ_ (by rfl) B.len jJ %[1|0]) (cQ mR (by rfl) B.len jJ %[4|0])) fH bQ
 case s5=>exact bo (iZ (wb Z) (by rfl) B.dict qF %[i4 ["piece","stand"] 1 [1] (dA (pv 4)) (λfp s H=>e_ (i:=0) (show (["piece","stand"]:ae).Nodup by decide +kernel) Z (Or.inl Z)) (λfp s H=>iH) (λfp s H=>eW %[0,bV hu (pv 1) (pv 0)|0])|0])
 have OI:ns.length=qs.length:=by rw[so.perm.length_eq,ao]
 apply#[_,Z,_,_,_,_,Z,.dK hd,Z,_,Z,bE ?_];apply#[d,_,hd,?_];apply#[_,Z,d,_,Z,hd,λv hv=>?_];let#[s1,qk]:=aA (o:=rY v d) hv;let G1:=G.same s1;let wV:=s1 _ _ hd;generalize upd H v (rY v d)=H1 at s1 qk G1 wV ⊢;apply#[v,d,_,Z,qk,wV,λo=>?_]
 let J7:bI:=λi σ H'=>∃(v2 v3:aF),σ=[some (.ref g),some (.ref d),v2,v3,none]/\Fz d o (b_ ns f) H1 H'
 apply RT J7 #[none,none,Z,Fz.start] (λi σ H' _ ⟨_,_,_,z⟩=>z.at_) ?_ ?_
 ·rintro i ky x σ H2 hx ⟨v2,v3,rfl,fz⟩ t ht;let#[n,hn,rfl,rfl]:=xk hx;let nm:=cj hn;let s2:=aa.new (o:=.tup [.str n,.str (f n)]) ht;let CB:=fz.step s2;have e2:upd H2 t (.tup [.str n,.str (f n)]) t\.tup [.str n,.str (f n)]:=ay;show j0 _ _ _ _ _ (upd H2 t (.tup [.str n,.str (f n)])) _;generalize upd H2 t (.tup [.str n,.str (f n)])=H3 at s2 CB e2 ⊢;apply#[t,_,Z,.of e2,Z,_,_,Z,_,_,Z,Z,?_];let G3:=CB.Az wV G1 rO;let#[dx,dw,dy,vs,cE,h1,h2,h3,h4,h5,m1,m2,m3,m4,m5]:=id G3.ex;let#[gm,d1,l2,d3,mB,as,ef,w1,_]:=id h2.ex;have qm:(cb p dw dy).lookup ("has_piece":Str)=none:=xp _ _ _ Z0 Z0 Z0;have iQ:(dj d1 l2 d3).lookup ("has_hand":Str)=none:=ka _ _ _ Z0 Z0 Z0;apply#[_,Z,g,dx,_,Z,h1,qm,_,Z,g,p,.str n,some n,hs,ts,qs,fp,Z,G3,Z,_,Z,?_];rw[show GP (qs.map (·.1)) (some n)=true from cw (so.perm.mem_iff.mp nm)];apply bE ?_;apply#[_,Z,g,CG,dx,_,_,Z,h1,T.cl,T.nW,qE _ _ _,p,gm,_,Z,w1,iQ,_,Z,p,f n,hs,ts,cE,Z,h2,_,Z,?_];rw[cw (so.at_ n nm)];exact bE #[_,_,Z,CB]
 rintro σ H2 ⟨v2,v3,rfl,fz⟩;apply#[o,fz.at_,?_];let s2:=s1.trans (fz.jP wV);have hd2:upd H2 d (.dK (b_ ns f)) d\.dK (b_ ns f):=ay;generalize upd H2 d (.dK (b_ ns f))=H3 at s2 hd2 ⊢;let G3:=G.same s2;let#[dx,dw,dy,vs,cE,h1,h2,h3,h4,h5,m1,m2,m3,m4,m5]:=id G3.ex;apply#[_,Z,g,dx,_,Z,h1,xp _ _ _ Z0 Z0 Z0,g,p,hs,ts,qs,fp,Z,G3,λln qt=>?_];let#[s3,e3]:=aA (o:=.lst ((qs.map (·.1)).map V.str)) qt;let oR:=s3 _ _ hd2;generalize upd H3 ln (.lst ((qs.map (·.1)).map V.str))=H4 at s3 e3 oR ⊢;apply#[_,Z,d,_,Z,oR,_,Z,ln,_,Z,.inl (.of e3),Z,_,Z,?_];rw[f_,ao,ao,OI];simp only[bne_self_eq_false,decide_true,Bool.not_true];apply bE ?_;let jC:=s2.trans s3;apply#[_,Z,ln,Z,#[_,.of e3],λD hD=>?_];apply mU (own:=1) (fv:=[some (.ref d)]) (xs:=(qs.map (·.1)).map V.str) Z ee (λi out H'=>aa H4 H'/\H' D\.lst out/\jH K H' out (b_ ((qs.map (·.1)).take i) f)) #[aa.new hD,ay,.nil] (λi out H' _ ⟨sm,_,_⟩=>.of (sm _ _ e3)) (λout H5 ⟨sm,yN,pa⟩=>?_) (λi y out H' hy ⟨sm,eN,pa⟩=>?_)
 ·rw[ao,dz] at pa;apply#[D,out,_,Z,yN,pa,by rw[f_,ao];omega,λd' iS=>?_]
  have Aj:((b_ (qs.map (·.1)) f).map (·.1)).Nodup:=by
   rw[ET,xG,pe];exact nd.imp λn e=>n (ik e)
  rw[xx Aj];exact k d' _ ((jC.trans sm).trans (aa.new iS)) (jC.free (sm.free iS)) ay
 let#[n,hn,rfl]:=i0 hy;have hi:i<(qs.map (·.1)).length:=(cq.mp hn).1;rw[ao] at hi;have nm:n∈ns:=so.perm.mem_iff.mpr (cj hn);apply#[_,Z,Z,λNx hN=>dW ?_];apply#[_,Z,_,Z,_,Z,d,.str (f n),Z,?_,zl,λt ht=>?_]
 ·rw[<- ES (g:=λn=>V.str (f n)) nm];exact .k (k:=Sum.inr n) (sm _ _ oR)
 let s5:=aa.new (o:=.tup [.str n,.str (f n)]) ht;let lo:=bK pa;rw[f_,cX,ao] at lo;apply#[out,s5 _ _ eN,by omega,hN _ _ #[fF (sm.trans s5) hD,ay,?_]];have As:upd H' t (.tup [.str n,.str (f n)]) t\.tup [.str n,.str (f n)]:=ay;have pD:∀{b:Addr} {ys:ai},upd H' t (.tup [.str n,.str (f n)]) b\.tup ys->b≠D:=λhb=>cu hb (s5 _ _ eN) nofun;rw[eZ hn];show jH K _ _ (((qs.map (·.1)).take i++[n]).map _);rw[bY];exact kI (Paired.bu pa λy kv ⟨b,z,hb⟩=>#[b,z,by rw[ax (pD (s5 _ _ hb))];exact s5 _ _ hb]) (.cons #[t,Z,by rw[ax (pD As)];exact As] .nil)
end
section
variable{d d2:Addr}{o:Obj}{kvs:List (Key × V)}{H H' H1:Hp}{u:HO}
theorem Fz.Bo(s:aa H H1):Fz d o kvs H (upd H1 d (.frz o (.dK kvs))):=#[ay,λb u ne e=>by rw[ax ne];exact s _ _ e]
theorem Fz.put(f:Fz d o kvs H H')(hn:H d2=none)(ne:d2≠d):Fz d o kvs H (upd H' d2 u):=#[by rw[ax ne.symm];exact f.at_,λb u nb e=>by rw[ax (bj e hn)];exact f.sm b u nb e]
end
section v
theorem MJ:bx ["goods","placed","hand","found","piece"] mM (ba Sk):=bH
structure xc (K:af) (CG CW:Addr) (H:Hp) (g p d:Addr) (hs:Xa) (ts:Xb) (qs:aC) (fp:az) (f:ag):Prop where
 G:iE K CG CW H g p hs ts qs fp
 Gd:Good hs ts
 rO:d∉fp
 hd:H d\.dK (b_ (qs.map (·.1)) f)
 at_:∀n∈qs.map (·.1),f n∈hs.map (·.1)
 nd:(qs.map (·.1)).Nodup
 cz:qs.length<64
abbrev yC(hs:Xa)(qs:aC)(f:ag):List (Key × V):=bB (aD hs) λh=>.int (ld f (qs.map d9) h)
inductive IX (K:af) (CG CW:Addr) (vs:ai) (H:Hp) (Q:VK) (E:XK):Prop
 |mk:∀(g p d:Addr) (hs:Xa) (ts:Xb) (qs:aC) (fp:az) (f:ag),vs=[.ref g,.ref d]->xc K CG CW H g p d hs ts qs fp f->(∀d' H',aa H H'->H d'=none->H' d'\.dK (yC hs qs f)->Q (.ref d') H')->IX K CG CW vs H Q E
theorem gH_{f CG CW CP:Addr}(F:bp K "loads_at" "loads_at" Sk f fd)(B:Bi mg)(T:eR K CG)(TW:Txt K mg CW)(cH:!bF CW 1 "hands" iY (EN K CW))(cW:!bF CG 2 "weight" AI (Dq K CG CW CP)) :
  aj P w K mg base aZ 3 f fd mM (IX K CG CW):=by
 exists F.bG MJ;let#[g,p,d,hs,ts,qs,fp,f,rfl,Pl,k]:=h;let hu:=eO hr;let sz:=cc;have ko:aY 1 _:=hr.mono (by decide);refine' #[_,?r0,?kk]
 case' r0=>refine' ak ?s1 ?r1
 case s1=>exact aO 3 MJ.nd (iZ (wb Z) (by rfl) B.dict qF %[i4 ["hand"] 1 [] (dA (AS cH TW.cl ko (eF (pv 0) Z))) (λfp s H=>e_ (i:=0) (show (["hand"]:ae).Nodup by decide +kernel) Z (Or.inl Z)) (λfp s H=>iH) (λfp s H=>eW %[0,aI|0])|0])
 case' r1=>refine' ak ?s2 ?r2
 case' s2=>refine' Di (eE dM Z ?i2 ?g2 (aE ?b2))
 case i2=>exact MH (IM (pv 1))
 case g2=>exact ju Z (cU (bN 4 MJ.nd) (cU (bN 2 MJ.nd) iA))
 case b2=>exact rW hu (pv 3) (pv 2) (bw h9 (bV hu (pv 3) (pv 2)) (fX cW T.cl hr (pv 0) %[4|0])) Z
 case r2=>exact aE (bo (pv 3))
 let nl:=Pl.Gd.eU;let h8:=Pl.Gd.h8;let#[dx,dw,dy,vs,cE,h1,h2,h3,h4,h5,m1,m2,m3,m4,m5]:=id Pl.G.ex;let#[gm,d1,l2,d3,mB,as,ef,w1,_]:=id h2.ex;have iQ:(dj d1 l2 d3).lookup ("hands":Str)=none:=ka _ _ _ Z0 Z0 Z0;apply#[_,Z,g,CG,dx,_,_,Z,h1,T.cl,T.nW,qE _ _ _,p,gm,_,Z,w1,iQ,p,hs,ts,cE,Z,h2,λlh ig=>?_];let#[s1,e1]:=aA (o:=.lst ((aD hs).map V.str)) ig;generalize upd H lh (.lst ((aD hs).map V.str))=H1 at s1 e1 ⊢;apply#[lh,Z,#[_,.of e1],λD hD=>?_]
 let J6:dH:=λi out H'=>aa H1 H'/\H' D\.lst out/\jH K H' out (bB ((aD hs).take i) λ_=>.int 0)
 apply mU (own:=1) (fv:=[]) (xs:=(aD hs).map V.str) Z ee J6 #[aa.new hD,ay,.nil] (λi out H' _ ⟨sm,_,_⟩=>.of (sm _ _ e1)) (λout H5 ⟨sm,yN,pa⟩=>?_) (λi y out H' hy ⟨sm,eN,pa⟩=>?_);rotate_left 1
 ·let#[n,hn,rfl]:=i0 hy;have hi:i<(aD hs).length:=(cq.mp hn).1;apply#[_,Z,Z,λNx hN=>dW ?_];apply#[_,Z,zl,λt ht=>?_];let s5:=aa.new (o:=.tup [.str n,.int 0]) ht;let lo:=bK pa;rw[f_,cX] at lo;apply#[out,s5 _ _ eN,by omega,hN _ _ #[fF (sm.trans s5) hD,ay,?_]];have As:upd H' t (.tup [.str n,.int 0]) t\.tup [.str n,.int 0]:=ay;have pD:∀{b:Addr} {ys:ai},upd H' t (.tup [.str n,.int 0]) b\.tup ys->b≠D:=λhb=>cu hb (s5 _ _ eN) nofun;rw[eZ hn];show jH K _ _ (((aD hs).take i++[n]).map _);rw[bY];exact kI (Paired.bu pa λy kv ⟨b,z,hb⟩=>#[b,z,by rw[ax (pD (s5 _ _ hb))];exact s5 _ _ hb]) (.cons #[t,Z,by rw[ax (pD As)];exact As] .nil)
 rw[ao,dz] at pa;apply#[D,out,_,Z,yN,pa,by rw[f_];omega,λd2 hd2=>?_]
 have Aj:((bB (aD hs) λ_=>V.int 0).map (·.1)).Nodup:=by
  rw[ET,xG,pe];exact Pl.Gd.sE.imp λn e=>n (ik e)
 rw[xx Aj];let s2:=(s1.trans sm).trans (aa.new (o:=.dK (bB (aD hs) λ_=>V.int 0)) hd2);have e2:upd H5 d2 (.dK (bB (aD hs) λ_=>V.int 0)) d2\.dK (bB (aD hs) λ_=>V.int 0):=ay;have n2:H d2=none:=s1.free (sm.free hd2);show rg _ _ _ _ (upd H5 d2 (.dK (bB (aD hs) λ_=>V.int 0)));generalize upd H5 d2 (.dK (bB (aD hs) λ_=>V.int 0))=H6 at s2 e2 ⊢;have Sq:d2≠d:=(bj Pl.hd n2).symm;apply#[d,_,s2 _ _ Pl.hd,?_];apply#[_,Z,d,_,Z,s2 _ _ Pl.hd,λv hv=>?_];let#[s3,qk]:=aA (o:=rY v d) hv;let e3:=s3 _ _ e2;let ji:=s2.trans s3;generalize upd H6 v (rY v d)=H7 at s3 qk e3 ji ⊢;apply#[v,d,_,Z,qk,ji _ _ Pl.hd,λo=>?_]
 let J5:bI:=λi σ H'=>∃(v2 v4:aF),σ=[some (.ref g),some (.ref d),v2,some (.ref d2),v4]/\Fz d o (b_ (qs.map (·.1)) f) H H'/\H' d2\.dK (bB (aD hs) λh=>.int (ld f ((qs.take i).map d9) h))
 apply RT J5 #[none,none,Z,Fz.Bo ji,by rw[ax Sq];exact e3] (λi σ H' _ ⟨_,_,_,z,_⟩=>z.at_) ?_ ?_
 ·rintro i ky x σ H8 hx ⟨v2,v4,rfl,fz,e8⟩ t ht;let#[n,hn,rfl,rfl]:=xk hx
  have hi:i<qs.length:=by
   have:=(cq.mp hn).1;rwa [ao] at this
  have hq:qs[i]? = some (qs[i]'hi):=dB hi
  have en:n=(qs[i]'hi).1:=by
   rw[dR,hq] at hn;exact (eK hn).symm
  have fm:f n∈aD hs:=(fG hs).mem_iff.mpr (Pl.at_ n (cj hn));generalize qs[i]'hi=q at hq en;let s8:=aa.new (o:=.tup [.str n,.str (f n)]) ht;let CB:=fz.step s8;let e9:=s8 _ _ e8;have et:upd H8 t (.tup [.str n,.str (f n)]) t\.tup [.str n,.str (f n)]:=ay;show j0 _ _ _ _ _ (upd H8 t (.tup [.str n,.str (f n)])) _;generalize upd H8 t (.tup [.str n,.str (f n)])=H9 at s8 CB e9 et ⊢;apply#[t,_,Z,.of et,Z,_,_,Z,_,_,Z,Z,?_];let G9:=CB.Az Pl.hd Pl.G Pl.rO;let#[dx,dw,dy,vs,cE,h1,h2,h3,h4,h5,m1,m2,m3,m4,m5]:=id G9.ex;have qm:(cb p dw dy).lookup ("weight":Str)=none:=xp _ _ _ Z0 Z0 Z0;apply#[_,Z,_,Z,d2,.int (ld f ((qs.take i).map d9) (f n)),Z,?_,_,Z,g,dx,_,Z,h1,qm,_,Z,g,p,.str n,some n,hs,ts,qs,fp,Z,G9,Pl.nd,Z,.inl #[q,cj hq,dQ some en,?_]]
  ·rw[<- ES (g:=λh=>V.int (ld f ((qs.take i).map d9) h)) fm];exact .k (k:=Sum.inr (f n)) e9
  apply#[_,_,Z,Z,_,Z,_,Z,d2,_,Z,.k (k:=Sum.inr (f n)) e9 (by rw[f_];omega),?_];apply#[_,_,Z,CB.put n2 Sq,?_];rw[ay,Qv fm];congr 2;apply EV λm _=>?_
  have e5:(qs.take (i+1)).map d9=(qs.take i).map d9++[d9 q]:=by
   rw[iw,hq,bY];rfl
  rw[e5,V_];show (if m=f n then V.int (ld f ((qs.take i).map d9) (f n)+q.2.1) else V.int (ld f ((qs.take i).map d9) m))=V.int (if m=f q.1 then _ else _);rw[<- en];by_cases z:m=f n
  ·rw[aB z,aB z,z];rfl
  rw[au z,au z]
 rintro σ H8 ⟨v2,v4,rfl,fz,e8⟩;apply#[o,fz.at_,?_];rw[f_,ao,dz] at e8;exact#[_,Z,k d2 _ (fz.jP Pl.hd) n2 (by rw[ax Sq];exact e8)]
end
end Ev
namespace L2
open PySem PySem.Spec PyProof.Rows PySem.W
theorem gX_{d:Addr}{o:Obj}{kvs:List (Key × V)}{g:TG}{tc:TT}{te:TE}{own:Nat}{fv:List aF}{dec:V->Hp->List aF->Prop}{D:Addr}{H:Hp}{Q:VK}{kj:St}(rF:kj=List.replicate own none++fv)(G:DI g own fv dec)(Pv:dH)
  (h0:Pv 0 [] (upd H D (.lst []))) (hl:∀i out H',i<=kvs.length->Pv i out H'->H' d\.frz o (.dK kvs)) (hd:∀out H',Pv kvs.length out H'->Q (.ref D) H')
  (Co:∀i k x out H',kvs[i]? = some (k,x)->Pv i out H'->∀t,H' t=none->∃o3,dec (.ref t) (upd H' t (.tup [kV k,x])) o3/\o3.length=own/\∀Nx:Hp->Prop,(∀jT H2,Pv (i+1) jT H2->Nx H2)->
   tc (o3++fv) (upd H' t (.tup [kV k,x])) λb H4=>if b=true then te (o3++fv) H4 λy H5=>∃fu,H5 D\.lst fu/\fu.length<sizeLine/\Nx (upd H5 D (.lst (fu++[y]))) else Nx H4) :
  AL (Itm d o kvs) g tc te kj D H Q:=by
 apply zk rF G kvs.length Pv h0 (λout H' p=>#[#[hl _ _ _ (bq _) p,bq _],hd out H' p]) λi out H' hi p=>?_;let q:=hl i out H' (Nat.le_of_lt hi) p;apply#[#[q,hi],λx H2 y=>?_];let#[t,k,v,rfl,ht,hx,rfl]:=y;exact Co i k v out H' hx p t ht
inductive uY (xs:ai) (H:Hp) (Q:VK):Prop
 |mk:∀a kvs,xs=[.ref a]->Rd H a (.dK kvs)->(∀p,H p=none->Q (.ref p) (upd H p (.dK kvs)))->uY xs H Q
variable{X:Cx}
theorem Zp:gD X (.type "dict") uY:=by
 intro pins s σ H xs us Q I r h;let#[a,kvs,rfl,hd,q]:=h;let#[u,rfl,ru]:=vals1 r;cases ru;exact jb_ I hd λp s' hp I'=>#[.ref p,_,I',Z,q p hp]
inductive uU (K:af) (x:V) (y:V) (H:Hp) (Q:VK):Prop
 |mk:∀a b xs,x=.ref a->y=.ref b->eG K H a xs->eG K H b []->Q (.bl (!xs.isEmpty)) H->uU K x y H Q
theorem Ms(hu:X.A.units+0+1<cLine):eQ X (compareOp .NotEq) (uU X.K):=by
 intro pins s σ H x y v u Q I rx ry h;let#[a,b,xs,rfl,rfl,t,t',hq]:=h;cases xs with
 |nil=>exact Ql fQ hu pins s σ H (.ref a) (.ref b) v u Q I rx ry #[[],[],#[a,[],Z,t,.nil],#[b,[],Z,t',.nil],hq]
 |cons z zs=>
  cases rx;cases ry;let#[us,r,pl,_]:=I.list t;let#[vs,r',yl,_]:=I.list t';let l1:=r.length;let l2:=r'.length;exact Na.iM pl.isList yl.isList (by simp only[dG,bne_iff_ne];simp at l1 l2;omega) Z1 #[.bl true,H,I,Z,hq]
end L2
namespace Ev
open PySem L2
def gZ(a n:Int):Int:=a / (Int.gcd a n:Int) * n
variable{n:Int}
theorem V9{a:Int}(ha:0<a)(hn:0<n):gZ a n=(Int.lcm a n:Int):=by
 let#[p,rfl]:=qI (i5 ha);let#[q,rfl]:=qI (i5 hn);show ((p:Int) / ((Nat.gcd p q:Nat):Int)) * (q:Int)=((Nat.lcm p q:Nat):Int);rw[<- Int.natCast_ediv,<- Int.natCast_mul,Nat.div_mul_right_comm (Nat.gcd_dvd_left p q)];rfl
def ie(ns:List Int):Int:=ns.foldl gZ 1
theorem E3:∀(ns:List Int) (a:Int),0<a->(∀n∈ns,0<n)->0<ns.foldl gZ a/\∀x:Int,0<=x->(ns.foldl gZ a ∣ x ↔ a ∣ x/\∀n∈ns,n ∣ x)
 |[],a,ha,_=>#[ha,λx _=>by simp]
 |n::ns,a,ha,h=>by
  let hn:=h n cZ;let e:=V9 ha hn
  have p:0<gZ a n:=by
   rw[e];have:=Nat.lcm_pos (m:=a.natAbs) (n:=n.natAbs) Z1 Z1;have:0<Int.lcm a n:=this;omega
  let#[h1,h2]:=E3 ns (gZ a n) p λm hm=>h m (dJ _ hm);apply#[h1,λx hx=>(h2 x hx).trans ?_];let#[z,rfl]:=qI hx;rw[e,Int.natCast_dvd_natCast,Int.lcm_dvd_iff];constructor
  ·rintro⟨⟨q1,q2⟩,q3⟩
   exact#[q1,λm hm=>by
    rcases bX.mp hm with rfl|hm
    ·exact q2
    exact q3 m hm]
  rintro⟨q1,q2⟩;exact#[#[q1,q2 n cZ],λm hm=>q2 m (dJ _ hm)]
variable{ns:List Int}
theorem zg(h:∀n∈ns,0<n):0<ie ns:=(E3 ns 1 (by decide) h).1
theorem Mq(h:∀n∈ns,0<n)(hn:n∈ns):n ∣ ie ns:=
 (((E3 ns 1 (by decide) h).2 _ (i5 (zg h))).mp (Int.dvd_refl _)).2 n hn
theorem hk_{ms:List Int}(p:ns.Perm ms)(h:∀n∈ns,0<n):ie ns=ie ms:=by
 have h':∀n∈ms,0<n:=λn hn=>h n (p.mem_iff.mpr hn);apply Int.dvd_antisymm (i5 (zg h)) (i5 (zg h')) ?_ ?_
 ·exact ((E3 ns 1 (by decide) h).2 _ (i5 (zg h'))).mpr #[Int.one_dvd _,λn hn=>Mq h' (p.mem_iff.mp hn)]
 exact ((E3 ms 1 (by decide) h').2 _ (i5 (zg h))).mpr #[Int.one_dvd _,λn hn=>Mq h (p.mem_iff.mpr hn)]
theorem ln_(f:ag)(x:Str × Int)(ws:Xa)(h:Str):ld f (x::ws) h=(if f x.1=h then x.2 else 0)+ld f ws h:=by
 unfold ld;by_cases e:f x.1=h
 ·simp[e]
 simp[e]
def sumF(ns:ae)(L c:Str->Int):Int:=(ns.map λh=>L h * (L h * c h)).sum
theorem Vi{f:ag}{h:Str}:∀{ws:Xa},(∀x∈ws,0<=x.2/\x.2<=1000000000)->ld f ws h<=1000000000 * ws.length
 |[],_=>by
  unfold ld;simp
 |x::ws,p=>by
  let h1:=p x cZ;let h2:=Vi (f:=f) (h:=h) (ws:=ws) λy hy=>p y (dJ _ hy);rw[ln_,iG];by_cases z:f x.1=h
  ·rw[aB z];omega
  rw[au z];omega
def i8(hs:Xa):Int:=ie ((aD hs).map (strOf hs))
theorem bJ{hs:Xa}{ts:Xb}(G:Good hs ts){n:Str}(h:n∈aD hs):1<=strOf hs n/\strOf hs n<=1000:=(G.aN _ (zj ((fG hs).mem_iff.mp h))).2
variable{i:Nat}
variable{fd:Ad}
section v
theorem yc:bx ["numbers","found","number"] ["numbers"] (ba NY):=bH
def xV(K:af):Sp:=λvs H Q _=>∃(l:Addr) (ns:List Int),vs=[.ref l]/\eG K H l (ns.map V.int)/\(∀n∈ns,1<=n/\n<=1000)/\Q (.int (ie ns)) H
theorem XB(h:ns[i]? = some n):ie (ns.take (i+1))=gZ (ie (ns.take i)) n:=by
 unfold ie;rw[iw,h,List.foldl_append];rfl
theorem ZF{y:V}(h:(ns.map V.int)[i]? = some y):∃n,ns[i]? = some n/\y=.int n:=by
 rw[dR] at h;cases e:ns[i]? with
 |none=>rw[e] at h;cases h
 |some n=>rw[e] at h;exact#[n,Z,(eK h).symm]
theorem mD_{f:Addr}(F:bp K "least_multiple" "least_multiple" NY f fd)(cG:!br 1 "greatest_divisor" sQ FM):!aj aZ 2 f fd ["numbers"] (xV K):=by
 exists F.bG yc;let#[l,ns,rfl,hl,b,k]:=h;refine' #[_,ak ?s1 (ak ?s2 (aE ?s3)),?kk]
 case s1=>exact aO 1 yc.nd aI
 case s2=>exact eE dM Z (dA (pv 0)) (bN 2 yc.nd) (aE (aO 1 yc.nd (bw jI (bw vR (pv 1) (aX cG hr %[1,2|0])) (pv 2))))
 case s3=>exact bo (pv 1)
 let J4:bI:=λi σ H'=>H'=H/\∃(v2:aF),σ=[some (.ref l),some (.int (ie (ns.take i))),v2]
 apply#[_,Z,l,Z,#[_,hl],fY (K:=K) (a:=l) (xs:=ns.map V.int) J4 #[Z,none,Z] (λi σ H' _ ⟨e,_⟩=>by rw[e];exact hl) ?_ ?_]
 ·rintro i y σ H' hy ⟨rfl,v2,rfl⟩;let#[n,hn,rfl]:=ZF hy;let bn:=b n (cj hn)
  let p:=zg (ns:=ns.take i) λm hm=>by
   have:=b m (List.take_subset _ _ hm);omega
  apply#[_,Z,_,Z,_,Z,_,_,Z,i5 p,by omega,_,_,Z,Z,mG_ Z1 (Int.le_trans bn.2 (by decide)),_,Z,_,_,Z,Z,.inr #[by omega,by omega],Z,some (.int n),?_];rw[XB hn];rfl
 rintro σ H' ⟨rfl,v2,rfl⟩;apply#[_,Z,?_];rw[ao,dz];exact k
theorem Bv:bx ["web"] ["web"] (ba uz):=bH
inductive nE (K:af) (C:Addr) (vs:ai) (H:Hp) (Q:VK) (E:XK):Prop
 |mk:∀(p:Addr) (hs:Xa) (ts:Xb) (fp:az),vs=[.ref p]->hE K C H p hs ts fp->Good hs ts->(∀H',aa H H'->Q (.int (i8 hs)) H')->nE K C vs H Q E
theorem lc_{f CW:Addr}(F:bp K "multiple_of_strengths" "multiple_of_strengths" uz f fd)(TW:Txt K mg CW)(cL:!br 2 "least_multiple" ["numbers"] (xV K))(cH:!bF CW 1 "hands" iY (EN K CW))(cS:!bF CW 2 "strength" kE (E4 K CW)):!aj aZ 3 f fd ["web"] (nE K CW):=by
 exists F.bG Bv;let#[p,hs,ts,fp,rfl,W,G,k]:=h;let sz:=cc;let nl:=G.eU;let h8:=G.h8;refine' #[_,aE (bo (aX cL hr %[i4 ["hand","web"] 1 [0] (dA (AS cH TW.cl (hr.mono (by decide)) (pv 0))) (λfp s H=>e_ (i:=0) (show (["hand","web"]:ae).Nodup by decide +kernel) Z (Or.inl Z)) (λfp s H=>iH) (λfp s H=>?e1)|0])),?kk]
 case e1=>exact fX cS TW.cl hr (pv 1) %[0|0]
 let#[gm,d1,l2,d3,mB,as,ef,w1,_]:=id W.ex;apply#[_,Z,p,gm,_,Z,w1,ka _ _ _ Z0 Z0 Z0,p,hs,ts,fp,Z,W,λlh ig=>?_];let#[s1,e1]:=aA (o:=.lst ((aD hs).map V.str)) ig;generalize upd H lh (.lst ((aD hs).map V.str))=H1 at s1 e1 ⊢;apply#[lh,Z,#[_,.of e1],λD hD=>?_]
 let J3:dH:=λi out H'=>aa H1 H'/\H' D\.lst out/\out=(((aD hs).take i).map (strOf hs)).map V.int
 apply mU (own:=1) (fv:=[some (.ref p)]) (xs:=(aD hs).map V.str) Z ee J3 #[aa.new hD,ay,Z] (λi out H' _ ⟨sm,_,_⟩=>.of (sm _ _ e1)) (λout H5 ⟨sm,yN,eo⟩=>?_) (λi y out H' hy ⟨sm,eN,eo⟩=>?_)
 ·rw[ao,dz] at eo;rw[eo] at yN;apply#[D,_,Z,.of yN,λn hn=>?_,k H5 (s1.trans sm)];let#[m,hm,rfl]:=bh.mp hn;exact bJ G hm
 let#[n,hn,rfl]:=i0 hy;have hi:i<(aD hs).length:=(cq.mp hn).1;apply#[_,Z,Z,λNx hN=>dW ?_];let W':=(W.same s1).same sm;let#[gm,d1,l2,d3,mB,as,ef,w1,_]:=id W'.ex;apply#[_,Z,p,gm,_,Z,w1,ka _ _ _ Z0 Z0 Z0,_,Z,p,n,strOf hs n,hs,ts,fp,Z,W',G.qo,zj ((fG hs).mem_iff.mp (cj hn)),?_];apply#[out,eN,by rw[eo,ao,ao,cX];omega,hN _ _ #[fF sm hD,ay,?_]];rw[eZ hn,bY,bY,eo];rfl
theorem Jj:bx ["goods","placed","multiple","found","hand","load"] mM (ba QI):=bH
def oM(hs:Xa)(qs:aC)(f:ag)(h:Str):Int:=ld f (qs.map d9) h * (i8 hs / strOf hs h)
inductive MW (K:af) (CG CW:Addr) (vs:ai) (H:Hp) (Q:VK) (E:XK):Prop
 |mk:∀(g p d:Addr) (hs:Xa) (ts:Xb) (qs:aC) (fp:az) (f:ag),vs=[.ref g,.ref d]->xc K CG CW H g p d hs ts qs fp f->(∀q∈qs,0<=q.2.1/\q.2.1<=1000000000)->(∀d' H',aa H H'->H d'=none->H' d'\.dK (bB (aD hs) λh=>.int (oM hs qs f h))->Q (.ref d') H')->MW K CG CW vs H Q E
theorem Ei{qs:aC}(wp:∀q∈qs,0<=q.2.1/\q.2.1<=1000000000)(cz:qs.length<64)(f:ag)(h:Str):0<=ld f (qs.map d9) h/\ld f (qs.map d9) h<=64000000000:=by
 have p:∀x∈qs.map d9,0<=x.2/\x.2<=1000000000:=λx hx=>by
  let#[q,hq,rfl]:=bh.mp hx;exact wp q hq
 let h1:=Vi (f:=f) (h:=h) p;rw[ao] at h1;exact#[lW_ λx hx=>(p x hx).1,by omega]
theorem ih_{f CG CW:Addr}(F:bp K "levels_at" "levels_at" QI f fd)(T:eR K CG)(TW:Txt K mg CW)(cL:!br 3 "loads_at" mM (IX K CG CW))(cM:!br 3 "multiple_of_strengths" ["web"] (nE K CW))(cS:!bF CW 2 "strength" kE (E4 K CW)) :
  aj P w K mg base aZ 4 f fd mM (MW K CG CW):=by
 exists F.bG Jj;let#[g,p,d,hs,ts,qs,fp,f,rfl,Pl,wp,k]:=h;let hu:=eO hr;let sz:=cc;have vv:aY 2 _:=hr.mono (by decide);refine' #[_,?r0,?kk]
 case' r0=>refine' ak ?s0 (ak ?s1 (ak ?s2 ?r2))
 case s0=>exact aO 2 Jj.nd (aX cM hr %[eF (pv 0) Z|0])
 case s1=>exact aO 3 Jj.nd Dv
 case' s2=>refine' eE dM Z ?i2 ?g2 (aE ?b2)
 case i2=>exact MH (IM (aX cL hr %[0,1|0]))
 case g2=>exact ju Z (cU (bN 4 Jj.nd) (cU (bN 5 Jj.nd) iA))
 case b2=>exact rW hu (pv 3) (pv 4) (bw jI (pv 5) (bw vR (pv 2) (fX cS TW.cl vv (eF (pv 0) Z) %[4|0]))) Z
 case r2=>exact aE (bo (pv 3))
 let nl:=Pl.Gd.eU;let h8:=Pl.Gd.h8;let#[dx,dw,dy,vs,cE,h1,h2,_]:=id Pl.G.ex;apply#[_,Z,g,CG,dx,_,_,Z,h1,T.cl,T.nW,qE _ _ _,p,hs,ts,cE,Z,h2,Pl.Gd,λH0 s0=>?_];intro d2 hd2;let s1:=s0.trans (aa.new (o:=.dK []) hd2);have e1:upd H0 d2 (.dK []) d2\.dK []:=ay;have n2:H d2=none:=s0.free hd2;show rg _ _ _ _ (upd H0 d2 (.dK []));generalize upd H0 d2 (.dK [])=H1 at s1 e1 ⊢;have T7:xc K CG CW H1 g p d hs ts qs fp f:=#[Pl.G.same s1,Pl.Gd,Pl.rO,s1 _ _ Pl.hd,Pl.at_,Pl.nd,Pl.cz];apply#[_,Z,_,Z,g,p,d,hs,ts,qs,fp,f,Z,T7,λdl H2 s2 LA e2=>?_];apply#[dl,_,Z,e2,λv hv=>?_];let#[s3,qk]:=aA (o:=rY v dl) hv;let e3:=s3 _ _ e2;let jh:=s2.trans s3;generalize upd H2 v (rY v dl)=H3 at s3 qk e3 jh ⊢;have jm:H dl=none:=s1.free LA;have ZK:d2≠dl:=bj e1 LA;apply#[v,dl,_,Z,qk,e3,λo=>?_]
 let J2:bI:=λi σ H'=>∃(v4 v5:aF),σ=[some (.ref g),some (.ref d),some (.int (i8 hs)),some (.ref d2),v4,v5]/\aa H H'/\H' dl\.frz o (.dK (yC hs qs f))/\H' d2\.dK (bB ((aD hs).take i) λh=>.int (oM hs qs f h))
 apply RT J2 #[none,none,Z,fF (s1.trans jh) jm,ay,by rw[ax ZK];exact jh _ _ e1] (λi σ H' _ ⟨_,_,_,_,z,_⟩=>z) ?_ ?_
 ·rintro i ky x σ H8 hx ⟨v4,v5,rfl,s8,f8,e8⟩ t ht;let#[n,hn,rfl,rfl]:=xk hx;have hi:i<(aD hs).length:=(cq.mp hn).1;have nm:n∈hs.map (·.1):=(fG hs).mem_iff.mp (cj hn);let sm:=zj nm;let sg:=bJ Pl.Gd (cj hn);let lo:=Ei wp Pl.cz f n;let ss:=aa.new (o:=.tup [.str n,.int (ld f (qs.map d9) n)]) ht;let s9:=s8.trans ss;let e9:=ss _ _ e8;let f9:=ss _ _ f8;have et:upd H8 t (.tup [.str n,.int (ld f (qs.map d9) n)]) t\.tup [.str n,.int (ld f (qs.map d9) n)]:=ay;show j0 _ _ _ _ _ (upd H8 t (.tup [.str n,.int (ld f (qs.map d9) n)])) _;generalize upd H8 t (.tup [.str n,.int (ld f (qs.map d9) n)])=H9 at ss s9 e9 f9 et ⊢;apply#[t,_,Z,.of et,Z,_,_,Z,_,_,Z,Z,?_];let G9:=Pl.G.same s9;let#[dx,dw,dy,vs,cE,h1,h2,h3,h4,h5,m1,m2,m3,m4,m5]:=id G9.ex;let#[gm,d1,l2,d3,mB,as,ef,w1,_]:=id h2.ex;have iQ:(dj d1 l2 d3).lookup ("strength":Str)=none:=ka _ _ _ Z0 Z0 Z0;apply#[_,Z,_,Z,_,Z,g,CG,dx,_,_,Z,h1,T.cl,T.nW,qE _ _ _,p,gm,_,Z,w1,iQ,_,Z,p,n,strOf hs n,hs,ts,cE,Z,h2,Pl.Gd.qo,sm,?_];apply#[_,_,Z,Z,#[by omega,by omega],_,_,Z,Z,.inl #[by omega,by omega],_,Z,_,Z,d2,_,Z,.k (k:=Sum.inr n) e9 (by rw[f_,cX];omega),?_];apply#[_,_,Z,fF s9 n2,by rw[ax ZK.symm];exact f9,?_];rw[ay,eZ hn,L9 (Jn Pl.Gd.sE hn)];congr 2;apply EV λm _=>?_;by_cases z:m=n
  ·subst z;simp[oM]
  simp[z]
 rintro σ H8 ⟨v4,v5,rfl,s8,f8,e8⟩;rw[f_,dz] at e8;exact#[_,Z,k d2 H8 s8 n2 e8]
end
end Ev
namespace L2
open PySem PySem.Spec PyProof.Rows
section v
section
variable{N:ae}{qual:Str}{scope:Scope}{f:Addr}{cd:Aa}{A:Ag}{outer:List Env}{s:Ab}{H:Hp}{E:XK}
end
end
open PySem.Calls PySem.W
section
variable{M:Model}{A:Ag}{E:Aa->Ab->Prop}{s:Ab}{base:Heap}{env:Env}{outer:List Env}{L e:Addr}{cls a0:Aa}{Q:Unit->Ab->Prop}
end
section
variable{prog:Ae}{w:Af}{A:Ag}{E:Aa->Ab->Prop}{h:Heap}{g:Array GenState}{d:Drawn}{t:Nat}{os:OsState}{nm q:Str}{C N f:Addr}{bs bm ZY:aq}{hdct:Bool}{sn:ae}{sub:aq}{ab:Bool}{col:Option Bool}{dd:Option Addr}{k0 k1 k2 k3 k5:Option Aa}{B newId O3:String}{K:af}{rest:aq}
end
open Builtin Builtin.ObjectAttr
def CM(C CE:Addr):aq:=[.ref C,.ref CE,.type "ValueError",.type "Exception",.type "BaseException",.type "object"]
section
variable{prog:Ae}{w:Af}{A:Ag}{E:Aa->Ab->Prop}{s:Ab}{K:af}{x C CE:Addr}{ox:Obj}{od:Option Obj}{name:Str}{tk:Tok}{v:Aa}{cd:ClassData}
end
def CN(K:af)(C:Addr)(ZY:aq)(newId:String):Bool:=
 match K.lookup C with
 |some ⟨.type "type",_,.cls cd,sl⟩=>
  match cd.mro,sl.toList with
  |.ref C'::bm,[_,_,_,_,some (.builtin n),_]=>C' == C&&n == newId&&!cd.hasDel&&tailIn K ZY bm&&nsOkIn K cd.ns
  |_,_=>false
 |_=>false
def Ss(K:af)(C CE:Addr):Bool:=
 match clsIn K C with
 |some cd=>cd.mro == CM C CE&&cd.hasDict
 |none=>false
structure ExO (K:af) (C CE:Addr):Prop where
 kx:Ub K C
 ex:CN K C bmV "ValueError.__new__"=true
 es:findIn K (.ref C) "__setattr__"\some (.builtin "object.__setattr__")
 cl:Ss K C CE=true
structure ExF (K:af) (C:Addr) (f:Str):Prop where
 tk:takerIn K C f\none
 fd:findIn K (.ref C) f\none
structure ExB (K:af) (CE:Addr):Prop where
 sp:specialIn K (.ref CE) "__getattribute__"\some (.builtin "type.__getattribute__")
 rd:readsIn K CE (.type "type")=true
 fc:findCls K (.ref CE) (.type "type") "__init__"\.val (.builtin "ValueError.__init__")
section
variable{P:Ae}{w:Af}{H:Hp}{h:Heap}{e C a0 d:Addr}{dd:Option Addr}{fs:List (Str × V)}
end
section
variable{X:Cx}{C CE:Addr}{x f:Str}{p apos pos pos':Pos}{o e value:Expr}{es:List Expr}{ta tv:TE}{t:TA}
end
section
variable{X:Cx}{pins:List (Addr × Obj)}{σ:St}{H H':Hp}{s s1:Ab}{B h:Heap}{a:Addr}{cls a0:Aa}{dd:Option Addr}{E:XK}
end
section
variable{P:Ae}{w:Af}{K:af}{mg:Str->Option Aa}{base:Heap}{N:ae}{qual:Str}{scope:Scope}{f:Addr}{cd:Aa}{A:Ag}{outer:List Env}{s:Ab}{H:Hp}{E:XK}
end
section
variable{X:Cx}{x:Str}{C f:Addr}{fd:Ad}{ps:ae}{sp:Sp}{k:Nat}{np dk pos:Pos}{e:Expr}{es:List Expr}{t:TA}{E:XK}
end
section
variable{X:Cx}{i:Nat}{x n:Str}{D C:Addr}{np G7 pos:Pos}{Jo:Stmt}{zP body:List Stmt}{tb:XK->TS}{ts:TS}{rest:List ExceptHandler}
end
section
variable{P:Ae}{w:Af}{K:af}{mg:Str->Option Aa}{base:Heap}{N:ae}{qual:Str}{scope:Scope}{f:Addr}{cd:Aa}{A:Ag}{outer:List Env}{s:Ab}{H:Hp}{E:XK}
end
section
variable{X:Cx}{i:Nat}{x x2 n:Str}{D C D2 C2:Addr}{np G7 np2 Wt pos:Pos}{Jo c₀:Stmt}{zP NJ body:List Stmt}{tb:XK->TS}{ts ts2:TS}
end
section
variable{X:Cx}{i:Nat}{x n:Str}{D:Addr}{ok:Addr->Prop}{np G7 pos:Pos}{Jo:Stmt}{zP body:List Stmt}{tb:XK->TS}{ts:TS}
end
section
variable{X:Cx}{k:Nat}{ps:ae}{x:Str}{p pos:Pos}{e:Expr}{es:List Expr}{tn:TE}{t:TA}
end
structure Jk (ps dS:ae) (scope:Scope):Prop where
 nd:(ps++dS).Nodup
 kind:scope.kind=.function
 co:scope.isCoroutine=false
 gen:scope.isGenerator=false
 par:∀p∈ps,scope.names.lookup p\.local
 fv:∀x∈dS,scope.names.lookup x\.free
 all:∀x,scope.names.lookup x\.free->x∈dS
 vd:∀x∈scope.names,x.2≠.cell
def En(CX:wF)(P:Ae)(w:Af)(K:af)(mg:Str->Option Aa)(base:Heap)(N:ae)(qual:Str)(scope:Scope)(f:Addr)(cd:Aa)(cl:List (Str × Addr))(A:Ag)(outer:List Env)(s:Ab)(H:Hp)(E:XK):Cx where
 prog:=P
 w:=w
 K:=K
 mg:=mg
 base:=base
 A:=A.deeper (envX qual scope s.heap.objs.size f cd cl)
 N:=N
 dD:=s
 mr:=H
 env:=envX qual scope s.heap.objs.size f cd cl
 outer:=outer
 stack:=envX qual scope s.heap.objs.size f cd cl::outer
 ex:=[]
 calm:=true
 fn:=λ_=>false
 pn:=[]
 xe:=λe s'=>wpAny (model P w) (A.deeper (envX qual scope s.heap.objs.size f cd cl)) (leaving (envX qual scope s.heap.objs.size f cd cl) e) (λ_ sr=>CX outer H s E e sr) (λe' sr=>CX outer H s E e' sr) s'
theorem Ys{x:Str}{u:Aa}:∀{l:List (Str × Aa)},(l.map (·.1)).Nodup->(x,u)∈l->l.lookup x\u
 |(y,v)::l,nd,h=>by
  let n:=r_.mp nd;rcases bX.mp h with e|h
  ·cases e;simp[List.lookup]
  have ne:x≠y:=λz=>n.1 (by rw[<- z];exact bh.mpr #[_,h,Z]);have:(x == y)=false:=⇑ne
  rw[v_,this];exact Ys n.2 h
theorem Xe:∀(ps:ae) (us:aq),((ps.zip us).map (·.1)).Sublist ps
 |[],_=>by simp
 |_::_,[]=>by simp
 |p::ps,u::us=>by
  simp only[List.zip_cons_cons,eJ];exact (Xe ps us).cons₂ p
variable{ps:ae}{us:aq}{x:Str}
theorem dA_{i:Nat}{u:Aa}(nd:ps.Nodup)(h1:ps[i]? = some x)(h2:us[i]? = some u):(ps.zip us).reverse.lookup x\u:=by
 apply Ys ?_ (List.mem_reverse.mpr (cj (i:=i) ?_))
 ·rw[List.map_reverse];apply (List.reverse_perm _).nodup_iff.mpr (nd.sublist ?_);exact Xe ps us
 rw[List.getElem?_zip_eq_some];exact#[h1,h2]
structure Mc (dS:ae) (cl:List (Str × Addr)) (gs:ai) (h:Heap):Prop where
 inj:∀x y c,cl.lookup x\c->cl.lookup y\c->x=y
 has:∀x∈dS,∃c,cl.lookup x\c
 all:∀x c,cl.lookup x\c->∃v,h.IsCell c v
 is:∀(i:Nat) x v,dS[i]? = some x->gs[i]? = some v->∃c u,cl.lookup x\c/\RelV v u/\h.IsCell c (some u)
variable{h':Heap}{c:Addr}
theorem IsCell.keeps{h:Heap}{v:Option Aa}(x:h.IsCell c v)(k:∀o,h.get? c\o->h'.get? c\o):h'.IsCell c v:=let #[o,e,d]:=x;#[o,k o e,d]
variable{CX:wF}{w:Af}{mg:Str->Option Aa}{base:Heap}{dS:ae}{f:Addr}{cd:Aa}{A:Ag}{outer:List Env}{s:Ab}{E:XK}{gs:ai}
theorem ld_{P:Ae}{K:af}{qual:Str}{scope:Scope}{cl:List (Str × Addr)}{H:Hp}{vs:ai}{h1:Heap}{tk:Nat}(S:Jk ps dS scope)(hd:A.handled=none)(e0:jz P w K mg base A outer s H)(hl:vs.length=ps.length)(hg:gs.length=dS.length)(r:Vals vs us)(C:Mc dS cl gs s.heap)(fc:∀x c,cl.lookup x\c->H c=none)(ns:h1.Ns s.heap.objs.size λx=>(ps.zip us).reverse.lookup x)(k:∀b o,s.heap.get? b\o->h1.get? b\o) :
  Inv (En CX P w K mg base (ps++dS) qual scope f cd cl A outer s H E) [] (vs.map some++gs.map some) H { s with heap:=h1,toks:=tk }:=by
 have yt:∀b:Addr,b∉(En CX P w K mg base (ps++dS) qual scope f cd cl A outer s H E).ex:=λb z=>absurd (show b∈([]:az) from z) Z2
 apply#[#[e0.mod,S.kind,Z,Z,bq _,C.inj,λy hy=>?_,λy c h=>(by cases h),λ_=>hd,Around.frames_deeper e0.frames,.inr #[Z,Z],λb z=>absurd z (yt b),e0.bs,e0.vQ,λb _ _=>yt b,λb z=>absurd z (yt b),e0.gA,e0.yP],
  rfl,e0.bare,Un.kept k,#[_,ns,λi y v mJ h2 h3=>?_],λy c h=>?_,e0.aN.fresh (bq _),fc,λp hp=>absurd (show p∈([]:List (Addr × Obj)) from hp) Z2,e0.aN.kept k,?_]
 ·have hy:scope.names.lookup y\.cell∨scope.names.lookup y\.free:=hy;rcases hy with hy|hy
  ·exact absurd Z (S.vd _ (rX hy))
  exact C.has y (S.all y hy)
 ·have mJ:(ps++dS)[i]? = some y:=mJ;by_cases hi:i<ps.length
  ·rw[Dz hi] at mJ;rw[Dz (by simpa [hl] using hi),dR] at h2;let#[v',hv,e]:=DB.mp h2;cases e;let#[u,hu,rv]:=r.get hv;apply#[u,rv,.inl #[S.par y (cj mJ),?_]];have Li:ps.Nodup:=(List.nodup_append.mp S.nd).1;show (ps.zip us).reverse.lookup y\u;exact dA_ Li mJ hu
  rw[A7 Z1] at mJ;rw[A7 (by simp[hl];omega),dR,ao,hl] at h2;let#[v',hv,e]:=DB.mp h2;cases e;let#[c,u,e1,rv,ce]:=C.is _ _ _ mJ hv;exact#[u,rv,.inr #[.inr (S.fv y (cj mJ)),c,e1,IsCell.keeps ce λo e=>k _ _ e]]
 ·let#[v,ce]:=C.all y c h;exact#[v,IsCell.keeps ce λo e=>k _ _ e]
 show _=(ps++dS).length;rw[eA,eA,ao,ao,hl,hg]
variable{k:Nat}{c':Addr}
theorem kC_{P:Ae}{K:af}{qual:Str}{params:Arguments}{body:PySem.Expr}{scope:Scope}{pm lU:Aa}{cl:List (Str × Addr)}{H:Hp}{Q:VK}{vs:ai}{t:TE}(S:Jk ps dS scope)(hr:aY (k+1) A)(e0:jz P w K mg base A outer s H)(hf:s.heap.get? f\kla_obj "<lambda>" qual params body scope cl pm c' lU)(iT:s.heap.CodeRec (.ref c') qual)(hb:bindArgs (kla_fn "<lambda>" qual params body scope cl pm (.ref c') lU) #[us,[]]=pure (ps.zip us))(hl:vs.length=ps.length)(hg:gs.length=dS.length)(r:Vals vs us)(C:Mc dS cl gs s.heap)(fc:∀x c,cl.lookup x\c->H c=none)(ht:aY k (A.deeper (envX qual scope s.heap.objs.size f (.ref c') cl))->PE (En CX P w K mg base (ps++dS) qual scope f (.ref c') cl A outer s H E) body t)(hq:t (vs.map some++gs.map some) H Q) :
  codeAny (model P w) A (.call (.ref f) #[us,[]]) (CR CX outer P w H s Q E) s:=by
 have lim:s.heap.NoLimit:=e0.mod.nolimit.keeps λb o e=>(e0.bs b o e).1;apply kla_callFunE hr.depth hf Z S.co S.gen Z iT ?_;rw[hb];apply bR (wpAny_newFunctionEnv S.vd (λx hx=>?_) (λh1 ns sb=>?_) S.kind)
 ·exact S.par x.1 (List.of_mem_zip hx).1
 have k1:∀b o,s.heap.get? b\o->h1.get? b\o:=λb o e=>sb.extBut b o (eV (cK e)) (cO _ e);apply#[lim.keeps k1,?_];show codeAny _ _ (.expr body (envX qual scope s.heap.objs.size f (.ref c') cl)) _ _;let I:=ld_ (CX:=CX) (qual:=qual) (f:=f) (cd:=.ref c') (E:=E) (tk:=s.toks+(ps.zip us).length) S hr.hd e0 hl hg r C fc ns k1;apply kla_codeExpr (wpAny_mono (ht (hr.deeper _) [] _ _ H _ I hq) (λv s' hs=>?_) λe s' hs=>hs);let#[x,H',J,rv,q]:=hs;exact#[x,H',J.os,J.bare,J.base,J.aN,rv,q]
def lN(f:Addr)(qual:Str)(params:Arguments)(body:PySem.Expr)(scope:Scope)(cl:List (Str × Addr))(c':Addr):HO:=.ext λh=>∃pm lU,h.get? f\kla_obj "<lambda>" qual params body scope cl pm c' lU
def yZ(c':Addr)(qual:Str):HO:=.ext λh=>∃o vs t,h.get? c'\o/\o.data=.fields vs/\vs[1]? = some (.str qual t)
inductive zK (P:Addr) (qual:Str) (params:Arguments) (body:PySem.Expr) (scope:Scope) (pos:Pos) (cl:List (Str × Addr)) (H:Hp) (Q:VK):Prop
 |mk:∀ps,H P\.tbl ps->TriplesOk ps.toList->((codeAmong pos ps.toList=none/\∀c' f,H c'=none->H f=none->c'≠f->Q (.ref f) (upd (upd (upd H P (.tbl (ps++(List.toArray [rawInt pos.line,rawInt pos.col,.ref c'])))) c' (yZ c' qual)) f (lN f qual params body scope cl c')))∨∃c',codeAmong pos ps.toList\.ref c'/\∀f,H f=none->Q (.ref f) (upd H f (lN f qual params body scope cl c')))->zK P qual params body scope pos cl H Q
def FA(P:Addr)(qual:Str)(params:Arguments)(body:PySem.Expr)(scope:Scope)(pos:Pos)(cl:List (Str × Addr)):TE:=λ_ H Q=>zK P qual params body scope pos cl H Q
variable{X:Cx}{pos:Pos}
theorem VD{params:Arguments}{body:PySem.Expr}{scope:Scope}{cl:List (Str × Addr)}{P:Addr}(P7:defaultsOf params X.env=([],[]))(yM:closureFor scope X.env=pure cl)(Ax:X.env.code=.ref c)(C:CodeHd X.base c P)(vB:X.base.BuiltinsAt X.mg P) :
  PE X (.Lambda params body scope pos) (FA P (X.env.qual++"<lambda>") params body scope pos cl):=by
 intro pins s σ H Q I h;let#[ps,hP,ht,h]:=h;have Xj:s.heap.get? P\tabObj ps:=I.aN P _ hP
 have WM:H mainGlobals=none:=by
  let#[o,_,_,e,_]:=I.mod.glob;exact (I.bs _ _ e).2
 apply kla_eval P7 ?_;rcases h with⟨hn,q⟩|⟨c',hf,q⟩
 ·apply kla_makeFunction yM I.ok.glob (I.mod.glob.keeps I.bk) Ax (C.keeps I.bk) Xj ht hn (λz=>by rw[z,hP] at WM;cases WM) (vB.keeps I.bk) λc' lU h' tk hx PU dm Pq Wm=>?_;have fz:s.heap.objs.size<=h'.objs.size:=qJ PU (Nat.le_of_lt dm);have nc:H c'=none:=I.aN.fresh PU;have nf:H h'.objs.size=none:=I.aN.fresh fz;have cf:c'≠h'.objs.size:=eV dm;have Pc:P≠c':=bj hP nc;have Pf:P≠h'.objs.size:=bj hP nf
  have old:∀{b u},H b\u->b≠P->upd (upd (upd H P (.tbl (ps++(List.toArray [rawInt pos.line,rawInt pos.col,.ref c'])))) c' (yZ c' (X.env.qual++"<lambda>"))) h'.objs.size (lN h'.objs.size (X.env.qual++"<lambda>") params body scope cl c') b\u:=λ{b u} e n=>by
   rw[ax (bj e nf),ax (bj e nc),ax n];exact e
  have u_:∀{b u},H b\u->(∀ps,u≠.tbl ps)->b≠P:=λ{b u} e n z=>by
   rw[z,hP] at e;cases e;exact n _ Z
  have kp:∀b o,b≠P->s.heap.get? b\o->(h'.push (kla_obj "<lambda>" (X.env.qual++"<lambda>") params body scope cl ((X.mg "__name__").getD .none) c' lU)).get? b\o:=λb o n e=>cO _ (hx b o n e);apply#[.ref h'.objs.size,_,I.un (t':=tk) #[λb o e n _ _=>kp b o (λz=>by rw[z,hP] at n;cases n) e,λb o e n _ _=>#[o.slots,kp b o (λz=>by rw[z,hP] at n;cases n) e],λb o e n _=>?_,λb o e _=>?_,λb xs e=>old e (u_ e Z2),λb o u e=>old e (u_ e Z2),λb qs e=>?_] (λb u e=>?_),Z,q c' h'.objs.size nc nf cf]
  ·let lt:=cK e;rw[ax (eV (kG lt fz)),ax (eV (kG lt PU)),ax (λz=>by rw[z,hP] at n;cases n)];exact n
  ·by_cases z:b=P
   ·subst z;exact#[_,cO _ Wm]
   exact#[o,kp b o z e]
  ·by_cases z:b=P
   ·subst z;rw[hP] at e;cases e;exact#[_,by rw[ax Pf,ax Pc,ay]]
   exact#[#[],by rw[Array.append_empty];exact old e z]
  by_cases z1:b=h'.objs.size
  ·subst z1;rw[ay] at e;cases e;exact#[#[_,_,fI _ Z],#[_,fI _ Z],λh1 h2 ⟨pm,cv,e1⟩ k=>#[pm,cv,k _ e1]]
  rw[ax z1] at e;by_cases z2:b=c'
  ·subst z2;rw[ay] at e;cases e;let#[c2,oc,vs,t,ec,Hf,hd,hv]:=Pq;cases ec;exact#[#[oc,vs,t,cO _ Hf,hd,hv],#[_,cO _ Hf],λh1 h2 ⟨o,vs,t,e1,r⟩ k=>#[o,vs,t,k _ e1,r]]
  rw[ax z2] at e;by_cases z3:b=P
  ·subst z3;rw[ay] at e;cases e;exact cO _ Wm
  rw[ax z3] at e;apply (I.aN b u e).fo (λd v hd e1=>kp d v ?_ e1) (λd e1=>old e1 (u_ e1 Z2)) λd xs e1=>old e1 (u_ e1 Z2);rcases hd with rfl|hd
  ·exact z3
  exact u_ hd Z2
 apply kla_makeFunctionHit yM I.ok.glob (I.mod.glob.keeps I.bk) Ax (C.keeps I.bk) Xj ht hf (vB.keeps I.bk) λlU h' tk hk hsz=>?_;have nf:H h'.objs.size=none:=I.aN.fresh hsz;apply#[.ref h'.objs.size,_,I.laid (t':=tk) (λb o e=>cO _ (hk b o e)) hsz ?_,Z,q _ nf];exact#[#[_,_,fI _ Z],#[_,fI _ Z],λh1 h2 ⟨pm,cv,e1⟩ k=>#[pm,cv,k _ e1]]
variable{P:Ae}{N:ae}
theorem ym{K:af}{qual:Str}{scope:Scope}{cl:List (Str × Addr)}{H:Hp}:xi aZ (En aZ P w K mg base N qual scope f cd cl A outer s H E) E:=λ_ _ _ _ _ _ _ h=>h.elim
section
variable{cs:List (Addr × Obj)}{H H':Hp}{b:Addr}{o:Obj}{u:HO}
variable{P:Ae}{w:Af}{h:Heap}
end
section
variable{X:Cx}{pins:List (Addr × Obj)}{σ:St}{H:Hp}{s s':Ab}{cs:List (Addr × Obj)}
def jM(P:Ae)(w:Af)(K:af)(mg:Str->Option Aa)(base:Heap)(k:Nat)(qual:Str)(params:Arguments)(body:PySem.Expr)(scope:Scope)(ps dS:ae)(sp:ai->ai->Hp->VK->XK->Prop):Prop:=
 ∀(A:Ag) (outer:List Env) (s:Ab) (H:Hp) (f c':Addr) (pm lU:Aa) (cl:List (Str × Addr)) (us:aq) (vs gs:ai) (Q:VK) (E:XK),aY k A->jz P w K mg base A outer s H->s.heap.get? f\kla_obj "<lambda>" qual params body scope cl pm c' lU->s.heap.CodeRec (.ref c') qual->
  vs.length=ps.length->gs.length=dS.length->Vals vs us->Mc dS cl gs s.heap->(∀x c,cl.lookup x\c->H c=none)->sp vs gs H Q E->codeAny (model P w) A (.call (.ref f) #[us,[]]) (CR aZ outer P w H s Q E) s
theorem Ao{K:af}{qual:Str}{params:Arguments}{body:PySem.Expr}{scope:Scope}{sp:ai->ai->Hp->VK->XK->Prop}(S:Jk ps dS scope)(hb:∀pm c' lU cl us,us.length=ps.length->bindArgs (kla_fn "<lambda>" qual params body scope cl pm (.ref c') lU) #[us,[]]=pure (ps.zip us))(gz:∀(A:Ag) (outer:List Env) (s:Ab) (H:Hp) (f:Addr) (cd:Aa) (cl:List (Str × Addr)) (vs gs:ai) (Q:VK) (E:XK),aY k (A.deeper (envX qual scope s.heap.objs.size f cd cl))->sp vs gs H Q E->xi aZ (En aZ P w K mg base (ps++dS) qual scope f cd cl A outer s H E) E->
   ∃t,PE (En aZ P w K mg base (ps++dS) qual scope f cd cl A outer s H E) body t/\t (vs.map some++gs.map some) H Q):!jM (k+1) qual params body scope ps dS sp:=by
 intro A outer s H f c' pm lU cl us vs gs Q E hr e0 hf iT hl hg r C fc mG;let#[t,ht,hq]:=gz A outer s H f (.ref c') cl vs gs Q E (hr.deeper _) mG ym;exact kC_ S hr e0 hf iT (hb pm c' lU cl us (by rw[<- r.length];exact hl)) hl hg r C fc (λ_=>ht) hq
end
structure Nb (dS:ae) (cl:List (Str × Addr)) (cs:List (Addr × Obj)) (gs:ai):Prop where
 len:gs.length=dS.length
 inj:∀x y c,cl.lookup x\c->cl.lookup y\c->x=y
 has:∀x∈dS,∃c,cl.lookup x\c
 all:∀x c,cl.lookup x\c->∃o v,cs.lookup c\o/\o.data=.cell v
 is:∀(i:Nat) x v,dS[i]? = some x->gs[i]? = some v->∃c o u,cl.lookup x\c/\cs.lookup c\o/\o.data=.cell (some u)/\RelV v u
section
variable{X:Cx}{k:Nat}{x:Str}{p pos:Pos}{tn:TE}{qual:Str}{params:Arguments}{body:PySem.Expr}{scope:Scope}{dS ps:ae}{sp':ai->ai->Hp->VK->XK->Prop}{E:XK}
end
section
variable{X:Cx}{k:Nat}{x:Str}{p pos:Pos}{e:PySem.Expr}{es:List PySem.Expr}{ta:TA}{dS ps:ae}{sp:Sp}{f:Addr}{fd:Ad}{cl:List (Str × Addr)}{is:List Nat}
end
variable{a:Addr}{ts:az}{fd:Ad}
theorem iy_{K:af}{mb:Str->Option Aa}{fa:Addr}{sp:Sp}{bf:Ab}{vs:aq}{ns:List Int}(hT:∀T∈ts,K.lookup T=none)(eT:∀T∈ts,bf.heap.get? T\tabObj #[])(HK:∀T∈ts,isCodeTable bf.heap T)(KX:K.In bf.heap)(Cf:bf.heap.Ns mainGlobals mg)(hb:bf.heap.Ns builtinsNs mb)(hbb:∀x:Str,x≠"__name__"->mb x=bootBuiltins x)(PH:bf.heap.NoLimit)(hg:bf.gens=#[])(ha:bf.heap.get? a=some { cls:=.type "list",data:=.seq vs.toArray })(hi:IntsAre vs ns)(hl:ns.length<=sizeLine)(hr:aY k callerA)(vB:∃bm ob,mg "__builtins__"\.ref bm/\bm≠builtinsNs/\bf.heap.get? bm\ob/\ob.cls=.type "module"/\ob.dict\builtinsNs/\ob.data=.plain)(F:∀base:Heap,K.In base->base.Ns mainGlobals mg->(∀T∈ts,base.BuiltinsAt mg T)->!aj CX k fa fd [x] sp)(HL:∀(s:Ab) (u:Aa),BindsTo s fd #[[u],[]] [(x,u)])(mG:∀H:Hp,(∀T∈ts,H T\.tbl #[])->eG K H a (ns.map V.int)->sp [.ref a] H (λv _=>v=.bl true) λ_ _ _=>False)(Qi:∀H e s',CX [] H bf (λ_ _ _=>False) e s'->False) :
  codeAny (model P w) callerA (.call (.ref fa) #[[.ref a],[]]) (λr s'=>r=.ok (.ret (.bool true))/\OldK bf.heap s'.heap/\s'.os=bf.os/\AllBare s'.gens) bf:=by
 let rv:=YZ hi;let OQ:=hi.length
 have aT:∀{b},b∈ts->b≠a:=λ{b} hb z=>by
  have:=eT b hb;rw[z,ha] at this;cases this
 have core:∀H:Hp,(∀b,H b=none∨(b∈ts/\H b\.tbl #[])∨(b∉ts/\∃o xs,H b\.frz o (.lst xs)))->(∀T∈ts,H T\.tbl #[])->eG K H a (ns.map V.int)->gn P w H bf.heap->(∀b,H b≠none->b=a∨b∈ts)->(H a≠none->K.lookup a=none)->
   codeAny (model P w) callerA (.call (.ref fa) #[[.ref a],[]]) (λr s'=>r=.ok (.ret (.bool true))/\OldK bf.heap s'.heap/\s'.os=bf.os/\AllBare s'.gens) bf:=by
  intro H hO hHT hS aN hA hK;have j7:∀{b:Addr} {o:Obj},bf.heap.get? b\o->H b=none->(jt bf.heap H).get? b\o:=λe n=>iT_ e n
  have yt:∀{b:Addr} {o:Obj} {es:Array DictEntry} {ep:Nat},bf.heap.get? b\o->o.data=.dict es ep->H b=none:=λ{b o es ep} e d=>by
   cases q:H b with
   |none=>rfl
   |some u=>
    rcases hA b (by rw[q];simp) with e'|e'
    ·subst e';rw[ha] at e;cases e;have d':Data.seq vs.toArray _=Data.dict es ep:=d;cases d'
    rw[eT b e'] at e;cases e;cases d
  have Lg:∀{b:Addr} {m:Str->Option Aa},bf.heap.Ns b m->(jt bf.heap H).Ns b m:=λ{b m} ⟨o,es,ep,e,d,r⟩=>#[o,es,ep,j7 e (yt e d),d,r]
  have Xl:K.In (jt bf.heap H):=λb o e=>j7 (KX b o e) (by
   cases q:H b with
   |none=>rfl
   |some u=>
    rcases hA b (by rw[q];simp) with e'|e'
    ·subst e';rw[hK (by rw[q];simp)] at e;cases e
    rw[hT b e'] at e;cases e)
  have hB:∀T∈ts,(jt bf.heap H).BuiltinsAt mg T:=λT hTs=>by
   let#[bm,ob,h1,h2,h3,h4,h5,h6]:=vB
   have n1:bm≠mainGlobals:=λz=>by
    let#[o,es,ep,e,d,_]:=Cf;rw[z,e] at h3;cases h3;rw[d] at h6;cases h6
   have n2:∀{b},b∈ts->bm≠b:=λ{b} hb z=>by
    rw[z,eT b hb] at h3;cases h3;cases h6
   apply#[bm,ob,h1,h2,n1,n2 hTs,j7 h3 ?_,h4,h5,h6];cases q:H bm with
   |none=>rfl
   |some u=>
    rcases hA bm (by rw[q];simp) with e'|e'
    ·subst e';rw[ha] at h3;cases h3;cases h6
    exact absurd Z (n2 e')
  have hM:Mod K mg (jt bf.heap H):=#[Xl,Lg Cf,#[mb,Lg hb,hbb],let #[mc,h1,h2]:=PH;#[mc,Lg h1,h2]];have e0:jz P w K mg (jt bf.heap H) callerA [] bf H:=#[Z,hM,λb o e=>lF_ e,Nat.le_of_eq (iN_ _ _),trivial,λb hb=>absurd (show b∈([]:az) from hb) Z2,aN,.of_eq hg];apply codeAny_mono ((F _ Xl (Lg Cf) hB).run callerA [] bf H #[[.ref a],[]] [.ref a] [.ref a] _ _ hr e0 (HL bf (.ref a)) (.cons Z .nil) (mG H hHT hS)) λr s' h=>?_;cases r with
  |error e=>exact (Qi H e s' h).elim
  |ok fl=>
   cases fl with
   |next=>exact False.elim h
   |brk=>exact False.elim h
   |cont=>exact False.elim h
   |ret u=>
    let#[v,H',os,bare,un,Hd,r',q]:=h;have q':v=.bl true:=q;subst q';obtain rfl:u=Value.bool true:=r'
    have main:∀b o,bf.heap.get? b\o->s'.heap.get? b\o∨(b∈ts/\o=tabObj #[]/\∃more,s'.heap.get? b\tabObj (#[]++more)):=λb o e=>by
     cases q:H b with
     |none=>exact .inl (un.keep b o e q (by intro z;exact absurd (show b∈([]:az) from z) Z2) Z2)
     |some u=>
      rcases hO b with z|⟨zT,z⟩|⟨_,ob,xs,z⟩
      ·rw[q] at z;cases z
      ·rw[eT b zT] at e;cases e;let#[more,z]:=un.je b _ z;exact .inr #[zT,Z,more,Hd b _ z]
      let z2:=un.ij b ob _ z;let#[e1,_]:=aN b _ z;let#[e2,_]:=Hd b _ z2;rw[e] at e1;cases e1;exact .inl e2
    apply#[Z,#[λb o e=>?_,λb o e=>?_],os,bare]
    ·rcases main b o e with z|⟨zT,rfl,more,z⟩
     ·exact .inl z
     exact .inr (.inl #[HK b zT,Z,_,_,Z,z])
    rcases main b o e with z|⟨_,_,more,z⟩
    ·exact#[_,z]
    exact#[_,z]
 cases hk:K.lookup a with
 |some o=>
  let e:=KX a o hk;rw[ha] at e;cases e;apply core (λb=>if b∈ts then some (.tbl #[]) else none) (λb=>?_) (λT h=>aB h) (.inr #[_,vs.toArray,_,hk,Z,Z,Z,by rw[dG,OQ];exact hl,by simpa using rv]) (λb u z=>?_) (λb z=>?_) λz=>absurd (au λq=>aT q Z) z
  ·by_cases hb:b∈ts
   ·exact .inr (.inl #[hb,aB hb])
   exact .inl (au hb)
  ·by_cases hb:b∈ts
   ·let z':=(aB hb).symm.trans z;cases z';exact eT b hb
   let z':=(au hb).symm.trans z;cases z'
  ·by_cases hb:b∈ts
   ·exact .inr hb
   ·exact absurd (au hb) z
 |none=>
  have T2:∀{b:Addr},b∈ts->(λb=>if b∈ts then some (.tbl #[]) else if b=a then some (HO.frz { cls:=.type "list",data:=.seq vs.toArray } (.lst (ns.map V.int))) else none) b\.tbl #[]:=λ{b} hb=>aB hb;apply core (λb=>if b∈ts then some (.tbl #[]) else if b=a then some (.frz { cls:=.type "list",data:=.seq vs.toArray } (.lst (ns.map V.int))) else none) (λb=>?_) (λT h=>aB h) (.inl (.inr #[{ cls:=.type "list",data:=.seq vs.toArray },(au λq=>aT q Z).trans (aB Z)])) (λb u z=>?_) (λb z=>?_) λ_=>hk
  ·by_cases qw:b∈ts
   ·exact .inr (.inl #[qw,aB qw])
   by_cases hb:b=a
   ·exact .inr (.inr #[qw,_,_,(au qw).trans (aB hb)])
   exact .inl ((au qw).trans (au hb))
  ·by_cases qw:b∈ts
   ·let z':=(aB qw).symm.trans z;cases z';exact eT b qw
   by_cases hb:b=a
   ·let z':=((au qw).trans (aB hb)).symm.trans z;cases z';subst hb;exact#[ha,by rw[ao];exact hl,vs,_,rv,ha]
   let z':=((au qw).trans (au hb)).symm.trans z;cases z'
  by_cases qw:b∈ts
  ·exact .inr qw
  by_cases hb:b=a
  ·exact .inl hb
  exact absurd ((au qw).trans (au hb)) z
variable{T:Addr}
theorem gz_{K:af}(h:T∉K.map (·.1)):K.lookup T=none:=by
 induction K with
 |nil=>rfl
 |cons p K ih=>
  let#[b,o]:=p;simp only[eJ,bX,not_or] at h;rw[v_,show (T == b)=false by simpa using h.1];exact ih h.2
variable{n:Nat}
theorem tq{l:PySem.W.OpenLaw}{q:Ae}{loose:ae}{XP:(Str->Option Aa)->Heap->Prop}{d:DefRec}{K:Params->af}{as:az}{L8:∀P:Params,as=(K P).map (·.1)}{CX:Af->wF}{sp:Af->Sp}(hn:l.most\n)(Cg:n<=sizeLine)(lP:d.params.defaults=[])(hr:aY k callerA)(Pm:(ts.all λT=>!as.contains T)=true)(F:∀(w:Af) (mg:Str->Option Aa) (fa:Addr) (h:Heap),(K w.params).In h->h.Ns mainGlobals mg->mg d.name\.ref fa->
   ∃fd:Ad,(∀(s:Ab) (u:Aa),BindsTo s fd #[[u],[]] [(x,u)])/\(∀T∈ts,isCodeTable h T) /\
    ∀base:Heap,(K w.params).In base->base.Ns mainGlobals mg->(∀T∈ts,base.BuiltinsAt mg T)->aj l.prog w (K w.params) mg base (CX w) k fa fd [x] (sp w))(mG:∀(w:Af) (H:Hp) (a:Addr) (ns:List Int),ns.length<=n->(∀T∈ts,H T\.tbl #[])->eG (K w.params) H a (ns.map V.int)->sp w [.ref a] H (λv _=>v=.bl true) λ_ _ _=>False)(Qi:∀(w:Af) (H:Hp) (s:Ab) (e:Aa) (s':Ab),CX w [] H s (λ_ _ _=>False) e s'->False) :
  PySem.W.WalkO q loose XP (kmHook K as L8 ts).says l.row.toRowW d [] (λf vs=>PySem.call f vs):=by
 apply _n.md hn lP λw dD bf mg mb fa o pm cd doc a vs ns G Y ho hd iT hmg Cd hints hlen hg=>?_;have KX:(K w.params).In bf.heap:=km_in_of Y;have eT:∀T∈ts,bf.heap.get? T\tabObj #[]:=Y.2;let#[fd,hb,HK,hF]:=F w mg fa _ KX G.T.g hmg;apply iy_ (λT h=>gz_ ?_) eT HK KX G.T.g G.T.b G.T.builtins G.T.nolimit hg Cd hints (qJ hlen Cg) hr G.T.bmain hF hb (λH hO hS=>mG w H a ns hlen hO hS) λH e s'=>Qi w H bf e s';have:=List.all_eq_true.mp Pm T h;rw[<- L8 w.params];simpa using this
open PySem.W in
def oW:List (Pos × Addr)->aq
 |[]=>[]
 |(p,c)::es=>rawInt p.line::rawInt p.col::.ref c::oW es
def dZ(H:Hp)(T:Addr)(qual:Str):Prop:=∃es:List (Pos × Addr),H T\.tbl (oW es).toArray/\∀e∈es,H e.2\yZ e.2 qual
variable{H':Hp}
theorem dZ.same{H:Hp}{qual:Str}(s:aa H H')(h:dZ H T qual):dZ H' T qual:=by
 let#[es,a,b]:=h;exact#[es,s _ _ a,λe he=>s _ _ (b e he)]
theorem XM:∀es:List (Pos × Addr),TriplesOk (oW es)
 |[]=>trivial
 |(p,c)::es=>by
  have:=XM es;simp[oW,TriplesOk,rawInt,this]
theorem YO:∀(es:List (Pos × Addr)) (p:Pos) (c:Addr),oW (es++[(p,c)])=oW es++[rawInt p.line,rawInt p.col,.ref c]
 |[],p,c=>rfl
 |(p',c')::es,p,c=>by
  show rawInt p'.line::rawInt p'.col::.ref c'::oW (es++[(p,c)])=_;rw[YO es p c];rfl
theorem ZH(pos:Pos):∀es:List (Pos × Addr),codeAmong pos (oW es)=none∨∃e∈es,codeAmong pos (oW es)\.ref e.2
 |[]=>.inl Z
 |(p,c)::es=>by
  by_cases h:codeAmong pos (oW ((p,c)::es))\.ref c
  ·exact .inr #[(p,c),cZ,h]
  have e:codeAmong pos (oW ((p,c)::es))=codeAmong pos (oW es):=by
   show codeAmong pos (rawInt p.line::rawInt p.col::.ref c::oW es)=_;have h:¬codeAmong pos (rawInt p.line::rawInt p.col::.ref c::oW es)=some (.ref c):=h;simp only[codeAmong,rawInt] at h ⊢;split at h
   ·exact absurd Z h
   rename_i q
   rw[au q]
  rcases ZH pos es with q|⟨x,hx,q⟩
  ·exact .inl (e.trans q)
  exact .inr #[x,dJ _ hx,e.trans q]
open KR
variable{E:Aa->Ab->Prop}{B:Ag}{H0:Hp}{kf:V->aM}
section
variable{X:Cx}{pins:List (Addr × Obj)}{σ:St}{H:Hp}{s:Ab}
theorem Inv.Bf{t':Nat}{fp:az}{ys:ai}{its:aq}(I:Inv X pins σ H s)(k:∀b o,b∉fp->s.heap.get? b\o->h'.get? b\o)(hf:∀b∈fp,dI X pins H b)(hT:T∈fp)(hz:ys.length<=sizeLine)(r:Vals ys its)(ht:h'.get? T=some { cls:=.type "list",data:=.seq its.toArray n }):Inv X pins σ (upd H T (.lst ys)) { s with heap:=h',toks:=t' }:=by
 have fT:H T=none:=(hf T hT).1;have nf:∀b u,H b\u->b∉fp:=λb u e hb=>by rw[(hf b hb).1] at e;cases e
 have old:∀{b u},H b\u->upd H T (.lst ys) b\u:=λe=>by rw[ax (bj e fT)];exact e
 apply I.step (g':=s.gens) (d':=s.drawn) (ch:=fp) (λb hb=>?_) (λb o _ _ hc e _=>k b o hc e) (λb o _ _ hc e _=>#[o.slots,k b o hc e]) (λb o hc e n=>?_)
  (λb o hc e=>#[o,k b o hc e]) (λb ys e=>old e) (λb o u e=>old e) (λb ps e=>#[#[],by rw[Array.append_empty];exact old e]) (λm hm=>?_) (λb u e=>?_) I.bare
 ·let#[f0,f1,f2,f3,f4,f5]:=hf b hb;exact#[f3,f1,f4,f5]
 ·rw[ax (λz=>hc (by rw[z];exact hT))];exact n
 ·let#[o,es,ep,ho,r]:=hm;exact#[o,es,ep,k _ o (λhb=>(hf _ hb).2.1 Z) ho,r]
 by_cases z:b=T
 ·subst z;rw[ay] at e;cases e;exact#[hz,its,n,r,ht]
 rw[ax z] at e;apply (I.aN b u e).fo (λc v hc q=>k c v ?_ q) (λ_ q=>old q) λ_ _ q=>old q;rcases hc with z|z
 ·rw[z];exact nf b u e
 exact nf c _ z
theorem dI.at{b:Addr}(f:dI X pins H b)(n:H' b=none):dI X pins H' b:=#[n,f.2]
def qX(X:Cx)(σ:St)(B:Ag)(fv:Aa)(H0:Hp)(kf:V->aM)(xs:ai):Prop:=
 ∀(pins:List (Addr × Obj)) (H:Hp) (s:Ab) (x:V) (u:Aa),Inv X pins σ H s->aa H0 H->x∈xs->RelV x u->
  wpAny (model X.prog X.w) B (call fv [u]) (EP X pins σ λv H'=>aa H H'/\∃t,v=.ref t/\H' t\.tup ((kf x).map kV)) (λ_ _=>False) s
theorem lu_{fv:Aa}{kS:Addr}{e1:Nat}{all:ai}{Q:PUnit->Ab->Prop}{body:Aa->PUnit->Sem (ForInStep PUnit)}(rH:a≠kS)(lZ:qX X σ B fv H0 kf all)(hb:∀(u:Aa) (s:Ab) (Qb:ForInStep PUnit->Ab->Prop),wpAny (model X.prog X.w) B (call fv [u]) (λk s'=>wpAny (model X.prog X.w) B (Builtin.List.listUpdate (.ref kS) (·.push k)) (λ_ sr=>Qb (.yield ⟨⟩) sr) E s') (λ_ _=>False) s->wpAny (model X.prog X.w) B (body u ⟨⟩) Qb E s) :
  ∀(xs:ai) (us:aq) (ks:ai) (kvs:aq) (kk:List aM) (H:Hp) (s:Ab) (c:Nat),Vals xs us->(∀x∈xs,x∈all)->Inv X pins σ H s->aa H0 H->dI X pins H a->dI X pins H kS->s.heap.get? a\seqObj "list" #[] e1->s.heap.get? kS\seqObj "list" kvs.toArray c->
   Vals ks kvs->bg X.K H ks kk->kvs.length+us.length<64->
   (∀H' s' gg c',Inv X pins σ H' s'->aa H0 H'->dI X pins H' a->dI X pins H' kS->s'.heap.get? a\seqObj "list" #[] e1->s'.heap.get? kS\seqObj "list" gg.toArray c'->gg.length=kvs.length+us.length->(∃vg,Vals vg gg/\bg X.K H' vg (kk++xs.map kf))->Q ⟨⟩ s')->
   wpAny (model X.prog X.w) B (forIn us PUnit.unit body) Q E s:=by
 intro xs
 induction xs with
 |nil=>
  intro us ks kvs kk H s c rv _ I sm fa fk ha hk r t _ q;cases rv;rw[List.forIn_nil];exact bR (q H s kvs c I sm fa fk ha hk Z2 #[ks,r,by simpa using t])
 |cons x xs ih=>
  intro us ks kvs kk H s c rv hx I sm fa fk ha hk r t hz q
  obtain⟨u,us,rfl,ru,rr⟩:∃u Ug,us=u::Ug/\RelV x u/\Vals xs Ug:=by
   cases rv with
   |cons h t=>exact#[_,_,Z,h,t]
  rw[List.forIn_cons];rw[iG] at hz;apply aP (hb u s _ ?_)
  have hf:∀b∈[a,kS],dI X pins H b:=λb hb=>by
   rcases bX.mp hb with rfl|hb
   ·exact fa
   obtain rfl:b=kS:=⇑hb
   exact fk
  let I1:=I.pinned (fp:=[a,kS]) hf (λb hb=>by
   rcases bX.mp hb with rfl|hb
   ·exact#[_,ha,λv z=>by cases z]
   obtain rfl:b=kS:=⇑hb
   exact#[_,hk,λv z=>by cases z])
  apply wpAny_mono (lZ _ H s x u I1 sm (hx x cZ) ru) (λk s1 ⟨v,H1,J,rv,Lc,tk,ev,etk⟩=>?_) λ_ _ z=>z
  have pa:(a,seqObj "list" #[] e1)∈zf [a,kS] s.heap:=by
   unfold zf;exact zv.mpr #[a,by simp,by rw[ha];rfl]
  have pk:(kS,seqObj "list" kvs.toArray c)∈zf [a,kS] s.heap:=by
   unfold zf;exact zv.mpr #[kS,by simp,by rw[hk];rfl]
  let#[Qe,na1,_]:=J.pin _ (pf _ (pf _ pa));let#[Ly,nk1,_]:=J.pin _ (pf _ (pf _ pk));have Qe:s1.heap.get? a\seqObj "list" #[] e1:=Qe;have Ly:s1.heap.get? kS\seqObj "list" kvs.toArray c:=Ly;let J0:=J.fe;let fa1:=fa.at (H':=H1) na1;let XY:=fk.at (H':=H1) nk1;have DV:kvs.length<64:=by omega
  apply listUpdate_at Ly Z ?_ (by rw[dG,cc];omega) (qJ (Nat.le_of_eq (Array.size_push ..)) (by rw[dG,cc];omega));have Gc:∀b o,b∉[kS]->s1.heap.get? b\o->(s1.heap.update kS (Obj.mapSeq (·.push k))).get? b\o:=λb o hb e=>(xm _ _ (λz=>hb (by simp[z]))).trans e;have ea:kvs.toArray.push k=(kvs++[k]).toArray:=by simp
  obtain⟨c2,Ee⟩:∃c2,(s1.heap.update kS (Obj.mapSeq (·.push k))).get? kS\seqObj "list" (kvs++[k]).toArray c2:=#[_,by rw[<- ea];exact get?_update_seq Ly (·.push k)]
  have I2:Inv X pins σ H1 { s1 with heap:=s1.heap.update kS (Obj.mapSeq (·.push k)) }:=J0.jN (t':=s1.toks) (fp:=[kS]) Gc (λb hb=>by
   obtain rfl:b=kS:=⇑hb
   exact XY)
  subst ev;apply ih us (ks++[.ref tk]) (kvs++[k]) (kk++[kf x]) H1 _ c2 rr (λy hy=>hx y (dJ _ hy)) I2 (sm.trans Lc) fa1 XY ?_ Ee (r.append (.cons rv .nil)) ?_ (by rw[eA,Dp];omega) λH' s' gg c' a1 a2 a3 a4 a5 a6 a7 a8=>?_
  ·exact Gc a _ ⇑rH Qe
  ·exact Paired.snoc (t.same Lc) #[tk,Z,etk]
  apply q H' s' gg c' a1 a2 a3 a4 a5 a6 (by rw[a7,eA,Dp,iG];omega) ?_;let#[vg,b1,b2]:=a8;exact#[vg,b1,by simpa using b2]
end
variable{xs:ai}
variable{sh:List Bool}
section
variable{X:Cx}{pins:List (Addr × Obj)}{σ:St}{H:Hp}{s:Ab}{B:Ag}
theorem lm_{zs:ai}{p:Array Nat}(g:Good xs.length p)(up:Up (λi j=>bD ((xs.map kf).getD i []) ((xs.map kf).getD j [])) p xs.length)(ez:zs=p.toList.map λi=>xs.getD i .non):zs.Perm xs/\zs.map kf=aU (xs.map kf):=by
 have gk:Good (xs.map kf).length p:=by rw[ao];exact g
 let asc:=QH (ks:=xs.map kf) (λi j _ _=>rfl) gk (by rw[ao];exact up)
 have perm:(p.toList.map λi=>(xs.map kf).getD i []).Perm (xs.map kf):=by
  have:=Jr gk λi=>(xs.map kf).getD i [];rwa [Jw] at this
 let es:=Mw perm asc;apply#[?_,?_]
 ·have:=Jr (n:=xs.length) g λi=>xs.getD i .non;rw[Jw] at this;rw[ez];exact this
 rw[<- es,ez,cm];apply qH λi hi=>?_;have m:i∈(List.range xs.length).toArray:=g.mem_iff.mp ⇑hi;have m:i<xs.length:=⇑m
 show kf (xs.getD i .non)=(xs.map kf).getD i [];simp[List.getD,m]
theorem hn_{P:PySem.Fin->Ab->Prop}(I:Inv X pins σ H s)(fa:dI X pins H a)(ho:s.heap.get? a\seqObj "list" us.toArray n)(r:Vals xs us)(cz:us.length<64)(al:AE (xs.map kf) sh)(lZ:qX X σ B (.ref f) H kf xs)(h:∀zs H' s',Inv X pins σ (upd H' a (.lst zs)) s'->aa H H'->H' a=none->zs.Perm xs->zs.map kf=aU (xs.map kf)->P (.done (.ret .none)) s'):wpAny (model X.prog X.w) B (ksk_tree a (.ref f) false) P E s:=by
 let lx:=r.length;obtain⟨e1,Ea⟩:∃e1,(s.heap.update a (Obj.mapSeq λ_=>(#[]:Array Aa))).get? a\seqObj "list" #[] e1:=#[_,get?_update_seq ho λ_=>#[]];have Gc:∀b o,b∉[a]->s.heap.get? b\o->(s.heap.update a (Obj.mapSeq λ_=>(#[]:Array Aa))).get? b\o:=λb o hb e=>(xm _ _ (λz=>hb (by simp[z]))).trans e
 have I1:Inv X pins σ H { s with heap:=s.heap.update a (Obj.mapSeq λ_=>(#[]:Array Aa)) }:=I.jN (t':=s.toks) (fp:=[a]) Gc (λb hb=>by
  obtain rfl:b=a:=⇑hb
  exact fa)
 unfold ksk_tree;apply aP (listItems_at ho Z ?_);apply aP (listUpdate_at ho Z ?_ (by rw[dG,cc];omega) (gF _));apply aP (seqEpoch_at Ea Z ?_);apply aP (wpAny_newTuple ?_ (by show us.length<=_;rw[cc];omega));apply aP (wpAny_newList ?_ (gF _));apply wpAny_holding ?_;have I2:Inv X pins σ H { s with heap:=(s.heap.update a (Obj.mapSeq λ_=>(#[]:Array Aa))).push (seqObj "tuple" us.toArray 0) }:=I1.kept (t':=s.toks) λb u e=>cO _ e;have I3:Inv X pins σ H { s with heap:=((s.heap.update a (Obj.mapSeq λ_=>(#[]:Array Aa))).push (seqObj "tuple" us.toArray 0)).push (seqObj "list" #[] 0) }:=I2.kept (t':=s.toks) λb u e=>cO _ e;have fk:dI X pins H ((s.heap.update a (Obj.mapSeq λ_=>(#[]:Array Aa))).push (seqObj "tuple" us.toArray 0)).objs.size:=I2.j4 (bq _) (I2.aN.fresh (bq _));have sN:(((s.heap.update a (Obj.mapSeq λ_=>(#[]:Array Aa))).push (seqObj "tuple" us.toArray 0)).push (seqObj "list" #[] 0)).get? a\seqObj "list" #[] e1:=cO _ (cO _ Ea);have PP:(((s.heap.update a (Obj.mapSeq λ_=>(#[]:Array Aa))).push (seqObj "tuple" us.toArray 0)).push (seqObj "list" #[] 0)).get? ((s.heap.update a (Obj.mapSeq λ_=>(#[]:Array Aa))).push (seqObj "tuple" us.toArray 0)).objs.size\seqObj "list" #[] 0:=fI _ Z;have rH:a≠((s.heap.update a (Obj.mapSeq λ_=>(#[]:Array Aa))).push (seqObj "tuple" us.toArray 0)).objs.size:=eV (cK (cO (seqObj "tuple" us.toArray 0) Ea));show wpAny (model X.prog X.w) B (ksk_rest a (.ref f) false us.toArray e1 (.ref ((s.heap.update a (Obj.mapSeq λ_=>(#[]:Array Aa))).push (seqObj "tuple" us.toArray 0)).objs.size)) P E { s with heap:=((s.heap.update a (Obj.mapSeq λ_=>(#[]:Array Aa))).push (seqObj "tuple" us.toArray 0)).push (seqObj "list" #[] 0) };generalize ((s.heap.update a (Obj.mapSeq λ_=>(#[]:Array Aa))).push (seqObj "tuple" us.toArray 0)).objs.size=kS at fk PP rH ⊢;generalize ((s.heap.update a (Obj.mapSeq λ_=>(#[]:Array Aa))).push (seqObj "tuple" us.toArray 0)).push (seqObj "list" #[] 0)=h3 at I3 sN PP ⊢;clear I2 I1 Gc;unfold ksk_rest;apply aP (wpAny_rule ?_);rw[List.forIn_toArray];apply aP (lu_ (pins:=pins) (E:=E) (e1:=e1) rH lZ (λu s4 Qb hq=>?_) xs us [] [] [] H _ 0 r (λx hx=>hx) I3 (aa.refl H) fa fk sN PP .nil .nil ⇑cz λH5 s5 kvs c5 I5 sm5 X1 fk5 ha5 WD lk ⟨ks,rk,tk⟩=>?_)
 ·apply aP (wpAny_attempt (wpAny_mono hq (λk sr hk=>?_) λ_ _ hF=>hF.elim));exact aP (wpAny_mono hk (λ_ s6 h6=>bR h6) λ_ _ z=>z)
 rw[List.nil_append] at tk;rw[we,Nat.zero_add] at lk;apply aP (listItems_at WD Z ?_)
 have tail:∀(p:Array Nat) (st:SortSt),Good xs.length p->Up (λi j=>bD ((xs.map kf).getD i []) ((xs.map kf).getD j [])) p xs.length->(arrOf st).map (·.2)=(oV p us).toArray->failedOf st=none->wpAny (model X.prog X.w) B (ksk_tail a false e1 (.ref kS) st) P E s5:=λp st g up Px Hy=>by
  have gu:Good us.length p:=by rw[<- lx];exact g
  have hz:(oV p us).length=us.length:=by
   unfold oV;rw[ao,sY];exact gu.size
  let s1:=Heap.SameBut.update s5.heap kS (Obj.mapSeq λ_=>(#[]:Array Aa));have HN:(s5.heap.update kS (Obj.mapSeq λ_=>(#[]:Array Aa))).get? a\seqObj "list" #[] e1:=(xm _ _ (Ne.symm rH)).trans ha5;unfold ksk_tail;dsimp only;rw[Px];apply aP (listUpdate_at WD Z ?_ (by rw[dG,cc];omega) (gF _));apply aP (wpAny_letGo ?_);apply aP (seqEpoch_at HN Z ?_);simp only[zu,if_false];apply aP (listUpdate_at HN Z ?_ (gF _) (by rw[dG,hz,cc];omega));rw[Hy];simp only[bne_self_eq_false,zu,if_false]
  have zl:(p.toList.map λi=>xs.getD i .non).length<=sizeLine:=by
   rw[ao,sY,g.size,cc];omega
  let#[pz,ek]:=lm_ (zs:=p.toList.map λi=>xs.getD i .non) g up Z;apply bR (h _ H5 _ (I5.Bf (t':=s5.toks) (fp:=[a,kS]) (T:=a) (λb o hb e=>?_) (λb hb=>?_) Z2 zl (RI r gu) (get?_update_seq HN _)) sm5 X1.1 pz ek)
  ·have n1:b≠a:=λz=>hb (by simp[z]);have n2:b≠kS:=λz=>hb (by simp[z]);exact (xm _ _ (Ne.symm n1)).trans ((xm _ _ (Ne.symm n2)).trans e)
  rcases bX.mp hb with rfl|hb
  ·exact X1
  obtain rfl:b=kS:=⇑hb
  exact fk5
 unfold ksk_end;dsimp only;simp only[zu,if_false];by_cases h2:us.toArray.size<2
 ·rw[aB h2,aB h2];apply aP (bR ?_);rw[StateT.run_pure];apply aP (bR (tail (List.range xs.length).toArray _ (Array.Perm.refl _) (λi j oP hj=>?_) ?_ Z))
  ·have e:i=j:=by
    simp only[dG] at h2;omega
   subst e;exact EU _
  show ((kvs.toArray.zip us.toArray).map λx:Keyed=>x.2)=_;rw[show xs.length=us.length from lx,Zf];apply Array.ext' ?_;simp[List.map_snd_zip,lk]
 rw[au h2,au h2]
 have ku:2<=us.length:=by
  simp only[dG] at h2;omega
 let#[κ,hk,hc]:=Yk (A:=B) (s':=s5) I5 rk tk al Z1 (λ_ _ e=>e);apply aP (wpAny_mono (hk (λk s'=>k=κ/\s'=s5) #[Z,Z]) (λk s7 Hs=>?_) λ_ _ x=>x.elim);let#[rfl,rfl]:=Hs;have O:Ord (λi j=>bD ((xs.map kf).getD i []) ((xs.map kf).getD j [])):=Q3 _
 apply aP (wpAny_mono (kat_run (ks:=kvs) (vs:=us) (G:=λp s'=>s'=s7/\Good us.length p/\Up (λi j=>bD ((xs.map kf).getD i []) ((xs.map kf).getD j [])) p us.length)
  (Q:=λfL s'=>∃p:Array Nat,arrOf fL=p.map (kas_item (kvs.toArray.zip us.toArray))/\failedOf fL=none/\s'=s7/\Good us.length p/\Up (λi j=>bD ((xs.map kf).getD i []) ((xs.map kf).getD j [])) p us.length)
  lk ku cz (λp fL s' _ q1 q2 q3=>#[p,q1,q2,q3]) (Ok.wp (n:=us.length) (λi j C hi hj=>hc i j C Z1 Z1) (λp q=>#[Z,q]) (Xq O Z1))) ?_ λ_ _ x=>x)
 rintro⟨⟨⟩,fL⟩ s' ⟨p,Qc,hf,sH,g,u⟩;subst sH;rw[<- lx] at g u;exact tail p fL g u (kat_snds lk Qc) hf
end
section
variable{X:Cx}{pins:List (Addr × Obj)}{σ:St}{H:Hp}{s:Ab}
theorem Inv.vJ{cl:List (Str × Addr)}{is:List Nat}(I:Inv X pins σ H s)(qu:∀q∈cl,X.env.cells.lookup q.1\q.2)(yM:∀x∈dS,∃c,cl.lookup x\c)(Hu:∀x∈dS,X.env.scope.names.lookup x\.cell)(hN:is.map (λi=>X.N[i]?)=dS.map some)(Ec:is.map (λi=>σ[i]?)=gs.map (λv=>some (some v))):gs.length=dS.length/\Mc dS cl gs s.heap/\∀x c,cl.lookup x\c->H c=none:=by
 have lk:∀{x c},cl.lookup x\c->(x,c)∈cl:=λe=>rX e;apply#[?_,#[λa b c h1 h2=>I.ok.inj a b c (qu _ (lk h1)) (qu _ (lk h2)),yM,λa c h1=>I.cell a c (qu _ (lk h1)),λj a v h1 h2=>?_],λx c e=>I.eS x c (qu _ (lk e))]
 ·let a:=dQ List.length Ec;let b:=dQ List.length hN;simp only[ao] at a b;omega
 let#[c,hc]:=yM a (cj h1);have e1:(is.map λi=>X.N[i]?)[j]? = some (some a):=by rw[hN,dR,h1];rfl
 have e2:(is.map λi=>σ[i]?)[j]? = some (some (some v)):=by rw[Ec,dR,h2];rfl
 rw[dR] at e1 e2;let#[i,hi,e1]:=DB.mp e1;rw[hi] at e2;have e2:σ[i]? = some (some v):=eK e2;let#[m,_,hl]:=I.loc;let kd:=Hu a (cj h1);let#[u,ru,lo]:=hl i a v e1 e2 (.inr (.inl kd));rcases lo with⟨z,_⟩|⟨_,c2,e3,o,e4,e5⟩
 ·have z:X.env.scope.names.lookup a\.local:=z;rw[kd] at z;cases z
 rw[qu _ (lk hc)] at e3;cases e3;exact#[c,u,hc,ru,o,e4,e5]
theorem ll_{qual:Str}{params:Arguments}{body:PySem.Expr}{scope:Scope}{p:Str}{sp:ai->ai->Hp->VK->XK->Prop}{cl:List (Str × Addr)}{is:List Nat}(F:jM X.prog X.w X.K X.mg X.base k qual params body scope [p] dS sp)(hr:aY k B)(hB:B.frames=X.A.frames)(hf:H0 f\lN f qual params body scope cl c')(hc:H0 c'\yZ c' qual)(qu:∀q∈cl,X.env.cells.lookup q.1\q.2)(yM:∀x∈dS,∃c,cl.lookup x\c)(Hu:∀x∈dS,X.env.scope.names.lookup x\.cell)(hN:is.map (λi=>X.N[i]?)=dS.map some)(Ec:is.map (λi=>σ[i]?)=gs.map (λv=>some (some v)))(mG:∀H x,aa H0 H->x∈xs->sp [x] gs H (λv H'=>aa H H'/\∃t,v=.ref t/\H' t\.tup ((kf x).map kV)) (λ_ _ _=>False)):qX X σ B (.ref f) H0 kf xs:=by
 intro pins H s x u I sm hx ru;let#[#[pm,lU,ef],_]:=I.aN f _ (sm _ _ hf);let#[#[oc,KY,t,ec,d1,d2],_]:=I.aN c' _ (sm _ _ hc);let#[hg,C,fc]:=I.vJ qu yM Hu hN Ec;let e0:=I.CO;apply wpAny_call (codeAny_mono (F B X.stack s H f c' pm lU cl [u] [x] gs _ _ hr #[hB.trans e0.frames,e0.mod,e0.bs,e0.vQ,e0.gA,e0.yP,e0.aN,e0.bare] ef #[c',oc,KY,t,Z,ec,d1,d2] Z hg (.cons ru .nil) C fc (mG H x sm hx)) λr s' hq=>?_);cases r with
 |error e=>exact hq.elim
 |ok fl=>
  cases fl with
  |ret u=>exact I.after hq
  |next=>exact False.elim hq
  |brk=>exact False.elim hq
  |cont=>exact False.elim hq
theorem sortedK{x:Aa}{Q:VK}(I:Inv X pins σ H s)(cz:xs.length<64)(al:AE (xs.map kf) sh)(lZ:qX X σ X.A.in1.in1 (.ref f) H kf xs)(oS:∀R:aq->Ab->Prop,(∀vs s1,Inv X pins σ H s1->Vals xs vs->R vs s1)->wpAny (model X.prog X.w) X.A.in1 (collect x) R E s)(q:∀l zs H',aa H H'->H' l=none->H l=none->zs.Perm xs->zs.map kf=aU (xs.map kf)->Q (.ref l) (upd H' l (.lst zs))):wpAny (model X.prog X.w) X.A (call (.builtin "sorted") [x] [(Str.ofString "key",.ref f)]) (EP X pins σ Q) E s:=by
 apply call_function_entry_kw kind_sorted plain_sorted entry_sorted (ksk_s1 _ _) ?_;unfold Builtin.«sorted»;apply aP (m:=checkCount "sorted" 1 1 _) (bR ?_);apply aP (oS _ λvs s1 I1 r=>?_);let lv:=r.length;apply aP (wpAny_newList ?_ (by rw[cc];omega));have Lw:(s1.heap.push (seqObj "list" vs.toArray 0)).get? s1.heap.objs.size\seqObj "list" vs.toArray 0:=fI _ Z;have I2:Inv X pins σ H { s1 with heap:=s1.heap.push (seqObj "list" vs.toArray 0) }:=I1.kept (t':=s1.toks) λb u e=>cO _ e;have fa:dI X pins H s1.heap.objs.size:=I1.j4 (bq _) (I1.aN.fresh (bq _));have nl:H s1.heap.objs.size=none:=I1.aN.fresh (bq _);apply aP (wpAny_holding (wpAny_call_entry_kw slot_list_sort #[_,Lw,Z] entry_list_sort ?body (ksk_l1 _ _)))
 case body=>
  show wpAny (model X.prog X.w) X.A.in1.in1 (Builtin.«list.sort» #[[.ref s1.heap.objs.size],[(Str.ofString "key",.ref f)]]) _ _ _;rw[ksk_t1];apply hn_ (s:={ s1 with heap:=s1.heap.push (seqObj "list" vs.toArray 0) }) I2 fa Lw r Z1 al lZ λzs H' s' I' sm na pz ek=>?_;exact#[_,Z,bR #[_,Z,.ref _,_,I',Z,q _ zs H' sm na nl pz ek]]
end
def TQ(K:af)(H:Hp)(x:V)(xs:ai):Prop:=(∃l,x=.ref l/\eG K H l xs)∨∃d kvs,x=.ref d/\H d\.dK kvs/\xs=kvs.map λkv=>kV kv.1
inductive pK (K:af) (qual:Str) (params:Arguments) (body:PySem.Expr) (scope:Scope) (cl:List (Str × Addr)) (is:List Nat) (sp:ai->ai->Hp->VK->XK->Prop) (t:TA) (σ:St) (H:Hp) (Q:VK) (vs:ai) (ws:ai) (H2:Hp):Prop
 |mk:∀x f c' xs kf sh gs,vs=[x]->ws=[.ref f]->H2 f\lN f qual params body scope cl c'->H2 c'\yZ c' qual->TQ K H2 x xs->xs.length<64->AE (xs.map kf) sh->is.map (λi=>σ[i]?)=gs.map (λv=>some (some v))->(∀H x,aa H2 H->x∈xs->sp [x] gs H (λv H'=>aa H H'/\∃t,v=.ref t/\H' t\.tup ((kf x).map kV)) (λ_ _ _=>False))->(∀l zs H',aa H2 H'->H' l=none->H2 l=none->zs.Perm xs->zs.map kf=aU (xs.map kf)->Q (.ref l) (upd H' l (.lst zs)))->pK K qual params body scope cl is sp t σ H Q vs ws H2
def Bj(K:af)(qual:Str)(params:Arguments)(body:PySem.Expr)(scope:Scope)(cl:List (Str × Addr))(is:List Nat)(sp:ai->ai->Hp->VK->XK->Prop)(t tk:TA):TE:=λσ H Q=>t σ H λvs H1=>tk σ H1 λws H2=>pK K qual params body scope cl is sp t σ H Q vs ws H2
variable{qual:Str}
theorem XJ{e:PySem.Expr}{t tk:TA}{p kp vf:Pos}{params:Arguments}{body:PySem.Expr}{scope:Scope}{px:Str}{sp:ai->ai->Hp->VK->XK->Prop}{cl:List (Str × Addr)}{is:List Nat}(hc:X.calm=true)(hg:Gl X "sorted")(hm:X.mg "sorted"=none)(ha:PA X [e] t)(hkw:PK X [#[some "key",.Lambda params body scope vf,kp]] tk)(F:jM X.prog X.w X.K X.mg X.base k qual params body scope [px] dS sp)(hr:aY (k+2) X.A)(qu:∀q∈cl,X.env.cells.lookup q.1\q.2)(yM:∀x∈dS,∃c,cl.lookup x\c)(Hu:∀x∈dS,X.env.scope.names.lookup x\.cell)(hN:is.map (λi=>X.N[i]?)=dS.map some)(he:starEach [e] X.env=[(false,eval e X.env)]:=by rfl)(vD:(backToKw pos (keywordEach [#[some "key",.Lambda params body scope vf,kp]] X.env)).all (·.1.isSome)=true:=by rfl)(Hs:(backToKw pos (keywordEach [#[some "key",.Lambda params body scope vf,kp]] X.env)).filterMap (·.1)=[Str.ofString "key"]:=by rfl)(hkn:(backToKw pos (keywordEach [#[some "key",.Lambda params body scope vf,kp]] X.env)).any (·.1.isNone)=false:=by rfl):PE X (.Call (.Name "sorted" p) [e] [#[some "key",.Lambda params body scope vf,kp]] pos) (Bj X.K qual params body scope cl is sp t tk):=by
 intro pins s σ H Q I h;apply wpAny_Call_Name_kw (EA I hg hm zh ?_);let hA:=ha pos pins s σ H _ I h;rw[he] at hA ⊢;apply callWith_builtin_kwB (first:=[]) Z hkn (evalArgs_kwB vD (bb hA λus s1 ⟨vs,H1,I1,r1,q1⟩=>?_));apply bb (hkw pos pins s1 σ H1 _ I1 q1) λws s2 ⟨zs,H2,I2,rz,x,f,c',xs,kf,sh,gs,ev,ez,hf,iT,src,cz,al,Ec,mG,q⟩=>?_;subst ev ez;let#[u,rfl,ru]:=Vals.one r1;let#[fv,rfl,rf]:=Vals.one rz;cases rf;rw[Hs];have hd:X.A.in1.handled=none:=I.ok.hd hc;apply sortedK I2 cz al (ll_ F hr.in1.in1 Z hf iT qu yM Hu hN Ec mG) (λR hR=>?_) q;rcases src with⟨l,rfl,hl⟩|⟨d,kvs,rfl,hd2,rfl⟩
 ·cases ru;exact Rz I2 hl Z1 hR
 cases ru;exact Vx hd I2 (.inl hd2) hR
structure mw (K:af) (x qual:Str) (st:Stmt) (f c:Addr) (fd:Ad):Prop where
 ex:∃(oc:Aa) (od:Option Addr) (kV doc pm:Aa) (an:Option Addr) (ct:Aa) (kn:Array (Option Aa)),
  fd=PySem.W.fnOf x qual (j6 st) (iW st) (ba st) .none kV doc pm an (.ref c) ct/\K.lookup f=some #[oc,od,.func fd,kn]/\PySem.W.codeIn K (.ref c) qual=true
 kp:PySem.W.keepIn K (.ref f)=true
variable{K:af}{st:Stmt}
theorem mw.fn(F:mw K x qual st f c fd):bp K x qual st f fd:=by
 let#[oc,od,kV,doc,pm,an,ct,kn,e,l,h]:=F.ex;exact#[#[oc,od,kV,doc,pm,an,.ref c,ct,kn,e,l,h],F.kp]
theorem mw.ok{sp:Sp}(F:mw K x qual st f c fd)(S:bx N ps (ba st))(len:∀vs H Q E,sp vs H Q E->vs.length=ps.length)(gz:∀(A:Ag) (outer:List Env) (s:Ab) (H:Hp) (vs:ai) (Q:VK) (E:XK),aY k (A.deeper (envOfC qual (ba st) s.heap.objs.size f (.ref c)))->sp vs H Q E->
   ∃t,mX (lS aZ P w K mg base N qual (ba st) f (.ref c) A outer s H E).BS (iW st) t/\t { nx:=λ_ H'=>Q .non H',rt:=Q } (start N vs) H):!aj aZ (k+1) f fd ps sp:=by
 let#[oc,od,kV,doc,pm,an,ct,kn,rfl,lk,iT]:=F.ex;apply U4 lk iT S len λA outer s H vs Q E hr mG=>?_;let#[t,h,q]:=gz A outer s H vs Q E hr mG;exact#[t,h.BS,q]
end L2
namespace Ev
open PySem L2
def NT(H G:Hp):Prop:=∀b o,H b\o->(∀vs,o≠.tbl vs)->G b\o
variable{G:Hp}
theorem NT.of{H:Hp}(s:aa H G):NT H G:=λb o e _=>s b o e
theorem NT.refl(H:Hp):NT H H:=NT.of (aa.refl H)
theorem NT.trans{H J:Hp}(s:NT H G)(t:NT G J):NT H J:=λb o e n=>t b o (s b o e n) n
theorem a_.nt{T:Addr}{H:Hp}{vs:Array Aa}(b:a_ T H G)(hT:H T\.tbl vs):NT H G:=λc o e n=>b c o e (λz=>by
 rw[z,hT] at e;exact n _ (eK e).symm)
theorem NT.tup{H G:Hp}(s:NT H G){a:Addr}{xs:ai}(h:H a\.tup xs):G a\.tup xs:=s _ _ h nofun
theorem NT.lst{H G:Hp}(s:NT H G){a:Addr}{xs:ai}(h:H a\.lst xs):G a\.lst xs:=s _ _ h nofun
theorem NT.dK{H G:Hp}(s:NT H G){a:Addr}{xs:List (Key × V)}(h:H a\.dK xs):G a\.dK xs:=s _ _ h nofun
theorem NT.ins{H G:Hp}(s:NT H G){a C dx:Addr}{fs:List (Str × V)}(h:H a\.ins C dx fs):G a\.ins C dx fs:=s _ _ h nofun
variable{l:Addr}
section
variable{K:af}{H G:Hp}{v:V}
theorem bg.nt{ys:ai}{ks:List aM}(h:bg K H ys ks)(s:NT H G):bg K G ys ks:=Paired.bu h λy k ⟨a,z,q⟩=>#[a,z,s.tup q]
theorem hE.nt{C p:Addr}{hs:Xa}{ts:Xb}{fp:az}(W:hE K C H p hs ts fp)(s:NT H G):hE K C G p hs ts fp:=by
 let#[dx,d1,l2,d3,zs,as,rfl,h1,h2,h3,h4,h5,h6,h7]:=W.ex;exact#[dx,d1,l2,d3,zs,as,Z,s _ _ h1 nofun,s.dK h2,s.lst h3,bg.nt h4 s,s.dK h5,h6,λi n a e1 e2=>s.lst (h7 i n a e1 e2)]
theorem bU.nt{o:Option (Xb)}(h:bU K H v o)(s:NT H G):bU K G v o:=by
 cases o with
 |none=>exact h
 |some ws=>
  let#[a,ys,e,ha,t]:=h;exact#[a,ys,e,s.lst ha,bg.nt t s]
theorem iE.nt{CG CW g p:Addr}{hs:Xa}{ts:Xb}{qs:aC}{fp:az}(h:iE K CG CW H g p hs ts qs fp)(s:NT H G):iE K CG CW G g p hs ts qs fp:=by
 let#[dx,dw,dy,vs,cE,h1,h2,h3,h4,h5,r]:=h.ex;exact#[dx,dw,dy,vs,cE,s _ _ h1 nofun,h2.nt s,s.dK h3,s.dK h4,Paired.bu h5 λv q h=>h.nt s,r]
theorem d_.nt(h:d_ H l)(s:NT H G):d_ G l:=by
 let#[a,b,c,e]:=h;exact#[a,b,c,s.lst e]
end
variable{qual:Str}{σ:St}
theorem VQ{H:Hp}{T:Addr}{q':Str}{a a':Arguments}{b b':Expr}{sc K4:Scope}{ps:Pos}{cl:List (Str × Addr)}{Q:VK}(h:dZ H T qual)(e1:q'=qual)(e2:a'=a)(e3:b'=b)(e4:K4=sc)(q:∀f c' H1,a_ T H H1->dZ H1 T qual->H1 f\lN f qual a b sc cl c'->H1 c'\yZ c' qual->Q (.ref f) H1):FA T q' a' b' K4 ps cl σ H Q:=by
 subst e1 e2 e3 e4;let#[es,h,Cq]:=h;apply#[_,h,XM es,?_];rcases ZH ps es with e|⟨e,he,q1⟩
 ·apply .inl #[e,λc' f n1 n2 n3=>?_];have nT1:T≠c':=bj h n1;have nT2:T≠f:=bj h n2
  have B:a_ T H (upd (upd (upd H T (.tbl ((oW es).toArray++(List.toArray [rawInt ps.line,rawInt ps.col,.ref c'])))) c' (yZ c' q')) f (lN f q' a' b' K4 cl c')):=λb o e n=>by
   rw[ax (bj e n2),ax (bj e n1),ax n];exact e
  apply q f c' _ B #[es++[(ps,c')],?_,λx hx=>?_] ay ?_
  ·rw[ax nT2,ax nT1,ay,YO];simp
  ·rcases fR.mp hx with hx|hx
   ·exact B _ _ (Cq x hx) (λz=>by have:=Cq x hx;rw[z,h] at this;cases this)
   rw[jw.mp hx];show upd _ f _ c'=_;rw[ax n3,ay]
  rw[ax n3,ay]
 apply .inr #[e.2,q1,λf hf=>?_];let s:=aa.new (o:=lN f q' a' b' K4 cl e.2) hf;exact q f e.2 _ (a_.of s) #[es,s _ _ h,λx hx=>s _ _ (Cq x hx)] ay (s _ _ (Cq e he))
theorem kF{H:Hp}{T:Addr}(h:dZ H T qual):∃vs,H T\.tbl vs:=by
 let#[es,e,_]:=h;exact#[_,e]
theorem dZ.but{H:Hp}{T T':Addr}{q:Str}(h:dZ H T q)(b:a_ T' H G)(hT:∃vs,H T'\.tbl vs)(ne:T≠T'):dZ G T q:=by
 let#[es,e,a]:=h;let#[vs,hT]:=hT;exact#[es,b _ _ e ne,λx hx=>b _ _ (a x hx) (λz=>by have:=a x hx;rw[z,hT] at this;cases this)]
def lM:Expr->Scope
 |.Lambda _ _ s _=>s
 |_=>ba iK
def GG:Expr->Expr
 |.Lambda _ b _ _=>b
 |e=>e
def GH:Expr->Arguments
 |.Lambda a _ _ _=>a
 |_=>j6 iK
def Vl:Expr->Expr
 |.Call _ _ (k::_) _=>k.value
 |e=>e
def Gj(l:List Stmt)(i:Nat):Stmt:=l.getD i (.Pass #[0,0,0,0])
def Qw:Stmt->Expr
 |.For _ i _ _ _=>i
 |_=>.Constant .none 0 #[0,0,0,0]
def Ob:Stmt->Expr
 |.Return (some e) _=>e
 |_=>.Constant .none 0 #[0,0,0,0]
variable{k:ai->Hp->Prop}
theorem yu{H:Hp}(h:k [] H):jQ σ H k:=h
theorem AO{te:TE}{t:TA}{H:Hp}(h:te σ H λx H1=>t σ H1 λxs H2=>k (x::xs) H2):kU te t σ H k:=h
abbrev eI(qs:aC)(n:Str):Int:=strOf (qs.map d9) n
def kN(qs:aC)(n:Str):aM:=[.inl (-(eI qs n)),.inr n]
def gU:aM->Str
 |[_,.inr n]=>n
 |_=>⟨#[]⟩
def js(qs:aC):ae:=(aU ((qs.map (·.1)).map (kN qs))).map gU
def GK(qs:aC):V->aM
 |.str n=>kN qs n
 |_=>[]
variable{zs:ai}{ns:ae}
theorem YT(p:zs.Perm (ns.map V.str)):∃ms:ae,zs=ms.map V.str/\ms.Perm ns:=by
 have all:∀z∈zs,∃n,z=V.str n:=λz hz=>by
  let#[n,_,e]:=bh.mp (p.mem_iff.mp hz);exact#[n,e.symm]
 have mk:∀l:ai,(∀z∈l,∃n,z=V.str n)->∃ms:ae,l=ms.map V.str:=λl=>by
  induction l with
  |nil=>intro _;exact#[[],Z]
  |cons a r ih=>
   intro h;let#[n,rfl]:=h a cZ;let#[ms,rfl]:=ih λz hz=>h z (dJ _ hz);exact#[n::ms,Z]
 let#[ms,rfl]:=mk zs all;apply#[ms,Z,?_];have:=p.map (λv:V=>match v with | .str n=>n|_=>(⟨#[]⟩:Str));rw[cm,cm] at this;simpa [Function.comp_def] using this
theorem mz_{qs:aC}(p:zs.Perm ((qs.map (·.1)).map V.str))(e:zs.map (GK qs)=aU (((qs.map (·.1)).map V.str).map (GK qs))):zs=(js qs).map V.str:=by
 let#[ms,rfl,_]:=YT p;have e1:(ms.map V.str).map (GK qs)=ms.map (kN qs):=by rw[cm];rfl
 have e2:((qs.map (·.1)).map V.str).map (GK qs)=(qs.map (·.1)).map (kN qs):=by
  rw[cm];rfl
 rw[e1,e2] at e
 have em:(ms.map (kN qs)).map gU=ms:=by
  rw[cm];exact List.map_id' ms
 unfold js;rw[<- e,em]
theorem Du(qs:aC):(js qs).Perm (qs.map (·.1)):=by
 unfold js;let p:=(mV ((qs.map (·.1)).map (kN qs))).map gU
 have e:((qs.map (·.1)).map (kN qs)).map gU=qs.map (·.1):=by
  generalize qs.map (·.1)=ns;rw[cm];exact List.map_id' _
 rw[e] at p;exact p
def bO(qs:aC)(f:ag)(h:Str):ae:=(js qs).filter λn=>decide (f n=h)
abbrev Ah:Str:="heaviest_first.<locals>.<lambda>"
def rD:Expr:=Vl (Qw (Gj (iW jg) 1))
abbrev CF:ae:=["goods"]
theorem HV:∀y∈(lM rD).names,y.2=.free->y.1∈CF:=by decide +kernel
theorem Bx:Jk ["name"] CF (lM rD):=#[by decide +kernel,Z,Z,Z,by decide +kernel,by decide +kernel,λx h=>HV (x,.free) (rX h) Z,by decide +kernel]
variable{CP:Addr}
variable{L:Addr}{cd:Aa}
variable{c0 f0:Addr}{fd:Ad}
section v
inductive pS (K:af) (CG CW:Addr) (vs:ai) (gs:ai) (H:Hp) (Q:VK):Prop
 |mk:∀(g p:Addr) (q:Pc) (hs:Xa) (ts:Xb) (qs:aC) (fp:az),vs=[.str q.1]->gs=[.ref g]->iE K CG CW H g p hs ts qs fp->(qs.map (·.1)).Nodup->q∈qs->0<=q.2.1->q.2.1<=1000000000->(∀t,H t=none->Q (.ref t) (upd H t (.tup [.int (-q.2.1),.str q.1])))->pS K CG CW vs gs H Q
def Bp(K:af)(CG CW:Addr):ai->ai->Hp->VK->XK->Prop:=λvs gs H Q _=>pS K CG CW vs gs H Q
theorem lk_{CG CW:Addr}(T:eR K CG)(cW:!bF CG 2 "weight" AI (Dq K CG CW CP)):!jM 3 Ah (GH rD) (GG rD) (lM rD) ["name"] CF (Bp K CG CW):=by
 apply Ao Bx (λpm c' lU cl us hl=>?_) (λA outer s H f cd cl vs gs Q E hr h hp=>?_)
 ·match us,hl with
  |[_],_=>rfl
 let#[g,p,q,hs,ts,qs,fp,rfl,rfl,G,nd,hq,w0,w1,k]:=h;let#[dx,dw,dy,vs,cE,h1,h2,_]:=id G.ex;apply#[_,eW %[mE_ m0_ (fX cW T.cl hr (pv 1) %[0|0]),0|0],?_];have qm:(cb p dw dy).lookup ("weight":Str)=none:=xp _ _ _ Z0 Z0 Z0;apply#[_,Z,g,dx,_,Z,h1,qm,_,Z,g,p,.str q.1,some q.1,hs,ts,qs,fp,Z,G,nd,Z,.inl #[q,hq,Z,?_]];exact#[_,Z,_,Z,zl,λt ht=>k t ht]
def IR(L:Addr):List (Str × Addr):=[("goods",L+1)]
theorem Su{f:Addr}:closureFor (lM rD) (PyProof.Rows.envOfC sR (ba jg) L f cd)=pure (IR L):=by rfl
theorem Sy{f:Addr}:∀q∈IR L,(PyProof.Rows.envOfC sR (ba jg) L f cd).cells.lookup q.1\q.2:=by
 intro q hq;simp only[IR,bX,xH,or_false] at hq;rcases hq with rfl;rfl
theorem OS:∀x∈CF,∃c,(IR L).lookup x\c:=by
 intro x hx;simp only[CF,bX,xH,or_false] at hx;rcases hx with rfl;exact#[_,Z]
theorem OJ:∀x∈CF,(ba jg).names.lookup x\.cell:=by decide +kernel
theorem uh:bx ["goods","placed","found","piece"] mM (ba jg):=bH
def wB(H:Hp)(ns:ae)(ad:Str->Addr)(g:Str->ae):Prop:=(∀h∈ns,H (ad h)\.lst ((g h).map V.str))/\∀h∈ns,∀h'∈ns,ad h=ad h'->h=h'
inductive pW (K:af) (CG CW T:Addr) (vs:ai) (H:Hp) (Q:VK) (E:XK):Prop
 |mk:∀(g p d:Addr) (hs:Xa) (ts:Xb) (qs:aC) (fp:az) (f:ag),vs=[.ref g,.ref d]->xc K CG CW H g p d hs ts qs fp f->(∀q∈qs,0<=q.2.1/\q.2.1<=1000000000)->dZ H T Ah->(∀d' ad H',a_ T H H'->dZ H' T Ah->H d'=none->H' d'\.dK (bB (aD hs) λh=>.ref (ad h))->wB H' (aD hs) ad (bO qs f)->(∀h∈aD hs,H (ad h)=none)->Q (.ref d') H')->pW K CG CW T vs H Q E
theorem dZ.putL{H:Hp}{T a:Addr}{q:Str}{xs:ai}{o:HO}(h:dZ H T q)(ha:H a\.lst xs):dZ (upd H a o) T q:=by
 let#[es,e,c]:=h;apply⟨es,by rw[ax (cu e ha nofun)];exact e,λx hx=>?_⟩;rw[ax (λz=>by have:=c x hx;rw[z,ha] at this;cases this)];exact c x hx
theorem gJ{H:Hp}{d:Addr}{g:Str->V}{n:Str}(h:H d\.dK (bB ns g))(m:n∈ns):ck H d (.str n) (some (g n)):=by
 have:=ck.k (k:=Sum.inr n) h;rw[ES m] at this;exact this
theorem yU{qs:aC}(nd:(qs.map (·.1)).Nodup){q:Pc}(h:q∈qs):eI qs q.1=q.2.1:=by
 apply XA ?_ (bh.mpr ⟨q,h,rfl⟩);rw[cm];exact nd
theorem m5_{CG CW T:Addr}(F:mw K sR sR jg f0 c0 fd)(B:Bi mg)(TG:eR K CG)(TW:Txt K mg CW)(hC:PySem.W.CodeHd base c0 T)(vB:base.BuiltinsAt mg T)(cH:!bF CW 1 "hands" iY (EN K CW))(cW:!bF CG 2 "weight" AI (Dq K CG CW CP)) :
  aj P w K mg base aZ 6 f0 fd mM (pW K CG CW T):=by
 apply F.ok uh (λvs H Q E h=>?_) (λA outer s H vs Q E hr h=>?_)
 ·let#[g,p,d,hs,ts,qs,fp,f,rfl,_]:=h;rfl
 let#[g,p,d,hs,ts,qs,fp,f,rfl,Pl,wq,tab,k]:=h;let hu:=eO hr;let sz:=cc;have ko:aY 1 _:=hr.mono (by decide);refine' ⟨_,ak ?s1 (ak ?s2 (aE ?s3)),?kk⟩
 case' s1=>refine' aO 2 uh.nd (iZ (wb Z) (by rfl) B.dict qF %[i4 ["hand"] 1 [] (dA (AS cH TW.cl ko (eF (pv 0) Z))) (λfp s H=>e_ (i:=0) (show (["hand"]:ae).Nodup by decide +kernel) Z (Or.inl Z)) (λfp s H=>iH) (λfp s H=>?e1)|0])
 case e1=>exact eW %[0,cy aJ|0]
 case' s2=>refine' eE dM Z (dA ?l2) (bN 3 uh.nd) (aE ?b2)
 case l2=>exact XJ (px:="name") (dS:=CF) (cl:=IR s.heap.objs.size) (is:=[0]) (k:=3) Z (by rfl) B.sorted %[1|0] (Wr (VD (P:=T) (c:=c0) Z Su Z hC vB) Vr) (lk_ TG cW) hr Sy OS OJ Z
 case b2=>exact gP (gC gO kB kC ki (bV hu (pv 2) (bV hu (pv 1) (pv 3))) %[3|0])
 case s3=>exact bo (pv 2)
 let nd:=Pl.Gd.sE;have n8:(aD hs).length<=8:=by have:=Pl.Gd.eU;have:=Pl.Gd.h8;omega
 let#[dx,dw,dy,vs,cE,h1,h2,h3,h4,h5,m1,m2,m3,m4,m5]:=id Pl.G.ex;let#[gm,d1,l2,d3,mB,as,ef,w1,_]:=id h2.ex;have iQ:(dj d1 l2 d3).lookup ("hands":Str)=none:=ka _ _ _ Z0 Z0 Z0;apply#[_,Z,g,CG,dx,_,_,Z,h1,TG.cl,TG.nW,qE _ _ _,p,gm,_,Z,w1,iQ,p,hs,ts,cE,Z,h2,λlh nh=>?_];let#[s1,e1]:=aA (o:=.lst ((aD hs).map V.str)) nh;generalize upd H lh (.lst ((aD hs).map V.str))=H1 at s1 e1 ⊢;apply#[lh,Z,#[_,.of e1],λD hD=>?_]
 let JS:dH:=λi out H'=>∃ad:Str->Addr,aa H1 H'/\H' D\.lst out/\jH K H' out (bB ((aD hs).take i) λh=>.ref (ad h))/\wB H' ((aD hs).take i) ad (λ_=>[])/\∀h∈(aD hs).take i,H1 (ad h)=none/\ad h≠D
 apply mU (own:=1) (fv:=[]) (xs:=(aD hs).map V.str) Z ee JS #[λ_=>D,aa.new hD,ay,.nil,#[by simp,by simp],by simp] (λi out H' _ ⟨_,sm,_⟩=>.of (sm _ _ e1)) (λout H2 ⟨ad,s2,jE,pa,ls,fr⟩=>?_) (λi x out H' hx ⟨ad,sm,hd,pa,ls,fr⟩=>?_);rotate_left
 ·let#[n,hn,rfl]:=i0 hx;have nn:n∉(aD hs).take i:=Jn nd hn;apply#[_,Z,Z,λNx hN=>dW ?_];apply#[_,Z,zl,λl nl=>?_];let#[s3,e3]:=aA (o:=.lst []) nl;generalize upd H' l (.lst [])=H3 at s3 e3 ⊢;apply#[zl,λt nt=>?_];let#[s4,e4]:=aA (o:=.tup [.str n,.ref l]) nt;generalize upd H3 t (.tup [.str n,.ref l])=H4 at s4 e4 ⊢;let eY:=s3.trans s4;let rM:=eY _ _ hd;have lD:l≠D:=λz=>by rw[z,hd] at nl;cases nl
  have Jx:∀h∈(aD hs).take i,ad h≠l:=λh hh z=>by
   have:=ls.1 h hh;rw[z,nl] at this;cases this
  let lo:=bK pa;rw[f_,cX] at lo
  have pD:∀{b:Addr} {zs:ai},H4 b\.tup zs->b≠D:=λhb z=>by
   rw[z,rM] at hb;cases hb
  have ne:∀h∈(aD hs).take i,h≠n:=λh hh z=>nn (z▸hh);apply#[out,rM,by omega,hN (out++[.ref t]) _ #[λm=>if m=n then l else ad m,fF (sm.trans eY) hD,ay,?_,#[λh hh=>?_,λh hh h' Hw z=>?_],λh hh=>?_]]
  ·have e:bB ((aD hs).take (i+1)) (λh=>.ref (if h=n then l else ad h))=bB ((aD hs).take i) (λh=>.ref (ad h))++[(Sum.inr n,.ref l)]:=by
    rw[eZ hn];unfold bB;rw[bY,eJ,vS];dsimp only;rw[aB Z];congr 1;exact qH λm hm=>by rw[au (ne m hm)]
   rw[e];exact kI (Paired.bu pa λy kv ⟨b,z,hb⟩=>#[b,z,by rw[ax (pD (eY _ _ hb))];exact eY _ _ hb]) (.cons #[t,Z,by rw[ax (pD e4)];exact e4] .nil)
  ·rw[eZ hn] at hh;rcases fR.mp hh with hh|hh
   ·dsimp only;rw[au (ne h hh),ax (fr h hh).2];exact eY _ _ (ls.1 h hh)
   obtain rfl:h=n:=⇑hh
   dsimp only;rw[aB Z,ax lD];exact s4 _ _ e3
  ·rw[eZ hn] at hh Hw;dsimp only at z;rcases fR.mp hh with a1|a1<;>rcases fR.mp Hw with a2|a2
   ·rw[au (ne h a1),au (ne h' a2)] at z;exact ls.2 h a1 h' a2 z
   ·have a2:h'=n:=⇑a2
    rw[au (ne h a1),aB a2] at z;exact absurd z (Jx h a1)
   ·have a1:h=n:=⇑a1
    rw[au (ne h' a2),aB a1] at z;exact absurd z.symm (Jx h' a2)
   rw[show h=n by simpa using a1,show h'=n by simpa using a2]
  rw[eZ hn] at hh;dsimp only;rcases fR.mp hh with hh|hh
  ·rw[au (ne h hh)];exact fr h hh
  obtain rfl:h=n:=⇑hh
  rw[aB Z];exact#[sm.free nl,lD]
 rw[ao,dz] at pa ls fr;apply#[D,out,_,Z,jE,pa,by rw[f_];omega,λdf Ak=>?_]
 have Aj:((bB (aD hs) λh=>V.ref (ad h)).map (·.1)).Nodup:=by
  rw[ET,xG,pe];exact nd.imp λn e=>n (ik e)
 rw[xx Aj];let#[s3,e3]:=aA (o:=.dK (bB (aD hs) λh=>V.ref (ad h))) Ak;lk;generalize upd H2 df (.dK (bB (aD hs) λh=>V.ref (ad h)))=H3 at s3 e3 ⊢;let ji:=(s1.trans s2).trans s3;have lI:H df=none:=(s1.trans s2).free Ak;have XT:∀h∈aD hs,H (ad h)=none:=λh hh=>s1.free (fr h hh).1;have Vc:∀h∈aD hs,H3 (ad h)\.lst []:=λh hh=>s3 _ _ (ls.1 h hh);let inj:=ls.2;clear s1 s2 s3 e1 pa ls fr jE nh hD Ak;apply#[_,Z,yu (AO ?_)];apply VQ (tab.same ji) Z Z Z Z λfl c' H4 b4 h_ Hy Ef=>?_;let#[tv,hT]:=kF tab
 have neT:∀{b:Addr} {o:HO},H3 b\o->(∀vs,o≠.tbl vs)->b≠T:=λ{b o} e n z=>by
  rw[z,ji _ _ hT] at e;exact n _ (eK e).symm
 have Gk:NT H H4:=λb o e n=>b4 _ _ (ji _ _ e) (neT (ji _ _ e) n);have Vb:∀h∈aD hs,H4 (ad h)\.lst []:=λh hh=>b4 _ _ (Vc h hh) (neT (Vc h hh) nofun);let e4:=b4 _ _ e3 (neT e3 nofun);have M5:a_ T H H4:=λb o e n=>b4 _ _ (ji _ _ e) n;apply#[.ref d,fl,c',(qs.map (·.1)).map V.str,GK qs,[false,true],[.ref g],Z,Z,Hy,Ef,.inr #[d,_,Z,Gk.dK Pl.hd,?_],by rw[ao,ao];exact Pl.cz,#[by decide,λk hk=>?_],Z,λH' x sm hx=>?_,λl zs H5 s5 nl DS pz ek=>?_]
 ·show _=((qs.map (·.1)).map _).map _;generalize qs.map (·.1)=ns';rw[cm];rfl
 ·let#[v,hv,rfl]:=bh.mp hk;let#[n,_,rfl]:=bh.mp hv;rfl
 ·let#[n,hn,rfl]:=bh.mp hx;let#[q,hq,rfl]:=bh.mp hn;apply#[g,p,q,hs,ts,qs,fp,Z,Z,(Pl.G.nt Gk).same sm,Pl.nd,hq,(wq q hq).1,(wq q hq).2,λt nt=>#[aa.new nt,t,Z,?_]];rw[ay];show _\HO.tup [.int (-(eI qs q.1)),.str q.1];rw[yU Pl.nd hq]
 rw[mz_ pz ek];have hl:upd H5 l (.lst ((js qs).map V.str)) l\.lst ((js qs).map V.str):=ay;have s6:aa H4 (upd H5 l (.lst ((js qs).map V.str))):=s5.trans (aa.new nl)
 have lne:∀h∈aD hs,ad h≠l:=λh hh z=>by
  have:=Vb h hh;rw[z,DS] at this;cases this
 generalize upd H5 l (.lst ((js qs).map V.str))=H6 at hl s6 ⊢
 have Vh:(js qs).length<64:=by
  rw[(Du qs).length_eq,ao];exact Pl.cz
 have dT:d≠T:=λz=>by
  have:=Pl.hd;rw[z,hT] at this;cases this
 let JR:bI:=λi σ H'=>∃v3:aF,σ=[some (.ref g),some (.ref d),some (.ref df),v3]/\a_ T H H'/\dZ H' T Ah/\H' df\.dK (bB (aD hs) λh=>V.ref (ad h))/\H' l\.lst ((js qs).map V.str)/\wB H' (aD hs) ad (λh=>((js qs).take i).filter λn=>decide (f n=h))
 apply#[l,Z,#[_,.of hl],fY (K:=K) (a:=l) (xs:=(js qs).map V.str) JR #[none,Z,λb o e n=>s6 _ _ (M5 b o e n),h_.same s6,s6 _ _ e4,hl,λh hh=>s6 _ _ (Vb h hh),inj] (λi σ H' _ ⟨_,_,_,_,_,z,_⟩=>.of z) ?_ ?_]
 ·rintro i x σ H' hx ⟨v3,rfl,bT,kQ,lP,sM,ls⟩;let#[n,hn,rfl]:=i0 hx;have nm:n∈qs.map (·.1):=(Du qs).mem_iff.mp (cj hn);have fm:f n∈aD hs:=(fG hs).mem_iff.mpr (Pl.at_ n nm);let iS:=bT _ _ Pl.hd dT;let la:=ls.1 (f n) fm;lk;apply#[_,Z,_,Z,_,Z,d,_,Z,gJ iS nm,df,_,Z,gJ lP fm,.inl #[Z,_,.of la],_,Z,ad (f n),_,_,Z,Z,la,?_,?_]
  ·rw[ao];have:=xD (λn'=>decide (f n'=f n)) ((js qs).take i);rw[cX] at this;dsimp only;omega
  apply#[_,Z,λb o e ne=>?_,dZ.putL kQ la,?_,?_,λh hh=>?_,inj]
  ·rw[ax (bj e (XT _ fm))];exact bT b o e ne
  ·rw[ax (cu lP la nofun)];exact lP
  ·rw[ax (lne _ fm).symm];exact sM
  by_cases z:h=f n
  ·subst z;dsimp only;rw[ay,eZ hn,zq,List.filter_cons_of_pos Z2,List.filter_nil,bY];rfl
  dsimp only;rw[ax (λy=>z (inj h hh _ fm y)),eZ hn,zq,List.filter_cons_of_neg ⇑(λy=>z y.symm),List.filter_nil,hG];exact ls.1 h hh
 rintro σ H' ⟨v3,rfl,bT,kQ,lP,sM,ls⟩;rw[ao,dz] at ls;exact#[_,Z,k df ad H' bT kQ lI lP ls XT]
end
abbrev oo:Stmt:=kA LJ 0
abbrev uC:Stmt:=kA LJ 1
abbrev oA:Stmt:=kA LJ 2
abbrev xa:Stmt:=kA LJ 3
def eL(g dl dv dp:Addr):List (Str × V):=aH CV (.ref dp) (aH qD (.ref dv) (aH jL (.ref dl) (aH "wares" (.ref g) [])))
theorem ib(g dl dv dp:Addr):(eL g dl dv dp).lookup ("wares":Str)\.ref g:=by
 unfold eL;rw[fJ,fJ,fJ,fJ,au Z0,au Z0,au Z0,aB Z]
theorem FS(g dl dv dp:Addr):(eL g dl dv dp).lookup (jL:Str)\.ref dl:=by
 unfold eL;rw[fJ,fJ,fJ,au Z0,au Z0,aB Z]
theorem NX(g dl dv dp:Addr):(eL g dl dv dp).lookup (qD:Str)\.ref dv:=by
 unfold eL;rw[fJ,fJ,au Z0,aB Z]
theorem FQ(g dl dv dp:Addr):(eL g dl dv dp).lookup (CV:Str)\.ref dp:=by
 unfold eL;rw[fJ,aB Z]
theorem Ek(g dl dv dp:Addr){m:Str}(h1:¬m="wares")(h2:¬m=jL)(h3:¬m=qD)(h4:¬m=CV):(eL g dl dv dp).lookup m=none:=by
 unfold eL;rw[fJ,fJ,fJ,fJ,au h4,au h3,au h2,au h1];rfl
structure hV (K:af) (CS:Addr):Prop where
 cl:pC K CS
 nW:mQ K CS "wares"
 nL:mQ K CS jL
 nV:mQ K CS qD
 nP:mQ K CS CV
structure Wd (hs:Xa) (ts:Xb) (qs:aC) (f:ag):Prop where
 Gd:Good hs ts
 nd:(qs.map (·.1)).Nodup
 cz:qs.length<64
 at_:∀n∈qs.map (·.1),f n∈hs.map (·.1)
 wq:∀q∈qs,0<=q.2.1/\q.2.1<=1000000000
structure jG (K:af) (CS CG CW:Addr) (H:Hp) (v g p:Addr) (hs:Xa) (ts:Xb) (qs:aC) (fp:az) (f:ag):Prop where
 ex:∃(dx dl dv dp:Addr) (ad:Str->Addr),H v\.ins CS dx (eL g dl dv dp)/\iE K CG CW H g p hs ts qs fp/\H dl\.dK (yC hs qs f)/\H dv\.dK (bB (aD hs) λh=>.int (oM hs qs f h))/\H dp\.dK (bB (aD hs) λh=>.ref (ad h))/\∀h∈aD hs,H (ad h)\.lst ((bO qs f h).map V.str)
theorem jG.nt{K:af}{CS CG CW:Addr}{H:Hp}{v g p:Addr}{hs:Xa}{ts:Xb}{qs:aC}{fp:az}{f:ag}(S:jG K CS CG CW H v g p hs ts qs fp f)(s:NT H G):jG K CS CG CW G v g p hs ts qs fp f:=by
 let#[dx,dl,dv,dp,ad,h1,h2,h3,h4,h5,h6]:=S.ex;exact#[dx,dl,dv,dp,ad,s.ins h1,h2.nt s,s.dK h3,s.dK h4,s.dK h5,λh hh=>s.lst (h6 h hh)]
theorem jG.same{K:af}{CS CG CW:Addr}{H:Hp}{v g p:Addr}{hs:Xa}{ts:Xb}{qs:aC}{fp:az}{f:ag}(S:jG K CS CG CW H v g p hs ts qs fp f)(s:aa H G):jG K CS CG CW G v g p hs ts qs fp f:=S.nt (NT.of s)
abbrev lo(qs:aC)(f:ag)(h:Str):Int:=ld f (qs.map d9) h
def lW(hs:Xa)(qs:aC)(f:ag)(a b:Str):Int:=lo qs f a * strOf hs b - lo qs f b * strOf hs a
def kD(hs:Xa)(a b:Str):Int:=strOf hs a+strOf hs b
section v
theorem ya:bx qN qN (ba oo):=bH
inductive Rv (K:af) (CS CG CW T:Addr) (vs:ai) (H:Hp) (Q:VK) (E:XK):Prop
 |mk:∀(v dx g p d:Addr) (hs:Xa) (ts:Xb) (qs:aC) (fp:az) (f:ag),vs=[.ref v,.ref g,.ref d]->H v\.ins CS dx []->v∉fp->xc K CG CW H g p d hs ts qs fp f->Wd hs ts qs f->dZ H T Ah->(∀H',(∀b o,H b\o->b≠v->b≠T->H' b\o)->dZ H' T Ah->jG K CS CG CW H' v g p hs ts qs fp f->Q .non H')->Rv K CS CG CW T vs H Q E
theorem jy_{CS CG CW T:Addr}(F:bp K "__init__" "Sight.__init__" oo f0 fd)(TS:hV K CS)(Jf:!br 3 "loads_at" mM (IX K CG CW))(MK:!br 4 "levels_at" mM (MW K CG CW))(S_:!br 6 sR mM (pW K CG CW T)) :
  aj P w K mg base aZ 7 f0 fd qN (Rv K CS CG CW T):=by
 exists F.bG ya;let#[v,dx,g,p,d,hs,ts,qs,fp,f,rfl,hv,KZ,Pl,W,tab,k]:=h;refine' #[_,ak ?s1 (ak ?s2 (ak ?s3 (aE ?s4))),?kk]
 case s1=>exact xj (pv 0) (pv 1) Z
 case s2=>exact xj (pv 0) (aX Jf hr %[1,2|0]) Z
 case s3=>exact xj (pv 0) (aX MK hr %[1,2|0]) Z
 case s4=>exact xj (pv 0) (aX S_ hr %[1,2|0]) Z
 have dv:d≠v:=cu Pl.hd hv nofun;have vh:∀{G:Hp},(∀b o,H b\o->b≠v->G b\o)->xc K CG CW G g p d hs ts qs fp f:=λ{G} up=>#[Pl.G.keep (λb hb o e=>up b o e (λz=>KZ (z▸hb))) (λb xs e=>up b _ e (cu e hv nofun)),Pl.Gd,Pl.rO,up _ _ Pl.hd dv,Pl.at_,Pl.nd,Pl.cz];apply#[_,Z,_,Z,v,CS,dx,_,Z,hv,TS.cl,TS.nW,by show 0<1000;decide,?_];have up1:∀b o,H b\o->b≠v->upd H v (.ins CS dx (aH "wares" (.ref g) [])) b\o:=λb o e n=>by rw[ax n];exact e
 have qk:upd H v (.ins CS dx (aH "wares" (.ref g) [])) v\.ins CS dx (aH "wares" (.ref g) []):=ay;have Es:∀{b},upd H v (.ins CS dx (aH "wares" (.ref g) [])) b=none->b≠v:=λ{b} e z=>by rw[z,ay] at e;cases e
 generalize upd H v (.ins CS dx (aH "wares" (.ref g) []))=H1 at up1 qk Es ⊢;apply#[_,Z,_,Z,g,p,d,hs,ts,qs,fp,f,Z,vh up1,λdl H2 s2 nl hl=>?_];let hv2:=s2 _ _ qk;have lv:dl≠v:=Es nl;apply#[_,Z,v,CS,dx,_,Z,hv2,TS.cl,TS.nL,by show 1<1000;decide,?_];have Nf:∀b o,H b\o->b≠v->upd H2 v (.ins CS dx (aH jL (.ref dl) (aH "wares" (.ref g) []))) b\o:=λb o e n=>by rw[ax n];exact s2 _ _ (up1 b o e n)
 have Wi:upd H2 v (.ins CS dx (aH jL (.ref dl) (aH "wares" (.ref g) []))) v\.ins CS dx (aH jL (.ref dl) (aH "wares" (.ref g) [])):=ay;have HX:∀{b},upd H2 v (.ins CS dx (aH jL (.ref dl) (aH "wares" (.ref g) []))) b=none->b≠v:=λ{b} e z=>by rw[z,ay] at e;cases e
 have rK:upd H2 v (.ins CS dx (aH jL (.ref dl) (aH "wares" (.ref g) []))) dl\.dK (yC hs qs f):=by rw[ax lv];exact hl
 generalize upd H2 v (.ins CS dx (aH jL (.ref dl) (aH "wares" (.ref g) [])))=H3 at Nf Wi HX rK ⊢;apply#[_,Z,_,Z,g,p,d,hs,ts,qs,fp,f,Z,vh Nf,W.wq,λde H4 s4 ne he=>?_];let Ph:=s4 _ _ Wi;have ev:de≠v:=HX ne;apply#[_,Z,v,CS,dx,_,Z,Ph,TS.cl,TS.nV,by show 2<1000;decide,?_];have wJ:∀b o,H b\o->b≠v->upd H4 v (.ins CS dx (aH qD (.ref de) (aH jL (.ref dl) (aH "wares" (.ref g) [])))) b\o:=λb o e n=>by rw[ax n];exact s4 _ _ (Nf b o e n)
 have Wh:upd H4 v (.ins CS dx (aH qD (.ref de) (aH jL (.ref dl) (aH "wares" (.ref g) [])))) v\.ins CS dx (aH qD (.ref de) (aH jL (.ref dl) (aH "wares" (.ref g) []))):=ay;have qy:∀{b},upd H4 v (.ins CS dx (aH qD (.ref de) (aH jL (.ref dl) (aH "wares" (.ref g) [])))) b=none->b≠v:=λ{b} e z=>by rw[z,ay] at e;cases e
 have rJ:upd H4 v (.ins CS dx (aH qD (.ref de) (aH jL (.ref dl) (aH "wares" (.ref g) [])))) dl\.dK (yC hs qs f):=by rw[ax lv];exact s4 _ _ rK
 have WQ:upd H4 v (.ins CS dx (aH qD (.ref de) (aH jL (.ref dl) (aH "wares" (.ref g) [])))) de\.dK (bB (aD hs) λh=>.int (oM hs qs f h)):=by rw[ax ev];exact he
 generalize upd H4 v (.ins CS dx (aH qD (.ref de) (aH jL (.ref dl) (aH "wares" (.ref g) []))))=H5 at wJ Wh qy rJ WQ ⊢;let#[es,hT,WT]:=id tab;have Tv:T≠v:=cu hT hv nofun;have Nq:dZ H5 T Ah:=#[es,wJ _ _ hT Tv,λe he=>wJ _ _ (WT e he) (λz=>by have:=WT e he;rw[z,hv] at this;cases this)];let _e:=vh wJ;apply#[_,Z,_,Z,g,p,d,hs,ts,qs,fp,f,Z,_e,W.wq,Nq,λdp ad H6 b6 Np np hp ls fra=>?_];have Lf:NT H5 H6:=b6.nt (wJ _ _ hT Tv);let Lq:=Lf.ins Wh;have pv':dp≠v:=qy np;have av:∀h∈aD hs,ad h≠v:=λh hh=>qy (fra h hh);apply#[_,Z,v,CS,dx,_,Z,Lq,TS.cl,TS.nP,by show 3<1000;decide,?_];apply k _ (λb o e n1 n2=>?_) ?_ #[dx,dl,de,dp,ad,ay,(_e.G.nt Lf).keep (λb hb o e=>?_) (λb xs e=>?_),?_,?_,?_,λh hh=>?_]
 ·rw[ax n1];exact b6 _ _ (wJ b o e n1) n2
 ·let#[es,e1,e2]:=Np;exact#[es,by rw[ax (cu e1 Lq nofun)];exact e1,λe he=>by rw[ax (λz=>by have:=e2 e he;rw[z,Lq] at this;cases this)];exact e2 e he]
 ·rw[ax (λz:b=v=>KZ (z▸hb))];exact e
 ·rw[ax (cu e Lq nofun)];exact e
 ·rw[ax lv];exact Lf.dK rJ
 ·rw[ax ev];exact Lf.dK WQ
 ·rw[ax pv'];exact hp
 rw[ax (av h hh)];exact ls.1 h hh
theorem uf:bx ["self","one","other","web"] mL (ba uC):=bH
inductive ED (K:af) (CS CG CW:Addr) (vs:ai) (H:Hp) (Q:VK) (E:XK):Prop
 |mk:∀(v g p:Addr) (a b:Str) (hs:Xa) (ts:Xb) (qs:aC) (fp:az) (f:ag),vs=[.ref v,.str a,.str b]->jG K CS CG CW H v g p hs ts qs fp f->Wd hs ts qs f->a∈aD hs->b∈aD hs->Q (.int (lW hs qs f a b)) H->ED K CS CG CW vs H Q E
theorem li_{CS CG CW:Addr}(F:bp K "lead" "Sight.lead" uC f0 fd)(TS:hV K CS)(TG:eR K CG)(TW:Txt K mg CW)(cS:!bF CW 2 "strength" kE (E4 K CW)):!aj aZ 3 f0 fd mL (ED K CS CG CW):=by
 exists F.bG uf;let#[v,g,p,a,b,hs,ts,qs,fp,f,rfl,S,W,ha,hb,k]:=h;let hu:=eO hr;refine' #[_,ak ?s1 (aE ?s2),?kk]
 case s1=>exact aO 3 uf.nd (eF (eF (pv 0) Z) Z)
 case s2=>exact bo (bw LH (bw jI (bV hu (eF (pv 0) Z) (pv 1)) (fX cS TW.cl hr (pv 3) %[2|0])) (bw jI (bV hu (eF (pv 0) Z) (pv 2)) (fX cS TW.cl hr (pv 3) %[1|0])))
 let#[dx,dl,dv,dp,ad,h1,G,h3,h4,h5,h6]:=S.ex;let#[lR,dw,dy,vs,cE,g1,g2,_]:=id G.ex;let#[gm,d1,l2,d3,mB,as,ef,w1,_]:=id g2.ex;have iQ:(dj d1 l2 d3).lookup ("strength":Str)=none:=ka _ _ _ Z0 Z0 Z0;let la:=Ei W.wq W.cz f a;let lb:=Ei W.wq W.cz f b;apply#[_,Z,v,CS,dx,_,_,Z,h1,TS.cl,TS.nW,ib _ _ _ _,g,CG,lR,_,_,Z,g1,TG.cl,TG.nW,qE _ _ _,?_];lk;apply#[_,Z,v,CS,dx,_,_,Z,h1,TS.cl,TS.nL,FS _ _ _ _,_,Z,dl,_,Z,gJ h3 ha,_,Z,p,gm,_,Z,w1,iQ,_,Z,p,b,strOf hs b,hs,ts,cE,Z,g2,W.Gd.qo,zj ((fG hs).mem_iff.mp hb),?_];apply#[_,_,Z,Z,.inl #[by omega,by omega],?_];apply#[_,Z,v,CS,dx,_,_,Z,h1,TS.cl,TS.nL,FS _ _ _ _,_,Z,dl,_,Z,gJ h3 hb,_,Z,p,gm,_,Z,w1,iQ,_,Z,p,a,strOf hs a,hs,ts,cE,Z,g2,W.Gd.qo,zj ((fG hs).mem_iff.mp ha),?_];exact#[_,_,Z,Z,.inl #[by omega,by omega],_,_,Z,Z,k]
theorem yd:bx mL mL (ba oA):=bH
inductive Mn (K:af) (CS CG CW:Addr) (vs:ai) (H:Hp) (Q:VK) (E:XK):Prop
 |mk:∀(v g p:Addr) (a b:Str) (hs:Xa) (ts:Xb) (qs:aC) (fp:az) (f:ag),vs=[.ref v,.str a,.str b]->jG K CS CG CW H v g p hs ts qs fp f->Wd hs ts qs f->a∈aD hs->b∈aD hs->Q (.int (kD hs a b)) H->Mn K CS CG CW vs H Q E
theorem jc_{CS CG CW:Addr}(F:bp K "joint_strength" "Sight.joint_strength" oA f0 fd)(TS:hV K CS)(TG:eR K CG)(TW:Txt K mg CW)(cS:!bF CW 2 "strength" kE (E4 K CW)):!aj aZ 3 f0 fd mL (Mn K CS CG CW):=by
 exists F.bG yd;let#[v,g,p,a,b,hs,ts,qs,fp,f,rfl,S,W,ha,hb,k]:=h;refine' #[_,aE ?s2,?kk]
 case s2=>exact bo (bw h9 (fX cS TW.cl hr (eF (eF (pv 0) Z) Z) %[1|0]) (fX cS TW.cl hr (eF (eF (pv 0) Z) Z) %[2|0]))
 let#[dx,dl,dv,dp,ad,h1,G,h3,h4,h5,h6]:=S.ex;let#[lR,dw,dy,vs,cE,g1,g2,_]:=id G.ex;let#[gm,d1,l2,d3,mB,as,ef,w1,_]:=id g2.ex;have iQ:(dj d1 l2 d3).lookup ("strength":Str)=none:=ka _ _ _ Z0 Z0 Z0;apply#[_,Z,v,CS,dx,_,_,Z,h1,TS.cl,TS.nW,ib _ _ _ _,g,CG,lR,_,_,Z,g1,TG.cl,TG.nW,qE _ _ _,p,gm,_,Z,w1,iQ,_,Z,p,a,strOf hs a,hs,ts,cE,Z,g2,W.Gd.qo,zj ((fG hs).mem_iff.mp ha),?_];apply#[_,Z,v,CS,dx,_,_,Z,h1,TS.cl,TS.nW,ib _ _ _ _,g,CG,lR,_,_,Z,g1,TG.cl,TG.nW,qE _ _ _,p,gm,_,Z,w1,iQ,_,Z,p,b,strOf hs b,hs,ts,cE,Z,g2,W.Gd.qo,zj ((fG hs).mem_iff.mp hb),?_];exact#[_,_,Z,Z,k]
end
theorem xr(a b:Str):decide (V.str a=V.str b)=decide (a=b):=by
 by_cases z:a=b
 ·simp[z]
 have:¬(V.str a=V.str b):=λe=>z (V.str.inj e);simp[z,this]
abbrev nb(hs:Xa)(ts:Xb)(h:Str):ae:=near (aD hs) (aK ts) h
def kR(hs:Xa)(qs:aC)(f:ag)(n:Str):aM:=[.inl (oM hs qs f n),.inr n]
def dO(hs:Xa)(ts:Xb)(qs:aC)(f:ag)(h:Str):ae:=(aU ((nb hs ts h).map (kR hs qs f))).map gU
def GL(hs:Xa)(qs:aC)(f:ag):V->aM
 |.str n=>kR hs qs f n
 |_=>[]
theorem m9_{hs:Xa}{ts:Xb}{qs:aC}{f:ag}{h:Str}(p:zs.Perm ((nb hs ts h).map V.str))(e:zs.map (GL hs qs f)=aU (((nb hs ts h).map V.str).map (GL hs qs f))):zs=(dO hs ts qs f h).map V.str:=by
 let#[ms,rfl,_]:=YT p;have e1:(ms.map V.str).map (GL hs qs f)=ms.map (kR hs qs f):=by rw[cm];rfl
 have e2:((nb hs ts h).map V.str).map (GL hs qs f)=(nb hs ts h).map (kR hs qs f):=by
  rw[cm];rfl
 rw[e1,e2] at e
 have em:(ms.map (kR hs qs f)).map gU=ms:=by
  rw[cm];exact List.map_id' ms
 unfold dO;rw[<- e,em]
theorem MO(hs:Xa)(ts:Xb)(qs:aC)(f:ag)(h:Str):(dO hs ts qs f h).Perm (nb hs ts h):=by
 unfold dO;let p:=(mV ((nb hs ts h).map (kR hs qs f))).map gU
 have e:((nb hs ts h).map (kR hs qs f)).map gU=nb hs ts h:=by
  rw[cm];exact List.map_id' _
 rw[e] at p;exact p
theorem CC{hs:Xa}{ts:Xb}{h n:Str}(m:n∈nb hs ts h):n∈aD hs:=(se.mp m).1
theorem AW(hs:Xa)(ts:Xb)(h:Str):(nb hs ts h).length<=(aD hs).length:=xD ..
abbrev mE:Str:="Sight.rising_neighbours.<locals>.<lambda>"
def rE:Expr:=Vl (Ob (Gj (iW xa) 0))
abbrev CH:ae:=iY
theorem HW:∀y∈(lM rE).names,y.2=.free->y.1∈CH:=by decide +kernel
theorem By:Jk ["other"] CH (lM rE):=#[by decide +kernel,Z,Z,Z,by decide +kernel,by decide +kernel,λx h=>HW (x,.free) (rX h) Z,by decide +kernel]
section v
inductive pT (K:af) (CS CG CW:Addr) (vs:ai) (gs:ai) (H:Hp) (Q:VK):Prop
 |mk:∀(v g p:Addr) (n:Str) (hs:Xa) (ts:Xb) (qs:aC) (fp:az) (f:ag),vs=[.str n]->gs=[.ref v]->jG K CS CG CW H v g p hs ts qs fp f->n∈aD hs->(∀t,H t=none->Q (.ref t) (upd H t (.tup [.int (oM hs qs f n),.str n])))->pT K CS CG CW vs gs H Q
def Bq(K:af)(CS CG CW:Addr):ai->ai->Hp->VK->XK->Prop:=λvs gs H Q _=>pT K CS CG CW vs gs H Q
theorem kX_{CS CG CW:Addr}(TS:hV K CS):!jM 1 mE (GH rE) (GG rE) (lM rE) ["other"] CH (Bq K CS CG CW):=by
 apply Ao By (λpm c' lU cl us hl=>?_) (λA outer s H f0 cd cl vs gs Q E hr h hp=>?_)
 ·match us,hl with
  |[_],_=>rfl
 let#[v,g,p,n,hs,ts,qs,fp,f,rfl,rfl,S,hn,k]:=h;let hu:=eO hr;let#[dx,dl,dv,dp,ad,h1,G,h3,h4,h5,h6]:=S.ex;apply#[_,eW %[bV hu (eF (pv 1) Z) (pv 0),0|0],?_];exact#[_,Z,v,CS,dx,_,_,Z,h1,TS.cl,TS.nV,NX _ _ _ _,_,Z,dv,_,Z,gJ h4 hn,_,Z,zl,λt ht=>k t ht]
def IS(L:Addr):List (Str × Addr):=[("self",L+1)]
theorem Sv{f:Addr}:closureFor (lM rE) (PyProof.Rows.envOfC "Sight.rising_neighbours" (ba xa) L f cd)=pure (IS L):=by rfl
theorem Sz{f:Addr}:∀q∈IS L,(PyProof.Rows.envOfC "Sight.rising_neighbours" (ba xa) L f cd).cells.lookup q.1\q.2:=by
 intro q hq;simp only[IS,bX,xH,or_false] at hq;rcases hq with rfl;rfl
theorem OT:∀x∈CH,∃c,(IS L).lookup x\c:=by
 intro x hx;simp only[CH,bX,xH,or_false] at hx;rcases hx with rfl;exact#[_,Z]
theorem OL:∀x∈CH,(ba xa).names.lookup x\.cell:=by decide +kernel
theorem Bs:bx kE kE (ba xa):=bH
inductive Ii (K:af) (CS CG CW T:Addr) (vs:ai) (H:Hp) (Q:VK) (E:XK):Prop
 |mk:∀(v g p:Addr) (h:Str) (hs:Xa) (ts:Xb) (qs:aC) (fp:az) (f:ag),vs=[.ref v,.str h]->jG K CS CG CW H v g p hs ts qs fp f->Wd hs ts qs f->h∈aD hs->dZ H T mE->(∀l H',a_ T H H'->dZ H' T mE->H l=none->H' l\.lst ((dO hs ts qs f h).map V.str)->Q (.ref l) H')->Ii K CS CG CW T vs H Q E
theorem kB_{CS CG CW T:Addr}(F:mw K CL "Sight.rising_neighbours" xa f0 c0 fd)(B:Bi mg)(TS:hV K CS)(TG:eR K CG)(TW:Txt K mg CW)(hC:PySem.W.CodeHd base c0 T)(vB:base.BuiltinsAt mg T)(cN:!bF CW 2 "neighbours" kE (Ml K CW)) :
  aj P w K mg base aZ 4 f0 fd kE (Ii K CS CG CW T):=by
 apply F.ok Bs (λvs H Q E h=>?_) (λA outer s H vs Q E hr h=>?_)
 ·let#[v,g,p,h,hs,ts,qs,fp,f,rfl,_]:=h;rfl
 let#[v,g,p,h,hs,ts,qs,fp,f,rfl,S,W,hh,tab,k]:=h;have vv:aY 2 _:=hr.mono (by decide);refine' ⟨_,aE (bo ?l2),?kk⟩
 case l2=>exact XJ (px:="other") (dS:=CH) (cl:=IS s.heap.objs.size) (is:=[0]) (k:=1) Z (by rfl) B.sorted %[fX cN TW.cl vv (eF (eF (pv 0) Z) Z) %[1|0]|0] (Wr (VD (P:=T) (c:=c0) Z Sv Z hC vB) Vr) (kX_ (CG:=CG) (CW:=CW) TS) hr Sz OT OL Z
 let#[dx,dl,dv,dp,ad,h1,G,h3,h4,h5,h6]:=S.ex;let#[lR,dw,dy,vs,cE,g1,g2,_]:=id G.ex;let#[gm,d1,l2,d3,mB,as,ef,w1,_]:=id g2.ex;have iQ:(dj d1 l2 d3).lookup ("neighbours":Str)=none:=ka _ _ _ Z0 Z0 Z0;apply#[_,Z,v,CS,dx,_,_,Z,h1,TS.cl,TS.nW,ib _ _ _ _,g,CG,lR,_,_,Z,g1,TG.cl,TG.nW,qE _ _ _,p,gm,_,Z,w1,iQ,_,Z,p,h,hs,ts,cE,Z,g2,W.Gd.sE,(fG hs).mem_iff.mp hh,λln nn=>?_];let#[s1,e1]:=aA (o:=.lst ((nb hs ts h).map V.str)) nn;show jQ _ (upd H ln (.lst ((nb hs ts h).map V.str))) _;generalize upd H ln (.lst ((nb hs ts h).map V.str))=H1 at s1 e1 ⊢;apply yu (AO ?_);apply VQ (tab.same s1) Z Z Z Z λfl c' H4 b4 h_ Hy Ef=>?_;let#[tv,hT]:=kF tab;have Gk:NT H1 H4:=b4.nt (s1 _ _ hT);let S4:=(S.same s1).nt Gk;have n8:(nb hs ts h).length<=8:=by have:=AW hs ts h;have:=W.Gd.eU;have:=W.Gd.h8;omega
 apply#[.ref ln,fl,c',(nb hs ts h).map V.str,GL hs qs f,[false,true],[.ref v],Z,Z,Hy,Ef,.inl #[ln,Z,.of (Gk.lst e1)],by rw[ao];omega,#[by decide,λk hk=>?_],Z,λH' x sm hx=>?_,λl zs H5 s5 nl DS pz ek=>?_]
 ·let#[v,hv,rfl]:=bh.mp hk;let#[n,_,rfl]:=bh.mp hv;rfl
 ·let#[n,hn,rfl]:=bh.mp hx;apply#[v,g,p,n,hs,ts,qs,fp,f,Z,Z,S4.same sm,CC hn,λt nt=>#[aa.new nt,t,Z,?_]];rw[ay];rfl
 rw[m9_ pz ek];have s6:aa H4 (upd H5 l (.lst ((dO hs ts qs f h).map V.str))):=s5.trans (aa.new nl);apply k l _ (λb o e n=>s6 _ _ (b4 _ _ (s1 _ _ e) n)) (h_.same s6) ?_ ay;cases z:H l with
 |none=>rfl
 |some o=>
  by_cases y:l=T
  ·let#[es,e,_]:=h_;rw[y,e] at DS;cases DS
  rw[b4 _ _ (s1 _ _ z) y] at DS;cases DS
theorem BB:bx qM qM (ba uJ):=bH
def j5(g:Str)(a b:Int):Bool:=if g="high" then decide (0<a) else if g="fall" then decide (b<2 * a) else decide (b<=a)
def tX:Sp:=λvs H Q _=>∃(g:Str) (a b:Int),vs=[.str g,.int a,.int b]/\Q (.bl (j5 g a b)) H
theorem l4_(F:bp K "fits" "fits" uJ f0 fd):!aj aZ 1 f0 fd qM tX:=by
 exists F.bG BB;let#[g,a,b,rfl,k]:=h;refine' #[_,ak ?s1 (ak ?s2 (aE ?s3)),?kk]
 case s1=>exact bP (c_ iF (pv 0) cn) (aE (bo (iI sP (pv 1) aI))) bQ
 case s2=>exact bP (c_ iF (pv 0) cn) (aE (bo (iI sP (bw jI aI (pv 1)) (pv 2)))) bQ
 case s3=>exact bo (iI Vk (pv 1) (pv 2))
 unfold j5 at k;apply#[_,Z,Z,_,Z,?_];rw[xr];apply aQ (λc=>?_) (λc=>?_)
 ·have c:g="high":=l_ c;rw[aB c] at k;exact#[_,Z,_,_,Z,Z,k]
 have c:¬g="high":=λz=>c (cw z);rw[au c] at k;apply#[_,Z,Z,_,Z,?_];rw[xr];apply aQ (λc=>?_) (λc=>?_)
 ·have c:g="fall":=l_ c;rw[aB c] at k;exact#[_,Z,_,_,Z,Z,.inl #[by decide,by decide],_,Z,_,_,Z,Z,k]
 have c:¬g="fall":=λz=>c (cw z);rw[au c] at k;exact#[_,Z,_,Z,_,_,Z,Z,k]
end
abbrev Mv:=Str × Str × Str
def kM(m:Mv):aM:=[.inr m.1,.inr m.2.1,.inr m.2.2]
def Bd(qs:aC)(n:Str):Option (Xb):=match qs.find? λq=>decide (q.1=n) with
 |some q=>q.2.2
 |none=>none
theorem HQ{qs:aC}(nd:(qs.map (·.1)).Nodup){q:Pc}(h:q∈qs):Bd qs q.1=q.2.2:=by
 unfold Bd;cases e:qs.find? λp=>decide (p.1=q.1) with
 |none=>
  have:=AY.mp e q h;simp at this
 |some p=>
  let a:=List.mem_of_find?_eq_some e;let b:=List.find?_some e;have b:p.1=q.1:=l_ b;rw[R0 nd a h b]
def jU(hs:Xa)(ts:Xb)(qs:aC)(n a b:Str):Bool:=Cy hs ts (Bd qs n) (some a) (some b)
def qp(hs:Xa)(ts:Xb)(qs:aC)(f:ag)(gd:Str)(gv:ae)(a b n:Str):Bool:=!decide (n∈gv)&&(j5 gd (lW hs qs f a b) (eI qs n * kD hs a b)&&jU hs ts qs n a b)
def iC(hs:Xa)(ts:Xb)(qs:aC)(f:ag)(gd:Str)(gv:ae)(a b:Str):List Mv:=match (bO qs f a).find? (qp hs ts qs f gd gv a b) with
 |some n=>[(n,a,b)]
 |none=>[]
theorem W7{α:Type}{p:α->Bool}:∀{l:List α} {i:Nat} {x:α},l[i]? = some x->p x=true->(∀y∈l.take i,p y=false)->l.find? p\x
 |a::l,0,x,h,hp,_=>by
  cases h;rw[List.find?_cons_of_pos hp]
 |a::l,i+1,x,h,hp,hn=>by
  have na:¬p a=true:=by rw[hn a Z2];decide
  rw[List.find?_cons_of_neg na];exact W7 ⇑h hp λy hy=>hn y (by simp[hy])
 |[],i,x,h,_,_=>by simp at h
theorem L4{qs:aC}{f:ag}{h n:Str}(m:n∈bO qs f h):n∈qs.map (·.1)/\f n=h:=by
 let#[a,b]:=se.mp m;exact#[(Du qs).mem_iff.mp a,l_ b]
variable{T:Addr}
section v
theorem pZ:bx ["sight","one","other","guard","given","lead","joint","piece"] mi (ba BH):=bH
inductive kZ (K:af) (CS CG CW:Addr) (vs:ai) (H:Hp) (Q:VK) (E:XK):Prop
 |mk:∀(v g p lg:Addr) (a b gd:Str) (gv:ae) (hs:Xa) (ts:Xb) (qs:aC) (fp:az) (f:ag),vs=[.ref v,.str a,.str b,.str gd,.ref lg]->jG K CS CG CW H v g p hs ts qs fp f->Wd hs ts qs f->a∈aD hs->b∈aD hs->H lg\.lst (gv.map V.str)->(∀l ys H',aa H H'->H l=none->H' l\.lst ys->bg K H' ys ((iC hs ts qs f gd gv a b).map kM)->Q (.ref l) H')->kZ K CS CG CW vs H Q E
theorem mn_{CS CG CW:Addr}(F:bp K "heaviest_move" "heaviest_move" BH f0 fd)(TS:hV K CS)(TG:eR K CG)(cL:!bF CS 3 "lead" mL (ED K CS CG CW))(cJ:!bF CS 3 "joint_strength" mL (Mn K CS CG CW))(cF:!br 1 "fits" qM tX)(cW:!bF CG 2 "weight" AI (Dq K CG CW CP))(cM:!bF CG 3 "may_go" qR (LQ K CG CW CP)) :
  aj P w K mg base aZ 4 f0 fd mi (kZ K CS CG CW):=by
 exists F.bG pZ;let#[v,g,p,lg,a,b,gd,gv,hs,ts,qs,fp,f,rfl,S,W,ha,hb,hg,k]:=h;let hu:=eO hr;let sz:=cc;have vv:aY 2 _:=hr.mono (by decide);refine' #[_,?r0,?kk]
 case' r0=>refine' ak ?s1 ?r1
 case' r1=>refine' ak ?s2 ?r2
 case' r2=>refine' ak ?s3 (aE ?s4)
 case s1=>exact aO 5 pZ.nd (fX cL TS.cl hr (pv 0) %[1,2|0])
 case s2=>exact aO 6 pZ.nd (fX cJ TS.cl hr (pv 0) %[1,2|0])
 case' s3=>refine' eE dM Z (dA (bV hu (eF (pv 0) Z) (pv 1))) (bN 7 pZ.nd) (aE ?b3)
 case' b3=>refine' bP (PW.pt (zd ?c1 (Df ?c2))) (aE ?b4) bQ
 case c1=>exact c_ (Mx fQ (lX hr 0)) (pv 7) (pv 4) (by with_unfolding_all rfl)
 case c2=>exact fZ (aX cF hr %[3,5,bw jI (fX cW TG.cl vv (eF (pv 0) Z) %[7|0]) (pv 6)|0])
 case b4=>exact bP (fZ (fX cM TG.cl hr (eF (pv 0) Z) %[7,1,2|0])) (aE (bo (cy %[eW %[7,1,2|0]|0]))) bQ
 case s4=>exact bo (cy aJ)
 let#[dx,dl,dv,dp,ad,h1,G,h3,h4,h5,h6]:=S.ex;have no:∀{m:Str},¬m="wares"->¬m=jL->¬m=qD->¬m=CV->(eL g dl dv dp).lookup m=none:=λa b c d=>Ek _ _ _ _ a b c d;apply#[_,Z,v,dx,_,Z,h1,no Z0 Z0 Z0 Z0,_,Z,_,Z,v,g,p,a,b,hs,ts,qs,fp,f,Z,S,W,ha,hb,?_];lk;apply#[_,Z,v,dx,_,Z,h1,no Z0 Z0 Z0 Z0,_,Z,_,Z,v,g,p,a,b,hs,ts,qs,fp,f,Z,S,W,ha,hb,?_];lk;let hl:=h6 a ha
 let JQ:bI:=λi σ H'=>∃v7:aF,σ=[some (.ref v),some (.str a),some (.str b),some (.str gd),some (.ref lg),some (.int (lW hs qs f a b)),some (.int (kD hs a b)),v7]/\aa H H'/\∀n∈(bO qs f a).take i,qp hs ts qs f gd gv a b n=false
 apply#[_,Z,v,CS,dx,_,_,Z,h1,TS.cl,TS.nP,FQ _ _ _ _,_,Z,dp,_,Z,gJ h5 ha,ad a,Z,#[_,.of hl],fY (K:=K) (a:=ad a) (xs:=(bO qs f a).map V.str) JQ #[none,Z,aa.refl H,by simp] (λi σ H' _ ⟨_,_,sm,_⟩=>.of (sm _ _ hl)) ?_ ?_]
 ·rintro i x σ H' hx ⟨v7,rfl,sm,nf⟩;let#[n,hn,rfl]:=i0 hx;let#[nm,fn]:=L4 (cj hn);let#[q,hq,rfl]:=bh.mp nm;let G':=G.same sm;let mJ:=sm _ _ h1;let#[lR,dw,dy,vs,cE,g1,g2,_]:=id G'.ex;have Pe:(cb p dw dy).lookup ("weight":Str)=none:=xp _ _ _ Z0 Z0 Z0;have Pz:(cb p dw dy).lookup ("may_go":Str)=none:=xp _ _ _ Z0 Z0 Z0;let wq:=W.wq q hq;let ew:=yU W.nd hq;let ey:=HQ W.nd hq
  have go:∀{H2:Hp},aa H' H2->qp hs ts qs f gd gv a b q.1=false->∃v7:aF,[some (V.ref v),some (V.str a),some (V.str b),some (V.str gd),some (V.ref lg),some (V.int (lW hs qs f a b)),some (V.int (kD hs a b)),some (V.str q.1)]=[some (V.ref v),some (V.str a),some (V.str b),some (V.str gd),some (V.ref lg),some (V.int (lW hs qs f a b)),some (V.int (kD hs a b)),v7]/\aa H H2/\∀n∈(bO qs f a).take (i+1),qp hs ts qs f gd gv a b n=false:=λ{H2} s2 e=>#[_,Z,sm.trans s2,λm hm=>by
   rw[eZ hn] at hm;rcases fR.mp hm with hm|hm
   ·exact nf m hm
   rw[jw.mp hm];exact e]
  lk;apply#[_,Z,_,Z,q.1,gv,Z,#[lg,_,Z,.of (sm _ _ hg),Dr gv],_,Z,?_];rw[aB Z];apply aQ (λc=>?_) (λc=>?_)
  ·have c:¬q.1∈gv:=⇑c
   apply#[_,Z,_,Z,_,Z,v,CS,dx,_,_,Z,mJ,TS.cl,TS.nW,ib _ _ _ _,g,lR,_,Z,g1,Pe,_,Z,g,p,.str q.1,some q.1,hs,ts,qs,fp,Z,G',W.nd,Z,.inl #[q,hq,Z,?_]];apply#[_,Z,_,_,Z,Z,.inl #[by omega,by omega],gd,lW hs qs f a b,q.2.1 * kD hs a b,Z,_,Z,?_];apply aQ (λc2=>?_) (λc2=>?_)
   ·apply#[_,Z,v,CS,dx,_,_,Z,mJ,TS.cl,TS.nW,ib _ _ _ _,g,lR,_,Z,g1,Pz,_,Z,_,Z,_,Z,g,p,.str q.1,.str a,.str b,some q.1,some a,some b,hs,ts,qs,fp,Z,G',W.nd,W.Gd.sE,Z,.inl #[q,hq,Z,Z,Z,λH2 s2=>#[_,Z,?_]]];apply aQ (λc3=>?_) (λc3=>?_)
    ·have pt:qp hs ts qs f gd gv a b q.1=true:=by
      unfold qp jU;rw[ew,ey,c2,dU c];simpa using c3
     apply#[_,Z,_,Z,_,Z,zl,λt nt=>?_];let#[s3,e3]:=aA (o:=.tup [.str q.1,.str a,.str b]) nt;generalize upd H2 t (.tup [.str q.1,.str a,.str b])=H3 at s3 e3 ⊢;apply#[zl,λl nl=>?_];let s4:=aa.new (o:=.lst [.ref t]) nl;let jC:=(sm.trans s2).trans s3;apply k l [.ref t] _ (jC.trans s4) (jC.free nl) ay ?_;unfold iC;rw[W7 hn pt nf];exact .cons #[t,Z,s4 _ _ e3] .nil
    apply go s2 ?_;unfold qp jU;rw[ew,ey,c2];have c3:Cy hs ts q.2.2 (some a) (some b)=false:=⇑c3
    rw[c3,pb,pb]
   apply go (aa.refl H') ?_;unfold qp;rw[ew,show j5 gd (lW hs qs f a b) (q.2.1 * kD hs a b)=false by simpa using c2,r9,pb]
  have c:q.1∈gv:=⇑c
  apply go (aa.refl H') ?_;unfold qp;rw[cw c];rfl
 rintro σ H' ⟨v7,rfl,sm,nf⟩;rw[ao,dz] at nf;apply#[zl,λl nl=>?_];apply k l [] _ (sm.trans (aa.new nl)) (sm.free nl) ay ?_;unfold iC;rw[AY.mpr λn hn=>by rw[nf n hn];decide];exact .nil
def zo(hs:Xa)(ts:Xb)(qs:aC)(f:ag)(gd h:Str):List Mv:=match dO hs ts qs f h with
 |[]=>[]
 |o::_=>iC hs ts qs f gd [] h o
theorem YF:bx ["sight","hand","guard","around"] Ep (ba Se):=bH
inductive kY (K:af) (CS CG CW T:Addr) (mv:Xa->Xb->aC->(Str->Str)->Str->Str->List Mv) (vs:ai) (H:Hp) (Q:VK) (E:XK):Prop
 |mk:∀(v g p:Addr) (h gd:Str) (hs:Xa) (ts:Xb) (qs:aC) (fp:az) (f:ag),vs=[.ref v,.str h,.str gd]->jG K CS CG CW H v g p hs ts qs fp f->Wd hs ts qs f->h∈aD hs->dZ H T mE->(∀l ys H',a_ T H H'->dZ H' T mE->H l=none->H' l\.lst ys->bg K H' ys ((mv hs ts qs f gd h).map kM)->Q (.ref l) H')->kY K CS CG CW T mv vs H Q E
theorem a_.new{H:Hp}(b:a_ T H G)(hT:∃vs,G T\.tbl vs)(n:G l=none):H l=none:=by
 cases z:H l with
 |none=>rfl
 |some o=>
  by_cases y:l=T
  ·let#[vs,e]:=hT;rw[y,e] at n;cases n
  rw[b _ _ z y] at n;cases n
theorem gI_{CS CG CW:Addr}(F:bp K "moves_by_least" "moves_by_least" Se f0 fd)(TS:hV K CS)(cR:!bF CS 4 CL kE (Ii K CS CG CW T))(cH:!br 4 "heaviest_move" mi (kZ K CS CG CW)):!aj aZ 5 f0 fd Ep (kY K CS CG CW T zo):=by
 exists F.bG YF;let#[v,g,p,h,gd,hs,ts,qs,fp,f,rfl,S,W,hh,tab,k]:=h;refine' #[_,ak ?s1 (ak ?s2 (aE ?s3)),?kk]
 case s1=>exact aO 3 YF.nd (fX cR TS.cl hr (pv 0) %[1|0])
 case s2=>exact bP (c_ (Vn fQ (lX hr 0)) (pv 3) (cy aJ)) (aE (bo (cy aJ))) bQ
 case s3=>exact bo (aX cH hr %[0,1,bM gi (pv 3) aI,2,cy aJ|0])
 let#[dx,dl,dv,dp,ad,h1,G,h3,h4,h5,h6]:=S.ex;apply#[_,Z,v,dx,_,Z,h1,Ek _ _ _ _ Z0 Z0 Z0 Z0,_,Z,v,g,p,h,hs,ts,qs,fp,f,Z,S,W,hh,tab,λl1 H1 b1 xR n1 e1=>?_];lk;let#[tv,hT]:=kF tab;let S1:=S.nt (b1.nt hT);apply#[_,Z,zl,λl2 n2=>?_];let#[s2,e2]:=aA (o:=.lst []) n2;generalize upd H1 l2 (.lst [])=H2 at s2 e2 ⊢;let Ey:=s2 _ _ e1;have b2:a_ T H H2:=λb o e n=>s2 _ _ (b1 _ _ e n);let mZ:=xR.same s2;let Gb:=MO hs ts qs f h;apply#[dO hs ts qs f h,[],YU Ey,YU e2,_,Z,?_];cases z:dO hs ts qs f h with
 |nil=>
  apply fw #[zl,λl3 n3=>?_];let s3:=aa.new (o:=.lst []) n3;apply k l3 [] _ (λb o e n=>s3 _ _ (b2 _ _ e n)) (mZ.same s3) (a_.new b2 (kF mZ) n3) ay ?_;unfold zo;rw[z];exact .nil
 |cons o r=>
  rw[dU Z2];apply bE ?_;rw[z] at Ey Gb;have ob:o∈aD hs:=CC (Gb.mem_iff.mp cZ);apply#[_,Z,_,Z,_,Z,l1,_,0,.str o,Z,Z,.of Ey,L2.iX (j:=0) Z,_,Z,zl,λl3 n3=>?_];let#[s3,e3]:=aA (o:=.lst []) n3;generalize upd H2 l3 (.lst [])=H3 at s3 e3 ⊢;apply#[v,g,p,l3,h,o,gd,[],hs,ts,qs,fp,f,Z,(S1.same s2).same s3,W,hh,ob,e3,λl ys H4 s4 nl hl tu=>?_];let eY:=s3.trans s4;apply k l ys H4 (λb o e n=>eY _ _ (b2 _ _ e n)) (mZ.same eY) (a_.new b2 (kF mZ) (s3.free nl)) hl ?_;unfold zo;rw[z];exact tu
end
end Ev
abbrev fW:=List Ev.Mv
namespace Ev
open PySem L2
abbrev Bb:=Rl->Xa->Xb->aC->(Str->Str)->Str->fW
def C8(mv:Bb)(r:Rl)(hs:Xa)(ts:Xb)(qs:aC)(f:ag):fW:=if r.2.2.1="one" then ((aD hs).flatMap (mv r hs ts qs f)).take 1 else (aD hs).flatMap (mv r hs ts qs f)
def ze:Bb:=λr hs ts qs f h=>zo hs ts qs f (r.2.2.2.getD "") h
theorem W_:∀r∈rl,r.2.1≠"shares"->r.2.2.2.isSome=true:=by decide +kernel
theorem Dg(hs:Xa)(ts:Xb)(qs:aC)(f:ag)(gd:Str)(gv:ae)(a b:Str):(iC hs ts qs f gd gv a b).length<=1:=by
 unfold iC;split
 ·exact bq 1
 exact gF 1
theorem i2_(r:Rl)(hs:Xa)(ts:Xb)(qs:aC)(f:ag)(h:Str):(ze r hs ts qs f h).length<=1:=by
 unfold ze zo;split
 ·exact gF 1
 exact Dg ..
theorem Jq{α β:Type}{F:α->β->Prop}:∀{ys:List α} {ks:List β} (n:Nat),Paired F ys ks->Paired F (ys.take n) (ks.take n)
 |_,_,0,_=>.nil
 |_,_,_+1,.nil=>.nil
 |_,_,n+1,.cons h t=>.cons h (Jq n t)
theorem XC{α:Type}{g:Str->List α}{n:Nat}(h:∀x,(g x).length<=n):∀l:ae,(l.flatMap g).length<=n * l.length
 |[]=>by simp
 |a::l=>by
  have:=h a;let ih:=XC h l;rw[xy,eA,iG,Nat.mul_succ];omega
variable{f0:Addr}{fd:Ad}
section v
theorem Sr:bx w_ w_ (ba Iu):=bH
inductive xg (K:af) (CS CG CW T:Addr) (pr:Rl->Prop) (mv:Bb) (vs:ai) (H:Hp) (Q:VK) (E:XK):Prop
 |mk:∀(v g p aw:Addr) (h:Str) (hs:Xa) (ts:Xb) (qs:aC) (fp:az) (f:ag),∀r∈rl,vs=[.ref v,.str h,.ref aw]->pr r->(∀H',i6 K H' aw [.str r.2.1,.str r.2.2.1,fN r.2.2.2])->jG K CS CG CW H v g p hs ts qs fp f->Wd hs ts qs f->h∈aD hs->dZ H T mE->(∀l ys H',a_ T H H'->dZ H' T mE->H l=none->H' l\.lst ys->bg K H' ys ((mv r hs ts qs f h).map kM)->Q (.ref l) H')->xg K CS CG CW T pr mv vs H Q E
theorem gP_{CS CG CW T:Addr}(F:bp K "moves_from" "moves_from" Iu f0 fd)(cL:!br 5 "moves_by_least" Ep (kY K CS CG CW T zo)):!aj aZ 6 f0 fd w_ (xg K CS CG CW T (λr=>r.2.1="least") ze):=by
 exists F.bG Sr;let#[v,g,p,aw,h,hs,ts,qs,fp,f,r,iP,rfl,le,ha,S,W,hh,tab,k]:=h;refine' #[_,ak ?s1 fH,?kk]
 case s1=>exact bP (c_ iF (bM eP (pv 2) aI) cn) (aE (bo (aX cL hr %[0,1,bM eP (pv 2) aI|0]))) bQ
 let so:=W_ r iP (by rw[le];decide +kernel);let#[gd,eg]:=E8.mp so;apply#[_,Z,aw,_,_,_,Z,Z,ha _,Z,Z,_,Z,?_];rw[xr,cw le];apply fw ?_;apply#[_,Z,_,Z,_,Z,aw,_,_,.str gd,Z,Z,ha _,?_,v,g,p,h,gd,hs,ts,qs,fp,f,Z,S,W,hh,tab,λl ys H' b t n e tu=>k l ys H' b t n e ?_]
 ·rw[eg];rfl
 unfold ze;rw[eg];exact tu
theorem LO:bx ["sight","rule","moment","words","moves","hand"] AJ (ba k_):=bH
inductive nB (K:af) (CS CG CW T:Addr) (pr:Rl->Prop) (mv:Bb) (vs:ai) (H:Hp) (Q:VK) (E:XK):Prop
 |mk:∀(v g p:Addr) (m:Int) (hs:Xa) (ts:Xb) (qs:aC) (fp:az) (f:ag),∀r∈rl,vs=[.ref v,.str r.1,.int m]->pr r->jG K CS CG CW H v g p hs ts qs fp f->Wd hs ts qs f->dZ H T mE->(∀l ys H',a_ T H H'->dZ H' T mE->H l=none->H' l\.lst ys->bg K H' ys ((C8 mv r hs ts qs f).map kM)->Q (.ref l) H')->nB K CS CG CW T pr mv vs H Q E
theorem kV_{CS CG CW T:Addr}{pr:Rl->Prop}{mv:Bb}(F:bp K "moves_seen" "moves_seen" k_ f0 fd)(TS:hV K CS)(TG:eR K CG)(TW:Txt K mg CW)(npr:∀r,pr r->r.2.1≠"turns")(hb:∀r hs ts qs f h,Wd hs ts qs f->(mv r hs ts qs f h).length<=1000)(IZ:!br 2 "checked_words" ["rule"] (Mt K))(cH:!bF CW 1 "hands" iY (EN K CW))(cF:!br 6 "moves_from" w_ (xg K CS CG CW T pr mv)) :
  aj P w K mg base aZ 7 f0 fd AJ (nB K CS CG CW T pr mv):=by
 exists F.bG LO;let#[v,g,p,m,hs,ts,qs,fp,f,r,iP,rfl,hp,S,W,tab,k]:=h;let sz:=cc;have ko:aY 1 _:=hr.mono (by decide);refine' #[_,?r0,?kk]
 case' r0=>refine' ak ?s1 ?r1
 case' r1=>refine' ak ?s2 ?r2
 case' r2=>refine' ak ?s3 ?r3
 case' r3=>refine' ak ?s4 (aE ?s5)
 case s1=>exact aO 3 LO.nd (aX IZ hr %[1|0])
 case s2=>exact bP (c_ iF (bM eP (pv 3) aI) cn) fH bQ
 case s3=>exact aO 4 LO.nd (cy aJ)
 case' s4=>refine' eE dM Z (dA (AS cH TW.cl ko (eF (eF (pv 0) Z) Z))) (bN 5 LO.nd) (ak ?b1 (aE ?b2))
 case b1=>exact gP (gC gO PySem.F.slot_list_extend PySem.F.type_list_extend Ju (pv 4) %[aX cF hr %[0,5,3|0]|0])
 case b2=>exact bP (PW.pt (zd (c_ iF (bM eP (pv 3) aI) cn) (Df (c_ (Ms (lX hr 0)) (pv 4) (cy aJ))))) (aE (bo (xq A2 (pv 4) xo (xn aI)))) bQ
 case s5=>exact bo (pv 4)
 apply#[_,Z,r,iP,Z,λaw ha=>?_];lk;apply#[_,Z,aw,_,_,_,Z,Z,ha _,Z,Z,_,Z,?_];rw[xr,dU (npr r hp)];apply bE ?_;apply#[zl,λlm nm=>?_];lk;let#[s1,e1]:=aA (o:=.lst []) nm;generalize upd H lm (.lst [])=H1 at s1 e1 ⊢;let#[dx,dl,dv,dp,ad,h1,G,h3,h4,h5,h6]:=(S.same s1).ex;let#[lR,dw,dy,vs,cE,g1,g2,_]:=id G.ex;let#[gm,d1,l2,d3,mB,as,ef,w1,_]:=id g2.ex;have iQ:(dj d1 l2 d3).lookup ("hands":Str)=none:=ka _ _ _ Z0 Z0 Z0;apply#[_,Z,v,CS,dx,_,_,Z,h1,TS.cl,TS.nW,ib _ _ _ _,g,CG,lR,_,_,Z,g1,TG.cl,TG.nW,qE _ _ _,p,gm,_,Z,w1,iQ,p,hs,ts,cE,Z,g2,λlh nh=>?_];let#[s2,e2]:=aA (o:=.lst ((aD hs).map V.str)) nh;generalize upd H1 lh (.lst ((aD hs).map V.str))=H2 at s2 e2 ⊢;have lmh:lm≠lh:=bj e1 nh;let hW:=s1.trans s2;let#[tv,hT]:=kF tab;have neT:∀{b:Addr} {xs:ai},H2 b\.lst xs->b≠T:=λe z=>by rw[z,hW _ _ hT] at e;cases e
 have n8:(aD hs).length<=8:=by have:=W.Gd.eU;have:=W.Gd.h8;omega
 have bound:∀i,(((aD hs).take i).flatMap (mv r hs ts qs f)).length<=8000:=λi=>by
  have:=XC (g:=mv r hs ts qs f) (n:=1000) (λx=>hb r hs ts qs f x W) ((aD hs).take i);rw[cX] at this;omega
 let JP:bI:=λi σ H'=>∃(v5:aF) (ys:ai),σ=[some (.ref v),some (.str r.1),some (.int m),some (.ref aw),some (.ref lm),v5]/\a_ T H H'/\dZ H' T mE/\H' lh\.lst ((aD hs).map V.str)/\H' lm\.lst ys/\bg K H' ys ((((aD hs).take i).flatMap (mv r hs ts qs f)).map kM)/\(r.2.2.1="one"->((aD hs).take i).flatMap (mv r hs ts qs f)=[])
 apply#[lh,Z,#[_,.of e2],fY (K:=K) (a:=lh) (xs:=(aD hs).map V.str) JP #[none,[],Z,λb o e n=>hW _ _ e,tab.same hW,e2,s2 _ _ e1,.nil,λ_=>rfl] (λi σ H' _ ⟨_,_,_,_,_,z,_⟩=>.of z) ?_ ?_]
 ·rintro i x σ H' hx ⟨v5,ys,rfl,bT,kQ,ig,vx,tu,one⟩;let#[n,hn,rfl]:=i0 hx;let On:=cj hn;lk;let S':=S.nt (bT.nt hT);apply#[_,Z,.inl #[Z,_,.of vx],_,Z,_,Z,_,Z,v,g,p,aw,n,hs,ts,qs,fp,f,r,iP,Z,hp,ha,S',W,On,kQ,λl zs H3 b3 kP nl hl tz=>?_];let#[tv',Eg]:=kF kQ;let Gm:=b3.nt Eg;let yJ:=Gm.lst vx;let tu3:=bg.nt tu Gm;have lT:l≠T:=λz=>by rw[z,Eg] at nl;cases nl
  have Lk:lm≠l:=bj vx nl;let TH:=bound i;let ly:=bK tu;let lz:=bK tz;rw[ao] at ly lz;let bz:=hb r hs ts qs f n W;apply#[lm,l,ys,zs,Z,Z,yJ,hl,by omega,?_];have e4:upd H3 lm (.lst (ys++zs)) lm\.lst (ys++zs):=ay
  have b4:a_ T H (upd H3 lm (.lst (ys++zs))):=λb o e ne=>by
   rw[ax (bj e nm)];exact b3 _ _ (bT _ _ e ne) ne
  have h_:dZ (upd H3 lm (.lst (ys++zs))) T mE:=dZ.putL kP yJ
  have Cm:upd H3 lm (.lst (ys++zs)) lh\.lst ((aD hs).map V.str):=by
   rw[ax lmh.symm];exact Gm.lst ig
  have fl:((aD hs).take (i+1)).flatMap (mv r hs ts qs f)=((aD hs).take i).flatMap (mv r hs ts qs f)++mv r hs ts qs f n:=by
   rw[eZ hn,A8,xy,List.flatMap_nil,hG]
  have Fl:bg K (upd H3 lm (.lst (ys++zs))) (ys++zs) ((((aD hs).take (i+1)).flatMap (mv r hs ts qs f)).map kM):=by
   rw[fl,bY];exact kI (jb tu3 yJ) (jb tz yJ)
  generalize upd H3 lm (.lst (ys++zs))=H4 at e4 b4 h_ Cm Fl ⊢;dsimp only;apply#[_,Z,aw,_,_,_,Z,Z,ha _,Z,Z,_,Z,?_];rw[xr];apply aQ (λc=>?_) (λc=>?_)
  ·have c:r.2.2.1="one":=l_ c;apply#[_,Z,zl,λle ne=>?_];let#[s5,e5]:=aA (o:=.lst []) ne;generalize upd H4 le (.lst [])=H5 at s5 e5 ⊢;apply#[lm,le,ys++zs,Z,Z,.of (s5 _ _ e4),.of e5,_,Z,?_];let ll:=bK Fl;rw[ao] at ll;apply aQ (λc2=>?_) (λc2=>?_)
   ·apply#[_,Z,_,Z,lm,_,Z,.of (s5 _ _ e4),λlq nq=>?_];rw[show gB (ys++zs) none (some 1)=(ys++zs).take 1 from Dn (ys++zs) 1];let s6:=aa.new (o:=.lst ((ys++zs).take 1)) nq;let rq:=s5.trans s6;have b6:a_ T H (upd H5 lq (.lst ((ys++zs).take 1))):=λb o e n=>rq _ _ (b4 _ _ e n);apply k lq _ _ b6 (h_.same rq) (a_.new (T:=T) (G:=H5) (λb o e n=>s5 _ _ (b4 _ _ e n)) (kF (h_.same s5)) nq) ay ?_;unfold C8;rw[aB c]
    have nz:((aD hs).take (i+1)).flatMap (mv r hs ts qs f)≠[]:=λz=>by
     rw[z,we] at ll;have y:ys++zs=[]:=A6.mp ll;rw[y] at c2;simp at c2
    have e7:((aD hs).flatMap (mv r hs ts qs f)).take 1=(((aD hs).take (i+1)).flatMap (mv r hs ts qs f)).take 1:=by
     conv=>lhs;rw[<- List.take_append_drop (i+1) (aD hs),A8]
     cases z:((aD hs).take (i+1)).flatMap (mv r hs ts qs f) with
     |nil=>exact absurd z nz
     |cons a b=>rfl
    rw[e7,List.map_take];exact Jq 1 (Fl.same rq)
   have z:ys++zs=[]:=⇑c2
   apply#[_,_,Z,λb o e n=>s5 _ _ (b4 _ _ e n),h_.same s5,s5 _ _ Cm,s5 _ _ e4,Fl.same s5,λ_=>?_];rw[z,we] at ll;exact A6.mp ll.symm
  apply#[_,_,Z,b4,h_,Cm,e4,Fl,λz=>absurd (cw z) c]
 rintro σ H' ⟨v5,ys,rfl,bT,kQ,ig,vx,tu,one⟩;rw[ao,dz] at tu one;apply#[_,Z,k lm ys H' bT kQ nm vx ?_];unfold C8;by_cases c:r.2.2.1="one"
 ·rw[aB c];have:=one c;rw[this] at tu ⊢;exact tu
 rw[au c];exact tu
end
structure pE (P:Ae) (w:Af) (K:af) (mg:Str->Option Aa) (base:Heap) (C:Addr) (k:Nat) (x:Str) (ps:ae) (sp:Sp):Prop where
 ex:∃f fd,aj P w K mg base aZ k f fd ps sp/\Mk K C f/\mg x\.ref C/\rR K fd ps []
theorem OU{n_:Nat}{X:Cx}{C:Addr}{k:Nat}{x:Str}{ps:ae}{sp:Sp}{p pos:Pos}{e:Expr}{es:List Expr}{t:TA}(c:pE X.prog X.w X.K X.mg X.base C k x ps sp)(hr:aY n_ X.A)(ha:PA X (e::es) t)(hg:Gl X x:=by rfl)(oQ:(x == ("__debug__":Str))=false:=by decide)
  (he:starEach (e::es) X.env=(false,eval e X.env)::starEach es X.env:=by rfl) (mI:(backTo pos (starEach es X.env)).any (·.1)=false:=by rfl) (hk:(k+1)<=n_:=by decide):PE X (.Call (.Name x p) (e::es) [] pos) (zJ C sp [] E0 t):=by
 let#[f,fd,F,M,m,b]:=c.ex;exact kP_ M F (hr.mono hk) hg m b .nil lF ha oQ he mI
section v
theorem ua:bx ["thing","least"] ["thing","least"] (ba Rn):=bH
def XW:Sp:=λvs H Q _=>∃i a:Int,vs=[.int i,.int a]/\Q (.bl (decide (a<=i))) H
theorem ii_(F:bp K "is_whole_from" "is_whole_from" Rn f0 fd)(cI:!br 1 "is_whole" g_ tV):!aj aZ 2 f0 fd ["thing","least"] XW:=by
 exists F.bG ua;let#[i,a,rfl,k]:=h;apply#[_,aE (bo (sU (aX cI hr %[0|0]) (o6 (iI yX (pv 1) (pv 0))))),?_];exact#[_,Z,i,Z,_,Z,fw #[_,Z,_,Z,_,_,Z,Z,k]]
theorem fE':bx g_ g_ (ba RP):=bH
def Zs:Sp:=λvs H Q _=>∃i:Int,vs=[.int i]/\0<=i/\Q (.int i) H
theorem fw_(F:bp K "checked_moments" "checked_moments" RP f0 fd)(cI:!br 2 "is_whole_from" ["thing","least"] XW):!aj aZ 3 f0 fd g_ Zs:=by
 apply F.bG fE' λaR A outer s H vs Q E hr h=>?_;let#[i,rfl,h0,k]:=h;apply#[_,ak (bP (hU (fZ (aX cI hr %[0,aI|0]))) fH bQ) (aE (bo (pv 0))),?_];apply#[_,Z,i,0,Z,_,Z,?_];rw[cw h0];exact bE #[_,Z,k]
theorem um:bx qL qL (ba Rg):=bH
def XR(K:af)(CG CW:Addr):Sp:=λvs H Q _=>∃(g d:V),∃r∈rl,vs=[g,d,.str r.1]/\Me K CG CW [g,d] H Q E0
theorem ht_{CG CW:Addr}(F:bp K "checked_start" "checked_start" Rg f0 fd)(IZ:!br 2 "checked_words" ["rule"] (Mt K))(cS:!br 2 "checked_stand" ["goods","stand"] (Me K CG CW)):!aj aZ 3 f0 fd qL (XR K CG CW):=by
 exists F.bG um;let#[g,d,r,iP,rfl,h]:=h;apply#[_,ak (gP (aX IZ hr %[2|0])) (aE (bo (aX cS hr %[0,1|0]))),?_];exact#[_,Z,r,iP,Z,λa _=>#[_,Z,_,Z,h]]
structure Ba (K:af) (CG CW:Addr) (H:Hp) (g p d:Addr) (hs:Xa) (ts:Xb) (qs:aC) (fp:az) (ns:ae) (f:ag):Prop where
 G:iE K CG CW H g p hs ts qs fp
 rO:d∉fp
 hd:H d\.dK (b_ ns f)
 so:qW hs qs ns f
 has:∀b∈fp,∃o,H b\o/\∀vs,o≠.tbl vs
theorem Ba.nt{CG CW g p d:Addr}{H G:Hp}{hs:Xa}{ts:Xb}{qs:aC}{fp:az}{ns:ae}{f:ag}(S:Ba K CG CW H g p d hs ts qs fp ns f)(s:NT H G):Ba K CG CW G g p d hs ts qs fp ns f:=#[S.G.nt s,S.rO,s.dK S.hd,S.so,λb hb=>by
 let#[o,e,n]:=S.has b hb;exact#[o,s _ _ e n,n]]
structure Tb (H:Hp) (T1 T2:Addr):Prop where
 a:dZ H T1 Ah
 b:dZ H T2 mE
 ne:T1≠T2
end
def qz(hs:Xa)(ts:Xb)(qs:aC)(f:ag)(gd h:Str):fW->ae->fW
 |ms,[]=>ms
 |ms,o::l=>if 0<lW hs qs f h o then qz hs ts qs f gd h (ms++iC hs ts qs f gd (ms.map (·.1)) h o) l else qz hs ts qs f gd h ms l
def AQ(hs:Xa)(ts:Xb)(qs:aC)(f:ag)(gd h:Str):fW:=qz hs ts qs f gd h [] (dO hs ts qs f h)
variable{T:Addr}
section v
theorem MM:bx ["sight","hand","guard","moves","other","given"] Ep (ba Sh):=bH
theorem h2_{CS CG CW:Addr}(F:bp K "moves_by_below" "moves_by_below" Sh f0 fd)(TS:hV K CS)(cR:!bF CS 4 CL kE (Ii K CS CG CW T))(cL:!bF CS 3 "lead" mL (ED K CS CG CW))(cH:!br 4 "heaviest_move" mi (kZ K CS CG CW)):!aj aZ 5 f0 fd Ep (kY K CS CG CW T AQ):=by
 exists F.bG MM;let#[v,g,p,h,gd,hs,ts,qs,fp,f,rfl,S,W,hh,tab,k]:=h;let sz:=cc;have G6:aY 3 _:=hr.mono (by decide);refine' #[_,ak ?s1 (ak ?s2 (aE ?s3)),?kk]
 case s1=>exact aO 3 MM.nd (cy aJ)
 case' s2=>refine' eE dM Z (dA (fX cR TS.cl hr (pv 0) %[1|0])) (bN 4 MM.nd) (aE (bP ?t1 (ak ?b1 (aE ?b2)) bQ))
 case t1=>exact c_ sP (fX cL TS.cl G6 (pv 0) %[1,4|0]) aI
 case b1=>exact Mi (i:=5) ["move"] 1 [] MM.nd Z (Or.inl Z) (dA (pv 3)) (λfp s H=>e_ (i:=0) (show (["move"]:ae).Nodup by decide +kernel) Z (Or.inl Z)) (λfp s H=>iH) (λfp s H=>bM (yD (K:=K) jk eP) (pv 0) aI)
 case b2=>exact gP (gC gO PySem.F.slot_list_extend PySem.F.type_list_extend Ju (pv 3) %[aX cH hr %[0,1,4,2,5|0]|0])
 case s3=>exact bo (pv 3)
 have n8:(aD hs).length<=8:=by have:=W.Gd.eU;have:=W.Gd.h8;omega
 apply#[zl,λlm nm=>?_];lk;let#[s1,e1]:=aA (o:=.lst []) nm;generalize upd H lm (.lst [])=H1 at s1 e1 ⊢;let S1:=S.same s1;let xR:=tab.same s1;let#[dx,dl,dv,dp,ad,h1,G,h3,h4,h5,h6]:=S1.ex;apply#[_,Z,v,dx,_,Z,h1,Ek _ _ _ _ Z0 Z0 Z0 Z0,_,Z,v,g,p,h,hs,ts,qs,fp,f,Z,S1,W,hh,xR,λl1 H2 b2 mZ n1 e2=>?_];let#[tv,hT]:=kF xR;let#[tv2,Xg]:=kF mZ;let yo:=b2.nt hT;let S2:=S1.nt yo;let m2:=yo.lst e1;have Lk:lm≠l1:=bj e1 n1;let Gb:=MO hs ts qs f h;have hX:∀x∈dO hs ts qs f h,x∈aD hs:=λx hx=>CC (Gb.mem_iff.mp hx)
 have ll:(dO hs ts qs f h).length<=8:=by
  rw[Gb.length_eq];have:=AW hs ts h;omega
 have bT:a_ T H H2:=λb o e n=>b2 _ _ (s1 _ _ e) n
 let JO:bI:=λi σ H'=>∃(v4 v5:aF) (ys:ai) (ms:fW),σ=[some (.ref v),some (.str h),some (.str gd),some (.ref lm),v4,v5]/\a_ T H H'/\dZ H' T mE/\H' l1\.lst ((dO hs ts qs f h).map V.str)/\H' lm\.lst ys/\bg K H' ys (ms.map kM)/\ms.length<=i/\qz hs ts qs f gd h ms ((dO hs ts qs f h).drop i)=AQ hs ts qs f gd h
 apply#[l1,Z,#[_,.of e2],fY (K:=K) (a:=l1) (xs:=(dO hs ts qs f h).map V.str) JO #[none,none,[],[],Z,bT,mZ,e2,m2,.nil,bq _,Z] (λi σ H' _ ⟨_,_,_,_,_,_,_,z,_⟩=>.of z) ?_ ?_]
 ·rintro i x σ H3 hx ⟨v4,v5,ys,ms,rfl,Js,kP,l3,m3,t3,GC,eq3⟩;let#[o,ho,rfl]:=i0 hx;have hi:i<(dO hs ts qs f h).length:=(cq.mp ho).1;let om:=hX o (cj ho)
  have dr:(dO hs ts qs f h).drop i=o::(dO hs ts qs f h).drop (i+1):=by
   let#[h1,h2]:=cq.mp ho;rw[List.drop_eq_getElem_cons h1,h2]
  rw[dr] at eq3;let#[tv0,hT0]:=kF tab;let S3:=S.nt (Js.nt hT0);let#[RK,_,_,_,_,k1,_]:=S3.ex;let ly:=bK t3;rw[ao] at ly;lk;apply#[_,Z,v,RK,_,Z,k1,Ek _ _ _ _ Z0 Z0 Z0 Z0,_,Z,_,Z,v,g,p,h,o,hs,ts,qs,fp,f,Z,S3,W,hh,om,_,_,Z,Z,_,Z,?_];apply aQ (λc=>?_) (λc=>?_)
  ·have c:0<lW hs qs f h o:=⇑c
   have eq3:qz hs ts qs f gd h (ms++iC hs ts qs f gd (ms.map (·.1)) h o) ((dO hs ts qs f h).drop (i+1))=AQ hs ts qs f gd h:=by
    rw[qz,aB c] at eq3;exact eq3
   apply#[_,Z,lm,Z,#[_,.of m3],λD hD=>?_]
   let JN:dH:=λj out H'=>aa H3 H'/\H' D\.lst out/\out=((ms.map (·.1)).take j).map V.str
   apply mU (own:=1) (fv:=[]) (xs:=ys) Z ee JN #[aa.new hD,ay,Z] (λj out H' _ ⟨sm,_⟩=>.of (sm _ _ m3)) (λout H4 ⟨s4,d4,eo⟩=>?_) (λj x out H' hx ⟨sm,hd,eo⟩=>?_);rotate_left
   ·let#[q,hq,a,rfl,ha]:=jx t3 hx;have hj:j<ms.length:=(cq.mp hq).1;apply#[_,Z,Z,λNx hN=>dW ?_];apply#[_,Z,a,_,0,.str q.1,Z,Z,.of (sm _ _ ha),L2.iX (j:=0) Z,out,hd,?_,hN (out++[.str q.1]) _ #[fF sm hD,ay,?_]]
    ·rw[eo,ao,cX];omega
    rw[eo,eZ (show (ms.map (·.1))[j]? = some q.1 by rw[dR,hq];rfl),bY];rfl
   rw[ly,xF (by rw[ao];exact bq _)] at eo;subst eo;lk;let m4:=s4 _ _ m3;apply#[_,Z,.inl #[Z,_,.of m4],?_];apply#[_,Z,_,Z,_,Z,_,Z,_,Z,v,g,p,D,h,o,gd,ms.map (·.1),hs,ts,qs,fp,f,Z,S3.same s4,W,hh,om,d4,λl5 zs H5 s5 n5 e5 t5=>?_];let jB:=s4.trans s5;let m5:=jB _ _ m3;let lz:=bK t5;let hl:=Dg hs ts qs f gd (ms.map (·.1)) h o;rw[ao] at lz;apply#[lm,l5,ys,zs,Z,Z,m5,e5,by omega,?_];apply#[_,_,ys++zs,ms++iC hs ts qs f gd (ms.map (·.1)) h o,Z,λb u e n=>?_,dZ.putL (kP.same jB) m5,?_,ay,?_,?_,eq3]
   ·rw[ax (bj e nm)];exact jB _ _ (Js _ _ e n)
   ·rw[ax Lk.symm];exact jB _ _ l3
   ·rw[bY];exact kI (jb (t3.same jB) m5) (jb t5 m5)
   rw[eA];omega
  have c:¬0<lW hs qs f h o:=⇑c
  apply#[_,_,ys,ms,Z,Js,kP,l3,m3,t3,by omega,?_];rw[qz,au c] at eq3;exact eq3
 rintro σ H3 ⟨v4,v5,ys,ms,rfl,Js,kP,l3,m3,t3,GC,eq3⟩;rw[ao,List.drop_length] at eq3;apply#[_,Z,k lm ys H3 Js kP nm m3 ?_];rw[<- eq3];exact t3
end
def AX:Bb:=λr hs ts qs f h=>AQ hs ts qs f (r.2.2.2.getD "") h
theorem Qr{hs:Xa}{ts:Xb}{qs:aC}{f:ag}{gd h:Str}:∀(l:ae) (ms:fW),(qz hs ts qs f gd h ms l).length<=ms.length+l.length
 |[],ms=>bq _
 |o::l,ms=>by
  rw[qz,iG];split
  ·let h1:=Qr (hs:=hs) (ts:=ts) (qs:=qs) (f:=f) (gd:=gd) (h:=h) l (ms++iC hs ts qs f gd (ms.map (·.1)) h o);let h2:=Dg hs ts qs f gd (ms.map (·.1)) h o;rw[eA] at h1;omega
  let h1:=Qr (hs:=hs) (ts:=ts) (qs:=qs) (f:=f) (gd:=gd) (h:=h) l ms;omega
theorem hP_(r:Rl)(hs:Xa)(ts:Xb)(qs:aC)(f:ag)(h:Str)(W:Wd hs ts qs f):(AX r hs ts qs f h).length<=8:=by
 unfold AX AQ;let h1:=Qr (hs:=hs) (ts:=ts) (qs:=qs) (f:=f) (gd:=r.2.2.2.getD "") (h:=h) (dO hs ts qs f h) [];let h2:=(MO hs ts qs f h).length_eq;let h3:=AW hs ts h;let h4:=W.Gd.eU;let h5:=W.Gd.h8;rw[we] at h1;omega
section v
theorem gB_{CS CG CW:Addr}(F:bp K "moves_from" "moves_from" Iu f0 fd)(cL:!br 5 "moves_by_below" Ep (kY K CS CG CW T AQ)):!aj aZ 6 f0 fd w_ (xg K CS CG CW T (λr=>r.2.1="below") AX):=by
 exists F.bG Sr;let#[v,g,p,aw,h,hs,ts,qs,fp,f,r,iP,rfl,le,ha,S,W,hh,tab,k]:=h;refine' #[_,ak ?s0 (ak ?s1 fH),?kk]
 case s0=>exact bP (c_ iF (bM eP (pv 2) aI) cn) fH bQ
 case s1=>exact bP (c_ iF (bM eP (pv 2) aI) cn) (aE (bo (aX cL hr %[0,1,bM eP (pv 2) aI|0]))) bQ
 let so:=W_ r iP (by rw[le];decide +kernel);let#[gd,eg]:=E8.mp so;have ln:¬r.2.1="least":=by rw[le];decide +kernel
 apply#[_,Z,aw,_,_,_,Z,Z,ha _,Z,Z,_,Z,?_];rw[xr,dU ln];apply bE ?_;apply#[_,Z,aw,_,_,_,Z,Z,ha _,Z,Z,_,Z,?_];rw[xr,cw le];apply fw ?_;apply#[_,Z,_,Z,_,Z,aw,_,_,.str gd,Z,Z,ha _,?_,v,g,p,h,gd,hs,ts,qs,fp,f,Z,S,W,hh,tab,λl ys H' b t n e tu=>k l ys H' b t n e ?_]
 ·rw[eg];rfl
 unfold AX;rw[eg];exact tu
end
def iu(hs:Xa)(ts:Xb):Int:=((fP hs ts).max?).getD 0
variable{m:Int}
theorem V4{hs:Xa}{ts:Xb}(h1:m∈fP hs ts)(h2:∀a∈fP hs ts,a<=m):m=iu hs ts:=by
 unfold iu;rw[List.max?_eq_some_iff.mpr #[h1,h2]];rfl
theorem WL{hs:Xa}{ts:Xb}(G:Good hs ts)(h:m∈fP hs ts):0<=m/\m<=8:=by
 let#[n,_,rfl]:=bh.mp h;let h1:=AW hs ts n;let h2:=G.eU;let h3:=G.h8;show 0<=((nb hs ts n).length:Int)/\((nb hs ts n).length:Int)<=8;omega
theorem jw_{hs:Xa}{ts:Xb}(G:Good hs ts){a b:Str}(ha:a∈aD hs)(hb:b∈aD hs):2<=kD hs a b/\kD hs a b<=2000:=by
 let h1:=bJ G ha;let h2:=bJ G hb;unfold kD;omega
def fq(wt:Str->Int)(ok:Str->Bool):Int->ae->ae
 |_,[]=>[]
 |l,n::ns=>if (ok n&&decide (wt n<=l))=true then n::fq wt ok (l - wt n) ns else fq wt ok l ns
theorem ID(wt:Str->Int)(ok:Str->Bool):∀(l:Int) (ns:ae),(fq wt ok l ns).Sublist ns
 |_,[]=>.slnil
 |l,n::ns=>by
  unfold fq;split
  ·exact (ID wt ok _ ns).cons_cons n
  exact (ID wt ok _ ns).cons n
def iJ(hs:Xa)(ts:Xb)(qs:aC)(gv:ae)(a b n:Str):Bool:=!decide (n∈gv)&&jU hs ts qs n a b
def nK(hs:Xa)(ts:Xb)(qs:aC)(f:ag)(a b:Str):Int:=lW hs qs f a b / (kD hs a b * (iu hs ts+1))
def FO(hs:Xa)(ts:Xb)(qs:aC)(f:ag)(gv:ae)(a b:Str):ae:=fq (eI qs) (iJ hs ts qs gv a b) (nK hs ts qs f a b) (bO qs f a)
abbrev to3(a b:Str)(n:Str):Mv:=(n,a,b)
def xW(hs:Xa)(ts:Xb)(qs:aC)(f:ag)(gv:ae)(a b:Str):fW:=(FO hs ts qs f gv a b).map (to3 a b)
theorem QV{hs:Xa}{ts:Xb}{qs:aC}{f:ag}(W:Wd hs ts qs f)(a:Str):(bO qs f a).length<=63:=by
 have h1:(bO qs f a).length<=(js qs).length:=xD ..;let h2:=(Du qs).length_eq;rw[ao] at h2;have:=W.cz;omega
theorem Xo{hs:Xa}{ts:Xb}{qs:aC}{f:ag}(W:Wd hs ts qs f)(gv:ae)(a b:Str):(xW hs ts qs f gv a b).length<=63:=by
 unfold xW;rw[ao];have:=(ID (eI qs) (iJ hs ts qs gv a b) (nK hs ts qs f a b) (bO qs f a)).length_le;let h2:=QV W a;unfold FO;omega
theorem QF{α:Type}{l:List α}{i:Nat}{x:α}(h:l[i]? = some x):l.drop i=x::l.drop (i+1):=by
 let#[h1,h2]:=cq.mp h;rw[List.drop_eq_getElem_cons h1,h2]
section v
abbrev NW:ae:=["sight","one","other","given","parts","left","moves","piece","weight"]
theorem CT:bx NW ["sight","one","other","given"] (ba BF):=bH
inductive tR (K:af) (CS CG CW:Addr) (vs:ai) (H:Hp) (Q:VK) (E:XK):Prop
 |mk:∀(v g p lg:Addr) (a b:Str) (gv:ae) (hs:Xa) (ts:Xb) (qs:aC) (fp:az) (f:ag),vs=[.ref v,.str a,.str b,.ref lg]->jG K CS CG CW H v g p hs ts qs fp f->Wd hs ts qs f->a∈aD hs->b∈aD hs->H lg\.lst (gv.map V.str)->(∀l ys H',aa H H'->H l=none->H' l\.lst ys->bg K H' ys ((xW hs ts qs f gv a b).map kM)->Q (.ref l) H')->tR K CS CG CW vs H Q E
theorem m7_{CS CG CW CP:Addr}(F:bp K "share_moves" "share_moves" BF f0 fd)(TS:hV K CS)(TG:eR K CG)(TW:Txt K mg CW)(cL:!bF CS 3 "lead" mL (ED K CS CG CW))(cJ:!bF CS 3 "joint_strength" mL (Mn K CS CG CW))(cN:!bF CW 1 "most_neighbours" iY (nF K CW))(cW:!bF CG 2 "weight" AI (Dq K CG CW CP))(cM:!bF CG 3 "may_go" qR (LQ K CG CW CP)) :
  aj P w K mg base aZ 4 f0 fd ["sight","one","other","given"] (tR K CS CG CW):=by
 exists F.bG CT;let#[v,g,p,lg,a,b,gv,hs,ts,qs,fp,f,rfl,S,W,ha,hb,hg,k]:=h;let hu:=eO hr;let sz:=cc;have ko:aY 1 _:=hr.mono (by decide);have vv:aY 2 _:=hr.mono (by decide);refine' #[_,?r0,?kk]
 case' r0=>refine' ak ?s1 ?r1
 case' r1=>refine' ak ?s2 ?r2
 case' r2=>refine' ak ?s3 ?r3
 case' r3=>refine' ak ?s4 (aE ?s5)
 case s1=>exact aO 4 CT.nd (bw jI (fX cJ TS.cl hr (pv 0) %[1,2|0]) (bw h9 (AS cN TW.cl ko (eF (eF (pv 0) Z) Z)) aI))
 case s2=>exact aO 5 CT.nd (bw vR (fX cL TS.cl hr (pv 0) %[1,2|0]) (pv 4))
 case s3=>exact aO 6 CT.nd (cy aJ)
 case' s4=>refine' eE dM Z (dA (bV hu (eF (pv 0) Z) (pv 1))) (bN 7 CT.nd) (ak ?b1 (aE ?b2))
 case b1=>exact aO 8 CT.nd (fX cW TG.cl vv (eF (pv 0) Z) %[7|0])
 case' b2=>refine' bP (PW.pt (zd ?c1 (zd ?c2 (Df ?c3)))) (ak ?b3 (aE ?b4)) bQ
 case c1=>exact c_ (Mx fQ (lX hr 0)) (pv 7) (pv 3) (by with_unfolding_all rfl)
 case c2=>exact c_ yX (pv 8) (pv 5)
 case c3=>exact fZ (fX cM TG.cl hr (eF (pv 0) Z) %[7,1,2|0])
 case b3=>exact gP (gC gO kB kC ki (pv 6) %[eW %[7,1,2|0]|0])
 case b4=>exact aO 5 CT.nd (bw LH (pv 5) (pv 8))
 case s5=>exact bo (pv 6)
 let#[dx,dl,dv,dp,ad,h1,G,h3,h4,h5,h6]:=S.ex;let#[lR,dw,dy,vs,cE,g1,g2,_]:=id G.ex;let#[gm,d1,l2,d3,mB,as,ef,w1,_]:=id g2.ex;have hnm:(dj d1 l2 d3).lookup ("most_neighbours":Str)=none:=ka _ _ _ Z0 Z0 Z0;have no:∀{m:Str},¬m="wares"->¬m=jL->¬m=qD->¬m=CV->(eL g dl dv dp).lookup m=none:=λa b c d=>Ek _ _ _ _ a b c d;let jo:=jw_ W.Gd ha hb;let nl:=W.Gd.eU;let n1:=W.Gd.h1;let n8:=W.Gd.h8;apply#[_,Z,v,dx,_,Z,h1,no Z0 Z0 Z0 Z0,_,Z,_,Z,v,g,p,a,b,hs,ts,qs,fp,f,Z,S,W,ha,hb,?_];apply#[_,Z,v,CS,dx,_,_,Z,h1,TS.cl,TS.nW,ib _ _ _ _,g,CG,lR,_,_,Z,g1,TG.cl,TG.nW,qE _ _ _,p,gm,_,Z,w1,hnm,p,hs,ts,cE,Z,g2,by omega,by omega,λm H1 s1 m1 m2=>?_];let mo:=WL W.Gd m1;obtain rfl:=V4 m1 m2;have pp:0<kD hs a b * (iu hs ts+1):=Int.mul_pos Z1 Z1
 have pl:kD hs a b * (iu hs ts+1)<1073741824:=by
  have:=Int.mul_le_mul jo.2 (show iu hs ts+1<=9 by omega) Z1 (by decide);omega
 apply#[_,_,Z,Z,_,_,Z,Z,.inl #[by omega,by omega],?_];lk;apply#[_,Z,v,dx,_,Z,s1 _ _ h1,no Z0 Z0 Z0 Z0,_,Z,_,Z,v,g,p,a,b,hs,ts,qs,fp,f,Z,S.same s1,W,ha,hb,_,Z,_,_,Z,Z,#[pp,pl],?_];lk;apply#[zl,λlm nm=>?_];lk;let#[s2,e2]:=aA (o:=.lst []) nm;let DQ:=s1.free nm;generalize upd H1 lm (.lst [])=H2 at s2 e2 ⊢;let hW:=s1.trans s2;let hl:=h6 a ha;let l63:=QV W a
 let Kd:bI:=λi σ H'=>∃(v7 v8:aF) (left:Int) (ys:ai) (ns:ae),σ=[some (.ref v),some (.str a),some (.str b),some (.ref lg),some (.int (kD hs a b * (iu hs ts+1))),some (.int left),some (.ref lm),v7,v8]/\aa H H'/\H' lm\.lst ys/\bg K H' ys ((ns.map (to3 a b)).map kM)/\ns.length<=i/\ns++fq (eI qs) (iJ hs ts qs gv a b) left ((bO qs f a).drop i)=FO hs ts qs f gv a b
 apply#[_,Z,v,CS,dx,_,_,Z,hW _ _ h1,TS.cl,TS.nP,FQ _ _ _ _,_,Z,dp,_,Z,gJ (hW _ _ h5) ha,ad a,Z,#[_,.of (hW _ _ hl)],fY (K:=K) (a:=ad a) (xs:=(bO qs f a).map V.str) Kd #[none,none,_,[],[],Z,hW,e2,.nil,bq _,Z] (λi σ H' _ ⟨_,_,_,_,_,_,sm,_⟩=>.of (sm _ _ hl)) ?_ ?_]
 ·rintro i x σ H' hx ⟨v7,v8,left,ys,ns,rfl,sm,vx,tu,ln,eq⟩;let#[n,hn,rfl]:=i0 hx;have hi:i<(bO qs f a).length:=(cq.mp hn).1;let#[On,fn]:=L4 (cj hn);let#[q,hq,rfl]:=bh.mp On;let G':=G.same sm;let mJ:=sm _ _ h1;let#[Iq,Y9,Y6,KY,fpw',XN,g2',_]:=id G'.ex;have Pe:(cb p Y9 Y6).lookup ("weight":Str)=none:=xp _ _ _ Z0 Z0 Z0;have Pz:(cb p Y9 Y6).lookup ("may_go":Str)=none:=xp _ _ _ Z0 Z0 Z0;let ew:=yU W.nd hq;let ey:=HQ W.nd hq;rw[QF hn,fq] at eq;let ly:=bK tu;rw[ao,ao] at ly
  have go:∀{H2:Hp} {v8:aF},aa H' H2->(iJ hs ts qs gv a b q.1&&decide (eI qs q.1<=left))=false->∃(v7 v8':aF) (An:Int) (ys:ai) (ns:ae),[some (V.ref v),some (.str a),some (.str b),some (.ref lg),some (.int (kD hs a b * (iu hs ts+1))),some (.int left),some (.ref lm),some (.str q.1),v8]=[some (V.ref v),some (.str a),some (.str b),some (.ref lg),some (.int (kD hs a b * (iu hs ts+1))),some (.int An),some (.ref lm),v7,v8']/\aa H H2/\H2 lm\.lst ys/\bg K H2 ys ((ns.map (to3 a b)).map kM)/\ns.length<=i+1/\ns++fq (eI qs) (iJ hs ts qs gv a b) An ((bO qs f a).drop (i+1))=FO hs ts qs f gv a b:=λ{H2 v8} s2 e=>by
   rw[e,au (by decide)] at eq;exact#[_,_,_,ys,ns,Z,sm.trans s2,s2 _ _ vx,tu.same s2,by omega,eq]
  lk;apply#[_,Z,v,CS,dx,_,_,Z,mJ,TS.cl,TS.nW,ib _ _ _ _,g,Iq,_,Z,XN,Pe,_,Z,g,p,.str q.1,some q.1,hs,ts,qs,fp,Z,G',W.nd,Z,.inl #[q,hq,Z,?_]];lk;apply#[_,Z,_,Z,q.1,gv,Z,#[lg,_,Z,.of (sm _ _ hg),Dr gv],_,Z,?_];apply aQ (λc=>?_) (λc=>?_)
  ·have c:¬q.1∈gv:=⇑c
   apply#[_,Z,_,Z,_,_,Z,Z,_,Z,?_];apply aQ (λc2=>?_) (λc2=>?_)
   ·have c2:q.2.1<=left:=⇑c2
    apply#[_,Z,v,CS,dx,_,_,Z,mJ,TS.cl,TS.nW,ib _ _ _ _,g,Iq,_,Z,XN,Pz,_,Z,_,Z,_,Z,g,p,.str q.1,.str a,.str b,some q.1,some a,some b,hs,ts,qs,fp,Z,G',W.nd,W.Gd.sE,Z,.inl #[q,hq,Z,Z,Z,λH3 s3=>#[_,Z,?_]]];apply aQ (λc3=>?_) (λc3=>?_)
    ·have pt:(iJ hs ts qs gv a b q.1&&decide (eI qs q.1<=left))=true:=by
      unfold iJ jU;rw[ew,ey,cw c2,dU c];simpa using c3
     rw[aB pt,ew] at eq;apply#[_,Z,.inl #[Z,_,.of (s3 _ _ vx)],_,Z,_,Z,_,Z,zl,λt nt=>?_];let#[s4,e4]:=aA (o:=.tup [.str q.1,.str a,.str b]) nt;generalize upd H3 t (.tup [.str q.1,.str a,.str b])=H4 at s4 e4 ⊢;let eY:=s3.trans s4;let Hm:=eY _ _ vx;apply#[lm,_,_,Z,Z,Hm,by omega,?_];dsimp only;apply#[_,Z,_,Z,_,_,Z,Z,?_];lk;apply#[_,_,_,ys++[.ref t],ns++[q.1],Z,λb' o e=>?_,ay,?_,?_,?_]
     ·rw[ax (bj e DQ)];exact eY _ _ (sm _ _ e)
     ·rw[bY,bY];exact jb (vX (tu.same eY) e4) Hm
     ·rw[eA];show ns.length+1<=i+1;omega
     rw[xA];exact eq
    apply go s3 ?_;unfold iJ jU;have c3:Cy hs ts q.2.2 (some a) (some b)=false:=⇑c3
    rw[ey,c3,pb,r9]
   apply go (aa.refl H') ?_;have c2:¬q.2.1<=left:=⇑c2
   rw[ew,dU c2,pb]
  have c:q.1∈gv:=⇑c
  apply go (aa.refl H') ?_;unfold iJ;rw[cw c];rfl
 rintro σ H' ⟨v7,v8,left,ys,ns,rfl,sm,vx,tu,ln,eq⟩;rw[ao,List.drop_length,fq,hG] at eq;apply#[_,Z,k lm ys H' sm DQ vx ?_];unfold xW;rw[<- eq];exact tu
end
def oU(hs:Xa)(ts:Xb)(qs:aC)(f:ag)(h:Str):fW->ae->fW
 |ms,[]=>ms
 |ms,o::l=>if 0<lW hs qs f h o then oU hs ts qs f h (ms++xW hs ts qs f (ms.map (·.1)) h o) l else oU hs ts qs f h ms l
def Dx(hs:Xa)(ts:Xb)(qs:aC)(f:ag)(h:Str):fW:=oU hs ts qs f h [] (nb hs ts h)
def EL:Bb:=λ_ hs ts qs f h=>Dx hs ts qs f h
theorem Qx{hs:Xa}{ts:Xb}{qs:aC}{f:ag}(W:Wd hs ts qs f){h:Str}:∀(l:ae) (ms:fW),(oU hs ts qs f h ms l).length<=ms.length+63 * l.length
 |[],ms=>bq _
 |o::l,ms=>by
  rw[oU,iG];split
  ·let h1:=Qx W (h:=h) l (ms++xW hs ts qs f (ms.map (·.1)) h o);let h2:=Xo W (ms.map (·.1)) h o;rw[eA] at h1;omega
  let h1:=Qx W (h:=h) l ms;omega
theorem gx_(r:Rl)(hs:Xa)(ts:Xb)(qs:aC)(f:ag)(h:Str)(W:Wd hs ts qs f):(EL r hs ts qs f h).length<=1000:=by
 unfold EL Dx;let h1:=Qx W (h:=h) (nb hs ts h) [];let h3:=AW hs ts h;let h4:=W.Gd.eU;let h5:=W.Gd.h8;rw[we] at h1;omega
variable{CG CS CW:Addr}
section v
theorem MF:bx ["sight","hand","moves","other","given"] ["sight","hand"] (ba RU):=bH
inductive Q7 (K:af) (CS CG CW:Addr) (vs:ai) (H:Hp) (Q:VK) (E:XK):Prop
 |mk:∀(v g p:Addr) (h:Str) (hs:Xa) (ts:Xb) (qs:aC) (fp:az) (f:ag),vs=[.ref v,.str h]->jG K CS CG CW H v g p hs ts qs fp f->Wd hs ts qs f->h∈aD hs->(∀l ys H',aa H H'->H l=none->H' l\.lst ys->bg K H' ys ((Dx hs ts qs f h).map kM)->Q (.ref l) H')->Q7 K CS CG CW vs H Q E
theorem ft_(F:bp K "moves_by_shares" "moves_by_shares" RU f0 fd)(TS:hV K CS)(TG:eR K CG)(TW:Txt K mg CW)(cN:!bF CW 2 "neighbours" kE (Ml K CW))(cL:!bF CS 3 "lead" mL (ED K CS CG CW))(cH:!br 4 "share_moves" ["sight","one","other","given"] (tR K CS CG CW)):!aj aZ 5 f0 fd ["sight","hand"] (Q7 K CS CG CW):=by
 exists F.bG MF;let#[v,g,p,h,hs,ts,qs,fp,f,rfl,S,W,hh,k]:=h;let sz:=cc;have vv:aY 2 _:=hr.mono (by decide);have G6:aY 3 _:=hr.mono (by decide);refine' #[_,ak ?s1 (ak ?s2 (aE ?s3)),?kk]
 case s1=>exact aO 2 MF.nd (cy aJ)
 case' s2=>refine' eE dM Z (dA (fX cN TW.cl vv (eF (eF (pv 0) Z) Z) %[1|0])) (bN 3 MF.nd) (aE (bP ?t1 (ak ?b1 (aE ?b2)) bQ))
 case t1=>exact c_ sP (fX cL TS.cl G6 (pv 0) %[1,3|0]) aI
 case b1=>exact Mi (i:=4) ["move"] 1 [] MF.nd Z (Or.inl Z) (dA (pv 2)) (λfp s H=>e_ (i:=0) (show (["move"]:ae).Nodup by decide +kernel) Z (Or.inl Z)) (λfp s H=>iH) (λfp s H=>bM (yD (K:=K) jk eP) (pv 0) aI)
 case b2=>exact gP (gC gO PySem.F.slot_list_extend PySem.F.type_list_extend Ju (pv 2) %[aX cH hr %[0,1,3,4|0]|0])
 case s3=>exact bo (pv 2)
 have n8:(aD hs).length<=8:=by have:=W.Gd.eU;have:=W.Gd.h8;omega
 apply#[zl,λlm nm=>?_];lk;let#[s1,e1]:=aA (o:=.lst []) nm;generalize upd H lm (.lst [])=H1 at s1 e1 ⊢;let#[dx,dl,dv,dp,ad,h1,G,h3,h4,h5,h6]:=(S.same s1).ex;let#[lR,dw,dy,vs,cE,g1,g2,_]:=id G.ex;let#[gm,d1,l2,d3,mB,as,ef,w1,_]:=id g2.ex;have iQ:(dj d1 l2 d3).lookup ("neighbours":Str)=none:=ka _ _ _ Z0 Z0 Z0;apply#[_,Z,v,CS,dx,_,_,Z,h1,TS.cl,TS.nW,ib _ _ _ _,g,CG,lR,_,_,Z,g1,TG.cl,TG.nW,qE _ _ _,p,gm,_,Z,w1,iQ,_,Z,p,h,hs,ts,cE,Z,g2,W.Gd.sE,(fG hs).mem_iff.mp hh,λl1 n1=>?_];let#[s2,e2]:=aA (o:=.lst ((nb hs ts h).map V.str)) n1;have Lk:lm≠l1:=bj e1 n1;let hW:=s1.trans s2;generalize upd H1 l1 (.lst ((nb hs ts h).map V.str))=H2 at s2 e2 hW ⊢;have hX:∀x∈nb hs ts h,x∈aD hs:=λx hx=>CC hx
 have ll:(nb hs ts h).length<=8:=by
  have:=AW hs ts h;omega
 let Kc:bI:=λi σ H'=>∃(v3 v4:aF) (ys:ai) (ms:fW),σ=[some (.ref v),some (.str h),some (.ref lm),v3,v4]/\aa H H'/\H' l1\.lst ((nb hs ts h).map V.str)/\H' lm\.lst ys/\bg K H' ys (ms.map kM)/\ms.length<=63 * i/\oU hs ts qs f h ms ((nb hs ts h).drop i)=Dx hs ts qs f h
 apply#[l1,Z,#[_,.of e2],fY (K:=K) (a:=l1) (xs:=(nb hs ts h).map V.str) Kc #[none,none,[],[],Z,hW,e2,s2 _ _ e1,.nil,bq _,Z] (λi σ H' _ ⟨_,_,_,_,_,_,z,_⟩=>.of z) ?_ ?_]
 ·rintro i x σ H3 hx ⟨v3,v4,ys,ms,rfl,FN,l3,m3,t3,GC,eq3⟩;let#[o,ho,rfl]:=i0 hx;have hi:i<(nb hs ts h).length:=(cq.mp ho).1;let om:=hX o (cj ho);rw[QF ho] at eq3;let S3:=S.same FN;let#[RK,_,_,_,_,k1,_]:=S3.ex;let ly:=bK t3;rw[ao] at ly;lk;apply#[_,Z,v,RK,_,Z,k1,Ek _ _ _ _ Z0 Z0 Z0 Z0,_,Z,_,Z,v,g,p,h,o,hs,ts,qs,fp,f,Z,S3,W,hh,om,_,_,Z,Z,_,Z,?_];apply aQ (λc=>?_) (λc=>?_)
  ·have c:0<lW hs qs f h o:=⇑c
   have eq3:oU hs ts qs f h (ms++xW hs ts qs f (ms.map (·.1)) h o) ((nb hs ts h).drop (i+1))=Dx hs ts qs f h:=by
    rw[oU,aB c] at eq3;exact eq3
   apply#[_,Z,lm,Z,#[_,.of m3],λD hD=>?_]
   let Kb:dH:=λj out H'=>aa H3 H'/\H' D\.lst out/\out=((ms.map (·.1)).take j).map V.str
   apply mU (own:=1) (fv:=[]) (xs:=ys) Z ee Kb #[aa.new hD,ay,Z] (λj out H' _ ⟨sm,_⟩=>.of (sm _ _ m3)) (λout H4 ⟨s4,d4,eo⟩=>?_) (λj x out H' hx ⟨sm,hd,eo⟩=>?_);rotate_left
   ·let#[q,hq,a,rfl,ha]:=jx t3 hx;have hj:j<ms.length:=(cq.mp hq).1;apply#[_,Z,Z,λNx hN=>dW ?_];apply#[_,Z,a,_,0,.str q.1,Z,Z,.of (sm _ _ ha),L2.iX (j:=0) Z,out,hd,?_,hN (out++[.str q.1]) _ #[fF sm hD,ay,?_]]
    ·rw[eo,ao,cX];omega
    rw[eo,eZ (show (ms.map (·.1))[j]? = some q.1 by rw[dR,hq];rfl),bY];rfl
   rw[ly,xF (by rw[ao];exact bq _)] at eo;subst eo;lk;let m4:=s4 _ _ m3;apply#[_,Z,.inl #[Z,_,.of m4],?_];apply#[_,Z,_,Z,_,Z,_,Z,v,g,p,D,h,o,ms.map (·.1),hs,ts,qs,fp,f,Z,S3.same s4,W,hh,om,d4,λl5 zs H5 s5 n5 e5 t5=>?_];let jB:=s4.trans s5;let m5:=jB _ _ m3;let lz:=bK t5;let hl:=Xo W (ms.map (·.1)) h o;rw[ao] at lz;apply#[lm,l5,ys,zs,Z,Z,m5,e5,by omega,?_];apply#[_,_,ys++zs,ms++xW hs ts qs f (ms.map (·.1)) h o,Z,λb u e=>?_,?_,ay,?_,?_,eq3]
   ·rw[ax (bj e nm)];exact jB _ _ (FN _ _ e)
   ·rw[ax Lk.symm];exact jB _ _ l3
   ·rw[bY];exact kI (jb (t3.same jB) m5) (jb t5 m5)
   rw[eA];omega
  have c:¬0<lW hs qs f h o:=⇑c
  apply#[_,_,ys,ms,Z,FN,l3,m3,t3,by omega,?_];rw[oU,au c] at eq3;exact eq3
 rintro σ H3 ⟨v3,v4,ys,ms,rfl,FN,l3,m3,t3,GC,eq3⟩;rw[ao,List.drop_length] at eq3;apply#[_,Z,k lm ys H3 FN nm m3 ?_];rw[<- eq3];exact t3
theorem gS_(F:bp K "moves_from" "moves_from" Iu f0 fd)(cL:!br 5 "moves_by_shares" ["sight","hand"] (Q7 K CS CG CW)):!aj aZ 6 f0 fd w_ (xg K CS CG CW T (λr=>r.2.1="shares") EL):=by
 exists F.bG Sr;let#[v,g,p,aw,h,hs,ts,qs,fp,f,r,iP,rfl,le,ha,S,W,hh,tab,k]:=h;refine' #[_,ak ?s0 (ak ?s1 (aE ?s2)),?kk]
 case s0=>exact bP (c_ iF (bM eP (pv 2) aI) cn) fH bQ
 case s1=>exact bP (c_ iF (bM eP (pv 2) aI) cn) fH bQ
 case s2=>exact bo (aX cL hr %[0,1|0])
 have ln:¬r.2.1="least":=by rw[le];decide +kernel
 have lb:¬r.2.1="below":=by rw[le];decide +kernel
 apply#[_,Z,aw,_,_,_,Z,Z,ha _,Z,Z,_,Z,?_];rw[xr,dU ln];apply bE ?_;apply#[_,Z,aw,_,_,_,Z,Z,ha _,Z,Z,_,Z,?_];rw[xr,dU lb];apply bE ?_;exact#[_,Z,_,Z,v,g,p,h,hs,ts,qs,fp,f,Z,S,W,hh,λl ys H' b n e tu=>k l ys H' (a_.of b) (tab.same b) n e tu]
end
def hit(t u:Str × Str):Bool:=(decide (u.1=t.1) || decide (u.2=t.1)) || (decide (u.1=t.2) || decide (u.2=t.2))
def dc(rs:List Xb)(t:Str × Str):Nat:=rs.findIdx λr=>!r.any (hit t)
def mP(K:af)(H:Hp)(l:Addr)(as:az)(rs:List Xb):Prop:=H l=some (.lst (as.map V.ref))/\Paired (λa r=>∃zs,H a\.lst zs/\bg K H zs (r.map kT)) as rs
theorem mP.same{K:af}{H H':Hp}{l:Addr}{as:az}{rs:List Xb}(h:mP K H l as rs)(s:aa H H'):mP K H' l as rs:=#[s _ _ h.1,Paired.bu h.2 λa r ⟨zs,e,t⟩=>#[zs,s _ _ e,t.same s]]
variable{f:Addr}
section v
theorem uc:bx ["rows","tie","place","row"] ["rows","tie"] (ba RO):=bH
inductive tS (K:af) (vs:ai) (H:Hp) (Q:VK) (E:XK):Prop
 |mk:∀(l t:Addr) (as:az) (rs:List Xb) (tt:Str × Str),vs=[.ref l,.ref t]->mP K H l as rs->H t\.tup ((kT tt).map kV)->(∀r∈rs,r.length<=1000)->(∀H',aa H H'->Q (.int (dc rs tt)) H')->tS K vs H Q E
theorem lM_(F:bp K "first_row_without" "first_row_without" RO f fd)(B:Bi mg):!aj aZ 1 f fd ["rows","tie"] (tS K):=by
 exists F.bG uc;let#[l,t,as,rs,tt,rfl,R,ht,Ay,k]:=h;let sz:=cc
 apply#[_,ak (eE dM Z (Xn (by rfl) B.enum %[0|0]) (ju Z (cU (bN 2 uc.nd) (cU (bN 3 uc.nd) iA)))
   (aE (bP (hU (fZ (cQ (XD Z) (by rfl) B.any PyProof.Rows.Boot.«any» (dE
    (i4 ["there","tie"] 1 [1] (dA (pv 3)) (λfp s H=>e_ (i:=0) (show (["there","tie"]:ae).Nodup by decide +kernel) Z (Or.inl Z)) (λfp s H=>iH)
     (λfp s H=>Ej (iI (Ge (K:=K) (λK=>DN K false) ME) (bM (yD (K:=K) jk eP) (pv 1) aI) (pv 0) (by with_unfolding_all rfl)) (o6 (iI (Ge (K:=K) (λK=>DN K false) ME) (bM (yD (K:=K) jk eP) (pv 1) aI) (pv 0) (by with_unfolding_all rfl))))) aJ)))) (aE (bo (pv 2))) bQ)))
  (aE (bo (cQ mR (by rfl) B.len jJ %[0|0]))),?_]
 let la:=bK R.2
 let J1:bI:=λi σ H2=>∃(v2 v3:aF),σ=[some (.ref l),some (.ref t),v2,v3]/\aa H H2/\∀r∈rs.take i,r.any (hit tt)=true
 apply#[_,Z,l,Z,#[_,.of R.1],Xv (K:=K) (a:=l) (xs:=as.map V.ref) J1 #[none,none,Z,aa.refl H,by simp] (λi σ H2 _ ⟨_,_,_,s2,_⟩=>.of (s2 _ _ R.1)) ?_ ?_]
 ·rintro i x σ H2 hx ⟨v2,v3,rfl,s2,past⟩ u hu
  have hi:i<as.length:=by
   have:=(cq.mp hx).1;rwa [ao] at this
  have ex:x=.ref as[i]:=by
   rw[dR,dB hi] at hx;exact (eK hx).symm
  subst ex;have Ls:i<rs.length:=by omega
  let#[zs,Wa,tz]:=iz R.2 i hi Ls;have s3:aa H (upd H2 u (.tup [.int i,.ref as[i]])):=s2.trans (aa.new hu);have Pi:upd H2 u (.tup [.int i,.ref as[i]]) u\.tup [.int i,.ref as[i]]:=ay;generalize upd H2 u (.tup [.int i,.ref as[i]])=H3 at s3 Pi ⊢;apply#[u,_,Z,.of Pi,Z,_,_,Z,_,_,Z,Z,?_];apply#[_,Z,as[i],Z,#[_,.of (s3 _ _ Wa)],λD hD=>?_];let lz:=bK tz;rw[ao] at lz;let lr:=Ay rs[i] (jy Ls)
  let JZ:dH:=λj out H'=>aa H3 H'/\H' D\.lst out/\out=((rs[i].take j).map (hit tt)).map V.bl
  apply mU (own:=1) (fv:=[some (.ref t)]) (xs:=zs) Z ee JZ #[aa.new hD,ay,Z] (λj out H' _ ⟨sm,_,_⟩=>.of (sm _ _ (s3 _ _ Wa))) (λout H4 ⟨s4,rM,eo⟩=>?_) (λj y out H' hy ⟨sm,eN,eo⟩=>?_)
  ·rw[lz,dz] at eo;subst eo;apply#[D,rs[i].map (hit tt),Z,.of rM,#[_,Z,?_]];have vF:(rs[i].map (hit tt)).any id=rs[i].any (hit tt):=by rw[List.any_map];rfl
   apply aQ (λc=>?_) (λc=>?_)
   ·have c:rs[i].any (hit tt)=false:=by
     have:(!(rs[i].map (hit tt)).any id)=true:=c;rw[vF] at this;simpa using this
    have e:dc rs tt=i:=by
     unfold dc;rw[List.findIdx_eq Ls];apply#[by rw[c];rfl,λj hj=>?_];have:=past (rs[j]' Z1) (List.mem_iff_getElem?.mpr #[j,by rw[List.getElem?_take_of_lt hj,dB Z1]]);rw[this];rfl
    apply#[_,Z,?_];have:=k H4 (s3.trans s4);rw[e] at this;exact this
   have c:rs[i].any (hit tt)=true:=by
    have:¬(!(rs[i].map (hit tt)).any id)=true:=c;rw[vF] at this;simpa using this
   apply#[_,_,Z,s3.trans s4,λr hr=>?_];rw[iw,dB Ls] at hr;rcases fR.mp hr with hr|hr
   ·exact past r hr
   obtain rfl:r=rs[i]:=⇑hr
   exact c
  let#[q,hq,a,rfl,ha]:=jx tz hy;let HP:=sm _ _ (s3 _ _ (wQ ha));let G2:=sm _ _ (s3 _ _ (wQ ht))
  have lo:out.length<sizeLine:=by
   rw[eo,ao,ao,cX];omega
  apply#[_,Z,Z,λNx hN=>dW ?_];have nx:Nx (upd H' D (.lst (out++[.bl (hit tt q)]))):=hN _ _ #[fF sm hD,ay,by rw[A5 _ hq,bY,eo];rfl];apply#[_,Z,t,_,_,_,Z,Z,.of G2,Z,_,Z,a,_,Z,.inr (.of HP),Z,Z,_,Z,?_];apply aQ (λc=>?_) (λc=>?_)
  ·have c:(decide (q.1=tt.1) || decide (q.2=tt.1))=true:=by rw[<- EE];exact c
   apply#[out,eN,lo,?_];rwa [show hit tt q=true by unfold hit;rw[c];rfl] at nx
  have c:(decide (q.1=tt.1) || decide (q.2=tt.1))=false:=by
   rw[<- EE];simpa using c
  apply#[_,Z,t,_,_,_,Z,Z,.of G2,Z,_,Z,a,_,Z,.inr (.of HP),Z,Z,out,eN,lo,?_];rw[show hit tt q=DY (.str tt.2) [.str q.1,.str q.2] by unfold hit;rw[c,Bool.false_or,EE]] at nx;exact nx
 rintro σ H2 ⟨v2,v3,rfl,s2,past⟩;rw[ao,la,dz] at past;apply#[_,Z,l,_,Z,.inl (.of (s2 _ _ R.1)),?_]
 have e:dc rs tt=rs.length:=by
  unfold dc;rw[List.findIdx_eq_length];intro r hr;rw[past r hr];rfl
 have:=k H2 s2;rw[e] at this;rw[ao,la];exact this
end
abbrev og:Stmt:=kA jR 8
theorem MD{α β:Type}{F:α->β->Prop}:∀{l:List α} {m:List β},l.length=m.length->(∀(i:Nat) (h1:i<l.length) (h2:i<m.length),F l[i] m[i])->Paired F l m
 |[],[],_,_=>.nil
 |[],_::_,h,_=>by cases h
 |_::_,[],h,_=>by cases h
 |a::l,b::m,h,f=>.cons (f 0 Z2 Z2) (MD ⇑h λi h1 h2=>f (i+1) ⇑h1 ⇑h2)
def ip(rs:List Xb)(t:Str × Str):List Xb:=if h:dc rs t<rs.length then rs.set (dc rs t) (rs[dc rs t]++[t]) else rs++[[t]]
def turnsOf(ts:Xb):List Xb:=ts.foldl ip []
theorem Xw(rs:List Xb)(t:Str × Str):dc rs t<=rs.length:=List.findIdx_le_length
theorem MR(rs:List Xb)(t:Str × Str):(ip rs t).length<=rs.length+1:=by
 unfold ip;split
 ·rw[List.length_set];omega
 rw[eA];exact bq _
variable{t:Str × Str}{rs:List Xb}
theorem MY{n:Nat}(h:∀r∈rs,r.length<=n):∀r∈ip rs t,r.length<=n+1:=by
 unfold ip;intro r hr;split at hr
 ·rename_i dm
  rcases List.mem_or_eq_of_mem_set hr with m|rfl
  ·have:=h r m;omega
  have:=h rs[dc rs t] (jy dm);rw[eA];show rs[dc rs t].length+1<=n+1;omega
 rcases fR.mp hr with m|m
 ·have:=h r m;omega
 obtain rfl:r=[t]:=⇑m
 simp
theorem mP.add{K:af}{H H':Hp}{l a:Addr}{as:az}{zs:ai}(h:mP K H l as rs)(nd:as.Nodup){p:Nat}(hp:p<rs.length)(ha:as[p]? = some a)(hl:H' l\.lst (as.map V.ref))(hz:H' a\.lst zs)(tz:bg K H' zs ((rs[p]++[t]).map kT))(k:∀b o,H b\o->b≠l->b≠a->H' b\o)(hla:∀b∈as,b≠l)(kt:∀b xs,H b\.tup xs->H' b\.tup xs):mP K H' l as (rs.set p (rs[p]++[t])):=by
 let la:=bK h.2;apply#[hl,MD (by rw[List.length_set,la]) λi h1 h2=>?_];rw[List.length_set] at h2;let#[sI,ea]:=cq.mp ha;by_cases e:p=i
 ·subst e;rw[List.getElem_set_self,ea];exact#[zs,hz,tz]
 rw[List.getElem_set_ne e];let#[Ff,e2,t2]:=iz h.2 i h1 h2;have ne:as[i]≠a:=λq=>e ((List.getElem_inj nd).mp (ea.trans q.symm));exact#[Ff,k _ _ e2 (hla _ (jy h1)) ne,Paired.bu t2 λy q ⟨c,z,e⟩=>#[c,z,kt _ _ e]]
theorem Za{α β:Type}{F:α->β->Prop}{l:List α}{m:List β}{a:α}{b:β}(h:Paired F l m)(f:F a b):Paired F (l++[a]) (m++[b]):=Paired.snoc h f
section v
theorem Mf:bx ["self","rows","tie","place"] iY (ba og):=bH
inductive Rf (K:af) (C:Addr) (vs:ai) (H:Hp) (Q:VK) (E:XK):Prop
 |mk:∀(p:Addr) (hs:Xa) (ts:Xb) (fp:az),vs=[.ref p]->hE K C H p hs ts fp->ts.length<64->(∀(l:Addr) (as:az) (H':Hp),aa H H'->H l=none->(∀a∈as,H a=none)->(∀a∈as,a≠l)->as.Nodup->mP K H' l as (turnsOf (aK ts))->Q (.ref l) H')->Rf K C vs H Q E
theorem jm_{C:Addr}(F:bp K "turns" "Web.turns" og f fd)(B:Bi mg)(T:Txt K mg C)(cT:!bF C 2 "ties" iY (Ri K C))(cR:!br 1 "first_row_without" ["rows","tie"] (tS K)):!aj aZ 3 f fd iY (Rf K C):=by
 exists F.bG Mf;let#[p,hs,ts,fp,rfl,W,cz,k]:=h;let sz:=cc;let#[dx,d1,l2,d3,mB,as0,efp,h1,_]:=id W.ex;have noT:(dj d1 l2 d3).lookup ("ties":Str)=none:=ka _ _ _ Z0 Z0 Z0
 apply#[_,ak (aO 1 Mf.nd (cy aJ))
  (ak (eE dM Z (dA (AS cT T.cl hr (pv 0))) (bN 2 Mf.nd)
   (ak (aO 3 Mf.nd (aX cR hr %[1,2|0]))
   (ak (bP (c_ iF (pv 3) (cQ mR (by rfl) B.len jJ %[1|0]))
    (aE (gP (gC gO kB kC ki (pv 1) %[cy aJ|0]))) bQ)
   (aE (gP (gC gO kB kC ki (bM gi (pv 1) (pv 3)) %[2|0]))))))
  (aE (bo (pv 1)))),?_]
 apply#[zl,λlr PD=>?_];have s0:aa H (upd H lr (.lst [])):=aa.new PD;have yI:upd H lr (.lst []) lr\.lst []:=ay;generalize upd H lr (.lst [])=H0 at s0 yI ⊢;apply#[_,Z,p,dx,_,Z,s0 _ _ h1,noT,p,hs,ts,fp,Z,W.same s0,cz,λlt zs H1 s1 dm Hi tz=>?_];have nlt:lt≠lr:=(bj yI dm).symm;let lz:=bK tz;rw[ao,E1] at lz;let yz:=E1 ts
 let JY:bI:=λi σ H2=>∃(v2 v3:aF) (as:az),σ=[some (.ref p),some (.ref lr),v2,v3]/\a_ lr H1 H2/\(∀a∈as,H1 a=none/\a≠lr)/\as.Nodup/\mP K H2 lr as (turnsOf ((aK ts).take i))/\(turnsOf ((aK ts).take i)).length<=i/\∀r∈turnsOf ((aK ts).take i),r.length<=i
 apply#[lt,Z,#[_,.of Hi],fY (K:=K) (a:=lt) (xs:=zs) JY
  #[none,none,[],Z,a_.refl _ _,by simp,.nil,#[s1 _ _ yI,.nil],bq _,by intro r hr;simp[turnsOf] at hr] (λi σ H2 _ ⟨_,_,_,_,b,_⟩=>.of (b _ _ Hi nlt)) ?_ ?_]
 ·rintro i y σ H2 hy ⟨v2,v3,as,rfl,b2,fa,nd,R,l1,DW⟩;let#[t,ht,a,rfl,ha]:=jx tz hy;have hi:i<(aK ts).length:=(cq.mp ht).1;let PB:=s1 _ _ yI;have nal:a≠lr:=cu ha PB nofun;let wX:=b2 _ _ ha nal;let la:=bK R.2
  have wZ:turnsOf ((aK ts).take (i+1))=ip (turnsOf ((aK ts).take i)) t:=by
   unfold turnsOf;rw[iw,ht,List.foldl_append];rfl
  generalize turnsOf ((aK ts).take i)=rs at R l1 DW la wZ;apply#[_,Z,_,Z,lr,a,as,rs,t,Z,R,wX,λr hr=>by have:=DW r hr;omega,λH3 s3=>?_];let R3:=R.same s3;let sN:=s3 _ _ wX;have b3:a_ lr H1 H3:=b2.trans (a_.of s3);have f3:∀a∈as,H1 a=none/\a≠lr:=fa;apply#[_,Z,_,Z,lr,_,Z,.inl (.of R3.1),Z,_,Z,?_];apply aQ (λc=>?_) (λc=>?_)
  ·have c:dc rs t=rs.length:=by
    have:V.int (dc rs t)=V.int ((as.map V.ref).length:Nat):=⇑c
    rw[ao,la] at this;have:=V.int.inj this;omega
   apply#[_,Z,.inl #[Z,_,.of R3.1],zl,λln qt=>?_];let#[s4,PF]:=aA (o:=.lst []) qt;have sG:ln≠lr:=(bj R3.1 qt).symm;apply#[lr,_,_,Z,Z,s4 _ _ R3.1,by rw[ao];omega,?_]
   have Qz:H1 ln=none:=by
    cases z:H1 ln with
    |none=>rfl
    |some o=>
     have:=b3 _ _ z sG;rw[qt] at this;cases this
   have Os:ln∉as:=λm=>by
    let#[j,hj,e]:=si m;let#[zz,e2,_]:=iz R3.2 j hj Z1;rw[e,qt] at e2;cases e2
   have zp:gK (as.map V.ref++[V.ref ln]) (dc rs t:Int)\.ref ln:=by
    rw[iX Z1 (by rw[eA,ao];show ((dc rs t:Nat):Int)<((as.length+1:Nat):Int);omega),xB,c,A7 (by rw[ao];omega),ao,la,Nat.sub_self];rfl
   have Ci:upd (upd H3 ln (.lst [])) lr (.lst (as.map V.ref++[.ref ln])) lr\.lst (as.map V.ref++[.ref ln]):=ay;have Cj:upd (upd H3 ln (.lst [])) lr (.lst (as.map V.ref++[.ref ln])) ln\.lst []:=by rw[ax sG];exact PF
   have k5:∀{b o},H3 b\o->b≠lr->upd (upd H3 ln (.lst [])) lr (.lst (as.map V.ref++[.ref ln])) b\o:=λe ne=>by rw[ax ne];exact s4 _ _ e
   generalize upd (upd H3 ln (.lst [])) lr (.lst (as.map V.ref++[.ref ln]))=H5 at Ci Cj k5 ⊢;apply#[_,Z,_,Z,lr,_,_,_,Z,Z,.of Ci,zp,.inl #[Z,_,.of Cj],_,Z,ln,_,_,Z,Z,Cj,by show 0<sizeLine;decide,?_];have k6:∀{b o},H3 b\o->b≠lr->upd H5 ln (.lst ([]++[.ref a])) b\o:=λe ne=>by rw[ax (bj e qt)];exact k5 e ne
   have Hl:upd H5 ln (.lst ([]++[.ref a])) ln\.lst [.ref a]:=ay;have Hk:upd H5 ln (.lst ([]++[.ref a])) lr\.lst (as.map V.ref++[.ref ln]):=by rw[ax sG.symm];exact Ci
   generalize upd H5 ln (.lst ([]++[.ref a]))=H6 at k6 Hl Hk ⊢;have kt:∀b xs,H3 b\.tup xs->H6 b\.tup xs:=λb xs e=>k6 e (cu e R3.1 nofun)
   have ep:ip rs t=rs++[[t]]:=by
    unfold ip;rw[dif_neg Z1]
   apply#[_,_,as++[ln],Z,λb o e ne=>k6 (b3 _ _ e ne) ne,λx hx=>?_,?_,?_,?_,?_]
   ·rcases fR.mp hx with m|m
    ·exact fa x m
    obtain rfl:x=ln:=⇑m
    exact#[Qz,sG]
   ·rw[List.nodup_append]
    exact#[nd,by simp,λx hx z hz=>by
     obtain rfl:z=ln:=⇑hz
     exact λq=>Os (q▸hx)]
   ·rw[wZ,ep];apply#[by rw[bY];exact Hk,Za (MD la λj h1 h2=>?_) #[_,Hl,.cons #[a,Z,kt _ _ sN] .nil]];let#[zz,e,tt]:=iz R3.2 j h1 h2;exact#[zz,k6 e (fa _ (jy h1)).2,Paired.bu tt λy q ⟨c,z,e⟩=>#[c,z,kt _ _ e]]
   ·rw[wZ];have:=MR rs t;omega
   rw[wZ];exact MY DW
  have c:dc rs t<rs.length:=by
   let h1:=Xw rs t
   have:¬dc rs t=rs.length:=λe=>c (by
    rw[ao,la,e];simp)
   omega
  have sI:dc rs t<as.length:=by omega
  have nl:as[dc rs t]≠lr:=(fa _ (jy sI)).2;let#[zz,ez,Fi]:=iz R3.2 (dc rs t) sI c;let OF:=bK Fi;rw[ao] at OF;let OH:=DW _ (jy c)
  have zp:gK (as.map V.ref) (dc rs t:Int)\.ref as[dc rs t]:=by
   rw[iX Z1 (by rw[ao];omega),xB,dR,dB sI];rfl
  apply#[_,Z,_,Z,lr,_,_,_,Z,Z,.of R3.1,zp,.inl #[Z,_,.of ez],_,Z,_,_,_,Z,Z,ez,by omega,?_];have k6:∀{b o},H3 b\o->b≠as[dc rs t]->upd H3 as[dc rs t] (.lst (zz++[.ref a])) b\o:=λe ne=>by rw[ax ne];exact e
  have h6:upd H3 as[dc rs t] (.lst (zz++[.ref a])) as[dc rs t]\.lst (zz++[.ref a]):=ay;generalize upd H3 as[dc rs t] (.lst (zz++[.ref a]))=H6 at k6 h6 ⊢;have kt:∀b xs,H3 b\.tup xs->H6 b\.tup xs:=λb xs e=>k6 e (cu e ez nofun)
  have ep:ip rs t=rs.set (dc rs t) (rs[dc rs t]++[t]):=by
   unfold ip;rw[dif_pos c]
  apply#[_,_,as,Z,λb o e ne=>k6 (b3 _ _ e ne) (bj e (fa _ (jy sI)).1),fa,nd,?_,?_,?_]
  ·rw[wZ,ep];apply R3.add nd c (dB sI) (k6 R3.1 nl.symm) h6 ?_ (λb o e _ ne=>k6 e ne) (λb hb=>(fa b hb).2) kt;rw[bY];exact vX (Paired.bu Fi λy q ⟨c,z,e⟩=>#[c,z,kt _ _ e]) (kt _ _ sN)
  ·rw[wZ];have:=MR rs t;omega
  rw[wZ];exact MY DW
 rintro σ H2 ⟨v2,v3,as,rfl,b2,fa,nd,R,_,_⟩;rw[lz,<- yz,dz] at R;have s2:aa H H2:=λb o e=>b2 _ _ (s1 _ _ (s0 _ _ e)) (bj e PD);exact#[_,Z,k lr as H2 s2 PD (λa ha=>(s0.trans s1).free (fa a ha).1) (λa ha=>(fa a ha).2) nd R]
end
end Ev
namespace L2
open PySem PyProof.Rows
inductive uX (K:af) (x:V) (y:V) (H:Hp) (Q:VK):Prop
 |mk:∀a b xs,x=.ref a->y=.ref b->eG K H a xs->eG K H b []->Q (.bl xs.isEmpty) H->uX K x y H Q
variable{X:Cx}
theorem jn_(hu:X.A.units+0+1<cLine):eQ X (compareOp .Eq) (uX X.K):=by
 intro pins s σ H x y v u Q I rx ry h;let#[a,b,xs,rfl,rfl,t,t',hq]:=h;cases xs with
 |nil=>exact Vn fQ hu pins s σ H (.ref a) (.ref b) v u Q I rx ry #[[],[],#[a,[],Z,t,.nil],#[b,[],Z,t',.nil],hq]
 |cons z zs=>
  cases rx;cases ry;let#[us,r,pl,_]:=I.list t;let#[vs,r',yl,_]:=I.list t';let l1:=r.length;let l2:=r'.length;exact SeqAt.eq_list_lengthsAt pl.isList yl.isList (by simp only[dG,bne_iff_ne];simp at l1 l2;omega) Z1 #[.bl false,H,I,Z,hq]
end L2
namespace Ev
open PySem L2
def hZ(ts:Xb)(m:Int):Xb:=((turnsOf (aK ts))[(m % ((turnsOf (aK ts)).length:Int)).toNat]?).getD []
def vK(hs:Xa)(ts:Xb)(qs:aC)(f:ag)(gd:Str)(t:Str × Str):fW:=iC hs ts qs f gd [] t.1 t.2++iC hs ts qs f gd [] t.2 t.1
def IC(hs:Xa)(ts:Xb)(qs:aC)(f:ag)(gd:Str)(m:Int):fW:=(hZ ts m).flatMap (vK hs ts qs f gd)
variable{u:Str × Str}
theorem gp_{rs:List Xb}{t:Str × Str}{r:Xb}(hr:r∈ip rs t)(hu:u∈r):u=t∨∃r'∈rs,u∈r':=by
 unfold ip at hr;split at hr
 ·rename_i dm
  rcases List.mem_or_eq_of_mem_set hr with m|rfl
  ·exact .inr #[r,m,hu]
  rcases fR.mp hu with h|h
  ·exact .inr #[_,jy dm,h]
  exact .inl ⇑h
 rcases fR.mp hr with m|m
 ·exact .inr #[r,m,hu]
 obtain rfl:r=[t]:=⇑m
 exact .inl ⇑hu
theorem Ym{u:Str × Str}:∀(ts:Xb) (rs:List Xb) {r:Xb},r∈ts.foldl ip rs->u∈r->u∈ts∨∃r'∈rs,u∈r'
 |[],rs,r,hr,hu=>.inr #[r,hr,hu]
 |t::ts,rs,r,hr,hu=>by
  rw[List.foldl_cons] at hr;rcases Ym ts (ip rs t) hr hu with h|⟨r',h1,h2⟩
  ·exact .inl (dJ _ h)
  rcases gp_ h1 h2 with rfl|h
  ·exact .inl cZ
  exact .inr h
theorem Yx:∀(ts:Xb) (rs:List Xb),(ts.foldl ip rs).length<=rs.length+ts.length
 |[],rs=>bq _
 |t::ts,rs=>by
  rw[List.foldl_cons,iG];let h1:=Yx ts (ip rs t);let h2:=MR rs t;omega
theorem YJ{n:Nat}:∀(ts:Xb) (rs:List Xb),(∀r∈rs,r.length<=n)->∀r∈ts.foldl ip rs,r.length<=n+ts.length
 |[],rs,h,r,hr=>h r hr
 |t::ts,rs,h,r,hr=>by
  rw[List.foldl_cons] at hr;have:=YJ (n:=n+1) ts (ip rs t) (MY h) r hr;rw[iG];omega
theorem MX{ts:Xb}{m:Int}(h:u∈hZ ts m):u∈aK ts:=by
 unfold hZ at h;cases e:(turnsOf (aK ts))[(m % ((turnsOf (aK ts)).length:Int)).toNat]? with
 |none=>rw[e] at h;cases h
 |some r=>
  rw[e] at h;rcases Ym (aK ts) [] (cj e) h with z|⟨_,z,_⟩
  ·exact z
  cases z
theorem Y_{hs:Xa}{ts:Xb}(G:Good hs ts)(m:Int):(hZ ts m).length<64:=by
 unfold hZ;cases e:(turnsOf (aK ts))[(m % ((turnsOf (aK ts)).length:Int)).toNat]? with
 |none=>show 0<64;decide
 |some r=>
  have:=YJ (n:=0) (aK ts) [] Z2 r (cj e);rw[E1] at this;have:=G.sk;show r.length<64;omega
theorem Mp{hs:Xa}{ts:Xb}(G:Good hs ts)(h:u∈aK ts):u.1∈aD hs/\u.2∈aD hs:=by
 have k:kT u∈(aK ts).map kT:=bh.mpr #[u,h,Z];rw[Jt,(mV _).mem_iff] at k;let#[t,ht,e]:=bh.mp k;let e:=Io e;let#[h1,h2]:=G.qZ t ht;let n1:=(fG hs).mem_iff.mpr h1;let n2:=(fG hs).mem_iff.mpr h2;rw[<- e];unfold aL;split
 ·exact#[n1,n2]
 exact#[n2,n1]
theorem R9{α β:Type}{g:α->List β}{n:Nat}(h:∀x,(g x).length<=n):∀l:List α,(l.flatMap g).length<=n * l.length
 |[]=>gF _
 |a::l=>by
  let h1:=h a;let h2:=R9 h l;rw[xy,eA,iG,Nat.mul_succ];omega
theorem Zq(hs:Xa)(ts:Xb)(qs:aC)(f:ag)(gd:Str)(t:Str × Str):(vK hs ts qs f gd t).length<=2:=by
 unfold vK;rw[eA];let h1:=Dg hs ts qs f gd [] t.1 t.2;let h2:=Dg hs ts qs f gd [] t.2 t.1;omega
variable{f0:Addr}
section v
theorem IV:bx ["sight","guard","moment","rows","moves","one","other"] ["sight","guard","moment"] (ba Sa):=bH
inductive RX (K:af) (CS CG CW:Addr) (vs:ai) (H:Hp) (Q:VK) (E:XK):Prop
 |mk:∀(v g p:Addr) (gd:Str) (m:Int) (hs:Xa) (ts:Xb) (qs:aC) (fp:az) (f:ag),vs=[.ref v,.str gd,.int m]->0<=m->jG K CS CG CW H v g p hs ts qs fp f->Wd hs ts qs f->(∀l ys H',aa H H'->H l=none->H' l\.lst ys->bg K H' ys ((IC hs ts qs f gd m).map kM)->Q (.ref l) H')->RX K CS CG CW vs H Q E
theorem gt_{CS CG CW:Addr}{fd:Ad}(F:bp K "moves_by_turns" "moves_by_turns" Sa f0 fd)(B:Bi mg)(TS:hV K CS)(TG:eR K CG)(TW:Txt K mg CW)(cT:!bF CW 3 "turns" iY (Rf K CW))(cH:!br 4 "heaviest_move" mi (kZ K CS CG CW)):!aj aZ 5 f0 fd ["sight","guard","moment"] (RX K CS CG CW):=by
 exists F.bG IV;let#[v,g,p,gd,m,hs,ts,qs,fp,f,rfl,m0,S,W,k]:=h;let sz:=cc;have G6:aY 3 _:=hr.mono (by decide);refine' #[_,?r0,?kk]
 case' r0=>refine' ak ?s1 ?r1
 case' r1=>refine' ak ?s2 ?r2
 case' r2=>refine' ak ?s3 (ak ?s4 (aE ?s5))
 case s1=>exact aO 3 IV.nd (AS cT TW.cl G6 (eF (eF (pv 0) Z) Z))
 case s2=>exact bP (c_ (jn_ (lX hr 0)) (pv 3) (cy aJ)) (aE (bo (cy aJ))) bQ
 case s3=>exact aO 4 IV.nd (cy aJ)
 case' s4=>refine' eE dM Z (dA (bM gi (pv 3) (bw sV (pv 2) (cQ mR (by rfl) B.len jJ %[3|0])))) (ju Z (cU (bN 5 IV.nd) (cU (bN 6 IV.nd) iA))) (ak ?b1 (aE ?b2))
 case b1=>exact gP (gC gO PySem.F.slot_list_extend PySem.F.type_list_extend Ju (pv 4) %[aX cH hr %[0,5,6,1,cy aJ|0]|0])
 case b2=>exact gP (gC gO PySem.F.slot_list_extend PySem.F.type_list_extend Ju (pv 4) %[aX cH hr %[0,6,5,1,cy aJ|0]|0])
 case s5=>exact bo (pv 4)
 let#[dx,dl,dv,dp,ad,h1,G,h3,h4,h5,h6]:=S.ex;let#[lR,dw,dy,vs,cE,g1,g2,_]:=id G.ex;let#[gm,d1,l2,d3,mB,as0,ef,w1,_]:=id g2.ex;have iQ:(dj d1 l2 d3).lookup ("turns":Str)=none:=ka _ _ _ Z0 Z0 Z0;apply#[_,Z,v,CS,dx,_,_,Z,h1,TS.cl,TS.nW,ib _ _ _ _,g,CG,lR,_,_,Z,g1,TG.cl,TG.nW,qE _ _ _,p,gm,_,Z,w1,iQ,p,hs,ts,cE,Z,g2,W.Gd.sk,λlr as H1 s1 nr _ _ _ R=>?_];lk;let la:=bK R.2;apply#[_,Z,zl,λle ne=>?_];let#[fV,e2]:=aA (o:=.lst []) ne;generalize upd H1 le (.lst [])=H2 at fV e2 ⊢;let s2:=s1.trans fV;let R2:=R.same fV;apply#[lr,le,_,Z,Z,.of R2.1,.of e2,_,Z,?_];apply aQ (λc=>?_) (λc=>?_)
 ·have z:as=[]:=⇑c
  have z:turnsOf (aK ts)=[]:=by
   rw[z] at la;exact A6.mp la.symm
  apply#[zl,λl nl=>?_];apply k l [] _ (s2.trans (aa.new nl)) (s2.free nl) ay ?_;unfold IC hZ;rw[z];exact .nil
 have z:as≠[]:=⇑c
 have pos:0<as.length:=List.length_pos_iff.mpr z;apply#[zl,λlm nm=>?_];lk;let#[jS,e3]:=aA (o:=.lst []) nm;generalize upd H2 lm (.lst [])=H3 at jS e3 ⊢;let s3:=s2.trans jS;have DQ:H lm=none:=s2.free nm;let R3:=R2.same jS
 have lt:(m % ((turnsOf (aK ts)).length:Int)).toNat<as.length:=by
  let h1:=zi m (show ((as.length:Nat):Int)≠0 by omega);let h2:=A1 m (show 0<((as.length:Nat):Int) by omega);rw[<- la];omega
 have lt':(m % ((turnsOf (aK ts)).length:Int)).toNat<(turnsOf (aK ts)).length:=by omega
 let#[zs,hz,tz]:=iz R2.2 _ lt lt'
 have er:hZ ts m=(turnsOf (aK ts))[(m % ((turnsOf (aK ts)).length:Int)).toNat]:=by
  unfold hZ;rw[dB lt'];rfl
 rw[<- er] at tz;let lm63:=Y_ W.Gd m;have Oa:∀u∈hZ ts m,u.1∈aD hs/\u.2∈aD hs:=λu hu=>Mp W.Gd (MX hu);let h0:=zi m (show (((turnsOf (aK ts)).length:Nat):Int)≠0 by omega)
 have ix:gK (as.map V.ref) (m % ((as.map V.ref).length:Int))\.ref (as[(m % ((turnsOf (aK ts)).length:Int)).toNat]):=by
  rw[ao,la,iX h0 (by rw[ao];omega),dR,dB lt];rfl
 generalize as[(m % ((turnsOf (aK ts)).length:Int)).toNat]=ar at hz ix;let lz:=bK tz;rw[ao] at lz;have TK:ar≠lm:=bj hz nm;replace hz:=jS _ _ hz;replace tz:=tz.same jS
 let JX:bI:=λi σ H'=>∃(v5 v6:aF) (ys:ai),σ=[some (.ref v),some (.str gd),some (.int m),some (.ref lr),some (.ref lm),v5,v6]/\aa H H'/\a_ lm H3 H'/\H' lm\.lst ys/\bg K H' ys ((((hZ ts m).take i).flatMap (vK hs ts qs f gd)).map kM)
 apply#[_,Z,_,Z,_,Z,lr,_,Z,.inl (.of R3.1),_,_,Z,Z,by rw[ao];omega,lr,_,_,_,Z,Z,.of R3.1,ix,ar,Z,#[_,.of hz],fY (K:=K) (a:=ar) (xs:=zs) JX #[none,none,[],Z,s3,a_.refl _ _,e3,.nil] (λi σ H' _ ⟨_,_,_,_,_,b,_⟩=>.of (b _ _ hz TK)) ?_ ?_]
 ·rintro i x σ H4 hx ⟨v5,v6,ys,rfl,s4,b4,m4,t4⟩;let#[u,hu,a,rfl,ha]:=jx tz hx;have hi:i<(hZ ts m).length:=(cq.mp hu).1;let#[n1,n2]:=Oa u (cj hu);have Qd:H4 a\.tup [.str u.1,.str u.2]:=b4 _ _ ha (cu ha e3 nofun);apply#[a,_,Z,.of Qd,Z,_,_,Z,_,_,Z,Z,?_];dsimp only;let ly:=bK t4;rw[ao] at ly;let bl:=R9 (Zq hs ts qs f gd) ((hZ ts m).take i);rw[cX] at bl;let l1:=Dg hs ts qs f gd [] u.1 u.2;let DW:=Dg hs ts qs f gd [] u.2 u.1;apply#[_,Z,.inl #[Z,_,.of m4],_,Z,_,Z,_,Z,_,Z,zl,λlg ng=>?_];let#[i7,e5]:=aA (o:=.lst []) ng;generalize upd H4 lg (.lst [])=H5 at i7 e5 ⊢;apply#[v,g,p,lg,u.1,u.2,gd,[],hs,ts,qs,fp,f,Z,S.same (s4.trans i7),W,n1,n2,e5,λl6 z6 H6 rq n6 e6 t6=>?_];let K9:=i7.trans rq;let m6:=K9 _ _ m4;let lz6:=bK t6;rw[ao] at lz6;apply#[lm,l6,ys,z6,Z,Z,m6,e6,by omega,?_];have s7:aa H (upd H6 lm (.lst (ys++z6))):=fF (s4.trans K9) DQ;have b7:a_ lm H3 (upd H6 lm (.lst (ys++z6))):=λb o e n=>by rw[ax n];exact K9 _ _ (b4 _ _ e n)
  have e7:upd H6 lm (.lst (ys++z6)) lm\.lst (ys++z6):=ay
  have t7:bg K (upd H6 lm (.lst (ys++z6))) (ys++z6) ((((hZ ts m).take i).flatMap (vK hs ts qs f gd)++iC hs ts qs f gd [] u.1 u.2).map kM):=by
   rw[bY];exact kI (jb (t4.same K9) m6) (jb t6 m6)
  generalize upd H6 lm (.lst (ys++z6))=H7 at s7 b7 e7 t7 ⊢;dsimp only;apply#[_,Z,.inl #[Z,_,.of e7],_,Z,_,Z,_,Z,_,Z,zl,λVe ng2=>?_];let#[km,e8]:=aA (o:=.lst []) ng2;generalize upd H7 Ve (.lst [])=H8 at km e8 ⊢;apply#[v,g,p,Ve,u.2,u.1,gd,[],hs,ts,qs,fp,f,Z,S.same (s7.trans km),W,n2,n1,e8,λl9 z9 H9 rp n9 e9 t9=>?_];let K7:=km.trans rp;let m9:=K7 _ _ e7;let lz9:=bK t9;have ly7:(ys++z6).length=ys.length+z6.length:=eA;rw[ao] at lz9;apply#[lm,l9,ys++z6,z9,Z,Z,m9,e9,by omega,?_];apply#[_,_,(ys++z6)++z9,Z,fF (s7.trans K7) DQ,λb o e n=>by rw[ax n];exact K7 _ _ (b7 _ _ e n),ay,?_];rw[show (hZ ts m).take (i+1)=(hZ ts m).take i++[u] by rw[iw,hu];rfl,A8,xy,List.flatMap_nil,hG];unfold vK;rw[<- xA,bY];exact kI (jb (t7.same K7) m9) (jb t9 m9)
 rintro σ H4 ⟨v5,v6,ys,rfl,s4,b4,m4,t4⟩;rw[lz,dz] at t4;exact#[_,Z,k lm ys H4 s4 DQ m4 t4]
theorem pY:bx ["sight","rule","moment","words","moves","hand"] AJ (ba k_):=bH
inductive QG (K:af) (CS CG CW:Addr) (vs:ai) (H:Hp) (Q:VK) (E:XK):Prop
 |mk:∀(v g p:Addr) (m:Int) (gd:Str) (hs:Xa) (ts:Xb) (qs:aC) (fp:az) (f:ag),∀r∈rl,vs=[.ref v,.str r.1,.int m]->r.2.1="turns"->r.2.2.2\gd->0<=m->jG K CS CG CW H v g p hs ts qs fp f->Wd hs ts qs f->(∀l ys H',aa H H'->H l=none->H' l\.lst ys->bg K H' ys ((IC hs ts qs f gd m).map kM)->Q (.ref l) H')->QG K CS CG CW vs H Q E
theorem j4_{CS CG CW:Addr}{fd:Ad}(F:bp K "moves_seen" "moves_seen" k_ f0 fd)(IZ:!br 2 "checked_words" ["rule"] (Mt K))(cT:!br 5 "moves_by_turns" ["sight","guard","moment"] (RX K CS CG CW)):!aj aZ 6 f0 fd AJ (QG K CS CG CW):=by
 exists F.bG pY;let#[v,g,p,m,gd,hs,ts,qs,fp,f,r,iP,rfl,le,eg,m0,S,W,k]:=h;refine' #[_,ak ?s1 (ak ?s2 fH),?kk]
 case s1=>exact Vm (i:=3) pY.nd Z (Or.inl Z) (aX IZ hr %[1|0])
 case s2=>exact bP (c_ iF (bM eP (pv 3) aI) cn) (aE (bo (aX cT hr %[0,bM eP (pv 3) aI,2|0]))) bQ
 apply#[_,Z,r,iP,Z,λaw ha=>?_];lk;apply#[_,Z,aw,_,_,_,Z,Z,ha _,Z,Z,_,Z,?_];rw[xr,cw le];apply fw ?_;apply#[_,Z,_,Z,aw,_,_,.str gd,Z,Z,ha _,?_,_,Z,v,g,p,gd,m,hs,ts,qs,fp,f,Z,m0,S,W,k];rw[eg];rfl
end
theorem aj.two{P:Ae}{w:Af}{K:af}{mg:Str->Option Aa}{base:Heap}{CX:wF}{k:Nat}{f:Addr}{fd:Ad}{ps:ae}{sp Ux NN:Sp}(F:!aj CX k f fd ps Ux)(G:!aj CX k f fd ps NN)(h:∀vs H Q E,sp vs H Q E->Ux vs H Q E∨NN vs H Q E):!aj CX k f fd ps sp:=
 #[λvs H Q E q=>(h vs H Q E q).elim (F.len vs H Q E) (G.len vs H Q E),λA outer s H args us vs Q E hr e b v q=>(h vs H Q E q).elim (F.run A outer s H args us vs Q E hr e b v) (G.run A outer s H args us vs Q E hr e b v)]
def oX:Bb:=λr hs ts qs f h=>if r.2.1="least" then ze r hs ts qs f h else if r.2.1="below" then AX r hs ts qs f h else EL r hs ts qs f h
theorem l9_:∀r∈rl,r.2.1≠"turns"->r.2.1≠"least"->r.2.1≠"below"->r.2.1="shares":=by decide +kernel
theorem iY_:∀r∈rl,r.2.1="turns"->r.2.2.2.isSome=true:=by decide +kernel
variable{r:Rl}
theorem YR(h:r.2.1="least")(hs:Xa)(ts:Xb)(qs:aC)(f:ag)(x:Str):oX r hs ts qs f x=ze r hs ts qs f x:=aB h
theorem Yt(h:r.2.1="below")(hs:Xa)(ts:Xb)(qs:aC)(f:ag)(x:Str):oX r hs ts qs f x=AX r hs ts qs f x:=(au (by rw[h];decide +kernel)).trans (aB h)
theorem Zt(h:r.2.1="shares")(hs:Xa)(ts:Xb)(qs:aC)(f:ag)(x:Str):oX r hs ts qs f x=EL r hs ts qs f x:=(au (by rw[h];decide +kernel)).trans (au (by rw[h];decide +kernel))
def qi(r:Rl)(hs:Xa)(ts:Xb)(qs:aC)(f:ag)(m:Int):fW:=if r.2.1="turns" then IC hs ts qs f (r.2.2.2.getD "") m else C8 oX r hs ts qs f
def BT(T1 T2:Addr)(H H':Hp):Prop:=∀b o,H b\o->b≠T1->b≠T2->H' b\o
variable{T1 T2:Addr}
theorem BT.of{H H':Hp}(s:aa H H'):BT T1 T2 H H':=λb o e _ _=>s b o e
theorem BT.trans{H H1 H2:Hp}(a:BT T1 T2 H H1)(b:BT T1 T2 H1 H2):BT T1 T2 H H2:=λc o e n1 n2=>b c o (a c o e n1 n2) n1 n2
theorem BT.nt{H H':Hp}(a:BT T1 T2 H H')(tb:Tb H T1 T2):NT H H':=λb o e n=>by
 let#[v1,h1]:=kF tb.a;let#[v2,h2]:=kF tb.b;exact a b o e (λz=>n v1 (by rw[z,h1] at e;exact (eK e).symm)) (λz=>n v2 (by rw[z,h2] at e;exact (eK e).symm))
section
variable{P:Ae}{w:Af}{K:af}{mg:Str->Option Aa}{base:Heap}{CS CG CW T1 T2:Addr}
theorem gV_{fd:Ad}{T:Addr}(l:!aj aZ 6 f0 fd w_ (xg K CS CG CW T (λr=>r.2.1="least") ze))(b:!aj aZ 6 f0 fd w_ (xg K CS CG CW T (λr=>r.2.1="below") AX))(s:!aj aZ 6 f0 fd w_ (xg K CS CG CW T (λr=>r.2.1="shares") EL)):!aj aZ 6 f0 fd w_ (xg K CS CG CW T (λr=>r.2.1≠"turns") oX):=by
 apply aj.two l (NN:=xg K CS CG CW T (λr=>r.2.1≠"turns"/\r.2.1≠"least") oX) (aj.two b s λvs H Q E q=>?_) λvs H Q E q=>?_
 ·let#[v,g,p,aw,h,hs,ts,qs,fp,f,r,hr,e,#[n1,n2],ha,S,W,hh,tab,k]:=q;by_cases c:r.2.1="below"
  ·exact .inl #[v,g,p,aw,h,hs,ts,qs,fp,f,r,hr,e,c,ha,S,W,hh,tab,λl ys H' b t n e tu=>k l ys H' b t n e (by rw[Yt c];exact tu)]
  let c:=l9_ r hr n1 n2 c;exact .inr #[v,g,p,aw,h,hs,ts,qs,fp,f,r,hr,e,c,ha,S,W,hh,tab,λl ys H' b t n e tu=>k l ys H' b t n e (by rw[Zt c];exact tu)]
 let#[v,g,p,aw,h,hs,ts,qs,fp,f,r,hr,e,n1,ha,S,W,hh,tab,k]:=q;by_cases c:r.2.1="least"
 ·exact .inl #[v,g,p,aw,h,hs,ts,qs,fp,f,r,hr,e,c,ha,S,W,hh,tab,λl ys H' b t n e tu=>k l ys H' b t n e (by rw[YR c];exact tu)]
 exact .inr #[v,g,p,aw,h,hs,ts,qs,fp,f,r,hr,e,#[n1,c],ha,S,W,hh,tab,k]
inductive Rk (K:af) (CS CG CW T:Addr) (vs:ai) (H:Hp) (Q:VK) (E:XK):Prop
 |mk:∀(v g p:Addr) (m:Int) (hs:Xa) (ts:Xb) (qs:aC) (fp:az) (f:ag),∀r∈rl,vs=[.ref v,.str r.1,.int m]->0<=m->jG K CS CG CW H v g p hs ts qs fp f->Wd hs ts qs f->dZ H T mE->(∀l ys H',a_ T H H'->dZ H' T mE->H l=none->H' l\.lst ys->bg K H' ys ((qi r hs ts qs f m).map kM)->Q (.ref l) H')->Rk K CS CG CW T vs H Q E
theorem j9_{fd:Ad}{T:Addr}(a:!aj aZ 7 f0 fd AJ (nB K CS CG CW T (λr=>r.2.1≠"turns") oX))(t:!aj aZ 6 f0 fd AJ (QG K CS CG CW)):!aj aZ 7 f0 fd AJ (Rk K CS CG CW T):=by
 apply aj.two a (t.mono (by decide)) λvs H Q E q=>?_;let#[v,g,p,m,hs,ts,qs,fp,f,r,hr,e,m0,S,W,tab,k]:=q;by_cases c:r.2.1="turns"
 ·let#[gd,eg]:=E8.mp (iY_ r hr c);exact .inr #[v,g,p,m,gd,hs,ts,qs,fp,f,r,hr,e,c,eg,m0,S,W,λl ys H' s n e tu=>k l ys H' (a_.of s) (tab.same s) n e (by unfold qi;rw[aB c,eg];exact tu)]
 exact .inl #[v,g,p,m,hs,ts,qs,fp,f,r,hr,e,c,S,W,tab,λl ys H' b t n e tu=>k l ys H' b t n e (by unfold qi;rw[au c];exact tu)]
structure Pld (K:af) (CG CW T1 T2:Addr) (H:Hp) (g p d:Addr) (hs:Xa) (ts:Xb) (qs:aC) (fp:az) (f:ag):Prop where
 Pl:xc K CG CW H g p d hs ts qs fp f
 W:Wd hs ts qs f
 tb:Tb H T1 T2
 has:∀b∈fp,∃o,H b\o
end
section
variable{P:Ae}{w:Af}{K:af}{mg:Str->Option Aa}{base:Heap}{CS CG CW T1 T2:Addr}
end
section v
theorem rh:bx qQ qQ (ba Sj):=bH
def YI:Sp:=λvs H Q _=>∃(l:Addr) (g:Int),vs=[.ref l,.int g]/\0<=g/\g<4/\d_ H l/\∀r H',1<=r->r<=1000000000->a_ l H H'->d_ H' l->Q (.int r) H'
theorem gy_{f:Addr}{fd:Ad}(F:bp K "_law_weight" "_law_weight" Sj f fd)(cD:!br 2 y_ AH De):!aj aZ 3 f fd qQ YI:=by
 exists F.bG rh;let#[l,g,rfl,g0,g4,st,k]:=h;refine' #[_,ak ?s1 (aE ?s2),?kk]
 case s1=>exact bP (c_ iF (pv 1) aI) (aE (bo (bM gi (cy %[bw OZ aI aI,bw h9 aI (aX cD hr %[0,bw OZ aI aI|0])|0]) (aX cD hr %[0,aI|0])))) bQ
 case s2=>exact bo (bw h9 aI (aX cD hr %[0,bM gi (cy %[aI,aI,aI|0]) (pv 1)|0]))
 apply#[_,Z,Z,_,Z,?_];apply aQ (λc=>?_) (λc=>?_)
 ·apply#[_,_,Z,Z,#[by decide,by decide,by decide],_,Z,_,_,Z,Z,#[by decide,by decide,by decide],l,(10:Int) ^ (9:Int).toNat,Z,by decide,by decide,st,λr1 H1 q0 q1 b1 mD=>#[_,_,Z,Z,?_]];have q1:r1<1000000000:=q1;apply#[zl,λlx nx=>?_];let#[s2,e2]:=aA (o:=.lst [.int ((10:Int) ^ (9:Int).toNat),.int (1+r1)]) nx;let xl:=mD.ne nx;generalize upd H1 lx (.lst [.int ((10:Int) ^ (9:Int).toNat),.int (1+r1)])=H2 at s2 e2 ⊢;apply#[_,Z,l,2,Z,by decide,by decide,mD.same s2,λr2 H3 u0 u1 b3 gR=>?_]
  let#[v,hv,x,rfl,x1,x2]:=vy (p:=λv:V=>∃x:Int,v=V.int x/\1<=x/\x<=1000000000) (xs:=[V.int ((10:Int) ^ (9:Int).toNat),.int (1+r1)]) (n:=2) Z u0 u1 (λv hv=>by
   simp only[bX,xH,or_false] at hv;rcases hv with rfl|rfl
   ·exact#[_,Z,by decide,by decide]
   exact#[_,Z,by omega,by omega])
  exact#[lx,_,_,_,Z,Z,.of (b3 _ _ e2 xl),hv,k x H3 x1 x2 ((b1.trans (a_.of s2)).trans b3) gR]
 have g3:g<3:=by
  have:¬g=3:=λz=>c (by rw[z];rfl);omega
 apply#[_,Z,zl,λlx nx=>?_];let#[s2,e2]:=aA (o:=.lst [.int 3,.int 12,.int 1000]) nx;generalize upd H lx (.lst [.int 3,.int 12,.int 1000])=H2 at s2 e2 ⊢
 let#[v,hv,x,rfl,x1,x2]:=vy (p:=λv:V=>∃x:Int,v=V.int x/\1<=x/\x<=1000) (xs:=[V.int 3,.int 12,.int 1000]) (n:=3) Z g0 g3 (λv hv=>by
  simp only[bX,xH,or_false] at hv;rcases hv with rfl|rfl|rfl
  ·exact#[_,Z,by decide,by decide]
  ·exact#[_,Z,by decide,by decide]
  exact#[_,Z,by decide,by decide])
 apply#[_,Z,lx,_,_,_,Z,Z,.of e2,hv,l,x,Z,by omega,by omega,st.same s2,λr1 H3 q0 q1 b3 gR=>#[_,_,Z,Z,?_]];exact k (1+r1) H3 Z1 Z1 ((a_.of s2).trans b3) gR
theorem EM:bx [kz,vH,oT,rQ,lY,"_law_pair"] [kz,vH] (ba oe):=bH
inductive QP (K:af) (vs:ai) (H:Hp) (Q:VK) (E:XK):Prop
 |mk:∀(l lt:Addr) (zs:ai) (ts:Xb),vs=[.ref l,.ref lt]->d_ H l->H lt\.lst zs->lt≠l->bg K H zs (ts.map kT)->ts.length<64->(∀t∈ts,CK t)->(ts.map kO).Nodup->(∀lw ys ws H',a_ l H H'->d_ H' l->H lw=none->H' lw\.lst ys->bg K H' ys (ws.map kT)->Ez ts ws->Q (.ref lw) H')->QP K vs H Q E
theorem jj_{f:Addr}{fd:Ad}(F:bp K "_law_ways" "_law_ways" oe f fd)(B:Bi mg)(cD:!br 2 y_ AH De):!aj aZ 3 f fd [kz,vH] (QP K):=by
 exists F.bG EM;let#[l,lt,zs,ts,rfl,st,dm,yz,tt,cz,good,nd,k]:=h;let sz:=cc;refine' #[_,ak ?s1 (ak ?s2 (aE ?s3)),?kk]
 case s1=>exact aO 2 EM.nd (cy aJ)
 case' s2=>refine' eE dM Z (dA (pv 1)) (ju Z (cU (bN 3 EM.nd) (cU (bN 4 EM.nd) iA))) (ak ?b1 (aE ?b2))
 case b1=>exact aO 5 EM.nd (bM gi (cy %[eW %[3,4|0],eW %[4,3|0]|0]) (aX cD hr %[0,aI|0]))
 case b2=>exact aO 2 EM.nd (bw C0 (pv 2) (bw Vv (cy %[5|0]) (iZ Jv (by rfl) B.int EG %[iI sP (aX cD hr %[0,aI|0]) aI|0])))
 case s3=>exact bo (pv 2)
 let lz:=bK tt;rw[ao] at lz;apply#[zl,λVa Gi=>?_];let#[s1,e1]:=aA (o:=.lst []) Gi;let _Z:=st.ne Gi;lk;generalize upd H Va (.lst [])=H1 at s1 e1 ⊢
 let JL:bI:=λi σ H'=>∃(lw:Addr) (v3 v4 v5:aF) (ys:ai) (ws us:Xb),σ=[some (.ref l),some (.ref lt),some (.ref lw),v3,v4,v5]/\a_ l H H'/\d_ H' l/\H lw=none/\lw≠l/\H' lw\.lst ys/\bg K H' ys (ws.map kT)/\us.Sublist (ts.take i)/\Paired (λw u=>w=u∨w=(u.2,u.1)) ws us
 apply#[_,Z,lt,Z,#[_,.of (s1 _ _ dm)],fY (K:=K) (a:=lt) (xs:=zs) JL #[Va,none,none,none,[],[],[],Z,a_.of s1,st.same s1,Gi,_Z,e1,.nil,List.Sublist.refl _,.nil] (λi σ H' _ ⟨_,_,_,_,_,_,_,_,b,_⟩=>.of (b _ _ dm yz)) ?_ ?_]
 ·rintro i x σ H2 hx ⟨lw,v3,v4,v5,ys,ws,us,rfl,b2,fK,nw,wl,hw,tw,sub,pr⟩;let#[t,ht,a,rfl,ha]:=jx tt hx;let#[KS,wU]:=st.some;let wX:=b2 _ _ (wQ ha) (cu (wQ ha) wU nofun);apply#[a,_,Z,.of wX,Z,_,_,Z,_,_,Z,Z,?_];dsimp only
  have lu:us.length<=i:=by
   have:=sub.length_le;rw[cX] at this;omega
  let lws:=bK pr;let ly:=bK tw;rw[ao] at ly
  have hi:i<ts.length:=by
   have:=(cq.mp ht).1;omega
  let JK:bZ:=λσ H'=>∃(q:Addr) (qq:Str × Str),σ=[some (.ref l),some (.ref lt),some (.ref lw),some (.str t.1),some (.str t.2),some (.ref q)]/\a_ l H H'/\d_ H' l/\H' lw\.lst ys/\bg K H' ys (ws.map kT)/\H' q\.tup ((kT qq).map kV)/\(qq=t∨qq=(t.2,t.1))
  apply dg JK ?m2 ?m1
  case m1=>
   intro N hN;apply#[_,Z,_,Z,zl,λt1 Au=>?_];let#[zX,Y5]:=aA (o:=.tup [.str t.1,.str t.2]) Au;generalize upd H2 t1 (.tup [.str t.1,.str t.2])=H3 at zX Y5 ⊢;apply#[_,Z,_,Z,zl,λt2 Pn=>?_];let#[fV,Ey]:=aA (o:=.tup [.str t.2,.str t.1]) Pn;generalize upd H3 t2 (.tup [.str t.2,.str t.1])=H4 at fV Ey ⊢;apply#[zl,λlx sJ=>?_];let#[jh,CZ]:=aA (o:=.lst [.ref t1,.ref t2]) sJ;let xl:=((fK.same zX).same fV).ne sJ;generalize upd H4 lx (.lst [.ref t1,.ref t2])=H5 at jh CZ ⊢;let uQ:=(zX.trans fV).trans jh;let gq:=fK.same uQ;let#[Ue,rJ]:=gq.some;apply#[_,Z,l,2,Z,by decide,by decide,gq,λr5 H6 q4 q5 b6 mC=>?_];have Fk:∀{b:Addr} {zs:ai},H5 b\.tup zs->H6 b\.tup zs:=λe=>b6 _ _ e (cu e rJ nofun)
   have pick:∃(q:Addr) (qq:Str × Str),gK [V.ref t1,V.ref t2] r5\.ref q/\H6 q\.tup ((kT qq).map kV)/\(qq=t∨qq=(t.2,t.1)):=by
    rcases yK (a:=V.ref t1) (b:=V.ref t2) q4 q5 with e|e
    ·exact#[t1,t,e,Fk (jh _ _ (fV _ _ Y5)),.inl Z]
    exact#[t2,(t.2,t.1),e,Fk (jh _ _ Ey),.inr Z]
   let#[q,qq,et,Lu,wR]:=pick;have ZZ:a_ l H2 H6:=(a_.of uQ).trans b6;exact#[lx,_,_,_,Z,Z,.of (b6 _ _ CZ xl),et,hN _ _ #[q,qq,Z,b2.trans ZZ,mC,ZZ _ _ hw wl,xw (tw.same uQ) b6 rJ,Lu,wR]]
  rintro σ H6 ⟨q,qq,rfl,b6,mC,hw6,tw6,Lu,wR⟩;apply#[_,Z,_,Z,zl,λlx sJ=>?_];let#[s7,e7]:=aA (o:=.lst [.ref q]) sJ;let xl:=mC.ne sJ;generalize upd H6 lx (.lst [.ref q])=H7 at s7 e7 ⊢;let tQ:=mC.same s7;let#[xs7,WC]:=tQ.some;apply#[_,Z,l,3,Z,by decide,by decide,tQ,λr6 H8 q6 q7 b8 xU=>#[_,_,Z,Z,.inr #[_,Z,?_]]];let hw8:=b8 _ _ (s7 _ _ hw6) wl;let e8:=b8 _ _ e7 xl;let Uj:=xw (tw6.same s7) b8 WC;let hq8:=b8 _ _ (s7 _ _ Lu) (cu (s7 _ _ Lu) WC nofun);have E7:a_ l H H8:=b6.trans ((a_.of s7).trans b8);apply#[lx,_,_,Z,Z,e8,?_,?_,?_,λp hp=>?_]
  ·by_cases c:decide (0<r6)=true
   ·rw[aB c];decide
   rw[au c];decide
  ·by_cases c:decide (0<r6)=true
   ·rw[aB c];decide
   rw[au c];decide
  ·by_cases c:decide (0<r6)=true
   ·rw[aB c];show 1 * 1<=sizeLine;decide
   rw[au c];show 1 * 0<=sizeLine;decide
  let#[s9,e9]:=aA (o:=.lst (List.replicate (if decide (0<r6)=true then (1:Int) else 0).toNat [V.ref q]).flatten) hp;generalize upd H8 p (.lst (List.replicate (if decide (0<r6)=true then (1:Int) else 0).toNat [V.ref q]).flatten)=H9 at s9 e9 ⊢;apply#[lw,p,_,_,Z,Z,s9 _ _ hw8,e9,?_,λu hu=>?_]
  ·by_cases c:decide (0<r6)=true
   ·rw[aB c];show ys.length+1<=sizeLine;omega
   rw[au c];show ys.length+0<=sizeLine;omega
  let N9:=aa.new (o:=.lst (ys++(List.replicate (if decide (0<r6)=true then (1:Int) else 0).toNat [V.ref q]).flatten)) hu;let BJ:=s9.trans N9;have b0u:a_ l H (upd H9 u (.lst (ys++(List.replicate (if decide (0<r6)=true then (1:Int) else 0).toNat [V.ref q]).flatten))):=E7.trans (a_.of BJ);let zQ:=xU.same s9;apply#[u,_,_,_,_,if decide (0<r6)=true then ws++[qq] else ws,if decide (0<r6)=true then us++[t] else us,Z,b0u,xU.same BJ,(E7.trans (a_.of s9)).free zQ hu,zQ.ne hu,ay,?_,?_,?_]
  ·by_cases c:decide (0<r6)=true
   ·rw[aB c,aB c];show bg K _ (ys++[V.ref q]) ((ws++[qq]).map kT);rw[bY];rw[aB c] at BJ;exact vX (Uj.same BJ) (BJ _ _ hq8)
   rw[au c,au c];show bg K _ (ys++[]) (ws.map kT);rw[hG];rw[au c] at BJ;have:=Uj.same BJ;simpa using this
  ·have e:ts.take (i+1)=ts.take i++[t]:=by rw[iw,ht];rfl
   rw[e];by_cases c:decide (0<r6)=true
   ·rw[aB c];exact sub.append (List.Sublist.refl _)
   rw[au c];exact sub.trans (List.sublist_append_left _ _)
  by_cases c:decide (0<r6)=true
  ·rw[aB c,aB c];exact kI pr (.cons wR .nil)
  rw[au c,au c];exact pr
 rintro σ H2 ⟨lw,v3,v4,v5,ys,ws,us,rfl,b2,fK,nw,wl,hw,tw,sub,pr⟩;rw[lz,dz] at sub;exact#[_,Z,k lw ys ws H2 b2 fK nw hw tw (kO_ good nd sub pr)]
end
theorem jI_{K:af}{H:Hp}{a l:Addr}{ys:ai}{ks:List aM}(t:bg K H ys ks)(ha:H a\.lst ys)(st:d_ H l):a≠l:=λe=>by
 subst e;let#[x,y,z,e]:=st;rw[ha] at e;have e:ys=_:=HO.lst.inj (eK e);subst e;cases t with
 |cons h _=>
  let#[b,z,_]:=h;cases z
variable{v:V}{o:Option (Xb)}
theorem bU.mv{K:af}{H H':Hp}{l:Addr}(h:bU K H v o)(b:a_ l H H')(st:d_ H l):bU K H' v o:=by
 cases o with
 |none=>exact h
 |some ws=>
  let#[a,ys,e,ha,t]:=h;let#[xs,hl]:=st.some;exact#[a,ys,e,b _ _ ha (jI_ t ha st),xw t b hl]
def PcI(K:af)(H:Hp)(lp:Addr)(y:V)(p:Pc):Prop:=∃t v,y=.ref t/\H t\.tup [.str p.1,.int p.2.1,v]/\bU K H v p.2.2/\v≠.ref lp
structure GI (K:af) (H0 H:Hp) (l ln lp d:Addr) (ns:ae) (hs:Xa) (ts:Xb) (i j:Nat):Prop where
 but:a_ l H0 H
 st:d_ H l
 hn:H ln\.lst (ns.map V.str)
 DO:∃yp ps,H lp\.lst yp/\Paired (PcI K H lp) yp ps/\ps.map (·.1)=ns.take i/\∀q∈ps,CY ts q
 FJ:∃f:Str->Str,H d\.dK (b_ (ns.take j) f)/\∀n∈ns.take j,f n∈hs.map (·.1)
 nl:ln≠l
 pl:lp≠l
 dl:d≠l
 np:ln≠lp
 fp:H0 lp=none
 fd:H0 d=none
variable{n:Str}
section
variable{K:af}{H0 H G:Hp}{l ln lp d:Addr}{ns:ae}{hs:Xa}{ts:Xb}{i j:Nat}
theorem GI.mv(W:GI K H0 H l ln lp d ns hs ts i j)(b:a_ l H G)(st:d_ G l):GI K H0 G l ln lp d ns hs ts i j:=by
 let#[yp,ps,h1,h2,h3,h4]:=W.DO;let#[f,d1,d2]:=W.FJ;let#[xs,hl]:=W.st.some;exact#[W.but.trans b,st,b _ _ W.hn W.nl,#[yp,ps,b _ _ h1 W.pl,Paired.bu h2 λy p ⟨t,v,e,ht,wy,n⟩=>#[t,v,e,b _ _ ht (cu ht hl nofun),wy.mv b W.st,n],h3,h4],#[f,b _ _ d1 W.dl,d2],W.nl,W.pl,W.dl,W.np,W.fp,W.fd]
theorem GI.same(W:GI K H0 H l ln lp d ns hs ts i j)(s:aa H G):GI K H0 G l ln lp d ns hs ts i j:=W.mv (a_.of s) (W.st.same s)
theorem GI.Ga(W:GI K H0 H l ln lp d ns hs ts i j){x:Int}{t:Addr}{yp:ai}(hn:ns[i]? = some n)(hp:H lp\.lst yp)(ht:H t\.tup [.str n,.int x,v])(wy:bU K H v o)(nv:v≠.ref lp)(g:CY ts (n,x,o)):GI K H0 (upd H lp (.lst (yp++[.ref t]))) l ln lp d ns hs ts (i+1) j:=by
 let#[yp',ps,h1,h2,h3,h4]:=W.DO;let#[f,d1,d2]:=W.FJ;rw[hp] at h1;cases h1;apply#[λb o e ne=>by rw[ax (bj e W.fp)];exact W.but b o e ne,?_,by rw[ax W.np];exact W.hn,#[_,ps++[(n,x,o)],ay,kI (Paired.bu h2 λy p ⟨t,v,e,ht,wy,n⟩=>#[t,v,e,by rw[ax (cu ht hp nofun)];exact ht,wy.put hp n,n]) (.cons #[t,v,Z,by rw[ax (cu ht hp nofun)];exact ht,wy.put hp nv,nv] .nil),?_,λq hq=>?_],#[f,by rw[ax (cu d1 hp nofun)];exact d1,d2],W.nl,W.pl,W.dl,W.np,W.fp,W.fd]
 ·exact W.st.upd W.pl
 ·rw[bY,h3,eZ hn];rfl
 rcases fR.mp hq with hq|hq
 ·exact h4 q hq
 rw[jw.mp hq];exact g
theorem GI.put(W:GI K H0 H l ln lp d ns hs ts i j)(nd:ns.Nodup){h:Str}{f:ag}(hn:ns[j]? = some n)(hd:H d\.dK (b_ (ns.take j) f))(fm:∀n∈ns.take j,f n∈hs.map (·.1))(hh:h∈hs.map (·.1)):GI K H0 (upd H d (.dK (putK (b_ (ns.take j) f) (Sum.inr n) (.str h)))) l ln lp d ns hs ts i (j+1):=by
 let#[yp,ps,h1,h2,h3,h4]:=W.DO;let nn:=Jn nd hn;have pd:∀{b:Addr} {zs:ai},H b\.tup zs->b≠d:=λe z=>by rw[z,hd] at e;cases e
 have ld:∀{b:Addr} {zs:ai},H b\.lst zs->b≠d:=λe z=>by rw[z,hd] at e;cases e
 apply#[λb o e ne=>by rw[ax (bj e W.fd)];exact W.but b o e ne,W.st.upd W.dl,by rw[ax (ld W.hn)];exact W.hn,#[yp,ps,by rw[ax (ld h1)];exact h1,Paired.bu h2 λy p ⟨t,v,e,ht,wy,n⟩=>#[t,v,e,by rw[ax (pd ht)];exact ht,?_,n],h3,h4],#[λm=>if m=n then h else f m,?_,λm hm=>?_],W.nl,W.pl,W.dl,W.np,W.fp,W.fd]
 ·cases o:p.2.2 with
  |none=>rw[o] at wy;exact wy
  |some ws=>
   rw[o] at wy;let#[a,ys,e,ha,tu]:=wy;exact#[a,ys,e,by rw[ax (ld ha)];exact ha,Paired.bu tu λy k ⟨b,z,q⟩=>#[b,z,by rw[ax (pd q)];exact q]]
 ·rw[ay,L9 nn,eZ hn];apply dQ (λx=>some (HO.dK x)) (EV λm hm=>?_);dsimp only;by_cases z:m=n
  ·simp only[aB z]
  simp only[au z]
 dsimp only;rw[eZ hn] at hm;by_cases z:m=n
 ·rw[aB z];exact hh
 rw[au z];rcases fR.mp hm with hm|hm
 ·exact fm m hm
 exact absurd (jw.mp hm) z
end
variable{fd:Ad}
section v
abbrev gN:ae:=[kz,"_law_hands",vH,"_law_many","_law_great","_law_free","_law_heap","_law_pieces",i9,"_law_name","_law_ways_here","_law_at"]
theorem vV:bx gN Eu (ba Rr):=bH
inductive Jb (K:af) (vs:ai) (H:Hp) (Q:VK) (E:XK):Prop
 |mk:∀(l lh lt:Addr) (yh zs:ai) (hs:Xa) (ts:Xb),vs=[.ref l,.ref lh,.ref lt]->d_ H l->H lh\.lst yh->lh≠l->bg K H yh (hs.map kH)->H lt\.lst zs->lt≠l->bg K H zs (ts.map kT)->Good hs ts->(∀(t lp d:Addr) (yp:ai) (ps:aC) (f:ag) (H':Hp),a_ l H H'->d_ H' l->H' t\.tup [.ref lp,.ref d]->H lp=none->H d=none->lp≠l->d≠l->H' lp\.lst yp->AK K H' yp ps->H' d\.dK (b_ (ps.map (·.1)) f)->(∀q∈ps,CY ts q)->(ps.map (·.1)).Nodup->ps.length<=30->(∀n∈ps.map (·.1),f n∈hs.map (·.1))->Q (.ref t) H')->Jb K vs H Q E
theorem iH_(F:bp K "_law_goods" "_law_goods" Rr f0 fd)(B:Bi mg)(cD:!br 2 y_ AH De)(cN:!br 3 "_law_named" qP RB)(cW:!br 3 "_law_weight" qQ YI)(cY:!br 3 "_law_ways" [kz,vH] (QP K)):!aj aZ 4 f0 fd Eu (Jb K):=by
 exists F.bG vV;let#[l,lh,lt,yh,zs,hs,ts,rfl,st,ig,GD,th,dm,yz,tt,Gd,k]:=h;let sz:=cc;let hu:=eO hr;refine' #[_,?r0,?kk]
 case' r0=>refine' ak ?s1 ?r1
 case' r1=>refine' ak ?s2 ?r2
 case' r2=>refine' ak ?s3 ?r3
 case' r3=>refine' ak ?s4 ?r4
 case' r4=>refine' ak ?s5 ?r5
 case' r5=>refine' ak ?s6 ?r6
 case' r6=>refine' ak ?s7 (aE ?s8)
 case s1=>exact aO 3 vV.nd (bM gi (cy %[aX cD hr %[0,aI|0],aX cD hr %[0,aI|0]|0]) (aX cD hr %[0,aI|0]))
 case s2=>exact aO 4 vV.nd (aX cD hr %[0,aI|0])
 case s3=>exact aO 5 vV.nd (aX cD hr %[0,aI|0])
 case s4=>exact aO 6 vV.nd (aX cD hr %[0,aI|0])
 case s5=>exact aO 7 vV.nd (cy aJ)
 case s6=>exact aO 8 vV.nd Dv
 case' s7=>refine' eE dM Z (dA (aX cN hr %[0,3|0])) (bN 9 vV.nd) ?b0
 case' b0=>refine' ak ?b1 ?c1
 case' c1=>refine' ak ?b2 ?c2
 case' c2=>refine' ak ?b3 ?c3
 case' c3=>refine' ak ?b4 (aE ?b5)
 case b1=>exact aO 10 vV.nd C4
 case b2=>exact bP (PW.pt (zd (c_ iF (pv 5) aI) (Df (c_ sP (aX cD hr %[0,aI|0]) aI)))) (aE (aO 10 vV.nd (aX cY hr %[0,2|0]))) bQ
 case b3=>exact gP (gC gO kB kC ki (pv 7) %[eW %[9,aX cW hr %[0,4|0],10|0]|0])
 case b4=>exact aO 11 vV.nd (aX cD hr %[0,cQ mR (by rfl) B.len jJ %[1|0]|0])
 case' b5=>refine' rW hu (pv 8) (pv 9) (bM eP (bM gi (pv 1) ?ix) aI) Z
 case ix=>exact bw jI (pv 11) (iZ Jv (by rfl) B.int EG %[Ej (iI iF (pv 6) aI) (o6 (iI iF (aX cD hr %[0,aI|0]) aI))|0])
 case s8=>exact bo (eW %[7,8|0])
 let Lj:=bK th;rw[ao] at Lj;let mJ:=Gd.h1;let h8':=Gd.h8;apply#[_,Z,l,9,Z,by decide,by decide,st,λa1 H1 p0 p1 b1 mD=>?_];apply#[_,Z,l,31,Z,by decide,by decide,mD,λa2 H2 p2 p3 b2 fK=>?_];apply#[zl,λlx nx=>?_];let#[s3,e3]:=aA (o:=.lst [.int a1,.int a2]) nx;let xl:=fK.ne nx;generalize upd H2 lx (.lst [.int a1,.int a2])=H3 at s3 e3 ⊢;apply#[_,Z,l,2,Z,by decide,by decide,fK.same s3,λa3 H4 p4 p5 b4 ia=>?_]
 let#[v,hv,m,rfl,m0,m30]:=vy (p:=λv:V=>∃x:Int,v=V.int x/\0<=x/\x<=30) (xs:=[V.int a1,.int a2]) (n:=2) Z p4 p5 (λv hv=>by
  simp only[bX,xH,or_false] at hv;rcases hv with rfl|rfl
  ·exact#[_,Z,by omega,by omega]
  exact#[_,Z,by omega,by omega])
 let#[m,rfl]:=qI m0;apply#[lx,_,_,_,Z,Z,.of (b4 _ _ e3 xl),hv,?_];have M5:a_ l H H4:=(b1.trans b2).trans ((a_.of s3).trans b4);lk;clear b1 b2 b4 s3 e3 hv nx mD fK;apply#[_,Z,l,4,Z,by decide,by decide,ia,λgr H5 g0 g4 b5 gq=>?_];lk;apply#[_,Z,l,2,Z,by decide,by decide,gq,λfr H6 f0 f2 b6 mC=>?_];lk;apply#[_,Z,l,2,Z,by decide,by decide,mC,λhp H7 q0 q2 b7 tQ=>?_];lk;have TF:a_ l H H7:=M5.trans (b5.trans (b6.trans b7));clear M5 b5 b6 b7 ia gq mC;apply#[zl,λlp np=>?_];lk;let#[s8,e8]:=aA (o:=.lst []) np;let Vd:=tQ.ne np;have fp0:H lp=none:=TF.free tQ np;generalize upd H7 lp (.lst [])=H8 at s8 e8 ⊢;let xU:=tQ.same s8;let E7:=TF.trans (a_.of s8);apply λd nd=>?_;lk;let#[s9,e9]:=aA (o:=.dK []) nd;let dl:=xU.ne nd;have fd0:H d=none:=E7.free xU nd;generalize upd H8 d (.dK [])=H9 at s9 e9 ⊢;let zQ:=xU.same s9;let Z3:=E7.trans (a_.of s9);apply#[_,Z,_,Z,l,m,Z,by omega,zQ,λln ns wC jv jf nn hn N=>?_];have GB:ln≠l:=zQ.ne nn;have W0:GI K H wC l ln lp d ns hs ts 0 0:=#[Z3.trans jv,jf,hn,#[[],[],jv _ _ (s9 _ _ e8) Vd,.nil,Z,by simp],#[λ_=>"",jv _ _ e9 dl,by simp],GB,Vd,dl,(bj (s9 _ _ e8) nn).symm,fp0,fd0];clear TF E7 Z3 jv tQ xU zQ jf s8 s9 e8 e9 np nd nn hn;have n30:ns.length<=30:=by rw[N.len];omega
 let JJ:bI:=λi σ H'=>∃(v9 v10 v11:aF),σ=[some (.ref l),some (.ref lh),some (.ref lt),some (.int m),some (.int gr),some (.int fr),some (.int hp),some (.ref lp),some (.ref d),v9,v10,v11]/\GI K H H' l ln lp d ns hs ts i i
 apply#[ln,Z,#[_,.of W0.hn],fY (K:=K) (a:=ln) (xs:=ns.map V.str) JJ #[none,none,none,Z,W0] (λi σ H' _ ⟨_,_,_,_,W⟩=>.of W.hn) ?_ ?_]
 ·rintro i x σ H2 hx ⟨v9,v10,v11,rfl,W⟩;let#[n,hn,rfl]:=i0 hx;have hi:i<ns.length:=(cq.mp hn).1;lk;apply setG (i:=10) (v:=.non) ?_;dsimp only
  let JI:bZ:=λσ H'=>∃(wv:V) (o:Option (Xb)),σ=[some (.ref l),some (.ref lh),some (.ref lt),some (.int m),some (.int gr),some (.int fr),some (.int hp),some (.ref lp),some (.ref d),some (.str n),some wv,v11]/\GI K H H' l ln lp d ns hs ts i i/\bU K H' wv o/\wv≠.ref lp/\∀ws,o\ws->Ez ts ws
  apply dg JI ?m2 ?m1
  case m1=>
   intro N1 hN;have iL:∀{H3:Hp},GI K H H3 l ln lp d ns hs ts i i->N1 [some (.ref l),some (.ref lh),some (.ref lt),some (.int m),some (.int gr),some (.int fr),some (.int hp),some (.ref lp),some (.ref d),some (.str n),some .non,v11] H3:=λW3=>hN _ _ #[.non,none,Z,W3,Z,(λz=>by cases z),λws e=>by cases e];apply#[_,Z,Z,_,Z,?_];apply aQ (λc=>?_) (λc=>?_)
   ·apply#[_,Z,l,3,Z,by decide,by decide,W.st,λr1 H3 u0 u1 b3 gR=>#[_,_,Z,Z,_,Z,?_]];let W3:=W.mv b3 gR;apply aQ (λc2=>?_) (λc2=>?_)
    ·apply#[_,Z,_,Z,l,lt,zs,ts,Z,gR,W3.but _ _ dm yz,yz,?_,Gd.sk,Gd.tok,Gd.Bh,λlw ys ws H4 b4 ia nw hw tw wo=>?_]
     ·let#[KS,wU]:=st.some;exact xw tt W3.but wU
     let W4:=W3.mv b4 ia;apply hN _ _ #[.ref lw,some ws,Z,W4,#[lw,ys,Z,hw,tw],λz=>?_,λws' e=>by cases e;exact wo];let#[yp,ps,h1,_]:=W3.DO;cases z;rw[h1] at nw;cases nw
    exact iL W3
   exact iL W
  rintro σ H3 ⟨wv,o,rfl,W3,wy,nv,gw⟩
  let JH:bZ:=λσ H'=>σ=[some (.ref l),some (.ref lh),some (.ref lt),some (.int m),some (.int gr),some (.int fr),some (.int hp),some (.ref lp),some (.ref d),some (.str n),some wv,v11]/\GI K H H' l ln lp d ns hs ts (i+1) i
  apply dg JH ?m4 ?m3
  case m3=>
   intro N1 hN;let#[yp,ps,h1,h2,h3,h4]:=W3.DO;apply#[_,Z,.inl #[Z,_,.of h1],_,Z,_,Z,_,Z,l,gr,Z,g0,g4,W3.st,λx H4 x1 x2 b4 ia=>?_];let W4:=W3.mv b4 ia;let _N:=wy.mv b4 W3.st;apply#[_,Z,zl,λt nt=>?_];let#[s5,e5]:=aA (o:=.tup [.str n,.int x,wv]) nt;generalize upd H4 t (.tup [.str n,.int x,wv])=H5 at s5 e5 ⊢;let D0:=s5 _ _ (b4 _ _ h1 W3.pl);let ly:=bK h2;let lps:=dQ List.length h3;rw[ao,cX] at lps;apply#[lp,_,_,Z,Z,D0,by omega,hN _ _ #[Z,(W4.same s5).Ga hn D0 e5 (_N.same s5) nv #[N.ok n (cj hn),x1,x2,gw]]]
  rintro σ H4 ⟨rfl,W4⟩;apply#[_,Z,_,Z,lh,_,Z,.inl (.of (W4.but _ _ ig GD)),l,_,Z,by omega,by omega,W4.st,λat' H5 a0 a1 b5 gq=>?_];let W5:=W4.mv b5 gq;lk
  have fin:∀{H6:Hp} {b:Bool},GI K H H6 l ln lp d ns hs ts (i+1) i->∃v,gK yh (at' * (if b=true then 1 else 0))\v/\∃h∈hs,∃a,v=.ref a/\H6 a\.tup [.str h.1,.int h.2]:=λ{H6 b} W6=>by
   have:0<=at' * (if b=true then 1 else 0)/\at' * (if b=true then 1 else 0)<(yh.length:Int):=by
    cases b
    ·simp;omega
    simp;omega
   apply vy (n:=yh.length) (p:=λv:V=>∃h∈hs,∃a,v=.ref a/\H6 a\.tup [.str h.1,.int h.2]) Z this.1 this.2 λv hv=>?_;let#[jj,hj]:=List.mem_iff_getElem?.mp hv;let#[h,hh,a,e,ha]:=jx th hj;let#[KS,wU]:=st.some;have ha:H a\.tup [.str h.1,.int h.2]:=ha;exact#[h,cj hh,a,e,W6.but _ _ ha (cu ha wU nofun)]
  apply#[_,Z,_,Z,_,Z,Z,_,Z,?_];apply aQ (λc=>?_) (λc=>?_)
  ·apply .inr #[_,Z,_,_,Z,Z,.inl #[by omega,by omega],?_];let#[v,ev,h,hh,a,ea,ha]:=fin (b:=true) W5;subst ea;let#[f,d1,d2]:=W5.FJ;apply#[lh,_,_,_,Z,Z,.of (W5.but _ _ ig GD),ev,a,_,_,_,Z,Z,.of ha,Z,_,Z,_,Z,d,_,Z,.k (k:=Sum.inr n) d1 (by rw[f_,cX];omega),?_];exact#[_,_,_,Z,W5.put N.nd hn d1 d2 (bh.mpr #[h,hh,Z])]
  apply#[_,Z,l,4,Z,by decide,by decide,W5.st,λr1 H6 u0 u1 b6 mC=>#[Z,?_]];let W6:=W5.mv b6 mC;apply .inr #[_,Z,_,_,Z,Z,.inl #[by omega,by omega],?_];let#[v,ev,h,hh,a,ea,ha]:=fin (b:=decide (V.int r1=V.int 0)) W6;subst ea;let#[f,d1,d2]:=W6.FJ;apply#[lh,_,_,_,Z,Z,.of (W6.but _ _ ig GD),ev,a,_,_,_,Z,Z,.of ha,Z,_,Z,_,Z,d,_,Z,.k (k:=Sum.inr n) d1 (by rw[f_,cX];omega),?_];exact#[_,_,_,Z,W6.put N.nd hn d1 d2 (bh.mpr #[h,hh,Z])]
 rintro σ H2 ⟨v9,v10,v11,rfl,W⟩;rw[ao] at W;let#[yp,ps,h1,h2,h3,h4]:=W.DO;let#[f,d1,d2]:=W.FJ;rw[dz] at h3 d1 d2;apply#[_,Z,_,Z,zl,λt nt=>?_];let s3:=aa.new (o:=.tup [.ref lp,.ref d]) nt;let W3:=W.same s3;apply k t lp d yp ps f _ W3.but W3.st ay W.fp W.fd W.pl W.dl (s3 _ _ h1) (Paired.bu h2 λy p ⟨t,v,e,ht,wy,_⟩=>#[t,v,e,s3 _ _ ht,wy.same s3]) ?_ h4 ?_ ?_ ?_
 ·rw[h3];exact s3 _ _ d1
 ·rw[h3];exact N.nd
 ·have:=dQ List.length h3;rw[ao] at this;omega
 rw[h3];exact d2
end
def yw(h:Str)(t:Str × Str):ae:=(if t.1=h then [t.2] else [])++if t.2=h then [t.1] else []
def di(ts:Xb)(h:Str):ae:=ts.flatMap (yw h)
def tm(ds dn lt dh dy:Addr):List (Key × V):=[(.inr "strength",.ref ds),(.inr "near",.ref dn),(.inr "ties",.ref lt),(.inr "heavy",.ref dh),(.inr "ways",.ref dy)]
structure eX (K:af) (H:Hp) (w ds dn lt dh dy:Addr) (ad:Str->Addr) (gy:Str->V) (hs:Xa) (ts:Xb) (ps:aC):Prop where
 top:H w\.dK (tm ds dn lt dh dy)
 sg:H ds\.dK (bB (hs.map (·.1)) λn=>.int (strOf hs n))
 nr:H dn\.dK (bB (hs.map (·.1)) λn=>.ref (ad n))
 ls:∀h∈hs.map (·.1),H (ad h)\.lst ((di ts h).map V.str)
 hv:H dh\.dK (bB (ps.map (·.1)) λn=>.int (eI ps n))
 wy:H dy\.dK (bB (ps.map (·.1)) gy)
 wv:∀q∈ps,bU K H (gy q.1) q.2.2
 tl:∃zs,H lt\.lst zs/\bg K H zs (ts.map kT)
def oZ(K:af)(H:Hp)(w:Addr)(hs:Xa)(ts:Xb)(ps:aC):Prop:=∃(ds dn lt dh dy:Addr) (ad:Str->Addr) (gy:Str->V),eX K H w ds dn lt dh dy ad gy hs ts ps
variable{dh dn ds dy w:Addr}{G:Hp}{ad:Str->Addr}{gy:Str->V}
theorem eX.nt{K:af}{H:Hp}{lt:Addr}{hs:Xa}{ts:Xb}{ps:aC}(W:eX K H w ds dn lt dh dy ad gy hs ts ps)(s:NT H G):eX K G w ds dn lt dh dy ad gy hs ts ps:=
 #[s _ _ W.top nofun,s _ _ W.sg nofun,s _ _ W.nr nofun,λh hh=>s _ _ (W.ls h hh) nofun,s _ _ W.hv nofun,s _ _ W.wy nofun,λq hq=>(W.wv q hq).nt s,let #[zs,a,b]:=W.tl;#[zs,s.lst a,bg.nt b s]]
theorem eX.same{K:af}{H:Hp}{lt:Addr}{hs:Xa}{ts:Xb}{ps:aC}(W:eX K H w ds dn lt dh dy ad gy hs ts ps)(s:aa H G):eX K G w ds dn lt dh dy ad gy hs ts ps:=W.nt (NT.of s)
theorem oZ.nt{K:af}{H:Hp}{hs:Xa}{ts:Xb}{ps:aC}(W:oZ K H w hs ts ps)(s:NT H G):oZ K G w hs ts ps:=by
 let#[ds,dn,lt,dh,dy,ad,gy,W]:=W;exact#[ds,dn,lt,dh,dy,ad,gy,W.nt s]
section
variable{H:Hp}{w ds dn lt dh dy:Addr}{K:af}{ad:Str->Addr}{gy:Str->V}{hs:Xa}{ts:Xb}{ps:aC}
theorem eX.gS(W:eX K H w ds dn lt dh dy ad gy hs ts ps):ck H w (.str "strength") (some (.ref ds)):=ck.k (k:=Sum.inr "strength") W.top
theorem eX.gN(W:eX K H w ds dn lt dh dy ad gy hs ts ps):ck H w (.str "near") (some (.ref dn)):=ck.k (k:=Sum.inr "near") W.top
theorem eX.gH(W:eX K H w ds dn lt dh dy ad gy hs ts ps):ck H w (.str "heavy") (some (.ref dh)):=ck.k (k:=Sum.inr "heavy") W.top
theorem eX.gW(W:eX K H w ds dn lt dh dy ad gy hs ts ps):ck H w (.str "ways") (some (.ref dy)):=ck.k (k:=Sum.inr "ways") W.top
theorem jX_:putK (putK (o8 [] [((.inr "strength":Key),V.ref ds),(.inr "near",.ref dn),(.inr "ties",.ref lt)]) (.inr "heavy") (.ref dh)) (.inr "ways") (.ref dy)=tm ds dn lt dh dy:=rfl
end
structure sZ (H0 H:Hp) (dn:Addr) (ad:Str->Addr) (ns:ae) (g:Str->ae):Prop where
 sm:aa H0 H
 nr:H dn\.dK (bB ns λn=>.ref (ad n))
 ls:wB H ns ad g
 fn:H0 dn=none
 fr:∀h∈ns,H0 (ad h)=none
variable{H0:Hp}{ns:ae}{g:Str->ae}
theorem sZ.same{H:Hp}(N:sZ H0 H dn ad ns g)(s:aa H G):sZ H0 G dn ad ns g:=#[N.sm.trans s,s _ _ N.nr,#[λh hh=>s _ _ (N.ls.1 h hh),N.ls.2],N.fn,N.fr]
theorem sZ.app{H:Hp}(N:sZ H0 H dn ad ns g){m:Str}(hn:n∈ns):sZ H0 (upd H (ad n) (.lst ((g n).map V.str++[.str m]))) dn ad ns (λh=>if h=n then g h++[m] else g h):=by
 let la:=N.ls.1 n hn;apply#[fF N.sm (N.fr n hn),by rw[ax (cu N.nr la nofun)];exact N.nr,#[λh hh=>?_,N.ls.2],N.fn,N.fr];dsimp only;by_cases z:h=n
 ·subst z;rw[aB Z,ay,bY];rfl
 rw[au z,ax λy=>z (N.ls.2 h hh n hn y)];exact N.ls.1 h hh
theorem sZ.to{H:Hp}{g':Str->ae}(N:sZ H0 H dn ad ns g)(e:∀h,g h=g' h):sZ H0 H dn ad ns g':=by
 obtain rfl:g=g':=funext e;exact N
theorem Xr(ts:Xb)(h:Str):(di ts h).length<=2 * ts.length:=by
 induction ts with
 |nil=>exact gF _
 |cons t ts ih=>
  have:(yw h t).length<=2:=by
   unfold yw;rw[eA];have h1:(if t.1=h then [t.2] else []).length<=1:=by split<;>simp
   have h2:(if t.2=h then [t.1] else []).length<=1:=by split<;>simp
   omega
  unfold di at ih ⊢;rw[xy,eA,iG];omega
theorem jp_{ts:Xb}{i:Nat}{t:Str × Str}(ht:ts[i]? = some t)(h:Str):di (ts.take (i+1)) h=(di (ts.take i) h++if h=t.1 then [t.2] else [])++if h=t.2 then [t.1] else []:=by
 unfold di;rw[iw,ht,Option.toList_some,A8,xy,List.flatMap_nil,hG,xA];unfold yw;congr 1;congr 1
 ·by_cases z:h=t.1
  ·rw[aB z,aB z.symm]
  rw[au z,au λy=>z y.symm]
 by_cases z:h=t.2
 ·rw[aB z,aB z.symm]
 rw[au z,au λy=>z y.symm]
theorem Y2{α β γ δ:Type}{F:α->γ->Prop}{G:α->δ->Prop}{g:β->γ}{k:β->δ}:∀{ys:List α} {ts:List β},Paired F ys (ts.map g)->(∀y t,F y (g t)->G y (k t))->Paired G ys (ts.map k)
 |_,[],t,_=>by rw[vS] at t;cases t;exact .nil
 |_,b::ts,t,f=>by
  rw[eJ] at t;cases t with
  |cons h r=>rw[eJ];exact .cons (f _ _ h) (Y2 r f)
theorem hsK{hs:Xa}(nd:(hs.map (·.1)).Nodup):(hs.map λh=>((Sum.inr h.1:Key),V.int h.2))=bB (hs.map (·.1)) λn=>.int (strOf hs n):=by
 unfold bB;rw[cm]
 exact qH λh hh=>by
  show _=((Sum.inr h.1:Key),V.int (strOf hs h.1));rw[XA nd (show (h.1,h.2)∈hs from hh)]
theorem Pa(nd:ns.Nodup)(g:Str->V):((bB ns g).map (·.1)).Nodup:=by
 rw[ET,xG,pe];exact nd.imp λn e=>n (ik e)
section v
abbrev wN:ae:=["_law_hands",vH,"_law_pieces","_law_near",rQ,lY,"_law_ways_here","_law_heavy","_law_name","_law_weight_here","_law_told",oT]
theorem xu:bx wN wk (ba nU):=bH
inductive RD (K:af) (vs:ai) (H:Hp) (Q:VK) (E:XK):Prop
 |mk:∀(lh lt lp:Addr) (yh zs yp:ai) (hs:Xa) (ts:Xb) (ps:aC),vs=[.ref lh,.ref lt,.ref lp]->H lh\.lst yh->bg K H yh (hs.map kH)->H lt\.lst zs->bg K H zs (ts.map kT)->H lp\.lst yp->AK K H yp ps->Good hs ts->(ps.map (·.1)).Nodup->ps.length<=30->(∀w H',aa H H'->H w=none->oZ K H' w hs ts ps->Q (.ref w) H')->RD K vs H Q E
theorem jv_(F:bp K "_law_world" "_law_world" nU f0 fd)(B:Bi mg):!aj aZ 1 f0 fd wk (RD K):=by
 exists F.bG xu;let#[lh,lt,lp,yh,zs,yp,hs,ts,ps,rfl,ig,th,dm,tt,Wy,pc,Gd,UK,ic,k]:=h;let sz:=cc;let hu:=eO hr;refine' #[_,?r0,?kk]
 case' r0=>refine' ak ?s1 ?r1
 case' r1=>refine' ak ?s2 ?r2
 case' r2=>refine' ak ?s3 ?r3
 case' r3=>refine' ak ?s4 ?r4
 case' r4=>refine' ak ?s5 ?r5
 case' r5=>refine' ak ?s6 ?r6
 case' r6=>refine' ak ?s7 (ak ?s8 (aE ?s9))
 case s1=>exact aO 3 xu.nd (iZ (wb Z) (by rfl) B.dict qF %[i4 ["_law_name","_law_strength"] 2 [] (dA (pv 0)) (λfp s H=>II (n:=2) (cU (e_ (i:=0) (show (["_law_name","_law_strength"]:ae).Nodup by decide +kernel) Z (Or.inl Z)) (cU (e_ (i:=1) (show (["_law_name","_law_strength"]:ae).Nodup by decide +kernel) Z (Or.inl Z)) iA))) (λfp s H=>iH) (λfp s H=>eW %[0,cy aJ|0])|0])
 case' s2=>refine' eE dM Z (dA (pv 1)) (ju Z (cU (bN 4 xu.nd) (cU (bN 5 xu.nd) iA))) (ak ?b1 (aE ?b2))
 case b1=>exact gP (gC gO kB kC ki (bV hu (pv 3) (pv 4)) %[5|0])
 case b2=>exact gP (gC gO kB kC ki (bV hu (pv 3) (pv 5)) %[4|0])
 case s3=>exact aO 6 xu.nd Dv
 case s4=>exact aO 7 xu.nd Dv
 case' s5=>refine' eE dM Z (dA (pv 2)) (ju Z (cU (bN 8 xu.nd) (cU (bN 9 xu.nd) (cU (bN 10 xu.nd) iA)))) (ak ?c1 (aE ?c2))
 case c1=>exact rW hu (pv 6) (pv 8) (pv 10) Z
 case c2=>exact rW hu (pv 7) (pv 8) (pv 9) Z
 case s6=>exact aO 11 xu.nd (l5_ (QY cn (iZ (wb Z) (by rfl) B.dict qF %[0|0]) (QY cn (pv 3) (QY cn (pv 1) kL_))) Z Z nofun (by decide))
 case s7=>exact rW hu (pv 11) cn (pv 7) Z
 case s8=>exact rW hu (pv 11) cn (pv 6) Z
 case s9=>exact bo (pv 11)
 let nd:=Gd.qo;let h8:=Gd.h8;let Lj:=bK th;rw[ao] at Lj;apply#[_,Z,lh,Z,#[_,.of ig],λD hD=>?_]
 let JG:dH:=λi out H'=>∃ad:Str->Addr,aa H H'/\H' D\.lst out/\jH K H' out (bB ((hs.map (·.1)).take i) λh=>.ref (ad h))/\wB H' ((hs.map (·.1)).take i) ad (λ_=>[])/\∀h∈(hs.map (·.1)).take i,H (ad h)=none/\ad h≠D
 apply mU (own:=2) (fv:=[]) (xs:=yh) Z Cw JG #[λ_=>D,aa.new hD,ay,.nil,#[by simp,by simp],by simp] (λi out H' _ ⟨_,sm,_⟩=>.of (sm _ _ ig)) (λout H2 ⟨ad,s2,jE,pa,ls,fr⟩=>?_) (λi x out H' hx ⟨ad,sm,hd,pa,ls,fr⟩=>?_);rotate_left
 ·let#[h0,hh0,a,rfl,ha]:=jx th hx;have hn:(hs.map (·.1))[i]? = some h0.1:=by rw[dR,hh0];rfl
  have nn:h0.1∉(hs.map (·.1)).take i:=Jn nd hn;apply#[_,#[a,_,_,Z,.of (sm _ _ (Pr ha)),Z],Z,λNx hN=>dW ?_];apply#[_,Z,zl,λl nl=>?_];let#[s3,e3]:=aA (o:=.lst []) nl;generalize upd H' l (.lst [])=H3 at s3 e3 ⊢;apply#[zl,λt nt=>?_];let#[s4,e4]:=aA (o:=.tup [.str h0.1,.ref l]) nt;generalize upd H3 t (.tup [.str h0.1,.ref l])=H4 at s4 e4 ⊢;let eY:=s3.trans s4;let rM:=eY _ _ hd;have lD:l≠D:=λz=>by rw[z,hd] at nl;cases nl
  have Jx:∀h∈(hs.map (·.1)).take i,ad h≠l:=λh hh z=>by
   have:=ls.1 h hh;rw[z,nl] at this;cases this
  let lo:=bK pa;rw[f_,cX,ao] at lo
  have pD:∀{b:Addr} {zs:ai},H4 b\.tup zs->b≠D:=λhb z=>by
   rw[z,rM] at hb;cases hb
  have ne:∀h∈(hs.map (·.1)).take i,h≠h0.1:=λh hh z=>nn (z▸hh);apply#[out,rM,by omega,hN (out++[.ref t]) _ #[λm=>if m=h0.1 then l else ad m,fF (sm.trans eY) hD,ay,?_,#[λh hh=>?_,λh hh h' Hw z=>?_],λh hh=>?_]]
  ·have e:bB ((hs.map (·.1)).take (i+1)) (λh=>.ref (if h=h0.1 then l else ad h))=bB ((hs.map (·.1)).take i) (λh=>.ref (ad h))++[(Sum.inr h0.1,.ref l)]:=by
    rw[eZ hn];unfold bB;rw[bY,eJ,vS];dsimp only;rw[aB Z];congr 1;exact qH λm hm=>by rw[au (ne m hm)]
   rw[e];exact kI (Paired.bu pa λy kv ⟨b,z,hb⟩=>#[b,z,by rw[ax (pD (eY _ _ hb))];exact eY _ _ hb]) (.cons #[t,Z,by rw[ax (pD e4)];exact e4] .nil)
  ·rw[eZ hn] at hh;rcases fR.mp hh with hh|hh
   ·dsimp only;rw[au (ne h hh),ax (fr h hh).2];exact eY _ _ (ls.1 h hh)
   let z:=jw.mp hh;dsimp only;rw[aB z,ax lD];exact s4 _ _ e3
  ·rw[eZ hn] at hh Hw;dsimp only at z;rcases fR.mp hh with a1|a1<;>rcases fR.mp Hw with a2|a2
   ·rw[au (ne h a1),au (ne h' a2)] at z;exact ls.2 h a1 h' a2 z
   ·have a2:h'=h0.1:=⇑a2
    rw[au (ne h a1),aB a2] at z;exact absurd z (Jx h a1)
   ·have a1:h=h0.1:=⇑a1
    rw[au (ne h' a2),aB a1] at z;exact absurd z.symm (Jx h' a2)
   rw[show h=h0.1 by simpa using a1,show h'=h0.1 by simpa using a2]
  rw[eZ hn] at hh;dsimp only;rcases fR.mp hh with hh|hh
  ·rw[au (ne h hh)];exact fr h hh
  let z:=jw.mp hh;rw[aB z];exact#[sm.free nl,lD]
 rw[show yh.length=(hs.map (·.1)).length by rw[ao,Lj],dz] at pa ls fr;have n8:(hs.map (·.1)).length<=8:=by rw[ao];exact h8
 apply#[D,out,_,Z,jE,pa,by rw[f_];omega,λdn Gr=>?_];rw[xx (Pa nd _)];lk;let s3:=aa.new (o:=.dK (bB (hs.map (·.1)) λh=>V.ref (ad h))) Gr;have N0:sZ H (upd H2 dn (.dK (bB (hs.map (·.1)) λh=>V.ref (ad h)))) dn ad (hs.map (·.1)) (di (ts.take 0)):=#[s2.trans s3,ay,#[λh hh=>s3 _ _ (ls.1 h hh),ls.2],s2.free Gr,λh hh=>(fr h hh).1];generalize upd H2 dn (.dK (bB (hs.map (·.1)) λh=>V.ref (ad h)))=H3 at N0 ⊢;clear s2 s3 jE pa ls fr hD Gr
 let JF:bZ:=λσ H'=>∃(v4 v5:aF),σ=[some (.ref lh),some (.ref lt),some (.ref lp),some (.ref dn),v4,v5,none,none,none,none,none,none]/\sZ H H' dn ad (hs.map (·.1)) (di ts)
 apply dg JF ?m2 ?m1
 case m1=>
  intro N1 hN;let lz:=bK tt;rw[ao] at lz;let sk:=Gd.sk
  let JE:bI:=λi σ H'=>∃(v4 v5:aF),σ=[some (.ref lh),some (.ref lt),some (.ref lp),some (.ref dn),v4,v5,none,none,none,none,none,none]/\sZ H H' dn ad (hs.map (·.1)) (di (ts.take i))
  apply#[_,Z,lt,Z,#[_,.of (N0.sm _ _ dm)],fY (K:=K) (a:=lt) (xs:=zs) JE #[none,none,Z,N0] (λi σ H' _ ⟨_,_,_,N⟩=>.of (N.sm _ _ dm)) ?_ ?_]
  ·rintro i x σ H4 hx ⟨v4,v5,rfl,N⟩;let#[t,ht,a,rfl,ha]:=jx tt hx;let yy:=Gd.qZ t (cj ht);let Nj:=(Gd.tok t (cj ht)).2.2;apply#[a,_,Z,.of (N.sm _ _ (wQ ha)),Z,_,_,Z,_,_,Z,Z,?_];dsimp only;have hi:i<ts.length:=(cq.mp ht).1;let l1:=Xr (ts.take i) t.1;let l2:=Xr (ts.take i) t.2;rw[cX] at l1 l2;let e1:=N.ls.1 _ yy.1;let N2:=N.app (m:=t.2) yy.1;let e2:=N2.ls.1 _ yy.2;apply#[_,Z,_,Z,dn,_,Z,gJ N.nr yy.1,.inl #[Z,_,.of e1],_,Z,ad t.1,_,_,Z,Z,e1,by rw[ao];omega,?_];apply#[_,Z,_,Z,dn,_,Z,gJ N2.nr yy.2,.inl #[Z,_,.of e2],_,Z,ad t.2,_,_,Z,Z,e2,?_,?_]
   ·have z:¬t.2=t.1:=λz=>Nj z.symm;rw[ao];simp only[au z];omega
   apply#[_,_,Z,(N2.app (m:=t.1) yy.2).to λh=>?_];show (if h=t.2 then (if h=t.1 then di (ts.take i) h++[t.2] else di (ts.take i) h)++[t.1] else if h=t.1 then di (ts.take i) h++[t.2] else di (ts.take i) h)=_;rw[jp_ ht];by_cases z1:h=t.1
   ·rw[au (c:=h=t.2) (λz=>Nj (z1.symm.trans z)),aB z1,au (c:=h=t.2) (λz=>Nj (z1.symm.trans z)),aB z1,hG]
   by_cases z2:h=t.2
   ·rw[aB z2,au z1,aB z2,au z1,hG]
   rw[au z2,au z1,au z2,au z1,hG,hG]
  rintro σ H4 ⟨v4,v5,rfl,N⟩;rw[lz,dz] at N;exact hN _ _ #[_,_,Z,N]
 rintro σ H4 ⟨v4,v5,rfl,N⟩;apply λdy ny=>?_;lk;let#[s5,e5]:=aA (o:=.dK []) ny;generalize upd H4 dy (.dK [])=H5 at s5 e5 ⊢;apply λdh nh=>?_;lk;let#[s6,e6]:=aA (o:=.dK []) nh;generalize upd H5 dh (.dK [])=H6 at s6 e6 ⊢;let N6:=(N.same s5).same s6;have hy:dh≠dy:=λz=>by rw[z,e5] at nh;cases nh
 have fy:H dy=none:=N.sm.free ny;have fh:H dh=none:=(N.sm.trans s5).free nh;let ye:=s6 _ _ e5;have ney:∀{b:Addr} {o:HO},H4 b\o->b≠dy:=λe z=>by rw[z,ny] at e;cases e
 have neh:∀{b:Addr} {o:HO},H4 b\o->b≠dh:=λe z=>by rw[z] at e;have:=s5 _ _ e;rw[nh] at this;cases this
 let JD:bZ:=λσ H'=>∃(v4 v5 v8 v9 v10:aF) (gy:Str->V),σ=[some (.ref lh),some (.ref lt),some (.ref lp),some (.ref dn),v4,v5,some (.ref dy),some (.ref dh),v8,v9,v10,none]/\aa H4 H'/\H' dh\.dK (bB (ps.map (·.1)) λn=>.int (eI ps n))/\H' dy\.dK (bB (ps.map (·.1)) gy)/\∀q∈ps,bU K H' (gy q.1) q.2.2
 apply dg JD ?m4 ?m3
 case m3=>
  intro N1 hN;let lz:=bK pc
  let JC:bI:=λi σ H'=>∃(v8 v9 v10:aF) (gy:Str->V),σ=[some (.ref lh),some (.ref lt),some (.ref lp),some (.ref dn),v4,v5,some (.ref dy),some (.ref dh),v8,v9,v10,none]/\aa H4 H'/\H' dh\.dK (bB ((ps.map (·.1)).take i) λn=>.int (eI ps n))/\H' dy\.dK (bB ((ps.map (·.1)).take i) gy)/\∀q∈ps.take i,bU K H (gy q.1) q.2.2
  apply#[_,Z,lp,Z,#[_,.of (N6.sm _ _ Wy)],fY (K:=K) (a:=lp) (xs:=yp) JC #[none,none,none,λ_=>.non,Z,s5.trans s6,e6,ye,by simp] (λi σ H' _ ⟨_,_,_,_,_,sm,_⟩=>.of (sm _ _ (N.sm _ _ Wy))) ?_ ?_]
  ·rintro i x σ H7 hx ⟨v8,v9,v10,gy,rfl,sm,C7,C1,wy⟩;let#[q,hq,a,v,rfl,ha,wv]:=jx (g:=id) (by rw[List.map_id];exact pc) hx;have hn:(ps.map (·.1))[i]? = some q.1:=by rw[dR,hq];rfl
   have hi:i<ps.length:=(cq.mp hq).1;let nn:=Jn UK hn;have ne:∀m∈(ps.map (·.1)).take i,m≠q.1:=λm hm z=>nn (z▸hm);apply#[a,_,Z,.of (sm _ _ (N.sm _ _ ha)),Z,_,_,Z,_,_,Z,_,_,Z,Z,?_];dsimp only;apply#[_,Z,_,Z,_,Z,dy,_,Z,.k (k:=Sum.inr q.1) C1 (by rw[f_,cX,ao];omega),?_];have dh8:upd H7 dy (.dK (putK (bB ((ps.map (·.1)).take i) gy) (Sum.inr q.1) v)) dh\.dK (bB ((ps.map (·.1)).take i) λn=>.int (eI ps n)):=by rw[ax hy];exact C7
   apply#[_,Z,_,Z,_,Z,dh,_,Z,.k (k:=Sum.inr q.1) dh8 (by rw[f_,cX,ao];omega),?_];apply#[_,_,_,λm=>if m=q.1 then v else gy m,Z,λb o e=>?_,?_,?_,λq' hq'=>?_]
   ·rw[ax (neh e),ax (ney e)];exact sm _ _ e
   ·rw[ay,L9 nn,eZ hn];apply dQ (λx=>some (HO.dK x)) (EV λm hm=>?_);by_cases z:m=q.1
    ·rw[aB z,z,yU UK (cj hq)];rfl
    rw[au z]
   ·rw[ax hy.symm,ay,L9 nn,eZ hn]
   dsimp only;rw[iw,hq,Option.toList_some] at hq';rcases fR.mp hq' with hq'|hq'
   ·rw[au (ne _ (by rw[<- List.map_take];exact bh.mpr #[_,hq',Z]))];exact wy q' hq'
   obtain rfl:=jw.mp hq';rw[aB Z];exact wv
  rintro σ H7 ⟨v8,v9,v10,gy,rfl,sm,C7,C1,wy⟩;rw[lz] at C7 C1 wy;rw[xF (by rw[ao];exact bq _)] at C7 C1;rw[dz] at wy;exact hN _ _ #[_,_,_,_,_,gy,Z,sm,C7,C1,λq hq=>(wy q hq).same (N.sm.trans sm)]
 rintro σ H7 ⟨v4,v5,v8,v9,v10,gy,rfl,sm,C7,C1,wy⟩;apply λwa nw=>?_;let#[s8,e8]:=aA (o:=.dK []) nw;generalize upd H7 wa (.dK [])=H8 at s8 e8 ⊢;let UE:=(N.sm.trans sm).trans s8
 have kvs:jH K H8 yh (hs.map λh=>((Sum.inr h.1:Key),V.int h.2)):=by
  exact Y2 th λy h ⟨b,z,q⟩=>#[b,z,UE _ _ (Pr q)]
 apply#[_,Z,lh,yh,_,Z,UE _ _ ig,kvs,by rw[ao];omega,λds Ov=>?_];rw[hsK nd,xx (Pa nd _)];let#[s9,e9]:=aA (o:=.dK (bB (hs.map (·.1)) λn=>V.int (strOf hs n))) Ov;generalize upd H8 ds (.dK (bB (hs.map (·.1)) λn=>V.int (strOf hs n)))=H9 at s9 e9 ⊢;apply#[_,Z,_,Z,s9 _ _ e8,[((.inr "strength":Key),V.ref ds),(.inr "near",.ref dn),(.inr "ties",.ref lt)],Z,by show 3<=15;decide,?_];lk;apply#[_,Z,_,Z,wa,_,Z,.k (k:=Sum.inr "heavy") ay (by show 3<sizeLine;decide),?_];apply#[_,Z,_,Z,wa,_,Z,.k (k:=Sum.inr "ways") ay (by show 4<sizeLine;decide),?_];have Gi:H wa=none:=(N.sm.trans sm).free nw;have new:∀{b:Addr} {o:HO},H7 b\o->b≠wa:=λe z=>by rw[z,nw] at e;cases e
 have RM:ds≠wa:=λz=>by rw[z,e8] at Ov;cases Ov
 have up:∀{b:Addr} {o:HO},H7 b\o->upd (upd (upd H9 wa (.dK (o8 [] [((.inr "strength":Key),V.ref ds),(.inr "near",.ref dn),(.inr "ties",.ref lt)]))) wa (.dK (putK (o8 [] [((.inr "strength":Key),V.ref ds),(.inr "near",.ref dn),(.inr "ties",.ref lt)]) (Sum.inr "heavy") (.ref dh)))) wa (.dK (putK (putK (o8 [] [((.inr "strength":Key),V.ref ds),(.inr "near",.ref dn),(.inr "ties",.ref lt)]) (Sum.inr "heavy") (.ref dh)) (Sum.inr "ways") (.ref dy))) b\o:=λ{b o} e=>by
  rw[ax (new e),ax (new e),ax (new e)];exact s9 _ _ (s8 _ _ e)
 apply#[_,Z,k wa _ (λb o e=>up (sm _ _ (N.sm _ _ e))) Gi #[ds,dn,lt,dh,dy,ad,gy,?_,?_,up (sm _ _ N.nr),λh hh=>up (sm _ _ (N.ls.1 h hh)),up C7,up C1,λq hq=>?_,zs,up (sm _ _ (N.sm _ _ dm)),Paired.bu tt λy k ⟨b,z,q⟩=>#[b,z,up (sm _ _ (N.sm _ _ q))]]]
 ·rw[ay,jX_]
 ·rw[ax RM,ax RM,ax RM];exact e9
 exact (wy q hq).same λb o e=>up e
end
end Ev
namespace L2
open PySem PySem.Spec PyProof.Rows PySem.W
theorem RC{d:Addr}{o:Obj}{kvs:List (Key × V)}{g:TG}{tb:TS}{D:Ends}{σ:St}{H:Hp}(Pv:bI)(h0:Pv 0 σ H)(hl:∀i σ H,i<=kvs.length->Pv i σ H->H d\.frz o (.dK kvs))
  (hs:∀i k x σ H,kvs[i]? = some (k,x)->Pv i σ H->g (kV k) σ H λgQ H2=>tb { D with nx:=Pv (i+1),ct:=Pv (i+1),bk:=D.nx } gQ H2) (hd:∀σ H,Pv kvs.length σ H->D.nx σ H) :
  ∃W:Nat->Nat->St->Hp->Prop,(∃m,W 0 m σ H)/\∀i m σ H,W i m σ H->
   ((Fc d o kvs).stop i H/\D.nx σ H)∨((Fc d o kvs).go i H/\∃N:St->Hp->Prop,(∀bt H',N bt H'->∃m',m'<m/\W (i+1) m' bt H')/\∀x H',(Fc d o kvs).xK i H x H'->g x σ H' λgQ H2=>tb { D with nx:=N,ct:=N,bk:=D.nx } gQ H2):=by
 apply#[λi m σ H=>m=kvs.length - i/\i<=kvs.length/\Pv i σ H,#[kvs.length,by simp,gF _,h0],?_];rintro i m σ H ⟨rfl,hi,p⟩;let q:=hl i σ H hi p;by_cases dm:i<kvs.length
 ·apply .inr #[#[q,dm],Pv (i+1),λbt H' p'=>#[kvs.length - (i+1),by omega,Z,dm,p'],λx H' y=>?_];let#[rfl,k,v,hx,rfl]:=y;exact hs i k v σ _ hx p
 have e:i=kvs.length:=by omega
 subst e;exact .inl #[#[q,bq _],hd σ H p]
theorem Ip:∀{xs:ai} {us:aq},Vals xs us->xs.all qB=true->∀(k:V) (j:Nat) (h:j<us.length),∃h2:j<xs.length,mK k us[j]=jF xs[j] k
 |_,_,.nil,_,k,j,h=>absurd h (Nat.not_lt_zero _)
 |y::xs,u::us,.cons r t,f,k,j,h=>by
  rw[List.all_cons,xI] at f;cases j with
  |zero=>exact#[Nat.zero_lt_succ _,O_ r f.1]
  |succ j=>
   let#[h2,e]:=Ip t f.2 k j (Nat.lt_of_succ_lt_succ h);exact#[Nat.succ_lt_succ h2,e]
inductive qc (x:V) (vs:ai) (H:Hp) (Q:VK):Prop
 |mk:∀(l:Addr) (xs:ai) (k:V) (j:Nat),x=.ref l->vs=[k]->H l\.lst xs->qB k=true->xs.all qB=true->j<1000->(∃y,xs[j]? = some y/\jF y k=true)->(∀i y,i<j->xs[i]? = some y->jF y k=false)->Q (.int (j:Int)) H->qc x vs H Q
variable{X:Cx}
theorem hc_:DH X "list.index" qc:=by
 intro pins s σ H x vs v us Q I rx rv h;let#[l,xs,k,j,rfl,rfl,hH,fk,fx,hj,#[y,hy,ey],no,q]:=h;cases rx;let#[u,rfl,ru]:=rv.one;let#[z,its,n,r,hl,e]:=I.jr hH;let#[hjx,QW]:=cq.mp hy;apply call_meets PySem.F.slot_list_index ⟨_,e,rfl⟩ PySem.F.entry_list_index (PySem.F.args_list_index_2 _ _) (SeqAt.list_indexAt l its.toArray n none _ u (mK k) j (by show j<its.length;omega) Z1 ?_ ?_) ⟨e,λy hy=>IT ru fk r fx y ⇑hy,⟨.int _,H,I.tok _,⟨_,rfl⟩,q⟩⟩
 ·let#[h2,e2]:=Ip r fx k j Z1;show mK k its[j]=true;rw[e2,QW];exact ey
 intro m hm lt;let#[h2,e2]:=Ip r fx k m ⇑hm;show mK k its[m]=false;rw[e2];exact no m _ lt (dB h2)
end L2
namespace Ev
open PySem L2
theorem Iv{H:Hp}{d:Addr}{ns:ae}{g:Str->V}{n:Str}(r:Rd H d (.dK (bB ns g)))(h:n∈ns):ck H d (.str n) (some (g n)):=by
 rw[<- ES (g:=g) h];exact .inl ⟨_,Sum.inr n,r,rfl,rfl⟩
variable{kvs:List (Key × V)}
theorem U6{d:Addr}{o:Obj}{H H':Hp}(f:Fz d o kvs H H'):Rd H' d (.dK kvs):=.inr ⟨o,f.at_⟩
structure Pw (hs:Xa) (ts:Xb) (ps:aC) (f:ag):Prop where
 Gd:Good hs ts
 gp:∀q∈ps,CY ts q
 nd:(ps.map (·.1)).Nodup
 ic:ps.length<=30
 at_:∀n∈ps.map (·.1),f n∈hs.map (·.1)
abbrev sL(ps:aC)(f:ag)(n:Str):Int:=ld f (ps.map d9) n
theorem Pw.jY{hs:Xa}{ts:Xb}{ps:aC}{f:ag}(W:Pw hs ts ps f)(n:Str):0<=sL ps f n/\sL ps f n<=64000000000:=Ei (λq hq=>⟨by have:=(W.gp q hq).w1;omega,(W.gp q hq).w2⟩) (by have:=W.ic;omega) f n
theorem Pw.bJ{hs:Xa}{ts:Xb}{ps:aC}{f:ag}(W:Pw hs ts ps f){n:Str}(h:n∈hs.map (·.1)):1<=strOf hs n/\strOf hs n<=1000:=(W.Gd.aN _ (zj h)).2
theorem Pw.wt{hs:Xa}{ts:Xb}{ps:aC}{f:ag}(W:Pw hs ts ps f){n:Str}(h:n∈ps.map (·.1)):1<=eI ps n/\eI ps n<=1000000000:=by
 let#[q,hq,rfl]:=bh.mp h;rw[yU W.nd hq];exact⟨(W.gp q hq).w1,(W.gp q hq).w2⟩
theorem mt_{ps:aC}{f:ag}{n:Str}(hn:n∈ps.map (·.1))(h:∀x∈kvs,∃a,x.2=V.ref a)(e:kvs=b_ (ps.map (·.1)) f):False:=by
 have m:((Sum.inr n:Key),V.str (f n))∈kvs:=by
  rw[e];exact bh.mpr ⟨n,hn,rfl⟩
 let#[a,z]:=h _ m;cases z
theorem lL_{ns:ae}{f:ag}{g:Str->Int}{n:Str}(hn:n∈ns)(e:bB ns (λn=>.int (g n))=b_ ns f):False:=by
 have m:((Sum.inr n:Key),V.str (f n))∈bB ns (λn=>.int (g n)):=by
  rw[e];exact bh.mpr ⟨n,hn,rfl⟩
 let#[k,_,z]:=bh.mp m;cases (Prod.mk.inj z).2
variable{f0:Addr}{fd:Ad}
section v
abbrev hdN:ae:=[gE,i9,oT,qA]
theorem nQ:bx hdN Ew (ba uF):=bH
inductive EF (K:af) (vs:ai) (H:Hp) (Q:VK) (E:XK):Prop
 |mk:∀(wa sd:Addr) (hs:Xa) (ts:Xb) (ps:aC) (f:ag),vs=[.ref wa,.ref sd]->oZ K H wa hs ts ps->Pw hs ts ps f->H sd\.dK (b_ (ps.map (·.1)) f)->(∀d H',aa H H'->H d=none->H' d\.dK (bB (hs.map (·.1)) λn=>.int (sL ps f n))->Q (.ref d) H')->EF K vs H Q E
theorem lH_(F:bp K "_law_held" "_law_held" uF f0 fd)(B:Bi mg):!aj aZ 1 f0 fd Ew (EF K):=by
 exists F.bG nQ;let#[wa,sd,hs,ts,ps,f,rfl,#[ds,dn,lt,dh,dy,ad,gy,W],Pp,iB,k]:=h;let sz:=cc;let hu:=eO hr;refine' #[_,ak ?s1 (ak ?s2 (aE ?s3)),?kk]
 case s1=>exact Di (aO 2 nQ.nd (iZ (wb Z) (by rfl) B.dict qF %[i4 ["_law_name"] 1 [] (IH (bV hu (pv 0) cn)) (λfp s H=>e_ (i:=0) (show (["_law_name"]:ae).Nodup by decide +kernel) Z (Or.inl Z)) (λfp s H=>iH) (λfp s H=>eW %[0,aI|0])|0]))
 case s2=>exact Di (eE dM Z (IH (pv 1)) (bN 3 nQ.nd) (aE (kG_ hu (pv 2) (bV hu (pv 1) (pv 3)) (bV hu (bV hu (pv 0) cn) (pv 3)) lS_ (λ_ _ _=>rfl))))
 case s3=>exact bo (pv 2)
 let qo:=Pp.Gd.qo;have h8:(hs.map (·.1)).length<=8:=by rw[ao];exact Pp.Gd.h8
 apply#[ds,_,W.sg,?_];apply#[_,Z,wa,_,Z,W.gS,ds,_,Z,W.sg,λo D hD=>?_]
 have zB:D≠ds:=by
  intro z;rw[z,ay] at hD;cases hD
 have Cv:H D=none:=by rw[ax zB] at hD;exact hD
 let JB:dH:=λi out H'=>Fz ds o (bB (hs.map (·.1)) λn=>.int (strOf hs n)) H H'/\H' D\.lst out/\jH K H' out (bB ((hs.map (·.1)).take i) λ_=>.int 0)
 apply Yz (own:=1) (fv:=[]) Z ee JB #[Fz.start.put Cv zB,ay,.nil] (λi out H' _ ⟨z,_,_⟩=>z.at_) (λout H2 ⟨fz,jE,pa⟩=>?_) (λi ky x out H' hx ⟨fz,eN,pa⟩=>?_);rotate_left 1
 ·let#[n,hn,rfl,rfl]:=xk hx;have hi:i<(hs.map (·.1)).length:=(cq.mp hn).1;apply#[_,Z,Z,λNx hN=>dW ?_];apply#[_,Z,zl,λt ht=>?_];let s5:=aa.new (o:=.tup [.str n,.int 0]) ht;let lo:=bK pa;rw[f_,cX] at lo;apply#[out,s5 _ _ eN,by omega,hN _ _ #[(fz.step s5).put Cv zB,ay,?_]];have As:upd H' t (.tup [.str n,.int 0]) t\.tup [.str n,.int 0]:=ay;have pD:∀{b:Addr} {ys:ai},upd H' t (.tup [.str n,.int 0]) b\.tup ys->b≠D:=λhb=>cu hb (s5 _ _ eN) nofun;rw[eZ hn];show jH K _ _ (((hs.map (·.1)).take i++[n]).map _);rw[bY];exact kI (Paired.bu pa λy kv ⟨b,z,hb⟩=>#[b,z,by rw[ax (pD (s5 _ _ hb))];exact s5 _ _ hb]) (.cons #[t,Z,by rw[ax (pD As)];exact As] .nil)
 rw[f_,dz] at pa;apply#[D,out,_,Z,jE,pa,by rw[f_];omega,λdf Ak=>?_];rw[xx (Pa qo _)];have yV:df≠ds:=λz=>by rw[z,fz.at_] at Ak;cases Ak
 have lI:H df=none:=by
  cases e:H df with
  |none=>rfl
  |some u=>have:=fz.sm _ _ yV e;rw[Ak] at this;cases this
 have Qp:Fz ds o (bB (hs.map (·.1)) λn=>.int (strOf hs n)) H (upd H2 df (.dK (bB (hs.map (·.1)) λ_=>.int 0))):=fz.put lI yV;lk;apply#[o,Qp.at_,?_];let s3:=Qp.jP W.sg;have e3:upd (upd H2 df (.dK (bB (hs.map (·.1)) λ_=>.int 0))) ds (.dK (bB (hs.map (·.1)) λn=>.int (strOf hs n))) df\.dK (bB (hs.map (·.1)) λ_=>.int 0):=by rw[ax yV,ay]
 generalize upd (upd H2 df (.dK (bB (hs.map (·.1)) λ_=>.int 0))) ds (.dK (bB (hs.map (·.1)) λn=>.int (strOf hs n)))=H3 at s3 e3 ⊢;clear Qp fz pa jE hD Cv Ak yV zB;let W3:=W.same s3;let lO:=s3 _ _ iB;have C9:df≠sd:=(bj iB lI).symm;have dwd:wa≠df:=bj W.top lI;have dhd:dh≠df:=bj W.hv lI;apply#[sd,_,lO,?_];apply#[_,Z,sd,_,Z,lO,λo2=>?_]
 let JA:bI:=λi σ H'=>∃v3:aF,σ=[some (.ref wa),some (.ref sd),some (.ref df),v3]/\H' sd\.frz o2 (.dK (b_ (ps.map (·.1)) f))/\(∀b u,b≠sd->b≠df->H3 b\u->H' b\u)/\H' df\.dK (bB (hs.map (·.1)) λn=>.int (ld f ((ps.take i).map d9) n))
 apply RC JA #[none,Z,ay,λb u n1 n2 e=>by rw[ax n1];exact e,by rw[ax C9];exact e3] (λi σ H' _ ⟨_,_,z,_⟩=>z) ?_ ?_
 ·rintro i ky x σ H4 hx ⟨v3,rfl,fz,kp,lP⟩;let#[n,hn,rfl,rfl]:=xk hx;let nm:=cj hn;rw[dR,DB] at hn;let#[q,hq,rfl]:=hn;let hqm:=cj hq;let fm:=Pp.at_ _ nm;have Ni:H4 wa\.dK (tm ds dn lt dh dy):=kp _ _ (λz=>mt_ (ps:=ps) (f:=f) nm (λx hx=>by simp only[tm,bX,xH,or_false] at hx;rcases hx with rfl|rfl|rfl|rfl|rfl<;>exact#[_,Z]) (HO.dK.inj (eK ((z▸W3.top).symm.trans lO)))) dwd W3.top
  have Ph:H4 dh\.dK (bB (ps.map (·.1)) λn=>.int (eI ps n)):=kp _ _ (λz=>lL_ nm (HO.dK.inj (eK ((z▸W3.hv).symm.trans lO)))) dhd W3.hv;lk;apply#[_,Z,_,Z,_,Z,sd,_,Z,Iv (.inr #[o2,fz]) nm,df,_,Z,gJ lP fm,?_];apply#[_,Z,wa,_,Z,ck.k (k:=Sum.inr "heavy") Ni,_,Z,dh,_,Z,gJ Ph nm,?_];apply#[_,_,Z,Z,_,.k (k:=Sum.inr (f q.1)) lP (by rw[f_];omega),?_];apply#[_,Z,by rw[ax C9.symm];exact fz,λb u n1 n2 e=>by rw[ax n2];exact kp b u n1 n2 e,?_];rw[ay,Qv fm];apply dQ (λx=>some (HO.dK x)) (EV λm hm=>?_);rw[iw,hq,Option.toList_some,bY,eJ,vS,V_];by_cases z:m=f q.1
  ·rw[aB z,aB (show m=f (d9 q).1 from z),z,yU Pp.nd hqm];rfl
  rw[au z,au (show ¬m=f (d9 q).1 from z)]
 rintro σ H4 ⟨v3,rfl,fz,kp,lP⟩;rw[f_,ao,dz] at lP;apply#[o2,fz,_,Z,k df _ (λb u e=>?_) lI (by rw[ax C9];exact lP)];by_cases z:b=sd
 ·rw[z] at e ⊢;rw[iB] at e;rw[ay];exact e
 rw[ax z];exact kp b u z (bj e lI) (s3 _ _ e)
def iq(hs:Xa)(ps:aC)(f:ag)(a b:Str):Int:=sL ps f a * strOf hs b - sL ps f b * strOf hs a
theorem uk:bx [gE,"_law_held_here",rQ,lY,"_law_strength"] mj (ba uL):=bH
inductive Ie (K:af) (vs:ai) (H:Hp) (Q:VK) (E:XK):Prop
 |mk:∀(wa d:Addr) (a b:Str) (hs:Xa) (ts:Xb) (ps:aC) (f:ag),vs=[.ref wa,.ref d,.str a,.str b]->oZ K H wa hs ts ps->Pw hs ts ps f->H d\.dK (bB (hs.map (·.1)) λn=>.int (sL ps f n))->a∈hs.map (·.1)->b∈hs.map (·.1)->Q (.int (iq hs ps f a b)) H->Ie K vs H Q E
theorem l3_(F:bp K "_law_drop" "_law_drop" uL f0 fd):!aj aZ 1 f0 fd mj (Ie K):=by
 exists F.bG uk;let#[wa,d,a,b,hs,ts,ps,f,rfl,#[ds,dn,lt,dh,dy,ad,gy,W],Pp,hd,ha,hb,k]:=h;let hu:=eO hr;refine' #[_,ak ?s1 (aE ?s2),?kk]
 case s1=>exact aO 4 uk.nd (bV hu (pv 0) cn)
 case s2=>exact bo (bw LH (bw jI (bV hu (pv 1) (pv 2)) (bV hu (pv 4) (pv 3))) (bw jI (bV hu (pv 1) (pv 3)) (bV hu (pv 4) (pv 2))))
 let h1:=Pp.jY a;let h2:=Pp.jY b;let e1:=Pp.bJ ha;let e2:=Pp.bJ hb;apply#[_,Z,wa,_,Z,W.gS,?_];lk;apply#[_,Z,_,Z,d,_,Z,gJ hd ha,_,Z,_,Z,ds,_,Z,gJ W.sg hb,_,_,Z,Z,.inr #[by omega,by omega],?_];exact#[_,Z,_,Z,d,_,Z,gJ hd hb,_,Z,_,Z,ds,_,Z,gJ W.sg ha,_,_,Z,Z,.inr #[by omega,by omega],_,_,Z,Z,k]
def fO(ts:Xb)(ps:aC)(n a b:Str):Bool:=decide (b∈di ts a)&&match Bd ps n with
 |none=>true
 |some ws=>decide ((a,b)∈ws) || decide ((b,a)∈ws)
theorem ud:bx [gE,qA,rQ,lY,"_law_ways_here"] qU (ba uB):=bH
inductive LK (K:af) (vs:ai) (H:Hp) (Q:VK) (E:XK):Prop
 |mk:∀(wa:Addr) (n a b:Str) (hs:Xa) (ts:Xb) (ps:aC) (f:ag),vs=[.ref wa,.str n,.str a,.str b]->oZ K H wa hs ts ps->Pw hs ts ps f->n∈ps.map (·.1)->a∈hs.map (·.1)->(∀H',aa H H'->Q (.bl (fO ts ps n a b)) H')->LK K vs H Q E
theorem lr_(F:bp K "_law_may" "_law_may" uB f0 fd):!aj aZ 1 f0 fd qU (LK K):=by
 exists F.bG ud;let#[wa,n,a,b,hs,ts,ps,f,rfl,#[ds,dn,lt,dh,dy,ad,gy,W],Pp,hn,ha,k]:=h;let hu:=eO hr;refine' #[_,ak ?s1 (ak ?s2 (aE ?s3)),?kk]
 case s1=>exact aO 4 ud.nd (bV hu (bV hu (pv 0) cn) (pv 1))
 case s2=>exact bP (c_ (Mx fQ (lX hr 0)) (pv 3) (bV hu (bV hu (pv 0) cn) (pv 2)) (by with_unfolding_all rfl)) (aE (bo CD)) bQ
 case s3=>exact bo (Ej (iI VF (pv 4) C4) (Ej (iI (Ik (zc fQ fQ) (lX hr _)) (eW %[2,3|0]) (pv 4) (by with_unfolding_all rfl)) (o6 (iI (Ik (zc fQ fQ) (lX hr _)) (eW %[3,2|0]) (pv 4) (by with_unfolding_all rfl)))))
 let#[q,hq,rfl]:=bh.mp hn;let wv:=W.wv q hq;let wn:=HQ Pp.nd hq;apply#[_,Z,wa,_,Z,W.gW,_,Z,dy,_,Z,gJ W.wy hn,?_];lk;apply#[_,Z,_,Z,wa,_,Z,W.gN,_,Z,dn,_,Z,gJ W.nr ha,b,di ts a,Z,#[ad a,_,Z,.of (W.ls a ha),Dr _],_,Z,?_];have fin:∀{H1:Hp} {r:Bool},aa H H1->fO ts ps q.1 a b=r->Q (.bl r) H1:=λs e=>e▸k _ s;apply aQ (λc=>?_) (λc=>?_)
 ·apply fin (aa.refl H) ?_;unfold fO;have c:¬b∈di ts a:=⇑c
  rw[dU c,r9]
 have c:b∈di ts a:=⇑c
 have ml:fO ts ps q.1 a b=match q.2.2 with
  |none=>true
  |some ws=>decide ((a,b)∈ws) || decide ((b,a)∈ws):=by
  unfold fO;rw[cw c,Bool.true_and,wn]
 cases o:q.2.2 with
 |none=>
  rw[o] at wv ml;have wv:gy q.1=.non:=wv;apply#[_,Z,Z,_,Z,?_];rw[wv];exact fin (aa.refl H) ml
 |some ws=>
  rw[o] at wv ml;let#[aw,ys,e,hw,tw]:=wv;apply#[_,Z,Z,_,Z,?_];rw[e];apply#[_,Z,_,Z,zl,λt1 n1=>?_];let#[s1,e1]:=aA (o:=.tup [.str a,.str b]) n1;generalize upd H t1 (.tup [.str a,.str b])=H1 at s1 e1 ⊢;apply#[_,Z,(a,b),ws,#[t1,_,_,Z,.of e1,Z,Z],#[aw,ys,Z,.of (s1 _ _ hw),Iz (tw.same s1)],_,Z,?_];apply aQ (λc2=>?_) (λc2=>?_)
  ·apply fin s1 (ml.trans ?_);have c2:(a,b)∈ws:=⇑c2
   simp[c2]
  apply#[_,Z,_,Z,zl,λt2 n2=>?_];let#[s2,e2]:=aA (o:=.tup [.str b,.str a]) n2;generalize upd H1 t2 (.tup [.str b,.str a])=H2 at s2 e2 ⊢;apply#[_,Z,(b,a),ws,#[t2,_,_,Z,.of e2,Z,Z],#[aw,ys,Z,.of (s2 _ _ (s1 _ _ hw)),Iz (tw.same (s1.trans s2))],fin (s1.trans s2) (ml.trans ?_)];have c2:¬(a,b)∈ws:=⇑c2
  simp[c2]
theorem yf:bx qT qT (ba oB):=bH
def pU:Sp:=λvs H Q _=>∃(g:Str) (a b:Int),vs=[.str g,.int a,.int b]/\g∈(me:ae)/\-(2 ^ 63)<a/\a<2 ^ 63/\∀H',aa H H'->Q (.bl (j5 g a b)) H'
theorem jL_(F:bp K "_law_is_fit" "_law_is_fit" oB f0 fd):!aj aZ 1 f0 fd qT pU:=by
 exists F.bG yf;let#[g,a,b,rfl,hg,a1,a2,k]:=h;refine' #[_,aE (bo (bM gi (cy %[iI sP (pv 1) aI,iI sP (bw jI aI (pv 1)) (pv 2),iI Vk (pv 1) (pv 2)|0]) (gC gO PySem.F.slot_list_index PySem.F.type_list_index hc_ (cy %[cn,cn,cn|0]) %[0|0]))),?kk];apply#[_,Z,_,_,Z,Z,_,Z,_,_,Z,Z,.inl #[by decide,by decide],_,Z,_,_,Z,Z,_,Z,_,Z,_,_,Z,Z,zl,λl1 n1=>?_];let#[s1,e1]:=aA (o:=.lst [.bl (decide (0<a)),.bl (decide (b<2 * a)),.bl (decide (b<=a))]) n1;generalize upd H l1 (.lst [.bl (decide (0<a)),.bl (decide (b<2 * a)),.bl (decide (b<=a))])=H1 at s1 e1 ⊢;apply#[zl,λl2 n2=>?_];let#[s2,e2]:=aA (o:=.lst [.str "high",.str "fall",.str "calm"]) n2;generalize upd H1 l2 (.lst [.str "high",.str "fall",.str "calm"])=H2 at s2 e2 ⊢;apply#[.inl #[Z,_,.of e2],_,Z,?_];let e3:=s2 _ _ e1;let k:=k H2 (s1.trans s2);simp only[bX,xH,or_false] at hg;rcases hg with rfl|rfl|rfl
 ·exact#[l2,_,_,0,Z,Z,e2,Z,Z,by decide,#[_,Z,by decide +kernel],λi y h _=>absurd h (Nat.not_lt_zero _),l1,_,_,_,Z,Z,.of e3,Z,k]
 ·apply#[l2,_,_,1,Z,Z,e2,Z,Z,by decide,#[_,Z,by decide +kernel],λi y h e=>?_,l1,_,_,_,Z,Z,.of e3,Z,k];obtain rfl:i=0:=by omega
  cases e;decide +kernel
 apply#[l2,_,_,2,Z,Z,e2,Z,Z,by decide,#[_,Z,by decide +kernel],λi y h e=>?_,l1,_,_,_,Z,Z,.of e3,Z,k];rcases (show i=0∨i=1 by omega) with rfl|rfl
 ·cases e;decide +kernel
 cases e;decide +kernel
end
def d8(ps:aC)(o:Option Str)(n:Str):Option Str:=match o with
 |none=>some n
 |some m=>if eI ps m<eI ps n then some n else some m
def rG(ps:aC)(ns:ae):Option Str:=(aV ns).foldl (d8 ps) none
theorem Xx{ps:aC}:∀{l:ae} {o:Option Str} {m:Str},l.foldl (d8 ps) o\m->m∈l∨o\m
 |[],o,m,h=>.inr h
 |n::l,o,m,h=>by
  rw[List.foldl_cons] at h;rcases Xx h with h|h
  ·exact .inl (dJ _ h)
  unfold d8 at h;cases o with
  |none=>cases h;exact .inl cZ
  |some k=>
   dsimp only at h;split at h
   ·cases h;exact .inl cZ
   exact .inr h
theorem eX.but{K:af}{H G:Hp}{w ds dn lt dh dy sd:Addr}{ad:Str->Addr}{gy:Str->V}{hs:Xa}{ts:Xb}{ps:aC}{f:ag}{n:Str}(W:eX K H w ds dn lt dh dy ad gy hs ts ps)(iB:H sd\.dK (b_ (ps.map (·.1)) f))(hn:n∈ps.map (·.1))(kp:∀b u,b≠sd->H b\u->G b\u):eX K G w ds dn lt dh dy ad gy hs ts ps:=by
 have kl:∀{b:Addr} {xs:ai},H b\.lst xs->G b\.lst xs:=λe=>kp _ _ (λz=>by rw[z,iB] at e;cases e) e;have kt:∀{b:Addr} {xs:ai},H b\.tup xs->G b\.tup xs:=λe=>kp _ _ (λz=>by rw[z,iB] at e;cases e) e
 have kd:∀{b:Addr} {kvs:List (Key × V)},H b\.dK kvs->(∀x∈kvs,∀y,x=((Sum.inr n:Key),V.str y)->False)->G b\.dK kvs:=λ{b kvs} e h=>kp _ _ (λz=>by
  have:kvs=b_ (ps.map (·.1)) f:=HO.dK.inj (eK (e.symm.trans (z▸iB)));exact h ((Sum.inr n:Key),V.str (f n)) (by rw[this];exact bh.mpr #[n,hn,Z]) _ Z) e
 apply#[kd W.top λx hx y z=>?_,kd W.sg λx hx y z=>?_,kd W.nr λx hx y z=>?_,λh hh=>kl (W.ls h hh),kd W.hv λx hx y z=>?_,kd W.wy λx hx y z=>?_,λq hq=>?_,let #[zs,a,b]:=W.tl;#[zs,kl a,Paired.bu b λy k ⟨b,z,q⟩=>#[b,z,kt q]]]
 ·rw[z] at hx;simp[tm] at hx
 ·rw[z] at hx;let#[_,_,z]:=bh.mp hx;cases (Prod.mk.inj z).2
 ·rw[z] at hx;let#[_,_,z]:=bh.mp hx;cases (Prod.mk.inj z).2
 ·rw[z] at hx;let#[_,_,z]:=bh.mp hx;cases (Prod.mk.inj z).2
 ·rw[z] at hx;let#[m,hm,z]:=bh.mp hx;let#[q,hq,rfl]:=bh.mp hm;let wv:=W.wv q hq;rw[(Prod.mk.inj z).2] at wv;cases o:q.2.2 with
  |none=>rw[o] at wv;cases wv
  |some ws=>
   rw[o] at wv;let#[a,ys,e,_]:=wv;cases e
 let wv:=W.wv q hq;cases o:q.2.2 with
 |none=>rw[o] at wv;exact wv
 |some ws=>
  rw[o] at wv;let#[a,ys,e,ha,t]:=wv;exact#[a,ys,e,kl ha,Paired.bu t λy k ⟨b,z,q⟩=>#[b,z,kt q]]
def j_(hs:Xa)(ts:Xb)(ps:aC)(f:ag)(gd:Str)(gv:ae)(a b n:Str):Bool:=decide (f n=a)&&(!decide (n∈gv)&&(fO ts ps n a b&&j5 gd (iq hs ps f a b) ((strOf hs a+strOf hs b) * eI ps n)))
def rP(hs:Xa)(ts:Xb)(ps:aC)(f:ag)(gd:Str)(gv:ae)(a b:Str):Option Str:=rG ps ((ps.map (·.1)).filter (j_ hs ts ps f gd gv a b))
section v
theorem p6:bx [gE,"_law_pieces",oT,qA] qS (ba BI):=bH
inductive pV (K:af) (vs:ai) (H:Hp) (Q:VK) (E:XK):Prop
 |mk:∀(wa l:Addr) (ns:ae) (hs:Xa) (ts:Xb) (ps:aC),vs=[.ref wa,.ref l]->oZ K H wa hs ts ps->H l\.lst (ns.map V.str)->(∀n∈ns,n∈ps.map (·.1))->ns.length<64->(∀H',aa H H'->Q (fN (rG ps ns)) H')->pV K vs H Q E
theorem md_(F:bp K "_law_heaviest" "_law_heaviest" BI f0 fd)(B:Bi mg):!aj aZ 1 f0 fd qS (pV K):=by
 exists F.bG p6;let#[wa,l,ns,hs,ts,ps,rfl,#[ds,dn,lt,dh,dy,ad,gy,W],hl,sub,wO,k]:=h;let hu:=eO hr;refine' #[_,ak ?s1 (ak ?s2 (aE ?s3)),?kk]
 case s1=>exact aO 2 p6.nd C4
 case' s2=>refine' eE dM Z (dA (cQ SY (by rfl) B.sorted zh %[1|0])) (bN 3 p6.nd) (aE ?b1)
 case b1=>exact bP (PW.pt (AD (c_ VF (pv 2) C4) (AR (c_ sP (bV hu (bV hu (pv 0) cn) (pv 3)) (bV hu (bV hu (pv 0) cn) (pv 2)))))) (aE (aO 2 p6.nd (pv 3))) bQ
 case s3=>exact bo (pv 2)
 lk;apply#[_,Z,l,ns,Z,.of hl,wO,λlx nx=>?_];let#[s1,e1]:=aA (o:=.lst ((aV ns).map V.str)) nx;generalize upd H lx (.lst ((aV ns).map V.str))=H1 at s1 e1 ⊢;let W1:=W.same s1;apply#[lx,Z,#[_,.of e1],fY (K:=K) (a:=lx) (xs:=(aV ns).map V.str) (λi σ H'=>∃v3:aF,σ=[some (.ref wa),some (.ref l),some (fN (((aV ns).take i).foldl (d8 ps) none)),v3]/\H'=H1) #[none,Z,Z] (λi σ H' _ ⟨_,_,z⟩=>z▸.of e1) ?_ ?_]
 ·rintro i x σ H' hx ⟨v3,rfl,rfl⟩;let#[n,hn,rfl]:=i0 hx;have nm:n∈ps.map (·.1):=sub n ((gM ns).mem_iff.mp (cj hn));have st:((aV ns).take (i+1)).foldl (d8 ps) none=d8 ps (((aV ns).take i).foldl (d8 ps) none) n:=by rw[eZ hn,List.foldl_append];rfl
  have hX:∀m,((aV ns).take i).foldl (d8 ps) none\m->m∈ps.map (·.1):=λm hm=>by
   rcases Xx hm with h|h
   ·exact sub m ((gM ns).mem_iff.mp (List.mem_of_mem_take h))
   cases h
  generalize ((aV ns).take i).foldl (d8 ps) none=o at st hX ⊢;rw[st];lk;cases o with
  |none=>
   apply#[_,Z,Z,_,Z,?_];apply aQ (λc=>?_) (λc=>absurd Z c);apply aQ (λc=>?_) (λc=>absurd Z c);exact#[_,Z,_,Z,Z]
  |some m=>
   apply#[_,Z,Z,_,Z,?_];apply aQ (λc=>by simp[fN] at c) (λc=>?_);apply#[_,Z,wa,_,Z,W1.gH,_,Z,dh,_,Z,gJ W1.hv nm,_,Z,wa,_,Z,W1.gH,_,Z,dh,_,Z,gJ W1.hv (hX m Z),_,_,Z,Z,_,Z,?_];apply aQ (λc=>?_) (λc=>?_)
   ·apply#[_,Z,some (.str n),?_,Z];have c:eI ps m<eI ps n:=⇑c
    unfold d8;dsimp only;rw[aB c];rfl
   apply#[some (.str n),?_,Z];have c:¬eI ps m<eI ps n:=⇑c
   unfold d8;dsimp only;rw[au c];rfl
 rintro σ H' ⟨v3,rfl,rfl⟩;rw[ao,dz];exact#[_,Z,k _ s1]
abbrev btN:ae:=[gE,i9,"_law_pair","_law_guard","_law_given",rQ,lY,"_law_drop_here","_law_both","_law_fit",qA]
theorem C5:bx btN qV (ba uO):=bH
inductive LR (K:af) (vs:ai) (H:Hp) (Q:VK) (E:XK):Prop
 |mk:∀(wa sd t lg:Addr) (a b gd:Str) (gv:ae) (hs:Xa) (ts:Xb) (ps:aC) (f:ag),vs=[.ref wa,.ref sd,.ref t,.str gd,.ref lg]->oZ K H wa hs ts ps->Pw hs ts ps f->H sd\.dK (b_ (ps.map (·.1)) f)->H t\.tup [.str a,.str b]->a∈hs.map (·.1)->b∈hs.map (·.1)->gd∈(me:ae)->H lg\.lst (gv.map V.str)->(∀H',aa H H'->Q (fN (rP hs ts ps f gd gv a b)) H')->LR K vs H Q E
theorem kA_(F:bp K "_law_best" "_law_best" uO f0 fd)(cD:!br 1 "_law_drop" mj (Ie K))(cH:!br 1 "_law_held" Ew (EF K))(cM:!br 1 "_law_may" qU (LK K))(cF:!br 1 "_law_is_fit" qT pU)(cV:!br 1 "_law_heaviest" qS (pV K)) :
  aj P w K mg base aZ 2 f0 fd qV (LR K):=by
 exists F.bG C5;let#[wa,sd,t,lg,a,b,gd,gv,hs,ts,ps,f,rfl,WA,Pp,iB,ht,ha,hb,Cp,PJ,k]:=h;let#[ds,dn,lt,dh,dy,ad,gy,W]:=id WA;let hu:=eO hr;let sz:=cc;refine' #[_,?r0,?kk]
 case' r0=>refine' ak ?s1 ?r1
 case' r1=>refine' ak ?s2 ?r2
 case' r2=>refine' ak ?s3 ?r3
 case' r3=>refine' ak ?s4 (ak ?s5 (aE ?s6))
 case s1=>exact C6 (pv 2) (ju Z (cU (bN 5 C5.nd) (cU (bN 6 C5.nd) iA)))
 case s2=>exact aO 7 C5.nd (aX cD hr %[0,aX cH hr %[0,1|0],5,6|0])
 case s3=>exact aO 8 C5.nd (bw h9 (bV hu (bV hu (pv 0) cn) (pv 5)) (bV hu (bV hu (pv 0) cn) (pv 6)))
 case s4=>exact aO 9 C5.nd (cy aJ)
 case' s5=>refine' Di (eE dM Z (IH (pv 1)) (bN 10 C5.nd) (aE (bP ?t5 (aE (bP ?t6 (aE ?b6) bQ)) bQ)))
 case t5=>exact PW.pt (zd (c_ iF (bV hu (pv 1) (pv 10)) (pv 5)) (zd (c_ (Mx fQ (lX hr 0)) (pv 10) (pv 4) (by with_unfolding_all rfl)) (Df (fZ (aX cM hr %[0,10,5,6|0])))))
 case t6=>exact fZ (aX cF hr %[3,7,bw jI (pv 8) (bV hu (bV hu (pv 0) cn) (pv 10))|0])
 case b6=>exact gP (gC gO kB kC ki (pv 9) %[10|0])
 case s6=>exact bo (aX cV hr %[0,9|0])
 let h1:=Pp.jY a;let h2:=Pp.jY b;let e1:=Pp.bJ ha;let e2:=Pp.bJ hb;apply#[_,Z,t,_,Z,.of ht,Z,_,_,Z,_,_,Z,Z,?_];dsimp only;apply#[_,Z,_,Z,_,Z,wa,sd,hs,ts,ps,f,Z,WA,Pp,iB,λdd H1 s1 Ox vG=>?_];apply#[_,Z,_,Z,wa,dd,a,b,hs,ts,ps,f,Z,WA.nt (NT.of s1),Pp,vG,ha,hb,?_];lk;let W1:=W.same s1;apply#[_,Z,wa,_,Z,W1.gS,_,Z,ds,_,Z,gJ W1.sg ha,_,Z,wa,_,Z,W1.gS,_,Z,ds,_,Z,gJ W1.sg hb,_,_,Z,Z,?_];lk;apply#[zl,λlf nf=>?_];lk;let s2:=s1.trans (aa.new (o:=.lst []) nf);have e3:upd H1 lf (.lst []) lf\.lst []:=ay;have rB:H lf=none:=s1.free nf;generalize upd H1 lf (.lst [])=H2 at s2 e3 ⊢
 have db:-(2 ^ 63)<iq hs ps f a b/\iq hs ps f a b<2 ^ 63:=by
  unfold iq;let m1:=Int.mul_nonneg h1.1 (show 0<=strOf hs b by omega);let m2:=Int.mul_le_mul h1.2 e2.2 Z1 Z1;let m3:=Int.mul_nonneg h2.1 (show 0<=strOf hs a by omega);let m4:=Int.mul_le_mul h2.2 e1.2 Z1 Z1;constructor<;>omega
 have jo:0<=strOf hs a+strOf hs b/\strOf hs a+strOf hs b<=2000:=#[by omega,by omega];generalize WR:iq hs ps f a b=dp at db ⊢;generalize WH:strOf hs a+strOf hs b=jn at jo ⊢;let G5:=s2 _ _ iB;have ON:lf≠sd:=(bj iB rB).symm;apply#[sd,_,G5,?_];apply#[_,Z,sd,_,Z,G5,λo=>?_];apply RC (λi σ H'=>∃v10:aF,σ=[some (.ref wa),some (.ref sd),some (.ref t),some (.str gd),some (.ref lg),some (.str a),some (.str b),some (.int dp),some (.int jn),some (.ref lf),v10]/\H' sd\.frz o (.dK (b_ (ps.map (·.1)) f))/\(∀b u,b≠sd->H b\u->H' b\u)/\H' lf\.lst ((((ps.map (·.1)).take i).filter (j_ hs ts ps f gd gv a b)).map V.str)) #[none,Z,ay,λb u n1 e=>by rw[ax n1];exact s2 _ _ e,by rw[ax ON];exact e3] (λi σ H' _ ⟨_,_,z,_⟩=>z) ?_ ?_
 ·rintro i ky x σ H4 hx ⟨v10,rfl,fz,kp,Hn⟩;let#[n,hn,rfl,rfl]:=xk hx;let nm:=cj hn;have hi:i<(ps.map (·.1)).length:=(cq.mp hn).1;rw[ao] at hi;let ic:=Pp.ic;let W4:=W.but iB nm kp;let wn:=Pp.wt nm
  have no:∀{H5:Hp},aa H4 H5->j_ hs ts ps f gd gv a b n=false->∃v10:aF,[some (V.ref wa),some (.ref sd),some (.ref t),some (.str gd),some (.ref lg),some (.str a),some (.str b),some (.int dp),some (.int jn),some (.ref lf),some (.str n)]=[some (V.ref wa),some (.ref sd),some (.ref t),some (.str gd),some (.ref lg),some (.str a),some (.str b),some (.int dp),some (.int jn),some (.ref lf),v10]/\H5 sd\.frz o (.dK (b_ (ps.map (·.1)) f))/\(∀b u,b≠sd->H b\u->H5 b\u)/\H5 lf\.lst ((((ps.map (·.1)).take (i+1)).filter (j_ hs ts ps f gd gv a b)).map V.str):=λs5 e=>#[_,Z,s5 _ _ fz,λb u n1 e=>s5 _ _ (kp b u n1 e),by
   rw[eZ hn,zq,List.filter_cons_of_neg (by rw[e];exact hJ),List.filter_nil,hG];exact s5 _ _ Hn]
  lk;apply#[_,Z,_,Z,sd,_,Z,Iv (.inr #[o,fz]) nm,_,Z,Z,_,Z,?_];apply aQ (λc1=>?_) (λc1=>?_)
  ·have c1:f n=a:=⇑c1
   apply#[_,Z,_,Z,n,gv,Z,#[lg,_,Z,.of (kp _ _ (λz=>by rw[z,iB] at PJ;cases PJ) PJ),Dr gv],_,Z,?_];rw[aB Z];apply aQ (λc2=>?_) (λc2=>?_)
   ·have c2:¬n∈gv:=⇑c2
    apply#[_,Z,_,Z,_,Z,_,Z,wa,n,a,b,hs,ts,ps,f,Z,#[ds,dn,lt,dh,dy,ad,gy,W4],Pp,nm,ha,λH5 s5=>#[_,Z,?_]];let W5:=W4.same s5;apply aQ (λc3=>?_) (λc3=>?_)
    ·apply#[_,Z,_,Z,_,Z,_,Z,wa,_,Z,W5.gH,_,Z,dh,_,Z,gJ W5.hv nm,_,_,Z,Z,.inl #[by omega,by omega],gd,dp,jn * eI ps n,Z,Cp,db.1,db.2,λH6 s6=>#[_,Z,?_]];apply aQ (λc4=>?_) (λc4=>?_)
     ·have pt:j_ hs ts ps f gd gv a b n=true:=by
       unfold j_;rw[cw c1,dU c2,c3,WR,WH,c4];rfl
      let Vf:=s6 _ _ (s5 _ _ Hn);apply#[_,Z,.inl #[Z,_,.of Vf],_,Z,lf,_,_,Z,Z,Vf,?_,?_]
      ·rw[ao];have:=xD (j_ hs ts ps f gd gv a b) ((ps.map (·.1)).take i);rw[cX] at this;omega
      apply#[_,Z,by rw[ax ON.symm];exact s6 _ _ (s5 _ _ fz),λb u n1 e=>by rw[ax (bj e rB)];exact s6 _ _ (s5 _ _ (kp b u n1 e)),?_];rw[ay,eZ hn,zq,List.filter_cons_of_pos (by exact pt),List.filter_nil,bY];rfl
     apply no (s5.trans s6) ?_;unfold j_;rw[WR,WH,show j5 gd dp (jn * eI ps n)=false by simpa using c4,pb,pb,pb]
    apply no s5 ?_;unfold j_;rw[show fO ts ps n a b=false by simpa using c3,r9,pb,pb]
   apply no (aa.refl H4) ?_;have c2:n∈gv:=⇑c2
   unfold j_;rw[cw c2,Bool.not_true,r9,pb]
  apply no (aa.refl H4) ?_;have c1:¬f n=a:=⇑c1
  unfold j_;rw[dU c1,r9]
 rintro σ H4 ⟨v10,rfl,fz,kp,Hn⟩;rw[f_,dz] at Hn
 have s4:aa H (upd H4 sd (.dK (b_ (ps.map (·.1)) f))):=λb u e=>by
  by_cases z:b=sd
  ·rw[z] at e ⊢;rw[iB] at e;rw[ay];exact e
  rw[ax z];exact kp b u z e
 have Vg:upd H4 sd (.dK (b_ (ps.map (·.1)) f)) lf\.lst (((ps.map (·.1)).filter (j_ hs ts ps f gd gv a b)).map V.str):=by rw[ax ON];exact Hn
 apply#[o,fz,?_];generalize upd H4 sd (.dK (b_ (ps.map (·.1)) f))=H5 at s4 Vg ⊢;apply#[_,Z,_,Z,wa,lf,_,hs,ts,ps,Z,WA.nt (NT.of s4),Vg,λn hn=>(se.mp hn).1,?_,λH6 s6=>k _ (s4.trans s6)];have:=xD (j_ hs ts ps f gd gv a b) (ps.map (·.1));let ic:=Pp.ic;rw[ao] at this;omega
end
end Ev
namespace L2
open PySem
inductive Sg (x:V) (vs:ai) (H:Hp) (Q:VK):Prop
 |mk:∀(l:Addr) (xs:ai) (k:V) (j:Nat),x=.ref l->vs=[k]->H l\.lst xs->qB k=true->xs.all qB=true->(∃y,xs[j]? = some y/\jF y k=true)->(∀i y,i<j->xs[i]? = some y->jF y k=false)->Q .non (upd H l (.lst (xs.eraseIdx j)))->Sg x vs H Q
variable{X:Cx}
theorem SU:DH X "list.remove" Sg:=by
 intro pins s σ H x vs v us Q I rx rv h;let#[l,xs,k,j,rfl,rfl,hH,fk,fx,#[y,hy,ey],no,q]:=h;cases rx;let#[u,rfl,ru]:=rv.one;let#[z,its,n,r,hl,e]:=I.jr hH;let#[hjx,QW]:=cq.mp hy;apply call_meets PySem.F.slot_list_remove ⟨_,e,rfl⟩ PySem.F.entry_list_remove (PySem.F.args_list_remove_2 _ _) (MeetsSeq.list_remove l its.toArray n u (mK k) (λy hy prog w A E s Q hq=>IT (A:=A) (s:=s) ru fk r fx y ⇑hy prog w E Q hq) j (by show j<its.length;omega) ?_ ?_ (by rw[dG];omega)) ⟨e,?_⟩
 ·let#[h2,e2]:=Ip r fx k j Z1;show mK k its[j]=true;rw[e2,QW];exact ey
 ·intro m hm lt;let#[h2,e2]:=Ip r fx k m ⇑hm;show mK k its[m]=false;rw[e2];exact no m _ lt (dB h2)
 apply⟨.non,_,I.yA (its':=its.eraseIdx j) hH e ?_ (r.eraseIdx j) ?_,rfl,q⟩
 ·show its.toArray.eraseIdxIfInBounds j=(its.eraseIdx j).toArray;rw[List.eraseIdxIfInBounds_toArray]
 have:=YY xs j;omega
end L2
namespace Ev
open PySem L2
def bW(hs:Xa)(ps:aC)(f:ag)(a:Str)(l:ae):Str:=l.foldl (λlo x=>if 0<iq hs ps f lo x then x else lo) a
theorem LG{hs:Xa}{ps:aC}{f:ag}:∀{l:ae} {a:Str},bW hs ps f a l=a∨bW hs ps f a l∈l
 |[],a=>.inl Z
 |x::l,a=>by
  have e:bW hs ps f a (x::l)=bW hs ps f (if 0<iq hs ps f a x then x else a) l:=rfl;rw[e];by_cases c:0<iq hs ps f a x
  ·rw[aB c];rcases LG (hs:=hs) (ps:=ps) (f:=f) (l:=l) (a:=x) with h|h
   ·exact .inr (by rw[h];exact cZ)
   exact .inr (dJ _ h)
  rw[au c];rcases LG (hs:=hs) (ps:=ps) (f:=f) (l:=l) (a:=a) with h|h
  ·exact .inl h
  exact .inr (dJ _ h)
variable{a:Str}{l:ae}
theorem Qu{hs:Xa}{ps:aC}{f:ag}:bW hs ps f a (a::l)∈a::l:=by
 rcases LG (hs:=hs) (ps:=ps) (f:=f) (l:=a::l) (a:=a) with h|h
 ·rw[h];exact cZ
 exact h
def gx(hs:Xa)(ps:aC)(f:ag):Nat->ae->ae
 |0,_=>[]
 |_+1,[]=>[]
 |n+1,a::l=>bW hs ps f a (a::l)::gx hs ps f n ((a::l).erase (bW hs ps f a (a::l)))
def fM(hs:Xa)(ts:Xb)(ps:aC)(f:ag)(h:Str):ae:=gx hs ps f (aV (di ts h)).length (aV (di ts h))
theorem X7(hs:Xa)(ps:aC)(f:ag):∀(n:Nat) (l:ae),(gx hs ps f n l).length<=n
 |0,_=>bq _
 |_+1,[]=>gF _
 |n+1,a::l=>Nat.succ_le_succ (X7 hs ps f n _)
theorem V6{hs:Xa}{ps:aC}{f:ag}:∀{n:Nat} {l:ae} {x:Str},x∈gx hs ps f n l->x∈l
 |0,_,_,h=>by cases h
 |_+1,[],_,h=>by cases h
 |n+1,a::l,x,h=>by
  rcases bX.mp h with h|h
  ·rw[h];exact Qu
  exact EZ (V6 h)
theorem Rx:∀{l:ae} {a:Str},a∈l->∃j,l[j]? = some a/\(∀i y,i<j->l[i]? = some y->y≠a)/\l.eraseIdx j=l.erase a
 |b::l,a,h=>by
  by_cases z:b=a
  ·subst z;exact#[0,Z,λi y h=>absurd h (Nat.not_lt_zero _),by simp]
  let#[j,h1,h2,h3]:=Rx (List.mem_of_ne_of_mem (λy=>z y.symm) h);apply#[j+1,h1,λi y hi e=>?_,?_]
  ·cases i with
   |zero=>cases e;exact z
   |succ i=>exact h2 i y Z1 e
  rw[List.eraseIdx_cons_succ,h3,List.erase_cons_tail ⇑z]
theorem Ts{α β:Type}(g:α->β):∀(l:List α) (j:Nat),(l.map g).eraseIdx j=(l.eraseIdx j).map g
 |[],_=>by simp
 |a::l,0=>by simp
 |a::l,j+1=>by simp[Ts g l j]
theorem Mg(x y:Str):jF (.str x) (.str y)=decide (x=y):=by
 show (x == y)=_;by_cases h:x=y
 ·subst h;simp
 simp[h]
def oY(hs:Xa)(ts:Xb)(ps:aC)(f:ag)(gd h:Str):ae->ae->fW
 |_,[]=>[]
 |gv,o::l=>match rP hs ts ps f gd gv h o with
  |some n=>(n,h,o)::oY hs ts ps f gd h (gv++[n]) l
  |none=>oY hs ts ps f gd h gv l
def lJ(hs:Xa)(ts:Xb)(ps:aC)(f:ag)(w0 gd h:Str):fW:=oY hs ts ps f gd h [] (if w0="least" then (fM hs ts ps f h).take 1 else fM hs ts ps f h)
variable{x:Str}
theorem O7{hs:Xa}{ts:Xb}(G:Good hs ts){h:Str}(m:x∈di ts h):x∈hs.map (·.1):=by
 let#[t,ht,m]:=List.mem_flatMap.mp m;unfold yw at m;rcases fR.mp m with m|m
 ·split at m
  ·rw[jw.mp m];exact (G.qZ t ht).2
  cases m
 split at m
 ·rw[jw.mp m];exact (G.qZ t ht).1
 cases m
variable{f0:Addr}{fd:Ad}
section v
abbrev rsN:ae:=[gE,i9,vI,"_law_held_here","_law_left",oT,"_law_lowest",rQ]
theorem Dy:bx rsN Ex (ba Rt):=bH
inductive R_ (K:af) (vs:ai) (H:Hp) (Q:VK) (E:XK):Prop
 |mk:∀(wa sd:Addr) (h:Str) (hs:Xa) (ts:Xb) (ps:aC) (f:ag),vs=[.ref wa,.ref sd,.str h]->oZ K H wa hs ts ps->Pw hs ts ps f->H sd\.dK (b_ (ps.map (·.1)) f)->h∈hs.map (·.1)->(di ts h).length<64->(∀l H',aa H H'->H l=none->H' l\.lst ((fM hs ts ps f h).map V.str)->Q (.ref l) H')->R_ K vs H Q E
theorem ie_(F:bp K "_law_rising" "_law_rising" Rt f0 fd)(B:Bi mg)(cD:!br 1 "_law_drop" mj (Ie K))(cH:!br 1 "_law_held" Ew (EF K)):!aj aZ 2 f0 fd Ex (R_ K):=by
 exists F.bG Dy;let#[wa,sd,h,hs,ts,ps,f,rfl,WA,Pp,iB,hh,wO,k]:=h;let#[ds,dn,lt,dh,dy,ad,gy,W]:=id WA;let hu:=eO hr;let sz:=cc;refine' #[_,?r0,?kk]
 case' r0=>refine' ak ?s1 ?r1
 case' r1=>refine' ak ?s2 ?r2
 case' r2=>refine' ak ?s3 (ak ?s4 (aE ?s5))
 case s1=>exact aO 3 Dy.nd (aX cH hr %[0,1|0])
 case s2=>exact aO 4 Dy.nd (cQ SY (by rfl) B.sorted zh %[bV hu (bV hu (pv 0) cn) (pv 2)|0])
 case s3=>exact aO 5 Dy.nd (cy aJ)
 case' s4=>refine' IJ dM (c_ (Ms (lX hr 0)) (pv 4) (cy aJ)) (ak ?b1 (ak ?b2 (ak ?b3 (aE ?b4))))
 case b1=>exact aO 6 Dy.nd (bM gi (pv 4) aI)
 case b2=>exact eE dM Z (dA (pv 4)) (bN 7 Dy.nd) (aE (bP (c_ sP (aX cD hr %[0,3,6,7|0]) aI) (aE (aO 6 Dy.nd (pv 7))) bQ))
 case b3=>exact gP (gC gO kB kC ki (pv 5) %[6|0])
 case b4=>exact gP (gC gO PySem.F.slot_list_remove PySem.F.type_list_remove SU (pv 4) %[6|0])
 case s5=>exact bo (pv 5)
 apply#[_,Z,_,Z,wa,sd,hs,ts,ps,f,Z,WA,Pp,iB,λdd H1 s1 Ox e1=>?_];lk;let W1:=W.same s1;apply#[_,Z,wa,_,Z,W1.gN,_,Z,dn,_,Z,gJ W1.nr hh,ad h,di ts h,Z,.of (W1.ls h hh),wO,λlx nx=>?_];lk;let#[s2,e2]:=aA (o:=.lst ((aV (di ts h)).map V.str)) nx;generalize upd H1 lx (.lst ((aV (di ts h)).map V.str))=H2 at s2 e2 ⊢;apply#[zl,λlf nf=>?_];lk;let#[s3,e3]:=aA (o:=.lst []) nf;generalize upd H2 lf (.lst [])=H3 at s3 e3 ⊢;have UR:H lx=none:=s1.free nx;have rB:H lf=none:=(s1.trans s2).free nf;have xf:lx≠lf:=bj e2 nf;have hX:∀x∈aV (di ts h),x∈hs.map (·.1):=λx hx=>O7 Pp.Gd ((gM _).mem_iff.mp hx);have DV:(aV (di ts h)).length<64:=by rw[(gM _).length_eq];exact wO
 let Y3:=s3 _ _ e2;let ji:=(s1.trans s2).trans s3;let CZ:=(s2.trans s3) _ _ e1;have ddx:dd≠lx:=bj e1 nx;have ddf:dd≠lf:=bj (s2 _ _ e1) nf;unfold fM at k;generalize aV (di ts h)=L at hX DV k Y3;clear e2 nx nf s1 s2 s3 W1;apply#[λm σ H'=>∃(v6 v7:aF) (left done:ae),σ=[some (.ref wa),some (.ref sd),some (.str h),some (.ref dd),some (.ref lx),some (.ref lf),v6,v7]/\aa H H'/\H' dd\.dK (bB (hs.map (·.1)) λn=>.int (sL ps f n))/\H' lx\.lst (left.map V.str)/\H' lf\.lst (done.map V.str)/\m=left.length/\(∀x∈left,x∈hs.map (·.1))/\left.length+done.length<=64/\done++gx hs ps f left.length left=gx hs ps f L.length L,#[_,none,none,L,[],Z,ji,CZ,Y3,e3,Z,hX,by rw[we];omega,Z],?_];rintro m σ H4 ⟨v6,v7,left,done,rfl,s4,d4,x4,f4,rfl,in4,l4,eq4⟩;apply#[_,Z,zl,λle ne=>?_];let#[s5,e5]:=aA (o:=.lst []) ne;generalize upd H4 le (.lst [])=H5 at s5 e5 ⊢;apply#[lx,le,left.map V.str,Z,Z,.of (s5 _ _ x4),.of e5,_,Z,?_];apply aQ (λc=>?_) (λc=>?_)
 ·cases left with
  |nil=>simp at c
  |cons a l=>
   apply#[λσ H'=>∃(v6 v7:aF) (left done:ae),left.length<(a::l).length/\σ=[some (.ref wa),some (.ref sd),some (.str h),some (.ref dd),some (.ref lx),some (.ref lf),v6,v7]/\aa H H'/\H' dd\.dK (bB (hs.map (·.1)) λn=>.int (sL ps f n))/\H' lx\.lst (left.map V.str)/\H' lf\.lst (done.map V.str)/\(∀x∈left,x∈hs.map (·.1))/\left.length+done.length<=64/\done++gx hs ps f left.length left=gx hs ps f L.length L,λbt H' ⟨v6,v7,left,done,lt,e,q1,q2,q3,q4,q5,q6,q7⟩=>#[left.length,lt,v6,v7,left,done,e,q1,q2,q3,q4,Z,q5,q6,q7],?_];let x5:=s5 _ _ x4;let d5:=s5 _ _ d4;let f5:=s5 _ _ f4;let W5:=W.same (s4.trans s5);apply#[_,Z,lx,_,_,_,Z,Z,.of x5,L2.iX (xs:=(a::l).map V.str) (j:=0) (v:=.str a) Z,?_];lk;apply dg (λσ H'=>∃v7:aF,σ=[some (.ref wa),some (.ref sd),some (.str h),some (.ref dd),some (.ref lx),some (.ref lf),some (.str (bW hs ps f a (a::l))),v7]/\H'=H5) ?m2 ?m1
   case m1=>
    intro N1 hN;apply#[_,Z,lx,Z,#[_,.of x5],fY (K:=K) (a:=lx) (xs:=(a::l).map V.str) (λi σ H'=>∃v7:aF,σ=[some (.ref wa),some (.ref sd),some (.str h),some (.ref dd),some (.ref lx),some (.ref lf),some (.str (bW hs ps f a ((a::l).take i))),v7]/\H'=H5) #[v7,Z,Z] (λi σ H' _ ⟨_,_,z⟩=>z▸.of x5) ?_ ?_]
    ·rintro i x σ H' hx ⟨v7,rfl,rfl⟩;let#[n,hn,rfl]:=i0 hx
     have st:bW hs ps f a ((a::l).take (i+1))=if 0<iq hs ps f (bW hs ps f a ((a::l).take i)) n then n else bW hs ps f a ((a::l).take i):=by
      unfold bW;rw[eZ hn,List.foldl_append];rfl
     have lm:bW hs ps f a ((a::l).take i)∈hs.map (·.1):=by
      rcases LG (hs:=hs) (ps:=ps) (f:=f) (l:=(a::l).take i) (a:=a) with z|z
      ·rw[z];exact in4 a cZ
      exact in4 _ (List.mem_of_mem_take z)
     rw[st];generalize bW hs ps f a ((a::l).take i)=lo at lm ⊢;lk;apply#[_,Z,_,Z,_,Z,_,Z,wa,dd,lo,n,hs,ts,ps,f,Z,#[ds,dn,lt,dh,dy,ad,gy,W5],Pp,d5,lm,in4 n (cj hn),_,_,Z,Z,_,Z,?_];apply aQ (λc=>?_) (λc=>?_)
     ·have c:0<iq hs ps f lo n:=⇑c
      rw[aB c];exact#[_,Z,_,Z,Z]
     have c:¬0<iq hs ps f lo n:=⇑c
     rw[au c];exact#[_,Z,Z]
    rintro σ H' ⟨v7,rfl,rfl⟩;rw[ao,dz];exact hN _ _ #[_,Z,Z]
   rintro σ H6 ⟨v7,rfl,rfl⟩;let lm:=Qu (hs:=hs) (ps:=ps) (f:=f) (a:=a) (l:=l);generalize elo:bW hs ps f a (a::l)=lo at lm ⊢;rw[iG] at l4;apply#[_,Z,.inl #[Z,_,.of f5],_,Z,lf,_,_,Z,Z,f5,by rw[ao];omega,?_];have x6:upd H6 lf (.lst (done.map V.str++[.str lo])) lx\.lst ((a::l).map V.str):=by rw[ax xf];exact x5
   let#[j,j1,j2,j3]:=Rx lm;have Ll:((a::l).erase lo).length=l.length:=by rw[List.length_erase_of_mem lm];rfl
   apply#[_,Z,.inl #[Z,_,.of x6],_,Z,lx,_,_,j,Z,Z,x6,Z,?_,#[.str lo,by rw[dR,j1];rfl,by rw[Mg];simp],λi y hi e=>?_,?_]
   ·rw[List.all_eq_true];intro v hv;let#[_,_,rfl]:=bh.mp hv;rfl
   ·rw[dR,DB] at e;let#[x,hx,rfl]:=e;rw[Mg];simpa using j2 i x hi hx
   apply#[_,_,(a::l).erase lo,done++[lo],by rw[Ll,iG];omega,Z,λb u e=>?_,?_,?_,?_,λx hx=>in4 x (EZ hx),by rw[Ll,eA,Dp];omega,?_]
   ·rw[ax (bj e UR),ax (bj e rB)];exact s5 _ _ (s4 _ _ e)
   ·rw[ax ddx,ax ddf];exact d5
   ·rw[ay,Ts,j3]
   ·rw[ax xf.symm,ay,bY];rfl
   rw[Ll,<- eq4,xA];show done++(lo::gx hs ps f l.length ((a::l).erase lo))=done++(bW hs ps f a (a::l)::gx hs ps f l.length ((a::l).erase (bW hs ps f a (a::l))));rw[elo]
 have z:left=[]:=by
  cases left with
  |nil=>rfl
  |cons a l=>simp at c
 subst z;apply#[_,Z,k lf _ (s4.trans s5) rB ?_];rw[<- eq4,s5 _ _ f4];show _\HO.lst ((done++[]).map V.str);rw[hG]
end
variable{o:Str}{gv:ae}
theorem M3{hs:Xa}{ts:Xb}{ps:aC}{f:ag}{gd h:Str}(e:rP hs ts ps f gd gv h o=none):oY hs ts ps f gd h gv (o::l)=oY hs ts ps f gd h gv l:=by
 rw[oY,e]
variable{n:Str}
theorem Td{hs:Xa}{ts:Xb}{ps:aC}{f:ag}{gd h:Str}(e:rP hs ts ps f gd gv h o\n):oY hs ts ps f gd h gv (o::l)=(n,h,o)::oY hs ts ps f gd h (gv++[n]) l:=by
 rw[oY,e]
theorem jz_(hs:Xa)(ts:Xb)(ps:aC)(f:ag)(h:Str):(fM hs ts ps f h).length<=(di ts h).length:=by
 have:=X7 hs ps f (aV (di ts h)).length (aV (di ts h));rw[(gM _).length_eq] at this;unfold fM;rw[(gM _).length_eq];exact this
theorem QN{hs:Xa}{ts:Xb}{ps:aC}{f:ag}(G:Good hs ts){h:Str}(m:x∈fM hs ts ps f h):x∈hs.map (·.1):=O7 G ((gM _).mem_iff.mp (V6 m))
section v
abbrev blN:ae:=[gE,i9,vI,"_law_words",oT,"_law_given","_law_some",lY,qA]
theorem C_:bx blN wx (ba oH):=bH
inductive RA (K:af) (vs:ai) (H:Hp) (Q:VK) (E:XK):Prop
 |mk:∀(wa sd lw:Addr) (h w0 w1 gd:Str) (hs:Xa) (ts:Xb) (ps:aC) (f:ag),vs=[.ref wa,.ref sd,.str h,.ref lw]->oZ K H wa hs ts ps->Pw hs ts ps f->H sd\.dK (b_ (ps.map (·.1)) f)->h∈hs.map (·.1)->(di ts h).length<64->H lw\.lst [.str w0,.str w1,.str gd]->gd∈(me:ae)->(∀l ys H',aa H H'->H l=none->H' l\.lst ys->bg K H' ys ((lJ hs ts ps f w0 gd h).map kM)->Q (.ref l) H')->RA K vs H Q E
theorem jC_(F:bp K "_law_by_low" "_law_by_low" oH f0 fd)(cR:!br 2 "_law_rising" Ex (R_ K))(cB:!br 2 "_law_best" qV (LR K)):!aj aZ 3 f0 fd wx (RA K):=by
 exists F.bG C_;let#[wa,sd,lw,h,w0,w1,gd,hs,ts,ps,f,rfl,WA,Pp,iB,hh,wO,Wx,Cp,k]:=h;let hu:=eO hr;let sz:=cc;refine' #[_,?r0,?kk]
 case' r0=>refine' ak ?s1 ?r1
 case' r1=>refine' ak ?s2 ?r2
 case' r2=>refine' ak ?s3 ?r3
 case' r3=>refine' ak ?s4 (ak ?s5 (aE ?s6))
 case s1=>exact aO 4 C_.nd (cy aJ)
 case s2=>exact aO 5 C_.nd (cy aJ)
 case s3=>exact aO 6 C_.nd (aX cR hr %[0,1,2|0])
 case s4=>exact bP (c_ iF (bM gi (pv 3) aI) cn) (aE (aO 6 C_.nd (xq A2 (pv 6) xo (xn aI)))) bQ
 case' s5=>refine' eE dM Z (dA (pv 6)) (bN 7 C_.nd) (ak ?b1 (aE (bP (c_ Xp (pv 8) C4) (ak ?b2 (aE ?b3)) bQ)))
 case b1=>exact aO 8 C_.nd (aX cB hr %[0,1,eW %[2,7|0],bM gi (pv 3) aI,5|0])
 case b2=>exact gP (gC gO kB kC ki (pv 5) %[8|0])
 case b3=>exact gP (gC gO kB kC ki (pv 4) %[eW %[8,2,7|0]|0])
 case s6=>exact bo (pv 4)
 apply#[zl,λlf nf=>?_];lk;let#[s1,f1]:=aA (o:=.lst []) nf;generalize upd H lf (.lst [])=H1 at s1 f1 ⊢;apply#[zl,λlg ng=>?_];lk;let#[s2,g2]:=aA (o:=.lst []) ng;generalize upd H1 lg (.lst [])=H2 at s2 g2 ⊢;let f2:=s2 _ _ f1;have fg:lf≠lg:=bj f1 ng;have ng0:H lg=none:=s1.free ng;let hW:=s1.trans s2;apply#[_,Z,_,Z,_,Z,wa,sd,h,hs,ts,ps,f,Z,WA.nt (NT.of hW),Pp,hW _ _ iB,hh,wO,λlr H3 s3 nr r3=>?_];lk;let ji:=hW.trans s3;let rl:=jz_ hs ts ps f h;have ri:∀x∈fM hs ts ps f h,x∈hs.map (·.1):=λx hx=>QN Pp.Gd hx
 let Jz:bZ:=λσ H'=>∃(l6:Addr) (L:ae),σ=[some (.ref wa),some (.ref sd),some (.str h),some (.ref lw),some (.ref lf),some (.ref lg),some (.ref l6),none,none]/\aa H3 H'/\H2 l6=none/\H' l6\.lst (L.map V.str)/\L.length<64/\(∀x∈L,x∈hs.map (·.1))/\lJ hs ts ps f w0 gd h=oY hs ts ps f gd h [] L
 apply dg Jz ?m2 ?m1
 case m1=>
  intro N1 hN;apply#[_,Z,lw,_,_,_,Z,Z,.of (ji _ _ Wx),L2.iX (xs:=[V.str w0,.str w1,.str gd]) (j:=0) (v:=.str w0) Z,Z,_,Z,?_];apply aQ (λc=>?_) (λc=>?_)
  ·have c:w0="least":=⇑c
   apply#[_,Z,_,Z,lr,_,Z,.of r3,λlq nq=>?_];rw[show gB ((fM hs ts ps f h).map V.str) none (some 1)=((fM hs ts ps f h).map V.str).take 1 from Dn _ 1,<- List.map_take];apply hN _ _ #[lq,(fM hs ts ps f h).take 1,Z,aa.new nq,s3.free nq,ay,by rw[cX];omega,λx hx=>ri x (List.mem_of_mem_take hx),?_];unfold lJ;rw[aB c]
  have c:¬w0="least":=⇑c
  apply hN _ _ #[lr,fM hs ts ps f h,Z,aa.refl _,nr,r3,by omega,ri,?_];unfold lJ;rw[au c]
 rintro σ H4 ⟨l6,L,rfl,s4,n6,e6,DV,li,Ih⟩;rw[Ih] at k;clear Ih;let jC:=ji.trans s4;let f4:=s4 _ _ (s3 _ _ f2);let g4:=s4 _ _ (s3 _ _ g2);have f6:l6≠lf:=(bj f2 n6).symm;have g6:l6≠lg:=(bj g2 n6).symm
 let Jy:bI:=λi σ H'=>∃(v7 v8:aF) (gv:ae) (done:fW) (ys:ai),σ=[some (.ref wa),some (.ref sd),some (.str h),some (.ref lw),some (.ref lf),some (.ref lg),some (.ref l6),v7,v8]/\aa H H'/\H' l6\.lst (L.map V.str)/\H' lg\.lst (gv.map V.str)/\H' lf\.lst ys/\bg K H' ys (done.map kM)/\gv.length<=i/\done.length<=i/\done++oY hs ts ps f gd h gv (L.drop i)=oY hs ts ps f gd h [] L
 apply#[_,Z,l6,Z,#[_,.of e6],fY (K:=K) (a:=l6) (xs:=L.map V.str) Jy #[none,none,[],[],[],Z,jC,e6,g4,f4,.nil,bq _,bq _,Z] (λi σ H' _ ⟨_,_,_,_,_,_,_,z,_⟩=>.of z) ?_ ?_]
 ·rintro i x σ H5 hx ⟨v7,v8,gv,done,ys,rfl,s5,e5,g5,f5,t5,lgv,ldn,eq5⟩;let#[o,ho,rfl]:=i0 hx;have hi:i<L.length:=(cq.mp ho).1
  have dr:L.drop i=o::L.drop (i+1):=by
   let#[h1,h2]:=cq.mp ho;rw[List.drop_eq_getElem_cons h1,h2]
  rw[dr] at eq5;let ly:=bK t5;rw[ao] at ly;lk;apply#[_,Z,_,Z,_,Z,_,Z,zl,λt nt=>?_];let#[s6,e7]:=aA (o:=.tup [.str h,.str o]) nt;generalize upd H5 t (.tup [.str h,.str o])=H6 at s6 e7 ⊢;let N_:=s5.trans s6;apply#[_,Z,lw,_,_,_,Z,Z,.of (N_ _ _ Wx),L2.iX (xs:=[V.str w0,.str w1,.str gd]) (j:=2) (v:=.str gd) Z,?_];apply#[_,Z,wa,sd,t,lg,h,o,gd,gv,hs,ts,ps,f,Z,WA.nt (NT.of N_),Pp,N_ _ _ iB,e7,hh,li o (cj ho),Cp,s6 _ _ g5,λH7 s7=>?_];lk;let lC:=s6.trans s7;let UF:=s5.trans lC;apply#[_,Z,Z,_,Z,?_];cases eb:rP hs ts ps f gd gv h o with
  |none=>
   rw[M3 eb] at eq5;apply aQ (λc=>by simp[fN] at c) (λc=>?_);exact#[_,_,gv,done,ys,Z,UF,lC _ _ e5,lC _ _ g5,lC _ _ f5,t5.same lC,by omega,by omega,eq5]
  |some n=>
   rw[Td eb] at eq5;apply aQ (λc=>?_) (λc=>by simp[fN] at c);rw[show fN (some n)=V.str n from Z];let g7:=lC _ _ g5;apply#[_,Z,.inl #[Z,_,.of g7],_,Z,lg,_,_,Z,Z,g7,by rw[ao];omega,?_];have f8:upd H7 lg (.lst (gv.map V.str++[.str n])) lf\.lst ys:=by rw[ax fg];exact lC _ _ f5
   have g8:upd H7 lg (.lst (gv.map V.str++[.str n])) lg\.lst ((gv++[n]).map V.str):=by rw[ay,bY];rfl
   have e8:upd H7 lg (.lst (gv.map V.str++[.str n])) l6\.lst (L.map V.str):=by rw[ax g6];exact lC _ _ e5
   have s8:aa H (upd H7 lg (.lst (gv.map V.str++[.str n]))):=fF UF ng0;have t8:bg K (upd H7 lg (.lst (gv.map V.str++[.str n]))) ys (done.map kM):=jb (t5.same lC) g7;generalize upd H7 lg (.lst (gv.map V.str++[.str n]))=H8 at f8 g8 e8 s8 t8 ⊢;apply#[_,Z,.inl #[Z,_,.of f8],_,Z,_,Z,_,Z,zl,λt2 yo=>?_];let s9:=aa.new (o:=.tup [.str n,.str h,.str o]) yo;have e9:upd H8 t2 (.tup [.str n,.str h,.str o]) t2\.tup ((kM (n,h,o)).map kV):=ay;generalize upd H8 t2 (.tup [.str n,.str h,.str o])=H9 at s9 e9 ⊢;let f9:=s9 _ _ f8;apply#[lf,_,_,Z,Z,f9,by omega,?_];apply#[_,_,gv++[n],done++[(n,h,o)],ys++[.ref t2],Z,fF (s8.trans s9) nf,by rw[ax f6];exact s9 _ _ e8,by rw[ax fg.symm];exact s9 _ _ g8,ay,?_,by rw[eA,Dp];omega,by rw[eA,Dp];omega,?_]
   ·rw[bY];exact jb (vX (t8.same s9) e9) f9
   rw[xA];exact eq5
 rintro σ H5 ⟨v7,v8,gv,done,ys,rfl,s5,e5,g5,f5,t5,_,_,eq5⟩;rw[ao,List.drop_length] at eq5;apply#[_,Z,k lf ys H5 s5 nf f5 ?_];rw[<- eq5];show bg K H5 ys ((done++[]).map kM);rw[hG];exact t5
end
variable{h:Str}
theorem Mr{t:Str × Str}:x∈yw h t ↔ t=(h,x)∨t=(x,h):=by
 let#[a,b]:=t;unfold yw;rw[fR];constructor
 ·rintro (m|m)
  ·split at m
   ·rename_i z
    have z:a=h:=z;exact .inl (by rw[jw.mp m,z])
   cases m
  split at m
  ·rename_i z
   have z:b=h:=z;exact .inr (by rw[jw.mp m,z])
  cases m
 rintro (e|e)
 ·let#[rfl,rfl]:=Prod.mk.inj e;exact .inl (by rw[aB Z];exact jw.mpr Z)
 let#[rfl,rfl]:=Prod.mk.inj e;exact .inr (by rw[aB Z];exact jw.mpr Z)
variable{ts:Xb}
theorem qh:x∈di ts h ↔ (h,x)∈ts∨(x,h)∈ts:=by
 unfold di;rw[List.mem_flatMap];constructor
 ·rintro⟨t,ht,m⟩;rcases Mr.mp m with rfl|rfl
  ·exact .inl ht
  exact .inr ht
 rintro (m|m)
 ·exact#[_,m,Mr.mpr (.inl Z)]
 exact#[_,m,Mr.mpr (.inr Z)]
theorem Vt{h:Str}:∀{ts:Xb},(∀t∈ts,t.1≠t.2)->(ts.map kO).Nodup->(di ts h).Nodup
 |[],_,_=>List.nodup_nil
 |t::ts,ne,nd=>by
  rw[eJ,r_] at nd;let ih:=Vt (h:=h) (λu hu=>ne u (dJ _ hu)) nd.2;let nt:=ne t cZ;show (yw h t++di ts h).Nodup;rw[List.nodup_append];apply#[?_,ih,λa ha b hb e=>?_]
  ·unfold yw;by_cases z1:t.1=h
   ·rw[aB z1,au (λz=>nt (z1.trans z.symm)),hG];simp
   rw[au z1,List.nil_append];split
   ·simp
   exact List.nodup_nil
  subst e;apply nd.1 ?_;rcases Mr.mp ha with rfl|rfl<;>rcases qh.mp hb with m|m
  ·exact bh.mpr #[_,m,Z]
  ·exact bh.mpr #[_,m,Qy _ _]
  ·exact bh.mpr #[_,m,Qy _ _]
  exact bh.mpr #[_,m,Z]
variable{hs:Xa}
theorem VB(G:Good hs ts):x∈nb hs ts h ↔ x∈di ts h:=by
 show x∈(aD hs).filter _ ↔ _;rw[se,mO,MQ,qh];constructor
 ·rintro⟨_,⟨a,b⟩,ht,e⟩;rcases O0 (a:=a) (b:=b) (c:=h) (d:=x) (by show kT (aL a b)=kT (aL h x);rw[<- e]) with⟨rfl,rfl⟩|⟨rfl,rfl⟩
  ·exact .inl ht
  exact .inr ht
 rintro (m|m)
 ·exact#[(fG hs).mem_iff.mpr (G.qZ _ m).2,_,m,Z]
 exact#[(fG hs).mem_iff.mpr (G.qZ _ m).1,_,m,Mz _ _]
theorem Mh(G:Good hs ts)(h:Str):aV (di ts h)=nb hs ts h:=by
 apply (Zj ?_ ((We hs).filter _) (MB _)).symm;apply ((List.perm_ext_iff_of_nodup (G.sE.filter _) (Vt (λt ht=>(G.tok t ht).2.2) G.Bh)).mpr λx=>?_).trans (gM _).symm;exact VB G
variable{ps qs:aC}{f:ag}
theorem Il(W:Pw hs ts ps f)(Q:Qs ps qs)(n:Str):sL ps f n=lo qs f n:=(lE_ f (Q.ws W.nd) n).symm
theorem QC(W:Pw hs ts ps f)(Q:Qs ps qs)(a b:Str):iq hs ps f a b=lW hs qs f a b:=by
 unfold iq lW;rw[Il W Q,Il W Q]
theorem iX_(G:Good hs ts):0<i8 hs:=zg λn hn=>by
 let#[m,hm,rfl]:=bh.mp hn;have:=bJ G hm;omega
theorem Vw(G:Good hs ts)(h:n∈hs.map (·.1)):i8 hs / strOf hs n * strOf hs n=i8 hs:=by
 apply Int.ediv_mul_cancel (Mq (λm hm=>?_) (bh.mpr #[n,(fG hs).mem_iff.mpr h,Z]));let#[k,hk,rfl]:=bh.mp hm;have:=bJ G hk;omega
theorem ve(a b:Int):a<b∨b<=a:=by omega
theorem IL{ha hb sa sb A B M:Int}(hM:0<M)(hA:A * sa=M)(hB:B * sb=M)(sa0:0<sa)(sb0:0<sb):0<ha * sb - hb * sa ↔ hb * B<ha * A:=by
 have A0:0<A:=by
  rcases ve 0 A with h|h
  ·exact h
  have:=MG h (i5 sa0);omega
 have B0:0<B:=by
  rcases ve 0 B with h|h
  ·exact h
  have:=MG h (i5 sb0);omega
 have e:(ha * A - hb * B) * M=(ha * sb - hb * sa) * (A * B):=by
  have e1:ha * A * M=ha * sb * (A * B):=by rw[<- hB];simp only[Int.mul_assoc,Int.mul_comm,Int.mul_left_comm]
  have e2:hb * B * M=hb * sa * (A * B):=by rw[<- hA];simp only[Int.mul_assoc,Int.mul_comm,Int.mul_left_comm]
  rw[Int.sub_mul,Int.sub_mul,e1,e2]
 let AB:=Int.mul_pos A0 B0;constructor
 ·intro h;let h1:=Int.mul_pos h AB;rw[<- e] at h1;rcases ve 0 (ha * A - hb * B) with h2|h2
  ·omega
  have:=MG h2 (i5 hM);omega
 intro h;let h1:=Int.mul_pos (show 0<ha * A - hb * B by omega) hM;rw[e] at h1;rcases ve 0 (ha * sb - hb * sa) with h2|h2
 ·exact h2
 have:=MG h2 (i5 AB);omega
variable{b:Str}
theorem ky_(W:Pw hs ts ps f)(Q:Qs ps qs)(ha:a∈hs.map (·.1))(hb:b∈hs.map (·.1)):0<iq hs ps f a b ↔ oM hs qs f b<oM hs qs f a:=by
 let s1:=W.bJ ha;let s2:=W.bJ hb;unfold iq oM;rw[Il W Q,Il W Q];exact IL (iX_ W.Gd) (Vw W.Gd ha) (Vw W.Gd hb) Z1 Z1
theorem OP(x y:Int)(a b:Str):bD [.inl x,.inr a] [.inl y,.inr b]=if x=y then gX a b else decide (x<y):=by
 by_cases h:x=y
 ·subst h;rw[aB Z];show (if (Sum.inl x:Key)=Sum.inl x then (if (Sum.inr a:Key)=Sum.inr b then false else gX a b) else _)=_;rw[aB Z];by_cases z:a=b
  ·subst z;rw[aB Z,QD]
  rw[au λe=>z (ik e)]
 rw[au h];show (if (Sum.inl x:Key)=Sum.inl y then _ else jW (Sum.inl x) (Sum.inl y))=_;rw[au λe=>h (Sum.inl.inj e)];rfl
theorem LD{x y:Int}(h:y<x∨(y<=x/\gX a b=false)):bD [.inl x,.inr a] [.inl y,.inr b]=false:=by
 rw[OP];by_cases z:x=y
 ·rw[aB z];rcases h with h|h
  ·omega
  exact h.2
 rw[au z];exact dU Z1
theorem QO(W:Pw hs ts ps f)(Q:Qs ps qs):∀{l:ae} {a:Str},gG (a::l)->(∀x∈a::l,x∈hs.map (·.1))->∀x∈a::l,bD (kR hs qs f x) (kR hs qs f (bW hs ps f a l))=false
 |[],a,_,_,x,hx=>by
  rw[jw.mp hx];exact EU _
 |y::l,a,as,hX,x,hx=>by
  have e:bW hs ps f a (y::l)=bW hs ps f (if 0<iq hs ps f a y then y else a) l:=rfl;rw[e];have iy:(∀z∈y::l,gX z a=false)/\gG (y::l):=wc.mp as;have TJ:(∀z∈l,gX z y=false)/\gG l:=wc.mp iy.2;let iff:=ky_ W Q (hX a cZ) (hX y Z2);by_cases c:0<iq hs ps f a y
  ·rw[aB c];let ih:=QO W Q iy.2 λz hz=>hX z (dJ _ hz);rcases bX.mp hx with rfl|hx
   ·exact EX (ih y cZ) (LD (.inl (iff.mp c)))
   exact ih x hx
  rw[au c]
  let ih:=QO W Q (l:=l) (a:=a) (wc.mpr #[λz hz=>iy.1 z (dJ _ hz),TJ.2]) λz hz=>by
   rcases bX.mp hz with rfl|hz
   ·exact hX _ cZ
   exact hX z (by simp[hz])
  rcases bX.mp hx with rfl|hx
  ·exact ih x cZ
  rcases bX.mp hx with rfl|hx
  ·apply EX (ih a cZ) (LD (.inr #[?_,iy.1 x cZ]));rcases ve (oM hs qs f x) (oM hs qs f a) with h|h
   ·exact absurd (iff.mpr h) c
   exact h
  exact ih x (dJ _ hx)
theorem j6_(a:Str)(l:ae):bW hs ps f a (a::l)=bW hs ps f a l:=by
 have e:bW hs ps f a (a::l)=bW hs ps f (if 0<iq hs ps f a a then a else a) l:=rfl;rw[e];split<;>rfl
theorem Zu(W:Pw hs ts ps f)(Q:Qs ps qs):∀(n:Nat) (l:ae),l.length=n->gG l->(∀x∈l,x∈hs.map (·.1))->(gx hs ps f n l).Perm l/\pF ((gx hs ps f n l).map (kR hs qs f))
 |0,l,e,_,_=>by
  rw[A6.mp e];exact#[.refl _,.nil]
 |n+1,[],e,_,_=>by cases e
 |n+1,a::l,e,as,hX=>by
  let lm:=Qu (hs:=hs) (ps:=ps) (f:=f) (a:=a) (l:=l)
  have mn:∀x∈a::l,bD (kR hs qs f x) (kR hs qs f (bW hs ps f a (a::l)))=false:=by
   rw[j6_];exact QO W Q as hX
  show (bW hs ps f a (a::l)::gx hs ps f n ((a::l).erase (bW hs ps f a (a::l)))).Perm (a::l)/\pF ((bW hs ps f a (a::l)::gx hs ps f n ((a::l).erase (bW hs ps f a (a::l)))).map (kR hs qs f));generalize bW hs ps f a (a::l)=lo at lm mn ⊢;let ih:=Zu W Q n ((a::l).erase lo) (by rw[List.length_erase_of_mem lm];exact Nat.succ.inj e) (as.sublist List.erase_sublist) λx hx=>hX x (EZ hx);apply#[(ih.1.cons lo).trans (List.perm_cons_erase lm).symm,?_];rw[eJ];apply wc.mpr #[λk hk=>?_,ih.2];let#[x,hx,rfl]:=bh.mp hk;exact mn x (EZ (ih.1.mem_iff.mp hx))
theorem VL(W:Pw hs ts ps f)(Q:Qs ps qs)(h:Str):fM hs ts ps f h=dO hs ts qs f h:=by
 let s:=Zu W Q (aV (di ts h)).length (aV (di ts h)) Z (MB _) λx hx=>O7 W.Gd ((gM _).mem_iff.mp hx);let e:=Mw ((s.1.map (kR hs qs f)).trans (by rw[Mh W.Gd])) s.2;unfold fM dO;rw[<- e,cm];exact (List.map_id' _).symm
theorem U3(Q:Qs ps qs)(h:n∈ps.map (·.1)):∃p∈ps,p.1=n/\yq p∈qs:=by
 have m:n∈qs.map (·.1):=by
  rw[Q.sF];exact (gM _).mem_iff.mpr h
 let#[q,hq,rfl]:=bh.mp m;let#[p,hp,e]:=Q.mem q hq;exact#[p,hp,by rw[e];rfl,by rw[<- e];exact hq]
theorem tj(W:Pw hs ts ps f)(Q:Qs ps qs)(h:n∈ps.map (·.1)):eI qs n=eI ps n:=by
 let#[p,hp,rfl,hq]:=U3 Q h;rw[yU W.nd hp];exact yU (q:=yq p) (Q.nd W.nd) hq
theorem Nd(W:Pw hs ts ps f)(Q:Qs ps qs)(h:n∈ps.map (·.1)):Bd qs n=(Bd ps n).map aK:=by
 let#[p,hp,rfl,hq]:=U3 Q h;rw[HQ W.nd hp];exact HQ (q:=yq p) (Q.nd W.nd) hq
theorem xN{ws:Xb}:aL a b∈aK ws ↔ (a,b)∈ws∨(b,a)∈ws:=by
 rw[MQ];constructor
 ·rintro⟨⟨x,y⟩,ht,e⟩;rcases O0 (a:=x) (b:=y) (c:=a) (d:=b) (by show kT (aL x y)=kT (aL a b);rw[<- e]) with⟨rfl,rfl⟩|⟨rfl,rfl⟩
  ·exact .inl ht
  exact .inr ht
 rintro (m|m)
 ·exact#[_,m,Z]
 exact#[_,m,Mz _ _]
theorem VP(W:Pw hs ts ps f)(Q:Qs ps qs)(h:n∈ps.map (·.1))(ha:a∈hs.map (·.1))(hb:b∈hs.map (·.1)):fO ts ps n a b=jU hs ts qs n a b:=by
 unfold fO jU Cy;rw[M4,cw ha,cw hb,Bool.true_and,Bool.true_and,Nd W Q h,decide_eq_decide.mpr (VB W.Gd)];congr 1;cases Bd ps n with
 |none=>rfl
 |some ws=>
  show (decide ((a,b)∈ws) || decide ((b,a)∈ws))=decide (aL a b∈aK ws);rw[Bool.eq_iff_iff,Bool.or_eq_true,mO,mO,mO];exact xN.symm
variable{gd:Str}
theorem Vp(W:Pw hs ts ps f)(Q:Qs ps qs)(h:n∈ps.map (·.1))(ha:a∈hs.map (·.1))(hb:b∈hs.map (·.1)):j_ hs ts ps f gd gv a b n=(decide (f n=a)&&qp hs ts qs f gd gv a b n):=by
 unfold j_ qp kD;rw[VP W Q h ha hb,QC W Q,tj W Q h,Int.mul_comm,Bool.and_comm (jU hs ts qs n a b)]
theorem QZ{R:Str->Bool}{k:Str->aM}{n:Str}:∀{l:ae},pF (l.map k)->l.find? R\n->∀m∈l,R m=true->bD (k m) (k n)=false
 |x::l,as,e,m,hm,r=>by
  rw[eJ] at as;have iy:(∀z∈l.map k,bD z (k x)=false)/\pF (l.map k):=wc.mp as;cases c:R x with
  |true=>
   rw[List.find?_cons_of_pos c] at e;cases e;rcases bX.mp hm with rfl|hm
   ·exact EU _
   ·exact iy.1 _ (bh.mpr #[m,hm,Z])
  |false=>
   rw[List.find?_cons_of_neg (by rw[c];exact hJ)] at e;rcases bX.mp hm with rfl|hm
   ·rw[c] at r;cases r
   exact QZ iy.2 e m hm r
theorem VY(qs:aC):pF ((js qs).map (kN qs)):=by
 unfold js;rw[cm]
 have e:∀k∈aU ((qs.map (·.1)).map (kN qs)),(kN qs ∘ gU) k=id k:=λk hk=>by
  let#[n,_,rfl]:=bh.mp ((mV _).mem_iff.mp hk);rfl
 rw[qH e,List.map_id];exact MT _
theorem vz:∀(l:ae) (a:Str),gG (a::l)->∃m,l.foldl (d8 ps) (some a)\m/\m∈a::l/\∀x∈a::l,bD (kN ps x) (kN ps m)=false
 |[],a,_=>#[a,Z,cZ,λx hx=>by rw[jw.mp hx];exact EU _]
 |y::l,a,as=>by
  have iy:(∀z∈y::l,gX z a=false)/\gG (y::l):=wc.mp as;have TJ:(∀z∈l,gX z y=false)/\gG l:=wc.mp iy.2;have e:(y::l).foldl (d8 ps) (some a)=l.foldl (d8 ps) (if eI ps a<eI ps y then some y else some a):=rfl;rw[e];by_cases c:eI ps a<eI ps y
  ·rw[aB c];let#[m,e,hm,mn]:=vz l y iy.2;apply#[m,e,dJ _ hm,λx hx=>?_];rcases bX.mp hx with rfl|hx
   ·exact EX (mn y cZ) (LD (.inl Z1))
   exact mn x hx
  rw[au c];let#[m,e,hm,mn]:=vz l a (wc.mpr #[λz hz=>iy.1 z (dJ _ hz),TJ.2]);apply#[m,e,?_,λx hx=>?_]
  ·rcases bX.mp hm with rfl|hm
   ·exact cZ
   simp[hm]
  rcases bX.mp hx with rfl|hx
  ·exact mn x cZ
  rcases bX.mp hx with rfl|hx
  ·exact EX (mn a cZ) (LD (.inr #[by omega,iy.1 x cZ]))
  exact mn x (dJ _ hx)
theorem Sb(ps:aC)(S:ae):(S=[]/\rG ps S=none)∨∃m,rG ps S\m/\m∈S/\∀x∈S,bD (kN ps x) (kN ps m)=false:=by
 let p:=gM S;let as:=MB S;unfold rG;generalize aV S=T at p as;cases T with
 |nil=>exact .inl #[List.nil_perm.mp p,Z]
 |cons a l=>
  let#[m,e,hm,mn]:=vz (ps:=ps) l a as;exact .inr #[m,e,p.mem_iff.mp hm,λx hx=>mn x (p.mem_iff.mpr hx)]
theorem Qt(W:Pw hs ts ps f)(Q:Qs ps qs)(ha:a∈hs.map (·.1))(hb:b∈hs.map (·.1)):rP hs ts ps f gd gv a b=(bO qs f a).find? (qp hs ts qs f gd gv a b):=by
 have nm:∀{n:Str},n∈js qs ↔ n∈ps.map (·.1):=λ{n}=>by
  rw[(Du qs).mem_iff,Q.sF,(gM _).mem_iff]
 have kq:∀{n:Str},n∈ps.map (·.1)->kN qs n=kN ps n:=λ{n} h=>by
  unfold kN;rw[tj W Q h]
 unfold rP bO;rw[List.find?_filter]
 have sm:∀n,n∈(ps.map (·.1)).filter (j_ hs ts ps f gd gv a b) ↔ n∈js qs/\(decide (f n=a)&&qp hs ts qs f gd gv a b n)=true:=λn=>by
  rw[se,nm];constructor
  ·rintro⟨h1,h2⟩;exact#[h1,by rw[<- Vp W Q h1 ha hb];exact h2]
  rintro⟨h1,h2⟩;exact#[h1,by rw[Vp W Q h1 ha hb];exact h2]
 rcases Sb ps ((ps.map (·.1)).filter (j_ hs ts ps f gd gv a b)) with⟨e,h⟩|⟨m,h,hm,mn⟩
 ·rw[h];symm;rw[AY];intro x hx r;have:=(sm x).mpr #[hx,by simpa using r];rw[e] at this;cases this
 rw[h];let#[m1,m2]:=(sm m).mp hm;cases e:(js qs).find? λx=>decide ((decide (f x=a))=true/\qp hs ts qs f gd gv a b x=true) with
 |none=>
  have:=AY.mp e m m1;exact absurd ⇑m2 this
 |some n=>
  let n1:=List.mem_of_find?_eq_some e;let n2:=List.find?_some e;let nS:=(sm n).mpr #[n1,by simpa using n2];let h1:=mn n nS;let h2:=QZ (VY qs) e m m1 ⇑m2;rw[kq (nm.mp m1),kq (nm.mp n1)] at h2;have:=IP h1 h2;have:gU (kN ps n)=gU (kN ps m):=by rw[this]
  exact dQ some this.symm
theorem mb_(W:Pw hs ts ps f)(Q:Qs ps qs)(hh:h∈hs.map (·.1)):lJ hs ts ps f "least" gd h=zo hs ts qs f gd h:=by
 have hX:∀x∈fM hs ts ps f h,x∈hs.map (·.1):=λx hx=>QN W.Gd hx;unfold lJ zo;rw[aB Z,<- VL W Q];cases e:fM hs ts ps f h with
 |nil=>rfl
 |cons o l=>
  rw[e] at hX;show oY hs ts ps f gd h [] [o]=iC hs ts qs f gd [] h o;unfold iC;rw[<- Qt W Q hh (hX o cZ)];cases eb:rP hs ts ps f gd [] h o with
  |none=>rw[M3 eb];rfl
  |some n=>rw[Td eb];rfl
theorem lo_{a b:Int}(h:j5 gd a b=true)(hb:1<=b):0<a:=by
 unfold j5 at h;split at h
 ·exact l_ h
 split at h
 ·have:=l_ h;omega
 have:=l_ h;omega
theorem hj_(W:Pw hs ts ps f)(ha:a∈hs.map (·.1))(hb:b∈hs.map (·.1))(h:¬0<iq hs ps f a b):rP hs ts ps f gd gv a b=none:=by
 unfold rP
 have e:(ps.map (·.1)).filter (j_ hs ts ps f gd gv a b)=[]:=by
  rw[List.filter_eq_nil_iff];intro n hn r;unfold j_ at r;simp only[xI] at r;apply h (lo_ r.2.2.2 ?_);let h1:=W.wt hn;let h2:=W.bJ ha;let h3:=W.bJ hb;have:=Int.mul_le_mul (show (1:Int)<=strOf hs a+strOf hs b by omega) h1.1 (by decide) Z1;omega
 rw[e];rcases Sb ps [] with⟨_,e⟩|⟨m,_,hm,_⟩
 ·exact e
 cases hm
theorem Qj(W:Pw hs ts ps f)(Q:Qs ps qs){gd h:Str}(hh:h∈hs.map (·.1)):∀(l:ae) (ms:fW),(∀x∈l,x∈hs.map (·.1))->qz hs ts qs f gd h ms l=ms++oY hs ts ps f gd h (ms.map (·.1)) l
 |[],ms,_=>by
  rw[qz,oY,hG]
 |o::l,ms,hX=>by
  let ho:=hX o cZ;have GO:∀x∈l,x∈hs.map (·.1):=λx hx=>hX x (dJ _ hx);rw[qz,<- QC W Q];by_cases c:0<iq hs ps f h o
  ·rw[aB c,Qj W Q hh l _ GO];unfold iC;rw[<- Qt W Q hh ho];cases eb:rP hs ts ps f gd (ms.map (·.1)) h o with
   |none=>
    rw[M3 eb];dsimp only;rw[hG]
   |some n=>
    rw[Td eb];dsimp only;rw[xA,bY];rfl
  rw[au c,Qj W Q hh l ms GO,M3 (hj_ W hh ho c)]
theorem kH_(W:Pw hs ts ps f)(Q:Qs ps qs)(hh:h∈hs.map (·.1)):lJ hs ts ps f "below" gd h=AQ hs ts qs f gd h:=by
 unfold lJ AQ;rw[au Z0,<- VL W Q,Qj W Q hh _ [] λx hx=>QN W.Gd hx];rfl
end Ev
namespace L2
open PySem PySem.Spec PyProof.Rows PySem.Builtin PySem.Builtin.Str
inductive p_ (x:V) (vs:ai) (H:Hp) (Q:VK):Prop
 |mk:∀(z y:Str) (c:Nat),x=.str z->vs=[.str y]->y=⟨(List.toArray [c])⟩->z.length<=50000->(∀l,H l=none->Q (.ref l) (upd H l (.lst ((Txt.split z y).map V.str))))->p_ x vs H Q
variable{X:Cx}
theorem hK_:DH X "str.split" p_:=by
 intro pins s σ H x vs v us Q I rx rv h;let#[z,y,c,rfl,rfl,ey,hz,q]:=h;let#[t,rfl]:=rx;let#[u,rfl,t2,rfl]:=rv.one;let sz:=cc;have hy:(y.length == 0)=false:=by rw[ey];rfl
 have hn:(partsBetween z (occurrences z y 0 z.length (z.length+1)) y.length).length<=60000:=by
  rw[length_partsBetween];have:=StrLaws.occ_length_le z y 0 z.length (z.length+1);omega
 let sl:=PyProof.Rows.split_le z y
 have fin:∀(l:List (Str × Tok)) (k:Nat),l.map (·.1)=Txt.split z y->EP X pins σ Q (.ref s.heap.objs.size) { s with toks:=k,heap:=s.heap.push { cls:=.type "list",data:=.seq (strValues l).toArray } }:=λl k e=>by
  let vl:=Yl l;rw[e] at vl;apply#[.ref s.heap.objs.size,_,I.laid (t':=k) (o:=.lst ((Txt.split z y).map V.str)) (λb ob q=>cO _ q) (bq _) ?_,Z,q _ (I.aN.fresh (bq _))];apply#[?_,_,0,vl,fI _ Z];rw[ao];omega
 cases hA:(decide (z.length<y.length) || decide (strKind z<strKind y)) with
 |true=>
  apply call_meets PySem.F.slot_str_split (typeIs_str _ _ _) PySem.F.entry_str_split (PySem.F.args_str_split_2 _ _) (meets_str_split_cannot_occur z y t t2 hA) ?_;exact fin [(z,t)] _ (by unfold Txt.split;rw[aB hA];rfl)
 |false=>
  cases hB:(occurrences z y 0 z.length (z.length+1)).isEmpty with
  |true=>
   apply call_meets PySem.F.slot_str_split (typeIs_str _ _ _) PySem.F.entry_str_split (PySem.F.args_str_split_2 _ _) (meets_str_split_not_found z y t t2 hA hy hB) ?_;exact fin [(z,t)] _ (by unfold Txt.split;rw[au (by rw[hA];decide),aB hB];rfl)
  |false=>
   apply call_meets PySem.F.slot_str_split (typeIs_str _ _ _) PySem.F.entry_str_split (PySem.F.args_str_split_2 _ _) (meets_str_split_sep z y t t2 hA hy hB Z1 Z1) ?_;show wants _ _ _ { s with toks:=_,heap:=s.heap.push { cls:=.type "list",data:=.seq (strsFrom s.toks (partsBetween z (occurrences z y 0 z.length (z.length+1)) y.length)).toArray } };rw[strsFrom_eq];exact fin (numbered s.toks _) _ ((numbered_texts _ _).trans (by unfold Txt.split;rw[au (by rw[hA];decide),au (by rw[hB];decide)]))
end L2
namespace Ev
open PySem L2
variable{p:Addr}{fp:az}
theorem hE.yQ{K:af}{C:Addr}{H:Hp}{hs:Xa}{ts:Xb}(W:hE K C H p hs ts fp){b:Addr}(hb:b∈fp):∃o,H b\o/\∀vs,o≠.tbl vs:=by
 let#[dx,d1,l2,d3,zs,as,rfl,h1,h2,h3,h4,h5,h6,h7]:=W.ex;simp only[bX] at hb;rcases hb with rfl|rfl|rfl|rfl|hb
 ·exact#[_,h1,by intro vs z;cases z]
 ·exact#[_,h2,by intro vs z;cases z]
 ·exact#[_,h3,by intro vs z;cases z]
 ·exact#[_,h5,by intro vs z;cases z]
 let#[i,hi,e]:=si hb;exact#[_,h7 i ((aD hs)[i]' Z1) b (dB Z1) (by rw[<- e];exact dB hi),by intro vs z;cases z]
variable{CG CW g:Addr}
theorem iE.yQ{K:af}{H:Hp}{hs:Xa}{ts:Xb}{qs:aC}(G:iE K CG CW H g p hs ts qs fp):∃HY,iE K CG CW H g p hs ts qs HY/\(∀b∈HY,b∈fp)/\∀b∈HY,∃o,H b\o/\∀vs,o≠.tbl vs:=by
 let#[dx,dw,dy,vs,cE,h1,h2,h3,h4,h5,m1,m2,m3,m4,m5]:=G.ex;apply#[g::dw::dy::(cE++vs.filterMap λv=>match v with | .ref a=>some a|_=>none),#[dx,dw,dy,vs,cE,h1,h2,h3,h4,h5,by simp,by simp,by simp,λb hb=>by simp[hb],λv hv a z=>?_],λb hb=>?_,λb hb=>?_]
 ·have:a∈vs.filterMap λv=>match v with | .ref a=>some a|_=>none:=zv.mpr #[v,hv,by rw[z]];simp only[bX,fR];exact .inr (.inr (.inr (.inr this)))
 ·simp only[bX,fR] at hb;rcases hb with rfl|rfl|rfl|hb|hb
  ·exact m1
  ·exact m2
  ·exact m3
  ·exact m4 b hb
  let#[v,hv,e]:=zv.mp hb;cases v with
  |ref a=>cases e;exact m5 _ hv _ Z
  |_=>cases e
 simp only[bX,fR] at hb;rcases hb with rfl|rfl|rfl|hb|hb
 ·exact#[_,h1,by intro vs z;cases z]
 ·exact#[_,h3,by intro vs z;cases z]
 ·exact#[_,h4,by intro vs z;cases z]
 ·exact h2.yQ hb
 let#[v,hv,e]:=zv.mp hb;let#[i,hi,ev]:=si hv;let le:=bK h5;let w:=iz h5 i hi Z1;rw[ev] at w;cases o:(qs[i]' Z1).2.2 with
 |none=>
  rw[o] at w;rw[show v=.non from w] at e;cases e
 |some ws=>
  rw[o] at w;let#[a,ys,ea,ha,_]:=w;rw[ea] at e;cases e;exact#[_,ha,by intro vs z;cases z]
variable{H':Hp}
theorem mm_{K:af}{H:Hp}{a:Addr}{xs:ai}(s:NT H H')(h:eG K H a xs):eG K H' a xs:=by
 rcases h with (h|⟨o,h⟩)|h
 ·exact .inl (.inl (s.lst h))
 ·exact .inl (.inr #[o,s _ _ h nofun])
 exact .inr h
variable{l:Addr}
theorem a_.same{H H1 H2:Hp}(b:a_ l H1 H2)(n:H l=none)(s:aa H H1):aa H H2:=λc o e=>b c o (s c o e) (bj e n)
variable{G:Hp}
theorem Tb.same{H:Hp}{T1 T2:Addr}(t:Tb H T1 T2)(s:aa H G):Tb G T1 T2:=#[t.a.same s,t.b.same s,t.ne]
variable{ys:ai}
theorem VT{K:af}{H:Hp}{ks:List aM}(t:bg K H ys ks)(s:NT H G):bg K G ys ks:=Paired.bu t λy k ⟨b,z,q⟩=>#[b,z,s.tup q]
theorem my_{hs:Xa}{ts:Xb}(G:Good hs ts)(h:Str):(di ts h).length<=8:=by
 let e:=dQ List.length (Mh G h);rw[(gM _).length_eq] at e;have:=AW hs ts h;have:=G.eU;have:=G.h8;omega
theorem Ba.mv{K:af}{d:Addr}{H:Hp}{hs:Xa}{ts:Xb}{qs:aC}{ns:ae}{f:ag}(S:Ba K CG CW H g p d hs ts qs fp ns f)(b:a_ l H G)(st:d_ H l)(n:l∉fp)(dl:d≠l):Ba K CG CW G g p d hs ts qs fp ns f:=by
 let#[xs,hl]:=st.some;have kb:∀c∈fp,∀o,H c\o->G c\o:=λc hc o e=>b c o e (λz=>n (z▸hc));apply#[S.G.keep kb λc zs e=>b _ _ e (cu e hl nofun),S.rO,b _ _ S.hd dl,S.so,λc hc=>?_];let#[o,e,q]:=S.has c hc;exact#[o,kb c hc o e,q]
theorem MA{wt:Str->Int}{p q:Str->Bool}:∀{ns:ae} {l:Int},(∀n∈ns,p n=q n)->fq wt p l ns=fq wt q l ns
 |[],_,_=>rfl
 |n::ns,l,h=>by
  rw[fq,fq,h n cZ,MA λm hm=>h m (dJ _ hm),MA λm hm=>h m (dJ _ hm)]
theorem WX{wt:Str->Int}{p:Str->Bool}{l:Int}:∀{ns:ae},(∀n∈ns,l<wt n)->fq wt p l ns=[]
 |[],_=>rfl
 |n::ns,h=>by
  have:=h n cZ;rw[fq,dU Z1,pb,au (by decide)];exact WX λm hm=>h m (dJ _ hm)
theorem X9{wt:Str->Int}{p:Str->Bool}{l:Int}:∀{ns:ae},(∀n∈ns,p n=false)->fq wt p l ns=[]
 |[],_=>rfl
 |n::ns,h=>by
  rw[fq,h n cZ,r9,au (by decide)];exact X9 λm hm=>h m (dJ _ hm)
theorem Yd{wt:Str->Int}{tr:ae}{m:Str}(nt:tr.Nodup):∀{ns:ae} {l:Int},ns.Nodup->ns.find? (λn=>decide (n∈tr))\m->
  fq wt (λn=>decide (n∈tr)) l ns=if wt m<=l then m::fq wt (λn=>decide (n∈tr.erase m)) (l - wt m) ns else fq wt (λn=>decide (n∈tr.erase m)) l ns
 |[],_,_,h=>by cases h
 |n::ns,l,nd,h=>by
  let#[n1,n2]:=r_.mp nd;by_cases c:n∈tr
  ·rw[List.find?_cons_of_pos (by exact cw c)] at h;obtain rfl:=eK h;have ne:¬n∈tr.erase n:=λz=>(nt.mem_erase_iff.mp z).1 Z
   have cg:∀{l:Int},fq wt (λx=>decide (x∈tr)) l ns=fq wt (λx=>decide (x∈tr.erase n)) l ns:=MA λx hx=>by
    have:x≠n:=λz=>n1 (z▸hx);exact decide_eq_decide.mpr (by rw[nt.mem_erase_iff];simp[this])
   rw[fq,fq,fq];simp only[cw c,dU ne,Bool.true_and,r9,mO,cg];simp
  rw[List.find?_cons_of_neg ⇑c] at h;have ne:¬n∈tr.erase m:=λz=>c (EZ z);rw[fq,fq,fq];simp only[dU c,dU ne,r9];simp only[zu,if_false];exact Yd nt n2 h
variable{n:Str}
variable{tr:ae}
variable{gv:ae}
variable{m:Str}
variable{o:Str}
section
variable{hs:Xa}{ts:Xb}{ps qs:aC}{f:ag}
theorem IK(Q:Qs ps qs){h:Str}:n∈bO qs f h ↔ n∈ps.map (·.1)/\f n=h:=by
 unfold bO;rw[se,(Du qs).mem_iff,Q.sF,(gM _).mem_iff,mO]
theorem kx_(W:Pw hs ts ps f)(Q:Qs ps qs)(h:Str):(bO qs f h).Nodup:=by
 have e:(js qs).Nodup:=(Du qs).nodup_iff.mpr (by rw[Q.sF];exact (gM _).nodup_iff.mpr W.nd);exact e.sublist List.filter_sublist
theorem jS_(W:Pw hs ts ps f)(Q:Qs ps qs){h:Str}(ht:∀x∈tr,x∈bO qs f h):rG ps tr=(bO qs f h).find? λn=>decide (n∈tr):=by
 have kq:∀{n:Str},n∈ps.map (·.1)->kN qs n=kN ps n:=λ{n} h=>by
  unfold kN;rw[tj W Q h]
 have asc:pF ((bO qs f h).map (kN qs)):=List.Pairwise.sublist (List.filter_sublist.map _) (VY qs);rcases Sb ps tr with⟨e,z⟩|⟨m,z,hm,mn⟩
 ·rw[z,e];symm;rw[AY];intro x hx r;simp at r
 rw[z];let m1:=ht m hm;cases e:(bO qs f h).find? λn=>decide (n∈tr) with
 |none=>
  have:=AY.mp e m m1;simp[hm] at this
 |some n=>
  let n1:=List.mem_of_find?_eq_some e;let n2:=List.find?_some e;have nS:n∈tr:=l_ n2;let h1:=mn n nS;let h2:=QZ asc e m m1 (cw hm);rw[kq ((IK Q).mp m1).1,kq ((IK Q).mp n1).1] at h2;have:=IP h1 h2;have:gU (kN ps n)=gU (kN ps m):=by rw[this]
  exact dQ some this.symm
def dF(ps:aC)(f:ag)(h:Str)(gv:ae):ae:=(ps.map (·.1)).filter λn=>decide (f n=h)&&!decide (n∈gv)
theorem Ry{h:Str}:n∈dF ps f h gv ↔ n∈ps.map (·.1)/\f n=h/\n∉gv:=by
 unfold dF;rw[se];simp
theorem gE_(W:Pw hs ts ps f){h:Str}:(dF ps f h gv).erase m=dF ps f h (gv++[m]):=by
 have nd:(dF ps f h gv).Nodup:=W.nd.sublist List.filter_sublist;rw[nd.erase_eq_filter];unfold dF;rw[List.filter_filter];apply List.filter_congr λx _=>?_;by_cases c:x=m<;>simp[c]
def jd(ts:Xb)(ps:aC)(f:ag)(h o:Str)(gv:ae):ae:=(dF ps f h gv).filter λn=>fO ts ps n h o
theorem kw_(W:Pw hs ts ps f){h:Str}:(jd ts ps f h o gv).Nodup:=(W.nd.sublist List.filter_sublist).sublist List.filter_sublist
def dP(hs:Xa)(ts:Xb)(ps:aC)(f:ag)(a b:Str):Int:=(if iq hs ps f a b > 0 then iq hs ps f a b else 0) / ((strOf hs a+strOf hs b) * (1+iu hs ts))
theorem gr_(W:Pw hs ts ps f)(Q:Qs ps qs){h:Str}(hh:h∈hs.map (·.1))(ho:o∈hs.map (·.1))(ms:fW)(l:ae) :
  oU hs ts qs f h ms (o::l)=oU hs ts qs f h (ms++(fq (eI qs) (λn=>decide (n∈jd ts ps f h o (ms.map (·.1)))) (dP hs ts ps f h o) (bO qs f h)).map (to3 h o)) l:=by
 have cg:∀{x:Int},fq (eI qs) (λn=>decide (n∈jd ts ps f h o (ms.map (·.1)))) x (bO qs f h)=fq (eI qs) (iJ hs ts qs (ms.map (·.1)) h o) x (bO qs f h):=MA λn hn=>by
  let nm:=(IK Q).mp hn;unfold iJ jd;rw[<- VP W Q nm.1 hh ho]
  have:n∈(dF ps f h (ms.map (·.1))).filter (λn=>fO ts ps n h o) ↔ (n∉ms.map (·.1)/\fO ts ps n h o=true):=by
   rw[se,Ry];exact#[λz=>#[z.1.2.2,z.2],λz=>#[#[nm.1,nm.2,z.1],z.2]]
  by_cases c:n∈ms.map (·.1)<;>cases d:fO ts ps n h o<;>simp[this,c,d]
 rw[oU];let de:=QC W Q h o;by_cases c:0<lW hs qs f h o
 ·rw[aB c,cg];congr 2;unfold xW FO nK dP kD;rw[de,aB c,Int.add_comm 1]
 rw[au c]
 have z:dP hs ts ps f h o=0:=by
  unfold dP;rw[de,au c,Int.zero_ediv]
 rw[z,WX (λn hn=>?_),vS,hG];let nm:=((IK Q).mp hn).1;rw[tj W Q nm];let#[q,hq,rfl]:=bh.mp nm;rw[yU W.nd hq];have:=(W.gp q hq).w1;omega
end
theorem Q4{hs:Xa}{ts:Xb}(G:Good hs ts)(n:Str):(di ts n).length=(nb hs ts n).length:=by
 rw[<- Mh G n,(gM _).length_eq]
theorem la_{hs:Xa}{ts:Xb}(G:Good hs ts):0<=iu hs ts/\iu hs ts<=8:=by
 unfold iu;cases e:(fP hs ts).max? with
 |none=>exact#[by decide,by decide]
 |some m=>exact WL G (List.max?_eq_some_iff.mp e).1
theorem lV_{hs:Xa}{ts:Xb}{ps:aC}{f:ag}(W:Pw hs ts ps f){h:Str}:(dF ps f h gv).Nodup:=W.nd.sublist List.filter_sublist
theorem U5{H:Hp}{Q:VK}(hl:H l\.lst (tr.map V.str))(hm:m∈tr)(q:Q .non (upd H l (.lst ((tr.erase m).map V.str)))):Sg (.ref l) [.str m] H Q:=by
 let#[j,j1,j2,j3]:=Rx hm;apply#[l,_,_,j,Z,Z,hl,Z,?_,#[.str m,by rw[dR,j1];rfl,by rw[Mg];simp],λi y hi e=>?_,?_]
 ·rw[List.all_eq_true];intro v hv;let#[_,_,rfl]:=bh.mp hv;rfl
 ·rw[dR,DB] at e;let#[x,hx,rfl]:=e;rw[Mg];simpa using j2 i x hi hx
 rw[Ts,j3];exact q
variable{hs:Xa}{ts:Xb}
variable{H:Hp}{f:ag}{h:Str}{ps:aC}{dd lf lh lx:Addr}{ms:fW}
section v
abbrev bsN:ae:=[gE,i9,vI,"_law_held_by","_law_many",oT,"_law_held_here",lY,"_law_both","_law_left","_law_tried",qA]
theorem vW:bx bsN Ex (ba Sl):=bH
inductive RV (K:af) (vs:ai) (H:Hp) (Q:VK) (E:XK):Prop
 |mk:∀(wa sd:Addr) (h:Str) (hs:Xa) (ts:Xb) (ps qs:aC) (f:ag),vs=[.ref wa,.ref sd,.str h]->oZ K H wa hs ts ps->Pw hs ts ps f->Qs ps qs->Wd hs ts qs f->H sd\.dK (b_ (ps.map (·.1)) f)->h∈hs.map (·.1)->(∀l ys H',aa H H'->H l=none->H' l\.lst ys->bg K H' ys ((Dx hs ts qs f h).map kM)->Q (.ref l) H')->RV K vs H Q E
theorem jt_(G:Good hs ts){m:Int}(h1:m∈(hs.map (·.1)).map λn=>((di ts n).length:Int))(h2:∀a∈(hs.map (·.1)).map λn=>((di ts n).length:Int),a<=m):m=iu hs ts:=by
 have e:∀a:Int,a∈(hs.map (·.1)).map (λn=>((di ts n).length:Int)) ↔ a∈fP hs ts:=λa=>by
  unfold fP;rw[bh,bh];constructor
  ·rintro⟨n,hn,rfl⟩;exact#[n,(fG hs).mem_iff.mpr hn,by rw[Q4 G n]]
  rintro⟨n,hn,rfl⟩;exact#[n,(fG hs).mem_iff.mp hn,by rw[Q4 G n]]
 exact V4 ((e m).mp h1) λa ha=>h2 a ((e a).mpr ha)
structure zw (K:af) (H:Hp) (hs:Xa) (ts:Xb) (ps:aC) (f:ag) (h:Str) (dd lx lf lh:Addr) (H':Hp) (ys:ai) (ms:fW):Prop where
 sm:aa H H'
 hd:H' dd\.dK (bB (hs.map (·.1)) λn=>.int (sL ps f n))
 hx:H' lx\.lst ((nb hs ts h).map V.str)
 hf:H' lf\.lst ys
 ht:bg K H' ys (ms.map kM)
 hg:H' lh\.lst ((dF ps f h (ms.map (·.1))).map V.str)
theorem zw.same{K:af}(I:zw K H hs ts ps f h dd lx lf lh H' ys ms)(s:aa H' G):zw K H hs ts ps f h dd lx lf lh G ys ms:=#[I.sm.trans s,s _ _ I.hd,s _ _ I.hx,s _ _ I.hf,I.ht.same s,s _ _ I.hg]
theorem zw.put{K:af}{D:Addr}{o:HO}{zs:ai}(I:zw K H hs ts ps f h dd lx lf lh H' ys ms)(n:H D=none)(hD:H' D\.lst zs)(n1:dd≠D)(n2:lx≠D)(n3:lf≠D)(n4:lh≠D):zw K H hs ts ps f h dd lx lf lh (upd H' D o) ys ms:=#[fF I.sm n,(ax n1).trans I.hd,(ax n2).trans I.hx,(ax n3).trans I.hf,jb I.ht hD,(ax n4).trans I.hg]
theorem gT_{f0:Addr}{fd:Ad}(F:bp K "_law_by_share" "_law_by_share" Sl f0 fd)(B:Bi mg)(cD:!br 1 "_law_drop" mj (Ie K))(cH:!br 1 "_law_held" Ew (EF K))(cM:!br 1 "_law_may" qU (LK K))(cV:!br 1 "_law_heaviest" qS (pV K)) :
  aj P w K mg base aZ 2 f0 fd Ex (RV K):=by
 exists F.bG vW;let#[wa,sd,h,hs,ts,ps,qs,f,rfl,WA,Pp,Qq,Wq,iB,hh,k]:=h;let#[ds,dn,lt,dh,dy,ad,gy,W]:=id WA;let hu:=eO hr;let sz:=cc;refine' #[_,?r0,?kk]
 case' r0=>refine' ak ?s1 ?r1
 case' r1=>refine' ak ?s2 ?r2
 case' r2=>refine' ak ?s3 ?r3
 case' r3=>refine' ak ?s4 (ak ?s5 (aE ?s6))
 case s1=>exact aO 3 vW.nd (aX cH hr %[0,1|0])
 case s2=>exact aO 4 vW.nd (bw h9 aI (cQ (Ye Z) (by rfl) B.max H_ %[V7 (i4 ["_law_some"] 1 [] (Xd (RL (bV hu (pv 0) cn))) (λfp s H=>e_ (i:=0) (show (["_law_some"]:ae).Nodup by decide +kernel) Z (Or.inl Z)) (λfp s H=>iH)
  (λfp s H=>cQ (Je (K:=K)) (by rfl) B.len jJ %[0|0]))|0]))
 case s3=>exact aO 5 vW.nd (cy aJ)
 case' s4=>refine' Di (Mi (i:=6) [qA,vI,i9] 1 [2,1] vW.nd Z (Or.inl Z) (IH (pv 1)) (λfp s H=>e_ (i:=0) (show ([qA,vI,i9]:ae).Nodup by decide +kernel) Z (Or.inl Z)) ?d3 (λfp s H=>pv 0))
 case d3=>exact λfp s H=>QK (c_ iF (bV hu (pv 2) (pv 0)) (pv 1))
 case' s5=>refine' eE dM Z (dA (cQ SY (by rfl) B.sorted zh %[bV hu (bV hu (pv 0) cn) (pv 2)|0])) (bN 7 vW.nd) ?b0
 case' b0=>refine' ak ?b1 (ak ?b2 (ak ?b3 (aE ?b4)))
 case b1=>exact aO 8 vW.nd (bw h9 (bV hu (bV hu (pv 0) cn) (pv 2)) (bV hu (bV hu (pv 0) cn) (pv 7)))
 case b2=>exact aO 9 vW.nd (bw vR (cQ (Yj Z) (by rfl) B.max H_ %[aI,aX cD hr %[0,3,2,7|0]|0]) (bw jI (pv 8) (pv 4)))
 case' b3=>refine' Mi (i:=10) [qA,vI,lY,gE] 1 [2,7,0] vW.nd Z (Or.inl Z) (dA (pv 6)) (λfp s H=>e_ (i:=0) (show ([qA,vI,lY,gE]:ae).Nodup by decide +kernel) Z (Or.inl Z)) ?e3 (λfp s H=>pv 0)
 case e3=>exact λfp s H=>QK (fZ (aX cM hr %[3,0,1,2|0]))
 case' b4=>refine' IJ dM (c_ (Ms (lX hr 0)) (pv 10) (cy aJ)) (ak ?w1 (ak ?w2 (aE ?w3)))
 case w1=>exact aO 11 vW.nd (aX cV hr %[0,10|0])
 case w2=>exact gP (gC gO PySem.F.slot_list_remove PySem.F.type_list_remove SU (pv 10) %[11|0])
 case' w3=>refine' bP (c_ yX (bV hu (bV hu (pv 0) cn) (pv 11)) (pv 9)) (ak ?x1 (ak ?x2 (aE ?x3))) bQ
 case x1=>exact aO 9 vW.nd (bw LH (pv 9) (bV hu (bV hu (pv 0) cn) (pv 11)))
 case x2=>exact gP (gC gO PySem.F.slot_list_remove PySem.F.type_list_remove SU (pv 6) %[11|0])
 case x3=>exact gP (gC gO kB kC ki (pv 5) %[eW %[11,2,7|0]|0])
 case s6=>exact bo (pv 5)
 let qo:=Pp.Gd.qo;have h8:(hs.map (·.1)).length<=8:=by rw[ao];exact Pp.Gd.h8
 have mJ:1<=(hs.map (·.1)).length:=by rw[ao];exact Pp.Gd.h1
 let ic:=Pp.ic;apply#[_,Z,_,Z,wa,sd,hs,ts,ps,f,Z,WA,Pp,iB,λdd H1 s1 Ox e1=>?_];lk
 let Ka:bZ:=λσ H'=>σ=[some (.ref wa),some (.ref sd),some (.str h),some (.ref dd),some (.int (1+iu hs ts)),none,none,none,none,none,none,none]/\aa H1 H'
 apply dg Ka ?m2 ?m1
 case m1=>
  intro N1 g9;let W1:=W.same s1;let nr:=W1.nr
  have at_:∀{i:Nat} {kk:Key} {x:V},(bB (hs.map (·.1)) λh=>V.ref (ad h))[i]? = some (kk,x)->∃n,(hs.map (·.1))[i]? = some n/\x=.ref (ad n):=λhx=>by
   let#[n,hn,_,rfl]:=xk hx;exact#[n,hn,Z]
  have lk:(bB (hs.map (·.1)) λh=>V.ref (ad h)).length=(hs.map (·.1)).length:=by rw[f_]
  let gN:=W1.gN;let ls:=W1.ls;generalize (bB (hs.map (·.1)) λh=>V.ref (ad h))=KV at nr at_ lk;apply#[dn,_,nr,_,Z,wa,_,Z,gN,dn,_,Z,nr,λv hv=>?_];have N8:aa H1 (upd H1 v (qG v dn)):=aa.new hv;apply#[v,dn,_,Z,ay,N8 _ _ nr,λo D hD=>?_]
  have vU:∀{b:Addr} {xs:ai},H1 b\.lst xs->upd (upd H1 v (qG v dn)) dn (.frz o (.dK KV)) b\.lst xs:=λe=>by
   rw[ax (cu e nr nofun)];exact N8 _ _ e
  have XQ:upd (upd H1 v (qG v dn)) dn (.frz o (.dK KV)) dn\.frz o (.dK KV):=ay;have lL:((hs.map (·.1)).map λn=>((di ts n).length:Int)).length=(hs.map (·.1)).length:=ao ..;let ml:=λm h1 h2=>jt_ (m:=m) Pp.Gd h1 h2;have gL:∀{i:Nat} {n:Str},(hs.map (·.1))[i]? = some n->((hs.map (·.1)).map λn=>((di ts n).length:Int))[i]? = some ((di ts n).length:Int):=λhn=>by rw[dR,hn];rfl
  generalize ((hs.map (·.1)).map λn=>((di ts n).length:Int))=LL at lL ml gL;apply zk (own:=1) (fv:=[]) Z ee (hs.map (·.1)).length (λi out H'=>aa (upd (upd H1 v (qG v dn)) dn (.frz o (.dK KV))) H'/\H' D\.lst out/\out=(LL.take i).map V.int) #[aa.new hD,ay,Z] (λout H' ⟨sm,eN,eo⟩=>?_) (λi out H' hi ⟨sm,eN,eo⟩=>?_)
  ·let hf:=sm _ _ XQ;have Dd:D≠dn:=cu eN hf nofun;rw[<- lL,dz] at eo;apply#[#[hf,by omega],o,hf,D,LL,Z,.of (by rw[ax Dd,eN,eo]),by omega,λm hm hle=>#[_,_,Z,Z,?_]];rw[ml m hm hle];apply g9 _ _ #[Z,λb u e=>?_];by_cases z:b=dn
   ·rw[z] at e ⊢;rw[nr] at e;rw[ay];exact e
   rw[ax z];exact sm _ _ (by rw[ax z];exact N8 _ _ e)
  let hf:=sm _ _ XQ;apply#[#[hf,by omega],λx H2 y=>?_];let#[eH,kk,hk]:=y;subst eH;let#[n,hn,rfl]:=at_ hk;let B_:=ls n (cj hn);apply#[_,Z,Z,λNx hN=>dW ?_];apply#[_,Z,_,_,Z,.inl (.of (sm _ _ (vU B_))),out,eN,?_,hN _ _ #[fF sm hD,ay,?_]]
  ·rw[eo,ao,cX];omega
  rw[A5 _ (gL hn),eo,ao]
 rintro σ H2 ⟨rfl,fV⟩;let s2:=s1.trans fV;apply#[zl,λlf nf=>?_];lk;let#[jS,e3]:=aA (o:=.lst []) nf;generalize upd H2 lf (.lst [])=H3 at jS e3 ⊢;let s3:=s2.trans jS
 let J_:bZ:=λσ H'=>∃lh:Addr,σ=[some (.ref wa),some (.ref sd),some (.str h),some (.ref dd),some (.int (1+iu hs ts)),some (.ref lf),some (.ref lh),none,none,none,none,none]/\aa H3 H'/\H3 lh=none/\H' lh\.lst ((dF ps f h []).map V.str)
 apply dg J_ ?m4 ?m3
 case m3=>
  intro N1 g9;let lO:=s3 _ _ iB;apply#[sd,_,lO,?_];apply#[_,Z,sd,_,Z,lO,λo D hD=>?_]
  have zB:D≠sd:=by
   intro z;rw[z,ay] at hD;cases hD
  have Cv:H3 D=none:=by rw[ax zB] at hD;exact hD
  let J9:dH:=λi out H'=>Fz sd o (b_ (ps.map (·.1)) f) H3 H'/\H' D\.lst out/\out=(((ps.map (·.1)).take i).filter λn=>decide (f n=h)).map V.str
  apply Yz (own:=1) (fv:=[some (.str h),some (.ref sd)]) Z ee J9 #[Fz.start.put Cv zB,ay,Z] (λi out H' _ ⟨z,_,_⟩=>z.at_) (λout H4 ⟨fz,rM,eo⟩=>?_) (λi ky x out H' hx ⟨fz,eN,eo⟩=>?_)
  ·rw[f_,dz] at eo;lk;apply#[o,fz.at_,g9 _ _ #[D,Z,fz.jP lO,Cv,?_]];rw[ax zB,rM,eo];apply dQ (λx=>some (HO.lst (List.map V.str x))) (List.filter_congr λn _=>?_);simp
  let#[n,hn,rfl,rfl]:=xk hx;let nm:=cj hn;apply#[_,Z,Z,λNx hN=>?_];apply#[_,Z,_,Z,sd,.str (f n),Z,Iv (U6 fz) nm,_,Z,Z,_,Z,?_]
  have lo:out.length<=64:=by
   rw[eo,ao];have:=xD (λn=>decide (f n=h)) ((ps.map (·.1)).take i);rw[cX,ao] at this;omega
  apply aQ (λc=>?_) (λc=>?_)
  ·have c:f n=h:=⇑c
   apply#[_,Z,out,eN,by omega,hN _ _ #[fz.put Cv zB,ay,?_]];rw[eZ hn,zq,bY,eo];simp[c];rfl
  have c:¬f n=h:=⇑c
  apply hN out _ #[fz,eN,?_];rw[eZ hn,zq,bY,eo];simp[c]
 rintro σ H4 ⟨lh,rfl,eY,DR,ig⟩;let s4:=s3.trans eY;let W4:=W.same s4
 have n8:(nb hs ts h).length<=8:=by
  have:=AW hs ts h;have:=Pp.Gd.eU;have:=Pp.Gd.h8;omega
 have wO:(di ts h).length<64:=by
  rw[Q4 Pp.Gd];omega
 apply#[_,Z,wa,_,Z,W4.gN,_,Z,dn,_,Z,gJ W4.nr hh,ad h,di ts h,Z,.of (W4.ls h hh),wO,λlx nx=>?_];rw[Mh Pp.Gd h];let#[i7,e5]:=aA (o:=.lst ((nb hs ts h).map V.str)) nx;generalize upd H4 lx (.lst ((nb hs ts h).map V.str))=H5 at i7 e5 ⊢;have rB:H lf=none:=s2.free nf;have Oq:H lh=none:=s3.free DR;have UR:H lx=none:=s4.free nx;have GE:lf≠lh:=bj e3 DR;have OO:lf≠lx:=bj (eY _ _ e3) nx;have OM:lh≠lx:=bj ig nx;let vG:=fV _ _ e1;have RZ:dd≠lf:=bj vG nf;have RY:dd≠lh:=bj (jS _ _ vG) DR;have ddlx:dd≠lx:=bj (eY _ _ (jS _ _ vG)) nx;let d5:=i7 _ _ (eY _ _ (jS _ _ vG));let f5:=i7 _ _ (eY _ _ e3);let g5:=i7 _ _ ig;let s5:=s4.trans i7;clear i7 eY fV jS vG e1 e3 ig nf DR nx s2 s3 s4 W4 s1 Ox
 let J8:bI:=λi σ H'=>∃(v7 v8 v9 v10 v11:aF) (ys:ai) (ms:fW),σ=[some (.ref wa),some (.ref sd),some (.str h),some (.ref dd),some (.int (1+iu hs ts)),some (.ref lf),some (.ref lh),v7,v8,v9,v10,v11]/\zw K H hs ts ps f h dd lx lf lh H' ys ms/\ms.length<=63 * i/\oU hs ts qs f h ms ((nb hs ts h).drop i)=Dx hs ts qs f h
 apply#[lx,Z,#[_,.of e5],fY (K:=K) (a:=lx) (xs:=(nb hs ts h).map V.str) J8 #[none,none,none,none,none,[],[],Z,#[s5,d5,e5,f5,.nil,g5],bq _,Z] (λi σ H' _ ⟨_,_,_,_,_,_,_,_,z,_⟩=>.of z.hx) ?_ ?_]
 ·rintro i x σ H6 hx ⟨v7,v8,v9,v10,v11,ys,ms,rfl,I6,GC,AG⟩;let#[o,ho,rfl]:=i0 hx;have hi:i<(nb hs ts h).length:=(cq.mp ho).1;have om:o∈hs.map (·.1):=(fG hs).mem_iff.mp (CC (cj ho));rw[QF ho,gr_ Pp Qq hh om] at AG;let W6:=W.same I6.sm;let _a:=WA.nt (NT.of I6.sm);let e1:=Pp.bJ hh;let e2:=Pp.bJ om;have mo:0<=iu hs ts/\iu hs ts<=8:=la_ Pp.Gd;have pp:0<(strOf hs h+strOf hs o) * (1+iu hs ts):=Int.mul_pos Z1 Z1
  have pl:(strOf hs h+strOf hs o) * (1+iu hs ts)<1073741824:=by
   have:=Int.mul_le_mul (show strOf hs h+strOf hs o<=2000 by omega) (show 1+iu hs ts<=9 by omega) Z1 (by decide);omega
  lk;apply#[_,Z,wa,_,Z,W6.gS,_,Z,ds,_,Z,gJ W6.sg hh,_,Z,wa,_,Z,W6.gS,_,Z,ds,_,Z,gJ W6.sg om,_,_,Z,Z,?_];lk;apply#[_,Z,_,Z,_,Z,_,Z,wa,dd,h,o,hs,ts,ps,f,Z,_a,Pp,I6.hd,hh,om,_,_,Z,_,Z,_,Z,_,_,Z,Z,.inl #[by omega,by omega],_,_,Z,Z,#[pp,pl],?_];lk;have qu:∀{gv:ae} {n:Str},n∈dF ps f h gv->n∈ps.map (·.1):=λhn=>(Ry.mp hn).1
  have hlen:∀gv:ae,(dF ps f h gv).length<=30:=λgv=>by
   have:=xD (λn=>decide (f n=h)&&!decide (n∈gv)) (ps.map (·.1));rw[ao] at this;show ((ps.map (·.1)).filter _).length<=30;omega
  apply#[_,Z,lh,Z,#[_,.of I6.hg],λD hD=>?_];apply mU (own:=1) (fv:=[some (.str h),some (.str o),some (.ref wa)]) (xs:=(dF ps f h (ms.map (·.1))).map V.str) Z ee (λj out H'=>aa H6 H'/\H' D\.lst out/\out=(((dF ps f h (ms.map (·.1))).take j).filter λn=>fO ts ps n h o).map V.str) #[aa.new hD,ay,Z] (λj out H' _ ⟨sm,_⟩=>.of (sm _ _ I6.hg)) (λout H7 ⟨BK,D7,eo⟩=>?_) (λj x out H' hx ⟨sm,hd,eo⟩=>?_);rotate_left
  ·let#[n,hn,rfl]:=i0 hx;let nm:=qu (cj hn)
   have lo:out.length<=30:=by
    rw[eo,ao];have:=xD (λn=>fO ts ps n h o) ((dF ps f h (ms.map (·.1))).take j);rw[cX] at this;have:=hlen (ms.map (·.1));omega
   apply#[_,Z,Z,λNx hN=>?_];apply#[_,Z,_,Z,_,Z,_,Z,wa,n,h,o,hs,ts,ps,f,Z,_a.nt (NT.of sm),Pp,nm,hh,λH7 s7=>#[_,Z,?_]];apply aQ (λc=>?_) (λc=>?_)
   ·apply#[_,Z,out,s7 _ _ hd,by omega,hN _ _ #[fF (sm.trans s7) hD,ay,?_]];rw[eZ hn,zq,bY,eo,List.filter_cons_of_pos (by exact c)];rfl
   apply hN out _ #[sm.trans s7,s7 _ _ hd,?_];rw[eZ hn,zq,bY,eo,List.filter_cons_of_neg (by exact c),List.filter_nil,vS,hG]
  rw[ao,dz] at eo;subst eo;lk;let I7:=I6.same BK;have hD0:H D=none:=I6.sm.free hD;let _l:=bj I6.hf hD;let _k:=bj I6.hg hD;let Dlx:=bj I6.hx hD;let Ddd:=bj I6.hd hD;clear BK hD I6;change H7 D=some (.lst ((jd ts ps f h o (ms.map (·.1))).map V.str)) at D7;have qZ:∀x∈jd ts ps f h o (ms.map (·.1)),x∈dF ps f h (ms.map (·.1)):=λx hx=>(se.mp hx).1;let Bh:=kw_ (o:=o) (h:=h) (gv:=ms.map (·.1)) Pp
  have t0:∀l:Int,(fq (eI qs) (λn=>decide (n∈jd ts ps f h o (ms.map (·.1)))) l (bO qs f h)).length<=63:=λl=>by
   let h1:=(ID (eI qs) (λn=>decide (n∈jd ts ps f h o (ms.map (·.1)))) l (bO qs f h)).length_le;let h2:=QV Wq h;omega
  let t0:=t0 (dP hs ts ps f h o);have l0:dP hs ts ps f h o=(if iq hs ps f h o > 0 then iq hs ps f h o else 0) / ((strOf hs h+strOf hs o) * (1+iu hs ts)):=rfl
  have tl:(jd ts ps f h o (ms.map (·.1))).length<=30:=by
   let h1:=xD (λn=>fO ts ps n h o) (dF ps f h (ms.map (·.1)));let h2:=hlen (ms.map (·.1));show ((dF ps f h (ms.map (·.1))).filter _).length<=30;omega
  generalize jd ts ps f h o (ms.map (·.1))=Uk at D7 qZ Bh t0 AG tl;rw[<- l0];generalize dP hs ts ps f h o=Am at t0 AG;generalize eT:ms++(fq (eI qs) (λn=>decide (n∈Uk)) Am (bO qs f h)).map (to3 h o)=zF at AG
  have lt0:zF.length<=63 * (i+1):=by
   rw[<- eT,eA,ao];omega
  apply#[λm σ H'=>∃(v11:aF) (left:Int) (tr:ae) (ms:fW) (ys:ai),σ=[some (.ref wa),some (.ref sd),some (.str h),some (.ref dd),some (.int (1+iu hs ts)),some (.ref lf),some (.ref lh),some (.str o),some (.int (strOf hs h+strOf hs o)),some (.int left),some (.ref D),v11]/\zw K H hs ts ps f h dd lx lf lh H' ys ms/\H' D\.lst (tr.map V.str)/\m=tr.length/\tr.length<=30/\tr.Nodup/\(∀x∈tr,x∈dF ps f h (ms.map (·.1)))/\ms++(fq (eI qs) (λn=>decide (n∈tr)) left (bO qs f h)).map (to3 h o)=zF,#[_,v11,Am,Uk,ms,ys,Z,I7,D7,Z,tl,Bh,qZ,eT],?_];clear I7 D7 tl Bh qZ eT t0;rintro m σ H8 ⟨v11,left,tr,ms,ys,rfl,I8,D8,rfl,l30,Ow,B3,w6⟩;apply#[_,Z,zl,λle ne=>?_];let#[rp,e9]:=aA (o:=.lst []) ne;generalize upd H8 le (.lst [])=H9 at rp e9 ⊢;apply#[D,le,tr.map V.str,Z,Z,.of (rp _ _ D8),.of e9,_,Z,?_];let I9:=I8.same rp;let D9:=rp _ _ D8
  have OI:ms.length<=63 * (i+1):=by
   have:=dQ List.length w6;rw[eA] at this;omega
  clear I8 D8 rp e9 ne;apply aQ (λc=>?_) (λc=>?_)
  ·apply#[λσ H'=>∃(v11:aF) (left:Int) (xP:ae) (ms:fW) (ys:ai),xP.length<tr.length/\σ=[some (.ref wa),some (.ref sd),some (.str h),some (.ref dd),some (.int (1+iu hs ts)),some (.ref lf),some (.ref lh),some (.str o),some (.int (strOf hs h+strOf hs o)),some (.int left),some (.ref D),v11]/\zw K H hs ts ps f h dd lx lf lh H' ys ms/\H' D\.lst (xP.map V.str)/\xP.length<=30/\xP.Nodup/\(∀x∈xP,x∈dF ps f h (ms.map (·.1)))/\ms++(fq (eI qs) (λn=>decide (n∈xP)) left (bO qs f h)).map (to3 h o)=zF,λbt H' ⟨v11,left,xP,ms,ys,lt,e,q1,q2,q3⟩=>#[xP.length,lt,v11,left,xP,ms,ys,e,q1,q2,Z,q3],?_];apply#[_,Z,_,Z,wa,D,tr,hs,ts,ps,Z,WA.nt (NT.of I9.sm),D9,λn hn=>qu (B3 n hn),by omega,λHA N7=>?_];lk;have inv:∀x∈tr,x∈bO qs f h:=λx hx=>(IK Qq).mpr #[qu (B3 x hx),(Ry.mp (B3 x hx)).2.1];rw[jS_ Pp Qq inv];let IA:=I9.same N7;let DA:=N7 _ _ D9;clear I9 D9 N7;cases em:(bO qs f h).find? (λn=>decide (n∈tr)) with
   |none=>
    cases tr with
    |nil=>simp at c
    |cons a l=>
     have:=AY.mp em a (inv a cZ);simp at this
   |some m=>
    rw[show fN (some m)=V.str m from Z];let mt:=List.find?_some em;have mt:m∈tr:=l_ mt;let mp:=qu (B3 m mt);rw[Yd Ow (kx_ Pp Qq h) em] at w6;apply#[_,Z,.inl #[Z,_,.of DA],_,Z,yu ?_];apply U5 DA mt ?_;have eD:upd HA D (.lst ((tr.erase m).map V.str)) D\.lst ((tr.erase m).map V.str):=ay;let IB:=IA.put (o:=.lst ((tr.erase m).map V.str)) hD0 DA Ddd Dlx _l _k;have Ll:(tr.erase m).length=tr.length - 1:=List.length_erase_of_mem mt;have lp:0<tr.length:=List.length_pos_of_mem mt;let UY:=Ow.erase m;generalize upd HA D (.lst ((tr.erase m).map V.str))=HB at eD IB ⊢;dsimp only;let WB:=W.same IB.sm;let wm:=tj Pp Qq mp;apply#[_,Z,wa,_,Z,WB.gH,_,Z,dh,_,Z,gJ WB.hv mp,_,Z,_,_,Z,Z,_,Z,?_];apply aQ (λc2=>?_) (λc2=>?_)
    ·have c2:eI ps m<=left:=⇑c2
     rw[aB (by rw[wm];exact c2),wm,eJ,List.append_cons] at w6;apply#[_,Z,_,Z,wa,_,Z,WB.gH,_,Z,dh,_,Z,gJ WB.hv mp,_,_,Z,Z,?_];lk;apply#[_,Z,.inl #[Z,_,.of IB.hg],_,Z,yu ?_];apply U5 IB.hg (B3 m mt) ?_;have eg:(dF ps f h (ms.map (·.1))).erase m=dF ps f h ((ms++[to3 h o m]).map (·.1)):=by rw[gE_ Pp,bY];rfl
     rw[eg];generalize eh:dF ps f h ((ms++[to3 h o m]).map (·.1))=sM at eg ⊢;have eC:upd HB lh (.lst (sM.map V.str)) lh\.lst (sM.map V.str):=ay;have sC:aa H (upd HB lh (.lst (sM.map V.str))):=fF IB.sm Oq;let dC:=(ax (o:=.lst (sM.map V.str)) RY).trans IB.hd;let xC:=(ax (o:=.lst (sM.map V.str)) OM.symm).trans IB.hx;let fC:=(ax (o:=.lst (sM.map V.str)) GE).trans IB.hf;let DC:=(ax (o:=.lst (sM.map V.str)) _k.symm).trans eD;let tC:=jb (o:=.lst (sM.map V.str)) IB.ht IB.hg;generalize upd HB lh (.lst (sM.map V.str))=HC at eC sC dC xC fC DC tC ⊢;dsimp only;apply#[_,Z,.inl #[Z,_,.of fC],_,Z,_,Z,_,Z,zl,λt nt=>?_];let#[zV,et]:=aA (o:=.tup [.str m,.str h,.str o]) nt;generalize upd HC t (.tup [.str m,.str h,.str o])=HE at zV et ⊢;let ly:=bK tC;rw[ao] at ly;let fE:=zV _ _ fC;apply#[lf,_,_,Z,Z,fE,by omega,?_];apply#[_,_,tr.erase m,ms++[to3 h o m],ys++[.ref t],by omega,Z,#[fF (sC.trans zV) rB,(ax RZ).trans (zV _ _ dC),(ax OO.symm).trans (zV _ _ xC),ay,?_,?_],(ax _l.symm).trans (zV _ _ DC),by omega,UY,λx hx=>?_,w6]
     ·rw[bY];exact jb (vX (tC.same zV) et) fE
     ·rw[ax GE.symm,zV _ _ eC,eh]
     let DZ:=Ow.mem_erase_iff.mp hx;rw[eh,<- eg];exact (lV_ Pp).mem_erase_iff.mpr #[DZ.1,B3 x DZ.2]
    have c2:¬eI ps m<=left:=⇑c2
    rw[au (by rw[wm];exact c2)] at w6;exact#[_,left,tr.erase m,ms,ys,by omega,Z,IB,eD,by omega,UY,λx hx=>B3 x (EZ hx),w6]
  have z:tr=[]:=by
   cases tr with
   |nil=>rfl
   |cons a l=>simp at c
  subst z;rw[X9 (λn _=>by simp),vS,hG] at w6;subst w6;exact#[_,_,_,_,_,ys,_,Z,I9,OI,AG]
 rintro σ H6 ⟨v7,v8,v9,v10,v11,ys,ms,rfl,I6,GC,AG⟩;rw[ao,List.drop_length] at AG;apply#[_,Z,k lf ys H6 I6.sm rB I6.hf ?_];rw[<- AG];exact I6.ht
end
end Ev
namespace L2
open PySem PySem.Spec PyProof.Rows PySem.W
variable{x y:Str}{t u:Tok}{prog:Ae}{w:Af}{A:Ag}{E:Aa->Ab->Prop}{s:Ab}
theorem lv_{Q:Aa->Ab->Prop}(h:Q (.bool (decide (y.cps.toList<x.cps.toList))) s):wpAny (model prog w) A (richCompare .Gt (.str x t) (.str y u)) Q E s:=
 richCompare_gives (op:=.Gt) (typeIs_str s x t) (typeIs_str s y u) PySem.F.slot_str_gt PySem.F.entry_str_gt (PySem.F.args_str_gt_2 _ _) (gives_str_gt x y t u) (λe=>nomatch e) h
theorem l2_{Q:Aa->Ab->Prop}(h:Q (.bool (decide (x.cps.toList<y.cps.toList))) s):wpAny (model prog w) A (richCompare .Lt (.str x t) (.str y u)) Q E s:=
 richCompare_gives (op:=.Lt) (typeIs_str s x t) (typeIs_str s y u) PySem.F.slot_str_lt PySem.F.entry_str_lt (PySem.F.args_str_lt_2 _ _) (gives_str_lt x y t u) (λe=>nomatch e) h
def gc(x y:Str)(i:Nat):Str:=if i=0 then x else y
theorem ER{i:Nat}{v:Aa}(h:((List.toArray [Value.str x t,.str y u]):Array Aa)[i]? = some v):∃tk,v=.str (gc x y i) tk:=by
 match i,h with
 |0,h=>exact#[t,by simpa [gc] using h.symm]
 |1,h=>exact#[u,by simpa [gc] using h.symm]
 |_+2,h=>simp at h
variable{p:Addr}{a b:Str}
theorem kT_{Q:Aa->Ab->Prop}(hh:A.handled=none)(hT:s.heap.IsTuple p (List.toArray [.str a t,.str b u]))(h:∀h' tk wK,(∀c o,s.heap.get? c\o->h'.get? c\o)->Q (.str (if a.cps.toList<b.cps.toList then b else a) wK) { s with heap:=h',toks:=tk }):wpAny (model prog w) A (call (.builtin "max") [.ref p]) Q E s:=by
 have pl:p<s.heap.objs.size:=by
  let#[o,ho,_]:=id hT;exact cK ho
 apply call_max_walk (wpAny_pyIter_tuple hT #[_,[_,p],[_],_,_,_,λi j=>decide ((gc a b j).cps.toList<(gc a b i).cps.toList),Z,Walks.tuple (A:=A.in1) hh s.heap.objs.size p (eV pl) (List.toArray [.str a t,.str b u]),#[#[_,fI _ Z,Z,Z],hT.push _],λc hc=>?_,by simp,λi j vi vj s' Q' E' hi hj h'=>?_,λv h' tk hP hk=>?_])
 ·show c<(s.heap.push _).objs.size;rw[Heap.size_push];rcases bX.mp hc with e1|hc
  ·rw[e1];exact Nat.lt_succ_self _
  rw[jw.mp hc];exact Nat.lt_succ_of_lt pl
 ·let#[_,rfl]:=ER hi;let#[_,rfl]:=ER hj;exact lv_ h'
 have hold:∀c o,s.heap.get? c\o->h'.get? c\o:=λc o e=>by
  apply hk c o (λhm=>?_) (cO _ e);let q:=cK e;rw[jw.mp hm] at q;exact vT _ q
 let#[wK,rfl]:=ER hP
 have e:gc a b (argBest (λi j=>decide ((gc a b j).cps.toList<(gc a b i).cps.toList)) (((List.toArray [Value.str a t,.str b u]):Array Aa).size - 1))=if a.cps.toList<b.cps.toList then b else a:=by
  show gc a b (if decide (a.cps.toList<b.cps.toList)=true then 1 else 0)=_;by_cases c:a.cps.toList<b.cps.toList
  ·rw[aB (cw c),aB c];rfl
  rw[au ⇑c,au c];rfl
 rw[e];exact h h' tk wK hold
theorem kJ_{Q:Aa->Ab->Prop}(hh:A.handled=none)(hT:s.heap.IsTuple p (List.toArray [.str a t,.str b u]))(h:∀h' tk wK,(∀c o,s.heap.get? c\o->h'.get? c\o)->Q (.str (if b.cps.toList<a.cps.toList then b else a) wK) { s with heap:=h',toks:=tk }):wpAny (model prog w) A (call (.builtin "min") [.ref p]) Q E s:=by
 have pl:p<s.heap.objs.size:=by
  let#[o,ho,_]:=id hT;exact cK ho
 apply call_min_walk (wpAny_pyIter_tuple hT #[_,[_,p],[_],_,_,_,λi j=>decide ((gc a b i).cps.toList<(gc a b j).cps.toList),Z,Walks.tuple (A:=A.in1) hh s.heap.objs.size p (eV pl) (List.toArray [.str a t,.str b u]),#[#[_,fI _ Z,Z,Z],hT.push _],λc hc=>?_,by simp,λi j vi vj s' Q' E' hi hj h'=>?_,λv h' tk hP hk=>?_])
 ·show c<(s.heap.push _).objs.size;rw[Heap.size_push];rcases bX.mp hc with e1|hc
  ·rw[e1];exact Nat.lt_succ_self _
  rw[jw.mp hc];exact Nat.lt_succ_of_lt pl
 ·let#[_,rfl]:=ER hi;let#[_,rfl]:=ER hj;exact l2_ h'
 have hold:∀c o,s.heap.get? c\o->h'.get? c\o:=λc o e=>by
  apply hk c o (λhm=>?_) (cO _ e);let q:=cK e;rw[jw.mp hm] at q;exact vT _ q
 let#[wK,rfl]:=ER hP
 have e:gc a b (argBest (λi j=>decide ((gc a b i).cps.toList<(gc a b j).cps.toList)) (((List.toArray [Value.str a t,.str b u]):Array Aa).size - 1))=if b.cps.toList<a.cps.toList then b else a:=by
  show gc a b (if decide (b.cps.toList<a.cps.toList)=true then 1 else 0)=_;by_cases c:b.cps.toList<a.cps.toList
  ·rw[aB (cw c),aB c];rfl
  rw[au ⇑c,au c];rfl
 rw[e];exact h h' tk wK hold
inductive oK (K:af) (xs:ai) (H:Hp) (Q:VK):Prop
 |mk:∀p a b,xs=[.ref p]->i6 K H p [.str a,.str b]->Q (.str (if a.cps.toList<b.cps.toList then b else a)) H->oK K xs H Q
inductive oJ (K:af) (xs:ai) (H:Hp) (Q:VK):Prop
 |mk:∀p a b,xs=[.ref p]->i6 K H p [.str a,.str b]->Q (.str (if b.cps.toList<a.cps.toList then b else a)) H->oJ K xs H Q
theorem Yg{its:aq}(r:Vals [.str a,.str b] its):∃t u,its=[.str a t,.str b u]:=by
 cases r with
 |cons h r=>
  let#[t,rfl]:=h;cases r with
  |cons h r=>
   let#[u,rfl]:=h;cases r;exact#[t,u,Z]
variable{X:Cx}
theorem gs_(hc:X.calm=true):gD X (.builtin "max") (oK X.K):=by
 intro pins s σ H xs us Q I r h;let#[p,a,b,rfl,hp,q]:=h;let#[v,rfl,rv]:=vals1 r;cases rv;let#[its,r',hT,_]:=I.tuple hp;let#[t,u,rfl]:=Yg r';exact kT_ (I.ok.hd hc) hT λh' tk wK k=>#[V.str _,H,I.kept k,#[_,Z],q]
theorem gD_(hc:X.calm=true):gD X (.builtin "min") (oJ X.K):=by
 intro pins s σ H xs us Q I r h;let#[p,a,b,rfl,hp,q]:=h;let#[v,rfl,rv]:=vals1 r;cases rv;let#[its,r',hT,_]:=I.tuple hp;let#[t,u,rfl]:=Yg r';exact kJ_ (I.ok.hd hc) hT λh' tk wK k=>#[V.str _,H,I.kept k,#[_,Z],q]
end L2
namespace Ev
open PySem L2
variable{lr:Addr}
theorem iV_{K:af}{H H':Hp}{ln a:Addr}{as:az}{rs:List Xb}{t:Str × Str}(R:mP K H lr as rs)(fa:∀b∈as,b≠lr)(e1:H' lr\.lst (as.map V.ref++[.ref ln]))(e2:H' ln\.lst [.ref a])(e3:H' a\.tup [.str t.1,.str t.2])(k:∀b o,H b\o->b≠lr->H' b\o):mP K H' lr (as++[ln]) (rs++[[t]]):=by
 let la:=bK R.2;have kt:∀b xs,H b\.tup xs->H' b\.tup xs:=λb xs e=>k b _ e (cu e R.1 nofun);apply#[by rw[bY];exact e1,Za (MD la λj h1 h2=>?_) #[_,e2,.cons #[a,Z,e3] .nil]];let#[zz,e,tt]:=iz R.2 j h1 h2;exact#[zz,k _ _ e (fa _ (jy h1)),Paired.bu tt λy q ⟨c,z,e⟩=>#[c,z,kt _ _ e]]
theorem jP_(a b:Str):(if gX b a=true then b else a,if gX a b=true then b else a)=aL a b∨a=b:=by
 unfold aL;by_cases c:gX a b=true
 ·have n:¬gX b a=true:=λz=>by
   have:=Y1 c;rw[z] at this;cases this
  rw[aB c,aB c,au n];exact .inl Z
 by_cases d:gX b a=true
 ·rw[aB d,au c,au c];exact .inl Z
 exact .inr (VW ⇑c ⇑d)
variable{f0:Addr}{fd:Ad}
section v
abbrev rwN:ae:=[gE,"_law_rows_here",rQ,lY,"_law_at"]
theorem EO:bx rwN [gE] (ba oq):=bH
inductive RJ (K:af) (vs:ai) (H:Hp) (Q:VK) (E:XK):Prop
 |mk:∀(wa:Addr) (hs:Xa) (ts:Xb) (ps:aC),vs=[.ref wa]->oZ K H wa hs ts ps->Good hs ts->(∀(l:Addr) (as:az) (H':Hp),aa H H'->H l=none->(∀a∈as,H a=none)->mP K H' l as (turnsOf (aK ts))->Q (.ref l) H')->RJ K vs H Q E
theorem jd_(F:bp K "_law_rows" "_law_rows" oq f0 fd)(B:Bi mg):!aj aZ 1 f0 fd [gE] (RJ K):=by
 exists F.bG EO;let#[wa,hs,ts,ps,rfl,#[ds,dn,lt,dh,dy,ad,gy,W],Gd,k]:=h;let hu:=eO hr;let sz:=cc;refine' #[_,ak ?s1 (ak ?s2 (aE ?s3)),?kk]
 case s1=>exact aO 1 EO.nd (cy aJ)
 case' s2=>refine' eE dM Z (dA (cQ gG_ (by rfl) B.sorted zh %[?c0|0])) (ju Z (cU (bN 2 EO.nd) (cU (bN 3 EO.nd) iA))) ?b0
 case' c0=>refine' i4 ["_law_pair"] 1 [] (dA (bV hu (pv 0) cn)) (λfp s H=>e_ (i:=0) (show (["_law_pair"]:ae).Nodup by decide +kernel) Z (Or.inl Z)) (λfp s H=>iH) ?c1
 case c1=>exact λfp s H=>eW %[cQ (vL (K:=K) oJ (gD_ Z)) (by rfl) B.min PyProof.Rows.Boot.«min» %[0|0],cQ (vL (K:=K) oK (gs_ Z)) (by rfl) B.max H_ %[0|0]|0]
 case' b0=>refine' ak ?b1 (ak ?b2 (ak ?b3 (aE ?b4)))
 case b1=>exact aO 4 EO.nd aI
 case' b2=>refine' IJ dM (PW.pt (zd ?w1 (Df ?w2))) (aE ?w3)
 case w1=>exact c_ Lo (pv 4) (cQ mR (by rfl) B.len jJ %[1|0])
 case' w2=>refine' fZ (cQ (XD Z) (by rfl) B.any PyProof.Rows.Boot.«any» %[?w4|0])
 case' w4=>refine' i4 ["_law_row",rQ,lY] 1 [2,3] (dA (bM gi (pv 1) (pv 4))) (λfp s H=>e_ (i:=0) (show (["_law_row",rQ,lY]:ae).Nodup by decide +kernel) Z (Or.inl Z)) (λfp s H=>iH) ?w5
 case w5=>exact λfp s H=>Ej (iI (Ge (K:=K) (λK=>DN K false) ME) (pv 1) (pv 0) (by with_unfolding_all rfl)) (o6 (iI (Ge (K:=K) (λK=>DN K false) ME) (pv 2) (pv 0) (by with_unfolding_all rfl)))
 case w3=>exact aO 4 EO.nd (bw h9 (pv 4) aI)
 case b3=>exact bP (c_ iF (pv 4) (cQ mR (by rfl) B.len jJ %[1|0])) (aE (gP (gC gO kB kC ki (pv 1) %[cy aJ|0]))) bQ
 case b4=>exact gP (gC gO kB kC ki (bM gi (pv 1) (pv 4)) %[eW %[2,3|0]|0])
 case s3=>exact bo (pv 1)
 let#[zt,dm,tt]:=W.tl;let sk:=Gd.sk;let U9:=bK tt;rw[ao] at U9;apply#[zl,λlr nr=>?_];lk;let#[s1,e1]:=aA (o:=.lst []) nr;generalize upd H lr (.lst [])=H1 at s1 e1 ⊢;let W1:=W.same s1;have gT:ck H1 wa (.str "ties") (some (.ref lt)):=ck.k (k:=Sum.inr "ties") W1.top;apply#[_,Z,wa,_,Z,gT,lt,Z,#[_,.of (s1 _ _ dm)],λD hD=>?_]
 let JW:dH:=λj out H'=>aa H1 H'/\H' D\.lst out/\bg K H' out ((ts.take j).map λt=>kT (aL t.1 t.2))
 apply mU (own:=1) (fv:=[]) (xs:=zt) Z ee JW #[aa.new hD,ay,.nil] (λj out H' _ ⟨sm,_⟩=>.of (sm _ _ (s1 _ _ dm))) (λout H2 ⟨fV,d2,t2⟩=>?_) (λj x out H' hx ⟨sm,hd,to⟩=>?_);rotate_left
 ·let#[t,ht,a,rfl,ha]:=jx tt hx;have hj:j<ts.length:=(cq.mp ht).1;let ne:=(Gd.tok t (cj ht)).2.2;have HP:H' a\.tup [.str t.1,.str t.2]:=sm _ _ (s1 _ _ ha);let lo:=bK to;rw[ao,cX] at lo;apply#[_,Z,Z,λNx hN=>dW ?_];apply#[_,Z,a,t.1,t.2,Z,.of HP,_,Z,a,t.1,t.2,Z,.of HP,zl,λu nu=>?_]
  have po:((if t.2.cps.toList<t.1.cps.toList then t.2 else t.1),(if t.1.cps.toList<t.2.cps.toList then t.2 else t.1))=aL t.1 t.2:=by
   rcases jP_ t.1 t.2 with h|h
   ·rw[<- h];unfold gX;simp only[mO]
   exact absurd h ne
  let o1:=dQ Prod.fst po;let o2:=dQ Prod.snd po;dsimp only at o1 o2;rw[o1,o2];let#[s3,e3]:=aA (o:=.tup [.str (aL t.1 t.2).1,.str (aL t.1 t.2).2]) nu;generalize upd H' u (.tup [.str (aL t.1 t.2).1,.str (aL t.1 t.2).2])=H3 at s3 e3 ⊢;apply#[out,s3 _ _ hd,by omega,hN _ _ #[fF (sm.trans s3) hD,ay,?_]];rw[show ts.take (j+1)=ts.take j++[t] by rw[iw,ht];rfl,bY];exact jb (vX (to.same s3) e3) (s3 _ _ hd)
 rw[U9,dz] at t2;let OR:=bK t2;rw[ao] at OR
 apply#[D,out,_,[true,true],Z,.of d2,t2,#[by decide,λk hk=>by
  let#[t,_,rfl]:=bh.mp hk;rfl],by rw[ao];exact sk,λls zs Oo tz pz=>?_]
 rw[<- Jt] at tz;let#[K_,e3]:=aA (o:=.lst zs) Oo;let t3:=bg.same tz K_;have sls:lr≠ls:=bj (fV _ _ e1) Oo;let r3:=K_ _ _ (fV _ _ e1);let s3:=(s1.trans fV).trans K_;generalize upd H2 ls (.lst zs)=H3 at s3 e3 t3 r3 ⊢;clear s1 fV K_ d2 t2 e1 hD tz Oo;let lz:=bK t3;rw[ao] at lz;let yz:=E1 ts
 let JV:bI:=λi σ H'=>∃(v2 v3 v4:aF) (as:az),σ=[some (.ref wa),some (.ref lr),v2,v3,v4]/\a_ lr H3 H'/\(∀a∈as,H3 a=none/\a≠lr)/\as.Nodup/\mP K H' lr as (turnsOf ((aK ts).take i))/\(turnsOf ((aK ts).take i)).length<=i/\∀r∈turnsOf ((aK ts).take i),r.length<=i
 apply#[ls,Z,#[_,.of e3],fY (K:=K) (a:=ls) (xs:=zs) JV #[none,none,none,[],Z,a_.refl _ _,by simp,.nil,#[r3,.nil],bq _,by intro r hr;simp[turnsOf] at hr] (λi σ H' _ ⟨_,_,_,_,_,b,_⟩=>.of (b _ _ e3 sls.symm)) ?_ ?_]
 ·rintro i x σ H4 hx ⟨v2,v3,v4,as,rfl,b4,fa,nd,R,l1,l2⟩;let#[t,ht,a,rfl,ha]:=jx t3 hx;have hi:i<(aK ts).length:=(cq.mp ht).1;have Qd:H4 a\.tup [.str t.1,.str t.2]:=b4 _ _ ha (cu ha r3 nofun);let la:=bK R.2
  have wZ:turnsOf ((aK ts).take (i+1))=ip (turnsOf ((aK ts).take i)) t:=by
   unfold turnsOf;rw[iw,ht,List.foldl_append];rfl
  generalize turnsOf ((aK ts).take i)=rs at R l1 l2 la wZ;apply#[a,_,Z,.of Qd,Z,_,_,Z,_,_,Z,Z,?_];dsimp only;apply setG (i:=4) (v:=.int 0) ?_;dsimp only
  let JU:bZ:=λσ H'=>σ=[some (.ref wa),some (.ref lr),some (.str t.1),some (.str t.2),some (.int (dc rs t))]/\aa H4 H'
  apply dg JU ?q2 ?q1
  case q1=>
   intro N1 g9;apply#[λm σ H'=>∃j:Nat,σ=[some (.ref wa),some (.ref lr),some (.str t.1),some (.str t.2),some (.int j)]/\aa H4 H'/\j<=rs.length/\m=rs.length - j/\∀r∈rs.take j,r.any (hit t)=true,#[_,0,Z,aa.refl _,gF _,Z,by simp],?_];rintro m σ H5 ⟨j,rfl,s5,jl,rfl,past⟩;let R5:=R.same s5;apply#[_,Z,_,Z,lr,_,Z,.inl (.of R5.1),_,_,Z,Z,_,Z,?_];rw[ao,la];apply aQ (λc=>?_) (λc=>?_)
   ·have c:j<rs.length:=⇑c
    have WJ:j<as.length:=by omega
    let#[zr,hz,tz]:=iz R5.2 j WJ c;let U_:=bK tz;rw[ao] at U_;let lr1:=l2 rs[j] (jy c);have zp:gK (as.map V.ref) (j:Int)\.ref as[j]:=L2.iX (by rw[dR,dB WJ];rfl);apply#[_,Z,_,Z,lr,_,_,_,Z,Z,.of R5.1,zp,as[j],Z,#[_,.of hz],λD hD=>?_]
    let JT:dH:=λq out H'=>aa H5 H'/\H' D\.lst out/\out=((rs[j].take q).map (hit t)).map V.bl
    apply mU (own:=1) (fv:=[some (.str t.1),some (.str t.2)]) (xs:=zr) Z ee JT #[aa.new hD,ay,Z] (λq out H' _ ⟨sm,_,_⟩=>.of (sm _ _ hz)) (λout H6 ⟨s6,Qh,eo⟩=>?_) (λq y out H' hy ⟨sm,eN,eo⟩=>?_)
    ·rw[U_,dz] at eo;subst eo;apply#[D,rs[j].map (hit t),Z,.of Qh,#[_,Z,?_]];have vF:(rs[j].map (hit t)).any id=rs[j].any (hit t):=by rw[List.any_map];rfl
     apply aQ (λc2=>?_) (λc2=>?_)
     ·have c2:rs[j].any (hit t)=true:=by rw[<- vF];exact c2
      apply#[λσ H'=>∃j':Nat,rs.length - j'<rs.length - j/\σ=[some (.ref wa),some (.ref lr),some (.str t.1),some (.str t.2),some (.int j')]/\aa H4 H'/\j'<=rs.length/\∀r∈rs.take j',r.any (hit t)=true,λbt H' ⟨j',q0,q1,q2,q3,q4⟩=>#[_,q0,j',q1,q2,q3,Z,q4],?_];apply#[_,Z,_,_,Z,Z,?_];lk;apply#[j+1,by omega,Z,s5.trans s6,c,λr hr=>?_];rw[iw,dB c] at hr;rcases fR.mp hr with hr|hr
      ·exact past r hr
      obtain rfl:r=rs[j]:=⇑hr
      exact c2
     have c2:rs[j].any (hit t)=false:=by
      rw[<- vF];simpa using c2
     have e:dc rs t=j:=by
      unfold dc;rw[List.findIdx_eq c];apply#[by rw[c2];rfl,λj' hj=>?_];have:=past (rs[j']' Z1) (List.mem_iff_getElem?.mpr #[j',by rw[List.getElem?_take_of_lt hj,dB Z1]]);rw[this];rfl
     exact g9 _ _ #[by rw[e],s5.trans s6]
    let#[u,Wk,b,rfl,hb]:=jx tz hy;have vC:H' b\.tup [.str u.1,.str u.2]:=sm _ _ hb
    have lo:out.length<sizeLine:=by
     rw[eo,ao,ao,cX];omega
    apply#[_,Z,Z,λNx hN=>dW ?_];have nx:Nx (upd H' D (.lst (out++[.bl (hit t u)]))):=hN _ _ #[fF sm hD,ay,by rw[A5 _ Wk,bY,eo];rfl];apply#[_,Z,_,Z,b,_,Z,.inr (.of vC),Z,Z,_,Z,?_];apply aQ (λc=>?_) (λc=>?_)
    ·have c:(decide (u.1=t.1) || decide (u.2=t.1))=true:=by rw[<- EE];exact c
     apply#[out,eN,lo,?_];rwa [show hit t u=true by unfold hit;rw[c];rfl] at nx
    have c:(decide (u.1=t.1) || decide (u.2=t.1))=false:=by
     rw[<- EE];simpa using c
    apply#[_,Z,_,Z,b,_,Z,.inr (.of vC),Z,Z,out,eN,lo,?_];rw[show hit t u=DY (.str t.2) [.str u.1,.str u.2] by unfold hit;rw[c,EE];rfl] at nx;exact nx
   have c:j=rs.length:=by
    have:¬j<rs.length:=⇑c
    omega
   have e:dc rs t=j:=by
    unfold dc;rw[c,List.findIdx_eq_length];intro r hr;rw[c,dz] at past;rw[past r hr];rfl
   exact g9 _ _ #[by rw[e],s5]
  rintro σ H5 ⟨rfl,s5⟩;let R5:=R.same s5;have b5:a_ lr H3 H5:=b4.trans (a_.of s5);let rle:=Xw rs t
  have fin:∀(H6:Hp) (iy:az),a_ lr H3 H6->(∀a∈iy,H3 a=none/\a≠lr)->iy.Nodup->mP K H6 lr iy (ip rs t)->∃(v2 v3 v4:aF) (as:az),[some (V.ref wa),some (V.ref lr),some (V.str t.1),some (V.str t.2),some (V.int (dc rs t))]=[some (V.ref wa),some (V.ref lr),v2,v3,v4]/\a_ lr H3 H6/\(∀a∈as,H3 a=none/\a≠lr)/\as.Nodup/\mP K H6 lr as (turnsOf ((aK ts).take (i+1)))/\(turnsOf ((aK ts).take (i+1))).length<=i+1/\∀r∈turnsOf ((aK ts).take (i+1)),r.length<=i+1:=λH6 iy b f n r=>by
   rw[wZ];exact#[_,_,_,iy,Z,b,f,n,r,by have:=MR rs t;omega,MY l2]
  apply#[_,Z,_,Z,lr,_,Z,.inl (.of R5.1),Z,_,Z,?_];apply aQ (λc=>?_) (λc=>?_)
  ·have c:dc rs t=rs.length:=by
    have:V.int (dc rs t)=V.int ((as.map V.ref).length:Nat):=⇑c
    rw[ao,la] at this;have:=V.int.inj this;omega
   apply#[_,Z,.inl #[Z,_,.of R5.1],zl,λln qt=>?_];let#[rq,e6]:=aA (o:=.lst []) qt;generalize upd H5 ln (.lst [])=H6 at rq e6 ⊢;have sG:ln≠lr:=(bj R5.1 qt).symm;apply#[lr,_,_,Z,Z,rq _ _ R5.1,by rw[ao];omega,?_]
   have Qz:H3 ln=none:=by
    cases z:H3 ln with
    |none=>rfl
    |some o=>
     have:=b5 _ _ z sG;rw[qt] at this;cases this
   have Os:ln∉as:=λm=>by
    let#[j,hj,e]:=si m;let#[zz,e2,_]:=iz R5.2 j hj Z1;rw[e,qt] at e2;cases e2
   have zp:gK (as.map V.ref++[V.ref ln]) (dc rs t:Int)\.ref ln:=L2.iX (by rw[c,A7 (by rw[ao];omega),ao,la,Nat.sub_self];rfl);have e7:upd H6 lr (.lst (as.map V.ref++[.ref ln])) lr\.lst (as.map V.ref++[.ref ln]):=ay;have n7:upd H6 lr (.lst (as.map V.ref++[.ref ln])) ln\.lst []:=(ax sG).trans e6;have k7:∀{b o},H5 b\o->b≠lr->upd H6 lr (.lst (as.map V.ref++[.ref ln])) b\o:=λe ne=>(ax ne).trans (rq _ _ e);generalize upd H6 lr (.lst (as.map V.ref++[.ref ln]))=H7 at e7 n7 k7 ⊢;dsimp only;apply#[_,Z,_,Z,lr,_,_,_,Z,Z,.of e7,zp,.inl #[Z,_,.of n7],_,Z,_,Z,zl,λu nu=>?_];let#[km,e8]:=aA (o:=.tup [.str t.1,.str t.2]) nu;generalize upd H7 u (.tup [.str t.1,.str t.2])=H8 at km e8 ⊢;let n8:=km _ _ n7;apply#[ln,_,_,Z,Z,n8,by show 0<sizeLine;decide,?_];have uln:u≠ln:=λz=>by rw[z,n7] at nu;cases nu
   have k9:∀b o,H5 b\o->b≠lr->upd H8 ln (.lst ([]++[.ref u])) b\o:=λb o e ne=>(ax (bj e qt)).trans (km _ _ (k7 e ne));apply fin _ (as++[ln]) (λb o e ne=>k9 b o (b5 _ _ e ne) ne) (λx hx=>?_) ?_ ?_
   ·rcases fR.mp hx with m|m
    ·exact fa x m
    obtain rfl:x=ln:=⇑m
    exact#[Qz,sG]
   ·rw[List.nodup_append]
    exact#[nd,by simp,λx hx z hz=>by
     obtain rfl:z=ln:=⇑hz
     exact λq=>Os (q▸hx)]
   have ep:ip rs t=rs++[[t]]:=by
    unfold ip;rw[dif_neg Z1]
   rw[ep];exact iV_ R5 (λb hb=>(fa b hb).2) ((ax sG.symm).trans (km _ _ e7)) ay ((ax uln).trans e8) k9
  have c:dc rs t<rs.length:=by
   have:¬dc rs t=rs.length:=λe=>c (by
    rw[ao,la,e];simp)
   omega
  have sI:dc rs t<as.length:=by omega
  have nl:as[dc rs t]≠lr:=(fa _ (jy sI)).2;let#[zz,ez,Fi]:=iz R5.2 (dc rs t) sI c;let OF:=bK Fi;rw[ao] at OF;let OH:=l2 _ (jy c);have zp:gK (as.map V.ref) (dc rs t:Int)\.ref as[dc rs t]:=L2.iX (by rw[dR,dB sI];rfl);apply#[_,Z,_,Z,lr,_,_,_,Z,Z,.of R5.1,zp,.inl #[Z,_,.of ez],_,Z,_,Z,zl,λu nu=>?_];let#[rq,e6]:=aA (o:=.tup [.str t.1,.str t.2]) nu;generalize upd H5 u (.tup [.str t.1,.str t.2])=H6 at rq e6 ⊢;let Yr:=rq _ _ ez;apply#[_,_,_,Z,Z,Yr,by omega,?_];have k7:∀{b o},H5 b\o->b≠as[dc rs t]->upd H6 as[dc rs t] (.lst (zz++[.ref u])) b\o:=λe ne=>(ax ne).trans (rq _ _ e);have h7:upd H6 as[dc rs t] (.lst (zz++[.ref u])) as[dc rs t]\.lst (zz++[.ref u]):=ay;have u7:upd H6 as[dc rs t] (.lst (zz++[.ref u])) u\.tup [.str t.1,.str t.2]:=(ax (cu e6 Yr nofun)).trans e6;generalize upd H6 as[dc rs t] (.lst (zz++[.ref u]))=H7 at k7 h7 u7 ⊢;have kt:∀b xs,H5 b\.tup xs->H7 b\.tup xs:=λb xs e=>k7 e (cu e ez nofun);apply fin _ as (λb o e ne=>k7 (b5 _ _ e ne) (bj e (fa _ (jy sI)).1)) fa nd ?_
  have ep:ip rs t=rs.set (dc rs t) (rs[dc rs t]++[t]):=by
   unfold ip;rw[dif_pos c]
  rw[ep];apply R5.add nd c (dB sI) (k7 R5.1 nl.symm) h7 ?_ (λb o e _ ne=>k7 e ne) (λb hb=>(fa b hb).2) kt;rw[bY];exact vX (Paired.bu Fi λy q ⟨c,z,e⟩=>#[c,z,kt _ _ e]) u7
 rintro σ H4 ⟨v2,v3,v4,as,rfl,b4,fa,nd,R,_,_⟩;rw[lz,dz] at R;have s4:aa H H4:=λb o e=>b4 _ _ (s3 _ _ e) (bj e nr);exact#[_,Z,k lr as H4 s4 nr (λa ha=>s3.free (fa a ha).1) R]
end
theorem lt_{K:af}{H:Hp}{le:Addr}{as:az}{ts:Xb}{m:Int}(R:mP K H lr as (turnsOf (aK ts)))(he:H le\.lst []):∃ar zs,gK (as.map V.ref++[V.ref le]) (m % (if ((as.map V.ref).length:Int) > 1 then ((as.map V.ref).length:Int) else 1))\.ref ar/\H ar\.lst zs/\bg K H zs ((hZ ts m).map kT)/\(ar∈as∨ar=le):=by
 let la:=bK R.2;rw[ao];by_cases c:as.length=0
 ·have z:turnsOf (aK ts)=[]:=A6.mp Z1;have z2:as=[]:=A6.mp c;subst z2;rw[au Z2,Int.emod_one];apply#[le,[],Z,he,?_,.inr Z];unfold hZ;rw[z];exact .nil
 have e:(if ((as.length:Nat):Int) > 1 then ((as.length:Nat):Int) else 1)=((turnsOf (aK ts)).length:Int):=by
  by_cases d:((as.length:Nat):Int) > 1
  ·rw[aB d,la]
  rw[au d];omega
 rw[e];let h0:=zi m (show (((turnsOf (aK ts)).length:Nat):Int)≠0 by omega);let h1:=A1 m (show 0<(((turnsOf (aK ts)).length:Nat):Int) by omega);have lt:(m % ((turnsOf (aK ts)).length:Int)).toNat<as.length:=by omega
 have lt':(m % ((turnsOf (aK ts)).length:Int)).toNat<(turnsOf (aK ts)).length:=by omega
 let#[zs,hz,tz]:=iz R.2 _ lt lt'
 have er:hZ ts m=(turnsOf (aK ts))[(m % ((turnsOf (aK ts)).length:Int)).toNat]:=by
  unfold hZ;rw[dB lt'];rfl
 apply#[_,zs,?_,hz,by rw[er];exact tz,.inl (jy lt)];rw[iX h0 (by rw[eA,ao];show _<((as.length+1:Nat):Int);omega),Dz (by rw[ao];exact lt),dR,dB lt];rfl
variable{a b:Str}
section v
abbrev byN:ae:=[gE,i9,"_law_moment","_law_guard","_law_rows_here",oT,rQ,lY,"_law_pair",qA]
theorem Dw:bx byN wz (ba Re):=bH
inductive Q6 (K:af) (vs:ai) (H:Hp) (Q:VK) (E:XK):Prop
 |mk:∀(wa sd:Addr) (m:Int) (gd:Str) (hs:Xa) (ts:Xb) (ps qs:aC) (f:ag),vs=[.ref wa,.ref sd,.int m,.str gd]->oZ K H wa hs ts ps->Pw hs ts ps f->Qs ps qs->H sd\.dK (b_ (ps.map (·.1)) f)->gd∈(me:ae)->(∀l ys H',aa H H'->H l=none->H' l\.lst ys->bg K H' ys ((IC hs ts qs f gd m).map kM)->Q (.ref l) H')->Q6 K vs H Q E
theorem l0_{hs:Xa}{ts:Xb}{ps qs:aC}{f:ag}(W:Pw hs ts ps f)(Q:Qs ps qs){gd:Str}(ha:a∈hs.map (·.1))(hb:b∈hs.map (·.1)):iC hs ts qs f gd [] a b=match rP hs ts ps f gd [] a b with
  |some n=>[(n,a,b)]
  |none=>[]:=by
 rw[Qt W Q ha hb];rfl
theorem ig_(F:bp K "_law_by_turn" "_law_by_turn" Re f0 fd)(B:Bi mg)(cR:!br 1 "_law_rows" [gE] (RJ K))(cB:!br 2 "_law_best" qV (LR K)):!aj aZ 3 f0 fd wz (Q6 K):=by
 exists F.bG Dw;let#[wa,sd,m,gd,hs,ts,ps,qs,f,rfl,WA,Pp,Qq,iB,Cp,k]:=h;let sz:=cc;refine' #[_,ak ?s1 (ak ?s2 (ak ?s3 (aE ?s4))),?kk]
 case s1=>exact aO 4 Dw.nd (aX cR hr %[0|0])
 case s2=>exact aO 5 Dw.nd (cy aJ)
 case' s3=>refine' eE dM Z (dA (bM gi ?x1 ?x2)) (ju Z (cU (bN 6 Dw.nd) (cU (bN 7 Dw.nd) iA))) (aE ?b0)
 case x1=>exact bw C0 (pv 4) (cy %[cy aJ|0])
 case x2=>exact bw sV (pv 2) (cQ (Yj Z) (by rfl) B.max H_ %[aI,cQ mR (by rfl) B.len jJ %[4|0]|0])
 case' b0=>refine' eE dM Z (dA (cy %[eW %[6,7|0],eW %[7,6|0]|0])) (bN 8 Dw.nd) (ak ?b1 (aE ?b2))
 case b1=>exact aO 9 Dw.nd (aX cB hr %[0,1,8,3,cy aJ|0])
 case b2=>exact bP (c_ Xp (pv 9) C4) (aE (gP (gC gO kB kC ki (pv 5) %[eW %[9,bM eP (pv 8) aI,bM eP (pv 8) aI|0]|0]))) bQ
 case s4=>exact bo (pv 5)
 apply#[_,Z,wa,hs,ts,ps,Z,WA,Pp.Gd,λlr as H1 s1 sG _ R=>?_];lk;apply#[zl,λlf nf=>?_];lk;let#[fV,e2]:=aA (o:=.lst []) nf;generalize upd H1 lf (.lst [])=H2 at fV e2 ⊢;let s2:=s1.trans fV;have rB:H lf=none:=s1.free nf;apply#[_,Z,zl,λle ne=>?_];let#[jS,e3]:=aA (o:=.lst []) ne;generalize upd H2 le (.lst [])=H3 at jS e3 ⊢;apply#[zl,λlo no=>?_];let#[eY,e4]:=aA (o:=.lst [.ref le]) no;generalize upd H3 lo (.lst [.ref le])=H4 at eY e4 ⊢;let R4:=((R.same fV).same jS).same eY;let la:=bK R4.2;let tl:=Yx (aK ts) [];rw[E1] at tl;let sk:=Pp.Gd.sk
 have lr64:(turnsOf (aK ts)).length<64:=by
  show ((aK ts).foldl ip []).length<64;rw[we] at tl;omega
 apply#[lr,lo,_,_,Z,Z,R4.1,e4,by rw[ao];show as.length+1<=_;omega,λlc nc=>?_];let#[i7,e5]:=aA (o:=.lst (as.map V.ref++[.ref le])) nc;generalize upd H4 lc (.lst (as.map V.ref++[.ref le]))=H5 at i7 e5 ⊢;let uQ:=(jS.trans eY).trans i7;let R5:=R4.same i7;let s5:=s2.trans uQ;let f5:=uQ _ _ e2;let#[ar,zs,Z8,hz,tz,wR]:=lt_ (m:=m) R5 ((eY.trans i7) _ _ e3)
 have arf:lf≠ar:=by
  rcases wR with h|h
  ·let#[j,hj,e]:=si h;let#[zz,Y4,_]:=iz R.2 j hj Z1;rw[e] at Y4;exact (bj Y4 nf).symm
  rw[h];exact bj e2 ne
 have mp:0<(if ((as.map V.ref).length:Int) > 1 then ((as.map V.ref).length:Int) else 1):=by split<;>omega
 apply#[_,Z,_,Z,lr,_,Z,.inl (.of R5.1),_,_,Z,_,_,Z,Z,mp,lc,_,_,_,Z,Z,.of e5,Z8,ar,Z,#[_,.of hz],?_];let lz:=bK tz;rw[ao] at lz;let r64:=Y_ Pp.Gd m;have Oa:∀u∈hZ ts m,u.1∈hs.map (·.1)/\u.2∈hs.map (·.1):=λu hu=>#[(fG hs).mem_iff.mp (Mp Pp.Gd (MX hu)).1,(fG hs).mem_iff.mp (Mp Pp.Gd (MX hu)).2];clear e5 Z8 R R4 R5 e3 e4 fV jS eY i7 uQ wR e2;apply fY (K:=K) (a:=ar) (xs:=zs) (λi σ H'=>∃(v6 v7 v8 v9:aF) (ys:ai),σ=[some (.ref wa),some (.ref sd),some (.int m),some (.str gd),some (.ref lr),some (.ref lf),v6,v7,v8,v9]/\aa H H'/\a_ lf H5 H'/\H' lf\.lst ys/\bg K H' ys ((((hZ ts m).take i).flatMap (vK hs ts qs f gd)).map kM)) #[none,none,none,none,[],Z,s5,a_.refl _ _,f5,.nil] (λi σ H' _ ⟨_,_,_,_,_,_,_,b,_⟩=>.of (b _ _ hz arf.symm)) ?_ ?_
 ·rintro i x σ H6 hx ⟨v6,v7,v8,v9,ys,rfl,s6,b6,f6,t6⟩;let#[u,hu,a,rfl,ha]:=jx tz hx;have hi:i<(hZ ts m).length:=(cq.mp hu).1;let#[n1,n2]:=Oa u (cj hu);have HN:H6 a\.tup [.str u.1,.str u.2]:=b6 _ _ ha (cu ha f5 nofun);apply#[a,_,Z,.of HN,Z,_,_,Z,_,_,Z,Z,?_];dsimp only;let ly:=bK t6;rw[ao] at ly;let bl:=R9 (Zq hs ts qs f gd) ((hZ ts m).take i);rw[cX] at bl;apply#[_,Z,_,Z,zl,λt1 m1=>?_];let#[BK,e7]:=aA (o:=.tup [.str u.1,.str u.2]) m1;generalize upd H6 t1 (.tup [.str u.1,.str u.2])=H7 at BK e7 ⊢;apply#[_,Z,_,Z,zl,λt2 m2=>?_];let#[km,e8]:=aA (o:=.tup [.str u.2,.str u.1]) m2;generalize upd H7 t2 (.tup [.str u.2,.str u.1])=H8 at km e8 ⊢;apply#[zl,λlp np=>?_];let#[rp,e9]:=aA (o:=.lst [.ref t1,.ref t2]) np;generalize upd H8 lp (.lst [.ref t1,.ref t2])=H9 at rp e9 ⊢;let FZ:=(BK.trans km).trans rp;let s9:=s6.trans FZ;let f9:=FZ _ _ f6;let t9:=t6.same FZ;let a9:=(km.trans rp) _ _ e7;let c9:=rp _ _ e8;have lpf:lp≠lf:=λz=>by rw[z,(BK.trans km) _ _ f6] at np;cases np
  have b9:a_ lf H5 H9:=λb o e n=>FZ _ _ (b6 _ _ e n);clear BK km rp FZ e7 e8 f6 t6;apply#[lp,Z,#[_,.of e9],fY (K:=K) (a:=lp) (xs:=[.ref t1,.ref t2]) (λj σ H'=>∃(v8 v9:aF) (ys:ai),σ=[some (.ref wa),some (.ref sd),some (.int m),some (.str gd),some (.ref lr),some (.ref lf),some (.str u.1),some (.str u.2),v8,v9]/\aa H H'/\a_ lf H9 H'/\H' lf\.lst ys/\bg K H' ys ((((hZ ts m).take i).flatMap (vK hs ts qs f gd)++(([(u.1,u.2),(u.2,u.1)]:Xb).take j).flatMap λp=>iC hs ts qs f gd [] p.1 p.2).map kM)/\ys.length<=128+j) #[_,_,ys,Z,s9,a_.refl _ _,f9,by simpa using t9,by omega] (λj σ H' _ ⟨_,_,_,_,_,b,_⟩=>.of (b _ _ e9 lpf)) ?_ ?_]
  ·rintro j x σ HA hx ⟨v8,v9,ys,rfl,sA,bA,fA,tA,lA⟩
   obtain⟨p,tp,rfl,hp,Wl,pj⟩:∃(p:Str × Str) (tp:Addr),x=.ref tp/\(p.1∈hs.map (·.1)/\p.2∈hs.map (·.1))/\H9 tp\.tup [.str p.1,.str p.2]/\([(u.1,u.2),(u.2,u.1)]:Xb)[j]? = some p:=by
    match j,hx with
    |0,hx=>exact#[(u.1,u.2),t1,(eK hx).symm,#[n1,n2],a9,Z]
    |1,hx=>exact#[(u.2,u.1),t2,(eK hx).symm,#[n2,n1],c9,Z]
    |_+2,hx=>cases hx
   have WK:j<2:=(cq.mp pj).1;let Wp:=bA _ _ Wl (cu Wl f9 nofun)
   have st:(([(u.1,u.2),(u.2,u.1)]:Xb).take (j+1)).flatMap (λp=>iC hs ts qs f gd [] p.1 p.2)=(([(u.1,u.2),(u.2,u.1)]:Xb).take j).flatMap (λp=>iC hs ts qs f gd [] p.1 p.2)++iC hs ts qs f gd [] p.1 p.2:=by
    rw[iw,pj,Option.toList_some,A8,xy,List.flatMap_nil,hG]
   rw[st,<- xA];let bm:=l0_ Pp Qq (gd:=gd) hp.1 hp.2;lk;apply#[_,Z,_,Z,_,Z,_,Z,zl,λlg ng=>?_];let#[K6,eB]:=aA (o:=.lst []) ng;generalize upd HA lg (.lst [])=HB at K6 eB ⊢;let sB:=sA.trans K6;apply#[wa,sd,tp,lg,p.1,p.2,gd,[],hs,ts,ps,f,Z,WA.nt (NT.of sB),Pp,sB _ _ iB,K6 _ _ Wp,hp.1,hp.2,Cp,eB,λHC sBC=>?_];lk;let DL:=K6.trans sBC;let fC:=DL _ _ fA;let tC:=tA.same DL;have bC:a_ lf H9 HC:=λb o e n=>DL _ _ (bA _ _ e n);apply#[_,Z,Z,_,Z,?_];cases eb:rP hs ts ps f gd [] p.1 p.2 with
   |none=>
    rw[eb] at bm;dsimp only at bm;apply aQ (λc=>by simp[fN] at c) (λc=>?_);rw[bm,hG];exact#[_,_,ys,Z,sA.trans DL,bC,fC,tC,by omega]
   |some n=>
    rw[eb] at bm;dsimp only at bm;apply aQ (λc=>?_) (λc=>by simp[fN] at c);rw[bm,show fN (some n)=V.str n from Z];have Wn:HC tp\.tup [.str p.1,.str p.2]:=DL _ _ Wp;apply#[_,Z,.inl #[Z,_,.of fC],_,Z,_,Z,tp,_,0,.str p.1,Z,Z,.of Wn,L2.iX (j:=0) Z,_,Z,tp,_,1,.str p.2,Z,Z,.of Wn,L2.iX (j:=1) Z,zl,λt nt=>?_];let#[FX,eD]:=aA (o:=.tup [.str n,.str p.1,.str p.2]) nt;generalize upd HC t (.tup [.str n,.str p.1,.str p.2])=HD at FX eD ⊢;let fD:=FX _ _ fC;apply#[lf,_,_,Z,Z,fD,by omega,?_];apply#[_,_,ys++[.ref t],Z,fF (sA.trans (DL.trans FX)) rB,λb o e n=>(ax n).trans (FX _ _ (bC _ _ e n)),ay,?_,by rw[eA];show ys.length+1<=_;omega];rw[bY];exact jb (vX (tC.same FX) eD) fD
  rintro σ HA ⟨v8,v9,ys,rfl,sA,bA,fA,tA,lA⟩;apply#[_,_,_,_,ys,Z,sA,λb o e n=>bA _ _ (b9 _ _ e n) n,fA,?_]
  have e:((hZ ts m).take (i+1)).flatMap (vK hs ts qs f gd)=((hZ ts m).take i).flatMap (vK hs ts qs f gd)++(([(u.1,u.2),(u.2,u.1)]:Xb).take 2).flatMap λp=>iC hs ts qs f gd [] p.1 p.2:=by
   rw[iw,hu,Option.toList_some,A8];simp[vK]
  rw[e];exact tA
 rintro σ H6 ⟨v6,v7,v8,v9,ys,rfl,s6,b6,f6,t6⟩;rw[lz,dz] at t6;exact#[_,Z,k lf ys H6 s6 rB f6 t6]
end
def wY:ae:=me
def sy(i:Nat):ae:=(["shares one","shares all"]:ae)++(wY.take i).flatMap λg=>[("turns ":Str)++g,("least one ":Str)++g,("least all ":Str)++g,("below one ":Str)++g,("below all ":Str)++g]
theorem mp_:∀x∈sy 3,∃r∈rl,r.1=x:=by decide +kernel
theorem kv_:(sy 3).length=17:=by decide +kernel
theorem mk_:∀g∈wY,g.length<=10:=by decide +kernel
theorem lx_:("turns ":Str).length<=20/\("least one ":Str).length<=20/\("least all ":Str).length<=20/\("below one ":Str).length<=20/\("below all ":Str).length<=20:=by decide +kernel
theorem me_(i:Nat)(h:i<=3):(sy i).length<=17:=by
 have:i=0∨i=1∨i=2∨i=3:=by omega
 rcases this with rfl|rfl|rfl|rfl<;>decide +kernel
section v
theorem Jh:bx [oT,"_law_guard"] [] (ba Q9):=bH
def XS:Sp:=λvs H Q _=>vs=[]/\∀l H',aa H H'->H l=none->H' l\.lst ((sy 3).map V.str)->Q (.ref l) H'
theorem iC_(F:bp K "_law_rules" "_law_rules" Q9 f0 fd):!aj aZ 1 f0 fd [] XS:=by
 exists F.bG Jh;let#[rfl,k]:=h;let sz:=cc;refine' #[_,ak ?s1 (ak ?s2 (aE (bo (pv 0)))),?kk]
 case s1=>exact aO 0 Jh.nd (cy %[cn,cn|0])
 case' s2=>refine' eE dM Z (dA (cy %[cn,cn,cn|0])) (bN 1 Jh.nd) (ak ?b1 (aE ?b2))
 case b1=>exact aO 0 Jh.nd (bw C0 (pv 0) (cy %[bw AZ cn (pv 1),bw AZ cn (pv 1),bw AZ cn (pv 1)|0]))
 case b2=>exact aO 0 Jh.nd (bw C0 (pv 0) (cy %[bw AZ cn (pv 1),bw AZ cn (pv 1)|0]))
 apply#[zl,λl0 n0=>?_];let#[s0,e0]:=aA (o:=.lst [.str "shares one",.str "shares all"]) n0;generalize upd H l0 (.lst [.str "shares one",.str "shares all"])=H0 at s0 e0 ⊢;lk;apply#[zl,λlg ng=>?_];let#[s1,e1]:=aA (o:=.lst [.str "high",.str "fall",.str "calm"]) ng;generalize upd H0 lg (.lst [.str "high",.str "fall",.str "calm"])=H1 at s1 e1 ⊢;have e1:H1 lg\.lst (wY.map V.str):=e1;let Lc:=s0.trans s1;let n0':=n0
 let JM:bI:=λi σ H'=>∃(l:Addr) (v1:aF),σ=[some (.ref l),v1]/\aa H H'/\aa H1 H'/\H l=none/\H' l\.lst ((sy i).map V.str)
 apply#[lg,Z,#[_,.of e1],fY (K:=K) (a:=lg) (xs:=wY.map V.str) JM #[l0,none,Z,Lc,aa.refl _,n0,s1 _ _ e0] (λi σ H' _ ⟨_,_,_,_,z,_⟩=>.of (z _ _ e1)) ?_ ?_]
 ·rintro i x σ H2 hx ⟨l,v1,rfl,s2,fV,nl,e2⟩;let#[g,hg,rfl]:=i0 hx;have hi:i<3:=(cq.mp hg).1;let gl:=mk_ g (cj hg);let pl:=lx_;let rl':=me_ i Z1;lk;apply#[_,Z,_,Z,_,_,Z,Z,by omega,_,Z,_,_,Z,Z,by omega,_,Z,_,_,Z,Z,by omega,zl,λa na=>?_];let#[s3,e3]:=aA (o:=.lst [.str (("turns ":Str)++g),.str (("least one ":Str)++g),.str (("least all ":Str)++g)]) na;generalize upd H2 a (.lst [.str (("turns ":Str)++g),.str (("least one ":Str)++g),.str (("least all ":Str)++g)])=H3 at s3 e3 ⊢;apply#[l,a,_,_,Z,Z,s3 _ _ e2,e3,by rw[ao];show _+3<=sizeLine;omega,λb nb=>?_];let#[s4,e4]:=aA (o:=.lst ((sy i).map V.str++[.str (("turns ":Str)++g),.str (("least one ":Str)++g),.str (("least all ":Str)++g)])) nb;generalize upd H3 b (.lst ((sy i).map V.str++[.str (("turns ":Str)++g),.str (("least one ":Str)++g),.str (("least all ":Str)++g)]))=H4 at s4 e4 ⊢;lk;apply#[_,Z,_,Z,_,_,Z,Z,by omega,_,Z,_,_,Z,Z,by omega,zl,λc nc=>?_];let#[s5,e5]:=aA (o:=.lst [.str (("below one ":Str)++g),.str (("below all ":Str)++g)]) nc;generalize upd H4 c (.lst [.str (("below one ":Str)++g),.str (("below all ":Str)++g)])=H5 at s5 e5 ⊢;apply#[b,c,_,_,Z,Z,s5 _ _ e4,e5,by rw[eA,ao];show _+3+2<=sizeLine;omega,λe ne=>?_];let uQ:=(s3.trans s4).trans s5;apply#[e,_,Z,(s2.trans uQ).trans (aa.new ne),(fV.trans uQ).trans (aa.new ne),(s2.trans uQ).free ne,?_]
  rw[ay,show sy (i+1)=sy i++[("turns ":Str)++g,("least one ":Str)++g,("least all ":Str)++g,("below one ":Str)++g,("below all ":Str)++g] by
   unfold sy;rw[iw,hg,Option.toList_some,A8,xy,List.flatMap_nil,hG,xA],bY,xA]
  rfl
 rintro σ H2 ⟨l,v1,rfl,s2,_,nl,e2⟩;exact#[_,Z,k l H2 s2 nl e2]
end
def AC(r:Rl):Bool:=match Txt.split r.1 " " with
 |[a,b]=>(decide (a="turns")&&(decide (r.2.1="turns")&&(decide (r.2.2.2\b)&&decide (b∈wY)))) || (decide (a="shares")&&(decide (r.2.1="shares")&&decide (b=r.2.2.1)))
 |[a,b,c]=>decide (a=r.2.1)&&((decide (r.2.1="least") || decide (r.2.1="below"))&&(decide (b=r.2.2.1)&&(decide (r.2.2.2\c)&&decide (c∈wY))))
 |_=>false
theorem j5_:rl.all AC=true:=by decide +kernel
inductive RF (r:Rl) (ws:ae):Prop
 |t (gd:Str) (e:ws=([("turns":Str),gd]:ae)) (h:r.2.1="turns") (hg:r.2.2.2\gd) (hm:gd∈wY)
 |s (e:ws=([("shares":Str),r.2.2.1]:ae)) (h:r.2.1="shares")
 |l (gd:Str) (e:ws=[r.2.1,r.2.2.1,gd]) (h:r.2.1="least"∨r.2.1="below") (hg:r.2.2.2\gd) (hm:gd∈wY)
theorem lG_{r:Rl}(h:r∈rl):RF r (Txt.split r.1 " "):=by
 have:=List.all_eq_true.mp j5_ r h;unfold AC at this;revert this;split
 ·rename_i a b e
  intro q;simp only[xI,Bool.or_eq_true,mO] at q;rcases q with⟨q1,q2,q3,q4⟩|⟨q1,q2,q3⟩
  ·exact .t b (by rw[e,q1]) q2 q3 q4
  exact .s (by rw[e,q1,q3]) q2
 ·rename_i a b c e
  intro q;simp only[xI,Bool.or_eq_true,mO] at q;let#[q1,q2,q3,q4,q5]:=q;exact .l c (by rw[e,q1,q3]) q2 q4 q5
 intro q;cases q
theorem iZ_:∀r∈rl,r.1.length<=1000:=by decide +kernel
theorem QL(r:Rl)(hs:Xa)(ts:Xb)(qs:aC)(f:ag)(h:Str)(W:Wd hs ts qs f):(oX r hs ts qs f h).length<=1000:=by
 unfold oX;split
 ·exact qJ (i2_ r hs ts qs f h) (by decide)
 split
 ·exact qJ (hP_ r hs ts qs f h W) (by decide)
 exact gx_ r hs ts qs f h W
theorem Wb{α β:Type}{g:α->List β}{k:Nat}:∀{l:List α},(∀x∈l,(g x).length<=k)->(l.flatMap g).length<=k * l.length
 |[],_=>by simp
 |x::l,h=>by
  rw[xy,eA,iG,Nat.mul_succ];let a:=h x cZ;let b:=Wb (l:=l) λy hy=>h y (dJ _ hy);omega
theorem str0(a b:Str):decide (V.str a=V.str b)=decide (a=b):=by
 by_cases h:a=b
 ·rw[h];simp
 rw[dU h,dU λz=>h (V.str.inj z)]
section v
abbrev lmN:ae:=[gE,i9,"_law_rule","_law_moment","_law_words",oT,vI]
theorem EI:bx lmN Eo (ba Ro):=bH
structure zy (K:af) (H:Hp) (wa sd:Addr) (hs:Xa) (ts:Xb) (ps qs:aC) (f:ag):Prop where
 W:oZ K H wa hs ts ps
 P:Pw hs ts ps f
 Q:Qs ps qs
 D:Wd hs ts qs f
 hs:H sd\.dK (b_ (ps.map (·.1)) f)
inductive Sm (K:af) (vs:ai) (H:Hp) (Q:VK) (E:XK):Prop
 |mk:∀(wa sd:Addr) (m:Int) (hs:Xa) (ts:Xb) (ps qs:aC) (f:ag),∀r∈rl,vs=[.ref wa,.ref sd,.str r.1,.int m]->zy K H wa sd hs ts ps qs f->(∀l ys H',aa H H'->H l=none->H' l\.lst ys->bg K H' ys ((qi r hs ts qs f m).map kM)->Q (.ref l) H')->Sm K vs H Q E
theorem hI_(F:bp K "_law_moves" "_law_moves" Ro f0 fd)(B:Bi mg)(cT:!br 3 "_law_by_turn" wz (Q6 K))(cS:!br 2 "_law_by_share" Ex (RV K))(cB:!br 3 "_law_by_low" wx (RA K)):!aj aZ 4 f0 fd Eo (Sm K):=by
 exists F.bG EI;let#[wa,sd,m,hs,ts,ps,qs,f,r,Av,rfl,L,k]:=h;let hu:=eO hr;let sz:=cc;refine' #[_,ak ?s1 (ak ?s2 (ak ?s3 (ak ?s4 (aE ?s5)))),?kk]
 case s1=>exact aO 4 EI.nd (gC PySem.F.plainAttrs_str PySem.F.slot_str_split PySem.F.type_str_split hK_ (pv 2) %[cn|0])
 case s2=>exact aO 5 EI.nd (cy aJ)
 case s3=>exact bP (c_ iF (bM gi (pv 4) aI) cn) (aE (bo (aX cT hr %[0,1,3,bM gi (pv 4) aI|0]))) bQ
 case' s4=>refine' eE dM Z (dA (cQ (ZJ Z) (by rfl) B.sorted zh %[bV hu (pv 0) cn|0])) (bN 6 EI.nd) (aE (bP ?c1 (aE ?b1) (aE ?b2)))
 case c1=>exact c_ iF (bM gi (pv 4) aI) cn
 case b1=>exact aO 5 EI.nd (bw C0 (pv 5) (aX cS hr %[0,1,6|0]))
 case b2=>exact aO 5 EI.nd (bw C0 (pv 5) (aX cB hr %[0,1,6,4|0]))
 case s5=>exact bo (Yc (c_ iF (bM gi (pv 4) aI) cn) (xq A2 (pv 5) xo (xn aI)) (pv 5))
 let rsl:=iZ_ r Av;let rf:=lG_ Av;let h8:=L.P.Gd.h8;let nl:=L.P.Gd.eU;apply#[_,Z,Z,r.1," ",32,Z,Z,Z,by omega,λlw nlw=>?_];have QQ:∃ws,ws=Txt.split r.1 " ":=#[_,Z];let#[ws,QQ]:=QQ;rw[<- QQ] at rf ⊢;let#[s1,e1]:=aA (o:=.lst (ws.map V.str)) nlw;generalize upd H lw (.lst (ws.map V.str))=H1 at s1 e1 ⊢;lk;apply#[zl,λlf nf=>?_];lk;let#[s2,f2]:=aA (o:=.lst []) nf;generalize upd H1 lf (.lst [])=H2 at s2 f2 ⊢;let hW:=s1.trans s2;let e2:=s2 _ _ e1;have rB:H lf=none:=s1.free nf
 obtain⟨w0,w1,wr,ew⟩:∃w0 w1 wr,ws=w0::w1::wr:=by
  rcases rf with⟨gd,e,_⟩|⟨e,_⟩|⟨gd,e,_⟩
  ·exact#[_,_,_,e]
  ·exact#[_,_,_,e]
  exact#[_,_,_,e]
 have Z9:gK (ws.map V.str) 0\.str w0:=by rw[ew];exact L2.iX (j:=0) Z
 have M6:gK (ws.map V.str) 1\.str w1:=by rw[ew];exact L2.iX (j:=1) Z
 have e0:w0=r.2.1:=by
  rcases rf with⟨gd,e,h,_⟩|⟨e,h⟩|⟨gd,e,_⟩
  ·rw[ew] at e;rw[h];exact (o5 e).1
  ·rw[ew] at e;rw[h];exact (o5 e).1
  rw[ew] at e;exact (o5 e).1
 have ha0:r.2.1≠"turns"->w1=r.2.2.1:=λnt=>by
  rcases rf with⟨gd,e,h,_⟩|⟨e,h⟩|⟨gd,e,_⟩
  ·exact absurd h nt
  ·rw[ew] at e;exact (o5 (o5 e).2).1
  rw[ew] at e;exact (o5 (o5 e).2).1
 subst e0
 let Kw:bZ:=λσ H'=>r.2.1≠"turns"/\H2=H'/\σ=[some (.ref wa),some (.ref sd),some (.str r.1),some (.int m),some (.ref lw),some (.ref lf),none]
 apply dg Kw ?m2 (λN1 g9=>?m1)
 case m1=>
  apply#[_,Z,lw,_,_,_,Z,Z,.of e2,Z9,Z,_,Z,?_];rw[str0];apply aQ (λc=>?_) (λc=>?_)
  ·have c:r.2.1="turns":=l_ c
   obtain⟨gd,hg,hm,vG⟩:∃gd,r.2.2.2\gd/\gd∈wY/\w1=gd:=by
    rcases rf with⟨gd,e,h,hg,hm⟩|⟨e,h⟩|⟨gd,e,h,_⟩
    ·rw[ew] at e;exact#[gd,hg,hm,(o5 (o5 e).2).1]
    ·rw[h] at c;exact absurd c Z0
    rcases h with h|h
    ·rw[h] at c;exact absurd c Z0
    rw[h] at c;exact absurd c Z0
   subst vG;apply#[_,Z,_,Z,_,Z,_,Z,lw,_,_,_,Z,Z,.of e2,M6,wa,sd,m,w1,hs,ts,ps,qs,f,Z,L.W.nt (NT.of hW),L.P,L.Q,hW _ _ L.hs,hm,λl ys H3 s3 nl3 l3 t3=>?_];apply k l ys H3 (hW.trans s3) (hW.free nl3) l3 ?_;unfold qi;rw[aB c,hg];exact t3
  have c:r.2.1≠"turns":=λz=>c (cw z);exact g9 _ _ #[c,Z,Z]
 rintro σ _ ⟨nt,rfl,rfl⟩;let _Y:=ha0 nt;subst _Y;let#[ds,dn,lt,dh,dy,ad,gy,W]:=id (L.W.nt (NT.of hW));apply#[_,Z,wa,_,Z,W.gS,ds,_,hs.map (·.1),Z,W.sg,ET _ _,by rw[ao];omega,λln nn=>?_];rw[<- h1_];let#[s3,e3]:=aA (o:=.lst ((aD hs).map V.str)) nn;generalize upd H2 ln (.lst ((aD hs).map V.str))=H3 at s3 e3 ⊢;let ji:=hW.trans s3
 let Kv:bI:=λi σ H'=>∃(v6:aF) (lf:Addr) (ys:ai),σ=[some (.ref wa),some (.ref sd),some (.str r.1),some (.int m),some (.ref lw),some (.ref lf),v6]/\aa H3 H'/\H lf=none/\H' lf\.lst ys/\bg K H' ys ((((aD hs).take i).flatMap (oX r hs ts qs f)).map kM)
 apply#[ln,Z,#[_,.of e3],fY (K:=K) (a:=ln) (xs:=(aD hs).map V.str) Kv #[none,lf,[],Z,aa.refl _,rB,s3 _ _ f2,.nil] (λi σ H' _ ⟨_,_,_,_,z,_⟩=>.of (z _ _ e3)) ?_ ?_]
 ·rintro i x σ H4 hx ⟨v6,lf,ys,rfl,s4,nf,f4,t4⟩;let#[h,hh,rfl]:=i0 hx;have hi:i<(aD hs).length:=(cq.mp hh).1;have hm:h∈hs.map (·.1):=(fG hs).mem_iff.mp (cj hh);let jC:=ji.trans s4;let l3:=Wb (g:=oX r hs ts qs f) (l:=(aD hs).take i) (k:=1000) λx _=>QL r hs ts qs f x L.D;let l4:=QL r hs ts qs f h L.D;rw[cX] at l3;let l1:=bK t4;rw[ao] at l1
  have fin:∀lq zs H5,aa H4 H5->H5 lq\.lst zs->bg K H5 zs ((oX r hs ts qs f h).map kM)->(lf:Addr)=lf->BP (.ref lf) (.ref lq) H5 (λv H'=>∃(v6:aF) (lf:Addr) (ys:ai),[some (V.ref wa),some (.ref sd),some (.str r.1),some (.int m),some (.ref lw),some v,some (.str h)]=[some (.ref wa),some (.ref sd),some (.str r.1),some (.int m),some (.ref lw),some (.ref lf),v6]/\aa H3 H'/\H lf=none/\H' lf\.lst ys/\bg K H' ys ((((aD hs).take (i+1)).flatMap (oX r hs ts qs f)).map kM)):=λlq zs H5 s5 q5 t5 _=>by
   let l2:=bK t5;rw[ao] at l2;apply#[lf,lq,ys,zs,Z,Z,s5 _ _ f4,q5,by omega,λlz nz=>?_];let s6:=aa.new (o:=.lst (ys++zs)) nz;apply#[_,lz,ys++zs,Z,(s4.trans s5).trans s6,(jC.trans s5).free nz,ay,?_];rw[eZ hh,A8,bY,xy,List.flatMap_nil,hG];exact kI (t4.same (s5.trans s6)) (t5.same s6)
  lk;let e4:=s4 _ _ (s3 _ _ e2);apply#[_,Z,lw,_,_,_,Z,Z,.of e4,Z9,Z,_,Z,?_];rw[str0];apply aQ (λc=>?_) (λc=>?_)
  ·have c:r.2.1="shares":=l_ c;apply#[_,Z,_,Z,_,Z,_,Z,wa,sd,h,hs,ts,ps,qs,f,Z,L.W.nt (NT.of jC),L.P,L.Q,L.D,jC _ _ L.hs,hm,λlq zs H5 s5 nq q5 t5=>?_];exact fin lq zs H5 s5 q5 (by rw[Zt c];exact t5) Z
  have c:r.2.1≠"shares":=λz=>c (cw z)
  obtain⟨gd,hg,Cp,vG,lb⟩:∃gd,r.2.2.2\gd/\gd∈wY/\ws=[r.2.1,r.2.2.1,gd]/\(r.2.1="least"∨r.2.1="below"):=by
   rcases rf with⟨gd,e,h,hg,hm⟩|⟨e,h⟩|⟨gd,e,h,hg,hm⟩
   ·exact absurd h nt
   ·exact absurd h c
   exact#[gd,hg,hm,e,h]
  rw[vG] at e4;have wO:(di ts h).length<64:=by have:=my_ L.P.Gd h;omega
  apply#[_,Z,_,Z,_,Z,_,Z,_,Z,wa,sd,lw,h,r.2.1,r.2.2.1,gd,hs,ts,ps,f,Z,L.W.nt (NT.of jC),L.P,jC _ _ L.hs,hm,wO,e4,Cp,λlq zs H5 s5 nq q5 t5=>?_];apply fin lq zs H5 s5 q5 ?_ Z;rcases lb with lb|lb
  ·rw[YR lb];rw[lb,mb_ L.P L.Q hm] at t5;unfold ze;rw[hg];exact t5
  rw[Yt lb];rw[lb,kH_ L.P L.Q hm] at t5;unfold AX;rw[hg];exact t5
 rintro σ H4 ⟨v6,lf,ys,rfl,s4,nf,f4,t4⟩;rw[ao,dz] at t4;let jC:=ji.trans s4;apply#[_,Z,lw,_,_,_,Z,Z,.of (s4 _ _ (s3 _ _ e2)),M6,Z,_,Z,?_];rw[str0];apply aQ (λc=>?_) (λc=>?_)
 ·have c:r.2.2.1="one":=l_ c;apply#[_,Z,_,Z,lf,_,Z,.of f4,λlq nq=>?_];rw[show gB ys none (some 1)=ys.take 1 from Dn ys 1];let s5:=aa.new (o:=.lst (ys.take 1)) nq;apply k lq _ _ (jC.trans s5) (jC.free nq) ay ?_;unfold qi C8;rw[au nt,aB c,List.map_take];exact Jq 1 (t4.same s5)
 have c:¬r.2.2.1="one":=λz=>c (cw z);apply#[_,Z,k lf ys H4 jC nf f4 ?_];unfold qi C8;rw[au nt,au c];exact t4
end
section v
theorem pX:bx ["goods","placed","levels"] mM (ba oi):=bH
def k8(hs:Xa)(qs:aC)(f:ag):Int:=sumF (aD hs) (ld f (qs.map d9)) λh=>i8 hs / strOf hs h
inductive Rm (K:af) (CG CW:Addr) (vs:ai) (H:Hp) (Q:VK) (E:XK):Prop
 |mk:∀(g p d:Addr) (hs:Xa) (ts:Xb) (qs:aC) (fp:az) (f:ag),vs=[.ref g,.ref d]->xc K CG CW H g p d hs ts qs fp f->(∀q∈qs,0<=q.2.1/\q.2.1<=1000000000)->(∀H',aa H H'->Q (.int (k8 hs qs f)) H')->Rm K CG CW vs H Q E
theorem jr_{f CG CW:Addr}(F:bp K "sum_at" "sum_at" oi f fd)(OB:mg "sum"=none)(cL:!br 3 "loads_at" mM (IX K CG CW))(cV:!br 4 "levels_at" mM (MW K CG CW)):!aj aZ 5 f fd mM (Rm K CG CW):=by
 exists F.bG pX;let#[g,p,d,hs,ts,qs,fp,f,rfl,Pl,wp,k]:=h;let hu:=eO hr;let sz:=cc;let nl:=Pl.Gd.eU;let h8:=Pl.Gd.h8;refine' #[_,ak ?s1 (aE ?s2),?kk]
 case s1=>exact aO 2 pX.nd (aX cV hr %[0,1|0])
 case' s2=>refine' bo (cQ (iB_ Z) (by rfl) OB PyProof.Rows.boot_sum %[i4 ["hand","load","levels"] 2 [2] (MH (IM (aX cL hr %[0,1|0]))) (λfp s H=>?g1) (λfp s H=>iH) (λfp s H=>?e1)|0])
 case g1=>exact II (n:=2) (cU (e_ (i:=0) (show (["hand","load","levels"]:ae).Nodup by decide +kernel) Z (Or.inl Z)) (cU (e_ (i:=1) (show (["hand","load","levels"]:ae).Nodup by decide +kernel) Z (Or.inl Z)) iA))
 case e1=>exact bw jI (pv 1) (bV hu (pv 2) (pv 0))
 apply#[_,Z,_,Z,g,p,d,hs,ts,qs,fp,f,Z,Pl,wp,λdv H1 s1 n1 e1=>?_];have T7:xc K CG CW H1 g p d hs ts qs fp f:=#[Pl.G.same s1,Pl.Gd,Pl.rO,s1 _ _ Pl.hd,Pl.at_,Pl.nd,Pl.cz];apply#[_,Z,_,Z,g,p,d,hs,ts,qs,fp,f,Z,T7,λdl H2 s2 n2 e2=>?_];apply#[dl,_,Z,e2,λv hv=>?_];let#[s3,qk]:=aA (o:=rY v dl) hv;let e3:=s3 _ _ e2;let jh:=s2.trans s3;generalize upd H2 v (rY v dl)=H3 at s3 qk e3 jh ⊢;apply#[v,dl,_,Z,qk,e3,λo D hD=>?_];have dvl:dv≠dl:=bj e1 n2;have sf:aa H1 (upd H3 dl (.frz o (.dK (yC hs qs f)))):=fF jh n2;have ef:upd H3 dl (.frz o (.dK (yC hs qs f))) dl\.frz o (.dK (yC hs qs f)):=ay;generalize upd H3 dl (.frz o (.dK (yC hs qs f)))=H4 at sf ef hD ⊢
 let Kx:dH:=λi out H'=>aa H4 H'/\H' D\.lst out/\out=(((aD hs).take i).map λh=>ld f (qs.map d9) h * oM hs qs f h).map V.int
 apply gX_ (own:=2) (fv:=[some (.ref dv)]) Z Cw Kx #[aa.new hD,ay,Z] (λi out H' _ ⟨sm,_,_⟩=>sm _ _ ef) (λout H5 ⟨sm,yN,eo⟩=>?_) (λi ky x out H' hx ⟨sm,eN,eo⟩ t ht=>?_)
 ·rw[f_,dz] at eo;rw[eo] at yN;exact#[D,_,Z,.of yN,k H5 (s1.trans (sf.trans sm))]
 let#[n,hn,rfl,rfl]:=xk hx;have hi:i<(aD hs).length:=(cq.mp hn).1;let nm:=cj hn;let lo:=Ei wp Pl.cz f n;let#[ss,et]:=aA (o:=.tup [.str n,.int (ld f (qs.map d9) n)]) ht;apply#[[some (.str n),some (.int (ld f (qs.map d9) n))],#[t,_,_,Z,.of et,Z],Z,λNx hN=>dW ?_];let s4:=(sf.trans sm).trans ss;let sD:=ss _ _ eN;let s5:=sm.trans ss;show Fw _ _ _ _ (upd H' t (.tup [.str n,.int (ld f (qs.map d9) n)])) _;generalize upd H' t (.tup [.str n,.int (ld f (qs.map d9) n)])=H6 at s4 sD s5 ⊢;apply#[_,Z,_,Z,_,Z,dv,.int (oM hs qs f n),Z,?_,_,_,Z,Z,.inl #[by omega,by omega],out,sD,by rw[eo,ao,ao,cX];omega,hN _ _ #[fF s5 hD,ay,?_]]
 ·rw[<- ES (g:=λh=>V.int (oM hs qs f h)) nm];exact .k (k:=Sum.inr n) (s4 _ _ e1)
 rw[eZ hn,bY,bY,eo];rfl
end
variable{i:Nat}
theorem YQ{α:Type}{xs:List α}{x:α}(h:xs[i]? = some x):xs.take (i+1)=xs.take i++[x]:=by rw[iw,h];rfl
def rA(f:ag)(m:Mv):ag:=λn=>if n=m.1 then m.2.2 else f n
def lQ(f:ag)(ms:fW):ag:=ms.foldl rA f
theorem Yy(f:ag)(a:fW)(m:Mv):lQ f (a++[m])=rA (lQ f a) m:=by
 unfold lQ;rw[List.foldl_append];rfl
theorem XI{ns:ae}{f:ag}{m:Mv}(h:m.1∈ns):putK (b_ ns f) (Sum.inr m.1) (.str m.2.2)=b_ ns (rA f m):=by
 unfold b_;rw[Qv h];apply EV λn _=>?_;unfold rA;by_cases z:n=m.1
 ·rw[aB z,aB z]
 rw[au z,au z]
theorem Wv{H:Hp}{p:Addr}{m:Mv}(h:H p\.tup ((kM m).map kV)):H p\.tup [.str m.1,.str m.2.1,.str m.2.2]:=h
theorem V0{A:ae}{n:Str}:∀{ms:fW} {f:ag},(∀x∈ms,x.2.2∈A)->f n∈A->lQ f ms n∈A
 |[],_,_,h=>h
 |m::ms,f,a,h=>by
  show lQ (rA f m) ms n∈A;apply V0 (λx hx=>a x (by simp[hx])) ?_;unfold rA;split
  ·exact a m Z2
  exact h
section
variable{hs:Xa}{ts:Xb}{qs:aC}{f:ag}
def xJ(hs:Xa)(qs:aC)(x:Mv):Prop:=x.1∈qs.map (·.1)/\x.2.2∈aD hs
theorem LS{gd:Str}{gv:ae}(hb:b∈aD hs):∀x∈iC hs ts qs f gd gv a b,xJ hs qs x:=λx h=>by
 unfold iC at h;split at h
 ·rename_i n e
  let hm:=jw.mp h;subst hm;exact#[(L4 (List.mem_of_find?_eq_some e)).1,hb]
 cases h
theorem Qf{ms ns:fW}(a:∀x∈ms,xJ hs qs x)(b:∀x∈ns,xJ hs qs x):∀x∈ms++ns,xJ hs qs x:=λx h=>(fR.mp h).elim (a x) (b x)
theorem O9{gd h:Str}:∀{l:ae} {ms:fW},(∀o∈l,o∈aD hs)->(∀x∈ms,xJ hs qs x)->∀x∈qz hs ts qs f gd h ms l,xJ hs qs x
 |[],ms,_,a=>a
 |o::l,ms,hl,a=>by
  unfold qz;split
  ·exact O9 (λx hx=>hl x (by simp[hx])) (Qf a (LS (hl o Z2)))
  exact O9 (λx hx=>hl x (by simp[hx])) a
theorem Qg{h:Str}:∀{l:ae} {ms:fW},(∀o∈l,o∈aD hs)->(∀x∈ms,xJ hs qs x)->∀x∈oU hs ts qs f h ms l,xJ hs qs x
 |[],ms,_,a=>a
 |o::l,ms,hl,a=>by
  unfold oU;split
  ·apply Qg (λx hx=>hl x (by simp[hx])) (Qf a λx hx=>?_);let#[n,hn,rfl]:=bh.mp hx;exact#[(L4 ((ID _ _ _ _).subset hn)).1,hl o Z2]
  exact Qg (λx hx=>hl x (by simp[hx])) a
theorem Qk(W:Wd hs ts qs f)(r:Rl)(m:Int):∀x∈qi r hs ts qs f m,xJ hs qs x:=by
 have UI:∀h,∀o∈dO hs ts qs f h,o∈aD hs:=λh o ho=>CC ((MO hs ts qs f h).mem_iff.mp ho);unfold qi;split
 ·intro x hx;let#[t,ht,hx]:=List.mem_flatMap.mp hx;let#[t1,t2]:=Mp W.Gd (MX ht);exact Qf (LS t2) (LS t1) x hx
 have full:∀x∈(aD hs).flatMap (oX r hs ts qs f),xJ hs qs x:=λx hx=>by
  let#[h,hh,hx]:=List.mem_flatMap.mp hx;revert hx;unfold oX;split
  ·unfold ze zo;have:=UI h;split
   ·intro z;cases z
   rename_i o _ e
   rw[e] at this;exact LS (this o Z2) x
  split
  ·exact O9 (UI h) (λx z=>by cases z) x
  exact Qg (λo ho=>CC ho) (λx z=>by cases z) x
 unfold C8;split
 ·exact λx hx=>full x (List.mem_of_mem_take hx)
 exact full
def kX(r:Rl)(hs:Xa)(ts:Xb)(qs:aC)(m:Int)(f:ag):ag:=lQ f (qi r hs ts qs f m)
def runM(r:Rl)(hs:Xa)(ts:Xb)(qs:aC)(f:ag):Nat->Str->Str
 |0=>f
 |n+1=>kX r hs ts qs n (runM r hs ts qs f n)
theorem Wd.step(W:Wd hs ts qs f)(r:Rl)(m:Int):Wd hs ts qs (kX r hs ts qs m f):=#[W.Gd,W.nd,W.cz,λn hn=>V0 (λx hx=>(fG hs).mem_iff.mp (Qk W r m x hx).2) (W.at_ n hn),W.wq]
theorem Wd.run(W:Wd hs ts qs f)(r:Rl):∀n,Wd hs ts qs (runM r hs ts qs f n)
 |0=>W
 |n+1=>(W.run r n).step r n
end
section
variable{P:Ae}{w:Af}{K:af}{mg:Str->Option Aa}{base:Heap}{CS CG CW T1 T2:Addr}
abbrev paN:ae:=["goods","placed","rule","moment","after","piece","one","other"]
theorem Iw:bx paN wj (ba ou):=bH
inductive Ra (K:af) (CG CW T1 T2:Addr) (vs:ai) (H:Hp) (Q:VK) (E:XK):Prop
 |mk:∀(g p d:Addr) (m:Int) (hs:Xa) (ts:Xb) (qs:aC) (fp:az) (f:ag),∀r∈rl,vs=[.ref g,.ref d,.str r.1,.int m]->0<=m->Pld K CG CW T1 T2 H g p d hs ts qs fp f->(∀d' H',BT T1 T2 H H'->Tb H' T1 T2->H d'=none->H' d'\.dK (b_ (qs.map (·.1)) (kX r hs ts qs m f))->Q (.ref d') H')->Ra K CG CW T1 T2 vs H Q E
theorem jR_(F:bp K "placed_after" "placed_after" ou f0 fd)(B:Bi mg)(SX:!pE CS 7 "Sight" qN (Rv K CS CG CW T1))(SR:!br 7 "moves_seen" AJ (Rk K CS CG CW T2)):!aj aZ 9 f0 fd wj (Ra K CG CW T1 T2):=by
 exists F.bG Iw;let#[g,p,d,m,hs,ts,qs,fp,f,r,iP,rfl,m0,D,k]:=h;let sz:=cc;let hu:=eO hr;refine' #[_,ak ?s1 (ak ?s2 (aE (bo (pv 4)))),?kk]
 case s1=>exact aO 4 Iw.nd (iZ Zp (by rfl) B.dict qF %[1|0])
 case s2=>exact eE dM Z (dA (aX SR hr %[OU SX hr %[0,1|0],2,3|0])) (ju Z (cU (bN 5 Iw.nd) (cU (bN 6 Iw.nd) (cU (bN 7 Iw.nd) iA)))) (aE (rW hu (pv 4) (pv 5) (pv 7) Z))
 let cz:=D.W.cz;apply#[_,Z,d,_,Z,.inl D.Pl.hd,λdl jm=>?_];let#[sd,ed]:=aA (o:=.dK (b_ (qs.map (·.1)) f)) jm;show rg _ _ _ _ (upd H dl (.dK (b_ (qs.map (·.1)) f)));generalize upd H dl (.dK (b_ (qs.map (·.1)) f))=H1 at sd ed ⊢;apply#[_,Z,_,Z,λv dx hv P5 ne=>?_];have s2:aa H1 (upd (upd H1 dx (.own v)) v (.ins CS dx [])):=(aa.new P5).trans (aa.new (by rw[ax ne.symm];exact hv));have e2:upd (upd H1 dx (.own v)) v (.ins CS dx []) v\.ins CS dx []:=ay;generalize upd (upd H1 dx (.own v)) v (.ins CS dx [])=H2 at s2 e2 ⊢;let hW:=sd.trans s2
 have KZ:v∉fp:=λhm=>by
  let#[o,e]:=D.has v hm;rw[sd _ _ e] at hv;cases hv
 have Pl2:xc K CG CW H2 g p d hs ts qs fp f:=#[D.Pl.G.same hW,D.W.Gd,D.Pl.rO,hW _ _ D.Pl.hd,D.W.at_,D.W.nd,D.W.cz];apply#[v,dx,g,p,d,hs,ts,qs,fp,f,Z,e2,KZ,Pl2,D.W,D.tb.a.same hW,λH3 k3 kP S3=>#[Z,?_]];let#[tv1,Xh]:=kF D.tb.a;have OY:∀b o,H1 b\o->b≠T1->H3 b\o:=λb o e n=>k3 b o (s2 _ _ e) (bj e hv) n
 have xQ:dZ H3 T2 mE:=by
  let#[es,a1,a2]:=D.tb.b;exact#[es,OY _ _ (sd _ _ a1) D.tb.ne.symm,λx hx=>OY _ _ (sd _ _ (a2 x hx)) (λz=>by have:=a2 x hx;rw[z,Xh] at this;cases this)]
 apply#[_,Z,_,Z,v,g,p,m,hs,ts,qs,fp,f,r,iP,Z,m0,S3,D.W,xQ,λl ys H4 b4 h_ nl hl tu=>?_];let#[tv2,Xg]:=kF xQ;have o_:BT T1 T2 H1 H4:=λb o e n1 n2=>b4 _ _ (OY b o e n1) n2;have Um:Tb H4 T1 T2:=#[dZ.but kP b4 #[_,Xg] D.tb.ne,h_,D.tb.ne];have Fo:∀{T tv},H T\.tbl tv->dl≠T:=λe z=>by rw[<- z,jm] at e;cases e
 let#[tv3,hT3]:=kF D.tb.b;let Ij:=o_ _ _ ed (Fo Xh) (Fo hT3);have Lm:l≠dl:=cu hl Ij nofun;let ly:=bK tu;rw[ao] at ly
 let Ku:bI:=λj σ H'=>∃v5 v6 v7:aF,σ=[some (.ref g),some (.ref d),some (.str r.1),some (.int m),some (.ref dl),v5,v6,v7]/\a_ dl H4 H'/\H' dl\.dK (b_ (qs.map (·.1)) (lQ f ((qi r hs ts qs f m).take j)))
 apply#[l,Z,#[_,.of hl],fY (K:=K) (a:=l) (xs:=ys) Ku #[none,none,none,Z,a_.refl _ _,Ij] (λj σ H' _ ⟨_,_,_,_,b,_⟩=>.of (b _ _ hl Lm)) ?_ ?_]
 ·rintro j y σ H' hy ⟨v5,v6,v7,rfl,b',e'⟩;let#[x,hx,Fn,rfl,yE]:=jx tu hy;let yE:=Wv yE;have Nk:Fn≠dl:=cu yE Ij nofun;apply#[Fn,_,Z,.of (b' _ _ yE Nk),Z,_,_,Z,_,_,Z,_,_,Z,Z,?_];dsimp only;apply#[_,Z,_,Z,_,Z,dl,_,Z,.k (k:=Sum.inr x.1) e' (by rw[f_,ao];omega),?_];apply#[_,_,_,Z,b'.trans a_.upd,?_];rw[ay,XI (Qk D.W r m x (cj hx)).1,YQ hx,Yy]
 rintro σ H' ⟨v5,v6,v7,rfl,b',e'⟩;rw[ly,dz] at e';have kT:∀{T qn},dZ H4 T qn->dZ H' T qn:=λ⟨es,a1,a2⟩=>#[es,b' _ _ a1 (λz=>by rw[z,Ij] at a1;cases a1),λx hx=>b' _ _ (a2 x hx) (λz=>by have:=a2 x hx;rw[z,Ij] at this;cases this)];exact#[_,Z,k dl H' (λb o e n1 n2=>b' b o (o_ b o (sd _ _ e) n1 n2) (bj e jm)) #[kT Um.a,kT Um.b,D.tb.ne] jm e']
def dX(r:Rl)(hs:Xa)(ts:Xb)(qs:aC)(f:ag)(n:Nat):ai:=((List.range n).map λi=>k8 hs qs (runM r hs ts qs f i)).map V.int
theorem Yn(r:Rl)(hs:Xa)(ts:Xb)(qs:aC)(f:ag)(n:Nat):dX r hs ts qs f (n+1)=dX r hs ts qs f n++[.int (k8 hs qs (runM r hs ts qs f n))]:=by
 unfold dX;rw[List.range_succ,bY,bY];rfl
theorem X4(r:Rl)(hs:Xa)(ts:Xb)(qs:aC)(f:ag)(n:Nat):(dX r hs ts qs f n).length=n:=by
 unfold dX;rw[ao,ao,List.length_range]
abbrev suN:ae:=["goods","stand","rule","moments","placed","sums","moment"]
theorem Ja:bx suN wg (ba Q_):=bH
inductive Sn (K:af) (CG CW T1 T2:Addr) (vs:ai) (H:Hp) (Q:VK) (E:XK):Prop
 |mk:∀(g p d:Addr) (n:Nat) (hs:Xa) (ts:Xb) (qs:aC) (fp:az) (ns:ae) (f:ag),∀r∈rl,vs=[.ref g,.ref d,.str r.1,.int n]->n<=3001->Ba K CG CW H g p d hs ts qs fp ns f->Wd hs ts qs f->Tb H T1 T2->(∀l H',BT T1 T2 H H'->Tb H' T1 T2->H l=none->H' l\.lst (dX r hs ts qs f (n+1))->Q (.ref l) H')->Sn K CG CW T1 T2 vs H Q E
theorem hg_(F:bp K "sums_of" "sums_of" Q_ f0 fd)(B:Bi mg)(SM:!br 3 "checked_start" qL (XR K CG CW))(SW:!br 3 "checked_moments" g_ Zs)(cPl:!br 9 "placed_after" wj (Ra K CG CW T1 T2))(I_:!br 5 "sum_at" mM (Rm K CG CW)):!aj aZ 10 f0 fd wg (Sn K CG CW T1 T2):=by
 exists F.bG Ja;let#[g,p,d,n,hs,ts,qs,fp,ns,f,r,iP,rfl,n3,S,W,tb,k]:=h;let sz:=cc;refine' #[_,ak ?s1 (ak ?s2 (ak ?s3 (aE (bo (pv 5))))),?kk]
 case s1=>exact aO 4 Ja.nd (aX SM hr %[0,1,2|0])
 case s2=>exact aO 5 Ja.nd (cy %[aX I_ hr %[0,4|0]|0])
 case' s3=>refine' eE dM Z (EW (by rfl) B.range %[aX SW hr %[3|0]|0]) (bN 6 Ja.nd) (ak ?t1 (aE ?t2))
 case t1=>exact aO 4 Ja.nd (aX cPl hr %[0,4,2,6|0])
 case t2=>exact gP (gC gO kB kC ki (pv 5) %[aX I_ hr %[0,4|0]|0])
 have Ot:∀{a:Addr},H a=none->a∉fp:=λna m=>by
  let#[o,e,_]:=S.has _ m;rw[e] at na;cases na
 apply#[_,Z,_,Z,_,Z,_,_,r,iP,Z,#[g,p,d,hs,ts,qs,fp,ns,f,Z,S.G,S.rO,S.hd,S.so,W.nd,W.cz,λdp H1 s1 n1 e1=>?_]];lk;apply#[_,Z,_,Z,g,p,dp,hs,ts,qs,fp,f,Z,#[S.G.same s1,W.Gd,Ot n1,e1,W.at_,W.nd,W.cz],W.wq,λH2 s2=>?_];apply#[zl,λlx nx=>?_];let fV:=s1.trans s2;let#[s3,e3]:=aA (o:=.lst [.int (k8 hs qs f)]) nx;let UT:=fV.free nx;have RS:dp≠lx:=bj (s2 _ _ e1) nx;generalize upd H2 lx (.lst [.int (k8 hs qs f)])=H3 at s3 e3 ⊢;lk;let ji:=fV.trans s3;apply#[_,Z,(n:Int),Z,by omega,(n:Int),Z,by omega,by omega,?_]
 let Kt:bI:=λi σ H'=>∃(v6:aF) (dp:Addr),σ=[some (.ref g),some (.ref d),some (.str r.1),some (.int n),some (.ref dp),some (.ref lx),v6]/\BT T1 T2 H H'/\Tb H' T1 T2/\dp≠lx/\H dp=none/\H' dp\.dK (b_ (qs.map (·.1)) (runM r hs ts qs f i))/\H' lx\.lst (dX r hs ts qs f (i+1))
 apply RN Kt #[none,dp,Z,BT.of ji,#[tb.a.same ji,tb.b.same ji,tb.ne],RS,n1,s3 _ _ (s2 _ _ e1),e3] ?_ ?_
 ·rintro i σ H2 hi ⟨v6,dp,rfl,b2,xQ,RS,n2,e2,el⟩;lk;rw[xB] at hi;let yo:=b2.nt tb;let W2:=W.run r i;let W3:=W.run r (i+1);apply#[_,Z,_,Z,_,Z,_,Z,g,p,dp,0+(i:Int),hs,ts,qs,fp,_,r,iP,Z,by omega,#[#[S.G.nt yo,W.Gd,Ot n2,e2,W2.at_,W.nd,W.cz],W2,xQ,λb hb=>let #[o,e,q]:=S.has b hb;#[o,yo _ _ e q]],λdq H3 b3 Nl n3 e3=>?_];lk;rw[Int.zero_add] at e3;let TH:=b2.trans b3;let Gm:=TH.nt tb
  have nq:H dq=none:=by
   cases z:H dq with
   |none=>rfl
   |some o=>
    by_cases y1:dq=T1
    ·let#[tv,hT]:=kF xQ.a;rw[y1,hT] at n3;cases n3
    by_cases y2:dq=T2
    ·let#[tv,hT]:=kF xQ.b;rw[y2,hT] at n3;cases n3
    rw[b2 _ _ z y1 y2] at n3;cases n3
  let L3:=(b3.nt xQ).lst el;have Zc:dq≠lx:=(bj el n3).symm;apply#[_,Z,.inl #[Z,#[_,.of L3]],?_];apply#[_,Z,_,Z,g,p,dq,hs,ts,qs,fp,_,Z,#[S.G.nt Gm,W.Gd,Ot nq,e3,W3.at_,W.nd,W.cz],W.wq,λH4 s4=>?_];let el4:=s4 _ _ L3;apply#[lx,_,_,Z,Z,el4,by rw[X4];omega,?_];have b5:a_ lx H4 (upd H4 lx (.lst (dX r hs ts qs f (i+1)++[.int (k8 hs qs (runM r hs ts qs f (i+1)))]))):=a_.upd;have e5:upd H4 lx (.lst (dX r hs ts qs f (i+1)++[.int (k8 hs qs (runM r hs ts qs f (i+1)))])) lx\.lst (dX r hs ts qs f (i+1+1)):=by rw[ay,Yn r hs ts qs f (i+1)]
  generalize eH:upd H4 lx (.lst (dX r hs ts qs f (i+1)++[.int (k8 hs qs (runM r hs ts qs f (i+1)))]))=H5 at b5 e5;have eH:upd H4 lx (.lst (dX r hs ts qs f (i+1)++[.int (k8 hs qs (kX r hs ts qs (i:Int) (runM r hs ts qs f i)))]))=H5:=eH;rw[eH];have kT:∀{T qn},dZ H3 T qn->dZ H5 T qn:=λ⟨es,a1,a2⟩=>#[es,b5 _ _ (s4 _ _ a1) (λz=>by rw[z,L3] at a1;cases a1),λx hx=>b5 _ _ (s4 _ _ (a2 x hx)) (λz=>by have:=a2 x hx;rw[z,L3] at this;cases this)];exact#[_,dq,Z,λb o e y1 y2=>b5 b o (s4 _ _ (TH b o e y1 y2)) (bj e UT),#[kT Nl.a,kT Nl.b,Nl.ne],Zc,nq,b5 _ _ (s4 _ _ e3) Zc,e5]
 rintro σ H2 ⟨v6,dp,rfl,b2,xQ,RS,n2,e2,el⟩;rw[xB] at el;exact#[_,Z,k lx H2 b2 xQ UT el]
end
theorem Qs.VZ{ps qs:aC}(Q:Qs ps qs){n:Str}(h:n∈qs.map (·.1)):n∈ps.map (·.1):=by
 rw[Q.sF] at h;exact (gM _).mem_iff.mp h
theorem Pw.to{hs:Xa}{ts:Xb}{ps qs:aC}{f g:ag}(P:Pw hs ts ps f)(Q:Qs ps qs)(D:Wd hs ts qs g):Pw hs ts ps g:=#[P.Gd,P.gp,P.nd,P.ic,λn hn=>D.at_ n (by rw[Q.sF];exact (gM _).mem_iff.mpr hn)]
section v
abbrev puN:ae:=[gE,i9,"_law_rule","_law_moment","_law_moves_here",oT,qA,rQ,lY]
theorem EC:bx puN Eo (ba uv):=bH
inductive nC (K:af) (vs:ai) (H:Hp) (Q:VK) (E:XK):Prop
 |mk:∀(wa sd:Addr) (m:Int) (hs:Xa) (ts:Xb) (ps qs:aC) (f:ag),∀r∈rl,vs=[.ref wa,.ref sd,.str r.1,.int m]->zy K H wa sd hs ts ps qs f->(∀t d' H',aa H H'->H d'=none->H' t\.tup [.ref d',.bl (!(qi r hs ts qs f m).isEmpty)]->H' d'\.dK (b_ (ps.map (·.1)) (kX r hs ts qs m f))->Q (.ref t) H')->nC K vs H Q E
theorem l8_(F:bp K "_law_put" "_law_put" uv f0 fd)(B:Bi mg)(cM:!br 4 "_law_moves" Eo (Sm K)):!aj aZ 5 f0 fd Eo (nC K):=by
 exists F.bG EC;let#[wa,sd,m,hs,ts,ps,qs,f,r,Av,rfl,L,k]:=h;let sz:=cc;let hu:=eO hr;refine' #[_,ak ?s1 (ak ?s2 (ak ?s3 (aE ?s4))),?kk]
 case s1=>exact aO 4 EC.nd (aX cM hr %[0,1,2,3|0])
 case s2=>exact aO 5 EC.nd (iZ Zp (by rfl) B.dict qF %[1|0])
 case s3=>exact eE dM Z (dA (pv 4)) (ju Z (cU (bN 6 EC.nd) (cU (bN 7 EC.nd) (cU (bN 8 EC.nd) iA)))) (aE (rW hu (pv 5) (pv 6) (pv 8) Z))
 case s4=>exact bo (eW %[5,iI (Ms (lX hr 0)) (pv 4) (cy aJ)|0])
 let ic:=L.P.ic;apply#[_,Z,_,Z,_,Z,_,Z,wa,sd,m,hs,ts,ps,qs,f,r,Av,Z,L,λl ys H1 s1 nl hl tu=>?_];lk;apply#[_,Z,sd,_,Z,.inl (s1 _ _ L.hs),λdl jm=>?_];let#[K3,ed]:=aA (o:=.dK (b_ (ps.map (·.1)) f)) jm;show rg _ _ _ _ (upd H1 dl (.dK (b_ (ps.map (·.1)) f)));generalize upd H1 dl (.dK (b_ (ps.map (·.1)) f))=H2 at K3 ed ⊢;have Lm:l≠dl:=bj hl jm;let oO:=K3 _ _ hl;let tu2:=tu.same K3;let ly:=bK tu;rw[ao] at ly
 let Ks:bI:=λj σ H'=>∃v6 v7 v8:aF,σ=[some (.ref wa),some (.ref sd),some (.str r.1),some (.int m),some (.ref l),some (.ref dl),v6,v7,v8]/\a_ dl H2 H'/\H' dl\.dK (b_ (ps.map (·.1)) (lQ f ((qi r hs ts qs f m).take j)))
 apply#[_,Z,l,Z,#[_,.of oO],fY (K:=K) (a:=l) (xs:=ys) Ks #[none,none,none,Z,a_.refl _ _,ed] (λj σ H' _ ⟨_,_,_,_,b,_⟩=>.of (b _ _ oO Lm)) ?_ ?_]
 ·rintro j y σ H' hy ⟨v6,v7,v8,rfl,b',e'⟩;let#[x,hx,Fn,rfl,yE]:=jx tu2 hy;let yE:=Wv yE;have Nk:Fn≠dl:=cu yE ed nofun;apply#[Fn,_,Z,.of (b' _ _ yE Nk),Z,_,_,Z,_,_,Z,_,_,Z,Z,?_];dsimp only;apply#[_,Z,_,Z,_,Z,dl,_,Z,.k (k:=Sum.inr x.1) e' (by rw[f_,ao];omega),?_];apply#[_,_,_,Z,b'.trans a_.upd,?_];rw[ay,XI (L.Q.VZ (Qk L.D r m x (cj hx)).1),YQ hx,Yy]
 rintro σ H' ⟨v6,v7,v8,rfl,b',e'⟩;rw[ly,dz] at e';have sh:aa H H':=λb o e=>b' b o (K3 _ _ (s1 _ _ e)) (bj (s1 _ _ e) jm);apply#[_,Z,_,Z,zl,λle ne'=>?_];let#[s5,YD]:=aA (o:=.lst []) ne';let rJ:=s5 _ _ (b' _ _ oO Lm);let e5:=s5 _ _ e';generalize upd H' le (.lst [])=H5 at s5 YD rJ e5 ⊢;apply#[l,le,ys,Z,Z,.of rJ,.of YD,zl,λt nt=>?_];let s6:=aa.new (o:=.tup [.ref dl,.bl (!ys.isEmpty)]) nt
 have e6:ys.isEmpty=(qi r hs ts qs f m).isEmpty:=by
  rw[Bool.eq_iff_iff,List.isEmpty_iff,List.isEmpty_iff,<- A6,<- A6,ly]
 exact k t dl _ (sh.trans (s5.trans s6)) (s1.free jm) (by rw[ay,e6]) (s6 _ _ e5)
end
variable{ps:aC}{f:ag}
theorem Pw.take{hs:Xa}{ts:Xb}(P:Pw hs ts ps f)(n:Nat):Pw hs ts (ps.take n) f:=#[P.Gd,λq hq=>P.gp q (List.mem_of_mem_take hq),P.nd.sublist ((List.take_sublist n ps).map _),by rw[cX];have:=P.ic;omega,λm hm=>P.at_ m (((List.take_sublist n ps).map _).subset hm)]
variable{ns:ae}
theorem VA(h:ns.Nodup)(f:ag):o8 [] (b_ ns f)=b_ ns f:=xx (by
 unfold b_ bB;rw[cm];exact pe.mpr (h.imp λq e=>q (ik e)))
theorem iR_{α β:Type}{F:α->β->Prop}{ys:List α}{ts:List β}(t:Paired F ys ts){y:α}(h:ys[i]? = some y):∃x,ts[i]? = some x/\F y x:=by
 rw[<- List.map_id ts] at t;exact jx t h
variable{K:af}
theorem XF{lp D d:Addr}{yp:ai}{te:TE}{H:Hp}{Q:VK}{kj:St}(rF:kj=[none,some (.ref d)])(hl:H lp\.lst yp)(pc:AK K H yp ps)(hd:H d\.dK (b_ ns f))(sub:∀n∈ps.map (·.1),n∈ns)(ic:ps.length<=30)(hD:H D=none)(h:∀a n x y H' Q',H' a\.tup [.str n,x,y]->ck H' d (.str n) (some (.str (f n)))->(∀t,H' t=none->Q' (.ref t) (upd H' t (.tup [.str n,.str (f n)])))->te [some (.ref a),some (.ref d)] H' Q')(k:∀out H',aa H H'->H' D\.lst out->jH K H' out (b_ (ps.map (·.1)) f)->Q (.ref D) H'):AL (Bc K lp) (mN 0) tx te kj D H Q:=by
 let sz:=cc
 let Kr:dH:=λi out H'=>aa H H'/\H' D\.lst out/\jH K H' out (b_ ((ps.map (·.1)).take i) f)
 apply mU (own:=1) (fv:=[some (.ref d)]) (xs:=yp) rF ee Kr #[aa.new hD,ay,.nil] (λi out H' _ ⟨sm,_⟩=>.of (sm _ _ hl)) (λout H2 ⟨s2,hd2,pa⟩=>?_) (λi x out H' hx ⟨sm,iS,pa⟩=>?_)
 ·rw[bK pc,show ps.length=(ps.map (·.1)).length by rw[ao],dz] at pa;exact k out H2 s2 hd2 pa
 let#[p,hp,t,v,rfl,ht,wy]:=iR_ pc hx;have hn:(ps.map (·.1))[i]? = some p.1:=by rw[dR,hp];rfl
 have gd:ck H' d (.str p.1) (some (.str (f p.1))):=by
  rw[<- ES (g:=λn=>V.str (f n)) (sub p.1 (cj hn))];exact .k (k:=Sum.inr p.1) (sm _ _ hd)
 apply#[_,Z,Z,λNx hN=>dW ?_];apply h t p.1 _ _ H' _ (sm _ _ ht) gd λa na=>?_;let#[s3,e3]:=aA (o:=.tup [.str p.1,.str (f p.1)]) na;generalize upd H' a (.tup [.str p.1,.str (f p.1)])=H3 at s3 e3 ⊢;let d3:=s3 _ _ iS;let lo:=bK pa
 have pD:∀{b:Addr} {zs:ai},H3 b\.tup zs->b≠D:=λhb z=>by
  rw[z,d3] at hb;cases hb
 apply#[out,d3,?_,hN (out++[.ref a]) _ #[fF (sm.trans s3) hD,ay,?_]]
 ·rw[lo,f_,cX,ao];omega
 rw[eZ hn];unfold b_ bB;rw[bY];exact kI (Paired.bu pa λy kv ⟨b,z,hb⟩=>#[b,z,by rw[ax (pD (s3 _ _ hb))];exact s3 _ _ hb]) (.cons #[a,Z,by rw[ax (pD e3)];exact e3] .nil)
theorem nR:bx [kz,"_law_hands",vH,"_law_pieces",i9] Eu (ba uK):=bH
variable{P:Ae}{w:Af}{mg:Str->Option Aa}{base:Heap}
theorem lJ_(F:bp K "_law_few" "_law_few" uK f0 fd)(B:Bi mg)(cG:!br 4 "_law_goods" Eu (Jb K)):!aj aZ 5 f0 fd Eu (Jb K):=by
 exists F.bG nR;let#[l,lh,lt,yh,zs,hs,ts,rfl,st,h1,nh,h2,h3,nt,h4,G,k]:=h;let sz:=cc;let hu:=eO hr;refine' #[_,ak ?s1 (aE ?s2),?kk]
 case s1=>exact C6 (aX cG hr %[0,1,2|0]) (ju Z (cU (bN 3 nR.nd) (cU (bN 4 nR.nd) iA)))
 case' s2=>refine' bo (eW %[xq A2 (pv 3) xo (xn aI),iZ (wb Z) (by rfl) B.dict qF %[i4 qO 1 [4] (dA (xq A2 (pv 3) xo (xn aI))) (λfp s H=>e_ (i:=0) (show (qO:ae).Nodup by decide +kernel) Z (Or.inl Z)) (λfp s H=>iH) (λfp s H=>?te)|0]|0])
 case te=>exact eW %[bM (yD (K:=K) jk eP) (pv 0) aI,bV hu (pv 1) (bM (yD (K:=K) jk eP) (pv 0) aI)|0]
 apply#[_,Z,_,Z,_,Z,l,lh,lt,yh,zs,hs,ts,Z,st,h1,nh,h2,h3,nt,h4,G,λt lp d yp ps f H3 b3 gR ht fp fd yr jm h5 h6 h7 gp nd ic at_=>?_];apply#[t,_,Z,.of ht,Z,_,_,Z,_,_,Z,Z,?_];dsimp only;have Pp:Pw hs ts ps f:=#[G,gp,nd,ic,at_];apply#[_,Z,_,Z,lp,_,Z,.of h5,λlq nq=>?_];rw[show gB yp none (some 12)=yp.take 12 from Dn yp 12];let#[s4,e4]:=aA (o:=.lst (yp.take 12)) nq;generalize upd H3 lq (.lst (yp.take 12))=H4 at s4 e4 ⊢;apply#[_,Z,_,Z,lp,_,Z,.of (s4 _ _ h5),λlr nr=>?_];rw[show gB yp none (some 12)=yp.take 12 from Dn yp 12];let#[s5,e5]:=aA (o:=.lst (yp.take 12)) nr;generalize upd H4 lr (.lst (yp.take 12))=H5 at s5 e5 ⊢;let jB:=s4.trans s5;let P2:=Pp.take 12;have UP:AK K H5 (yp.take 12) (ps.take 12):=Jq 12 (Paired.bu h6 λy q x=>x.same jB);apply#[lr,Z,#[_,.of e5],λD hD=>?_];apply XF Z e5 UP (jB _ _ h7) (λn hn=>((List.take_sublist 12 ps).map _).subset hn) P2.ic hD (λa n x y H' Q' ha gd k=>?_) (λout H6 s6 d6 pa=>?_)
 ·exact#[_,Z,a,_,0,_,Z,Z,.of ha,Z,_,Z,_,Z,a,_,0,_,Z,Z,.of ha,Z,d,_,Z,gd,zl,k]
 have lk:(b_ ((ps.take 12).map (·.1)) f).length<=1000:=by
  have:=P2.ic;rw[f_,ao];omega
 apply#[D,out,_,Z,d6,pa,lk,λd2 Gs=>?_];rw[VA P2.nd];let#[s7,e7]:=aA (o:=.dK (b_ ((ps.take 12).map (·.1)) f)) Gs;generalize upd H6 d2 (.dK (b_ ((ps.take 12).map (·.1)) f))=H7 at s7 e7 ⊢;apply#[zl,λt2 yo=>?_];let s8:=aa.new (o:=.tup [.ref lq,.ref d2]) yo;let UC:=(jB.trans (s6.trans s7)).trans s8;let#[xs,el]:=gR.some;let UZ:=(jB.trans s6).free Gs;exact k t2 lq d2 _ _ f _ (b3.trans (a_.of UC)) (gR.same UC) ay (b3.free gR nq) (b3.free gR UZ) (bj el nq).symm (bj el UZ).symm (((s5.trans (s6.trans s7)).trans s8) _ _ e4) (Paired.bu UP λy q x=>x.same ((s6.trans s7).trans s8)) (s8 _ _ e7) P2.gp P2.nd P2.ic P2.at_
end Ev
namespace L2
open PySem PySem.Spec PyProof.Rows PySem.W
theorem lg_{X:Cx}:eQ X (binaryOp .Mult) (rI (λi j=>(0<=i/\i<2 ^ 200)/\0<=j/\j<2 ^ 200) λi j=>.int (i * j)):=Gg λi j _ _ _ _ _ hc q=>by
 apply mul_int q ?_;let#[#[h1,h2],h3,h4]:=hc;have b1:Builtin.Int.intBits i<=200:=intBits_le_iff.mpr Z1;have b2:Builtin.Int.intBits j<=200:=intBits_le_iff.mpr Z1;unfold IntMulOk
 have:Builtin.Int.intTooBig (↑(Builtin.Int.intBits i) + ↑(Builtin.Int.intBits j))=false:=by
  unfold Builtin.Int.intTooBig;apply dU ?_;have:bitsLine=134217728:=by decide
  omega
 rw[this,pb];decide
end L2
namespace Ev
open PySem L2
variable{n:Int}
theorem lw_{a:Int}(ha:0<a)(hn:0<n)(h2:n<=1000):gZ a n<=a * 1000:=by
 unfold gZ
 have g:0<(Int.gcd a n:Int):=by
  have:=Int.gcd_pos_of_ne_zero_right a (show n≠0 by omega);omega
 have k1:a / (Int.gcd a n:Int)<=a:=Int.ediv_le_self _ (i5 ha);have k0:0<=a / (Int.gcd a n:Int):=Int.ediv_nonneg (i5 ha) (i5 g);exact Int.mul_le_mul k1 h2 (i5 hn) (i5 ha)
theorem VR:∀(ns:List Int) (a:Int),0<a->(∀n∈ns,0<n/\n<=1000)->ns.foldl gZ a<=a * 1000 ^ ns.length
 |[],a,_,_=>by simp
 |n::ns,a,ha,h=>by
  let hn:=h n cZ
  have p:0<gZ a n:=by
   have:=(E3 [n] a ha ⇑(hn.1)).1;exact this
  let k1:=VR ns (gZ a n) p λm hm=>h m (dJ _ hm);let k2:=lw_ ha hn.1 hn.2;have e:(0:Int)<=1000 ^ ns.length:=Int.pow_nonneg (by decide);rw[List.foldl_cons,iG,Int.pow_succ];apply Int.le_trans k1 ?_;have:=Int.mul_le_mul_of_nonneg_right k2 e;have e2:a * 1000 * 1000 ^ ns.length=a * (1000 ^ ns.length * 1000):=by grind
  rw[e2] at this;exact this
theorem m6_{hs:Xa}{ts:Xb}(G:Good hs ts):0<i8 hs/\i8 hs<2 ^ 100/\∀n∈aD hs,i8 hs / strOf hs n * strOf hs n=i8 hs:=by
 have pos:∀m∈(aD hs).map (strOf hs),0<m/\m<=1000:=λm hm=>by
  let#[x,hx,rfl]:=bh.mp hm;have:=bJ G hx;omega
 have F_:∀m∈(aD hs).map (strOf hs),0<m:=λm hm=>(pos m hm).1;apply#[zg F_,?_,λn hn=>Int.ediv_mul_cancel (Mq F_ (bh.mpr #[_,hn,Z]))];let k:=VR _ 1 (by decide) pos;rw[ao,G.eU,Int.one_mul] at k;let h8:=G.h8
 have k2:(1000:Int) ^ hs.length<=1000 ^ 8:=by
  have:(1000:Nat) ^ hs.length<=1000 ^ 8:=Nat.pow_le_pow_right (by decide) h8
  exact_mod_cast this
 have:i8 hs<=1000 ^ 8:=Int.le_trans k k2;have e:(1000:Int) ^ 8<2 ^ 100:=by decide
 omega
theorem mj_{hs:Xa}{qs:aC}{f:ag}:((hs.map (·.1)).map λn=>ld f (qs.map d9) n * ld f (qs.map d9) n * (i8 hs / strOf hs n)).sum=k8 hs qs f:=by
 unfold k8 sumF;apply (Xy ((fG hs).symm.map _)).trans (dQ List.sum (qH λn _=>?_));exact Int.mul_assoc _ _ _
theorem i8_{c:Int}{j:Nat}(hc:0<c)(hn:0<n)(j1:1<=j)(d:n ∣ (j:Int) * c)(least:∀k:Nat,1<=k->k<j->¬n ∣ (k:Int) * c):(j:Int) * c=gZ c n:=by
 rw[V9 hc hn]
 have lp:(0:Int)<(Int.lcm c n:Int):=by
  have:=Int.lcm_pos (m:=c) (n:=n) Z1 Z1;omega
 obtain⟨m,em⟩:c ∣ (Int.lcm c n:Int):=Int.dvd_lcm_left c n;have nd:n ∣ (Int.lcm c n:Int):=Int.dvd_lcm_right c n
 have mp:0<m:=by
  rcases Int.lt_trichotomy 0 m with h|h|h
  ·exact h
  ·rw[em,<- h,Int.mul_zero] at lp;omega
  have:=Int.mul_neg_of_pos_of_neg hc h;rw[em] at lp;omega
 let#[q,rfl]:=qI (i5 mp);rw[em,Int.mul_comm c] at nd
 have jq:j<=q:=by
  rcases Nat.lt_or_ge q j with h|h
  ·exact absurd nd (least q Z1 h)
  exact h
 have ld:(Int.lcm c n:Int) ∣ (j:Int) * c:=Int.coe_lcm_dvd (Int.dvd_mul_left _ _) d;let le:=Int.le_of_dvd (Int.mul_pos Z1 hc) ld;rw[em,Int.mul_comm c] at le ⊢;have:=Int.le_of_mul_le_mul_right le hc;rw[show j=q by omega]
variable{fd:Ad}
section v
theorem Jl:bx ["_law_numbers",oT,"_law_number","_law_more"] ["_law_numbers"] (ba Q0):=bH
theorem gC_{f:Addr}(F:bp K "_law_shared" "_law_shared" Q0 f fd):!aj aZ 1 f fd ["_law_numbers"] (xV K):=by
 exists F.bG Jl;let#[l,ns,rfl,hl,b,k]:=h;refine' #[_,ak ?s1 (ak ?s2 (aE ?s3)),?kk]
 case s1=>exact aO 1 Jl.nd aI
 case' s2=>refine' eE dM Z (dA (pv 0)) (bN 2 Jl.nd) (ak ?t1 (aE ?t2))
 case t1=>exact aO 3 Jl.nd (pv 1)
 case t2=>exact IJ dM (c_ CJ (bw sV (pv 1) (pv 2)) aI) (aE (aO 1 Jl.nd (bw h9 (pv 1) (pv 3))))
 case s3=>exact bo (pv 1)
 let Kq:bI:=λi σ H'=>H'=H/\∃(v2 v3:aF),σ=[some (.ref l),some (.int (ie (ns.take i))),v2,v3]
 apply#[_,Z,l,Z,#[_,hl],fY (K:=K) (a:=l) (xs:=ns.map V.int) Kq #[Z,none,none,Z] (λi σ H' _ ⟨e,_⟩=>by rw[e];exact hl) ?_ ?_]
 ·rintro i y σ H' hy ⟨rfl,v2,v3,rfl⟩;let#[n,hn,rfl]:=ZF hy;let bn:=b n (cj hn)
  let p:=zg (ns:=ns.take i) λm hm=>by
   have:=b m (List.take_subset _ _ hm);omega
  let e:=XB hn;generalize ie (ns.take i)=c at p e;apply#[_,Z,?_];apply X8 (λσ H1=>H1=H'/\∃j:Nat,σ=[some (.ref l),some (.int ((j:Int) * c)),some (.int n),some (.int c)]/\1<=j/\(j:Int)<=n/\∀k:Nat,1<=k->k<j->¬n ∣ (k:Int) * c) (λσ _=>match σ with | [_,some (.int r),_,_]=>(n * c - r).toNat|_=>0) #[Z,1,by rw[show ((1:Nat):Int) * c=c from Int.one_mul c];rfl,by omega,by omega,λk h1 h2=>by omega] ?_ ?_
  ·rintro σ H1 ⟨rfl,j,rfl,j1,jn,ls⟩;apply#[_,Z,_,Z,_,_,Z,Z,by omega,Z,_,Z,?_];apply aQ (λq=>?_) (λq=>?_)
   ·have nd:¬n ∣ (j:Int) * c:=λz=>by
     have:=Int.emod_eq_zero_of_dvd z;rw[this] at q;simp at q
    have lt:(j:Int)<n:=by
     rcases Int.lt_or_eq_of_le jn with h|h
     ·exact h
     exact absurd (by rw[h];exact Int.dvd_mul_right n c) nd
    apply#[_,Z,_,Z,_,_,Z,Z,?_];apply#[#[Z,j+1,?_,by omega,by omega,λk h1 h2=>?_],?_]
    ·rw[show ((j+1:Nat):Int) * c=(j:Int) * c+c by rw[Int.natCast_add,Int.add_mul];simp];rfl
    ·rcases Nat.lt_or_ge k j with h|h
     ·exact ls k h1 h
     rw[show k=j by omega];exact nd
    have:=Int.mul_le_mul_of_nonneg_right (show (j:Int)+1<=n by omega) (i5 p);rw[Int.add_mul,Int.one_mul] at this;show (n * c - ((j:Int) * c+c)).toNat<(n * c - (j:Int) * c).toNat;omega
   have d:n ∣ (j:Int) * c:=by
    apply Int.dvd_of_emod_eq_zero ?_;simpa using q
   apply#[Z,some (.int n),some (.int c),?_];rw[e,<- i8_ p Z1 j1 d ls]
  intro σ H' Q1 Q2 hq h;let#[x,e,y,e',i,j,e1,e2,b,e4,z,e3,h]:=h;exact#[x,e,y,e',i,j,e1,e2,b,e4,z,e3,hq _ _ h]
 rintro σ H' ⟨rfl,v2,v3,rfl⟩;apply#[_,Z,?_];rw[ao,dz];exact k
theorem EH:bx [gE,i9,"_law_shared_here","_law_held_here",oT,vI,"_law_part"] wu (ba uu):=bH
inductive nA (K:af) (vs:ai) (H:Hp) (Q:VK) (E:XK):Prop
 |mk:∀(wa sd:Addr) (hs:Xa) (ts:Xb) (ps qs:aC) (f:ag),vs=[.ref wa,.ref sd,.int (i8 hs)]->zy K H wa sd hs ts ps qs f->(∀H',aa H H'->Q (.int (k8 hs qs f)) H')->nA K vs H Q E
theorem lB_{f0:Addr}(F:bp K "_law_sum" "_law_sum" uu f0 fd)(cH:!br 1 "_law_held" Ew (EF K)):!aj aZ 2 f0 fd wu (nA K):=by
 exists F.bG EH;let#[wa,sd,hs,ts,ps,qs,f,rfl,L,k]:=h;let hu:=eO hr;have ko:aY 1 _:=hr;refine' #[_,ak ?s1 (ak ?s2 (ak ?s3 (aE (bo (pv 4))))),?kk]
 case s1=>exact aO 3 EH.nd (aX cH hr %[0,1|0])
 case s2=>exact aO 4 EH.nd aI
 case' s3=>refine' Di (eE dM Z (IH (pv 3)) (bN 5 EH.nd) (ak ?t1 (aE ?t2)))
 case t1=>exact aO 6 EH.nd (bw vR (pv 2) (bV hu (bV hu (pv 0) cn) (pv 5)))
 case t2=>exact aO 4 EH.nd (bw h9 (pv 4) (bw lg_ (pv 6) (bw OZ (bV hu (pv 3) (pv 5)) aI)))
 let mo:=m6_ L.P.Gd;apply#[_,Z,_,Z,wa,sd,hs,ts,ps,f,Z,L.W,L.P,L.hs,λdh H1 s1 nh eh=>?_];lk;lk;apply#[dh,_,eh,?_];apply#[_,Z,dh,_,Z,eh,λo=>?_]
 let Kp:bI:=λi σ H'=>∃(v5 v6:aF),σ=[some (.ref wa),some (.ref sd),some (.int (i8 hs)),some (.ref dh),some (.int (((hs.map (·.1)).take i).map λn=>ld f (qs.map d9) n * ld f (qs.map d9) n * (i8 hs / strOf hs n)).sum),v5,v6]/\Fz dh o (bB (hs.map (·.1)) λn=>.int (sL ps f n)) H1 H'
 apply RC Kp #[none,none,Z,Fz.start] (λi σ H' _ ⟨_,_,_,z⟩=>z.at_) ?_ ?_
 ·rintro i ky x σ H8 hx ⟨v5,v6,rfl,fz⟩;let#[n,hn,rfl,rfl]:=xk hx;let nm:=cj hn;let nn:=(fG hs).mem_iff.mpr nm;let sn:=bJ L.P.Gd nn;let ln:=Ei L.D.wq L.D.cz f n;have w6:sL ps f n=ld f (qs.map d9) n:=Il L.P L.Q n;let#[ds,dn,lt,dw,dy,ad,gy,W]:=L.W;let hwa:=fz.sm wa _ (bj W.top nh) (s1 _ _ W.top);let hds:=fz.sm ds _ (bj W.sg nh) (s1 _ _ W.sg);have g1:ck H8 wa (.str "strength") (some (.ref ds)):=ck.k (k:=Sum.inr "strength") hwa;let g2:=Iv (.inl hds) nm;let g3:=Iv (U6 fz) nm;rw[w6] at g3;let m1:=Int.mul_nonneg ln.1 ln.1;let m2:=Int.mul_le_mul ln.2 ln.2 ln.1 (by decide);let m3:=Int.ediv_nonneg (i5 mo.1) (show 0<=strOf hs n by omega);let m4:=Int.ediv_le_self (strOf hs n) (i5 mo.1);let m5:=mo.2.1
  have sq:ld f (qs.map d9) n ^ (2:Int).toNat=ld f (qs.map d9) n * ld f (qs.map d9) n:=by
   show ld f (qs.map d9) n ^ 2=_;rw[Int.pow_succ,Int.pow_succ,Int.pow_zero,Int.one_mul]
  apply#[_,Z,_,Z,wa,_,Z,g1,_,Z,ds,_,Z,g2,_,_,Z,Z,#[by omega,by omega],?_];lk;apply#[_,Z,_,Z,_,Z,_,Z,dh,_,Z,g3,_,_,Z,Z,#[by decide,by decide,by omega],?_];rw[sq];apply#[_,_,Z,Z,#[#[m3,by omega],m1,by omega],_,_,Z,Z,?_];apply#[some (.str n),some (.int (i8 hs / strOf hs n)),?_,fz];rw[eZ hn,bY,List.sum_append];simp only[eJ,vS,List.sum_cons,List.sum_nil,Int.add_zero];rw[Int.mul_comm (i8 hs / strOf hs n)];rfl
 rintro σ H8 ⟨v5,v6,rfl,fz⟩;apply#[o,fz.at_,_,Z,?_];rw[f_,dz,mj_];exact k _ (s1.trans (fz.jP eh))
end
end Ev
namespace DJ
open PySem PySem.W PyProof.Rows
end DJ
namespace L2
open PySem PySem.Spec PyProof.Rows PySem.W DJ
section
variable{X:Cx}{o i e value:Expr}{pos pos' Bg:Pos}{td ty tv:TE}
end
inductive uV (xs:ai) (H:Hp) (Q:VK):Prop
 |mk:∀v d kvs,xs=[.ref v]->H v\qG v d->Rd H d (.dK kvs)->(∀l,H l=none->Q (.ref l) (upd H l (.lst (kvs.map (·.2)))))->uV xs H Q
variable{X:Cx}
theorem gv_(hc:X.calm=true):gD X (.type "list") uV:=by
 intro pins s σ H xs us Q I r h;let#[v,d,kvs,rfl,hv,hd,q]:=h;let#[u,rfl,ru]:=vals1 r;cases ru;let#[z,hdn,vs,rel,dd]:=rT I.aN hd;let#[ep,dat]:=dd.dictAt;let#[iv,_,_]:=I.aN v _ hv;let hl:=rel.length;apply kdl_call (kdl_values (knd:=fB X.prog X.w) (kvs:=vs) (ep:=ep)) (I.ok.hd hc) ⟨iv,dat⟩ Z1 λh' tk acc c k hD a=>?_;have a':ItemsOf (λi v=>∃k,vs[i]? = some (k,v)) acc (kvs.map (·.2)).length:=by rw[ao,hl];exact a
 apply#[.ref s.heap.objs.size,_,I.laid (t':=tk) k (bq _) (show gh X.prog X.w _ h' _ (.lst (kvs.map (·.2))) from #[by rw[ao];exact z,acc.toList,c,MZ a' λj v ⟨k,e⟩ y hy=>?_,by rw[Array.toArray_toList];exact hD]),Z,q _ I.fresh];rw[dR] at hy;cases e3:kvs[j]? with
 |none=>rw[e3] at hy;cases hy
 |some kv=>
  rw[e3] at hy;let#[u,hu,ru]:=LF rel j (k:=kv.1) (x:=kv.2) e3;rw[e] at hu;let hu:=eK hu;have g2:v=u:=dQ Prod.snd hu;cases (eK hy:kv.2=y);rw[g2];exact ru
section
variable{X:Cx}{CX:wF}{k:Nat}{f C:Addr}{fd:Ad}{ps ks:ae}{sp:Sp}{E:XK}{m:Str}{pos apos:Pos}{e o:Expr}{es:List Expr}{DX:List Keyword}{ta:TE}{t tk:TA}{g:aq->aq->aq}{gV:ai->ai->ai}
end
structure FunD (K:af) (x qual:Str) (st:Stmt) (f:Addr) (fd:Ad):Prop where
 ex:∃(oc:Aa) (od:Option Addr) (T:Addr) (kV doc pm:Aa) (an:Option Addr) (aR ct:Aa) (kn:Array (Option Aa)) (o:Obj) (n:Nat),
  fd=PySem.W.fnOf x qual (j6 st) (iW st) (ba st) (.ref T) kV doc pm an aR ct/\K.lookup f=some #[oc,od,.func fd,kn]/\PySem.W.codeIn K aR qual=true/\K.lookup T\o/\o.data=.seq (List.toArray [.none]) n
end L2
namespace Ev
open PySem L2
theorem mB_{r:Int}(h0:0<=r)(h1:r<17):∃q∈rl,gK ((sy 3).map V.str) r\.str q.1:=by
 let len:=kv_;let#[k,rfl]:=qI h0;have hk:k<(sy 3).length:=by omega
 let#[q,hq,e]:=mp_ _ (jy hk);apply#[q,hq,?_];rw[e];exact L2.iX (by rw[dR,dB hk];rfl)
structure zA (K:af) (H:Hp) (lh lt lp d:Addr) (yh zt yp:ai) (hs:Xa) (ts:Xb) (ps:aC) (f:ag):Prop where
 hh:H lh\.lst yh
 th:bg K H yh (hs.map kH)
 ht:H lt\.lst zt
 tt:bg K H zt (ts.map kT)
 hp:H lp\.lst yp
 pc:AK K H yp ps
 hd:H d\.dK (b_ (ps.map (·.1)) f)
variable{K:af}{G H:Hp}{d lh lp lt:Addr}{yh yp zt:ai}{hs:Xa}{ts:Xb}{ps:aC}{f:ag}
theorem zA.nt(W:zA K H lh lt lp d yh zt yp hs ts ps f)(s:NT H G):zA K G lh lt lp d yh zt yp hs ts ps f:=
 #[s.lst W.hh,VT W.th s,s.lst W.ht,VT W.tt s,s.lst W.hp,Paired.bu W.pc λy q ⟨t,v,e,ht,wy⟩=>#[t,v,e,s.tup ht,wy.nt s],s.dK W.hd]
theorem zA.mv{l:Addr}(W:zA K H lh lt lp d yh zt yp hs ts ps f)(b:a_ l H G)(st:d_ H l)(n1:lh≠l)(n2:lt≠l)(n3:lp≠l)(n4:d≠l):zA K G lh lt lp d yh zt yp hs ts ps f:=by
 let#[xs,hl]:=st.some;exact#[b _ _ W.hh n1,xw W.th b hl,b _ _ W.ht n2,xw W.tt b hl,b _ _ W.hp n3,Paired.bu W.pc λy q ⟨t,v,e,ht,wy⟩=>#[t,v,e,b _ _ ht (cu ht hl nofun),wy.mv b st],b _ _ W.hd n4]
variable{T a:Addr}{q:Str}
theorem V1(t:dZ H T q)(b:a_ a H G)(h:∀vs,H a≠some (.tbl vs))(h2:∀c q,H a≠some (yZ c q)):dZ G T q:=by
 let#[es,e,z]:=t;exact#[es,b _ _ e (λy=>h _ (y▸e)),λx hx=>b _ _ (z x hx) (λy=>h2 x.2 q (y▸z x hx))]
variable{T1 T2:Addr}
theorem VO{o:HO}(t:Tb H T1 T2)(b:a_ a H G)(e:H a\o)(h:∀vs,o≠.tbl vs)(h2:∀c q,o≠yZ c q):Tb G T1 T2:=#[V1 t.a b (λvs z=>h vs (eK (e.symm.trans z))) (λc q z=>h2 c q (eK (e.symm.trans z))),V1 t.b b (λvs z=>h vs (eK (e.symm.trans z))) (λc q z=>h2 c q (eK (e.symm.trans z))),t.ne]
variable{k:Nat}{x:Str}{sp:Sp}
theorem mf_{n_:Nat}{X:Cx}{p pos:Pos}(c:br X.prog X.w X.K X.mg X.base k x [] sp)(hr:aY n_ X.A)(hg:Gl X x:=by rfl)(oQ:(x == ("__debug__":Str))=false:=by decide)(hk:k<=n_:=by decide):PE X (.Call (.Name x p) [] [] pos) (pN sp [] E0 jQ):=by
 let#[f,fd,F,m,kp,b]:=c.ex;exact jU_ F (hr.mono hk) hg m kp b .nil lF oQ
abbrev lwN:ae:=[yY,"_law_k",kz,"_law_hands",vH,"_law_pieces",i9,"_law_rule","_law_moments",gE,"_law_goods_here","_law_shared_here","_law_due","_law_now","_law_moment","_law_went",oT,"_law_fewer"]
theorem i_:bx lwN [yY] (ba iK):=bH
def pR(K:af)(T1 T2:Addr):Sp:=λvs H Q _=>∃(a:Addr) (ns:List Int),vs=[.ref a]/\Tb H T1 T2/\eG K H a (ns.map V.int)/\ns.length<=63/\∀H',Q (.bl true) H'
variable{P:Ae}{w:Af}{mg:Str->Option Aa}{base:Heap}{CG CW:Addr}
theorem m3_{f0:Addr}{fd:Ad}(F:bp K "law" "law" iK f0 fd)(B:Bi mg)(cC:!br 1 "_law_cell_at" qK (tY K))(SM:!br 1 "_law_state" ["_law_cell","_law_k"] pP)(cD:!br 2 y_ AH De)(cL:!br 4 "_law_web" [kz] (tU K))(Ta:!br 5 "_law_few" Eu (Jb K))(SJ:!br 1 "_law_world" wk (RD K))(SS:!br 1 "_law_rules" [] XS)(SQ:!br 1 "_law_shared" ["_law_numbers"] (xV K))(I_:!br 2 "_law_sum" wu (nA K))(cPu:!br 5 "_law_put" Eo (nC K))
  (SX:!pE CW 5 "Web" ["self","hands","ties"] (nI K CW)) (Tc:!pE CG 7 "Goods" ["self","web","pieces"] (Rb K CG CW)) (MI:!br 10 "sums_of" wg (Sn K CG CW T1 T2)):!aj aZ 11 f0 fd [yY] (pR K T1 T2):=by
 exists F.bG i_;let#[ls,ns,rfl,tb,yH,h63,k]:=h;let sz:=cc;let hu:=eO hr;let hun:=hr.Be;refine' #[_,ak ?s1 (aE (bo CD)),?kk]
 case' s1=>refine' eE dM Z ?i3 (bN 1 i_.nd) ?b0
 case i3=>exact EW (by rfl) B.range %[bw h9 aI (cQ (hF_ Z) (by rfl) B.min PyProof.Rows.Boot.«min» %[cQ mR (by rfl) B.len jJ %[0|0],aI|0])|0]
 case' b0=>refine' ak ?b1 ?c1
 case' c1=>refine' ak ?b2 ?c2
 case' c2=>refine' ak ?b3 ?c3
 case' c3=>refine' ak ?b4 ?c4
 case' c4=>refine' ak ?b5 ?c5
 case' c5=>refine' ak ?b6 ?c6
 case' c6=>refine' ak ?b7 ?c7
 case' c7=>refine' ak ?b8 ?c8
 case' c8=>refine' ak ?b9 ?c9
 case' c9=>refine' ak ?jv ?c10
 case' c10=>refine' ak ?vZ ?c11
 case' c11=>refine' ak ?A3 ?c12
 case' c12=>refine' ak ?E6 ?c13
 case' c13=>refine' ak ?o_ ?c14
 case' c14=>refine' ak ?vY ?c15
 case' c15=>refine' ak ?E5 ?c16
 case' c16=>refine' aE ?b17
 case b1=>exact aO 2 i_.nd (aX SM hr %[aX cC hr %[0,1|0],1|0])
 case b2=>exact C6 (aX cL hr %[2|0]) (ju Z (cU (bN 3 i_.nd) (cU (bN 4 i_.nd) iA)))
 case b3=>exact C6 (aX Ta hr %[2,3,4|0]) (ju Z (cU (bN 5 i_.nd) (cU (bN 6 i_.nd) iA)))
 case b4=>exact aO 7 i_.nd (bM gi (mf_ SS hr) (aX cD hr %[2,aI|0]))
 case b5=>exact aO 8 i_.nd (aX cD hr %[2,aI|0])
 case' b6=>refine' bP (c_ iF (aX cD hr %[2,aI|0]) aI) (ak ?d0 (ak ?d1 (aE ?d2))) bQ
 case d0=>exact aO 8 i_.nd (bM gi (cy %[aI,aI|0]) (iZ Jv (by rfl) B.int EG %[iI Lo (cQ mR (by rfl) B.len jJ %[3|0]) aI|0]))
 case d1=>exact aO 5 i_.nd (xq A2 (pv 5) xo (xn aI))
 case' d2=>refine' aO 6 i_.nd (iZ (wb Z) (by rfl) B.dict qF %[i4 qO 1 [6] (dA (pv 5)) (λfp s H=>e_ (i:=0) (show (qO:ae).Nodup by decide +kernel) Z (Or.inl Z)) (λfp s H=>iH) (λfp s H=>?te)|0])
 case te=>exact eW %[bM (yD (K:=K) jk eP) (pv 0) aI,bV hu (pv 1) (bM (yD (K:=K) jk eP) (pv 0) aI)|0]
 case b7=>exact aO 9 i_.nd (aX SJ hr %[3,4,5|0])
 case b8=>exact aO 10 i_.nd (OU Tc hr %[OU SX hr %[3,4|0],5|0])
 case b9=>exact aO 11 i_.nd (aX SQ hr %[iZ (gv_ Z) (by rfl) B.list zm %[RL (bV hu (pv 9) cn)|0]|0])
 case jv=>exact aO 12 i_.nd (cy %[aX I_ hr %[9,6,11|0]|0])
 case vZ=>exact aO 13 i_.nd (pv 6)
 case' A3=>refine' eE dM Z (EW (by rfl) B.range %[8|0]) (bN 14 i_.nd) (ak ?e1 (aE ?e2))
 case e1=>exact C6 (aX cPu hr %[9,13,7,14|0]) (ju Z (cU (bN 13 i_.nd) (cU (bN 15 i_.nd) iA)))
 case e2=>exact gP (gC gO kB kC ki (pv 12) %[aX I_ hr %[9,13,11|0]|0])
 case E6=>exact aO 16 i_.nd (aX MI hr %[10,6,7,8|0])
 case o_=>exact bP (AD (hU (fZ (cQ o9 (by rfl) B.mF mT %[16,o7 (v:=.ty "list") (by rfl) B.list zm Z|0]))) (AR (c_ (Ql IQ (lX hr 0)) (pv 16) (pv 12)))).pt fH bQ
 case vY=>exact gP (lO_ gO PySem.F.slot_list_clear PySem.F.type_list_clear jY_ (pv 16))
 case E5=>exact aO 17 i_.nd (aX cD hr %[2,bw h9 (pv 8) aI|0])
 case b17=>exact bP (c_ (Ql IQ (lX hr 0)) (aX MI hr %[10,6,7,17|0]) (xq A2 (pv 12) xo (xn (bw h9 (pv 17) aI)))) fH bQ
 have qt:(ns.map V.int).length<=63:=by rw[ao];exact h63
 apply dg (λσ H'=>True) (λσ H' _=>k _) (λN hN=>?_)
 obtain⟨cnt,c4,ec⟩:∃c:Nat,c<=4/\(1+(if (2:Int)<((ns.map V.int).length:Int) then (2:Int) else ((ns.map V.int).length:Int)))=(c:Int):=by
  by_cases c:(2:Int)<((ns.map V.int).length:Int)
  ·rw[aB c];exact#[3,by decide,Z]
  rw[au c];exact#[1+(ns.map V.int).length,by omega,by omega]
 apply#[_,Z,ls,_,Z,.inl yH,_,_,Z,_,_,Z,Z,(cnt:Int),dQ (λz=>[V.int z]) ec,by omega,by omega,?_]
 let Ko:bI:=λi σ H'=>NT H H'/\Tb H' T1 T2/\∃v1 v2 v3 v4 v5 v6 v7 v8 v9 v10 v11 wI wH kK kJ pI qY:aF,σ=[some (.ref ls),v1,v2,v3,v4,v5,v6,v7,v8,v9,v10,v11,wI,wH,kK,kJ,pI,qY]
 apply RN Ko #[NT.refl H,tb,none,none,none,none,none,none,none,none,none,none,none,none,none,none,none,none,none,Z] ?_ (λσ H' _=>hN _ _ trivial);rintro i σ H0 hi ⟨US,tb0,v1,v2,v3,v4,v5,v6,v7,v8,v9,v10,v11,wI,wH,kK,kJ,pI,qY,rfl⟩;lk;rw[xB] at hi
 let Kn:bZ:=λσ H'=>∃l,aa H0 H'/\H0 l=none/\d_ H' l/\σ=[some (.ref ls),some (.int i),some (.ref l),v3,v4,v5,v6,v7,v8,v9,v10,v11,wI,wH,kK,kJ,pI,qY]
 apply dg Kn ?m2 (λN1 g9=>?m1)
 case m1=>
  apply#[_,Z,_,Z,ls,ns,_,Z,by omega,mm_ US yH,λc=>?_];apply#[_,Z,c,i,by rw[Int.zero_add];rfl,by omega,λl H1 s1 nl st=>g9 _ _ #[l,s1,nl,st,?_]];show [some (V.ref ls),some (V.int (0+(i:Int))),some (V.ref l),v3,v4,v5,v6,v7,v8,v9,v10,v11,wI,wH,kK,kJ,pI,qY]=_;rw[Int.zero_add]
 rintro σ H1 ⟨l,s1,nl,mD,rfl⟩
 let Km:bZ:=λσ H'=>∃(lh lt:Addr) (ys zs:ai) (hs:Xa) (ts:Xb),aa H0 H'/\d_ H' l/\lh≠l/\lt≠l/\H' lh\.lst ys/\bg K H' ys (hs.map kH)/\H' lt\.lst zs/\bg K H' zs (ts.map kT)/\Good hs ts/\σ=[some (.ref ls),some (.int i),some (.ref l),some (.ref lh),some (.ref lt),v5,v6,v7,v8,v9,v10,v11,wI,wH,kK,kJ,pI,qY]
 apply dg Km ?m4 (λN1 g9=>?m3)
 case m3=>
  apply#[_,Z,l,Z,mD,λt lh lt ys zs hs ts H2 b2 fK ht fh ft nht BW BR h1 h2 h3 h4 G=>?_];exact#[t,_,Z,.of ht,Z,_,_,Z,_,_,Z,Z,g9 _ _ #[lh,lt,ys,zs,hs,ts,b2.same nl s1,fK,BW,BR,h1,h2,h3,h4,G,Z]]
 rintro σ H2 ⟨lh,lt,yh,zt,hs,ts,s2,fK,BW,BR,h1,h2,h3,h4,G,rfl⟩
 let Kl:bZ:=λσ H'=>∃(lp d:Addr) (yp:ai) (ps:aC) (f:ag),aa H0 H'/\d_ H' l/\lp≠l/\d≠l/\zA K H' lh lt lp d yh zt yp hs ts ps f/\Pw hs ts ps f/\σ=[some (.ref ls),some (.int i),some (.ref l),some (.ref lh),some (.ref lt),some (.ref lp),some (.ref d),v7,v8,v9,v10,v11,wI,wH,kK,kJ,pI,qY]
 apply dg Kl ?m6 (λN1 g9=>?m5)
 case m5=>
  apply#[_,Z,_,Z,_,Z,l,lh,lt,yh,zt,hs,ts,Z,fK,h1,BW,h2,h3,BR,h4,G,λt lp d yp ps f H3 b3 gR ht fp fd yr jm h5 h6 h7 gp nd ic at_=>?_];let#[KS,wU]:=fK.some;exact#[t,_,Z,.of ht,Z,_,_,Z,_,_,Z,Z,g9 _ _ #[lp,d,yp,ps,f,b3.same nl s2,gR,yr,jm,#[b3 _ _ h1 BW,xw h2 b3 wU,b3 _ _ h3 BR,xw h4 b3 wU,h5,h6,h7],#[G,gp,nd,ic,at_],Z]]
 clear h1 h2 h3 h4 mD fK s1 s2;rintro σ Ha ⟨lp,d,yp,ps,f,sa,NK,yr,jm,Da,Pp,rfl⟩
 let Kk:bZ:=λσ H'=>∃r∈rl,aa H0 H'/\d_ H' l/\zA K H' lh lt lp d yh zt yp hs ts ps f/\σ=[some (.ref ls),some (.int i),some (.ref l),some (.ref lh),some (.ref lt),some (.ref lp),some (.ref d),some (.str r.1),v8,v9,v10,v11,wI,wH,kK,kJ,pI,qY]
 apply dg Kk ?m8 (λN1 g9=>?m7)
 case m7=>
  apply#[Z,λlr Hb sb sG er=>?_];let Uw:=NK.same sb;let#[KS,wU]:=NK.some;apply#[_,Z,l,17,Z,by decide,by decide,Uw,λz Hc z0 z1 bc stc=>?_];let#[r,iP,er']:=mB_ z0 z1;exact#[lr,_,_,_,Z,Z,.of (bc _ _ er (bj wU sG).symm),er',g9 _ _ #[r,iP,bc.same nl (sa.trans sb),stc,(Da.nt (NT.of sb)).mv bc Uw BW BR yr jm,Z]]
 clear Da NK sa;rintro σ H3 ⟨r,Av,s3,gR,D3,rfl⟩;apply#[_,Z,l,21,Z,by decide,by decide,gR,λa1 H4 p0 p1 b4 ia=>?_];let#[n0,rfl]:=qI p0;lk;let s4:=b4.same nl s3;let D4:=D3.mv b4 gR BW BR yr jm;clear D3 s3 gR
 let Kj:bZ:=λσ H'=>∃(lp d:Addr) (yp:ai) (ps:aC) (n:Nat),n<=400/\aa H0 H'/\d_ H' l/\lp≠l/\d≠l/\zA K H' lh lt lp d yh zt yp hs ts ps f/\Pw hs ts ps f/\σ=[some (.ref ls),some (.int i),some (.ref l),some (.ref lh),some (.ref lt),some (.ref lp),some (.ref d),some (.str r.1),some (.int (n:Int)),v9,v10,v11,wI,wH,kK,kJ,pI,qY]
 apply dg Kj ?yy (λN1 g9=>?OE)
 case OE=>
  apply#[_,Z,l,8,Z,by decide,by decide,ia,λa3 H5' p4 p5 b5 FK=>?_];let UB:=b5.same nl s4;let _m:=D4.mv b5 ia BW BR yr jm;apply#[Z,_,Z,?_];apply aQ (λc=>?_) (λc=>?_)
  ·apply#[zl,λlx nx=>?_];let#[sx,ex]:=aA (o:=.lst [.int 60,.int 400]) nx;generalize upd H5' lx (.lst [.int 60,.int 400])=H5 at sx ex ⊢;let D5:=_m.nt (NT.of sx);let s5:=UB.trans sx;let gq:=FK.same sx;apply#[_,Z,lh,_,Z,.inl (.of D5.hh),_,_,Z,Z,.inr #[_,Z,?_]]
   obtain⟨gr,hgr,g4⟩:∃gr:Nat,gK [V.int 60,.int 400] (if decide ((yh.length:Int)<4)=true then 1 else 0)\.int (gr:Int)/\gr<=400:=by
    split
    ·exact#[400,Z,by decide]
    exact#[60,Z,by decide]
   apply#[lx,_,_,_,Z,Z,.of ex,hgr,?_];lk;apply#[_,Z,_,Z,lp,_,Z,.of D5.hp,λlq nq=>?_];rw[show gB yp none (some 2)=yp.take 2 from Dn yp 2];let#[s6,e6]:=aA (o:=.lst (yp.take 2)) nq;generalize upd H5 lq (.lst (yp.take 2))=H6 at s6 e6 ⊢;lk;let D6:=D5.nt (NT.of s6);let P2:=Pp.take 2;have UO:AK K H6 (yp.take 2) (ps.take 2):=Jq 2 D6.pc;let#[Ue,rJ]:=gq.some;apply#[_,Z,lq,Z,#[_,.of e6],λD hD=>?_];apply XF Z e6 UO D6.hd (λn hn=>((List.take_sublist 2 ps).map _).subset hn) P2.ic hD (λa n x y H' Q' ha gd k=>?_) (λout H7 s7 d7 pa=>?_)
   ·exact#[_,Z,a,_,0,_,Z,Z,.of ha,Z,_,Z,_,Z,a,_,0,_,Z,Z,.of ha,Z,d,_,Z,gd,zl,k]
   have lk:(b_ ((ps.take 2).map (·.1)) f).length<=1000:=by
    have:=P2.ic;rw[f_,ao];omega
   apply#[D,out,_,Z,d7,pa,lk,λd2 Gs=>?_];rw[VA P2.nd];let#[s8,e8]:=aA (o:=.dK (b_ ((ps.take 2).map (·.1)) f)) Gs;generalize upd H7 d2 (.dK (b_ ((ps.take 2).map (·.1)) f))=H8 at s8 e8 ⊢;apply setG ?_;let km:=s7.trans s8;let zW:=s6.trans km;let D8:=D5.nt (NT.of zW);exact g9 _ _ #[lq,d2,_,_,gr,g4,s5.trans zW,gq.same zW,(bj rJ nq).symm,(bj rJ ((s6.trans s7).free Gs)).symm,#[D8.hh,D8.th,D8.ht,D8.tt,km _ _ e6,Paired.bu UO λy q x=>x.same km,e8],P2,Z]
  exact g9 _ _ #[lp,d,yp,ps,n0,by omega,UB,FK,yr,jm,_m,Pp,Z]
 clear D4 s4 ia yr jm Pp;rintro σ H6 ⟨lp,d,yp,ps,n,n4,s6,mC,yr,jm,D6,Pp,rfl⟩;apply#[_,Z,_,Z,_,Z,lh,lt,lp,yh,zt,yp,hs,ts,ps,Z,D6.hh,D6.th,D6.ht,D6.tt,D6.hp,D6.pc,G,Pp.nd,Pp.ic,λwa H3 K8 nwa WA=>?_];lk;let D3:=D6.nt (NT.of K8);let gR:=mC.same K8;let s3:=s6.trans K8;clear D6 mC s6 K8 nwa
 let Ki:bZ:=λσ H'=>∃(g p:Addr) (qs:aC) (fp:az),aa H3 H'/\Ba K CG CW H' g p d hs ts qs fp (ps.map (·.1)) f/\Qs ps qs/\l∉fp/\σ=[some (.ref ls),some (.int i),some (.ref l),some (.ref lh),some (.ref lt),some (.ref lp),some (.ref d),some (.str r.1),some (.int (n:Int)),some (.ref wa),some (.ref g),v11,wI,wH,kK,kJ,pI,qY]
 apply dg Ki ?U8 (λN1 g9=>?OD)
 case OD=>
  let h7:=D3.hd;apply#[_,Z,_,Z,λp dx hp P5 ne=>?_];have s4:aa H3 (upd (upd H3 dx (.own p)) p (.ins CW dx [])):=(aa.new P5).trans (aa.new (by rw[ax ne.symm];exact hp));apply#[p,dx,lh,lt,yh,zt,hs,ts,Z,ay,s4 _ _ D3.hh,D3.th.same s4,s4 _ _ D3.ht,D3.tt.same s4,G,λcE H5 kp W fr=>#[Z,?_]];have jB:aa H3 H5:=λb o e=>kp b o (s4 _ _ e) (bj e hp)
  have dfw:d∉cE:=λm=>by
   rcases fr d m with z|z
   ·rw[z] at h7;rw[h7] at hp;cases hp
   rw[s4 _ _ h7] at z;cases z
  apply#[_,Z,λg AN hg P4 ne2=>?_];have s6:aa H5 (upd (upd H5 AN (.own g)) g (.ins CG AN [])):=(aa.new P4).trans (aa.new (by rw[ax ne2.symm];exact hg));let DM:=jB.trans s6;have e6:upd (upd H5 AN (.own g)) g (.ins CG AN []) g\.ins CG AN []:=ay
  have gfw:g∉cE:=λm=>by
   let#[o,e,_]:=W.yQ m;rw[e] at hg;cases hg
  generalize upd (upd H5 AN (.own g)) g (.ins CG AN [])=H6 at s6 e6 DM ⊢;apply#[g,AN,p,lp,yp,ps,hs,ts,cE,Z,e6,W.same s6,gfw,G,DM _ _ D3.hp,Paired.bu D3.pc λy q x=>x.same DM,Pp.gp,Pp.nd,by have:=Pp.ic;omega,λqs fp H7 kg GA Qq fg=>#[Z,?_]];have UD:aa H3 H7:=λb o e=>kg b o (DM _ _ e) (λz=>by rw[z] at e;rw[jB _ _ e] at hg;cases hg)
  have rO:d∉fp:=λm=>by
   rcases fg d m with z|z|z
   ·rw[z] at h7;rw[jB _ _ h7] at hg;cases hg
   ·exact dfw z
   rw[DM _ _ h7] at z;cases z
  let#[xs3,rK]:=gR.some
  have lfp:l∉fp:=λm=>by
   rcases fg l m with z|z|z
   ·rw[z] at rK;rw[jB _ _ rK] at hg;cases hg
   ·rcases fr l z with z|z
    ·rw[z] at rK;rw[rK] at hp;cases hp
    rw[s4 _ _ rK] at z;cases z
   rw[DM _ _ rK] at z;cases z
  let#[HY,GA',sub,has]:=GA.yQ;apply g9 _ _ #[g,p,qs,HY,UD,#[GA',λm=>rO (sub d m),UD _ _ h7,#[?_,λn hn=>Pp.at_ n hn],has],Qq,λm=>lfp (sub l m),Z];rw[Qq.sF];exact (gM _).symm
 rintro σ H4 ⟨g,p,qs,fp,eY,S,Qq,lfp,rfl⟩
 have wd:Wd hs ts qs f:=#[G,Qq.nd Pp.nd,by rw[Qq.len];have:=Pp.ic;omega,λn hn=>Pp.at_ n (Qq.VZ hn),λq hq=>by
  let#[p,hp,e]:=Qq.mem q hq;have:=Pp.gp p hp;rw[e];exact#[by have:=this.w1;show 0<=p.2.1;omega,this.w2]]
 let jC:=s3.trans eY;let ia:=gR.same eY;let W4:=WA.nt (NT.of eY);clear D3 WA gR
 let Kh:bZ:=λσ H'=>aa H4 H'/\σ=[some (.ref ls),some (.int i),some (.ref l),some (.ref lh),some (.ref lt),some (.ref lp),some (.ref d),some (.str r.1),some (.int (n:Int)),some (.ref wa),some (.ref g),some (.int (i8 hs)),wI,wH,kK,kJ,pI,qY]
 apply dg Kh ?U7 (λN1 g9=>?OC)
 case OC=>
  let#[ds,dn,lt',dw,dy,ad,gy,WE]:=W4;apply#[_,Z,wa,_,Z,WE.gS,ds,_,Z,WE.sg,λv nv=>?_];let#[s5,e5]:=aA (o:=qG v ds) nv;generalize upd H4 v (qG v ds)=H5 at s5 e5 ⊢;apply#[v,ds,_,Z,e5,.inl (s5 _ _ WE.sg),λl2 nl2=>?_]
  have ev:(bB (hs.map (·.1)) λn=>V.int (strOf hs n)).map (·.2)=((hs.map (·.1)).map (strOf hs)).map V.int:=by
   unfold bB;simp only[cm];rfl
  rw[ev];have pm:((hs.map (·.1)).map (strOf hs)).Perm ((aD hs).map (strOf hs)):=(fG hs).symm.map _
  have bd:∀m∈(hs.map (·.1)).map (strOf hs),1<=m/\m<=1000:=λm hm=>by
   let#[x,hx,rfl]:=bh.mp hm;exact bJ G ((fG hs).mem_iff.mpr hx)
  let#[s6,e6]:=aA (o:=.lst (((hs.map (·.1)).map (strOf hs)).map V.int)) nl2;generalize upd H5 l2 (.lst (((hs.map (·.1)).map (strOf hs)).map V.int))=H6 at s6 e6 ⊢;apply#[l2,_,Z,.of e6,bd,?_];rw[hk_ pm λm hm=>by have:=bd m hm;omega];apply setG ?_;exact g9 _ _ #[s5.trans s6,Z]
 rintro σ H5 ⟨i7,rfl⟩;let UG:=jC.trans i7;let S5:=S.nt (NT.of i7);let W5:=W4.nt (NT.of i7);let gq:=ia.same i7;have L5:zy K H5 wa d hs ts ps qs f:=#[W5,Pp,Qq,wd,S5.hd];clear S W4 ia jC i7 eY s3;apply#[_,Z,_,Z,_,Z,wa,d,hs,ts,ps,qs,f,Z,L5,λH6 s6=>?_];apply#[zl,λdu UX=>?_];let s7:=aa.new (o:=.lst [.int (k8 hs qs f)]) UX;have e7:upd H6 du (.lst [.int (k8 hs qs f)]) du\.lst (dX r hs ts qs f 1):=ay;generalize upd H6 du (.lst [.int (k8 hs qs f)])=H7 at s7 e7 ⊢;lk;let lC:=s6.trans s7;let BX:=s6.free UX;apply#[_,Z,?_];lk;have ddu:d≠du:=bj S5.hd BX
 let Kg:bZ:=λσ H'=>∃(nw:Addr) (kK kJ:aF),aa H5 H'/\H' du\.lst (dX r hs ts qs f (n+1))/\σ=[some (.ref ls),some (.int i),some (.ref l),some (.ref lh),some (.ref lt),some (.ref lp),some (.ref d),some (.str r.1),some (.int (n:Int)),some (.ref wa),some (.ref g),some (.int (i8 hs)),some (.ref du),some (.ref nw),kK,kJ,pI,qY]
 apply dg Kg ?m18 (λN1 g9=>?m17)
 case m17=>
  apply#[_,Z,(n:Int),Z,by omega,by omega,?_]
  let Kf:bI:=λj σ H'=>∃(nw:Addr) (kK kJ:aF),aa H5 H'/\H' du\.lst (dX r hs ts qs f (j+1))/\nw≠du/\H' nw\.dK (b_ (ps.map (·.1)) (runM r hs ts qs f j))/\σ=[some (.ref ls),some (.int i),some (.ref l),some (.ref lh),some (.ref lt),some (.ref lp),some (.ref d),some (.str r.1),some (.int (n:Int)),some (.ref wa),some (.ref g),some (.int (i8 hs)),some (.ref du),some (.ref nw),kK,kJ,pI,qY]
  apply RN Kf #[d,kK,kJ,lC,e7,ddu,lC _ _ S5.hd,Z] ?_ ?_
  ·rintro j σ H8 hj ⟨nw,KW,KU,s8,el,Gr,en,rfl⟩;lk;rw[xB] at hj;let W2:=wd.run r j;let W3:=wd.run r (j+1);apply#[_,Z,_,Z,_,Z,_,Z,wa,nw,0+(j:Int),hs,ts,ps,qs,_,r,Av,Z,#[W5.nt (NT.of s8),Pp.to Qq W2,Qq,W2,en],λt d' H9 s9 nd' ht iS=>?_];rw[Int.zero_add] at iS ht;apply#[t,_,Z,.of ht,Z,_,_,Z,_,_,Z,Z,?_];dsimp only;let UA:=s8.trans s9;let L1:=s9 _ _ el;have Zh:d'≠du:=(bj el nd').symm;apply#[_,Z,.inl #[Z,#[_,.of L1]],?_];apply#[_,Z,_,Z,_,Z,wa,d',hs,ts,ps,qs,_,Z,#[W5.nt (NT.of UA),Pp.to Qq W3,Qq,W3,iS],λHA sA=>?_];let elA:=sA _ _ L1;apply#[du,_,_,Z,Z,elA,by rw[X4];omega,?_];apply#[d',_,_,fF (UA.trans sA) BX,?_,Zh,?_,Z]
   ·rw[ay,Yn r hs ts qs f (j+1)]
   rw[ax Zh];exact sA _ _ iS
  rintro σ H8 ⟨nw,KW,KU,s8,el,Gr,en,rfl⟩;rw[xB] at el;exact g9 _ _ #[nw,KW,KU,s8,el,Z]
 rintro σ H8 ⟨nw,KW,KU,zW,YE,rfl⟩;let S8:=S5.nt (NT.of zW);let Ul:=tb0.same (UG.trans zW);let xU:=gq.same zW
 have pr:∀(G:Hp) (m:Nat),Paired (rZ G) (dX r hs ts qs f m) ((List.range m).map λi=>k8 hs qs (runM r hs ts qs f i)):=λG m=>by
  unfold dX;generalize (List.range m).map (λi=>k8 hs qs (runM r hs ts qs f i))=z
  induction z with
  |nil=>exact .nil
  |cons a z ih=>exact .cons Z ih
 apply#[_,Z,_,Z,_,Z,_,Z,g,p,d,n,hs,ts,qs,fp,_,f,r,Av,Z,by omega,S8,wd,Ul,λff H9 b9 tb9 nff HF=>?_];lk;let n9:=b9.nt Ul;let L1:=n9.lst YE
 let Ke:bZ:=λσ H'=>H9=H'/\σ=[some (.ref ls),some (.int i),some (.ref l),some (.ref lh),some (.ref lt),some (.ref lp),some (.ref d),some (.str r.1),some (.int (n:Int)),some (.ref wa),some (.ref g),some (.int (i8 hs)),some (.ref du),some (.ref nw),KW,KU,some (.ref ff),qY]
 apply dg Ke ?m20 (λN1 g9=>?m19)
 case m19=>
  apply#[_,Z,_,_,_,true,Z,.lst HF,Z,_,Z,aQ (λc=>by simp at c) (λ_=>?_)];apply#[_,Z,_,Z,_,_,#[ff,_,Z,.of HF,pr _ _],#[du,_,Z,.of L1,pr _ _],_,Z,aQ (λc=>by simp at c) (λ_=>?_)];exact g9 _ _ #[Z,Z]
 rintro σ _ ⟨rfl,rfl⟩;apply#[_,Z,.inl #[Z,#[_,.of HF]],ff,_,Z,Z,HF,?_];have jv:a_ ff H9 (upd H9 ff (.lst [])):=a_.upd;let Fq:=VO tb9 jv HF nofun (by intro c q z;cases z);generalize upd H9 ff (.lst [])=wC at jv Fq ⊢;have DU:NT H8 wC:=λb o e y=>jv b o (n9 b o e y) (bj e nff);let jf:=xU.nt DU;let QU:=DU.lst YE;let _d:=S8.nt DU;apply#[_,Z,_,Z,_,_,Z,Z,l,(n:Int)+1,Z,by omega,by omega,jf,λa1 Ua p0 p1 vZ st11=>?_];let#[n2,rfl]:=qI p0;lk;let#[_E,Hr]:=jf.some
 have lH5:∃o,H5 l\o:=by
  let#[Ue,rJ]:=gq.some;exact#[_,rJ]
 have dul:du≠l:=λz=>by
  let#[o,e]:=lH5;rw[<- z,BX] at e;cases e
 let QT:=vZ _ _ QU dul;let S11:=_d.mv vZ jf lfp (cu _d.hd Hr nofun);let Fp:=VO Fq vZ Hr nofun (by intro c q z;cases z);apply#[_,Z,_,Z,_,Z,_,Z,g,p,d,n2,hs,ts,qs,fp,_,f,r,Av,Z,by omega,S11,wd,Fp,λf2 Fe A3 Nn nf2 hf2=>?_];let DT:=A3.nt Fp;let QS:=DT.lst QT;apply#[_,Z,_,Z,_,_,Z,Z,_,Z,du,_,Z,.of QS,λlq nq=>?_];rw[show (n2:Int)+1=((n2+1:Nat):Int) by omega,Dn];let jh:=aa.new (o:=.lst ((dX r hs ts qs f (n+1)).take (n2+1))) nq
 have CZ:upd Fe lq (.lst ((dX r hs ts qs f (n+1)).take (n2+1))) lq\.lst (dX r hs ts qs f (n2+1)):=by
  rw[ay];unfold dX;rw[<- List.map_take,<- List.map_take,List.take_range,Nat.min_eq_left Z1]
 generalize upd Fe lq (.lst ((dX r hs ts qs f (n+1)).take (n2+1)))=T_ at jh CZ ⊢;apply#[_,_,#[f2,_,Z,.of (jh _ _ hf2),pr _ _],#[lq,_,Z,.of CZ,pr _ _],_,Z,aQ (λc=>by simp at c) (λ_=>?_)];have n08:NT H0 wC:=(NT.of (UG.trans zW)).trans DU;have Oz:NT H0 Ua:=λb o e y=>vZ b o (n08 b o e y) (bj e nl);exact#[US.trans (Oz.trans (DT.trans (NT.of jh))),Nn.same jh,_,_,_,_,_,_,_,_,_,_,_,_,_,_,_,_,_,Z]
structure Fd (K:af) (mg:Str->Option Aa) (x:Str) (st:Stmt):Prop where
 ex:∃f fd,bp K x x st f fd/\mg x\.ref f/\PySem.W.keepIn K (.ref f)=true
variable{f:Addr}{h:Heap}{st:Stmt}{aR ct doc oc pm:Aa}{an od:Option Addr}{kn:Array (Option Aa)}
theorem HZ(X:K.In h)(G:h.Ns mainGlobals mg){kV:Aa}(a:PySem.W.nsIn K mainGlobals x\some (.ref f))(l:K.lookup f=some #[oc,od,.func (PySem.W.fnOf x x (j6 st) (iW st) (ba st) .none kV doc pm an aR ct),kn])(c:PySem.W.codeIn K aR x=true)(k:PySem.W.keepIn K (.ref f)=true):Fd K mg x st:=#[_,_,O6 l c k,PySem.W.mg_of X G a,k]
structure Md (K:af) (C:Addr) (m qual:Str) (st:Stmt):Prop where
 ex:∃f fd,bp K m qual st f fd/\Meth K C m f
variable{C:Addr}{m qual:Str}
theorem Gv{kV:Aa}(a:PySem.W.findIn K (.ref C) m\some (.ref f))(i:PySem.W.isFn K (.ref f)=true)(l:K.lookup f=some #[oc,od,.func (PySem.W.fnOf m qual (j6 st) (iW st) (ba st) .none kV doc pm an aR ct),kn])(c:PySem.W.codeIn K aR qual=true)(k:PySem.W.keepIn K (.ref f)=true):Md K C m qual st:=#[_,_,O6 l c k,a,i,k]
variable{ps:ae}
theorem cal(d:Fd K mg x st)(ok:∀f fd,bp K x x st f fd->!aj aZ k f fd ps sp)(h:∀(kV doc pm:Aa) (an:Option Addr) (aR ct:Aa) (us:aq),us.length=ps.length->bindArgs (PySem.W.fnOf x x (j6 st) (iW st) (ba st) .none kV doc pm an aR ct) #[us,[]]=pure (ps.zip us)):!br k x ps sp:=by
 let#[f,fd,F,m,kp]:=d.ex;exact#[f,fd,ok f fd F,m,kp,F.binds h]
theorem SD(d:Md K C m qual st)(ok:∀f fd,bp K m qual st f fd->!aj aZ k f fd ps sp)(h:∀(kV doc pm:Aa) (an:Option Addr) (aR ct:Aa) (us:aq),us.length=ps.length->bindArgs (PySem.W.fnOf m qual (j6 st) (iW st) (ba st) .none kV doc pm an aR ct) #[us,[]]=pure (ps.zip us)):!bF C k m ps sp:=by
 let#[f,fd,F,m]:=d.ex;exact#[f,fd,ok f fd F,m,F.binds h]
theorem SE(d:Md K C "__init__" qual st)(hx:mg x\.ref C)(mk:PySem.W.makesIn K C=true)(kc:PySem.W.keepIn K (.ref C)=true)(ok:∀f fd,bp K "__init__" qual st f fd->!aj aZ k f fd ps sp)(h:∀(kV doc pm:Aa) (an:Option Addr) (aR ct:Aa) (us:aq),us.length=ps.length->bindArgs (PySem.W.fnOf "__init__" qual (j6 st) (iW st) (ba st) .none kV doc pm an aR ct) #[us,[]]=pure (ps.zip us)):!pE C k x ps sp:=by
 let#[f,fd,F,m]:=d.ex;exact#[f,fd,ok f fd F,#[mk,m.1,m.2,kc],hx,F.binds h]
theorem fj{p:Str}{x y:Tok}{z:Aa}{u:V}{n:Nat}{sl:Array (Option Aa)}(h:K.lookup a=some #[.type "tuple",od,.seq (List.toArray [.str p x,.str q y,z]) n,sl])(r:RelV u z):∀H,i6 K H a [.str p,.str q,u]:=λH=>
 .inr #[_,_,_,h,Z,Z,(show 3<=sizeLine by decide),.cons #[x,Z] (.cons #[y,Z] (.cons r .nil))]
variable{NH NG t8 t9:Tok}
theorem rules_at{es:Array DictEntry}{ep:Nat}{t0 t1 t2 t3 t4 t5 t6 t7 Uv Uu Ut Us Ur:Tok}{b0 b1 b2 b3 b4 b5 b6 b7 b8 b9 jv vZ A3 E6 o_ vY E5:Addr}{od0 od1 od2 od3 od4 od5 od6 od7 od8 od9 Oi Oh Og Of Oe Od Oc:Option Addr}{x0 y0 n0 v0 x1 y1 n1 v1 x2 y2 n2 v2 x3 y3 n3 v3 x4 y4 n4 v4 x5 y5 n5 v5 x6 y6 n6 v6 x7 y7 n7 v7 x8 y8 n8 v8 x9 y9 n9 v9 _L _B DU v10 _K _A n11 v11 _J _z DT _I _y Oy _H _x n14 kK _G _w n15 kJ _F _v n16 pI:Nat}{sl0 sl1 sl2 sl3 sl4 sl5 sl6 sl7 sl8 sl9 NV NU NS NR NQ NP NO:Array (Option Aa)}(m:mg "RULES"\.ref d)(hs:(d == sysModules)=false)(hl:K.lookup d=some #[.type "dict",none,.dict es ep,#[]])(he:es.toList=LN w [("least one high",t0,.ref b0),("least one fall",t1,.ref b1),("least one calm",t2,.ref b2),("least all high",t3,.ref b3),("least all fall",t4,.ref b4),("least all calm",t5,.ref b5),("below one high",t6,.ref b6),("below one fall",t7,.ref b7),("below one calm",t8,.ref b8),("below all high",t9,.ref b9),("below all fall",NH,.ref jv),("below all calm",NG,.ref vZ),("shares one",Uv,.ref A3),("shares all",Uu,.ref E6),("turns high",Ut,.ref o_),("turns fall",Us,.ref vY),("turns calm",Ur,.ref E5)])(u0:K.lookup b0=some #[.type "tuple",od0,.seq (List.toArray [.str "least" x0,.str "one" y0,.str "high" v0]) n0,sl0])(u1:K.lookup b1=some #[.type "tuple",od1,.seq (List.toArray [.str "least" x1,.str "one" y1,.str "fall" v1]) n1,sl1])(u2:K.lookup b2=some #[.type "tuple",od2,.seq (List.toArray [.str "least" x2,.str "one" y2,.str "calm" v2]) n2,sl2])(u3:K.lookup b3=some #[.type "tuple",od3,.seq (List.toArray [.str "least" x3,.str "all" y3,.str "high" v3]) n3,sl3])(u4:K.lookup b4=some #[.type "tuple",od4,.seq (List.toArray [.str "least" x4,.str "all" y4,.str "fall" v4]) n4,sl4])(u5:K.lookup b5=some #[.type "tuple",od5,.seq (List.toArray [.str "least" x5,.str "all" y5,.str "calm" v5]) n5,sl5])(u6:K.lookup b6=some #[.type "tuple",od6,.seq (List.toArray [.str "below" x6,.str "one" y6,.str "high" v6]) n6,sl6])(u7:K.lookup b7=some #[.type "tuple",od7,.seq (List.toArray [.str "below" x7,.str "one" y7,.str "fall" v7]) n7,sl7])(u8:K.lookup b8=some #[.type "tuple",od8,.seq (List.toArray [.str "below" x8,.str "one" y8,.str "calm" v8]) n8,sl8])(u9:K.lookup b9=some #[.type "tuple",od9,.seq (List.toArray [.str "below" x9,.str "all" y9,.str "high" v9]) n9,sl9])(u10:K.lookup jv=some #[.type "tuple",Oi,.seq (List.toArray [.str "below" _L,.str "all" _B,.str "fall" v10]) DU,NV])(u11:K.lookup vZ=some #[.type "tuple",Oh,.seq (List.toArray [.str "below" _K,.str "all" _A,.str "calm" v11]) n11,NU])(u12:K.lookup A3=some #[.type "tuple",Og,.seq (List.toArray [.str "shares" _J,.str "one" _z,.none]) DT,NS])(u13:K.lookup E6=some #[.type "tuple",Of,.seq (List.toArray [.str "shares" _I,.str "all" _y,.none]) Oy,NR])(u14:K.lookup o_=some #[.type "tuple",Oe,.seq (List.toArray [.str "turns" _H,.str "all" _x,.str "high" kK]) n14,NQ])(u15:K.lookup vY=some #[.type "tuple",Od,.seq (List.toArray [.str "turns" _G,.str "all" _w,.str "fall" kJ]) n15,NP])(u16:K.lookup E5=some #[.type "tuple",Oc,.seq (List.toArray [.str "turns" _F,.str "all" _v,.str "calm" pI]) n16,NO]) :
  Mo K w mg d [b0,b1,b2,b3,b4,b5,b6,b7,b8,b9,jv,vZ,A3,E6,o_,vY,E5]:=by
 apply#[m,Z,#[hs,?_,[("least one high",t0,.ref b0),("least one fall",t1,.ref b1),("least one calm",t2,.ref b2),("least all high",t3,.ref b3),("least all fall",t4,.ref b4),("least all calm",t5,.ref b5),("below one high",t6,.ref b6),("below one fall",t7,.ref b7),("below one calm",t8,.ref b8),("below all high",t9,.ref b9),("below all fall",NH,.ref jv),("below all calm",NG,.ref vZ),("shares one",Uv,.ref A3),("shares all",Uu,.ref E6),("turns high",Ut,.ref o_),("turns fall",Us,.ref vY),("turns calm",Ur,.ref E5)],_,es,ep,hl,#[Z,Z,Z],Z,he,?_],?_]
 ·rw[YS Z];exact hC_
 ·exact .cons #[Z,Z] (.cons #[Z,Z] (.cons #[Z,Z] (.cons #[Z,Z] (.cons #[Z,Z] (.cons #[Z,Z] (.cons #[Z,Z] (.cons #[Z,Z] (.cons #[Z,Z] (.cons #[Z,Z] (.cons #[Z,Z] (.cons #[Z,Z] (.cons #[Z,Z] (.cons #[Z,Z] (.cons #[Z,Z] (.cons #[Z,Z] (.cons #[Z,Z] (.nil)))))))))))))))))
 exact .cons (fj u0 #[_,Z]) (.cons (fj u1 #[_,Z]) (.cons (fj u2 #[_,Z]) (.cons (fj u3 #[_,Z]) (.cons (fj u4 #[_,Z]) (.cons (fj u5 #[_,Z]) (.cons (fj u6 #[_,Z]) (.cons (fj u7 #[_,Z]) (.cons (fj u8 #[_,Z]) (.cons (fj u9 #[_,Z]) (.cons (fj u10 #[_,Z]) (.cons (fj u11 #[_,Z]) (.cons (fj u12 Z) (.cons (fj u13 Z) (.cons (fj u14 #[_,Z]) (.cons (fj u15 #[_,Z]) (.cons (fj u16 #[_,Z]) (.nil)))))))))))))))))
structure Tg (P:Ae) (w:Af) (b:Heap):Prop where
theorem bS(q:Tg P w base)(d:Fd K mg x st)(ok:∀f fd,bp K x x st f fd->!aj aZ k f fd ps sp)(h:∀(kV doc pm:Aa) (an:Option Addr) (aR ct:Aa) (us:aq),us.length=ps.length->bindArgs (PySem.W.fnOf x x (j6 st) (iW st) (ba st) .none kV doc pm an aR ct) #[us,[]]=pure (ps.zip us):=by first|(exact λ_ _ _ _ _ _ us (hl:us.length=1)=>match us,hl with | [_],_=>rfl)|(exact λ_ _ _ _ _ _ us (hl:us.length=2)=>match us,hl with | [_,_],_=>rfl)|(exact λ_ _ _ _ _ _ us (hl:us.length=3)=>match us,hl with | [_,_,_],_=>rfl)|(exact λ_ _ _ _ _ _ us (hl:us.length=4)=>match us,hl with | [_,_,_,_],_=>rfl)|(exact λ_ _ _ _ _ _ us (hl:us.length=5)=>match us,hl with | [_,_,_,_,_],_=>rfl)|(exact λ_ _ _ _ _ _ us (hl:us.length=0)=>match us,hl with | [],_=>rfl)):!br k x ps sp:=cal d ok h
theorem o4(q:Tg P w base)(d:Md K C m qual st)(ok:∀f fd,bp K m qual st f fd->!aj aZ k f fd ps sp)(h:∀(kV doc pm:Aa) (an:Option Addr) (aR ct:Aa) (us:aq),us.length=ps.length->bindArgs (PySem.W.fnOf m qual (j6 st) (iW st) (ba st) .none kV doc pm an aR ct) #[us,[]]=pure (ps.zip us):=by first|(exact λ_ _ _ _ _ _ us (hl:us.length=1)=>match us,hl with | [_],_=>rfl)|(exact λ_ _ _ _ _ _ us (hl:us.length=2)=>match us,hl with | [_,_],_=>rfl)|(exact λ_ _ _ _ _ _ us (hl:us.length=3)=>match us,hl with | [_,_,_],_=>rfl)|(exact λ_ _ _ _ _ _ us (hl:us.length=4)=>match us,hl with | [_,_,_,_],_=>rfl)|(exact λ_ _ _ _ _ _ us (hl:us.length=5)=>match us,hl with | [_,_,_,_,_],_=>rfl)|(exact λ_ _ _ _ _ _ us (hl:us.length=0)=>match us,hl with | [],_=>rfl)):!bF C k m ps sp:=SD d ok h
theorem SF(q:Tg P w base)(d:Md K C "__init__" qual st)(hx:mg x\.ref C)(mk:PySem.W.makesIn K C=true)(kc:PySem.W.keepIn K (.ref C)=true)(ok:∀f fd,bp K "__init__" qual st f fd->!aj aZ k f fd ps sp)(h:∀(kV doc pm:Aa) (an:Option Addr) (aR ct:Aa) (us:aq),us.length=ps.length->bindArgs (PySem.W.fnOf "__init__" qual (j6 st) (iW st) (ba st) .none kV doc pm an aR ct) #[us,[]]=pure (ps.zip us):=by first|(exact λ_ _ _ _ _ _ us (hl:us.length=1)=>match us,hl with | [_],_=>rfl)|(exact λ_ _ _ _ _ _ us (hl:us.length=2)=>match us,hl with | [_,_],_=>rfl)|(exact λ_ _ _ _ _ _ us (hl:us.length=3)=>match us,hl with | [_,_,_],_=>rfl)|(exact λ_ _ _ _ _ _ us (hl:us.length=4)=>match us,hl with | [_,_,_,_],_=>rfl)|(exact λ_ _ _ _ _ _ us (hl:us.length=5)=>match us,hl with | [_,_,_,_,_],_=>rfl)|(exact λ_ _ _ _ _ _ us (hl:us.length=0)=>match us,hl with | [],_=>rfl)):!pE C k x ps sp:=SE d hx mk kc ok h
variable{l:PySem.W.OpenLaw}{as:az}
theorem all_mk{fa CS fl fh fr c1 c2:Addr}{SC:Aa}(X:K.In h)(G:h.Ns mainGlobals mg)(hfa:mg "law"\.ref fa)(f0:Fd K mg "is_whole" BG)(f1:Fd K mg "is_whole_from" Rn)(f2:Fd K mg "is_whole_within" nZ)(f3:Fd K mg "is_name" uy)(f4:Fd K mg "lesser_first" RH)(f5:Fd K mg "is_pair_of_names" uw)(f6:Fd K mg "sorted_ties" RE)(f7:Fd K mg "greatest_divisor" NZ)(f8:Fd K mg "least_multiple" NY)(f9:Fd K mg "is_hand_with_strength" uG)(f10:Fd K mg "checked_strengths" BE)(f11:Fd K mg "checked_ties" uq)(f12:Fd K mg "neighbours_of_all" ux)(f13:Fd K mg "checked_ways" oG)(f14:Fd K mg "checked_piece" Ru)(f15:Fd K mg "checked_pieces" Sd)(f16:Fd K mg "checked_stand" Q8)(f17:Fd K mg "loads_at" Sk)(f18:Fd K mg "multiple_of_strengths" uz)(f19:Fd K mg "levels_at" QI)(f20:Fd K mg "is_rule" Rh)(f21:Fd K mg "checked_words" nX)(f22:Fd K mg "fits" uJ)(f23:Fd K mg "heaviest_move" BH)(f24:Fd K mg "moves_by_least" Se)(f25:Fd K mg "moves_by_below" Sh)(f26:Fd K mg "share_moves" BF)(f27:Fd K mg "moves_by_shares" RU)(f28:Fd K mg "moves_from" Iu)(f29:Fd K mg "ties_anew" uP)(f30:Fd K mg "first_row_without" RO)(f31:Fd K mg "moves_by_turns" Sa)(f32:Fd K mg "moves_seen" k_)(f33:Fd K mg "checked_start" Rg)(f34:Fd K mg "checked_moments" RP)(f35:Fd K mg "sum_at" oi)(f36:Fd K mg "placed_after" ou)(f37:Fd K mg "sums_of" Q_)(f38:Fd K mg "_law_cell_at" uN)(f39:Fd K mg "_law_mixed" oz)(f40:Fd K mg "_law_state" oj)(f41:Fd K mg y_ oF)(f42:Fd K mg "_law_named" oy)(f43:Fd K mg "_law_web" uD)(f44:Fd K mg "_law_weight" Sj)(f45:Fd K mg "_law_ways" oe)(f46:Fd K mg "_law_goods" Rr)(f47:Fd K mg "_law_world" nU)(f48:Fd K mg "_law_held" uF)(f49:Fd K mg "_law_drop" uL)(f50:Fd K mg "_law_may" uB)(f51:Fd K mg "_law_is_fit" oB)(f52:Fd K mg "_law_heaviest" BI)(f53:Fd K mg "_law_best" uO)(f54:Fd K mg "_law_rising" Rt)(f55:Fd K mg "_law_by_low" oH)(f56:Fd K mg "_law_by_share" Sl)(f57:Fd K mg "_law_rows" oq)(f58:Fd K mg "_law_by_turn" Re)(f59:Fd K mg "_law_moves" Ro)(f60:Fd K mg "_law_few" uK)(f61:Fd K mg "_law_put" uv)(f62:Fd K mg "_law_rules" Q9)(f63:Fd K mg "_law_shared" Q0)(f64:Fd K mg "_law_sum" uu)(m0:Md K CW "__init__" "Web.__init__" uE)(m1:Md K CW "has_hand" "Web.has_hand" yi)(m2:Md K CW "hands" "Web.hands" oC)(m3:Md K CW "strength" "Web.strength" RW)(m4:Md K CW "neighbours" "Web.neighbours" ow)(m5:Md K CW "are_tied" "Web.are_tied" ur)(m6:Md K CW "ties" "Web.ties" oh)(m7:Md K CW "most_neighbours" "Web.most_neighbours" uA)(m8:Md K CW "turns" "Web.turns" og)(m9:Md K CG "__init__" "Goods.__init__" oE)(m10:Md K CG "has_piece" "Goods.has_piece" uI)(OE:Md K CG "names" "Goods.names" Rq)(yy:Md K CG "weight" "Goods.weight" R8)(OD:Md K CG "may_go" "Goods.may_go" uH)(U8:Md K CS "__init__" "Sight.__init__" oo)(OC:Md K CS "lead" "Sight.lead" uC)(U7:Md K CS "joint_strength" "Sight.joint_strength" oA){ocl VH Zi UL ZM:Aa}{odl Z_:Option Addr}{sll:Array (Option Aa)}{och kVh dch pmh cth:Aa}{odh anh:Option Addr}{slh:Array (Option Aa)}{ocr kVr dcr pmr ctr:Aa}{odr anr:Option Addr}{slr:Array (Option Aa)}(al:W.nsIn K mainGlobals "law"\some (.ref fl))(ll:K.lookup fl=some #[ocl,odl,.func (W.fnOf "law" "law" (j6 iK) (iW iK) (ba iK) .none VH Zi UL Z_ SC ZM),sll])(cl:W.codeIn K SC "law"=true)(kl:W.keepIn K (.ref fl)=true)(ah:W.nsIn K mainGlobals sR\some (.ref fh))(lh:K.lookup fh=some #[och,odh,.func (W.fnOf sR sR (j6 jg) (iW jg) (ba jg) .none kVh dch pmh anh (.ref c1) cth),slh])(iT:W.codeIn K (.ref c1) sR=true)(kh:W.keepIn K (.ref fh)=true)(h1:W.codeHdIn K c1 T1=true)(aW:W.nsIn K mainGlobals "Web"\some (.ref CW))(aG:W.nsIn K mainGlobals "Goods"\some (.ref CG))(aS:W.nsIn K mainGlobals "Sight"\some (.ref CS))(ar:W.findIn K (.ref CS) CL\some (.ref fr))(ir:W.isFn K (.ref fr)=true)(lr:K.lookup fr=some #[ocr,odr,.func (W.fnOf CL "Sight.rising_neighbours" (j6 xa) (iW xa) (ba xa) .none kVr dcr pmr anr (.ref c2) ctr),slr])(rcd:W.codeIn K (.ref c2) "Sight.rising_neighbours"=true)(kr:W.keepIn K (.ref fr)=true)(h2:W.codeHdIn K c2 T2=true)(c8_:W.nsIn K mainGlobals "MOST_LETTERS"\some (.int 8 t8))(c9_:W.nsIn K mainGlobals "MOST_HANDS"\some (.int 8 t9))(Tr:W.nsIn K mainGlobals "MOST_STRENGTH"\some (.int 1000 NH))(Tq:W.nsIn K mainGlobals "MOST_WEIGHT"\some (.int 1000000000 NG))(_R:W.plainGet K CW Str.empty=true)(_X:W.hasDictIn K CW=true)(_Q:W.plainOver K CW=true)(_P:W.findIn K (.ref CW) "__setattr__"\some (.builtin "object.__setattr__"))(_V:W.makesIn K CW=true)(_W:W.keepIn K (.ref CW)=true)(_U:W.findIn K (.ref CW) w9\none)(_T:W.findIn K (.ref CW) "sorted_pairs"\none)(_S:W.findIn K (.ref CW) CU\none)(gpg:W.plainGet K CG Str.empty=true)(ghd:W.hasDictIn K CG=true)(gpo:W.plainOver K CG=true)(gsa:W.findIn K (.ref CG) "__setattr__"\some (.builtin "object.__setattr__"))(gmk:W.makesIn K CG=true)(gkc:W.keepIn K (.ref CG)=true)(gn0:W.findIn K (.ref CG) "web"\none)(gn1:W.findIn K (.ref CG) sS\none)(gn2:W.findIn K (.ref CG) CQ\none)(spg:W.plainGet K CS Str.empty=true)(shd:W.hasDictIn K CS=true)(spo:W.plainOver K CS=true)(ssa:W.findIn K (.ref CS) "__setattr__"\some (.builtin "object.__setattr__"))(smk:W.makesIn K CS=true)(skc:W.keepIn K (.ref CS)=true)(sn0:W.findIn K (.ref CS) "wares"\none)(sn1:W.findIn K (.ref CS) jL\none)(sn2:W.findIn K (.ref CS) qD\none)(sn3:W.findIn K (.ref CS) CV\none)(iha:W.findIn K (.ref CW) "__class__"\some (.builtin "object.__class__"))(ihn:W.specialIn K (.builtin "object.__class__") "__get__"\some (.builtin "getset_descriptor.__get__"))(itk:W.takesIn K (.builtin "object.__class__")\true)(imo:W.mroIn K CW (.type "object")\true)(Fg:W.nsIn K mainGlobals "sum"\none)(z0:W.nsIn K mainGlobals "isinstance"\none)(z1:W.nsIn K mainGlobals "int"\none)(z2:W.nsIn K mainGlobals "bool"\none)(z3:W.nsIn K mainGlobals "str"\none)(z4:W.nsIn K mainGlobals "tuple"\none)(z5:W.nsIn K mainGlobals "list"\none)(z6:W.nsIn K mainGlobals "dict"\none)(z7:W.nsIn K mainGlobals "len"\none)(z8:W.nsIn K mainGlobals "all"\none)(z9:W.nsIn K mainGlobals "sorted"\none)(_u:W.nsIn K mainGlobals "max"\none)(_t:W.nsIn K mainGlobals "range"\none)(_s:W.nsIn K mainGlobals "any"\none)(_r:W.nsIn K mainGlobals "enumerate"\none)(_q:W.nsIn K mainGlobals "min"\none)(_p:W.nsIn K mainGlobals "abs"\none)(R:Mo K w mg d as) :
  ∃fd:Ad,(∀(s:Ab) (v:Aa),BindsTo s fd #[[v],[]] [(yY,v)])/\(∀T'∈[T2,T1],isCodeTable h T')/\∀base:Heap,K.In base->base.Ns mainGlobals mg->(∀T'∈[T2,T1],base.BuiltinsAt mg T')->aj l.prog w K mg base aZ 11 fa fd [yY] (pR K T1 T2):=by
 let e:=hfa.symm.trans (W.mg_of X G al);cases e;have B:Bi mg:=#[ma X G z0,ma X G z1,ma X G z2,ma X G z3,ma X G z4,ma X G z5,ma X G z6,ma X G z7,ma X G z8,ma X G z9,ma X G _u,ma X G _t,ma X G _s,ma X G _r,ma X G _q,ma X G _p];have TW:Txt K mg CW:=#[#[_R,_X,_Q,_P],_U,_T,_S];have TG:eR K CG:=#[#[gpg,ghd,gpo,gsa],gn0,gn1,gn2];have TS:hV K CS:=#[#[spg,shd,spo,ssa],sn0,sn1,sn2,sn3];have IW:KP K CW:=#[iha,ihn,itk,imo];let FL:=O6 (st:=iK) ll cl kl;have FH:mw K sR sR jg fh c1 _:=#[#[_,_,_,_,_,_,_,_,Z,lh,iT],kh];have FR:mw K CL "Sight.rising_neighbours" xa fr c2 _:=#[#[_,_,_,_,_,_,_,_,Z,lr,rcd],kr];apply#[W.fnOf "law" "law" (j6 iK) (iW iK) (ba iK) .none VH Zi UL Z_ SC ZM,λs v=>.of_eq Z,λT' Eg=>?_,λbase KB _ vB=>?_]
 ·have cd:∀{c T0:Addr},W.codeHdIn K c T0=true->isCodeTable h T0:=λ{c _} z=>by
   let#[o,KY,file,tf,flags,tg,inF,text,tt,q1,q2,q3,q4,_]:=W.codeHd_of_K X z;exact#[c,o,KY,q1,q2,q3,q4]
  have Eg:T'=T2∨T'=T1:=⇑Eg
  rcases Eg with rfl|rfl
  ·exact cd h2
  exact cd h1
 have q:Tg l.prog w base:=⟨⟩;let Jg:=bS q f0 λ_ _ F=>mv_ F B;let vO:=bS q f2 λ_ _ F=>ji_ F Jg;let SH:=bS q f1 λ_ _ F=>ii_ F Jg;let vP:=bS q f3 λ_ _ F=>l6_ F B (W.mg_of X G c8_);let Dk:=bS q f4 λ_ _ F=>hd_ F;let Jc:=bS q f5 λ_ _ F=>lf_ F B vP;let AU:=bS q f6 λ_ _ F=>i9_ F B Jc Dk;let Ji:=bS q f9 λ_ _ F=>lC_ F B vP vO (W.mg_of X G Tr);let cStr:=bS q f10 λ_ _ F=>lZ_ F B Ji (W.mg_of X G c9_);let I0:=bS q f11 λ_ _ F=>lD_ F B AU;let Jd:=bS q f12 λ_ _ F=>l1_ F Dk;let SI:=SF q m0 (W.mg_of X G aW) _V _W λ_ _ F=>kE_ F TW B cStr I0 Jd;let BZ:=o4 q m1 λ_ _ F=>mr_ F TW B;let Gx:=o4 q m1 λ_ _ F=>kD_ F TW B;let jV:=o4 q m2 λ_ _ F=>jZ_ F TW B;let yx:=o4 q m3 λ_ _ F=>fo_ F TW BZ;let Gw:=o4 q m4 λ_ _ F=>j0_ F TW B BZ;let Al:=o4 q m5 λ_ _ F=>jf_ F TW Gx;let Tj:=bS q f13 λ_ _ F=>jN_ F TW AU Al;let cCP:=bS q f14 λ_ _ F=>hS_ F B vP vO Tj (W.mg_of X G Tq);let Tn:=bS q f15 λ_ _ F=>gw_ F B cCP;let Dm:=SF q m9 (W.mg_of X G aG) gmk gkc λ_ _ F=>jl_ F TG TW IW B (W.mg_of X G aW) Tn;let CA:=o4 q m10 λ_ _ F=>kF_ (CW:=CW) F TG B;let Cz:=o4 q OE λ_ _ F=>in_ (CW:=CW) F TG B;let iD:=o4 q yy λ_ _ F=>gK_ (CP:=CW) F TG CA;let HS:=o4 q OD λ_ _ F=>lA_ (CP:=CW) F TG TW CA Al Dk;let Tc:=bS q f7 λ_ _ F=>mx_ F;let cLM:=bS q f8 λ_ _ F=>mD_ F Tc;let cCS:=bS q f16 λ_ _ F=>iz_ F B TG TW CA BZ Cz;let Jf:=bS q f17 λ_ _ F=>gH_ F B TG TW jV iD;let cMu:=bS q f18 λ_ _ F=>lc_ F TW cLM jV yx;let MK:=bS q f19 λ_ _ F=>ih_ F TG TW Jf cMu yx;have S_:br l.prog w K mg base 6 sR mM (pW K CG CW T1):=#[_,_,m5_ FH B TG TW (W.codeHd_of_K KB h1) (vB T1 Z2) jV iD,W.mg_of X G ah,kh,FH.fn.binds (λ_ _ _ _ _ _ us (hl:us.length=2)=>match us,hl with | [_,_],_=>rfl)];let Dj:=SF q U8 (W.mg_of X G aS) smk skc λ_ _ F=>jy_ F TS Jf MK S_;let K5:=o4 q OC λ_ _ F=>li_ F TS TG TW yx;let Uz:=o4 q U7 λ_ _ F=>jc_ F TS TG TW yx;have Uy:bF l.prog w K mg base CS 4 CL kE (Ii K CS CG CW T2):=#[_,_,kB_ FR B TS TG TW (W.codeHd_of_K KB h2) (vB T2 Z2) Gw,#[ar,ir,kr],FR.fn.binds (λ_ _ _ _ _ _ us (hl:us.length=2)=>match us,hl with | [_,_],_=>rfl)];let cIR:=bS q f20 λ_ _ F=>hH_ F B R;let SG:=bS q f21 λ_ _ F=>jF_ F R cIR;let cFi:=bS q f22 λ_ _ F=>l4_ F;let S9:=bS q f23 λ_ _ F=>mn_ F TS TG K5 Uz cFi iD HS;let cBL:=bS q f24 λ_ _ F=>gI_ F TS Uy S9;let cBB:=bS q f25 λ_ _ F=>h2_ F TS Uy K5 S9;let mMo:=o4 q m7 λ_ _ F=>kK_ F TW B;let SO:=bS q f26 λ_ _ F=>m7_ F TS TG TW K5 Uz mMo iD HS;let cBS:=bS q f27 λ_ _ F=>ft_ F TS TG TW Gw K5 SO;let cMF:=bS q f28 λ_ _ F=>gV_ (gP_ F cBL) (gB_ F cBB) (gS_ F cBS);let cAn:=bS q f29 λ_ _ F=>kW_ F;let mTi:=o4 q m6 λ_ _ F=>ja_ F TW cAn;let cRo:=bS q f30 λ_ _ F=>lM_ F B;let mTu:=o4 q m8 λ_ _ F=>jm_ F B TW mTi cRo;let cBT:=bS q f31 λ_ _ F=>gt_ F B TS TG TW mTu S9;let SR:=bS q f32 λ_ _ F=>j9_ (kV_ F TS TG TW (λr z=>z) QL SG jV cMF) (j4_ F SG cBT);let SL:=bS q f33 λ_ _ F=>ht_ F SG cCS;let SW:=bS q f34 λ_ _ F=>fw_ F SH;let SN:=bS q f35 λ_ _ F=>jr_ F (ma X G Fg) Jf MK;let cPA:=bS q f36 λ_ _ F=>jR_ F B Dj SR;let MI:=bS q f37 λ_ _ F=>hg_ F B SL SW cPA SN;let Jm:=bS q f38 λ_ _ F=>kz_ F B;let cMx:=bS q f39 λ_ _ F=>jM_ F;let SK:=bS q f40 λ_ _ F=>jV_ F;let rV:=bS q f41 λ_ _ F=>jh_ F cMx;let ZS:=bS q f42 λ_ _ F=>iW_ F B rV;let cLW:=bS q f43 λ_ _ F=>kM_ F B rV ZS;let cWt:=bS q f44 λ_ _ F=>gy_ F rV;let cWy:=bS q f45 λ_ _ F=>jj_ F B rV;let Ta:=bS q f46 λ_ _ F=>iH_ F B rV ZS cWt cWy;let SJ:=bS q f47 λ_ _ F=>jv_ F B;let ML:=bS q f48 λ_ _ F=>lH_ F B;let Tf:=bS q f49 λ_ _ F=>l3_ F;let ZT:=bS q f50 λ_ _ F=>lr_ F;let cIF:=bS q f51 λ_ _ F=>jL_ F;let ZV:=bS q f52 λ_ _ F=>md_ F B;let ZW:=bS q f53 λ_ _ F=>kA_ F Tf ML ZT cIF ZV;let cRi:=bS q f54 λ_ _ F=>ie_ F B Tf ML;let cBy:=bS q f55 λ_ _ F=>jC_ F cRi ZW;let Tp:=bS q f56 λ_ _ F=>gT_ F B Tf ML ZT ZV;let cRw:=bS q f57 λ_ _ F=>jd_ F B;let To:=bS q f58 λ_ _ F=>ig_ F B cRw ZW;let SZ:=bS q f59 λ_ _ F=>hI_ F B To Tp cBy;let cFe:=bS q f60 λ_ _ F=>lJ_ F B Ta;let cPt:=bS q f61 λ_ _ F=>l8_ F B SZ;let SS:=bS q f62 λ_ _ F=>iC_ F;let SQ:=bS q f63 λ_ _ F=>gC_ F;let cSu:=bS q f64 λ_ _ F=>lB_ F ML;exact m3_ FL B Jm SK rV cLW cFe SJ SS SQ cSu cPt SI Dm MI
theorem Wz(h:H T\.tbl #[]):dZ H T q:=#[[],h,λe he=>by cases he]
theorem walk{q:Ae}{loose:ae}{XP:(Str->Option Aa)->Heap->Prop}{d:DefRec}{K:Params->af}{L8:∀P:Params,as=(K P).map (·.1)}(hn:l.most\63)(lP:d.params.defaults=[])(Pm:([T2,T1].all λT=>!as.contains T)=true)(ne:T1≠T2)(F:∀(w:Af) (mg:Str->Option Aa) (fa:Addr) (h:Heap),(K w.params).In h->h.Ns mainGlobals mg->mg d.name\.ref fa->
   ∃fd:Ad,(∀(s:Ab) (u:Aa),BindsTo s fd #[[u],[]] [(yY,u)])/\(∀T'∈[T2,T1],isCodeTable h T')/\∀base:Heap,(K w.params).In base->base.Ns mainGlobals mg->(∀T'∈[T2,T1],base.BuiltinsAt mg T')->aj l.prog w (K w.params) mg base aZ 11 fa fd [yY] (pR (K w.params) T1 T2)) :
  PySem.W.WalkO q loose XP (PySem.W.kmHook K as L8 [T2,T1]).says l.row.toRowW d [] (λf vs=>PySem.call f vs):=
 L2.tq (n:=63) (k:=11) (x:=yY) (CX:=λ_=>aZ) (sp:=λw=>pR (K w.params) T1 T2) hn (by decide) lP #[Z,by decide,by decide] Pm F (λ_ _ a ns hl hT hS=>#[a,ns,Z,#[Wz (hT T1 Z2),Wz (hT T2 Z2),ne],hS,hl,λ_=>rfl]) λ_ _ _ _ _ z=>z
end Ev
namespace PySem.W.Fast
universe tw6952582783438848704 tw352225021923178946 tw6517214197285917250 tw14689331674437944930 tw3731498429182237763 tw3264581125365146339 tw7236073508913704931 tw8844508292187194052 tw7894448761649182405 tw11135677803497982821 tw14936160126560228454 tw7285090317407620774 tw3242566849106646695 tw12383178900858252135 tw15358111592272780234 tw11045171624459628490 tw2195336735056521963 tw6741160477149542764 tw16516702132411558732 tw11103295025381691437 tw2753720616991848910 tw4777488775579807310 tw6206508817422394447 tw10154209935831163119 tw3413871986348753807 tw13561478043286825010 tw8482983719651503346 tw6906722847118702354 tw12665960203150975794 tw10149035687378087858 tw3422138595583556627 tw4013967339206463219 tw12846505912463375734 tw7579001728644171318 tw9206340789950949046 tw16708960248464439543 tw4825503450028150231 tw17503688782769268698 tw17817529401540106939 tw10723562935074574139 tw11656975415940105179 tw4308348585467775100 tw15789606878182372636 tw14717582135401578005 tw6642476821678691977 tw8443631668939553196 tw1261406769912916603 tw5564610872373644338 tw9168792475323403908 tw6736824798677048862 tw12092745931084406956 tw11085667152152284548 tw14112745718503258581 tw3625405055987111040 tw17972080637668040378 tw13657297019348772133 tw12114243683783487598 tw15063387085163396663 tw10686425752242190315 tw16098939924671256546 tw16353704326875083869 tw501744672281881206 tw10264550697297151767 tw11895837001111923835 tw10465675420339671388 tw6353256976193910183 tw4544035692636308295 tw10282855949739854640 tw14919419047356086746 tw6593745932945854125 tw9875060213832100603 tw9806369458414819046 tw11181999932979137317 tw13202304634645554477 tw17651755790252183275 tw12735256627712839039 tw4157390817833133949 tw11575054494134022766 tw917689385777383530 tw14675718361853643003 tw11366517155008669621 tw5271574574370627812 tw13154469628240969522 tw6348155166280660208 tw5018040113697988160 tw11166267540433373926 tw10387110277381555264 tw9494869362602327904 tw3774291161159601899 tw8665974732733953414 tw10898194881414975498 tw3038446299858113614 tw5712717575058726448 tw14928953438124944704 tw10918919509587900254 tw16411108093001292640 tw1888911049823992722 tw8755869958593779276 tw15039689446303741579 tw13510202444777913892 tw9886834049866114915 tw12529921778028919916 tw2570205277421874782 tw17908842574327336267 tw1926270104683398150 tw6642431020249020415 tw9331749639005452281 tw10092927152102605334 tw16074967405249135092 tw6004114519310740904 tw9654652175208981413 tw9459521085618219908 tw9944685544170158324 tw9962768208211510675 tw16376512265006777885 tw14481559547141953476 tw17560111011027129299 tw3514904843072250251 tw11855611309646462234 tw4819256087503705236 tw4066305527396110593 tw15643231306788266487 tw11271943311862324797 tw8651497527948945547 tw1491373270309457915 tw11501352144736954833 tw7080561110786521597 tw8847908966981282949 tw11343390962031667945 tw18415333612696305911 tw5978773210597801997 tw15631765887066444728 tw11173284714714749752 tw1285632624536249265 tw15633803321015823611 tw1059112176814161783 tw8750935513138646130 tw8259750921246634692 tw5485460812141746239 tw3541999924866991208 tw3143990652890238733 tw13978883019098627443 tw10064393233684169507 tw11755248617188892799 tw9410914686178880108 tw18229872703801566708 tw3659350596703356658 tw5233983069048638529 tw17577611436445205561 tw6678518887029172518 tw14190899895469075376 tw12848088178029631096 tw11144517981498027026 tw5841835085172549452 tw714719283246427958 tw17995477961104417352 tw13814446882643656775 tw12146067996600743323 tw4464757709466616404 tw7583815724569392408 tw17209781798701083085 tw10749276658990634378 tw8938696934363618620 tw4337574147138587974 tw4769909485674283825 tw16402862164007170649 tw944567865911089542 tw14834873197786482077 tw3798652552227634339 tw10881178417639323917 tw390488989402563156 tw3564127213420613300 tw3052142355377229250 tw8723482837983864295 tw4809553980419150557 tw16292624616486394186 tw12452575498379699514 tw13066323665600576602 tw17891111373280013583 tw1509918559030891382 tw14916084064647360792 tw4724734290557490322 tw4662769689907025317 tw11474175283779699480 tw10267874354839410766 tw1333027405294204646 tw13728588924182204073 tw3811992154382165900 tw8760553319043056547 tw12648505767141194137 tw17987128171233434616 tw1848105210630804620 tw4151325902513645643 tw4347150038603290188 tw7000144464619170363 tw18348248739378245283 tw6589053910508135884 tw8384863889344594917 tw7780638083309806877 tw16973609677297696691 tw16259059860544687359 tw6654722496249798489 tw12132231550278411238 tw15062126513404188194 tw12989168788965907910 tw1732298412093044678 tw6226933868472109228 tw17514662108350597690 tw9936880682668436891 tw8509605816065035264 tw7108802415985335602 tw1205204001525419486 tw434721558819582242 tw1499755119866543547 tw9207681409936267699 tw3177874580084901921 tw4885176806956079202 tw11050229240625319751 tw18164613426091759485 tw9698138434393111863 tw5010856248851418664 tw8536549779127924784 tw539951993658358360 tw16068368900750291876 tw16742812553725470122 tw1661458546235236364 tw5429474994886861972 tw8641433951387874217 tw258168110338025291 tw988913567016390523 tw6561756867231863119 tw5371110714185722129 tw16860448014386046164 tw17337532010151538929 tw18332227717045987061 tw2094285435967916920 tw11934440092705152157 tw18207936897147715668 tw5234935637262043958 tw18340463333775087647 tw8900395706973024473 tw5015546113539544420 tw13134904572454109137 tw6278801007549105085 tw6209718049041894035 tw16425157572393561180 tw872503560930055550 tw2670590352902525809 tw2005821021125968953 tw18182946695115498331 tw8897433133827328283 tw5438095191064716341 tw2352711903089223286 tw16645184605282905238 tw16855242243403348049 tw17569185324298066819 tw15155898032621985932 tw1033445331629518301 tw345843350931956283 tw15275810327787561709 tw10724876997367211135 tw11442001700335455284 tw10806918124227666607 tw16218721357786258622 tw16642616835250295156 tw8889894651829581396 tw4992173209875997510 tw9198604505833426493 tw9550651376106174657 tw12036854957123228667 tw2395772844363270297 tw11583166796138429203 tw3989820427871448907 tw8453194184674763777 tw949269533469918760 tw14188281326530746337 tw15991915394442497938 tw3633318947998119097 tw5503922276874487398 tw1997990107099563840 tw11344399018479257465 tw8405221989353691461 tw6216063972605476752 tw14132733001099412978 tw13189341448483816610 tw10174201028114614925 tw16581152145014673746 tw15387246339629679832 tw8973181163902769289 tw9179814668517941967 tw6474223912386035610 tw10199661255769870244 tw9513506123100651172 tw2780776069008914168 tw10049149601081673715 tw8713430071689319675 tw15718219430819215723 tw1316531005883851472 tw572294662657255294 tw16399170486967274466 tw6424014110340296946 tw17851387378671167977 tw5035517132014545426 tw6020373781691663546 tw9837890540476390147 tw10033817428149910688 tw7519497072790639696 tw13701880544394743205 tw1642284270988212704 tw16173563227740435373 tw2204566052425360565 tw4351134541218769252 tw18410873618812952818 tw16003594711036884916 tw1210854384044274841 tw17164952685226065087 tw2833640837245286066 tw5424230610724918318 tw8784381106260504378 tw11448319944985448204 tw9493003638441467451 tw18009253166046681489 tw8849940685468250819 tw1192909704672034155 tw17778225023072850969 tw17620396174456484804 tw10947074316052670213 tw8188900761737669423 tw15832386719456627875 tw16633450498760530587 tw16702952558471586932 tw11638541754606509107 tw5321948386666000319 tw12150545283823272828 tw12186154086503653437 tw9877566529231806052 tw10460858184708841684 tw313594690511949707 tw17299614692611585577 tw15502612715889649977 tw5524554508756154149 tw5948200117055346809 tw17802999286605516809 tw2774619804703236563 tw1866012774127982177 tw12612973727242046202 tw17679989335703084198 tw9978795510224601050 tw17369234996200997942 tw7008683712461814933 tw10016946482812923414 tw1767533308178427114 tw5417763893581756949 tw10490482374586902499 tw2111797520607905579 tw16613962183786000273 tw3881860915500982989 tw18091723708056437234 tw9136085337072807922 tw9663969499782688346 tw3804810349599955452 tw2479089879609515478 tw6791774638144649478 tw4057975887532559857 tw4537775606670367044 tw4119527921582083304 tw13121573684644284490 tw15581541564877431837 tw17067020721439729019 tw7781317106052717071 tw2418912288300067217 tw13243877964135095847 tw3637197041407115913 tw15245280032133280041 tw11899273060254816441 tw11783937931736047739 tw1965596073705694034 tw7022086809324223397 tw8207230201966898257 tw13331456290032087562 tw17270439191211568639 tw17528789490876225627 tw9598712801143431873 tw16090922494826591673 tw9088402369312101683 tw3372601622380990951 tw12460773845144563426 tw9644766205997062314 tw17660971275649667567 tw1754684950595058327 tw2751644411815346862 tw1285539995494964490 tw883084222916664883 tw8950005366909796195 tw11775818434062797351 tw2013261904255727842 tw11087653799686789077 tw6166125022347808433 tw10007539250746306407 tw13056491917351895527 tw11472300530473033263 tw9622295958785778686 tw15412994016471400879 tw14592469735987962624 tw6610605190233648010 tw11702713430230606480 tw11681556498626430557 tw10626828521111447653 tw17438506199290479368 tw9231199549319193724 tw18015126610485964976 tw4794122541976464204 tw4927528613661799554 tw12852296192453674482 tw3114676962164577325 tw6047350495494186994 tw10921819676465578744 tw16636195395500007328 tw16441434867615774298 tw13018159131126847577 tw4978080884037829098 tw9243191354636992792 tw17922509663948967795 tw11214124672017393941 tw14888347065413322472 tw14857356729184465543 tw2669107348849670725 tw18264297793675172950 tw1152790009583884601 tw6448164415775308499 tw5885334748601353507 tw11629024056023778551 tw10374178120846374494 tw7357953114468896208 tw11015678165283158947 tw6034588466918134357 tw15934278437934369718 tw8674158402117734470 tw6767072826642219803 tw4873661500918193604 tw7330320183714880474 tw9939260541110396389 tw15229933407234601744 tw5801109573281630559 tw3499660109589094424 tw15626608258045465191 tw5942307121934558811 tw17229337349970425666 tw17558337159828955724 tw6437447731861619996 tw13689010029379201993 tw11671072679755605793 tw9830751329107763108 tw16942458041346557297 tw18001972907353850432 tw17273396802775989900 tw13893135219290961287 tw5460039927999068200 tw15527610623893669710 tw8962801637991616696 tw13440433694286629200 tw13876163837431405709 tw794677207055849445 tw17296470001550737946 tw5939674358642709196 tw10535652856568333159 tw6911914213891396496 tw15020669715985542174 tw14712286809170648708 tw9098828580314437565 tw18136109099743901431 tw15321865194626927430 tw2237229117315219719 tw10446751557649679459 tw1444448075692281511 tw18318512043780672259 tw7525222184852255846 tw1144923700556728038 tw1137512509764950155 tw5281213725323308569 tw5208371743891610375 tw2155588820558645723 tw6206114262383332514 tw10044501484909845851 tw10216093439638520144 tw11404162664690607187 tw10120404997288780323 tw12638555333726110565 tw16437967407976193579 tw12415279762716446738 tw7203019462321262143 tw10940030728674329302 tw10898429877434933082 tw4160260663258277980 tw12338133887157274136 tw10875653904102367305 tw5915442257293722085 tw10746171797593488955 tw2015642020914045398 tw9012302325277723417 tw7329559762921965915 tw7695992261986988497 tw1181190185321576769 tw9258776461817264550 tw6675713185352662431 tw8282800650459481722 tw15782677940309736448 tw8968267593738258434 tw1022762332113960810 tw1900567417499279526 tw4246642885569377936 tw4611223721892420757 tw1451685020426737743 tw9108969035810249182 tw2133441575986096177 tw1791878141340232495 tw14479588054037769975 tw13944129800178617599 tw3236784652302176132 tw11181612592974926506 tw3751268392006825585 tw13202905376028060931 tw11342610476057477718 tw13738777578064986757 tw11597430226085529542 tw2658217047413195140 tw11101925248358186868 tw8101088098189917947 tw8155602225140774877 tw11331157554710943156 tw3053854557440288076 tw18130458055995726178 tw8288849443443652705 tw17388142597489095246 tw273769484180447230 tw569382466946435137 tw3271243319712678878 tw4556971214183871925 tw9099895273784133538 tw4079055941615899153 tw5446666562653353132 tw10639093092433785227 tw9849134938130807285 tw4938323869517949032 tw16057422806832027614 tw6536789955946760911 tw13577026923340119969 tw4293728877319577491 tw10580739390400168657 tw14676171198493349845 tw17068678337065863676 tw3691846377847532271 tw17812334923495731580 tw2013829455585161362 tw16329994450816294254 tw16175586467713274740 tw883218971698038933 tw7829526519892785488 tw10954023037945345790 tw14052851997794881927 tw17018475732528407293 tw2386263735227766800 tw417189151926976647 tw5773151983147402842 tw15254329146742199311 tw12958022303493240810 tw17507366528368859097 tw7433859357896829111 tw803091910758117581 tw14767907417893749510 tw18167246391382278242 tw5839227617199171053 tw17947038629608579480 tw3545226784523572266 tw235282978329822860 tw11949350464094742105 tw13989825385709439433 tw4077318156080721090 tw5810520043912243032 tw10198210914974819814 tw5637983774070944862 tw5836222040925917552 tw12963785254325736028 tw4431599012178084247 tw6778062887598719675 tw9568469539255404557 tw7777477831588237814 tw10275411666657059581 tw17730774371064547222 tw16564740836332108787 tw2061431991659088236 tw6153465199044045681 tw10444538653379883826 tw7929133454615268711 tw12249277614114997633 tw7882528652705182867 tw10118852660799986490 tw9159308401328320730 tw2953492817963700213 tw1452702518626507564 tw4372844444437995437 tw5478549811916007317 tw5255623663833339837 tw8273411030599604564 tw11906204878390354109 tw413341312981597014 tw10412317962054394248 tw10762406550122371455 tw8744038736219644739 tw14245268270993503958 tw2654977967638337130 tw1888481772508158843 tw15660202473997149261 tw10679667332549587533 tw1907936150310515302 tw16402322993597071158 tw9773414175356017459 tw8998308792932846889 tw2388981029094822290 tw271315819926260014 tw1999763016710210423 tw15823318707362390808 tw12724533266103019225 tw2090297893391509891 tw313259647256168167 tw17857779586638390728 tw15815490784594694202 tw5891721466527620010 tw17981613699968550614 tw1847927627070908889 tw10741771680119741688 tw9315441436951381005 tw5340798522648813453 tw5131454797310813896 tw5056483273869631978 tw9511871933046285561 tw14046707760220623150 tw17009011377994280078 tw13119693643725328553 tw4792876648761252012 tw18304405587561491922 tw6962683934533763692 tw9861529653077272520 tw1914742664601857485 tw14838365532547696015 tw516741798248027230 tw2860503940447864820 tw15804006610699270471 tw10639148976332088582 tw13697276368990984427 tw10247830723947700191 tw15016473518440866301 tw15502126581790786927 tw9453391542737764464 tw1676785221215932763 tw4029419249695667680 tw6695187644128439590 tw2446121540895254188 tw3905372768767196457 tw3000992603219263822 tw12148671840135360197 tw13238863945214329759 tw4616573649970714952 tw16707259616666136086 tw12512522127145657719 tw784342106350648512 tw4171710770694286832 tw14159530866871246248 tw4101424132396644776 tw17012910618252411635 tw14403568384538895236 tw14411212879778475407 tw11183770112536993480 tw3856623418102273313 tw13896735641768087939 tw3534243460726657709 tw6002490310152841040 tw2759995994442359331 tw15952155524400609652 tw10519196291036952275 tw10360745313730624523 tw8683688465144186071 tw9405346554020313310 tw8411482313483250726 tw12818443067808457812 tw11893627195463076702 tw8975176159782998403 tw7233604571167451870 tw2634604921503223897 tw16493606309090813110 tw8987419188583191330 tw9437857761849057613 tw11709394747811082562 tw7029569180404523512 tw11060904306815355263 tw5303074601653565830 tw11866265459047854934 tw792834700001306125 tw4353732656005722586 tw1706348531470452366 tw797916757197015877 tw11480057050669278479 tw4597567631487910242 tw3255903515670772415 tw14288248964914172447 tw3249696608517274200 tw8328286426269828419 tw16676099389086894401 tw10001228988718312517 tw11334636389475800076 tw1205633501861128289 tw6515878160725099568 tw78170464223500808
end PySem.W.Fast
open PySem PySem.W PyProof.Rows
set_option maxRecDepth 100000 in
local macro_rules|`(%[|$k:num])=>let i:=Lean.mkIdent;if k.getNat==1 then`(Ev.HZ $(i `KX) $(i `G) ?_ ?_ ?_ ?_)else`(Ev.Gv ?_ ?_ ?_ ?_ ?_)
theorem PySem.Challenge.cw_evenpieces_k42_sums_on_the_way_holds : PySem.Challenge.rw_evenpieces_k42_sums_on_the_way.Holds := by
 w_on;o_law;k_head;(case hw=>w_witness2)
 k_fill
 apply Ev.walk (l:=PySem.Challenge.rw_evenpieces_k42_sums_on_the_way) rfl rfl (by rfl) (by decide) ?F
 case F=>
  intro w mg fa h KX G hmg;refine' Ev.all_mk KX G hmg %[|1] %[|1] %[|1] %[|1] %[|1] %[|1] %[|1] %[|1] %[|1] %[|1] %[|1] %[|1] %[|1] %[|1] %[|1] %[|1] %[|1] %[|1] %[|1] %[|1] %[|1] %[|1] %[|1] %[|1] %[|1] %[|1] %[|1] %[|1] %[|1] %[|1] %[|1] %[|1] %[|1] %[|1] %[|1] %[|1] %[|1] %[|1] %[|1] %[|1] %[|1] %[|1] %[|1] %[|1] %[|1] %[|1] %[|1] %[|1] %[|1] %[|1] %[|1] %[|1] %[|1] %[|1] %[|1] %[|1] %[|1] %[|1] %[|1] %[|1] %[|1] %[|1] %[|1] %[|1] %[|1] %[|2] %[|2] %[|2] %[|2] %[|2] %[|2] %[|2] %[|2] %[|2] %[|2] %[|2] %[|2] %[|2] %[|2] %[|2] %[|2] %[|2] ?_ ?_ ?_ ?_ ?_ ?_ ?_ ?_ ?h1 ?aW ?aG ?aS ?_ ?_ ?_ ?_ ?_ ?h2 ?_ ?_ ?_ ?_ ?_ ?_ ?_ ?_ ?_ ?_ ?_ ?_ ?_ ?_ ?_ ?_ ?_ ?_ ?_ ?_ ?_ ?_ ?_ ?_ ?_ ?_ ?_ ?_ ?_ ?_ ?_ ?_ ?_ ?_ ?_ ?_ ?_ ?_ ?_ ?_ ?_ ?_ ?_ ?_ ?_ ?_ ?_ ?_ ?_ ?_ ?_ ?_ ?_ (Ev.rules_at ?rm ?rs ?rl ?re ?_ ?_ ?_ ?_ ?_ ?_ ?_ ?_ ?_ ?_ ?_ ?_ ?_ ?_ ?_ ?_ ?_)
  (case aW=>k_is);(case aG=>k_is);(case aS=>k_is)
  any_goals k_is
  (case h1=>kernel_rfl);(case h2=>kernel_rfl)
  case' rm=>refine' PySem.W.mg_of KX G ?rmn
  (first|(case rmn=>k_is)|(case rm=>k_is))
  (try (case rl=>k_is))
  (case rs=>rfl)
  (case re=>rfl)
  any_goals k_is

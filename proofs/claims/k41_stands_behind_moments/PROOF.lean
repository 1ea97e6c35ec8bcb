import PyProof.Rows.All
import Wide.All
import OpenK.AllK
import Wide.FinOn
import Lean
import PyProof.EqAt
import PyProof.EqKinds
import PyProof.TupleCall
import PyProof.FitsReplace
import KE.KLam
import KE.KSortTup
import PySem.Challenge.RW_evenpieces_k41_stands_behind_moments
set_option maxHeartbeats 0
set_option Elab.async false
set_option linter.all false
noncomputable section
local macro_rules|`(def $x:declId $s:optDeclSig $v:declVal)=>`(noncomputable def $x:declId $s:optDeclSig $v:declVal)
local macro_rules|`(abbrev $x:declId $s:optDeclSig $v:declVal)=>`(noncomputable abbrev $x:declId $s:optDeclSig $v:declVal)
local macro_rules|`(universe $x*)=>return Lean.mkNullNode (←x.mapM λa=>do return(←`(theorem $a:ident:True:=⟨⟩)).raw)
abbrev Xa:=List (PySem.Str × Int)
abbrev Xb:=List (PySem.Str × PySem.Str)
set_option compiler.extract_closed false
set_option maxRecDepth 100000
theorem cU:type_of% @PySem.Heap.get?_push_of_some:=@PySem.Heap.get?_push_of_some
abbrev Aa:=PySem.Value
theorem aO:type_of% @PySem.wpAny_bind:=@PySem.wpAny_bind
abbrev Ab:=PySem.Shared
theorem bK:type_of% @PySem.Paired.length:=@PySem.Paired.length
theorem aq:type_of% @if_neg:=@if_neg
theorem cc:type_of% @decide_eq_true:=@decide_eq_true
theorem aA:type_of% @if_pos:=@if_pos
abbrev Ad:=PySem.FuncData
abbrev Ae:=PySem.Program
theorem fG:type_of% @PySem.Heap.get?_push_size:=@PySem.Heap.get?_push_size
theorem dS:type_of% @decide_eq_false:=@decide_eq_false
theorem dX:type_of% @PySem.PassesOwn.never:=@PySem.PassesOwn.never
theorem b_:type_of% @PySem.sizeLine_eq:=@PySem.sizeLine_eq
theorem cQ:type_of% @PySem.Heap.lt_size:=@PySem.Heap.lt_size
theorem il:type_of% @PySem.F.plainAttrs_list:=@PySem.F.plainAttrs_list
theorem eK:type_of% @Option.some.inj:=@Option.some.inj
theorem bV:type_of% @PySem.wpAny_pure:=@PySem.wpAny_pure
theorem mF:type_of% @PySem.F.type_list_append:=@PySem.F.type_list_append
theorem mE:type_of% @PySem.F.slot_list_append:=@PySem.F.slot_list_append
abbrev Af:=PySem.World
theorem jB:type_of% @of_decide_eq_true:=@of_decide_eq_true
abbrev Ag:=PySem.Around
theorem mD:type_of% @PySem.W.mg_none_of:=@PySem.W.mg_none_of
theorem jk:type_of% @PySem.boot_len:=@PySem.boot_len
theorem mC:type_of% @decide_eq_true_eq:=@decide_eq_true_eq
theorem d8:type_of% @congrArg:=@congrArg
theorem rO:type_of% @PySem.mem_of_lookup:=@PySem.mem_of_lookup
theorem ij:type_of% @Sum.inr.inj:=@Sum.inr.inj
theorem w_:type_of% @PySem.Heap.get?_update_other:=@PySem.Heap.get?_update_other
theorem sE:type_of% @PySem.wpAny_loadPart':=@PySem.wpAny_loadPart'
theorem mB:type_of% @List.cons.inj:=@List.cons.inj
theorem vH:type_of% @PySem.wpAny_truthy_bool:=@PySem.wpAny_truthy_bool
theorem vG:type_of% @PySem.W.kia_one:=@PySem.W.kia_one
theorem L4:type_of% @Int.mul_nonpos_of_nonpos_of_nonneg:=@Int.mul_nonpos_of_nonpos_of_nonneg
theorem Z0{p:Prop}[Decidable p](h:decide p=true:=by decide +kernel):p:=of_decide_eq_true h
theorem Z1{p:Prop}(h:p:=by omega):p:=h
theorem Z2{p:Prop}(h:p:=by simp):p:=h
local macro_rules|`(tactic|let $x:ident:=$e)=>`(tactic|have $x:ident:=$e)
local macro_rules|`(tactic|apply $e)=>`(tactic|refine $e)
local macro_rules|`(#[$x,$xs,*])=>`(⟨$x,$xs,*⟩)
local macro_rules|`(tactic|let $p:term:=$e)=>let g:=λ(x:Lean.Syntax)=>(if x.isIdent then`(rcasesPat|$(⟨x⟩):ident) else if x.isOfKind ``Lean.Parser.Term.hole then`(rcasesPat|_) else pure ⟨x⟩:Lean.MacroM (Lean.TSyntax `rcasesPat));p.raw.rewriteBottomUpM (λn=>if n.isOfKind `«term#[_,]» then n[1].getSepArgs.mapM (λx=>g x>>=λy=>`(Lean.Parser.Tactic.rcasesPatLo|$y:rcasesPat))>>=λs=>`(rcasesPat|⟨$s,*⟩)>>=λt=>pure t.raw else pure n)>>=λq=>`(tactic|obtain $(⟨q⟩):rcasesPat:=$e)
theorem Z{α:Sort _}{a:α}:a=a:=rfl
abbrev af:=PySem.W.Frag
theorem ao:type_of% @List.length_map:=@List.length_map
theorem cy:type_of% @List.getElem?_eq_some_iff:=@List.getElem?_eq_some_iff
theorem dG:type_of% @List.getElem?_eq_getElem:=@List.getElem?_eq_getElem
theorem cw:type_of% @List.mem_of_getElem?:=@List.mem_of_getElem?
theorem bj:type_of% @List.mem_map:=@List.mem_map
theorem dI:type_of% @List.mem_cons_of_mem:=@List.mem_cons_of_mem
theorem cZ:type_of% @List.mem_cons_self:=@List.mem_cons_self
theorem bp:type_of% @Nat.le_refl:=@Nat.le_refl
theorem cu:type_of% @List.map_append:=@List.map_append
theorem dg:type_of% @List.length_take:=@List.length_take
theorem dQ:type_of% @List.size_toArray:=@List.size_toArray
theorem eA:type_of% @List.length_append:=@List.length_append
theorem bZ:type_of% @List.mem_cons:=@List.mem_cons
theorem dW:type_of% @List.getElem?_map:=@List.getElem?_map
theorem dP:type_of% @List.take_length:=@List.take_length
theorem cm:type_of% @List.map_map:=@List.map_map
theorem eL:type_of% @List.map_cons:=@List.map_cons
theorem hE:type_of% @Bool.false_ne_true:=@Bool.false_ne_true
theorem fQ:type_of% @List.mem_append:=@List.mem_append
theorem iE:type_of% @List.take_add_one:=@List.take_add_one
theorem eV:type_of% @Nat.ne_of_lt:=@Nat.ne_of_lt
theorem g_:type_of% @List.append_nil:=@List.append_nil
theorem jq:type_of% @List.mem_singleton:=@List.mem_singleton
theorem iW:type_of% @List.length_cons:=@List.length_cons
theorem qB:type_of% @Int.eq_ofNat_of_zero_le:=@Int.eq_ofNat_of_zero_le
theorem js:type_of% @List.getElem_mem:=@List.getElem_mem
theorem kj:type_of% @Nat.lt_of_lt_of_le:=@Nat.lt_of_lt_of_le
theorem o4:type_of% @List.mem_append_right:=@List.mem_append_right
theorem gG:type_of% @Nat.zero_le:=@Nat.zero_le
theorem xv:type_of% @List.nodup_iff_pairwise_ne:=@List.nodup_iff_pairwise_ne
theorem oZ:type_of% @List.pairwise_map:=@List.pairwise_map
theorem rV:type_of% @List.map_congr_left:=@List.map_congr_left
theorem rT:type_of% @List.getElem_of_mem:=@List.getElem_of_mem
theorem sN:type_of% @Array.length_toList:=@Array.length_toList
theorem AR:type_of% @List.getElem?_append_right:=@List.getElem?_append_right
theorem xu:type_of% @List.length_replicate:=@List.length_replicate
theorem xt:type_of% @List.length_filter_le:=@List.length_filter_le
theorem zc:type_of% @List.length_eq_zero_iff:=@List.length_eq_zero_iff
theorem y_:type_of% @List.take_of_length_le:=@List.take_of_length_le
theorem vY:type_of% @List.pairwise_cons:=@List.pairwise_cons
theorem rR:type_of% @List.mem_filter:=@List.mem_filter
theorem rQ:type_of% @List.nodup_cons:=@List.nodup_cons
theorem Dh:type_of% @List.getElem?_append_left:=@List.getElem?_append_left
theorem qA:type_of% @Bool.and_false:=@Bool.and_false
theorem sL:type_of% @List.length_nil:=@List.length_nil
theorem rP:type_of% @Bool.false_and:=@Bool.false_and
theorem vW:type_of% @List.lookup_cons:=@List.lookup_cons
theorem xr:type_of% @List.append_assoc:=@List.append_assoc
theorem xq:type_of% @List.flatMap_cons:=@List.flatMap_cons
theorem yZ:type_of% @List.mem_filterMap:=@List.mem_filterMap
theorem zf:type_of% @Bool.false_eq_true:=@Bool.false_eq_true
theorem ze:type_of% @List.filter_append:=@List.filter_append
theorem Dj:type_of% @Option.map_eq_some_iff:=@Option.map_eq_some_iff
theorem xx:type_of% @Bool.and_eq_true:=@Bool.and_eq_true
theorem xw:type_of% @List.not_mem_nil:=@List.not_mem_nil
theorem AS:type_of% @List.flatMap_append:=@List.flatMap_append
theorem qC:type_of% @Nat.le_trans:=@Nat.le_trans
theorem ES:type_of% @Option.isSome_iff_exists:=@Option.isSome_iff_exists
theorem zd:type_of% @Int.toNat_natCast:=@Int.toNat_natCast
theorem Di:type_of% @List.length_singleton:=@List.length_singleton
theorem AM:type_of% @Int.emod_lt_of_pos:=@Int.emod_lt_of_pos
theorem AL:type_of% @List.find?_eq_none:=@List.find?_eq_none
theorem vM:type_of% @Nat.lt_irrefl:=@Nat.lt_irrefl
theorem yW:type_of% @Int.emod_nonneg:=@Int.emod_nonneg
theorem EH:type_of% @List.mem_of_mem_erase:=@List.mem_of_mem_erase
theorem xm:type_of% @Nat.ne_of_gt:=@Nat.ne_of_gt
theorem xk:type_of% @List.map_nil:=@List.map_nil
theorem xj:type_of% @Int.le_of_lt:=@Int.le_of_lt
abbrev ax:=List PySem.Value
abbrev ag:=PySem.Str->PySem.Str
abbrev ay:=List PySem.Addr
abbrev ae:=List PySem.Str
namespace L2
open PySem PySem.Spec PyProof.Rows
abbrev Key:=Sum Int Str
def yM:Key->Aa->Bool
 |.inl k,v=>Value.isInt k v
 |.inr x,v=>Value.isStrOf x v
def Oo(w:Af):Key->Int
 |.inl k=>hashInt k
 |.inr x=>hashStr w x
theorem sM:∀{k:Key} {v:Aa},yM k v=true->(∃i t,k=Sum.inl i/\v=Value.int i t)∨(∃x t,k=Sum.inr x/\v=Value.str x t)
 |.inl i,v,h=>by
  let#[t,e]:=Value.isInt_shape (k:=i) (v:=v) h;exact .inl #[i,t,Z,e]
 |.inr x,v,h=>by
  let#[t,e]:=Value.isStrOf_shape (x:=x) (v:=v) h;exact .inr #[x,t,Z,e]
theorem i7_(i:Int)(t:Tok):yM (.inl i) (.int i t)=true:=by simp[yM,Value.isInt]
theorem gW_(x:Str)(t:Tok):yM (.inr x) (.str x t)=true:=by simp[yM,Value.isStrOf]
theorem me_(a b:Int):decide ((Sum.inl a:Key)=Sum.inl b)=(a == b):=by
 by_cases e:a=b
 ·subst e;simp
 ·have h:¬(Sum.inl a:Key)=Sum.inl b:=λq=>e (Sum.inl.inj q);rw[dS h];exact (beq_eq_false_iff_ne.mpr e).symm
theorem lI_(a b:Str):decide ((Sum.inr a:Key)=Sum.inr b)=decide (a=b):=by
 by_cases e:a=b
 ·subst e;simp
 ·have h:¬(Sum.inr a:Key)=Sum.inr b:=λq=>e (ij q);rw[dS h,dS e]
theorem lR_(a:Int)(b:Str):decide ((Sum.inl a:Key)=Sum.inr b)=false:=dS (λq=>nomatch q)
theorem md_(a:Str)(b:Int):decide ((Sum.inr a:Key)=Sum.inl b)=false:=dS (λq=>nomatch q)
def fu(prog:Ae)(w:Af):PySem.KeyKind prog w Key where
 is:=yM
 hash:=Oo w
 inj:=λv a b ha hb=>by
  rcases sM ha with⟨i,t,rfl,rfl⟩|⟨x,t,rfl,rfl⟩
  ·rcases sM hb with⟨j,u,rfl,e⟩|⟨y,u,rfl,e⟩
   ·injection e with e1 _;rw[e1]
   ·exact nomatch e
  ·rcases sM hb with⟨j,u,rfl,e⟩|⟨y,u,rfl,e⟩
   ·exact nomatch e
   ·injection e with e1 _;rw[e1]
 byValue:=λk v h=>by
  rcases sM h with⟨i,t,rfl,rfl⟩|⟨x,t,rfl,rfl⟩<;>rfl
 pyHash:=λhv h=>by
  rcases sM hv with⟨i,t,rfl,rfl⟩|⟨x,t,rfl,rfl⟩
  ·exact wpAny_pyHash_int h
  ·exact wpAny_pyHash_str h
 eqBool:=λhu hv h=>by
  rcases sM hu with⟨i,t,rfl,rfl⟩|⟨x,t,rfl,rfl⟩
  ·rcases sM hv with⟨j,u,rfl,rfl⟩|⟨y,u,rfl,rfl⟩
   ·rw[me_] at h;exact wpAny_eqBool_int h
   ·rw[lR_] at h;exact SeqAt.EqAt.int_str i t y u _ _ _ _ h
  ·rcases sM hv with⟨j,u,rfl,rfl⟩|⟨y,u,rfl,rfl⟩
   ·rw[md_] at h;exact SeqAt.EqAt.str_int x t j u _ _ _ _ h
   ·rw[lI_] at h;exact wpAny_eqBool_str h
 «strs»:=λk x t v h=>by
  rcases sM h with⟨i,u,rfl,e⟩|⟨y,u,rfl,e⟩
  ·exact nomatch e
  ·injection e with e1 _
   subst e1;cases v<;>rfl
theorem fo_(prog:Ae)(w:Af)(i:Int)(t:Tok):(fu prog w).is (.inl i) (.int i t)=true:=i7_ i t
theorem Sh(prog:Ae)(w:Af)(x:Str)(t:Tok):(fu prog w).is (.inr x) (.str x t)=true:=gW_ x t
end L2
abbrev aM:=List L2.Key
namespace L2
open PySem PySem.Spec PyProof.Rows
inductive V where
 |non|bl (b:Bool)|int (i:Int)|str (x:Str)|byt (b:Array UInt8)|flt (b:UInt64)|ref (a:Addr)|ty (n:String)
 deriving DecidableEq
def RelV:V->Aa->Prop
 |.non,u=>u=Value.none
 |.bl b,u=>u=Value.bool b
 |.int i,u=>∃t,u=Value.int i t
 |.str x,u=>∃t,u=Value.str x t
 |.byt b,u=>∃t,u=Value.bytes b t
 |.flt b,u=>∃t,u=Value.float b t
 |.ref a,u=>u=Value.ref a
 |.ty n,u=>u=Value.type n
abbrev Vals:List V->ax->Prop:=Paired RelV
theorem Vals.length{xs:List V}{us:ax}(r:Vals xs us):xs.length=us.length:=bK r
theorem Vals.get:∀{xs:List V} {us:ax} {i:Nat} {x:V},Vals xs us->xs[i]? = some x->∃u,us[i]? = some u/\RelV x u
 |_,_,_,_,.nil,e=>by simp at e
 |_,_,0,_,.cons r _,e=>by simp at e;subst e;exact#[_,Z,r]
 |_,_,i+1,x,.cons _ t,e=>by
  let#[u,h1,h2]:=Vals.get (i:=i) (x:=x) t (by simpa using e);exact#[u,by simpa using h1,h2]
theorem Vals.set{x:V}{u:Aa}(r:RelV x u):∀{xs:List V} {us:ax} (i:Nat),Vals xs us->Vals (xs.set i x) (us.set i u)
 |_,_,_,.nil=>.nil
 |_,_,0,.cons _ t=>.cons r t
 |_,_,i+1,.cons q t=>.cons q (Vals.set r i t)
theorem Vals.append:∀{xs ys:List V} {us ws:ax},Vals xs us->Vals ys ws->Vals (xs++ys) (us++ws)
 |_,_,_,_,.nil,s=>s
 |_,_,_,_,.cons r t,s=>.cons r (Vals.append t s)
theorem Vals.take:∀{xs:List V} {us:ax} (n:Nat),Vals xs us->Vals (xs.take n) (us.take n)
 |_,_,0,_=>.nil
 |_,_,_+1,.nil=>.nil
 |_,_,n+1,.cons r t=>.cons r (Vals.take n t)
theorem Vals.drop:∀{xs:List V} {us:ax} (n:Nat),Vals xs us->Vals (xs.drop n) (us.drop n)
 |_,_,0,r=>r
 |_,_,_+1,.nil=>.nil
 |_,_,n+1,.cons _ t=>Vals.drop n t
def fq:Option V->Option Aa->Prop
 |some v,some u=>RelV v u
 |none,none=>True
 |_,_=>False
def KV{κ:Type}:List (κ × V)->List (κ × Aa)->Prop:=Paired λ(p:κ × V) (q:κ × Aa)=>p.1=q.1/\RelV p.2 q.2
def kV:Key->V
 |.inl i=>.int i
 |.inr x=>.str x
inductive HO where
  |lst (xs:List V)
  |tup (xs:List V)
  |dK (kvs:List (Key × V))|dT (kvs:List (aM × V))
  |set (S:Int->Bool) (n:Nat)
  |ins (C dx:Addr) (fs:List (Str × V))
  |own (x:Addr)
  |xd (fs:List (Str × V))
  |met (f x:Addr)
  |rng (lo hi:Int)
  |frz (o:Obj) (u:HO)
  |tbl (ps:Array Aa)
  |ext (φ:Heap->Prop)
abbrev Hp:=Addr->Option HO
def upd(H:Hp)(a:Addr)(o:HO):Hp:=λb=>if b=a then some o else H b
variable{H:Hp}{a:Addr}
theorem az{o:HO}:upd H a o a=some o:=by unfold upd;rw[aA Z]
variable{b:Addr}
theorem au{o:HO}(h:b≠a):upd H a o b=H b:=by unfold upd;rw[aq h]
variable{u:HO}
theorem l1_{o:HO}:upd (upd H a o) a u=upd H a u:=by
 funext b;unfold upd;split<;>rfl
theorem cj{o:HO}(h:H a=some o)(h':H b=some u)(d:o≠u):a≠b:=by
 intro e;subst e;rw[h] at h';exact d (eK h')
theorem bq{o:HO}(h:H a=some o)(h':H b=none):a≠b:=by
 intro e;subst e;rw[h] at h';cases h'
section
variable(P:Ae)(w:Af)
def gm(H:Hp)(h:Heap)(a:Addr):HO->Prop
 |.lst xs=>xs.length<=sizeLine/\∃(its:ax) (n:Nat),Vals xs its/\h.get? a=some { cls:=.type "list",data:=.seq its.toArray n }
 |.tup xs=>xs.length<=sizeLine/\∃its:ax,Vals xs its/\IsTup h a its.toArray/\∃o,h.get? a=some o/\o.dict=none
 |.dK kvs=>kvs.length<=sizeLine/\(a == sysModules)=false/\∃vs,KV kvs vs/\h.DictOf (fu P w) a vs
 |.dT kvs=>kvs.length<=sizeLine/\(a == sysModules)=false/\∃xs:List (aM × Addr × Aa),
   Paired (λ(p:aM × V) (q:aM × Addr × Aa)=>p.1=q.1/\H q.2.1=some (.tup (p.1.map kV))/\RelV p.2 q.2.2) kvs xs /\
   ∃o es ep,h.get? a=some o/\o.ExactDict/\o.data=.dict es ep/\es.toList=xs.map (entryOfKey (tupleKind (fu P w)))/\(xs.map (·.1)).Nodup
 |.set S n=>h.SetOf (intKind P w) a S n
 |.ins C dx fs=>H dx=some (.own a)/\fs.length<=1000/\dx≠a/\h.get? a=some (PySem.W.instObj C dx) /\
   ∃mA,h.Ns1 dx mA/\(∀f,fq (fs.lookup f) (mA f))/\PySem.Within mA (fs.map (·.1))
 |.own _=>∃o,h.get? a=some o
 |.xd fs=>∃mA,h.Ns1 a mA/\∀f,fq (fs.lookup f) (mA f)
 |.rng lo hi=>∃t u v,h.get? a=some { cls:=.type "range",data:=.fields (List.toArray [.int lo t,.int hi u,.int 1 v]) }
 |.frz o u=>h.get? a=some o/\gm H h a u
 |.tbl ps=>h.get? a=some { cls:=.none,data:=.fields ps }
 |.met f x=>h.get? a=some (PySem.W.methodObj (.ref f) (.ref x))
 |.ext φ=>φ h/\(∃o,h.get? a=some o)/\∀h1 h2:Heap,φ h1->(∀o,h1.get? a=some o->h2.get? a=some o)->φ h2
def gx(H:Hp)(h:Heap):Prop:=∀a o,H a=some o->gm P w H h a o
end
section
variable{P:Ae}{w:Af}{H H':Hp}{h h':Heap}{a:Addr}{o:HO}
theorem gm.lt(x:gm P w H h a o):a<h.objs.size:=by
 cases o with
 |lst xs=>let#[_,_,_,_,e]:=x;exact cQ e
 |tup xs=>let#[_,_,_,p,_]:=x;exact p.lt
 |dK kvs=>let#[_,_,_,_,o,_,_,e,_]:=x;exact cQ e
 |dT kvs=>let#[_,_,_,_,o,_,_,e,_]:=x;exact cQ e
 |set S n=>let#[o,_,_,_,e,_]:=x;exact cQ e
 |ins C dx fs=>let#[_,_,_,e,_]:=x;exact cQ e
 |own y=>let#[_,e]:=x;exact cQ e
 |xd fs=>let#[_,#[_,_,_,e,_],_]:=x;exact cQ e
 |rng lo hi=>let#[_,_,_,e]:=x;exact cQ e
 |frz ob u=>let#[e,_]:=x;exact cQ e
 |tbl ps=>exact cQ (show h.get? a=some _ from x)
 |met f y=>exact cQ (show h.get? a=some _ from x)
 |ext φ=>let#[_,#[_,e],_]:=x;exact cQ e
theorem Paired.bx{α β:Type}{F G:α->β->Prop}:∀{F_:List α} {F9:List β},Paired F F_ F9->(∀a b,F a b->G a b)->Paired G F_ F9
 |_,_,.nil,_=>.nil
 |_,_,.cons r t,f=>.cons (f _ _ r) (Paired.bx t f)
theorem gm.fe(x:gm P w H h a o)(k:∀b u,(b=a∨H b=some (.own a))->h.get? b=some u->h'.get? b=some u)
  (ho:∀b,H b=some (.own a)->H' b=some (.own a)) (ht:∀b xs,H b=some (.tup xs)->H' b=some (.tup xs)):gm P w H' h' a o:=by
 induction o with
 |lst xs=>let#[z,its,n,r,e]:=x;exact#[z,its,n,r,k _ _ (.inl Z) e]
 |tup xs=>let#[z,its,r,#[ob,e,c],o2,e2,c2]:=x;exact#[z,its,r,#[ob,k _ _ (.inl Z) e,c],o2,k _ _ (.inl Z) e2,c2]
 |dK kvs=>let#[z,y,vs,r,ob,es,ep,e,c]:=x;exact#[z,y,vs,r,ob,es,ep,k _ _ (.inl Z) e,c]
 |dT kvs=>
  let#[z,y,xs,r,ob,es,ep,e,c]:=x;exact#[z,y,xs,Paired.bx r λp q z=>#[z.1,ht _ _ z.2.1,z.2.2],ob,es,ep,k _ _ (.inl Z) e,c]
 |set S n=>let#[ob,es,ep,t,e,c]:=x;exact#[ob,es,ep,t,k _ _ (.inl Z) e,c]
 |ins C dx fs=>
  let#[d,z,ne,e,mA,#[od,es,ep,e2,c],r]:=x;exact#[ho _ d,z,ne,k _ _ (.inl Z) e,mA,#[od,es,ep,k _ _ (.inr d) e2,c],r]
 |own y=>let#[ob,e]:=x;exact#[ob,k _ _ (.inl Z) e]
 |xd fs=>let#[mA,#[od,es,ep,e,c],r]:=x;exact#[mA,#[od,es,ep,k _ _ (.inl Z) e,c],r]
 |rng lo hi=>let#[t,u,v,e]:=x;exact#[t,u,v,k _ _ (.inl Z) e]
 |frz ob u ih=>let#[e,q]:=x;exact#[k _ _ (.inl Z) e,ih q]
 |tbl ps=>
  have e:h.get? a=some { cls:=.none,data:=.fields ps }:=x;show h'.get? a=some { cls:=.none,data:=.fields ps };exact k a _ (.inl Z) e
 |met f y=>
  have e:h.get? a=some (PySem.W.methodObj (.ref f) (.ref y)):=x;show h'.get? a=some (PySem.W.methodObj (.ref f) (.ref y));exact k a _ (.inl Z) e
 |ext φ=>let#[p,#[o,e],st]:=x;exact#[st _ _ p λo q=>k _ _ (.inl Z) q,#[o,k _ _ (.inl Z) e],st]
theorem gx.lt(x:gx P w H h)(e:H a=some o):a<h.objs.size:=(x a o e).lt
theorem gx.fresh(x:gx P w H h)(e:h.objs.size<=a):H a=none:=by
 cases q:H a with
 |none=>rfl
 |some u=>exact absurd (kj (x.lt q) e) (vM _)
theorem gx.kept(x:gx P w H h)(k:∀b u,h.get? b=some u->h'.get? b=some u):gx P w H h':=λa o e=>
 (x a o e).fe (λb u _ q=>k b u q) (λ_ q=>q) λ_ _ q=>q
theorem gx.laid(x:gx P w H h)(k:∀b u,h.get? b=some u->h'.get? b=some u)(hp:h.objs.size<=a)(new:gm P w (upd H a o) h' a o):gx P w (upd H a o) h':=λb u e=>by
 let hn:=x.fresh hp;by_cases hb:b=a
 ·subst hb;rw[az] at e;cases e;exact new
 ·rw[au hb] at e;exact (x b u e).fe (λc v _ q=>k c v q) (λc q=>by rw[au (bq q hn)];exact q) λc xs q=>by rw[au (bq q hn)];exact q
end
def Rd(H:Hp)(a:Addr)(u:HO):Prop:=H a=some u∨∃o,H a=some (.frz o u)
variable{P:Ae}{w:Af}{h:Heap}
theorem Rd.ok(r:Rd H a u)(x:gx P w H h):gm P w H h a u:=by
 rcases r with r|⟨o,r⟩
 ·exact x a u r
 ·let#[_,q]:=x a _ r;exact q
def Kb:Option HO->Prop
 |some (.lst _)=>True
 |some (.dK _)=>True
 |some (.dT _)=>True
 |some (.set _ _)=>True
 |some (.ins _ _ _)=>True
 |some (.ext _)=>True
 |_=>False
variable{h':Heap}{e x:Addr}{o':HO}
theorem gx.write(ok:gx P w H h)(mu:Kb (H x))(he:e=x∨H e=some (.own x))(k:∀b u,b≠e->h.get? b=some u->h'.get? b=some u)(DN:∃u,h'.get? e=some u)
  (new:gm P w (upd H x o') h' x o'):gx P w (upd H x o') h':=λb u q=>by
 have F1:∀c y,H c=some (.own y)->c≠x:=λc y r z=>by subst z;rw[r] at mu;exact mu
 have ND:∀c xs,H c=some (.tup xs)->c≠x:=λc xs r z=>by subst z;rw[r] at mu;exact mu
 by_cases hb:b=x
 ·subst hb;rw[az] at q;cases q;exact new
 ·rw[au hb] at q;by_cases Ca:b=e
  ·have q':H b=some (.own x):=by
    rcases he with z|z
    ·exact absurd (Ca.trans z) hb
    ·rw[Ca];exact z
   rw[q] at q';cases q';let#[v,hv]:=DN;exact#[v,by rw[Ca];exact hv]
  ·apply (ok b u q).fe (λc v hc r=>k c v ?_ r) (λc r=>by rw[au (F1 c b r)];exact r) λc xs r=>by rw[au (ND c xs r)];exact r
   rcases hc with rfl|hc
   ·exact Ca
   ·rintro rfl;rcases he with z|z
    ·exact F1 c b hc z
    ·rw[hc] at z;cases z;exact hb Z
structure Un (fs ex:ay) (H H':Hp) (h h':Heap):Prop where
 keep:∀b o,h.get? b=some o->H b=none->b∉fs->b∉ex->h'.get? b=some o
 slot:∀b o,h.get? b=some o->H b=none->b∈fs->b∉ex->∃sl,h'.get? b=some { o with slots:=sl }
 free:∀b o,h.get? b=some o->H b=none->b∉ex->H' b=none
 there:∀b o,h.get? b=some o->b∉ex->∃o',h'.get? b=some o'
 jH:∀b xs,H b=some (.tup xs)->H' b=some (.tup xs)
 ig:∀b o u,H b=some (.frz o u)->H' b=some (.frz o u)
 jb:∀b ps,H b=some (.tbl ps)->∃more,H' b=some (.tbl (ps++more))
variable{ex fs:ay}{H1:Hp}{h1:Heap}
theorem Un.any(u:Un fs ex H H1 h h1){ob:Obj}(q:h.get? b=some ob)(n:H b=none)(hx:b∉ex):∃sl,h1.get? b=some { ob with slots:=sl }:=by
 by_cases hb:b∈fs
 ·exact u.slot b ob q n hb hx
 ·exact#[ob.slots,u.keep b ob q n hb hx]
theorem Un.kept(k:∀b u,h.get? b=some u->h'.get? b=some u):Un fs ex H H h h':=
 #[λb ob q _ _ _=>k b ob q,λb ob q _ _ _=>#[ob.slots,k b ob q],λ_ _ _ n _=>n,λb ob q _=>#[ob,k b ob q],λ_ _ q=>q,λ_ _ _ q=>q,λ_ ps q=>#[#[],by rw[q];simp]]
theorem Un.refl:Un fs ex H H h h:=Un.kept λ_ _ q=>q
variable{o:HO}
theorem Un.laid(k:∀b u,h.get? b=some u->h'.get? b=some u)(hp:h.objs.size<=a)(hn:H a=none):Un fs ex H (upd H a o) h h' where
 keep:=λb u q _ _ _=>k b u q
 slot:=λb u q _ _ _=>#[u.slots,k b u q]
 free:=λb u q n _=>by rw[au (eV (kj (cQ q) hp))];exact n
 there:=λb u q _=>#[u,k b u q]
 jH:=λb xs q=>by rw[au (bq q hn)];exact q
 ig:=λb u xs q=>by rw[au (bq q hn)];exact q
 jb:=λb ps q=>#[#[],by rw[au (bq q hn),q];simp]
theorem Un.write(mu:Kb (H x))(he:e=x∨H e=some (.own x))(k:∀b u,b≠e->h.get? b=some u->h'.get? b=some u)(DN:∃u,h'.get? e=some u):Un fs ex H (upd H x o) h h':=by
 have hx:∀b,H b=none->b≠x:=λb n z=>by subst z;rw[n] at mu;exact mu
 have hb:∀b,H b=none->b≠e:=λb n z=>by
  subst z;rcases he with r|r
  ·exact hx b n r
  ·rw[n] at r;cases r
 have hm:∀b u,H b=some u->¬Kb (some u)->b≠x:=λb u q nm z=>by subst z;rw[q] at mu;exact nm mu
 apply#[λb u q n _ _=>k b u (hb b n) q,λb u q n _ _=>#[u.slots,k b u (hb b n) q],λb u q n _=>by rw[au (hx b n)];exact n,λb u q _=>?_,
  λb xs q=>by rw[au (hm b _ q λz=>z)];exact q,λb u xs q=>by rw[au (hm b _ q λz=>z)];exact q,λb ps q=>#[#[],by rw[au (hm b _ q λz=>z),q];simp]]
 by_cases Ca:b=e
 ·subst Ca;exact DN
 ·exact#[u,k b u Ca q]
def Kj(h:Heap)(H:Hp):ay:=(List.range h.objs.size).filter λa=>(H a).isSome
def jh(h:Heap)(H:Hp):Heap:=PySem.W.hideAll h (Kj h H)
theorem iF_(h:Heap)(H:Hp):(jh h H).objs.size=h.objs.size:=PySem.W.hideAll_size _ _
variable{o:Obj}
theorem jR_(e:h.get? b=some o)(n:H b=none):(jh h H).get? b=some o:=
 PySem.W.hideAll_get _ e λhm=>by
  have q:(H b).isSome=true:=(rR.mp hm).2;rw[n] at q;simp at q
theorem lo_(e:(jh h H).get? b=some o):h.get? b=some o/\H b=none:=by
 have e':h.get? b=some o:=PySem.W.of_hideAll (Kj h H) e;apply#[e',?_];cases q:H b with
 |none=>rfl
 |some x=>
  have hm:b∈Kj h H:=rR.mpr #[List.mem_range.mpr (cQ e'),by simp[q]];have z:(jh h H).get? b=none:=PySem.W.hideAll_none (Kj h H) hm;rw[z] at e;cases e
end L2
abbrev ai:=List L2.V
abbrev aK:=Option L2.V
namespace L2
open PySem PySem.Spec PyProof.Rows
structure Mod (K:af) (mg:Str->Option Aa) (base:Heap):Prop where
 Gk:K.In base
 glob:base.Ns mainGlobals mg
 blt:∃mb,base.Ns builtinsNs mb/\∀x:Str,x≠"__name__"->mb x=bootBuiltins x
 nolimit:base.NoLimit
structure Cx where
 prog:Ae
 w:Af
 K:af
 mg:Str->Option Aa
 base:Heap
 A:Ag
 N:ae
 dA:Ab
 lX:Hp
 env:Env
 outer:List Env
 stack:List Env
 ex:ay
 fn:Str->Bool
 calm:Bool
 pn:List (Addr × Obj)
 xe:Aa->Ab->Prop
def rE(l:List Env):ay:=l.filterMap (·.frame)
abbrev Cx.fs(X:Cx):ay:=rE X.outer
def Th(sc:Scope)(x:Str):Prop:=sc.names.lookup x=some .local∨sc.names.lookup x=some .cell∨sc.names.lookup x=some .free
def Loc(sc:Scope)(x:Str):Prop:=sc.names.lookup x=some .local∨sc.names.lookup x=some .cell
def Look(env:Env)(h:Heap)(m:Str->Option Aa)(x:Str)(u:Aa):Prop:=
 (env.kindOf x=some .local/\m x=some u)∨((env.kindOf x=some .cell∨env.kindOf x=some .free)/\∃c,env.cells.lookup x=some c/\h.IsCell c (some u))
structure Cx.Ok (X:Cx):Prop where
 mod:Mod X.K X.mg X.base
 kind:X.env.scope.kind=.function
 glob:X.env.globals=mainGlobals
 blt:X.env.builtins=builtinsNs
 above:X.dA.heap.objs.size<=X.env.locals
 inj:∀x y c,X.env.cells.lookup x=some c->X.env.cells.lookup y=some c->x=y
 has:∀x,(X.env.kindOf x=some .cell∨X.env.kindOf x=some .free)->∃c,X.env.cells.lookup x=some c
 Eo:∀x c,X.fn x=true->X.env.cells.lookup x=some c->X.dA.heap.objs.size<=c
 hd:X.calm=true->X.A.handled=none
 frames:X.A.frames=some X.stack
 Kn:X.stack=X.outer∨(X.stack=X.env::X.outer/\X.env.frame=some X.env.locals)
 Li:∀b∈X.ex,b≠X.env.locals/\∀x c,X.env.cells.lookup x=some c->c≠b
 bs:∀b o,X.base.get? b=some o->X.dA.heap.get? b=some o/\X.lX b=none
 vK:X.base.objs.size<=X.dA.heap.objs.size
 uR:∀b o,X.base.get? b=some o->b∉X.ex
 vx:∀b∈X.ex,b∉X.fs
 gC:X.dA.heap.FunFrames X.base X.outer
 yF:∀b∈X.fs,X.lX b=none
structure Inv (X:Cx) (pins:List (Addr × Obj)) (σ:List aK) (H:Hp) (s:Ab):Prop where
 ok:X.Ok
 os:s.os=X.dA.os
 bare:AllBare s.gens
 base:Un X.fs X.ex X.lX H X.dA.heap s.heap
 loc:∃m,s.heap.Ns X.env.locals m/\∀(i:Nat) (x:Str) (v:V),X.N[i]? = some x->σ[i]? = some (some v)->Th X.env.scope x->∃u,RelV v u/\Look X.env s.heap m x u
 cell:∀x c,X.env.cells.lookup x=some c->∃v,s.heap.IsCell c v
 free:H X.env.locals=none
 eS:∀x c,X.env.cells.lookup x=some c->H c=none
 pin:∀p∈X.pn++pins,s.heap.get? p.1=some p.2/\H p.1=none/\p.1≠X.env.locals/\p.1∉X.fs/\∀v,p.2.data≠.cell v
 aN:gx X.prog X.w H s.heap
 len:σ.length=X.N.length
variable{X:Cx}
theorem Cx.Ok.NI(ok:X.Ok){b:Addr}{o:Obj}(e:X.base.get? b=some o):b∉X.fs:=λhb=>by
 have:=(ok.gC.mem hb).1;rw[e] at this;cases this
variable{pins:List (Addr × Obj)}{σ:List aK}{H:Hp}{s:Ab}
theorem Inv.bs(I:Inv X pins σ H s):∀b o,X.base.get? b=some o->s.heap.get? b=some o/\H b=none:=λb o e=>
 #[I.base.keep b o (I.ok.bs b o e).1 (I.ok.bs b o e).2 (I.ok.NI e) (I.ok.uR b o e),I.base.free b o (I.ok.bs b o e).1 (I.ok.bs b o e).2 (I.ok.uR b o e)]
theorem Inv.bk(I:Inv X pins σ H s):∀b o,X.base.get? b=some o->s.heap.get? b=some o:=λb o e=>(I.bs b o e).1
theorem Inv.mod(I:Inv X pins σ H s):Mod X.K X.mg X.base:=I.ok.mod
theorem Inv.gK(I:Inv X pins σ H s):X.K.In s.heap:=I.ok.mod.Gk.keeps I.bk
theorem Inv.lt(I:Inv X pins σ H s):X.env.locals<s.heap.objs.size:=let #[_,hn,_]:=I.loc;hn.lt
theorem Inv.sz(I:Inv X pins σ H s):X.dA.heap.objs.size<=s.heap.objs.size:=qC I.ok.above (Nat.le_of_lt I.lt)
variable{a:Addr}
theorem Inv.NH(I:Inv X pins σ H s)(h:s.heap.objs.size<=a):a∉X.fs:=λhb=>by
 let#[_,o,ho,_]:=I.ok.gC.mem hb;exact absurd (kj (cQ ho) (qC I.sz h)) (vM _)
theorem Inv.wZ(I:Inv X pins σ H s):∀x c,X.env.cells.lookup x=some c->c≠X.env.locals:=λx c e z=>by
 let#[v,o,ho,hd]:=I.cell x c e;let#[m,#[o',es,ep,jx,iA,_],_]:=I.loc;rw[z,jx] at ho;cases ho;rw[iA] at hd;cases hd
theorem Inv.gC(I:Inv X pins σ H s):s.heap.FunFrames X.base X.outer:=by
 have all:∀(l:List Env),(∀b∈rE l,b∈X.fs)->X.dA.heap.FunFrames X.base l->s.heap.FunFrames X.base l:=by
  intro l
  induction l with
  |nil=>intro _ _;trivial
  |cons env r ih=>
   intro hs hl;let#[hk,#[L,o,hf,hn,ho,hd],hr]:=hl;have hL:L∈X.fs:=hs L (by unfold rE;rw[List.filterMap_cons,hf];exact cZ);let#[sl,e]:=I.base.slot L o ho (I.ok.yF L hL) hL λz=>I.ok.vx L z hL;exact#[hk,#[L,_,hf,hn,e,hd],ih (λb hb=>hs b (by unfold rE;rw[List.filterMap_cons,hf];exact dI _ hb)) hr]
 exact all X.outer (λ_ hb=>hb) I.ok.gC
theorem Inv.stack(I:Inv X pins σ H s):s.heap.FunFrames X.base X.stack:=by
 rcases I.ok.Kn with e|⟨e,hf⟩
 ·rw[e];exact I.gC
 ·rw[e];let#[m,hn,_]:=I.loc;apply .cons (by rw[I.ok.kind];decide) hf hn ?_ I.gC;exact Heap.get?_none_of_le (qC I.ok.vK I.ok.above)
theorem Inv.mR(I:Inv X pins σ H s):∀b∈rE X.stack,b∈X.env.locals::X.fs:=λb hb=>by
 rcases I.ok.Kn with e|⟨e,hf⟩
 ·rw[e] at hb;exact dI _ hb
 ·rw[e] at hb;unfold rE at hb;rw[List.filterMap_cons,hf] at hb;exact hb
theorem Inv.pF(I:Inv X pins σ H s):∀b∈rE X.stack,H b=none:=λb hb=>by
 rcases bZ.mp (I.mR b hb) with e|hb
 ·rw[e];exact I.free
 ·let#[_,o,ho,_]:=I.ok.gC.mem hb;exact I.base.free b o ho (I.ok.yF b hb) λz=>I.ok.vx b z hb
variable{g':Array GenState}{t':Nat}{d':Drawn}{ch:ay}{H':Hp}{h':Heap}
theorem Inv.step(I:Inv X pins σ H s)(wM:∀b∈ch,(b∈X.ex∨X.dA.heap.objs.size<=b)/\b≠X.env.locals/\(∀x c,X.env.cells.lookup x=some c->c≠b)/\∀p∈X.pn++pins,p.1≠b)(keep:∀b o,b≠X.env.locals->b∉X.fs->b∉ch->s.heap.get? b=some o->H b=none->h'.get? b=some o)(slot:∀b o,b≠X.env.locals->b∈X.fs->b∉ch->s.heap.get? b=some o->H b=none->∃sl,h'.get? b=some { o with slots:=sl })(free:∀b o,b∉ch->s.heap.get? b=some o->H b=none->H' b=none)(there:∀b o,b∉ch->s.heap.get? b=some o->∃o',h'.get? b=some o')(jH:∀b xs,H b=some (.tup xs)->H' b=some (.tup xs))(ig:∀b o u,H b=some (.frz o u)->H' b=some (.frz o u))(jb:∀b ps,H b=some (.tbl ps)->∃more,H' b=some (.tbl (ps++more)))(ns:∀m,s.heap.Ns X.env.locals m->h'.Ns X.env.locals m)(aN:gx X.prog X.w H' h')(hg:AllBare g') :
  Inv X pins σ H' { s with heap:=h',gens:=g',drawn:=d',toks:=t' }:=by
 have Uu:∀b o,X.dA.heap.get? b=some o->b≠X.env.locals:=λb o e=>eV (kj (cQ e) I.ok.above)
 have KF:∀b o,X.dA.heap.get? b=some o->b∉X.ex->b∉ch:=λb o e hx hb=>by
  rcases (wM b hb).1 with z|z
  ·exact hx z
  ·exact absurd (kj (cQ e) z) (vM _)
 have cellK:∀x c,X.env.cells.lookup x=some c->∀v,s.heap.IsCell c v->h'.IsCell c v:=λx c e v ⟨o,ho,hd⟩=>by
  have F5:c∉ch:=λz=>(wM c z).2.2.1 x c e Z;by_cases hc:c∈X.fs
  ·let#[sl,q]:=slot c o (I.wZ x c e) hc F5 ho (I.eS x c e);exact#[_,q,hd]
  ·exact#[o,keep c o (I.wZ x c e) hc F5 ho (I.eS x c e),hd]
 apply#[I.ok,I.os,hg,#[λb o e n hb hx=>?_,λb o e n hb hx=>?_,λb o e n hx=>?_,λb o e hx=>?_,λb xs e=>jH b xs (I.base.jH b xs e),λb o xs e=>ig b o xs (I.base.ig b o xs e),λb ps e=>?_],?_,λx c e=>?_,?_,λx c e=>?_,λp hp=>?_,aN,I.len]
 ·exact keep b o (Uu b o e) hb (KF b o e hx) (I.base.keep b o e n hb hx) (I.base.free b o e n hx)
 ·let#[sl,e1]:=I.base.slot b o e n hb hx;let#[sl',e2]:=slot b _ (Uu b o e) hb (KF b o e hx) e1 (I.base.free b o e n hx);exact#[sl',e2]
 ·let#[o',e1]:=I.base.there b o e hx;exact free b o' (KF b o e hx) e1 (I.base.free b o e n hx)
 ·let#[o',e1]:=I.base.there b o e hx;exact there b o' (KF b o e hx) e1
 ·let#[m1,e1]:=I.base.jb b ps e;let#[m2,e2]:=jb b _ e1;exact#[m1++m2,by rw[e2,Array.append_assoc]]
 ·let#[m,hn,hl]:=I.loc;apply#[m,ns m hn,λi x v e1 e2 e3=>?_];let#[u,r,l]:=hl i x v e1 e2 e3;apply#[u,r,?_];rcases l with l|⟨k,c,e,z⟩
  ·exact .inl l
  ·exact .inr #[k,c,e,cellK x c e _ z]
 ·let#[v,z]:=I.cell x c e;exact#[v,cellK x c e v z]
 ·let#[m,#[o,_,_,ho,_],_]:=I.loc;exact free _ o (λz=>(wM _ z).2.1 Z) ho I.free
 ·let#[v,o,ho,hd]:=I.cell x c e;exact free c o (λz=>(wM c z).2.2.1 x c e Z) ho (I.eS x c e)
 ·let#[e,n,ne,nf,d]:=I.pin p hp;have F5:p.1∉ch:=λz=>(wM p.1 z).2.2.2 p hp Z;exact#[keep p.1 p.2 ne nf F5 e n,free p.1 p.2 F5 e n,ne,nf,d]
theorem Inv.un(I:Inv X pins σ H s)(u:Un X.fs [] H H' s.heap h')(aN:gx X.prog X.w H' h'):Inv X pins σ H' { s with heap:=h',toks:=t' }:=by
 let#[m,#[o,es,ep,ho,r],_]:=id I.loc;let#[sl,hL]:=u.any ho I.free Z2
 exact I.step (g':=s.gens) (d':=s.drawn) (ch:=[]) (λ_ z=>nomatch z) (λb o _ hb _ e n=>u.keep b o e n hb Z2) (λb o _ hb _ e n=>u.slot b o e n hb Z2) (λb o _ e n=>u.free b o e n Z2) (λb o _ e=>u.there b o e Z2) u.jH u.ig u.jb (λm' hm=>by
  let#[o',Lj,Lk,jx,r']:=hm;rw[ho] at jx;cases jx;exact#[_,Lj,Lk,hL,r']) aN I.bare
theorem Inv.call(I:Inv X pins σ H s)(u:Un (rE X.stack) ch H H' s.heap h')(aN:gx X.prog X.w H' h')(hg:AllBare g')(wM:∀b∈ch,(b∈X.ex∨X.dA.heap.objs.size<=b)/\b≠X.env.locals/\(∀x c,X.env.cells.lookup x=some c->c≠b)/\∀p∈X.pn++pins,p.1≠b) :
  Inv X pins σ H' { s with heap:=h',gens:=g',drawn:=d',toks:=t' }:=by
 let#[m,#[o,es,ep,ho,r],_]:=id I.loc;let#[sl,hL]:=u.any ho I.free λz=>(wM _ z).2.1 Z
 exact I.step (ch:=ch) wM (λb o hL hb hc e n=>u.keep b o e n (λz=>(bZ.mp (I.mR b z)).elim hL hb) hc) (λb o _ _ hc e n=>u.any e n hc) (λb o hc e n=>u.free b o e n hc) (λb o hc e=>u.there b o e hc) u.jH u.ig u.jb (λm' hm=>by
  let#[o',Lj,Lk,jx,r']:=hm;rw[ho] at jx;cases jx;exact#[_,Lj,Lk,hL,r']) aN hg
theorem Inv.turned{it:Addr}(I:Inv X pins σ H s)(k:∀b o,b≠it->s.heap.get? b=some o->h'.get? b=some o)(hn:H it=none)(hL:it≠X.env.locals)(h1:it∈X.ex∨X.dA.heap.objs.size<=it)(h2:∀x c,X.env.cells.lookup x=some c->c≠it)(h3:∀p∈X.pn++pins,p.1≠it):Inv X pins σ H { s with heap:=h',toks:=t' }:=by
 have Us:∀b u,H b=some u->b≠it:=λb u e z=>by rw[z,hn] at e;cases e
 apply I.step (g':=s.gens) (d':=s.drawn) (ch:=[it]) (λb hb=>?_) (λb o _ _ hc e _=>k b o (λz=>hc (by simp[z])) e) (λb o _ _ hc e _=>#[o.slots,k b o (λz=>hc (by simp[z])) e]) (λ_ _ _ _ n=>n)
  (λb o hc e=>#[o,k b o (λz=>hc (by simp[z])) e]) (λ_ _ e=>e) (λ_ _ _ e=>e) (λb ps e=>#[#[],by rw[e];simp]) (λm hm=>?_) (λb u e=>?_) I.bare
 ·have e:b=it:=by simpa using hb
  subst e;exact#[h1,hL,h2,h3]
 ·let#[o,es,ep,ho,r]:=hm;exact#[o,es,ep,k _ o (Ne.symm hL) ho,r]
 ·apply (I.aN b u e).fe (λc v hc q=>k c v ?_ q) (λ_ q=>q) λ_ _ q=>q;rcases hc with z|z
  ·rw[z];exact Us b u e
  ·exact Us c _ z
theorem Inv.tok(I:Inv X pins σ H s)(t:Nat):Inv X pins σ H { s with toks:=t }:=I.un (h':=s.heap) (t':=t) Un.refl I.aN
theorem Inv.kept(I:Inv X pins σ H s)(k:∀b u,s.heap.get? b=some u->h'.get? b=some u):Inv X pins σ H { s with heap:=h',toks:=t' }:=I.un (Un.kept k) (I.aN.kept k)
variable{o:HO}
theorem Inv.laid(I:Inv X pins σ H s)(k:∀b u,s.heap.get? b=some u->h'.get? b=some u)(hp:s.heap.objs.size<=a)(new:gm X.prog X.w (upd H a o) h' a o) :
  Inv X pins σ (upd H a o) { s with heap:=h',toks:=t' }:=I.un (Un.laid k hp (I.aN.fresh hp)) (I.aN.laid k hp new)
theorem Inv.write{x e:Addr}(I:Inv X pins σ H s)(mu:Kb (H x))(he:e=x∨H e=some (.own x))(k:∀b u,b≠e->s.heap.get? b=some u->h'.get? b=some u)(DN:∃u,h'.get? e=some u)(new:gm X.prog X.w (upd H x o) h' x o):Inv X pins σ (upd H x o) { s with heap:=h',toks:=t' }:=I.un (Un.write mu he k DN) (I.aN.write mu he k DN new)
theorem Inv.p9{zO:List (Addr × Obj)}(I:Inv X pins σ H s)(h:∀p∈zO,s.heap.get? p.1=some p.2/\H p.1=none/\p.1≠X.env.locals/\p.1∉X.fs/\∀v,p.2.data≠.cell v):Inv X zO σ H s:=
 #[I.ok,I.os,I.bare,I.base,I.loc,I.cell,I.free,I.eS,λp hp=>(fQ.mp hp).elim (λz=>I.pin p (List.mem_append_left _ z)) (h p),I.aN,I.len]
variable{x:Str}{i:Nat}
theorem XB{N:ae}(hN:N.Nodup){j:Nat}(a:N[i]? = some x)(b:N[j]? = some x):i=j:=by
 let#[h1,e1]:=cy.mp a;let#[h2,e2]:=cy.mp b;exact (List.getElem_inj hN).mp (e1.trans e2.symm)
variable{M:Model}{A:Ag}{E:Aa->Ab->Prop}{v:V}{u:Aa}{Q:Unit->Ab->Prop}
theorem XZ(I:Inv X pins σ H s)(hN:X.N.Nodup)(hi:X.N[i]? = some x)(hx:Loc X.env.scope x)(r:RelV v u)(h:∀s',Inv X pins (σ.set i (some v)) H s'->(∃a,Heap.SameBut a s.heap s'.heap/\(a=X.env.locals∨X.env.cells.lookup x=some a))->Q () s')(hf:X.fn x=true∨X.env.scope.names.lookup x=some .local:=by first|exact .inl Z|exact .inr Z|assumption):wpAny M A (storeName X.env x u) Q E s:=by
 let#[m,hn,hl]:=id I.loc;have Po:(X.env.scope.kind == .class || (X.env.scope.kind == .module&&X.env.locals != X.env.globals))=false:=by rw[I.ok.kind];rfl
 have G6:i<σ.length:=by rw[I.len];exact (cy.mp hi).1
 let wZ:=I.wZ
 have tracked:∀{a:Addr} {h':Heap},(∃o,s.heap.get? a=some o/\H a=none)->Heap.SameBut a s.heap h'->gx X.prog X.w H h':=λ{a h'} ha hs b ob e=>by
  let#[_,_,Ai]:=ha;apply (I.aN b ob e).fe (λc w' hc q=>(hs.2 c ?_).trans q) (λ_ q=>q) λ_ _ q=>q;rintro rfl;rcases hc with rfl|hc
  ·rw[Ai] at e;cases e
  ·rw[Ai] at hc;cases hc
 rcases hx with hk|hk
 ·apply wpAny_storeName_local hk hn (λh' GR hs=>?_) Po;let#[oL,_,_,KY,_]:=id hn;apply h _ #[I.ok,I.os,I.bare,#[λb o e n hb hx=>?_,λb o e n hb hx=>?_,I.base.free,λb o e hx=>?_,I.base.jH,I.base.ig,I.base.jb],#[_,GR,λj y v' e1 e2 e3=>?_],λy c e=>?_,I.free,I.eS,λp hp=>?_,tracked #[oL,KY,I.free] hs,by simpa using I.len] #[_,hs,.inl Z]
  ·exact (hs.2 b (eV (kj (cQ e) I.ok.above))).trans (I.base.keep b o e n hb hx)
  ·let#[sl,e1]:=I.base.slot b o e n hb hx;exact#[sl,(hs.2 b (eV (kj (cQ e) I.ok.above))).trans e1]
  ·let#[o',e1]:=I.base.there b o e hx;exact#[o',(hs.2 b (eV (kj (cQ e) I.ok.above))).trans e1]
  ·by_cases hj:j=i
   ·subst hj;rw[hi] at e1;cases e1;rw[List.getElem?_set_self G6] at e2;cases e2;exact#[u,r,.inl #[hk,by simp]]
   ·rw[List.getElem?_set_ne (Ne.symm hj)] at e2;let#[u',r',q]:=hl j y v' e1 e2 e3;apply#[u',r',?_];rcases q with⟨k,e⟩|⟨k,c,e,z⟩
    ·apply .inl #[k,?_];have:y≠x:=λe=>hj (XB hN e1 (e▸hi));simp[this,e]
    ·exact .inr #[k,c,e,z.sameBut hs (wZ y c e)]
  ·let#[w',z]:=I.cell y c e;exact#[w',z.sameBut hs (wZ y c e)]
  ·let#[e,n,ne,nf,d]:=I.pin p hp;exact#[(hs.2 p.1 ne).trans e,n,ne,nf,d]
 ·have O_:X.fn x=true:=by
   rcases hf with z|z
   ·exact z
   ·rw[z] at hk;cases hk
  let#[c,hc]:=I.ok.has x (.inl hk);let#[w',z]:=I.cell x c hc;apply wpAny_storeName_cell I.ok.kind hk hc z (λh' DP hs=>?_);let#[oc,GQ,OR]:=id z;apply h { s with heap:=h' } #[I.ok,I.os,I.bare,#[λb o e n hb hx=>?_,λb o e n hb hx=>?_,I.base.free,λb o e hx=>?_,I.base.jH,I.base.ig,I.base.jb],#[m,hn.sameBut hs (Ne.symm (wZ x c hc)),λj y v' e1 e2 e3=>?_],λy c' e=>?_,I.free,I.eS,λp hp=>?_,tracked #[oc,GQ,I.eS x c hc] hs,by simpa using I.len] #[c,hs,.inr hc]
  ·exact (hs.2 b (eV (kj (cQ e) (I.ok.Eo x c O_ hc)))).trans (I.base.keep b o e n hb hx)
  ·let#[sl,e1]:=I.base.slot b o e n hb hx;exact#[sl,(hs.2 b (eV (kj (cQ e) (I.ok.Eo x c O_ hc)))).trans e1]
  ·let#[o',e1]:=I.base.there b o e hx;exact#[o',(hs.2 b (eV (kj (cQ e) (I.ok.Eo x c O_ hc)))).trans e1]
  ·by_cases hj:j=i
   ·subst hj;rw[hi] at e1;cases e1;rw[List.getElem?_set_self G6] at e2;cases e2;exact#[u,r,.inr #[.inl hk,c,hc,DP]]
   ·rw[List.getElem?_set_ne (Ne.symm hj)] at e2;let#[u',r',q]:=hl j y v' e1 e2 e3;apply#[u',r',?_];rcases q with q|⟨k,c',e,z'⟩
    ·exact .inl q
    ·apply .inr #[k,c',e,z'.sameBut hs ?_];rintro rfl;exact hj (XB hN e1 (I.ok.inj _ _ _ e hc▸hi))
  ·by_cases Wr:c'=c
   ·subst Wr;exact#[_,DP]
   ·let#[w2,z2]:=I.cell y c' e;exact#[w2,z2.sameBut hs Wr]
  ·let#[e,n,ne,nf,d]:=I.pin p hp;apply#[(hs.2 p.1 ?_).trans e,n,ne,nf,d];intro q;rw[q,GQ] at e;have q':oc=p.2:=eK e;exact d w' (by rw[<- q'];exact OR)
theorem XG(I:Inv X pins σ H s)(hN:X.N.Nodup)(hi:X.N[i]? = some x)(hx:Loc X.env.scope x)(r:RelV v u)(h:∀s',Inv X pins (σ.set i (some v)) H s'->Q () s')(hf:X.fn x=true∨X.env.scope.names.lookup x=some .local:=by first|exact .inl Z|exact .inr Z|assumption):wpAny M A (storeName X.env x u) Q E s:=
 XZ I hN hi hx r (λs' I' _=>h s' I') hf
theorem Inv.Ir{s':Ab}(I:Inv X pins σ H s)(ho:s'.os=s.os)(u:Un (rE X.stack) ch H H' s.heap s'.heap)(aN:gx X.prog X.w H' s'.heap)(hg:AllBare s'.gens)(wM:∀b∈ch,(b∈X.ex∨X.dA.heap.objs.size<=b)/\b≠X.env.locals/\(∀x c,X.env.cells.lookup x=some c->c≠b)/\∀p∈X.pn++pins,p.1≠b):Inv X pins σ H' s':=by
 let#[h',g',d',t',o']:=s';have e:o'=s.os:=ho;subst e;exact I.call (g':=g') (t':=t') (d':=d') u aN hg wM
abbrev XK:=Aa->Option Addr->Hp->Prop
abbrev St:=List aK
abbrev VK:=V->Hp->Prop
abbrev TE:=St->Hp->VK->Prop
abbrev TT:=St->Hp->(Bool->Hp->Prop)->Prop
abbrev TA:=St->Hp->(ai->Hp->Prop)->Prop
structure Ends where
 nx:St->Hp->Prop
 rt:VK
 bk:St->Hp->Prop:=λ_ _=>False
 ct:St->Hp->Prop:=λ_ _=>False
abbrev TS:=Ends->St->Hp->Prop
def EP(X:Cx)(pins:List (Addr × Obj))(σ:St)(Q:VK)(u:Aa)(s':Ab):Prop:=∃v H',Inv X pins σ H' s'/\RelV v u/\Q v H'
def TP(X:Cx)(pins:List (Addr × Obj))(σ:St)(Q:Bool->Hp->Prop)(b:Bool)(s':Ab):Prop:=∃H',Inv X pins σ H' s'/\Q b H'
def AP(X:Cx)(pins:List (Addr × Obj))(σ:St)(Q:ai->Hp->Prop)(us:ax)(s':Ab):Prop:=∃vs H',Inv X pins σ H' s'/\Vals vs us/\Q vs H'
def SP(X:Cx)(pins:List (Addr × Obj))(D:Ends)(f:Flow)(s':Ab):Prop:=
 match f with
 |.next=>∃bw H',Inv X pins bw H' s'/\D.nx bw H'
 |.brk=>∃bw H',Inv X pins bw H' s'/\D.bk bw H'
 |.cont=>∃bw H',Inv X pins bw H' s'/\D.ct bw H'
 |.ret u=>∃v bw H',Inv X pins bw H' s'/\RelV v u/\D.rt v H'
def PE(X:Cx)(e:Expr)(t:TE):Prop:=
 ∀(pins:List (Addr × Obj)) (s:Ab) (σ:St) (H:Hp) (Q:VK),Inv X pins σ H s->t σ H Q->wpAny (model X.prog X.w) X.A (eval e X.env) (EP X pins σ Q) X.xe s
def PT(X:Cx)(e:Expr)(t:TT):Prop:=
 ∀(pins:List (Addr × Obj)) (s:Ab) (σ:St) (H:Hp) (Q:Bool->Hp->Prop),Inv X pins σ H s->t σ H Q->wpAny (model X.prog X.w) X.A (isTrue e X.env (eval e X.env)) (TP X pins σ Q) X.xe s
def PW(X:Cx)(e:Expr)(t:TT):Prop:=
 ∀(whole:Sem Aa) (pins:List (Addr × Obj)) (s:Ab) (σ:St) (H:Hp) (Q:Bool->Hp->Prop),Inv X pins σ H s->t σ H Q->wpAny (model X.prog X.w) X.A (isTrue e X.env whole) (TP X pins σ Q) X.xe s
theorem PW.pt{e:Expr}{t:TT}(h:PW X e t):PT X e t:=h _
def PA(X:Cx)(es:List Expr)(t:TA):Prop:=
 ∀(pos:Pos) (pins:List (Addr × Obj)) (s:Ab) (σ:St) (H:Hp) (Q:ai->Hp->Prop),Inv X pins σ H s->t σ H Q->wpAny (model X.prog X.w) X.A (spliced (backTo pos (starEach es X.env))) (AP X pins σ Q) X.xe s
def PS(X:Cx)(st:Stmt)(t:TS):Prop:=
 ∀(pins:List (Addr × Obj)) (s:Ab) (σ:St) (H:Hp) (D:Ends),Inv X pins σ H s->t D σ H->wpAny (model X.prog X.w) X.A (exec st X.env) (SP X pins D) X.xe s
def mL(X:Cx)(st:List Stmt)(t:TS):Prop:=
 ∀(pins:List (Addr × Obj)) (s:Ab) (σ:St) (H:Hp) (D:Ends),Inv X pins σ H s->t D σ H->wpAny (model X.prog X.w) X.A (execs st X.env) (SP X pins D) X.xe s
theorem a_{α:Type}{t:Sem α}{Q Q':α->Ab->Prop}(h:wpAny M A t Q E s)(hQ:∀a s,Q a s->Q' a s):wpAny M A t Q' E s:=wpAny_mono h hQ λ_ _ x=>x
end L2
abbrev ck:=L2.St->L2.Hp->Prop
abbrev bL:=Nat->L2.St->L2.Hp->Prop
abbrev dY:=Nat->List L2.V->L2.Hp->Prop
namespace L2
open PySem PySem.Spec PyProof.Rows
variable{pos:Pos}
variable{σ:St}
variable{op:CmpOp}
variable{c:Expr}
section
variable{X:Cx}
inductive sW (i:Nat) (σ:St) (H:Hp) (Q:VK):Prop
 |mk:∀v,σ[i]? = some (some v)->Q v H->sW i σ H Q
def tC(v:V):TE:=λ_ H Q=>Q v H
theorem lY_{i:Nat}{x:Str}(hN:X.N[i]? = some x)(hv:Th X.env.scope x)(hd:(x == ("__debug__":Str))=false:=by decide)(iQ:(x == ("__classdict__":Str))=false:=by decide):PE X (.Name x pos) (sW i):=by
 intro pins s σ H Q I h;let#[v,e,h]:=h;let#[m,hn,hl]:=I.loc;let#[u,r,l]:=hl i x v hN e hv;have fin:EP X pins σ Q u s:=#[v,H,I,r,h];rcases l with⟨hk,hm⟩|⟨hk,c,hc,qj⟩
 ·exact wpAny_Name (wpAny_loadName_local I.ok.kind hk hn hm fin) hd
 ·rcases hk with hk|hk
  ·exact wpAny_Name (wpAny_loadName_cell I.ok.kind hk hc qj fin) hd
  ·exact wpAny_Name (wpAny_loadName_free I.ok.kind hk hc qj fin iQ) hd
theorem aE{i j pos}:PE X (.Constant (.int i) j pos) (tC (.int i)):=λ_ _ _ H _ I h=>wpAny_Constant_int #[.int i,H,I.tok _,#[_,Z],h]
theorem Cm{b j pos}:PE X (.Constant (.bool b) j pos) (tC (.bl b)):=λ_ _ _ H _ I h=>Constant_bool #[.bl b,H,I,Z,h]
theorem CK{j pos}:PE X (.Constant .none j pos) (tC .non):=λ_ _ _ H _ I h=>Constant_none #[.non,H,I,Z,h]
theorem cq{x j pos}:PE X (.Constant (.str x) j pos) (tC (.str x)):=λ_ _ _ H _ I h=>Calls.Constant_str #[.str x,H,I.tok _,#[_,Z],h]
def Gl(X:Cx)(x:Str):Prop:=X.env.kindOf x=some .globalImplicit
theorem LF{E:Aa->Ab->Prop}{pins:List (Addr × Obj)}{s:Ab}{H:Hp}{x:Str}{u:Aa}{Q:Aa->Ab->Prop}(I:Inv X pins σ H s)(hg:Gl X x)(hm:X.mg x=some u)(h:Q u s)(hd:(x == ("__debug__":Str))=false:=by decide):wpAny (model X.prog X.w) X.A (eval (.Name x pos) X.env) Q E s:=
 Calls.Name_function_global I.ok.kind hg (Calls.loadGlobal_global (by rw[I.ok.glob];exact I.mod.glob.keeps I.bk) hm h) hd
theorem Ej{E:Aa->Ab->Prop}{pins:List (Addr × Obj)}{s:Ab}{H:Hp}{x:Str}{u:Aa}{Q:Aa->Ab->Prop}(I:Inv X pins σ H s)(hg:Gl X x)(hm:X.mg x=none)(hv:bootBuiltins x=some u)(h:Q u s)(hn:x≠"__name__":=by decide)(hd:(x == ("__debug__":Str))=false:=by decide):wpAny (model X.prog X.w) X.A (eval (.Name x pos) X.env) Q E s:=by
 let#[mb,h1,h2]:=I.mod.blt;exact Calls.Name_function_global I.ok.kind hg (Calls.loadGlobal_builtin (by rw[I.ok.glob];exact I.mod.glob.keeps I.bk) hm (by rw[I.ok.blt];exact h1.keeps I.bk) ((h2 x hn).trans hv) h) hd
theorem CQ{x:Str}{v:V}{u:Aa}(hg:Gl X x)(hm:X.mg x=some u)(r:RelV v u)(hd:(x == ("__debug__":Str))=false:=by decide):PE X (.Name x pos) (tC v):=
 λ_ _ _ H _ I h=>LF I hg hm #[v,H,I,r,h] hd
theorem qx{x:Str}{v:V}{u:Aa}(hg:Gl X x)(hm:X.mg x=none)(hv:bootBuiltins x=some u)(r:RelV v u)(hn:x≠"__name__":=by decide)(hd:(x == ("__debug__":Str))=false:=by decide):PE X (.Name x pos) (tC v):=
 λ_ _ _ H _ I h=>Ej I hg hm hv #[v,H,I,r,h] hn hd
variable{a b:Expr}{ta tb:TE}{pos:Pos}
def PC(X:Cx)(op:CmpOp)(a b:Expr)(t:TE):Prop:=
 ∀(pins:List (Addr × Obj)) (s:Ab) (σ:St) (H:Hp) (Q:VK),Inv X pins σ H s->t σ H Q->
  wpAny (model X.prog X.w) X.A (eval a X.env) (λv bf=>wpAny (model X.prog X.w) X.A (eval b X.env) (λu kB=>wpAny (model X.prog X.w) X.A (compareOp op v u) (EP X pins σ Q) X.xe kB) X.xe bf) X.xe s
theorem kP(b:Expr)(h:op≠.In)(h2:op≠.NotIn):behindInMarks op b=false:=by
 have e1:(op == CmpOp.In)=false:=by cases op<;>first|rfl|exact absurd Z h
 have e2:(op == CmpOp.NotIn)=false:=by cases op<;>first|rfl|exact absurd Z h2
 cases b<;>simp[behindInMarks,e1,e2]
def MS(ta:TE):TE:=λσ H Q=>ta σ H λx H1=>Q (.bl (decide (x=.non))) H1
theorem RelV.uP{x:V}{v:Aa}(r:RelV x v):(v == Value.none)=decide (x=.non):=by
 cases x with
 |non=>cases r;rfl
 |bl _=>cases r;rfl
 |int _=>let#[t,rfl]:=r;rfl
 |str _=>let#[t,rfl]:=r;rfl
 |byt _=>let#[t,rfl]:=r;rfl
 |flt _=>let#[t,rfl]:=r;rfl
 |ref _=>cases r;rfl
 |ty _=>cases r;rfl
theorem Lh{j pos'}(ha:PE X a ta):PC X .Is a (.Constant .none j pos') (MS ta):=by
 intro pins s σ H Q I h;apply a_ (ha pins s σ H _ I h) λv s1 ⟨x,H1,I1,r1,q1⟩=>?_;exact Constant_none (is_none_gen #[.bl _,H1,I1,by rw[r1.uP];rfl,q1])
inductive TY (Q:Bool->Hp->Prop) (x:V) (H1:Hp):Prop
 |mk:∀c,x=.bl c->Q c H1->TY Q x H1
def tB(t:TE):TT:=λσ H Q=>t σ H λx H1=>TY Q x H1
theorem HS{t:TE}(h:PC X op a b t)(h1:behindInMarks op b=false:=by first|exact kP _ (by decide) (by decide)|rfl):PE X (.Compare a [op] [b] pos) t:=λpins s σ H Q I hw=>wpAny_Compare1 (h pins s σ H Q I hw) h1
theorem AJ{t:TE}(h:PC X op a b t)(h1:behindInMarks op b=false:=by first|exact kP _ (by decide) (by decide)|rfl):PT X (.Compare a [op] [b] pos) (tB t):=by
 intro pins s σ H Q I hw;apply wpAny_isTrue_Compare1 (a_ (h pins s σ H _ I hw) λv s1 h1=>a_ h1 λu s2 h2=>a_ h2 λc s3 ⟨x,H1,I1,r1,q1⟩=>?_) h1;let#[d,rfl,q]:=q1;cases r1;exact vH #[H1,I1,q]
theorem gg{e:Expr}{t:TE}(h:PE X e t)(he:∀whole,isTrue e X.env whole=(do let v <- whole;standAt e.pos;holding [v] (truthy v)):=by intro _;rfl):PT X e (tB t):=by
 intro pins s σ H Q I hw;apply isTrue_plain (a_ (h pins s σ H _ I hw) λv s1 ⟨x,H1,I1,r1,q1⟩=>?_) (he _);let#[d,rfl,q]:=q1;cases r1;exact vH #[H1,I1,q]
variable{tA Kl:TT}{rest:List Expr}
def MY(t u:TT):TT:=λσ H Q=>t σ H λc H1=>if c=true then u σ H1 Q else Q false H1
def _R(t u:TT):TT:=λσ H Q=>t σ H λc H1=>if c=true then Q true H1 else u σ H1 Q
def MP(t:TT):TT:=λσ H Q=>t σ H λc H1=>Q (!c) H1
theorem CZ(ha:PT X a tA):PW X (.BoolOp .And [a] pos) tA:=by
 intro wh pins s σ H Q I h;apply isTrue_and (a_ (ha pins s σ H Q I h) λc s1 e=>?_);cases c with
 |true=>exact isTrue_and_nil e
 |false=>exact e
theorem AH(ha:PT X a tA):PW X (.BoolOp .Or [a] pos) tA:=by
 intro wh pins s σ H Q I h;apply isTrue_or (a_ (ha pins s σ H Q I h) λc s1 e=>?_);cases c with
 |false=>exact isTrue_or_nil e
 |true=>exact e
theorem yQ(ha:PT X a tA)(hb:PW X (.BoolOp .And (b::rest) pos) Kl):PW X (.BoolOp .And (a::b::rest) pos) (MY tA Kl):=by
 intro wh pins s σ H Q I h;apply isTrue_and (a_ (ha pins s σ H _ I h) λc s1 ⟨H1,I1,q1⟩=>?_);cases c with
 |true=>exact hb wh pins s1 σ H1 Q I1 q1
 |false=>exact#[H1,I1,q1]
theorem Ax(ha:PT X a tA)(hb:PW X (.BoolOp .Or (b::rest) pos) Kl):PW X (.BoolOp .Or (a::b::rest) pos) (_R tA Kl):=by
 intro wh pins s σ H Q I h;apply isTrue_or (a_ (ha pins s σ H _ I h) λc s1 ⟨H1,I1,q1⟩=>?_);cases c with
 |true=>exact#[H1,I1,q1]
 |false=>exact hb wh pins s1 σ H1 Q I1 q1
theorem hY(ha:PT X a tA):PT X (.UnaryOp .Not a pos) (MP tA):=by
 intro pins s σ H Q I h;exact isTrue_not (ha pins s σ H (λc H1=>Q (!c) H1) I h)
inductive tE (tb:TE) (σ:St) (Q:VK) (x:V) (H1:Hp):Prop
 |mk:∀c,x=.bl c->(if c=true then tb σ H1 Q else Q (.bl false) H1)->tE tb σ Q x H1
def Fm(ta tb:TE):TE:=λσ H Q=>ta σ H λx H1=>tE tb σ Q x H1
inductive zv (tb:TE) (σ:St) (Q:VK) (x:V) (H1:Hp):Prop
 |mk:∀c,x=.bl c->(if c=true then Q (.bl true) H1 else tb σ H1 Q)->zv tb σ Q x H1
def MO(ta tb:TE):TE:=λσ H Q=>ta σ H λx H1=>zv tb σ Q x H1
inductive s_ (Q:VK) (x:V) (H1:Hp):Prop
 |mk:∀c,x=.bl c->Q (.bl (!c)) H1->s_ Q x H1
def Fe(ta:TE):TE:=λσ H Q=>ta σ H λx H1=>s_ Q x H1
theorem oU{op}{t:TE}(h:PE X a t):PE X (.BoolOp op [a] pos) t:=λpins s σ H Q I hw=>BoolOp_one (h pins s σ H Q I hw)
theorem sJ(ha:PE X a ta)(hb:PE X (.BoolOp .And (b::rest) pos) tb):PE X (.BoolOp .And (a::b::rest) pos) (Fm ta tb):=by
 intro pins s σ H Q I h;apply BoolOp_and (a_ (ha pins s σ H _ I h) λv s1 ⟨x,H1,I1,r1,q1⟩=>?_);let#[c,rfl,q1]:=q1;cases r1;apply vH ?_;cases c with
 |true=>exact hb pins s1 σ H1 Q I1 q1
 |false=>exact#[.bl false,H1,I1,Z,q1]
theorem DW(ha:PE X a ta)(hb:PE X (.BoolOp .Or (b::rest) pos) tb):PE X (.BoolOp .Or (a::b::rest) pos) (MO ta tb):=by
 intro pins s σ H Q I h;apply BoolOp_or (a_ (ha pins s σ H _ I h) λv s1 ⟨x,H1,I1,r1,q1⟩=>?_);let#[c,rfl,q1]:=q1;cases r1;apply vH ?_;cases c with
 |false=>exact hb pins s1 σ H1 Q I1 q1
 |true=>exact#[.bl true,H1,I1,Z,q1]
theorem U6(ha:PE X a ta):PE X (.UnaryOp .Not a pos) (Fe ta):=by
 intro pins s σ H Q I h;apply UnaryOp_ (a_ (ha pins s σ H _ I h) λv s1 ⟨x,H1,I1,r1,q1⟩=>?_);let#[c,rfl,q1]:=q1;cases r1;exact not_of (vH #[.bl (!c),H1,I1,Z,q1])
def _S(t:TT)(ta tb:TE):TE:=λσ H Q=>t σ H λc H1=>if c=true then ta σ H1 Q else tb σ H1 Q
theorem RD(hc:PT X c tA)(ha:PE X a ta)(hb:PE X b tb):PE X (.IfExp c a b pos) (_S tA ta tb):=by
 intro pins s σ H Q I h;apply wpAny_IfExp (a_ (hc pins s σ H _ I h) λd s1 ⟨H1,I1,q1⟩=>?_);cases d with
 |true=>exact ha pins s1 σ H1 Q I1 q1
 |false=>exact hb pins s1 σ H1 Q I1 q1
end
def eG(K:af)(H:Hp)(a:Addr)(xs:ai):Prop:=
 Rd H a (.lst xs) ∨
  ∃(o:Obj) (its:Array Aa) (n:Nat),K.lookup a=some o/\o.cls=.type "list"/\o.dict=none/\o.data=.seq its n/\its.size<=sizeLine/\Vals xs its.toList
def iZ(K:af)(H:Hp)(a:Addr)(xs:ai):Prop:=
 Rd H a (.tup xs) ∨
  ∃(o:Obj) (its:Array Aa) (n:Nat),K.lookup a=some o/\o.cls=.type "tuple"/\o.data=.seq its n/\its.size<=sizeLine/\Vals xs its.toList
def Tf:Aa->aK
 |.none=>some .non
 |.bool b=>some (.bl b)
 |.int i _=>some (.int i)
 |.str x _=>some (.str x)
 |.bytes b _=>some (.byt b)
 |.float b _=>some (.flt b)
 |.ref a=>some (.ref a)
 |.type n=>some (.ty n)
 |_=>none
theorem RelV.abs{x:V}{u:Aa}(r:RelV x u):Tf u=some x:=by
 cases x with
 |non=>cases r;rfl
 |bl _=>cases r;rfl
 |int _=>let#[t,rfl]:=r;rfl
 |str _=>let#[t,rfl]:=r;rfl
 |byt _=>let#[t,rfl]:=r;rfl
 |flt _=>let#[t,rfl]:=r;rfl
 |ref _=>cases r;rfl
 |ty _=>cases r;rfl
theorem RelV.inj{x y:V}{u:Aa}(r:RelV x u)(q:RelV y u):x=y:=eK (r.abs.symm.trans q.abs)
theorem Vals.inj:∀{xs ys:ai} {us:ax},Vals xs us->Vals ys us->xs=ys
 |_,_,_,.nil,.nil=>rfl
 |_,_,_,.cons r t,.cons r' t'=>by rw[r.inj r',Vals.inj t t']
section
variable{X:Cx}{pins:List (Addr × Obj)}{σ:St}{H:Hp}{s:Ab}{a:Addr}{xs ys:ai}
theorem eG.of{K:af}(h:H a=some (.lst xs)):eG K H a xs:=.inl (.inl h)
theorem iZ.of{K:af}(h:H a=some (.tup xs)):iZ K H a xs:=.inl (.inl h)
theorem Inv.list(I:Inv X pins σ H s)(h:eG X.K H a xs):∃its:ax,Vals xs its/\PlainL s.heap a its.toArray/\xs.length<=sizeLine:=by
 rcases h with h|⟨o,its,n,hk,hc,hd,hs,hz,r⟩
 ·let#[z,its,n,r,e]:=h.ok I.aN;exact#[its,r,#[_,n,e,Z,Z,Z],z]
 ·apply#[its.toList,r,#[o,n,I.gK a o hk,hc,hd,by simpa using hs],?_];let e:=r.length;simp only[sN] at e;omega
theorem Inv.tuple(I:Inv X pins σ H s)(h:iZ X.K H a xs):∃its:ax,Vals xs its/\IsTup s.heap a its.toArray/\xs.length<=sizeLine:=by
 rcases h with h|⟨o,its,n,hk,hc,hs,hz,r⟩
 ·let#[z,its,r,p,_]:=h.ok I.aN;exact#[its,r,p,z]
 ·apply#[its.toList,r,#[o,I.gK a o hk,hc,n,by simpa using hs],?_];let e:=r.length;simp only[sN] at e;omega
theorem Inv.kW(I:Inv X pins σ H s)(h:eG X.K H a xs)(h':eG X.K H a ys):xs=ys:=by
 let#[its,r,#[o,n,e,_,_,d],_]:=I.list h;let#[its',r',#[o',n',e',_,_,d'],_]:=I.list h';rw[e] at e';cases e';rw[d] at d'
 injection d' with d1 _
 have:its=its':=by simpa using d8 Array.toList d1
 subst this;exact r.inj r'
theorem Inv.ju(I:Inv X pins σ H s)(h:iZ X.K H a xs)(h':iZ X.K H a ys):xs=ys:=by
 let#[its,r,#[o,e,_,n,d],_]:=I.tuple h;let#[its',r',#[o',e',_,n',d'],_]:=I.tuple h';rw[e] at e';cases e';rw[d] at d'
 injection d' with d1 _
 have:its=its':=by simpa using d8 Array.toList d1
 subst this;exact r.inj r'
end
abbrev Cx.i_(X:Cx)(E:Aa->Ab->Prop):Cx:={ X with xe:=E }
abbrev Cx.BC(X:Cx):Cx:=X.i_ λ_ _=>False
theorem Cx.Ok.i_{X:Cx}(ok:X.Ok)(E:Aa->Ab->Prop):(X.i_ E).Ok:=
 #[ok.mod,ok.kind,ok.glob,ok.blt,ok.above,ok.inj,ok.has,ok.Eo,ok.hd,ok.frames,ok.Kn,ok.Li,ok.bs,ok.vK,ok.uR,ok.vx,ok.gC,ok.yF]
theorem Cx.Ok.eZ{X:Cx}{E:Aa->Ab->Prop}(ok:(X.i_ E).Ok):X.Ok:=
 #[ok.mod,ok.kind,ok.glob,ok.blt,ok.above,ok.inj,ok.has,ok.Eo,ok.hd,ok.frames,ok.Kn,ok.Li,ok.bs,ok.vK,ok.uR,ok.vx,ok.gC,ok.yF]
section
variable{X:Cx}{pins:List (Addr × Obj)}{σ:St}{H:Hp}{s:Ab}{E:Aa->Ab->Prop}
theorem Inv.i_(I:Inv X pins σ H s)(E:Aa->Ab->Prop):Inv (X.i_ E) pins σ H s:=#[I.ok.i_ E,I.os,I.bare,I.base,I.loc,I.cell,I.free,I.eS,I.pin,I.aN,I.len]
theorem Inv.eZ(I:Inv (X.i_ E) pins σ H s):Inv X pins σ H s:=#[I.ok.eZ,I.os,I.bare,I.base,I.loc,I.cell,I.free,I.eS,I.pin,I.aN,I.len]
theorem SP.eZ{D:Ends}{f:Flow}{s':Ab}(h:SP (X.i_ E) pins D f s'):SP X pins D f s':=by
 cases f with
 |next=>let#[bw,H',I,q]:=h;exact#[bw,H',I.eZ,q]
 |brk=>let#[bw,H',I,q]:=h;exact#[bw,H',I.eZ,q]
 |cont=>let#[bw,H',I,q]:=h;exact#[bw,H',I.eZ,q]
 |ret u=>let#[v,bw,H',I,r,q]:=h;exact#[v,bw,H',I.eZ,r,q]
theorem mL.BC{st:List Stmt}{t:TS}(h:mL X.BC st t):mL X st t:=λpins s σ H D I hw=>
 wpAny_mono (h pins s σ H D (I.i_ _) hw) (λ_ _ q=>q.eZ) λ_ _ z=>False.elim z
end
section
variable{X:Cx}{st:Stmt}{rest:List Stmt}{t u:TS}{e:Expr}{te:TE}{pos:Pos}
def Ff:TS:=λD σ H=>D.nx σ H
def mP(t u:TS):TS:=λD σ H=>t { D with nx:=u D } σ H
theorem bR:mL X [] Ff:=λ_ _ σ H _ I h=>wpAny_execs_nil #[σ,H,I,h]
theorem ak(h1:PS X st t)(h2:mL X rest u):mL X (st::rest) (mP t u):=by
 intro pins s σ H D I h;apply wpAny_execs_cons (a_ (h1 pins s σ H { D with nx:=u D } I h) λf s1 q=>?_);cases f with
 |next=>
  let#[bw,H',I',q]:=q;exact h2 pins s1 bw H' D I' q
 |ret v=>exact q
 |brk=>exact q
 |cont=>exact q
theorem aF(h1:PS X st t):mL X [st] t:=by
 intro pins s σ H D I h;apply wpAny_execs_cons (a_ (h1 pins s σ H D I h) λf s1 q=>?_);cases f with
 |next=>exact wpAny_execs_nil q
 |ret v=>exact q
 |brk=>exact q
 |cont=>exact q
theorem Inv.quiet{pins:List (Addr × Obj)}{H:Hp}{s:Ab}(I:Inv X pins σ H s):interactive X.env=false:=by simp[interactive,I.ok.kind]
def Fi(te:TE):TS:=λD σ H=>te σ H λ_ H1=>D.nx σ H1
theorem hZ(he:PE X e te)(hs:swapsWith e none pos.line X.env=pure false:=by rfl):PS X (.Expr e pos) (Fi te):=by
 intro pins s σ H D I h;exact wpAny_Expr_any (a_ (he pins s σ H _ I h) λv s1 ⟨x,H1,I1,r1,q1⟩=>#[σ,H1,I1,q1]) I.quiet hs
def MN(te:TE):TS:=λD σ H=>te σ H D.rt
theorem bh(he:PE X e te):PS X (.Return (some e) pos) (MN te):=by
 intro pins s σ H D I h;exact wpAny_Return_some (a_ (he pins s σ H _ I h) λv s1 ⟨x,H1,I1,r1,q1⟩=>#[x,σ,H1,I1,r1,q1])
def MT(c:TT)(t u:TS):TS:=λD σ H=>c σ H λb H1=>if b=true then t D σ H1 else u D σ H1
theorem bQ{a b:List Stmt}{tc:TT}(hc:PT X c tc)(ha:mL X a t)(hb:mL X b u):PS X (.If c a b pos) (MT tc t u):=by
 intro pins s σ H D I h;apply wpAny_If (a_ (hc pins s σ H _ I h) λd s1 ⟨H1,I1,q1⟩=>?_);cases d with
 |true=>exact ha pins s1 σ H1 D I1 q1
 |false=>exact hb pins s1 σ H1 D I1 q1
def tj:TS:=λ_ _ _=>False
theorem jS_:PS X st tj:=λ_ _ _ _ _ _ h=>h.elim
theorem fF{_U:List Stmt}:mL X _U tj:=λ_ _ _ _ _ _ h=>h.elim
end
abbrev TG:=V->St->Hp->(St->Hp->Prop)->Prop
abbrev Dn:=ai->St->Hp->(St->Hp->Prop)->Prop
def PG(X:Cx)(target:Expr)(t:TG):Prop:=
 ∀(pins:List (Addr × Obj)) (s:Ab) (σ:St) (H:Hp) (v:V) (u:Aa) (Q:ck),Inv X pins σ H s->RelV v u->t v σ H Q->
  wpAny (model X.prog X.w) X.A (assign target X.env u) (λ_ s'=>∃bw H',Inv X pins bw H' s'/\Q bw H') X.xe s
def Ka(X:Cx)(ts:List Expr)(t:Dn):Prop:=
 ∀(pins:List (Addr × Obj)) (s:Ab) (σ:St) (H:Hp) (vs:ai) (us:ax) (Q:ck),Inv X pins σ H s->Vals vs us->t vs σ H Q->
  wpAny (model X.prog X.w) X.A (assignInOrder ((assignEach ts X.env).map (·.2)) us) (λ_ s'=>∃bw H',Inv X pins bw H' s'/\Q bw H') X.xe s
abbrev Dm:=V->V->V->Hp->(Hp->Prop)->Prop
def J_(X:Cx)(t:Dm):Prop:=
 ∀(pins:List (Addr × Obj)) (s:Ab) (σ:St) (H:Hp) (o i v:V) (ov iv u:Aa) (Q:Hp->Prop),Inv X pins σ H s->RelV o ov->RelV i iv->RelV v u->t o i v H Q->
  wpAny (model X.prog X.w) X.A (setItem ov iv u) (λ_ s'=>∃H',Inv X pins σ H' s'/\Q H') X.xe s
variable{es:List Expr}
variable{k n:Nat}
variable{tg:Expr}{te:TE}
variable{pos':Pos}
section
variable{X:Cx}{pos:Pos}
def mz(i:Nat):TG:=λv σ H Q=>Q (σ.set i (some v)) H
theorem fw{i:Nat}{x:Str}(hN:X.N.Nodup)(hi:X.N[i]? = some x)(hx:Loc X.env.scope x)(hf:X.fn x=true∨X.env.scope.names.lookup x=some .local:=by first|exact .inl Z|exact .inr Z|assumption):PG X (.Name x pos) (mz i):=by
 intro pins s σ H v u Q I r h;exact wpAny_assign_Name (XG I hN hi hx r (λs' I'=>#[_,H,I',h]) hf)
theorem oY:type_of% PyProof.Rows.Boot.«isinstance»:=PyProof.Rows.Boot.«isinstance»
theorem CL:type_of% PyProof.Rows.Boot.«int»:=PyProof.Rows.Boot.«int»
theorem HN:type_of% PyProof.Rows.Boot.«str»:=PyProof.Rows.Boot.«str»
theorem Rf:type_of% PyProof.Rows.Boot.«tuple»:=PyProof.Rows.Boot.«tuple»
theorem CT:type_of% PyProof.Rows.Boot.«list»:=PyProof.Rows.Boot.«list»
theorem yU:type_of% PyProof.Rows.Boot.«sorted»:=PyProof.Rows.Boot.«sorted»
theorem oV:type_of% PyProof.Rows.Boot.«dict»:=PyProof.Rows.Boot.«dict»
theorem Eh:type_of% PyProof.Rows.Boot.«max»:=PyProof.Rows.Boot.«max»
theorem Ul(i:Nat){x:Str}(hN:X.N.Nodup:=by first|(show ([_]:List Str).Nodup;decide +kernel)|(show ([_,_]:List Str).Nodup;decide +kernel)|(show ([_,_,_]:List Str).Nodup;decide +kernel)|(show ([_,_,_,_]:List Str).Nodup;decide +kernel))(hi:X.N[i]? = some x:=by rfl)(hx:Loc X.env.scope x:=by first|exact Or.inl Z|exact Or.inr Z)(hf:X.fn x=true∨X.env.scope.names.lookup x=some .local:=by first|exact .inl Z|exact .inr Z|assumption):PG X (.Name x pos) (mz i):=fw hN hi hx hf
theorem bU(i:Nat){x:Str}(hN:X.N.Nodup)(hi:X.N[i]? = some x:=by rfl)(hx:Loc X.env.scope x:=by first|exact Or.inl Z|exact Or.inr Z)(hf:X.fn x=true∨X.env.scope.names.lookup x=some .local:=by first|exact .inl Z|exact .inr Z|assumption):PG X (.Name x pos) (mz i):=fw hN hi hx hf
def yE:Dn:=λvs σ H Q=>vs=[]/\Q σ H
inductive wW (t:TG) (u:Dn) (vs:ai) (σ:St) (H:Hp) (Q:ck):Prop
 |mk:∀v r,vs=v::r->(t v σ H λbw H'=>u r bw H' Q)->wW t u vs σ H Q
theorem iF:Ka X [] yE:=by
 intro pins s σ H vs us Q I r h;let#[e,h]:=h;subst e;cases r;exact assignInOrder_nil ⟨σ,H,I,h⟩
theorem di{e:Expr}{t:TG}{u:Dn}(h1:PG X e t)(h2:Ka X es u)(hs:(assignEach (e::es) X.env).map (·.2)=assign e X.env::(assignEach es X.env).map (·.2):=by rfl):Ka X (e::es) (wW t u):=by
 intro pins s σ H vs us Q I r h;let#[v,vr,e1,h]:=h;subst e1;cases r with
 |cons r rr=>
  rw[hs];apply assignInOrder_cons (a_ (h1 pins s σ H _ _ _ I r h) λ_ s1 ⟨pb,H1,I1,q1⟩=>?_);exact h2 pins s1 pb H1 _ _ Q I1 rr q1
inductive jS (K:af) (n:Nat) (t:Dn) (v:V) (σ:St) (H:Hp) (Q:ck):Prop
 |mk:∀a xs,v=.ref a->iZ K H a xs->xs.length=n->t xs σ H Q->jS K n t v σ H Q
theorem jm{t:Dn}(hc:X.calm=true)(h:Ka X es t)(hn:(assignEach es X.env).length=n:=by rfl)(BN:(assignEach es X.env).findIdx? (·.1)=none:=by rfl):PG X (.Tuple es k pos) (jS X.K n t):=by
 intro pins s σ H v u Q I r hw;let#[a,xs,e1,hq,hl,hw]:=hw;subst e1;cases r;let#[its,rv,ht,hz]:=I.tuple hq;apply assign_Tuple_tuple (I.ok.hd hc) ht (by simp[hn,<- hl,rv.length]) BN λh' hx=>?_;have I1:Inv X pins σ H { s with heap:=h' }:=I.kept (t':=s.toks) λb o e=>hx b o (eV (cQ e)) e;exact h pins _ σ H xs _ Q I1 (by simpa using rv) hw
def PQ(to ti:TE)(t:Dm):TG:=λv σ H Q=>to σ H λo H1=>ti σ H1 λi H2=>t o i v H2 λH3=>Q σ H3
theorem Vm{o i:Expr}{to ti:TE}{t:Dm}(ho:PE X o to)(hi:PE X i ti)(hs:J_ X t)
  (ha:∀v,assign (.Subscript o i pos) X.env v=(do
   let ov <- holding [v] (eval o X.env)
   let iv <- holding [v,ov] (eval i X.env)
   standAt pos
   holding [v,ov,iv] (setItem ov iv v)
   release [v,ov,iv] []):=by intro _;rfl):PG X (.Subscript o i pos) (PQ to ti t):=by
 intro pins s σ H v u Q I r h;rw[ha];apply aO (wpAny_holding (a_ (ho pins s σ H _ I h) λov s1 ⟨x,H1,I1,r1,q1⟩=>?_));apply aO (wpAny_holding (a_ (hi pins s1 σ H1 _ I1 q1) λiv s2 ⟨y,H2,I2,r2,q2⟩=>?_));apply aO (wpAny_standAt (aO (wpAny_holding (a_ (hs pins s2 σ H2 x y v ov iv u _ I2 r1 r2 r q2) λ_ s3 ⟨H3,I3,q3⟩=>?_))));exact wpAny_release #[σ,H3,I3,q3]
def A7(te:TE)(g:TG):TS:=λD σ H=>te σ H λx H1=>g x σ H1 D.nx
theorem CB{e:Expr}{g:TG}(he:PE X e te)(hg:PG X tg g)(hs:swapsWithSole [tg] e pos.line X.env=pure false:=by rfl)(hw:swappedStores [tg] e X.env=pure none:=by rfl)(h1:(assignEach [tg] X.env).map (·.2)=[assign tg X.env]:=by rfl):PS X (.Assign [tg] e pos) (A7 te g):=by
 intro pins s σ H D I h;apply wpAny_Assign_stores (a_ (he pins s σ H _ I h) λv s1 ⟨x,H1,I1,r1,q1⟩=>?_) hs hw;rw[h1];exact a_ (hg pins s1 σ H1 x v _ I1 r1 q1) λ_ s2 q=>q
theorem Vh{i:Nat}{x:Str}{e:Expr}(hN:X.N.Nodup)(hi:X.N[i]? = some x)(hx:Loc X.env.scope x)(he:PE X e te)(hs:swapsWith e (some (.Name x pos')) pos.line X.env=pure false:=by rfl)(hf:X.fn x=true∨X.env.scope.names.lookup x=some .local:=by first|exact .inl Z|exact .inr Z|assumption) :
  PS X (.Assign [.Name x pos'] e pos) (A7 te (mz i)):=by
 intro pins s σ H D I h;apply wpAny_Assign_Name (a_ (he pins s σ H _ I h) λv s1 ⟨y,H1,I1,r1,q1⟩=>?_) hs;exact XG I1 hN hi hx r1 (λs2 I2=>#[_,H1,I2,q1]) hf
theorem aQ(i:Nat){x:Str}{e:Expr}(hN:X.N.Nodup)(he:PE X e te)(hi:X.N[i]? = some x:=by rfl)(hx:Loc X.env.scope x:=by first|exact Or.inl Z|exact Or.inr Z)(hs:swapsWith e (some (.Name x pos')) pos.line X.env=pure false:=by rfl)(hf:X.fn x=true∨X.env.scope.names.lookup x=some .local:=by first|exact .inl Z|exact .inr Z|assumption):PS X (.Assign [.Name x pos'] e pos) (A7 te (mz i)):=Vh hN hi hx he hs hf
end
variable{body:List Stmt}{tb:TS}
section
variable{X:Cx}{pos:Pos}
def sU(c:TT)(tb:TS):TS:=λD σ H=>∃W:Nat->St->Hp->Prop,(∃m,W m σ H)/\∀m σ H,W m σ H->
 c σ H λb H1=>if b=true then ∃N:St->Hp->Prop,(∀bw H',N bw H'->∃m',m'<m/\W m' bw H')/\tb { D with nx:=N,ct:=N,bk:=D.nx } σ H1 else D.nx σ H1
theorem L6{tc:TT}(hp:PassesOwn (model X.prog X.w) X.A X.env X.xe)(hc:PT X c tc)(hb:mL X body tb):PS X (.While c body [] pos) (sU tc tb):=by
 intro pins s σ H D I h;let#[W,#[m0,w0],turn]:=h;apply wpAny_While (codeAny_whileLoop (λn s'=>∃bw H',Inv X pins bw H' s'/\W n bw H') ?_ m0 #[σ,H,I,w0]);rintro n s1 ⟨pb,H1,I1,w1⟩;apply wpAny_passesOwn hp (a_ (hc pins s1 pb H1 _ I1 (turn n pb H1 w1)) λb s2 ⟨H2,I2,q2⟩=>?_);cases b with
 |true=>
  let#[N,hN,q2]:=q2;rw[aA Z];apply wpAny_passesOwn hp (a_ (hb pins s2 pb H2 _ I2 q2) λf s3 q3=>?_);cases f with
  |next=>
   let#[lZ,H3,I3,n3]:=q3;let#[m',hm,w3]:=hN lZ H3 n3;exact#[m',hm,lZ,H3,I3,w3]
  |cont=>
   let#[lZ,H3,I3,n3]:=q3;let#[m',hm,w3]:=hN lZ H3 n3;exact#[m',hm,lZ,H3,I3,w3]
  |brk=>exact q3
  |ret v=>exact q3
 |false=>
  rw[aq hE];exact wpAny_execs_nil #[pb,H2,I2,q2]
end
structure It where
 go:Nat->Hp->Prop
 xF:Nat->Hp->V->Hp->Prop
 stop:Nat->Hp->Prop
def dH(X:Cx)(pins:List (Addr × Obj))(H:Hp)(b:Addr):Prop:=
 H b=none/\b≠X.env.locals/\b∉X.fs/\(b∈X.ex∨X.dA.heap.objs.size<=b)/\(∀x c,X.env.cells.lookup x=some c->c≠b)/\∀p∈X.pn++pins,p.1≠b
variable{b:Addr}
theorem Inv.jT{X:Cx}{pins:List (Addr × Obj)}{H H':Hp}{s:Ab}(I:Inv X pins σ H s)(hb:s.heap.objs.size<=b)(hn:H' b=none):dH X pins H' b:=by
 apply#[hn,xm (kj I.lt hb),I.NH hb,.inr (qC I.sz hb),λx c e z=>?_,λp hp z=>?_]
 ·let#[v,q]:=I.cell x c e;exact absurd (kj q.lt (by rw[z];exact hb)) (vM _)
 ·exact absurd (kj (cQ (I.pin p hp).1) (by rw[z];exact hb)) (vM _)
structure Turn (P:Ae) (w:Af) (K:af) (tg:Expr) (J:It) (fp:ay) (it:Addr) (tn:Nat->Heap->Prop):Prop where
 mem:it∈fp
 obj:∀i h,tn i h->∀b∈fp,∃o,h.get? b=some o/\∀v,o.data≠.cell v
 keep:∀i h h',tn i h->(∀b∈fp,∀o,h.get? b=some o->h'.get? b=some o)->tn i h'
 item:∀(X:Cx),X.prog=P->X.w=w->X.K=K->X.calm=true->∀(i:Nat) (pins:List (Addr × Obj)) (s:Ab) (σ:St) (H:Hp) (E:Aa->Ab->Prop),Inv X pins σ H s->(∀b∈fp,dH X pins H b)->tn i s.heap->J.go i H->
  wpAny (model P w) X.A (pyNext (.ref it)) (λr s1=>∃u,r=some u /\
   wpAny (model P w) X.A (letOwnedTupleGo tg (.ref it) u) (λ_ s2=>∃x H',Inv X pins σ H' s2/\RelV x u/\J.xF i H x H'/\tn (i+1) s2.heap/\∀b∈fp,H' b=none) E s1) E s
 done:∀(X:Cx),X.prog=P->X.w=w->X.K=K->X.calm=true->∀(i:Nat) (pins:List (Addr × Obj)) (s:Ab) (σ:St) (H:Hp) (E:Aa->Ab->Prop),Inv X pins σ H s->(∀b∈fp,dH X pins H b)->tn i s.heap->J.stop i H->
  wpAny (model P w) X.A (pyNext (.ref it)) (λr s1=>r=none/\Inv X pins σ H s1) E s
 self:∀(A:Ag) (i:Nat) (s:Ab) (Q:Aa->Ab->Prop) (E:Aa->Ab->Prop),tn i s.heap->Q (.ref it) s->wpAny (model P w) A (pyIter (.ref it)) Q E s
abbrev TI:=St->Hp->(It->Hp->Prop)->Prop
def ZH(X:Cx)(pins:List (Addr × Obj))(σ:St)(tg:Expr)(R:It->Hp->Prop)(KP:Aa)(s2:Ab):Prop:=
 ∃(it:Addr) (fp:ay) (tn:Nat->Heap->Prop) (J:It) (H':Hp),KP=.ref it/\Inv X pins σ H' s2/\Turn X.prog X.w X.K tg J fp it tn/\tn 0 s2.heap/\(∀b∈fp,dH X pins H' b)/\R J H'
def PI(X:Cx)(tg iter:Expr)(wi:TI):Prop:=
 ∀(pins:List (Addr × Obj)) (s:Ab) (σ:St) (H:Hp) (R:It->Hp->Prop),Inv X pins σ H s->wi σ H R->
  wpAny (model X.prog X.w) X.A (eval iter X.env) (λv s1=>wpAny (model X.prog X.w) X.A (pyIter v) (ZH X pins σ tg R) X.xe s1) X.xe s
variable{u:Aa}{o:Obj}
theorem DT{M:Model}{A:Ag}{E:Aa->Ab->Prop}{s:Ab}{it:Addr}{n:String}{vs:Array Aa}{Q:Unit->Ab->Prop}(ho:s.heap.get? it=some o)(hc:o.cls=.type n)(hd:o.data=.fields vs)(hn:["enumerate","zip","dict_itemiterator","dict_reverseitemiterator","odict_iterator","itertools.zip_longest","itertools.pairwise"].contains n=false)(hQ:Q () s):wpAny M A (letOwnedTupleGo tg (.ref it) u) Q E s:=by
 unfold letOwnedTupleGo
 cases tg<;>first
  |exact bV hQ
  |(cases u<;>first
    |exact bV hQ
    |(apply aO (wpAny_load ho ?_)
      rw[hc,hd];show wpAny M A (if (["enumerate","zip","dict_itemiterator","dict_reverseitemiterator","odict_iterator","itertools.zip_longest","itertools.pairwise"].contains n&&vs[0]? == some (rawInt _))=true then _ else _) Q E s;rw[aq (by intro h;rw[hn,rP] at h;cases h)];exact bV hQ))
def AX(K:af)(a:Addr):It:=
 ⟨λi H=>∃xs x,eG K H a xs/\xs[i]? = some x,λi H x H'=>H'=H/\∀xs,eG K H a xs->xs[i]? = some x,λi H=>∃xs,eG K H a xs/\xs.length<=i⟩
def EV(lo:Int)(n:Nat):It:=⟨λi _=>i<n,λi H x H'=>H'=H/\x=.int (lo+i),λi _=>n<=i⟩
variable{P:Ae}{w:Af}
theorem ib_{K:af}(a it:Addr):Turn P w K tg (AX K a) [it] it (λi h=>h.IsListIter it a i) where
 mem:=by simp
 obj:=λi h st b hb=>by
  have e:b=it:=by simpa using hb
  subst e;let#[o,e,c,d]:=st;exact#[o,e,λv z=>by rw[d] at z;cases z]
 keep:=λi h h' st k=>st.at λo e=>k it Z2 o e
 item:=by
  intro X hP hw hK hc i pins s σ H E I hf st hg;subst hP hw hK;let#[xs,x,hq,hx]:=hg;let#[its,rv,p,hz]:=I.list hq;let#[u,hu,ru]:=rv.get hx;let#[f0,f1,f2,f3,f4,f5]:=hf it Z2;apply wpAny_pyNext_list_item st p.isList (x:=u) (by simpa using hu) λh' fJ sb=>?_;have I1:Inv X pins σ H { s with heap:=h' }:=I.turned (t':=s.toks) (λb o hb e=>(sb.2 b hb).trans e) f0 f1 f3 f4 f5;let#[o,e,c,d]:=id fJ;exact#[u,Z,DT (s:={ s with heap:=h' }) e c d (by decide) #[x,H,I1,ru,#[Z,λys hy=>by rw[I.kW hy hq];exact hx],fJ,λb hb=>(hf b hb).1]]
 done:=by
  intro X hP hw hK hc i pins s σ H E I hf st hg;subst hP hw hK;let#[xs,hq,hx]:=hg;let#[its,rv,p,hz]:=I.list hq;let#[f0,f1,f2,f3,f4,f5]:=hf it Z2;let hl:=rv.length;exact wpAny_pyNext_list_end (I.ok.hd hc) st p.isList (by simp;omega) λh' eb=>#[Z,I.turned (t':=s.toks) (λb o hb e=>eb b o hb e) f0 f1 f3 f4 f5]
 self:=λ_ _ _ _ _ st h=>wpAny_pyIter_listiter st h
theorem gI_{K:af}(it:Addr)(lo:Int)(n:Nat):Turn P w K tg (EV lo n) [it] it (λi h=>IsRangeIter h it (lo+(i:Nat) * 1) ((n:Int) - (i:Nat)) 1) where
 mem:=by simp
 obj:=λi h st b hb=>by
  have e:b=it:=by simpa using hb
  subst e
  exact#[_,st,λv z=>by
   have z':Data.fields _=Data.cell v:=z;cases z']
 keep:=λi h h' st k=>k it Z2 _ st
 item:=by
  intro X hP hw hK hc i pins s σ H E I hf st hg;subst hP hw hK;let#[f0,f1,f2,f3,f4,f5]:=hf it Z2;let W:=Walks.range (prog:=X.prog) (w:=X.w) (I.ok.hd hc) it lo 1 n;apply W.item i s _ _ hg st λv h' tk hv fJ kk=>?_;let#[t,rfl]:=hv;have I1:Inv X pins σ H { s with heap:=h',toks:=tk }:=I.turned (λb o hb e=>kk b o (by simpa using hb) e) f0 f1 f3 f4 f5;apply#[_,Z,DT (s:={ s with heap:=h',toks:=tk }) (n:="range_iterator") fJ Z Z (by decide) #[.int (lo+i),H,I1,#[t,?_],#[Z,Z],fJ,λb hb=>(hf b hb).1]];rw[Int.mul_one]
 done:=by
  intro X hP hw hK hc i pins s σ H E I hf st hg;subst hP hw hK;let#[f0,f1,f2,f3,f4,f5]:=hf it Z2;exact wpAny_pyNext_range_end (I.ok.hd hc) st (by have:n<=i:=hg;omega) λh' eb=>#[Z,I.turned (t':=s.toks) (λb o hb e=>eb b o hb e) f0 f1 f3 f4 f5]
 self:=λ_ _ _ _ _ st h=>wpAny_pyIter_rangeiter st h
inductive u_ (K:af) (R:It->Hp->Prop) (x:V) (H1:Hp):Prop
 |mk:∀a,x=.ref a->(∃xs,eG K H1 a xs)->R (AX K a) H1->u_ K R x H1
def Gx(K:af)(tl:TE):TI:=λσ H R=>tl σ H λx H1=>u_ K R x H1
variable{X:Cx}
theorem dF{l:Expr}{tl:TE}(hl:PE X l tl):PI X tg l (Gx X.K tl):=by
 intro pins s σ H R I h;apply a_ (hl pins s σ H _ I h) λv s1 ⟨x,H1,I1,r1,q1⟩=>?_;let#[a,e,#[xs,hq],q]:=q1;subst e;cases r1;let#[its,rv,p,hz]:=I1.list hq;apply wpAny_pyIter_list p.isList ?_;apply#[s1.heap.objs.size,[s1.heap.objs.size],_,_,H1,Z,I1.kept (t':=s1.toks) λb o e=>cU _ e,ib_ a _,#[_,fG _ Z,Z,Z],λb hb=>?_,q];have e:b=s1.heap.objs.size:=by simpa using hb
 subst e;exact I1.jT (bp _) (I1.aN.fresh (bp _))
variable{pins:List (Addr × Obj)}
theorem jB_{H:Hp}{s:Ab}{R:It->Hp->Prop}{E:Aa->Ab->Prop}{lo hi:Int}{t u v:Tok}{tk:Nat}(I:Inv X pins σ H s)(h1:-(2 ^ 62)<=lo)(h2:lo<2 ^ 62)(h3:-(2 ^ 62)<=hi)(h4:hi<2 ^ 62)(q:R (EV lo (hi - lo).toNat) H):wpAny (model X.prog X.w) X.A (pyIter (.ref s.heap.objs.size)) (ZH X pins σ tg R) E { s with heap:=s.heap.push { cls:=.type "range",data:=.fields (List.toArray [.int lo t,.int hi u,.int 1 v]) },toks:=tk }:=by
 apply wpAny_pyIter_range (IsRange.new ..) (small_one h1 h2 h3 h4) ?_;have I1:Inv X pins σ H { s with heap:=s.heap.push { cls:=.type "range",data:=.fields (List.toArray [.int lo t,.int hi u,.int 1 v]) },toks:=tk }:=I.kept λb o e=>cU _ e
 apply#[(s.heap.push { cls:=.type "range",data:=.fields (List.toArray [.int lo t,.int hi u,.int 1 v]) }).objs.size,[(s.heap.push { cls:=.type "range",data:=.fields (List.toArray [.int lo t,.int hi u,.int 1 v]) }).objs.size],_,_,H,Z,
  I1.kept (t':=tk) λb o e=>cU _ e,gI_ _ lo (hi - lo).toNat,?_,λb hb=>?_,q]
 ·have e1:lo+((0:Nat):Int) * 1=lo:=by simp
  have e2:(((hi - lo).toNat:Nat):Int) - ((0:Nat):Int)=Builtin.Range.rangeSize lo hi 1:=by rw[rangeSize_one];split<;>omega
  show IsRangeIter _ _ (lo+((0:Nat):Int) * 1) ((((hi - lo).toNat:Nat):Int) - ((0:Nat):Int)) 1;rw[e1,e2];exact fG _ Z
 ·have e:b=(s.heap.push { cls:=.type "range",data:=.fields (List.toArray [.int lo t,.int hi u,.int 1 v]) }).objs.size:=by simpa using hb
  subst e;exact I1.jT (bp _) (I1.aN.fresh (bp _))
inductive uZ (R:It->Hp->Prop) (vs:ai) (H1:Hp):Prop
 |mk:∀j:Int,vs=[.int j]->-(2 ^ 62)<=j->j<2 ^ 62->R (EV 0 j.toNat) H1->uZ R vs H1
def Gw(ta:TA):TI:=λσ H R=>ta σ H λvs H1=>uZ R vs H1
variable{p:Pos}
theorem EB{a:Expr}{ta:TA}(hg:Gl X "range")(hm:X.mg "range"=none)(ha:PA X [a] ta)(hs:starEach [a] X.env=[(false,eval a X.env)]:=by rfl):PI X tg (.Call (.Name "range" p) [a] [] pos) (Gw ta):=by
 intro pins s σ H R I h;apply Call_ (Ej I hg hm boot_range (PyProof.Rows.callWith_type1 (a_ (ha pos pins s σ H _ I h) λus s1 ⟨vs,H1,I1,r1,q1⟩=>?_) hs Z));let#[j,e,q1,q2,q]:=q1;subst e;cases r1 with
 |cons r rr=>
  cases rr;let#[t,rfl]:=r;exact call_range_1 (jB_ I1 Z1 Z1 q1 q2 (by simpa using q))
def MU(wi:TI)(g:TG)(tb:TS):TS:=λD σ H=>wi σ H λJ H1=>∃W:Nat->Nat->St->Hp->Prop,(∃m,W 0 m σ H1)/\∀i m σ H,W i m σ H->
 (J.stop i H/\D.nx σ H)∨(J.go i H/\∃N:St->Hp->Prop,(∀bw H',N bw H'->∃m',m'<m/\W (i+1) m' bw H')/\∀x H',J.xF i H x H'->g x σ H' λgO H2=>tb { D with nx:=N,ct:=N,bk:=D.nx } gO H2)
def yS(fp:ay)(h:Heap):List (Addr × Obj):=fp.filterMap λb=>(h.get? b).map λo=>(b,o)
variable{fp:ay}{h:Heap}
theorem Mp(hb:b∈fp)(e:h.get? b=some o):(b,o)∈yS fp h:=yZ.mpr #[b,hb,by rw[e];rfl]
theorem ih_{p:Addr × Obj}(hp:p∈yS fp h):p.1∈fp/\h.get? p.1=some p.2:=by
 let#[b,hb,e]:=yZ.mp hp;cases q:h.get? b with
 |none=>rw[q] at e;cases e
 |some o=>
  rw[q] at e;have e':(b,o)=p:=eK e;subst e';exact#[hb,q]
theorem Inv.pinned{H:Hp}{s:Ab}(I:Inv X pins σ H s)(hf:∀b∈fp,dH X pins H b)(ho:∀b∈fp,∃o,s.heap.get? b=some o/\∀v,o.data≠.cell v):Inv X (pins++yS fp s.heap) σ H s:=
 I.p9 λp hp=>(fQ.mp hp).elim (λz=>I.pin p (o4 _ z)) λz=>by
  let#[hb,e]:=ih_ z;let#[f0,f1,f2,_]:=hf p.1 hb;let#[o,e',d]:=ho p.1 hb;rw[e] at e';cases e';exact#[e,f0,f1,f2,d]
theorem Inv.e_{pl:List (Addr × Obj)}{H:Hp}{s:Ab}(I:Inv X (pins++pl) σ H s):Inv X pins σ H s:=I.p9 λp hp=>I.pin p (o4 _ (List.mem_append_left _ hp))
theorem eM{iter:Expr}{wi:TI}{g:TG}(hp:PassesOwn (model X.prog X.w) X.A X.env X.xe)(hc:X.calm=true)(hi:PI X tg iter wi)(hg:PG X tg g)(hb:mL X body tb)(hs:∀x,foldedSetIterable iter X.env x=pure x:=by intro _;rfl):PS X (.For tg iter body [] pos) (MU wi g tb):=by
 intro pins s σ H D I h;apply wpAny_For (a_ (hi pins s σ H _ I h) λv s1 h1=>a_ h1 λKP s2 h2=>?_) hs;let#[it,fp,tn,J,H2,e,I2,T,fI,f2,W,#[m0,w0],turn]:=h2;subst e;have A8:∀{H':Hp},(∀b∈fp,H' b=none)->∀b∈fp,dH X pins H' b:=λhn b hb=>#[hn b hb,(f2 b hb).2];apply codeAny_forLoop_any (λn s'=>∃i bw H',Inv X pins bw H' s'/\tn i s'.heap/\(∀b∈fp,H' b=none)/\W i n bw H') ?_ m0 #[0,σ,H2,I2,fI,λb hb=>(f2 b hb).1,w0];rintro n s3 ⟨i,lZ,H3,I3,hJ,Hu,w3⟩;rcases turn i n lZ H3 w3 with⟨stop,qn⟩|⟨go,N,hN,step⟩
 ·apply wpAny_passesOwn hp (a_ (T.done X Z Z Z hc i pins s3 lZ H3 X.xe I3 (A8 Hu) hJ stop) λr s4 ⟨hr,I4⟩=>?_);subst hr;exact wpAny_execs_nil #[lZ,H3,I4,qn]
 ·apply wpAny_passesOwn hp (a_ (T.item X Z Z Z hc i pins s3 lZ H3 X.xe I3 (A8 Hu) hJ go) λr s4 ⟨u,hr,h4⟩=>?_);subst hr;apply wpAny_passesOwn hp (a_ h4 λ_ s5 ⟨x,H5,I5,r5,y5,fX,qm⟩=>?_);let I5':=I5.pinned (A8 qm) (T.obj _ _ fX);apply wpAny_passesOwn hp (a_ (hg _ s5 lZ H5 x u _ I5' r5 (step x H5 y5)) λ_ s6 ⟨ZP,H6,I6,q6⟩=>?_);apply wpAny_passesOwn hp (a_ (hb _ s6 ZP H6 _ I6 q6) λf s7 q7=>?_)
  have again:∀{sP:St} {H7:Hp},Inv X (pins++yS fp s5.heap) sP H7 s7->N sP H7->∃m,m<n/\∃i bw H',Inv X pins bw H' s7/\tn i s7.heap/\(∀b∈fp,H' b=none)/\W i m bw H':=λ{sP H7} I7 n7=>by
   let#[m',hm,w7]:=hN sP H7 n7;apply#[m',hm,i+1,sP,H7,I7.e_,T.keep _ _ _ fX λb hb o e=>(I7.pin (b,o) (o4 _ (o4 _ (Mp hb e)))).1,λb hb=>?_,w7];let#[o,e,d]:=T.obj _ _ fX b hb;exact (I7.pin (b,o) (o4 _ (o4 _ (Mp hb e)))).2.1
  cases f with
  |next=>let#[sP,H7,I7,n7]:=q7;exact again I7 n7
  |cont=>let#[sP,H7,I7,n7]:=q7;exact again I7 n7
  |brk=>let#[sP,H7,I7,q7]:=q7;exact#[sP,H7,I7.e_,q7]
  |ret v=>let#[x7,sP,H7,I7,r7,q7]:=q7;exact#[x7,sP,H7,I7.e_,r7,q7]
theorem gc{K:af}{a:Addr}{xs:ai}{g:TG}{D:Ends}{H:Hp}(Pv:bL)(h0:Pv 0 σ H)(hl:∀i σ H,i<=xs.length->Pv i σ H->eG K H a xs)(hs:∀i x σ H,xs[i]? = some x->Pv i σ H->g x σ H λgO H2=>tb { D with nx:=Pv (i+1),ct:=Pv (i+1),bk:=D.nx } gO H2)(hd:∀σ H,Pv xs.length σ H->D.nx σ H) :
  ∃W:Nat->Nat->St->Hp->Prop,(∃m,W 0 m σ H)/\∀i m σ H,W i m σ H->
   ((AX K a).stop i H/\D.nx σ H)∨((AX K a).go i H/\∃N:St->Hp->Prop,(∀bw H',N bw H'->∃m',m'<m/\W (i+1) m' bw H')/\∀x H',(AX K a).xF i H x H'->g x σ H' λgO H2=>tb { D with nx:=N,ct:=N,bk:=D.nx } gO H2):=by
 apply#[λi m σ H=>m=xs.length - i/\i<=xs.length/\Pv i σ H,#[xs.length,by simp,gG _,h0],?_];rintro i m σ H ⟨rfl,hi,p⟩;let q:=hl i σ H hi p;by_cases dz:i<xs.length
 ·apply .inr #[#[xs,xs[i],q,by simp[dz]],Pv (i+1),λbw H' p'=>#[xs.length - (i+1),by omega,Z,dz,p'],λx H' y=>?_];let#[e,y]:=y;subst e;exact hs i x σ _ (y xs q) p
 ·have e:i=xs.length:=by omega
  subst e;exact .inl #[#[xs,q,bp _],hd σ H p]
theorem RT{lo:Int}{g:TG}{D:Ends}{H:Hp}(Pv:bL)(h0:Pv 0 σ H)(hs:∀i σ H,i<n->Pv i σ H->g (.int (lo+i)) σ H λgO H2=>tb { D with nx:=Pv (i+1),ct:=Pv (i+1),bk:=D.nx } gO H2)(hd:∀σ H,Pv n σ H->D.nx σ H) :
  ∃W:Nat->Nat->St->Hp->Prop,(∃m,W 0 m σ H)/\∀i m σ H,W i m σ H->
   ((EV lo n).stop i H/\D.nx σ H)∨((EV lo n).go i H/\∃N:St->Hp->Prop,(∀bw H',N bw H'->∃m',m'<m/\W (i+1) m' bw H')/\∀x H',(EV lo n).xF i H x H'->g x σ H' λgO H2=>tb { D with nx:=N,ct:=N,bk:=D.nx } gO H2):=by
 apply#[λi m σ H=>m=n - i/\i<=n/\Pv i σ H,#[n,by simp,gG _,h0],?_];rintro i m σ H ⟨rfl,hi,p⟩;by_cases dz:i<n
 ·apply .inr #[dz,Pv (i+1),λbw H' p'=>#[n - (i+1),by omega,Z,dz,p'],λx H' y=>?_];let#[e,y]:=y;subst e y;exact hs i σ _ dz p
 ·have e:i=n:=by omega
  subst e;exact .inl #[bp _,hd σ H p]
theorem jU_{c:TT}{D:Ends}{H:Hp}(Pv:ck)(μ:St->Hp->Nat)(h0:Pv σ H)(hs:∀σ H,Pv σ H->c σ H λb H1=>if b=true then tb { D with nx:=λbw H'=>Pv bw H'/\μ bw H'<μ σ H,ct:=λbw H'=>Pv bw H'/\μ bw H'<μ σ H,bk:=D.nx } σ H1 else D.nx σ H1)(mono:∀σ H Q Q',(∀b H1,Q b H1->Q' b H1)->c σ H Q->c σ H Q'):sU c tb D σ H:=by
 apply#[λm σ H=>m=μ σ H/\Pv σ H,#[_,Z,h0],?_];rintro m σ H ⟨rfl,p⟩;apply mono σ H _ _ (λb H1 q=>?_) (hs σ H p);cases b with
 |true=>exact#[_,λbw H' ⟨p',l⟩=>#[_,l,Z,p'],q]
 |false=>exact q
abbrev R2:=V->V->Hp->VK->Prop
def eP(X:Cx)(f:Aa->Aa->Sem Aa)(r:R2):Prop:=
 ∀(pins:List (Addr × Obj)) (s:Ab) (σ:St) (H:Hp) (x y:V) (v u:Aa) (Q:VK),Inv X pins σ H s->RelV x v->RelV y u->r x y H Q->
  wpAny (model X.prog X.w) X.A (f v u) (EP X pins σ Q) X.xe s
def Ti(X:Cx)(f:Aa->Sem Aa)(r:V->Hp->VK->Prop):Prop:=
 ∀(pins:List (Addr × Obj)) (s:Ab) (σ:St) (H:Hp) (x:V) (v:Aa) (Q:VK),Inv X pins σ H s->RelV x v->r x H Q->
  wpAny (model X.prog X.w) X.A (f v) (EP X pins σ Q) X.xe s
def gY(X:Cx)(f:Aa)(r:ai->Hp->VK->Prop):Prop:=
 ∀(pins:List (Addr × Obj)) (s:Ab) (σ:St) (H:Hp) (xs:ai) (us:ax) (Q:VK),Inv X pins σ H s->Vals xs us->r xs H Q->
  wpAny (model X.prog X.w) X.A (call f us) (EP X pins σ Q) X.xe s
def Kk(r:R2)(ta tb:TE):TE:=λσ H Q=>ta σ H λx H1=>tb σ H1 λy H2=>r x y H2 Q
def _P(r:V->Hp->VK->Prop)(ta:TE):TE:=λσ H Q=>ta σ H λx H1=>r x H1 Q
inductive rI (C:Int->Int->Prop) (g:Int->Int->V) (x:V) (y:V) (H:Hp) (Q:VK):Prop
 |mk:∀i j,x=.int i->y=.int j->C i j->Q (g i j) H->rI C g x y H Q
inductive yb (g:Int->Int->V) (x:V) (y:V) (H:Hp) (Q:VK):Prop
 |mk:∀i j,x=.int i->y=.int j->Q (g i j) H->yb g x y H Q
inductive rU (g:Int->V) (x:V) (H:Hp) (Q:VK):Prop
 |mk:∀i,x=.int i->Q (g i) H->rU g x H Q
variable{r:R2}
variable{g:Int->Int->Int}
variable{j:Int}
section
variable{X:Cx}{a b c:Expr}{ta tb tc:TE}{pos:Pos}
theorem C3(ha:PE X a ta)(hb:PE X b tb){s:Ab}{H:Hp}{R:V->V->Hp->Prop}(I:Inv X pins σ H s)(h:ta σ H λx H1=>tb σ H1 λy H2=>R x y H2){Q:Aa->Ab->Prop}{f:Aa->Aa->Sem Aa}(hf:∀v u s2 x y H2,Inv X pins σ H2 s2->RelV x v->RelV y u->R x y H2->wpAny (model X.prog X.w) X.A (f v u) Q X.xe s2) :
  wpAny (model X.prog X.w) X.A (eval a X.env) (λv bf=>wpAny (model X.prog X.w) X.A (eval b X.env) (λu kB=>wpAny (model X.prog X.w) X.A (f v u) Q X.xe kB) X.xe bf) X.xe s:=by
 apply a_ (ha pins s σ H _ I h) λv s1 ⟨x,H1,I1,r1,q1⟩=>?_;apply a_ (hb pins s1 σ H1 _ I1 q1) λu s2 ⟨y,H2,I2,r2,q2⟩=>?_;exact hf v u s2 x y H2 I2 r1 r2 q2
theorem bF{op:Operator}(ho:eP X (binaryOp op) r)(ha:PE X a ta)(hb:PE X b tb):PE X (.BinOp a op b pos) (Kk r ta tb):=by
 intro pins s σ H Q I h;exact wpAny_BinOp (C3 ha hb I h λv u s2 x y H2 I2 rx ry q=>ho pins s2 σ H2 x y v u Q I2 rx ry q)
theorem my_{op:UnaryOp}{r:V->Hp->VK->Prop}(ho:Ti X (unaryOp op) r)(ha:PE X a ta):PE X (.UnaryOp op a pos) (_P r ta):=by
 intro pins s σ H Q I h;exact UnaryOp_ (a_ (ha pins s σ H _ I h) λv s1 ⟨x,H1,I1,r1,q1⟩=>ho pins s1 σ H1 x v Q I1 r1 q1)
theorem KA{f:Aa->Aa->Sem Aa}{C:Int->Int->Prop}(rule:∀(i j:Int) (t u:Tok) (s:Ab) (Q:Aa->Ab->Prop) (E:Aa->Ab->Prop),C i j->Q (.int (g i j) s.toks) { s with toks:=s.toks+1 }->wpAny (model X.prog X.w) X.A (f (.int i t) (.int j u)) Q E s) :
  eP X f (rI C λi j=>.int (g i j)):=by
 intro pins s σ H x y v u Q I rx ry h;let#[i,j,rfl,rfl,hc,q]:=h;let#[t,rfl]:=rx;let#[t',rfl]:=ry;exact rule i j t t' s _ _ hc #[.int (g i j),H,I.tok _,#[_,Z],q]
theorem FW{f:Aa->Aa->Sem Aa}(rule:∀(i j:Int) (t u:Tok) (s:Ab) (Q:Aa->Ab->Prop) (E:Aa->Ab->Prop),Q (.int (g i j) s.toks) { s with toks:=s.toks+1 }->wpAny (model X.prog X.w) X.A (f (.int i t) (.int j u)) Q E s) :
  eP X f (yb λi j=>.int (g i j)):=by
 intro pins s σ H x y v u Q I rx ry h;let#[i,j,rfl,rfl,q]:=h;let#[t,rfl]:=rx;let#[t',rfl]:=ry;exact rule i j t t' s _ _ #[.int (g i j),H,I.tok _,#[_,Z],q]
theorem yg{f:Aa->Aa->Sem Aa}{g:Int->Int->Bool}
  (rule:∀(i j:Int) (t u:Tok) (s:Ab) (Q:Aa->Ab->Prop) (E:Aa->Ab->Prop),Q (.bool (g i j)) s->wpAny (model X.prog X.w) X.A (f (.int i t) (.int j u)) Q E s) :
  eP X f (yb λi j=>.bl (g i j)):=by
 intro pins s σ H x y v u Q I rx ry h;let#[i,j,rfl,rfl,q]:=h;let#[t,rfl]:=rx;let#[t',rfl]:=ry;exact rule i j t t' s _ _ #[.bl (g i j),H,I,Z,q]
def TJ(i j:Int):Prop:=0<j/\j<1073741824
def TH(i j:Int):Prop:=0<=j/\j<=1000000/\i.natAbs<2 ^ 64
def Dr(i j:Int):Prop:=(-(2 ^ 64)<i/\i<2 ^ 64)∨(-(2 ^ 64)<j/\j<2 ^ 64)
theorem Dr.ok{i:Int}(h:Dr i j):IntMulOk i j:=by
 rcases h with⟨h1,h2⟩|⟨h1,h2⟩
 ·exact .of_left (intBits_le_64 h1 h2)
 ·exact .of_right (intBits_le_64 h1 h2)
theorem iV:eP X (binaryOp .Add) (yb λi j=>.int (i+j)):=FW λ_ _ _ _ _ _ _ q=>add_int q
theorem Hy:eP X (binaryOp .Sub) (yb λi j=>.int (i - j)):=FW λ_ _ _ _ _ _ _ q=>sub_int q
theorem ji:eP X (binaryOp .Mult) (rI Dr λi j=>.int (i * j)):=KA λ_ _ _ _ _ _ _ hc q=>mul_int q hc.ok
theorem vL:eP X (binaryOp .FloorDiv) (rI TJ λi j=>.int (i / j)):=KA λi j _ _ _ _ _ hc q=>by
 have h1:(0:Int)<j:=hc.1;have h2:j<1073741824:=hc.2;exact floordiv_int Z1 (by rw[Int.fdiv_eq_ediv_of_nonneg i Z1];exact q) (.inl (PyProof.noPylong_small Z1))
theorem vP:eP X (binaryOp .Mod) (rI (λ_ j=>0<j) λi j=>.int (i % j)):=KA λi j _ _ _ _ _ hc q=>by
 have h1:(0:Int)<j:=hc;exact mod_int' Z1 (by rw[Int.fmod_eq_emod_of_nonneg i Z1];exact q)
theorem U7:eP X (binaryOp .Pow) (rI TH λi j=>.int (i ^ j.toNat)):=KA λ_ _ _ _ _ _ _ hc q=>pow_int_small hc.1 hc.2.1 hc.2.2 q
theorem _x{f:Aa->Sem Aa}{g:Int->Int}
  (rule:∀(i:Int) (t:Tok) (s:Ab) (Q:Aa->Ab->Prop) (E:Aa->Ab->Prop),Q (.int (g i) s.toks) { s with toks:=s.toks+1 }->wpAny (model X.prog X.w) X.A (f (.int i t)) Q E s) :
  Ti X f (rU λi=>.int (g i)):=by
 intro pins s σ H x v Q I rx h;let#[i,rfl,q]:=h;let#[t,rfl]:=rx;exact rule i t s _ _ #[.int (g i),H,I.tok _,#[_,Z],q]
theorem lN_:Ti X (unaryOp .USub) (rU λi=>.int (-i)):=_x λ_ _ _ _ _ q=>neg_int q
end
def Fx:V->V->Bool
 |.non,.non=>true | .non,.int _=>true | .int _,.non=>true | .non,.bl _=>true | .bl _,.non=>true | .non,.str _=>true | .str _,.non=>true
 |.int _,.int _=>true | .bl _,.bl _=>true | .str _,.str _=>true | .byt _,.byt _=>true
 |.int _,.str _=>true | .str _,.int _=>true | .bl _,.str _=>true | .str _,.bl _=>true
 |_,_=>false
def rEq:R2:=λx y H Q=>Fx x y=true/\Q (.bl (decide (x=y))) H
def rNe:R2:=λx y H Q=>Fx x y=true/\Q (.bl (!decide (x=y))) H
theorem Wx{i:Int}:decide (V.int i=V.int j)=(i == j):=by
 rw[Bool.eq_iff_iff];simp
theorem Vi{i j:Bool}:decide (V.bl i=V.bl j)=(i == j):=by
 rw[Bool.eq_iff_iff];simp
theorem VJ{i j:Str}:decide (V.str i=V.str j)=(i == j):=by
 rw[Bool.eq_iff_iff];simp
theorem Vq{i j:Array UInt8}:decide (V.byt i=V.byt j)=(i.toList == j.toList):=by
 rw[Bool.eq_iff_iff];cases i;cases j;simp
variable{Dx:CmpOp}{r':R2}
section
variable{X:Cx}{a b c:Expr}{ta tb tc:TE}{pos:Pos}
theorem fR{H:Hp}{s:Ab}{Q:VK}{k k':Bool}(I:Inv X pins σ H s)(q:Q (.bl k) H)(e:k=k'):EP X pins σ Q (.bool k') s:=by
 subst e;exact#[.bl k,H,I,Z,q]
theorem ik:eP X (compareOp .Eq) rEq:=by
 intro pins s σ H x y v u Q I rx ry h;let#[hs,q]:=h;cases x with
 |non=>
  cases rx;cases y with
  |non=>cases ry;exact PySem.EqNone.eq_none_none (fR I q Z2)
  |bl j=>cases ry;exact PySem.EqNone.eq_none_bool (fR I q Z2)
  |int j=>let#[t',rfl]:=ry;exact PySem.EqNone.eq_none_int (fR I q Z2)
  |str j=>let#[t',rfl]:=ry;exact PySem.EqNone.eq_none_str (fR I q Z2)
  |_=>exact absurd (show false=true from hs) hE
 |bl i=>
  cases rx;cases y with
  |non=>cases ry;exact PySem.EqNone.eq_bool_none (fR I q Z2)
  |bl j=>cases ry;exact eq_bool (fR I q Vi)
  |str j=>let#[t',rfl]:=ry;exact PySem.EqMixed.eq_bool_str (fR I q Z2)
  |_=>exact absurd (show false=true from hs) hE
 |int i=>
  let#[t,rfl]:=rx;cases y with
  |non=>cases ry;exact PySem.EqNone.eq_int_none (fR I q Z2)
  |int j=>let#[t',rfl]:=ry;exact eq_int (fR I q Wx)
  |str j=>let#[t',rfl]:=ry;exact PySem.EqMixed.eq_int_str (fR I q Z2)
  |_=>exact absurd (show false=true from hs) hE
 |str i=>
  let#[t,rfl]:=rx;cases y with
  |non=>cases ry;exact PySem.EqNone.eq_str_none (fR I q Z2)
  |bl j=>cases ry;exact PySem.EqMixed.eq_str_bool (fR I q Z2)
  |int j=>let#[t',rfl]:=ry;exact PySem.EqMixed.eq_str_int (fR I q Z2)
  |str j=>let#[t',rfl]:=ry;exact eq_str (fR I q VJ)
  |_=>exact absurd (show false=true from hs) hE
 |byt i=>
  let#[t,rfl]:=rx;cases y with
  |byt j=>let#[t',rfl]:=ry;exact PySem.W.eq_bytes (fR I q Vq)
  |_=>exact absurd (show false=true from hs) hE
 |_=>cases y<;>exact absurd (show false=true from hs) hE
theorem DV:eP X (compareOp .NotEq) rNe:=by
 intro pins s σ H x y v u Q I rx ry h;let#[hs,q]:=h;cases x with
 |non=>
  cases rx;cases y with
  |non=>cases ry;exact PySem.EqNone.ne_none_none (fR I q Z2)
  |bl j=>cases ry;exact PySem.EqNone.ne_none_bool (fR I q Z2)
  |int j=>let#[t',rfl]:=ry;exact PySem.EqNone.ne_none_int (fR I q Z2)
  |str j=>let#[t',rfl]:=ry;exact PySem.EqNone.ne_none_str (fR I q Z2)
  |_=>exact absurd (show false=true from hs) hE
 |bl i=>
  cases rx;cases y with
  |non=>cases ry;exact PySem.EqNone.ne_bool_none (fR I q Z2)
  |bl j=>cases ry;exact ne_bool (fR I q (d8 not Vi))
  |str j=>let#[t',rfl]:=ry;exact PySem.EqMixed.ne_bool_str (fR I q Z2)
  |_=>exact absurd (show false=true from hs) hE
 |int i=>
  let#[t,rfl]:=rx;cases y with
  |non=>cases ry;exact PySem.EqNone.ne_int_none (fR I q Z2)
  |int j=>let#[t',rfl]:=ry;exact ne_int (fR I q (d8 not Wx))
  |str j=>let#[t',rfl]:=ry;exact PySem.EqMixed.ne_int_str (fR I q Z2)
  |_=>exact absurd (show false=true from hs) hE
 |str i=>
  let#[t,rfl]:=rx;cases y with
  |non=>cases ry;exact PySem.EqNone.ne_str_none (fR I q Z2)
  |bl j=>cases ry;exact PySem.EqMixed.ne_str_bool (fR I q Z2)
  |int j=>let#[t',rfl]:=ry;exact PySem.EqMixed.ne_str_int (fR I q Z2)
  |str j=>let#[t',rfl]:=ry;exact ne_str (fR I q (d8 not VJ))
  |_=>exact absurd (show false=true from hs) hE
 |byt i=>
  let#[t,rfl]:=rx;cases y with
  |byt j=>let#[t',rfl]:=ry;exact PySem.W.ne_bytes (fR I q (d8 not Vq))
  |_=>exact absurd (show false=true from hs) hE
 |_=>cases y<;>exact absurd (show false=true from hs) hE
theorem KO:eP X (compareOp .Lt) (yb λi j=>.bl (decide (i<j))):=yg λ_ _ _ _ _ _ _ q=>lt_int q
theorem wU:eP X (compareOp .LtE) (yb λi j=>.bl (decide (i<=j))):=yg λ_ _ _ _ _ _ _ q=>le_int q
theorem rF:eP X (compareOp .Gt) (yb λi j=>.bl (decide (j<i))):=yg λ_ _ _ _ _ _ _ q=>gt_int q
theorem UC:eP X (compareOp .GtE) (yb λi j=>.bl (decide (j<=i))):=yg λ_ _ _ _ _ _ _ q=>ge_int q
inductive Y2 (x:V) (y:V) (H:Hp) (Q:VK):Prop
 |mk:∀i j,x=.str i->y=.str j->Q (.bl (decide (i.cps.toList<j.cps.toList))) H->Y2 x y H Q
theorem hx_:eP X (compareOp .Lt) Y2:=by
 intro pins s σ H x y v u Q I rx ry h;let#[i,j,rfl,rfl,q]:=h;let#[t,rfl]:=rx;let#[t',rfl]:=ry;exact lt_str (fR I q rfl)
theorem U5:eP X (compareOp .Is) (λx y H Q=>y=.non/\Q (.bl (decide (x=.non))) H):=by
 intro pins s σ H x y v u Q I rx ry h;let#[rfl,q]:=h;cases ry;apply is_none_gen (fR I q ?_)
 cases x<;>first
  |(cases rx;rfl)
  |(let#[t,rfl]:=rx;rfl)
theorem WE:eP X (compareOp .IsNot) (λx y H Q=>y=.non/\Q (.bl (!decide (x=.non))) H):=by
 intro pins s σ H x y v u Q I rx ry h;let#[rfl,q]:=h;cases ry;apply isnot_none_gen (fR I q ?_)
 cases x<;>first
  |(cases rx;rfl)
  |(let#[t,rfl]:=rx;rfl)
theorem uQ(b:Expr)(h:op≠.In:=by decide)(h2:op≠.NotIn:=by decide):behindInMarks op b=false:=by
 have e1:(op == CmpOp.In)=false:=by cases op<;>first|rfl|exact absurd rfl h
 have e2:(op == CmpOp.NotIn)=false:=by cases op<;>first|rfl|exact absurd rfl h2
 cases b<;>simp[behindInMarks,e1,e2]
theorem iG(ho:eP X (compareOp op) r)(ha:PE X a ta)(hb:PE X b tb)(hm:behindInMarks op b=false:=by exact uQ _):PE X (.Compare a [op] [b] pos) (Kk r ta tb):=by
 intro pins s σ H Q I h;exact wpAny_Compare1 (C3 ha hb I h λv u s2 x y H2 I2 rx ry q=>ho pins s2 σ H2 x y v u Q I2 rx ry q) hm
inductive sY (Q:Bool->Hp->Prop) (x:V) (H':Hp):Prop
 |mk:∀k,x=.bl k->Q k H'->sY Q x H'
def zu(t:TE):TT:=λσ H Q=>t σ H λx H'=>sY Q x H'
theorem cz(ho:eP X (compareOp op) r)(ha:PE X a ta)(hb:PE X b tb)(hm:behindInMarks op b=false:=by exact uQ _):PT X (.Compare a [op] [b] pos) (zu (Kk r ta tb)):=by
 intro pins s σ H Q I h
 apply wpAny_isTrue_Compare1 (a_ (ha pins s σ H _ I h) λv s1 ⟨x,H1,I1,r1,q1⟩=>a_ (hb pins s1 σ H1 _ I1 q1) λu s2 ⟨y,H2,I2,r2,q2⟩=>
  a_ (ho pins s2 σ H2 x y v u _ I2 r1 r2 q2) λc s3 ⟨z,H3,I3,r3,k,e,q3⟩=>?_) hm
 subst e;cases r3;exact vH #[H3,I3,q3]
inductive pB (r':R2) (tc:TE) (σ:St) (Q:VK) (y:V) (z:V) (H3:Hp):Prop
 |mk:∀k,z=.bl k->(if k=true then tc σ H3 λw' H4=>r' y w' H4 Q else Q (.bl false) H3)->pB r' tc σ Q y z H3
def tD(r r':R2)(ta tb tc:TE):TE:=λσ H Q=>ta σ H λx H1=>tb σ H1 λy H2=>r x y H2 λz H3=>pB r' tc σ Q y z H3
theorem XH(ho:eP X (compareOp op) r)(jx:eP X (compareOp Dx) r')(ha:PE X a ta)(hb:PE X b tb)(hc:PE X c tc)(hm:lastMarks [op,Dx] [b,c]=false:=by with_unfolding_all rfl):PE X (.Compare a [op,Dx] [b,c] pos) (tD r r' ta tb tc):=by
 intro pins s σ H Q I h
 apply Compare_chain (a_ (ha pins s σ H _ I h) λv s1 ⟨x,H1,I1,r1,q1⟩=>chain_link (a_ (hb pins s1 σ H1 _ I1 q1) λu s2 ⟨y,H2,I2,r2,q2⟩=>
  a_ (ho pins s2 σ H2 x y v u _ I2 r1 r2 q2) λd s3 ⟨z,H3,I3,r3,k,e,q3⟩=>?_)) hm
 subst e;cases r3;apply vH ?_;cases k with
 |false=>exact ite_ff #[.bl false,H3,I3,Z,q3]
 |true=>exact ite_tt (chain_last (a_ (hc pins s3 σ H3 _ I3 q3) λw' s4 ⟨z',H4,I4,r4,q4⟩=>jx pins s4 σ H4 y z' u w' Q I4 r2 r4 q4))
theorem Xv(ho:eP X (compareOp op) r)(jx:eP X (compareOp Dx) r')(ha:PE X a ta)(hb:PE X b tb)(hc:PE X c tc)(hm:lastMarks [op,Dx] [b,c]=false:=by with_unfolding_all rfl):PT X (.Compare a [op,Dx] [b,c] pos) (zu (tD r r' ta tb tc)):=by
 intro pins s σ H Q I h
 apply isTrue_chain (a_ (ha pins s σ H _ I h) λv s1 ⟨x,H1,I1,r1,q1⟩=>test_link (a_ (hb pins s1 σ H1 _ I1 q1) λu s2 ⟨y,H2,I2,r2,q2⟩=>
  a_ (ho pins s2 σ H2 x y v u _ I2 r1 r2 q2) λd s3 ⟨z,H3,I3,r3,k,e,q3⟩=>?_)) hm
 subst e;cases r3;apply vH ?_;cases k with
 |false=>
  let#[k',e',q']:=q3;cases e';exact ite_ff #[H3,I3,q']
 |true=>
  apply ite_tt (test_last (a_ (hc pins s3 σ H3 _ I3 q3) λw' s4 ⟨z',H4,I4,r4,q4⟩=>a_ (jx pins s4 σ H4 y z' u w' _ I4 r2 r4 q4) λd' s5 ⟨z2,H5,I5,r5,k2,e2,q5⟩=>?_));subst e2;cases r5;exact vH #[H5,I5,q5]
theorem gU:(sizeLine:Nat)<2 ^ 63:=by rw[b_];decide
inductive YQ (x:V) (y:V) (H:Hp) (Q:VK):Prop
 |mk:∀i j,x=.str i->y=.str j->i.length+j.length<=sizeLine->Q (.str (i++j)) H->YQ x y H Q
theorem AK:eP X (binaryOp .Add) YQ:=by
 intro pins s σ H x y v u Q I rx ry h;let#[i,j,rfl,rfl,hz,q]:=h;let#[t,rfl]:=rx;let#[t',rfl]:=ry;exact add_str (λt' tk=>⟨.str (i++j),H,I.tok _,⟨_,rfl⟩,q⟩) hz
theorem vals1{x:V}{us:ax}(r:Vals [x] us):∃u,us=[u]/\RelV x u:=by
 cases r with
 |cons r1 r2=>cases r2;exact#[_,Z,r1]
theorem vals2{x y:V}{us:ax}(r:Vals [x,y] us):∃u w',us=[u,w']/\RelV x u/\RelV y w':=by
 cases r with
 |cons r1 r2=>
  cases r2 with
  |cons r3 r4=>cases r4;exact#[_,_,Z,r1,r3]
inductive YK (xs:ai) (H:Hp) (Q:VK):Prop
 |mk:∀i j,xs=[.int i,.int j]->Q (.int (if j > i then j else i)) H->YK xs H Q
theorem Rm(hc:X.calm=true):gY X (.builtin "max") YK:=by
 intro pins s σ H xs us Q I r h;let#[i,j,rfl,q]:=h;let#[u,w',rfl,#[t,rfl],#[t',rfl]]:=vals2 r;apply max_two_ints (I.ok.hd hc) λh' tk k=>#[_,H,I.kept k,?_,q];by_cases hj:j > i
 ·rw[aA hj,aA hj];exact#[_,Z]
 ·rw[aq hj,aq hj];exact#[_,Z]
inductive Y6 (xs:ai) (H:Hp) (Q:VK):Prop
 |mk:∀i j,xs=[.int i,.int j]->Q (.int (if j<i then j else i)) H->Y6 xs H Q
theorem i1_(hc:X.calm=true):gY X (.builtin "min") Y6:=by
 intro pins s σ H xs us Q I r h;let#[i,j,rfl,q]:=h;let#[u,w',rfl,#[t,rfl],#[t',rfl]]:=vals2 r;apply min_two_ints (I.ok.hd hc) λh' tk k=>#[_,H,I.kept k,?_,q];by_cases hj:j<i
 ·rw[aA hj,aA hj];exact#[_,Z]
 ·rw[aq hj,aq hj];exact#[_,Z]
theorem EC:gY X (.type "int") (λxs H Q=>(∃i,xs=[.int i]/\Q (.int i) H)∨∃k,xs=[.bl k]/\Q (.int (if k then 1 else 0)) H):=by
 intro pins s σ H xs us Q I r h;rcases h with⟨i,rfl,q⟩|⟨k,rfl,q⟩
 ·let#[u,rfl,t,rfl]:=vals1 r;exact call_int_int #[.int i,H,I,#[_,Z],q]
 ·let#[u,rfl,r1]:=vals1 r;cases r1;exact call_int_bool #[.int (if k then 1 else 0),H,I.tok _,#[_,Z],q]
end
structure o5 (h:Heap) (x dx C:Addr) (mA:Str->Option Aa):Prop where
 obj:h.get? x=some (PySem.W.instObj C dx)
 ns:h.Ns1 dx mA
 ne:dx≠x
variable{mA:Str->Option Aa}
theorem hK_{dx:Addr}(n:h.Ns1 dx mA):∃od,h.get? dx=some od/\∀name,PySem.W.lookIn name od=some (mA name):=by
 let#[o,es,ep,ho,hd,hk,_,hm]:=n;apply#[o,ho,λname=>?_];let e:=hm name;unfold nsFind findBy at e;rw[<- Array.find?_toList] at e;unfold PySem.W.lookIn;rw[hd];dsimp only;split
 ·rename_i y q
  rw[q] at e;exact d8 some e
 ·rename_i q
  rw[q] at e
  have a:es.toList.any (·.refKey)=false:=by
   rw[List.any_eq_false];intro y hy;let#[z,t,O1]:=hk y (Array.mem_toList_iff.mp hy);simp[DictEntry.refKey,O1]
  have a':¬es.toList.any (·.refKey)=true:=by rw[a];exact hE
  rw[aq a'];exact d8 some e
theorem o5.look{x dx C:Addr}(I:o5 h x dx C mA):∃od,PySem.W.InstAt h x (PySem.W.instObj C dx) C (some od)/\∀name,PySem.W.lookIn name od=some (mA name):=
 let #[od,ho,hl]:=hK_ I.ns
 #[od,#[I.obj,Z,Z,ho],hl]
variable{pl:Sem Bool}
variable{kw:List (Str × Aa)}
section
variable{prog:Ae}{w:Af}{A:Ag}{E:Aa->Ab->Prop}{s:Ab}{K:af}{x dx C f:Addr}{mA:Str->Option Aa}{name:Str}{v:Aa}
theorem kM_{expr:Bool}{Q:Aa->Ab->Prop}(X:K.In s.heap)(I:o5 s.heap x dx C mA)(hg:PySem.W.plainGet K C name=true)(hh:PySem.W.hasDictIn K C=true)
  (ha:PySem.W.findIn K (.ref C) name=some none) (hv:mA name=some v) (hv':PySem.W.handedIn v=true) (h:Q v { s with toks:=s.toks+1 }) :
  wpAny (model prog w) A (getAttr (.ref x) name expr) Q E s:=by
 let#[od,J,hl]:=I.look;exact PySem.W.get_value X J (PySem.W.plainGet_of hg).1 (PySem.W.findObj_own hh ha Z (by rw[hl,hv])) hv' h
theorem jp_{Q:Aa × ax->Ab->Prop}(X:K.In s.heap)(I:o5 s.heap x dx C mA)(hg:PySem.W.plainGet K C name=true)(hf:PySem.W.findIn K (.ref C) name=some (some (.ref f)))(ht:PySem.W.isFn K (.ref f)=true)(hv:mA name=none)(h:Q (.ref f,[.ref x]) s) :
  wpAny (model prog w) A (getMethod (.ref x) name pl) Q E s:=by
 let#[od,J,hl]:=I.look;exact PySem.W.method_fn X J (PySem.W.plainGet_of hg).1 (PySem.W.plainGet_of hg).2 hf (beq_iff_eq.mp ht) (by show (PySem.W.lookIn name od).map (·.isSome)=some false;rw[hl,hv];rfl) h
theorem ln_{ns:ae}{Q:Unit->Ab->Prop}(X:K.In s.heap)(I:o5 s.heap x dx C mA)
  (hs:PySem.W.findIn K (.ref C) "__setattr__"=some (some (.builtin "object.__setattr__"))) (hp:PySem.W.plainOver K C=true) (ht:PySem.W.takerIn K C name=some none) (hh:PySem.W.hasDictIn K C=true)
  (hw:PySem.Within mA ns) (hsz:ns.length<=sizeLine)
  (h:∀h',o5 h' x dx C (λy=>if y=name then some v else mA y)->Heap.SameBut dx s.heap h'->Q () { s with heap:=h',toks:=s.toks+2 }) :
  wpAny (model prog w) A (setAttr (.ref x) name v) Q E s:=by
 let#[od,J,hl]:=I.look;apply PySem.W.set_plain X J hs (PySem.W.osa_open (s:={ s with toks:=s.toks+1 }) (r:=none) X J hp ht λb=>?_);let#[cd,hc,iA]:=PySem.W.any_some hh;have hx:s.heap.get? x=some #[.ref C,some dx,.plain,#[]]:=I.obj;apply aO (bV (aO (aO (wpAny_loadPart hx (aO (PySem.W.Looks.here (s:={ s with toks:=s.toks+1 }) (PySem.W.looks_clsIn X hc) ?_))))));rw[iA];apply bV (a:=some dx) (aO (bV (aO ?_)));apply wpAny_nsSet1 (s:={ s with toks:=s.toks+1 }) I.ns λh' BX BO=>?_;let#[oD,esD,epD,hoD,hdD,hcD]:=BX.count (PySem.Within.cons name v hw);apply aO (wpAny_lookBehind hoD (by rw[hdD];exact pastItsLine_dict (qC hcD (by rw[iW];omega))) ?_);exact bV (h _ #[(BO.2 _ (Ne.symm I.ne)).trans I.obj,BX,I.ne] BO)
theorem jf_{R:Result->Ab->Prop}{vs:ax}(X:K.In s.heap)(hm:PySem.W.makesIn K C=true)(hi:PySem.W.findIn K (.ref C) "__init__"=some (some (.ref f)))(hf:PySem.W.typeIn K (.ref f)=some (.type "function"))(h:codeAny (model prog w) (A.under (.builtin "type.__call__" #[.ref C::vs,kw])) (.call (.ref f) #[.ref (s.heap.objs.size+1)::vs,kw]) (PySem.W.InitBack (s.heap.objs.size+1) R)
   { s with heap:=(s.heap.push PySem.W.emptyDict).push (PySem.W.instObj C s.heap.objs.size) }) :
  codeAny (model prog w) A (.call (.ref C) #[vs,kw]) R s:=by
 let#[hh,g,d,t,os]:=s;exact PySem.W.make_core (PySem.W.makes_of X hm) (PySem.W.looks_findIn X hi) (λself=>PySem.W.bind_fn X self hf) (.inl Z) h
end
def aH(f:Str)(v:V):List (Str × V)->List (Str × V)
 |[]=>[(f,v)]
 |(g,x)::r=>if g=f then (g,v)::r else (g,x)::aH f v r
theorem fH(f g:Str)(v:V):∀fs:List (Str × V),(aH f v fs).lookup g=if g=f then some v else fs.lookup g
 |[]=>by
  show List.lookup g [(f,v)]=_;by_cases h:g=f
  ·have hb:(g == f)=true:=beq_iff_eq.mpr h;simp only[List.lookup,hb,aA h]
  ·have hb:(g == f)=false:=beq_eq_false_iff_ne.mpr h;simp only[List.lookup,hb,aq h]
 |(k,x)::r=>by
  let ih:=fH f g v r;rw[show aH f v ((k,x)::r)=(if k=f then (k,v)::r else (k,x)::aH f v r) from Z];by_cases hk:k=f
  ·rw[aA hk];by_cases h:g=k
   ·have hb:(g == k)=true:=beq_iff_eq.mpr h;simp only[List.lookup,hb,aA (h.trans hk)]
   ·have hb:(g == k)=false:=beq_eq_false_iff_ne.mpr h;simp only[List.lookup,hb,aq (λe:g=f=>h (e.trans hk.symm))]
  ·rw[aq hk];by_cases h:g=k
   ·have hb:(g == k)=true:=beq_iff_eq.mpr h;simp only[List.lookup,hb,aq (λe:g=f=>hk (h.symm.trans e))]
   ·have hb:(g == k)=false:=beq_eq_false_iff_ne.mpr h;simp only[List.lookup,hb];exact ih
theorem RU(f:Str)(v:V):∀fs:List (Str × V),f∈(aH f v fs).map (·.1)/\∀g,g∈fs.map (·.1)->g∈(aH f v fs).map (·.1)
 |[]=>#[by simp[aH],λg h=>by simp at h]
 |(k,x)::r=>by
  let#[i1,i2]:=RU f v r;rw[show aH f v ((k,x)::r)=(if k=f then (k,v)::r else (k,x)::aH f v r) from Z];by_cases hk:k=f
  ·rw[aA hk];subst hk;exact#[by simp,λg h=>by simpa using h]
  ·rw[aq hk];apply#[?_,λg h=>?_]
   ·rw[eL];exact dI _ i1
   ·rw[eL] at h ⊢;rcases bZ.mp h with e|e
    ·exact bZ.mpr (.inl e)
    ·exact dI _ (i2 g e)
theorem YO(f:Str)(v:V):∀fs:List (Str × V),(aH f v fs).length<=fs.length+1
 |[]=>by simp[aH]
 |(k,x)::r=>by
  let ih:=YO f v r;rw[show aH f v ((k,x)::r)=(if k=f then (k,v)::r else (k,x)::aH f v r) from Z];by_cases hk:k=f
  ·rw[aA hk,iW,iW];omega
  ·rw[aq hk,iW,iW];omega
variable{v:V}{o:Option Aa}
theorem fq.some_of(r:fq (some v) o):∃u,o=some u/\RelV v u:=by
 cases o with
 |none=>exact (show False from r).elim
 |some u=>exact#[u,Z,r]
theorem fq.none_of(r:fq none o):o=none:=by
 cases o with
 |none=>rfl
 |some u=>exact (show False from r).elim
theorem hB_(r:RelV v u):PySem.W.handedIn u=true:=by
 cases v with
 |non=>cases (show u=Value.none from r);rfl
 |bl b=>cases (show u=Value.bool b from r);rfl
 |int i=>let#[t,e]:=(show ∃t,u=Value.int i t from r);cases e;rfl
 |str x=>let#[t,e]:=(show ∃t,u=Value.str x t from r);cases e;rfl
 |byt b=>let#[t,e]:=(show ∃t,u=Value.bytes b t from r);cases e;rfl
 |flt b=>let#[t,e]:=(show ∃t,u=Value.float b t from r);cases e;rfl
 |ref a=>cases (show u=Value.ref a from r);rfl
 |ty n=>cases (show u=Value.type n from r);rfl
section
variable{P:Ae}{w:Af}{H H':Hp}{h h':Heap}{a C dx:Addr}{fs fs':List (Str × V)}
theorem Lx(aN:gx P w H h)(e:H a=some (.ins C dx fs)):∃mA,o5 h a dx C mA/\(∀f,fq (fs.lookup f) (mA f))/\PySem.Within mA (fs.map (·.1))/\fs.length<=1000/\H dx=some (.own a):=by
 let#[d,z,ne,ob,mA,n,r,q]:=(show gm P w H h a (.ins C dx fs) from aN a _ e);exact#[mA,#[ob,n,ne],r,q,z,d]
end
structure o8 (K:af) (C:Addr):Prop where
 pg:PySem.W.plainGet K C Str.empty=true
 hd:PySem.W.hasDictIn K C=true
 po:PySem.W.plainOver K C=true
 sa:PySem.W.findIn K (.ref C) "__setattr__"=some (some (.builtin "object.__setattr__"))
theorem o8.get{K:af}{C:Addr}(c:o8 K C)(f:Str):PySem.W.plainGet K C f=true:=c.pg
def mI(K:af)(C:Addr)(f:Str):Prop:=PySem.W.findIn K (.ref C) f=some none
theorem mI.E9{K:af}{C:Addr}{f:Str}(n:mI K C f):PySem.W.takerIn K C f=some none:=by
 unfold PySem.W.takerIn;rw[show PySem.W.findIn K (.ref C) f=some none from n];rfl
structure Con (K:af) (C:Addr) (f:Str) (v:V) (u:Aa):Prop where
 at_:PySem.W.findIn K (.ref C) f=some (some u)
 rel:RelV v u
 get:PySem.W.specialIn K u "__get__"=some none
 cp:PySem.W.copiedNames.contains f=false
structure Meth (K:af) (C:Addr) (m:Str) (f:Addr):Prop where
 at_:PySem.W.findIn K (.ref C) m=some (some (.ref f))
 fn:PySem.W.isFn K (.ref f)=true
 kp:PySem.W.keepIn K (.ref f)=true
section
variable{X:Cx}{pins:List (Addr × Obj)}{σ:St}{H:Hp}{s:Ab}{a C dx:Addr}{fs:List (Str × V)}{f:Str}{v:V}{A:Ag}{E:Aa->Ab->Prop}
theorem gv_{b:Bool}{Q:Aa->Ab->Prop}(I:Inv X pins σ H s)(e:H a=some (.ins C dx fs))(c:o8 X.K C)(n:mI X.K C f)(l:fs.lookup f=some v)
  (h:∀u s',Inv X pins σ H s'->RelV v u->Q u s'):wpAny (model X.prog X.w) A (getAttr (.ref a) f b) Q E s:=by
 let#[mA,O,r,_,_,_]:=Lx I.aN e;let#[u,hu,ru]:=fq.some_of (v:=v) (o:=mA f) (by rw[<- l];exact r f);exact kM_ I.gK O (c.get f) c.hd n hu (hB_ ru) (h u _ (I.tok _) ru)
theorem YY{m:Str}{g:Addr}{Q:Aa × ax->Ab->Prop}(I:Inv X pins σ H s)(e:H a=some (.ins C dx fs))(c:o8 X.K C)(k:Meth X.K C m g)(l:fs.lookup m=none)(h:Q (.ref g,[.ref a]) s):wpAny (model X.prog X.w) A (getMethod (.ref a) m pl) Q E s:=by
 let#[mA,O,r,_,_,_]:=Lx I.aN e;have hn:mA m=none:=fq.none_of (by rw[<- l];exact r m);exact jp_ I.gK O (c.get m) k.at_ k.fn hn h
theorem gC_{y:V}{Q:Unit->Ab->Prop}(I:Inv X pins σ H s)(e:H a=some (.ins C dx fs))(c:o8 X.K C)(n:mI X.K C f)(hl:fs.length<1000)(ry:RelV y u)(h:∀s',Inv X pins σ (upd H a (.ins C dx (aH f y fs))) s'->Q () s'):wpAny (model X.prog X.w) A (setAttr (.ref a) f u) Q E s:=by
 let#[mA,O,r,wi,_,ho]:=Lx I.aN e;have hz:(fs.map (·.1)).length<=sizeLine:=by rw[ao,b_];omega
 apply ln_ I.gK O c.sa c.po n.E9 c.hd wi hz λh' O' sb=>h _ ?_;have hd:∃o,h'.get? dx=some o:=let #[o,_,_,e',_]:=O'.ns;#[o,e'];apply I.write (x:=a) (e:=dx) (by rw[e];exact True.intro) (.inr ho) (λb q hb z=>(sb.2 b hb).trans z) hd ?_;apply#[by rw[au O.ne];exact ho,?_,O.ne,O'.obj,_,O'.ns,λg=>?_,λg hg=>?_]
 ·have:=YO f y fs;omega
 ·show fq ((aH f y fs).lookup g) (if g=f then some u else mA g);rw[fH];by_cases q:g=f
  ·rw[aA q,aA q];exact ry
  ·rw[aq q,aq q];exact r g
 ·by_cases q:g=f
  ·rw[q];exact (RU f y fs).1
  ·apply (RU f y fs).2 g (wi g λz=>hg ?_);show (if g=f then some u else mA g)=none;rw[aq q];exact z
theorem Inv.made(I:Inv X pins σ H s):Inv X pins σ (upd (upd H s.heap.objs.size (.own (s.heap.objs.size+1))) (s.heap.objs.size+1) (.ins C s.heap.objs.size []))
  { s with heap:=(s.heap.push PySem.W.emptyDict).push (PySem.W.instObj C s.heap.objs.size) }:=by
 have e1:(s.heap.push PySem.W.emptyDict).get? s.heap.objs.size=some PySem.W.emptyDict:=fG s.heap Z
 have e2:((s.heap.push PySem.W.emptyDict).push (PySem.W.instObj C s.heap.objs.size)).get? (s.heap.objs.size+1)=some (PySem.W.instObj C s.heap.objs.size):=by
  have:=fG (s.heap.push PySem.W.emptyDict) (o:=PySem.W.instObj C s.heap.objs.size) Z;rwa [Heap.size_push] at this
 have e3:(s.heap.push PySem.W.emptyDict).Ns s.heap.objs.size (λ_=>none):=#[PySem.W.emptyDict,#[],_,e1,Z,(λe he=>absurd he Z2),λ_=>rfl];let I1:=I.laid (a:=s.heap.objs.size) (o:=.own (s.heap.objs.size+1)) (h':=s.heap.push PySem.W.emptyDict) (t':=s.toks) (λb u q=>cU _ q) (bp _) #[_,e1];apply I1.laid (a:=s.heap.objs.size+1) (o:=.ins C s.heap.objs.size []) (t':=s.toks) (λb u q=>cU _ q) (Nat.le_of_eq (Heap.size_push _ _)) ?_;have ne:s.heap.objs.size≠s.heap.objs.size+1:=eV (Nat.lt_succ_self _);apply#[by rw[au ne,az],gG _,ne,e2,λ_=>none,(Heap.Ns1.of_empty e3).at λo q=>cU _ q,λ_=>True.intro,λy hy=>absurd Z hy]
theorem lE_{prog:Ae}{env:Env}{e:Expr}{f:Str}{s:Ab}{Q:Aa->Ab->Prop}(hb:attributeBase e f env (eval e env)=eval e env)(h:wpAny (model prog w) A (eval e env) (λo bf=>wpAny (model prog w) A (getAttr o f true) Q E bf) E s):wpAny (model prog w) A (eval (.Attribute e f pos) env) Q E s:=
 Attribute_any_ h (by rw[arm_eval_Attribute,hb])
end
inductive zA (K:af) (f:Str) (Q:VK) (x:V) (H1:Hp):Prop
 |mk:∀a C dx fs v,x=.ref a->H1 a=some (.ins C dx fs)->o8 K C->mI K C f->fs.lookup f=some v->Q v H1->zA K f Q x H1
def MV(K:af)(ta:TE)(f:Str):TE:=λσ H Q=>ta σ H λx H1=>zA K f Q x H1
inductive zG (K:af) (f:Str) (D:Ends) (σ:St) (y:V) (x:V) (H2:Hp):Prop
 |mk:∀a C dx fs,x=.ref a->H2 a=some (.ins C dx fs)->o8 K C->mI K C f->fs.length<1000->D.nx σ (upd H2 a (.ins C dx (aH f y fs)))->zG K f D σ y x H2
def Nk(K:af)(ta tv:TE)(f:Str):TS:=λD σ H=>tv σ H λy H1=>ta σ H1 λx H2=>zG K f D σ y x H2
def Ke(X:Cx)(op:Operator)(rd:V->V->Hp->VK->Prop):Prop:=
 ∀(pins:List (Addr × Obj)) (s:Ab) (σ:St) (H:Hp) (x y:V) (u v:Aa) (Q:VK),Inv X pins σ H s->RelV x u->RelV y v->rd x y H Q->wpAny (model X.prog X.w) X.A (inplaceOp op u v) (EP X pins σ Q) X.xe s
section
variable{X:Cx}{o e value:Expr}{f:Str}{pos pos' E6:Pos}{ta tv:TE}
theorem eE(he:PE X e ta)(hb:attributeBase e f X.env (eval e X.env)=eval e X.env):PE X (.Attribute e f pos) (MV X.K ta f):=by
 intro pins s σ H Q I h;apply lE_ hb (a_ (he pins s σ H _ I h) λu s1 ⟨x,H1,I1,rx,a,C,dx,fs,v,ex,ea,c,n,l,q⟩=>?_);subst ex;obtain rfl:u=Value.ref a:=rx;exact gv_ I1 ea c n l λu' s2 I2 ru=>#[v,H1,I2,ru,q]
theorem xa(ha:PE X o ta)(hv:PE X value tv)(hs:swapsWith value (some (.Attribute o f pos')) pos.line X.env=pure false):PS X (.Assign [.Attribute o f pos'] value pos) (Nk X.K ta tv f):=by
 intro pins s σ H D I h;apply plainObj_wpAny_Assign_Attribute (a_ (hv pins s σ H _ I h) λu s1 ⟨y,H1,I1,ry,q⟩=>a_ (ha pins s1 σ H1 _ I1 q) λov s2 ⟨x,H2,I2,rx,a,C,dx,fs,ex,ea,c,n,l,q2⟩=>?_) hs;subst ex;obtain rfl:ov=Value.ref a:=rx;exact gC_ I2 ea c n l ry λs3 I3=>#[σ,_,I3,q2]
inductive FP (x:V) (y:V) (H:Hp) (Q:VK):Prop
 |mk:∀i j,x=.int i->y=.int j->Q (.int (i+j)) H->FP x y H Q
theorem lJ_:Ke X .Add FP:=by
 rintro pins s σ H x y u v Q I rx ry ⟨i,j,rfl,rfl,q⟩;let#[t,rfl]:=(show ∃t,u=Value.int i t from rx);let#[t',rfl]:=(show ∃t',v=Value.int j t' from ry);exact PyProof.Rows.iadd_int ⟨.int (i+j),H,I.tok _,⟨_,rfl⟩,q⟩
end
section
variable{X:Cx}{pins:List (Addr × Obj)}{σ:St}{H:Hp}{s:Ab}{A:Ag}{E:Aa->Ab->Prop}{Q:Aa->Ab->Prop}{c:Aa}{b:Bool}
inductive gi (K:af) (H:Hp):V->Aa->Prop where
 |non:gi K H .non (.type "NoneType")
 |bl (x:Bool):gi K H (.bl x) (.type "bool")
 |int (i:Int):gi K H (.int i) (.type "int")
 |str (x:Str):gi K H (.str x) (.type "str")
 |flt (x:UInt64):gi K H (.flt x) (.type "float")
 |lst {a:Addr} {xs:ai} (e:H a=some (.lst xs)):gi K H (.ref a) (.type "list")
 |frz {a:Addr} {o:Obj} {xs:ai} (e:H a=some (.frz o (.lst xs))):gi K H (.ref a) (.type "list")
 |tup {a:Addr} {xs:ai} (e:H a=some (.tup xs)):gi K H (.ref a) (.type "tuple")
 |dK {a:Addr} {kvs:List (Key × V)} (e:H a=some (.dK kvs)):gi K H (.ref a) (.type "dict")
 |dT {a:Addr} {kvs:List (aM × V)} (e:H a=some (.dT kvs)):gi K H (.ref a) (.type "dict")
 |ins {a C dx:Addr} {fs:List (Str × V)} (e:H a=some (.ins C dx fs)) (cl:o8 K C) (ha:PySem.W.findIn K (.ref C) "__class__"=some (some (.builtin "object.__class__")))
   (hn:PySem.W.specialIn K (.builtin "object.__class__") "__get__"=some (some (.builtin "getset_descriptor.__get__"))) (KR:PySem.W.takesIn K (.builtin "object.__class__")=some true)
   (hm:PySem.W.mroIn K C (.type "object")=some true):gi K H (.ref a) (.ref C)
theorem Yk{x:V}{t:Aa}(I:Inv X pins σ H s)(rx:RelV x u)(ty:gi X.K H x t)(e:PySem.W.kitOne X.K t c=some b)(h:∀tk,Q (.bool b) { s with toks:=tk }) :
  wpAny (model X.prog X.w) A (call (.builtin "isinstance") [u,c]) Q E s:=by
 cases ty with
 |non=>cases (show u=Value.none from rx);exact vG PySem.W.kitx_none I.gK True.intro e nofun h
 |bl y=>cases (show u=Value.bool y from rx);exact vG PySem.W.kitx_bool I.gK True.intro e nofun h
 |int i=>let#[t,q]:=(show ∃t,u=Value.int i t from rx);cases q;exact vG PySem.W.kitx_int I.gK True.intro e nofun h
 |str y=>let#[t,q]:=(show ∃t,u=Value.str y t from rx);cases q;exact vG PySem.W.kitx_str I.gK True.intro e nofun h
 |flt y=>let#[t,q]:=(show ∃t,u=Value.float y t from rx);cases q;exact vG PySem.W.kitx_float I.gK True.intro e nofun h
 |@lst a xs ea=>
  cases (show u=Value.ref a from rx);let#[_,_,n,_,h1]:=(show gm X.prog X.w H s.heap a (.lst xs) from I.aN a _ ea);exact vG PySem.W.kitx_list I.gK #[_,h1,Z] e nofun h
 |@frz a ob xs ea=>
  cases (show u=Value.ref a from rx);let#[_,_,_,n,_,h1]:=(show gm X.prog X.w H s.heap a (.frz ob (.lst xs)) from I.aN a _ ea);exact vG PySem.W.kitx_list I.gK #[_,h1,Z] e nofun h
 |@tup a xs ea=>
  cases (show u=Value.ref a from rx);let#[_,_,_,p,_]:=(show gm X.prog X.w H s.heap a (.tup xs) from I.aN a _ ea);let#[o,h1,h2,_]:=p;exact vG PySem.W.kitx_tuple I.gK #[o,h1,h2] e nofun h
 |@dK a kvs ea=>
  cases (show u=Value.ref a from rx);let#[_,_,vs,_,p]:=(show gm X.prog X.w H s.heap a (.dK kvs) from I.aN a _ ea);let#[o,es,ep,h1,h2,_]:=p;exact vG PySem.W.kitx_dict I.gK #[o,h1,h2.1] e nofun h
 |@dT a kvs ea=>
  cases (show u=Value.ref a from rx);let#[_,_,xs,_,o,es,ep,h1,h2,_]:=(show gm X.prog X.w H s.heap a (.dT kvs) from I.aN a _ ea);exact vG PySem.W.kitx_dict I.gK #[o,h1,h2.1] e nofun h
 |@ins a C dx fs ea cl ha hn KR hm=>
  cases (show u=Value.ref a from rx);let#[mA,O,_]:=Lx I.aN ea;let#[od,J,_]:=O.look;exact vG (PySem.W.kitx_own (cl.get _) cl.hd ha hn KR hm) I.gK J e nofun h
end
structure ba (k:Nat) (A:Ag):Prop where
 hd:A.handled=none
 dp:A.depth+3 * k+5<recursionLimit
 un:A.units+16 * k+200<cLine
variable{j:Nat}
theorem ba.mono{A:Ag}(r:ba k A)(h:j<=k):ba j A:=#[r.hd,by have:=r.dp;omega,by have:=r.un;omega]
theorem ba.deeper{A:Ag}(r:ba (k+1) A)(env:Env):ba k (A.deeper env):=
 #[r.hd,by have:=r.dp;show A.depth+1+3 * k+5<_;omega,by have:=r.un;show A.units+3+16 * k+200<_;omega]
theorem ba.in1{A:Ag}(r:ba (k+1) A):ba k A.in1:=
 #[r.hd,by have:=r.dp;show A.depth+3 * k+5<_;omega,by have:=r.un;show A.units+1+16 * k+200<_;omega]
theorem gs_{A:Ag}{C:Addr}{us:ax}:(A.under (.builtin "type.__call__" #[.ref C::us,kw])).depth=A.depth+1:=by
 first|rfl|simp[Around.under,Code.weight,Code.isCreation,Code.isGuard,Code.isCaller,Code.frames,Code.isFrame,guardIds]
theorem gL_{A:Ag}{C:Addr}{us:ax}:(A.under (.builtin "type.__call__" #[.ref C::us,kw])).units=A.units+1:=by
 first|rfl|simp[Around.under,Code.cUnits,Code.frames,Code.isFrame]
theorem ba.make{A:Ag}(r:ba (k+1) A)(C:Addr)(us:ax)(kw:List (Str × Aa)):ba k (A.under (.builtin "type.__call__" #[.ref C::us,kw])):=
 #[r.hd,by have:=r.dp;rw[gs_];omega,by have:=r.un;rw[gL_];omega]
theorem ba.depth{A:Ag}(r:ba k A):A.depth<recursionLimit:=by have:=r.dp;omega
theorem ba.units{A:Ag}(r:ba k A):A.units+64<cLine:=by have:=r.un;omega
theorem ba.A1{A:Ag}(r:ba k A):A.units<cLine:=by have:=r.un;omega
def jI:TA:=λ_ H Q=>Q [] H
def kA(ta:TE)(tr:TA):TA:=λσ H Q=>ta σ H λx H1=>tr σ H1 λxs H2=>Q (x::xs) H2
section
variable{X:Cx}{e:Expr}{es:List Expr}{te:TE}{t:TA}{pos:Pos}
theorem aJ:PA X [] jI:=λ_ _ _ _ H Q I h=>Calls.spliced_nil #[[],H,I,.nil,h]
theorem dD(ha:PE X e te)(hr:PA X es t)(hs:starEach (e::es) X.env=(false,eval e X.env)::starEach es X.env:=by rfl):PA X (e::es) (kA te t):=by
 intro pos pins s σ H Q I h;rw[hs];show wpAny _ _ (spliced ((false,eval e X.env)::backTo pos (starEach es X.env))) _ _ s;apply Calls.spliced_cons (a_ (ha pins s σ H _ I h) λu s1 ⟨x,H1,I1,r1,q1⟩=>?_);exact a_ (hr pos pins s1 σ H1 _ I1 q1) λus s2 ⟨xs,H2,I2,r2,q2⟩=>#[x::xs,H2,I2,.cons r1 r2,q2]
def E_(t:TA):TE:=λσ H Q=>t σ H λxs H1=>xs.length<=sizeLine/\∀p,H1 p=none->Q (.ref p) (upd H1 p (.tup xs))
def MQ(t:TA):TE:=λσ H Q=>t σ H λxs H1=>xs.length<=sizeLine/\∀p,H1 p=none->Q (.ref p) (upd H1 p (.lst xs))
theorem eW{x1}(h:PA X es t):PE X (.Tuple es x1 pos) (E_ t):=by
 intro pins s σ H Q I hq;apply wpAny_Tuple_spliced (a_ (h pos pins s σ H _ I hq) λus s1 ⟨xs,H1,I1,r,z,q⟩=>#[by rw[<- r.length];exact z,?_]);have hf:H1 s1.heap.objs.size=none:=I1.aN.fresh (bp _);apply#[.ref s1.heap.objs.size,upd H1 s1.heap.objs.size (.tup xs),I1.laid (t':=s1.toks) (λb u e=>cU _ e) (bp _) ?_,Z,q _ hf];exact#[z,us,r,#[_,fG _ Z,Z,_,Z],_,fG _ Z,Z]
theorem cO(h:PA X es t):PE X (.List es pos) (MQ t):=by
 intro pins s σ H Q I hq;apply wpAny_List_spliced (a_ (h pos pins s σ H _ I hq) λus s1 ⟨xs,H1,I1,r,z,q⟩=>#[by rw[<- r.length];exact z,?_]);have hf:H1 s1.heap.objs.size=none:=I1.aN.fresh (bp _);apply#[.ref s1.heap.objs.size,upd H1 s1.heap.objs.size (.lst xs),I1.laid (t':=s1.toks) (λb u e=>cU _ e) (bp _) ?_,Z,q _ hf];exact#[z,us,0,r,fG _ Z]
end
abbrev Sp:=ai->Hp->VK->XK->Prop
abbrev xE:=List Env->Hp->Ab->XK->Aa->Ab->Prop
structure jt (P:Ae) (w:Af) (K:af) (mg:Str->Option Aa) (base:Heap) (A:Ag) (outer:List Env) (s:Ab) (H:Hp):Prop where
 frames:A.frames=some outer
 mod:Mod K mg base
 bs:∀b o,base.get? b=some o->s.heap.get? b=some o/\H b=none
 vK:base.objs.size<=s.heap.objs.size
 gC:s.heap.FunFrames base outer
 yF:∀b∈rE outer,H b=none
 aN:gx P w H s.heap
 bare:AllBare s.gens
def CE(outer:List Env)(P:Ae)(w:Af)(H:Hp)(s:Ab)(Q:VK)(u:Aa)(s':Ab):Prop:=
 ∃v H',s'.os=s.os/\AllBare s'.gens/\Un (rE outer) [] H H' s.heap s'.heap/\gx P w H' s'.heap/\RelV v u/\Q v H'
def CR(CX:xE)(outer:List Env)(P:Ae)(w:Af)(H:Hp)(s:Ab)(Q:VK)(E:XK)(r:Result)(s':Ab):Prop:=
 match r with
 |.ok (.ret u)=>CE outer P w H s Q u s'
 |.ok _=>False
 |.error e=>CX outer H s E e s'
structure aj (P:Ae) (w:Af) (K:af) (mg:Str->Option Aa) (base:Heap) (CX:xE) (k:Nat) (f:Addr) (fd:Ad) (ps:ae) (sp:Sp):Prop where
 len:∀vs H Q E,sp vs H Q E->vs.length=ps.length
 run:∀(A:Ag) (outer:List Env) (s:Ab) (H:Hp) (args:Args) (us:ax) (vs:ai) (Q:VK) (E:XK),ba k A->jt P w K mg base A outer s H->BindsTo s fd args (ps.zip us)->Vals vs us->sp vs H Q E->
  codeAny (model P w) A (.call (.ref f) args) (CR CX outer P w H s Q E) s
variable{K:af}{f:Addr}{mg:Str->Option Aa}{base:Heap}{CX:xE}{fd:Ad}{ps:ae}
theorem aj.mono{sp:Sp}(F:aj P w K mg base CX j f fd ps sp)(h:j<=k) :
  aj P w K mg base CX k f fd ps sp:=#[F.len,λA outer s H args us vs Q E hr=>F.run A outer s H args us vs Q E (hr.mono h)]
variable{H:Hp}{A:Ag}{outer:List Env}
theorem jt.make{s:Ab}(e:jt P w K mg base A outer s H)(C:Addr)(us:ax)(kw:List (Str × Aa)) :
  jt P w K mg base (A.under (.builtin "type.__call__" #[.ref C::us,kw])) outer s H:=#[by first|exact e.frames|(simpa [Around.under,Code.envs,Code.isFrame,pushEnvs] using e.frames),e.mod,e.bs,e.vK,e.gC,e.yF,e.aN,e.bare]
section
variable{X:Cx}{pins:List (Addr × Obj)}{σ:St}{H:Hp}{s s':Ab}
theorem Inv.Cr(I:Inv X pins σ H s):jt X.prog X.w X.K X.mg X.base X.A X.stack s H:=
 #[I.ok.frames,I.ok.mod,I.bs,qC I.ok.vK I.sz,I.stack,I.pF,I.aN,I.bare]
theorem Inv.after{Q:VK}(I:Inv X pins σ H s)(h:CE X.stack X.prog X.w H s Q u s'):EP X pins σ Q u s':=by
 let#[v,H',os,bare,un,aN,r,q]:=h;let#[hh,g,d,t,os']:=s';obtain rfl:os'=s.os:=os;exact#[v,H',I.call (h':=hh) (g':=g) (d':=d) (t':=t) (ch:=[]) un aN bare (λb z=>absurd z Z2),r,q]
end
def pC(sp:Sp)(hW:ai)(E:XK)(t:TA):TE:=λσ H Q=>t σ H λvs H1=>sp (vs++hW) H1 Q E
inductive tm (C:Addr) (m:Str) (sp:Sp) (hW:ai) (E:XK) (t:TA) (σ:St) (Q:VK) (x:V) (H1:Hp):Prop
 |mk:∀a dx fs,x=.ref a->H1 a=some (.ins C dx fs)->fs.lookup m=none->(t σ H1 λvs H2=>sp (x::(vs++hW)) H2 Q E)->tm C m sp hW E t σ Q x H1
def pA(C:Addr)(m:Str)(sp:Sp)(hW:ai)(E:XK)(ta:TE)(t:TA):TE:=λσ H Q=>ta σ H λx H1=>tm C m sp hW E t σ Q x H1
def zw(C:Addr)(sp:Sp)(hW:ai)(E:XK)(t:TA):TE:=λσ H Q=>t σ H λvs H1=>∀x dx,H1 x=none->H1 dx=none->dx≠x->
 sp (.ref x::(vs++hW)) (upd (upd H1 dx (.own x)) x (.ins C dx [])) (λv H2=>v=.non/\Q (.ref x) H2) E
def rJ(K:af)(fd:Ad)(ps:ae)(ds:ax):Prop:=
 ∀(s:Ab) (us:ax),K.In s.heap->(us++ds).length=ps.length->BindsTo s fd #[us,[]] (ps.zip (us++ds))
theorem rJ.all(h:∀us:ax,us.length=ps.length->bindArgs fd #[us,[]]=pure (ps.zip us)):rJ K fd ps []:=λs us _ hl=>by
 rw[g_] at hl ⊢;exact .of_eq (h us hl)
def w9(CX:xE)(X:Cx)(E:XK):Prop:=∀(pins:List (Addr × Obj)) (σ:St) (H:Hp) (s:Ab) (e:Aa) (s':Ab),Inv X pins σ H s->CX X.stack H s E e s'->X.xe e s'
variable{E:XK}{Q:VK}{hW vs:ai}{sp:Sp}{ds:ax}
theorem Lf{s:Ab}{us:ax}(F:aj X.prog X.w X.K X.mg X.base CX k f fd ps sp)(hr:ba k X.A)(hb:rJ X.K fd ps ds)(hd:Vals hW ds)(hx:w9 CX X E)(I:Inv X pins σ H s)(r:Vals vs us)(h:sp (vs++hW) H Q E):wpAny (model X.prog X.w) X.A (call (.ref f) us) (EP X pins σ Q) X.xe s:=by
 have r2:Vals (vs++hW) (us++ds):=r.append hd;have hl:(us++ds).length=ps.length:=by rw[<- r2.length];exact F.len _ _ _ _ h
 apply wpAny_call (codeAny_mono (F.run X.A X.stack s H #[us,[]] (us++ds) (vs++hW) Q E hr I.Cr (hb s us I.gK hl) r2 h) λr s' hq=>?_);cases r with
 |error e=>exact hx pins σ H s e s' I hq
 |ok fl=>
  cases fl with
  |ret u=>exact I.after hq
  |next=>exact False.elim hq
  |brk=>exact False.elim hq
  |cont=>exact False.elim hq
variable{x:Str}{t:TA}{e:Expr}
theorem l9_(F:aj X.prog X.w X.K X.mg X.base CX k f fd ps sp)(hr:ba k X.A)(hg:Gl X x)(hm:X.mg x=some (.ref f))(hk:PySem.W.keepIn X.K (.ref f)=true)(hb:rJ X.K fd ps ds)(hd:Vals hW ds)(hx:w9 CX X E)
  (ha:PA X (e::es) t) (oJ:(x == ("__debug__":Str))=false:=by decide) (he:starEach (e::es) X.env=(false,eval e X.env)::starEach es X.env:=by rfl) (mm:(backTo pos (starEach es X.env)).any (·.1)=false:=by rfl) :
  PE X (.Call (.Name x p) (e::es) [] pos) (pC sp hW E t):=by
 intro pins s σ H Q I h;apply wpAny_Call_Name_kw (LF I hg hm ?_ oJ);apply PySem.W.callWith_K (h₀:=X.base) I.ok.mod.Gk hk (a_ (ha pos pins s σ H _ I h) λus s1 ⟨vs,H1,I1,r,q⟩=>#[I1.gK,?_]) he mm;exact Lf F hr hb hd hx I1 r q
theorem jM_(F:aj X.prog X.w X.K X.mg X.base CX k f fd ps sp)(hr:ba k X.A)(hg:Gl X x)(hm:X.mg x=some (.ref f))(hk:PySem.W.keepIn X.K (.ref f)=true)(hb:rJ X.K fd ps ds)(hd:Vals hW ds)(hx:w9 CX X E)
  (oJ:(x == ("__debug__":Str))=false:=by decide):PE X (.Call (.Name x p) [] [] pos) (pC sp hW E jI):=by
 intro pins s σ H Q I h;apply wpAny_Call_Name_kw (LF I hg hm ?_ oJ);exact PySem.W.callWith_K0 I.gK hk (Lf (us:=[]) F hr hb hd hx I .nil h)
variable{o:Expr}{ta:TE}{C:Addr}{m:Str}{apos:Pos}
theorem lh_(he:PE X o ta)(c:o8 X.K C)(hm:Meth X.K C m f)(F:aj X.prog X.w X.K X.mg X.base CX k f fd ps sp)(hr:ba k X.A)(hb:rJ X.K fd ps ds)(hd:Vals hW ds)(hx:w9 CX X E)(ha:PA X (e::es) t)(BN:starEach (e::es) X.env=(false,eval e X.env)::starEach es X.env:=by rfl)(mm:(backTo pos (starEach es X.env)).any (·.1)=false:=by rfl)(ht:eval (.Call (.Attribute o m apos) (e::es) [] pos) X.env=(do
   let ov <- eval o X.env
   standAt apos.atName
   let (f,first) <- holding [ov] (getMethod ov m pl)
   callWith pos f first (backTo pos (starEach (e::es) X.env)) (backToKw pos (keywordEach [] X.env))):=by rfl) :
  PE X (.Call (.Attribute o m apos) (e::es) [] pos) (pA C m sp hW E ta t):=by
 intro pins s σ H Q I h;apply PySem.W.methodCall_KW (pl:=pl) (a_ (he pins s σ H _ I h) λu s1 ⟨x,H1,I1,rx,a,dx,fs,ex,ea,l,q⟩=>?_) ht;subst ex;obtain rfl:u=Value.ref a:=rx;apply YY I1 ea c hm l ?_;apply PySem.W.callWith_K (first:=[.ref a]) (h₀:=X.base) I.ok.mod.Gk hm.kp (a_ (ha pos pins s1 σ H1 _ I1 q) λus s2 ⟨vs,H2,I2,r,q2⟩=>#[I2.gK,?_]) BN mm;exact Lf (us:=.ref a::us) (vs:=.ref a::vs) F hr hb hd hx I2 (.cons Z r) q2
theorem iO_(he:PE X o ta)(c:o8 X.K C)(hm:Meth X.K C m f)(F:aj X.prog X.w X.K X.mg X.base CX k f fd ps sp)(hr:ba k X.A)(hb:rJ X.K fd ps ds)(hd:Vals hW ds)(hx:w9 CX X E)(ht:eval (.Call (.Attribute o m apos) [] [] pos) X.env=(do
   let ov <- eval o X.env
   standAt apos.atName
   let (f,first) <- holding [ov] (getMethod ov m pl)
   callWith pos f first (backTo pos (starEach [] X.env)) (backToKw pos (keywordEach [] X.env))):=by rfl) :
  PE X (.Call (.Attribute o m apos) [] [] pos) (pA C m sp hW E ta jI):=by
 intro pins s σ H Q I h;apply PySem.W.methodCall_KW (pl:=pl) (a_ (he pins s σ H _ I h) λu s1 ⟨x,H1,I1,rx,a,dx,fs,ex,ea,l,q⟩=>?_) ht;subst ex;obtain rfl:u=Value.ref a:=rx;apply YY I1 ea c hm l ?_;exact PySem.W.callWith_K0 (first:=[.ref a]) I1.gK hm.kp (Lf (us:=[.ref a]) (vs:=[.ref a]) F hr hb hd hx I1 (.cons Z .nil) q)
structure Mk (K:af) (C f:Addr):Prop where
 makes:PySem.W.makesIn K C=true
 init:PySem.W.findIn K (.ref C) "__init__"=some (some (.ref f))
 fn:PySem.W.isFn K (.ref f)=true
 kp:PySem.W.keepIn K (.ref C)=true
theorem j9_{s:Ab}{us:ax}(M:Mk X.K C f)(F:aj X.prog X.w X.K X.mg X.base CX k f fd ps sp)(hr:ba (k+1) X.A)(hb:rJ X.K fd ps ds)(hd:Vals hW ds)(hx:w9 CX X E)(I:Inv X pins σ H s)(r:Vals vs us)(h:∀x dx,H x=none->H dx=none->dx≠x->sp (.ref x::(vs++hW)) (upd (upd H dx (.own x)) x (.ins C dx [])) (λv H2=>v=.non/\Q (.ref x) H2) E) :
  wpAny (model X.prog X.w) X.A (call (.ref C) us) (EP X pins σ Q) X.xe s:=by
 let hq:=h (s.heap.objs.size+1) s.heap.objs.size (I.aN.fresh (Nat.le_succ _)) (I.aN.fresh (bp _)) (eV (Nat.lt_succ_self _));let I2:=Inv.made (C:=C) I;have r2:Vals (V.ref (s.heap.objs.size+1)::(vs++hW)) (Value.ref (s.heap.objs.size+1)::(us++ds)):=.cons Z (r.append hd)
 have hl:(Value.ref (s.heap.objs.size+1)::us++ds).length=ps.length:=by
  let e:=r2.length;rw[F.len _ _ _ _ hq] at e;exact e.symm
 apply wpAny_call (jf_ (f:=f) I.gK M.makes M.init (beq_iff_eq.mp M.fn) (codeAny_mono (F.run _ X.stack _ _ #[Value.ref (s.heap.objs.size+1)::us,[]] (Value.ref (s.heap.objs.size+1)::(us++ds)) _ _ E (hr.make C us [])
  (I2.Cr.make C us []) (hb _ (Value.ref (s.heap.objs.size+1)::us) I2.gK hl) r2 hq) λr s' hq'=>?_))
 cases r with
 |error e=>exact hx pins σ _ _ e s' I2 hq'
 |ok fl=>
  cases fl with
  |ret u=>
   let#[v,H',I3,rv,ev,q3]:=I2.after hq';subst ev;exact#[rv,#[V.ref (s.heap.objs.size+1),H',I3,Z,q3]]
  |next=>exact False.elim hq'
  |brk=>exact False.elim hq'
  |cont=>exact False.elim hq'
theorem kv_(M:Mk X.K C f)(F:aj X.prog X.w X.K X.mg X.base CX k f fd ps sp)(hr:ba (k+1) X.A)(hg:Gl X x)(hm:X.mg x=some (.ref C))(hb:rJ X.K fd ps ds)(hd:Vals hW ds)(hx:w9 CX X E)
  (ha:PA X (e::es) t) (oJ:(x == ("__debug__":Str))=false:=by decide) (he:starEach (e::es) X.env=(false,eval e X.env)::starEach es X.env:=by rfl) (mm:(backTo pos (starEach es X.env)).any (·.1)=false:=by rfl) :
  PE X (.Call (.Name x p) (e::es) [] pos) (zw C sp hW E t):=by
 intro pins s σ H Q I h;apply wpAny_Call_Name_kw (LF I hg hm ?_ oJ);apply PySem.W.callWith_K (h₀:=X.base) I.ok.mod.Gk M.kp (a_ (ha pos pins s σ H _ I h) λus s1 ⟨vs,H1,I1,r,q⟩=>#[I1.gK,?_]) he mm;exact j9_ M F hr hb hd hx I1 r q
def PK(X:Cx)(Gj:List Keyword)(t:TA):Prop:=
 ∀(pos:Pos) (pins:List (Addr × Obj)) (s:Ab) (σ:St) (H:Hp) (Q:ai->Hp->Prop),Inv X pins σ H s->t σ H Q->wpAny (model X.prog X.w) X.A (evalAll ((backToKw pos (keywordEach Gj X.env)).map (·.2))) (AP X pins σ Q) X.xe s
theorem U9:PK X [] jI:=λ_ _ _ _ H Q I h=>wpAny_evalAll_nil #[[],H,I,.nil,h]
variable{Om:Pos}{Gj:List Keyword}{nm:Option Str}
theorem VD(ha:PE X e te)(hr:PK X Gj t):PK X (#[nm,e,Om]::Gj) (kA te t):=by
 intro pos pins s σ H Q I h;show wpAny _ _ (evalAll ((do let v <- eval e X.env;standAt pos;pure v)::(backToKw pos (keywordEach Gj X.env)).map (·.2))) _ _ s;apply wpAny_evalAll_cons (aO (a_ (ha pins s σ H _ I h) λu s1 ⟨x,H1,I1,r1,q1⟩=>aO (wpAny_standAt (bV ?_))));exact a_ (hr pos pins s1 σ H1 _ I1 q1) λus s2 ⟨xs,H2,I2,r2,q2⟩=>#[x::xs,H2,I2,.cons r1 r2,q2]
structure Tz (K:af) (fd:Ad) (ps ks:ae) (g:ax->ax->ax) (gV:ai->ai->ai):Prop where
 to:∀(s:Ab) (us ws:ax),K.In s.heap->(g us ws).length=ps.length->BindsTo s fd #[us,ks.zip ws] (ps.zip (g us ws))
 rel:∀{vs:ai} {us:ax} {zs:ai} {ws:ax},Vals vs us->Vals zs ws->Vals (gV vs zs) (g us ws)
structure bD (N P:ae) (sc:Scope):Prop where
 kind:sc.kind=.function
 co:sc.isCoroutine=false
 gen:sc.isGenerator=false
 nd:N.Nodup
 pre:N.take P.length=P
 par:∀x∈P,sc.names.lookup x=some .local∨sc.names.lookup x=some .cell
 BD:∀y∈sc.names,y.2≠.free
theorem Yo{kindOf:Str->Option NameKind}{x:Str}:∀{binds:List (Str × Aa)} {m:Str->Option Aa},(∀v,(x,v)∉binds)->bindL kindOf binds m x=m x
 |[],_,_=>rfl
 |(n,v)::r,m,h=>by
  unfold bindL;rw[Yo λw hw=>h w (dI _ hw)];split
  ·have:x≠n:=by rintro rfl;exact h v cZ
   simp[this]
  ·rfl
theorem Yx{kindOf:Str->Option NameKind}{x:Str}:∀{binds:List (Str × Aa)} {m:Str->Option Aa},(∀v,(x,v)∉binds)->bindC kindOf binds m x=m x
 |[],_,_=>rfl
 |(n,v)::r,m,h=>by
  unfold bindC;rw[Yx λw hw=>h w (dI _ hw)];split
  ·rfl
  ·have:x≠n:=by rintro rfl;exact h v cZ
   simp[this]
theorem Yl{kindOf:Str->Option NameKind}{x:Str}{v:Aa}:∀{P:ae} {vs:ax} {i:Nat} {m:Str->Option Aa},P.Nodup->P[i]? = some x->vs[i]? = some v->kindOf x=some .local->
  bindL kindOf (P.zip vs) m x=some v
 |[],_,_,_,_,h,_,_=>by simp at h
 |_::_,[],_,_,_,_,h,_=>by simp at h
 |p::P,w::vs,0,m,nd,h1,h2,hk=>by
  simp at h1 h2;subst h1;subst h2;show bindL kindOf ((p,w)::P.zip vs) m p=_;unfold bindL;rw[Yo λv hv=>(rQ.mp nd).1 (List.of_mem_zip hv).1,aA hk];simp
 |p::P,w::vs,i+1,m,nd,h1,h2,hk=>by
  show bindL kindOf ((p,w)::P.zip vs) m x=_;unfold bindL;exact Yl (i:=i) (rQ.mp nd).2 (by simpa using h1) (by simpa using h2) hk
theorem Yu{kindOf:Str->Option NameKind}{x:Str}{v:Aa}:∀{P:ae} {vs:ax} {i:Nat} {m:Str->Option Aa},P.Nodup->P[i]? = some x->vs[i]? = some v->kindOf x≠some .local->
  bindC kindOf (P.zip vs) m x=some v
 |[],_,_,_,_,h,_,_=>by simp at h
 |_::_,[],_,_,_,_,h,_=>by simp at h
 |p::P,w::vs,0,m,nd,h1,h2,hk=>by
  simp at h1 h2;subst h1;subst h2;show bindC kindOf ((p,w)::P.zip vs) m p=_;unfold bindC;rw[Yx λv hv=>(rQ.mp nd).1 (List.of_mem_zip hv).1,aq hk];simp
 |p::P,w::vs,i+1,m,nd,h1,h2,hk=>by
  show bindC kindOf ((p,w)::P.zip vs) m x=_;unfold bindC;exact Yu (i:=i) (rQ.mp nd).2 (by simpa using h1) (by simpa using h2) hk
def start(N:ae)(vs:ai):St:=vs.map some++List.replicate (N.length - vs.length) none
def lC(CX:xE)(P:Ae)(w:Af)(K:af)(mg:Str->Option Aa)(base:Heap)(N:ae)(qual:Str)(scope:Scope)(f:Addr)(cd:Aa)(A:Ag)(outer:List Env)(s:Ab)(H:Hp)(E:XK):Cx where
 prog:=P
 w:=w
 K:=K
 mg:=mg
 base:=base
 A:=A.deeper (envOfC qual scope s.heap.objs.size f cd)
 N:=N
 dA:=s
 lX:=H
 env:=envOfC qual scope s.heap.objs.size f cd
 outer:=outer
 stack:=envOfC qual scope s.heap.objs.size f cd::outer
 ex:=[]
 calm:=true
 fn:=λ_=>true
 pn:=[]
 xe:=λe s'=>wpAny (model P w) (A.deeper (envOfC qual scope s.heap.objs.size f cd)) (leaving (envOfC qual scope s.heap.objs.size f cd) e) (λ_ rY=>CX outer H s E e rY) (λe' rY=>CX outer H s E e' rY) s'
theorem WW{sc:Scope}(h:sc.names.lookup x=some .cell):∃c,(cellsFrom n sc.names []).lookup x=some c:=by
 let q:=PySem.W.cellsFrom_some sc.names n [] (.inl h);exact ES.mp q
variable{N:ae}{qual:Str}{scope:Scope}
theorem h4_{cd:Aa}{s s1:Ab}{us:ax}(S:bD N ps scope)(hd:A.handled=none)(e0:jt P w K mg base A outer s H)(hl:vs.length=ps.length)(r:Vals vs us)(x:InCallC s s.heap.objs.size (bindL (envOfC qual scope s.heap.objs.size f cd).kindOf (ps.zip us) λ_=>none) (cellsFrom (s.heap.objs.size+1) scope.names []) (bindC (envOfC qual scope s.heap.objs.size f cd).kindOf (ps.zip us) λ_=>none) s1) :
  Inv (lC CX P w K mg base N qual scope f cd A outer s H E) [] (start N vs) H s1:=by
 have mm:ps.length<=N.length:=by have:=d8 List.length S.pre;rw[dg] at this;omega
 let#[h1,tk,rfl,hk]:=x.done;have yk:∀b:Addr,b∉(lC CX P w K mg base N qual scope f cd A outer s H E).ex:=λb z=>absurd (show b∈([]:ay) from z) Z2
 apply#[#[e0.mod,S.kind,Z,Z,bp _,λy z c h1 h2=>?_,λy hy=>?_,λy c _ h=>?_,λ_=>hd,Around.frames_deeper e0.frames,.inr #[Z,Z],λb z=>absurd z (yk b),e0.bs,e0.vK,λb _ _=>yk b,λb z=>absurd z (yk b),e0.gC,e0.yF],
  rfl,e0.bare,Un.kept hk,#[_,x.toInCall.ns,λi y v h1 h2 h3=>?_],λy c h=>#[_,x.cell y c h],e0.aN.fresh (bp _),λy c h=>?_,λp hp=>absurd (show p∈([]:List (Addr × Obj)) from hp) Z2,e0.aN.kept hk,?_]
 ·exact name_of_addr x.apart (rO h1) (rO h2)
 ·have hy:scope.names.lookup y=some .cell∨scope.names.lookup y=some .free:=hy;rcases hy with hy|hy
  ·exact WW hy
  ·exact absurd Z (S.BD _ (rO hy))
 ·exact Nat.le_of_lt (x.above y c (rO h))
 ·have hi:i<vs.length:=by
   unfold start at h2;by_cases hi:i<vs.length
   ·exact hi
   ·rw[AR (by simpa using hi)] at h2;rw[List.getElem?_replicate] at h2;split at h2<;>cases h2
  have ha:vs[i]? = some v:=by
   unfold start at h2;rw[Dh (by simpa using hi),dW] at h2;cases e:vs[i]? with
   |none=>rw[e] at h2;cases h2
   |some a=>rw[e] at h2;cases h2;rfl
  let#[u,hu,rv]:=r.get ha
  have hp:ps[i]? = some y:=by
   rw[<- S.pre,List.getElem?_take_of_lt Z1];exact h1
  have KG:ps.Nodup:=by rw[<- S.pre];exact S.nd.sublist (List.take_sublist _ _)
  apply#[u,rv,?_];rcases S.par y (cw hp) with k|k
  ·exact .inl #[k,Yl KG hp hu k]
  ·let#[c,e]:=WW (n:=s.heap.objs.size+1) k;apply .inr #[.inl k,c,e,?_];let q:=x.cell y c e;rw[Yu KG hp hu (by show scope.names.lookup y≠_;rw[k];decide)] at q;exact q
 ·exact e0.aN.fresh (Nat.le_of_lt (x.above y c (rO h)))
 ·unfold start;show _=N.length;rw[eA,ao,xu];omega
theorem UE{name:Str}{params:Arguments}{dV kV doc pm aR ct oc:Aa}{an od:Option Addr}{mh:Array (Option Aa)}(lk:K.lookup f=some #[oc,od,.func (PySem.W.fnOf name qual params body scope dV kV doc pm an aR ct),mh])(iQ:PySem.W.codeIn K aR qual=true)(S:bD N ps scope)(len:∀vs H Q E,sp vs H Q E->vs.length=ps.length)(gB:∀(A:Ag) (outer:List Env) (s:Ab) (H:Hp) (vs:ai) (Q:VK) (E:XK),ba k (A.deeper (envOfC qual scope s.heap.objs.size f aR))->sp vs H Q E->
   ∃t,mL (lC CX P w K mg base N qual scope f aR A outer s H E) body t/\t { nx:=λ_ H'=>Q .non H',rt:=Q } (start N vs) H) :
  aj P w K mg base CX (k+1) f (PySem.W.fnOf name qual params body scope dV kV doc pm an aR ct) ps sp:=by
 apply#[len,λA outer s H args us vs Q E hr e0 hb r mi=>?_];let hl:=len _ _ _ _ mi;have KX:K.In s.heap:=e0.mod.Gk.keeps λb o e=>(e0.bs b o e).1;have lim:s.heap.NoLimit:=e0.mod.nolimit.keeps λb o e=>(e0.bs b o e).1
 have G4:∀y∈ps.zip us,scope.names.lookup y.1=some .local∨(scope.names.lookup y.1=some .cell/\((cellsFrom (s.heap.objs.size+1) scope.names []).lookup y.1).isSome=true):=λ⟨n,v⟩ hy=>by
  rcases S.par n (List.of_mem_zip hy).1 with q|q
  ·exact .inl q
  ·exact .inr #[q,PySem.W.cellsFrom_some _ _ _ (.inl q)]
 apply codeAny_call_function hr.depth (KX _ _ lk) Z S.co S.gen Z (PySem.W.codeRec_of KX iQ) (hb _ _ _ _ ?_);apply wpAny_newFunctionEnv_cells S.kind G4 λenv he s1 x=>?_;subst he;apply#[lim.keeps x.toInCall.keep,codeAny_func ?_];let#[t,ht,hq]:=gB A outer s H vs Q E (hr.deeper _) mi;have I:Inv (lC CX P w K mg base N qual scope f aR A outer s H E) [] (start N vs) H s1:=h4_ S hr.hd e0 hl r x;apply wpAny_mono (ht [] s1 (start N vs) H _ I hq) (λfl s' hs=>?_) λe s' hs=>hs
 have fin:∀{bw:St} {H':Hp} {v:V} {u:Aa},Inv (lC CX P w K mg base N qual scope f aR A outer s H E) [] bw H' s'->RelV v u->Q v H'->CE outer P w H s Q u s':=
  λ{bw H' v u} J rv q=>#[v,H',J.os,J.bare,J.base,J.aN,rv,q]
 cases fl with
 |ret u=>
  let#[v,bw,H',J,rv,q]:=hs;exact fin J rv q
 |next=>
  let#[bw,H',J,q]:=hs;exact fin (v:=V.non) (u:=Value.none) J Z q
 |brk=>
  let#[_,_,_,q]:=hs;exact False.elim q
 |cont=>
  let#[_,_,_,q]:=hs;exact False.elim q
def TX(r:ai->Hp->VK->Prop)(t:TA):TE:=λσ H Q=>t σ H λvs H1=>r vs H1 Q
variable{r:ai->Hp->VK->Prop}{id:String}
theorem cX(hc:gY X (.builtin id) r)(hg:Gl X x)(hm:X.mg x=none)(hv:bootBuiltins x=some (.builtin id))(ha:PA X (e::es) t)(hn:x≠"__name__":=by decide)(oJ:(x == ("__debug__":Str))=false:=by decide)
  (he:starEach (e::es) X.env=(false,eval e X.env)::starEach es X.env:=by rfl) (mm:(backTo pos (starEach es X.env)).any (·.1)=false:=by rfl):PE X (.Call (.Name x p) (e::es) [] pos) (TX r t):=by
 intro pins s σ H Q I h;apply wpAny_Call_Name_kw (Ej I hg hm hv ?_ hn oJ);exact PyProof.Rows.callWith_builtin1 (a_ (ha pos pins s σ H _ I h) λus s1 ⟨vs,H1,I1,r1,q1⟩=>hc pins s1 σ H1 vs us Q I1 r1 q1) he mm
variable{T:String}
theorem iD(hc:gY X (.type T) r)(hg:Gl X x)(hm:X.mg x=none)(hv:bootBuiltins x=some (.type T))(ha:PA X (e::es) t)(hn:x≠"__name__":=by decide)(oJ:(x == ("__debug__":Str))=false:=by decide)
  (he:starEach (e::es) X.env=(false,eval e X.env)::starEach es X.env:=by rfl) (mm:(backTo pos (starEach es X.env)).any (·.1)=false:=by rfl):PE X (.Call (.Name x p) (e::es) [] pos) (TX r t):=by
 intro pins s σ H Q I h;apply wpAny_Call_Name_kw (Ej I hg hm hv ?_ hn oJ);exact PyProof.Rows.callWith_type1 (a_ (ha pos pins s σ H _ I h) λus s1 ⟨vs,H1,I1,r1,q1⟩=>hc pins s1 σ H1 vs us Q I1 r1 q1) he mm
end L2
local macro_rules|`(!$f:ident $a*)=>if [`br,`o9,`bG,`aj,`jF].contains f.getId then let i:=Lean.mkIdent;`($f $(i `P) $(i `w) $(i `K) $(i `mg) $(i `base) $a*)else Lean.Macro.throwUnsupported
namespace HT
open PySem PyProof.Rows
section
open PySem.SeqAt
open PySem.AutoSeq1 (wpAny_loadPart')
open PySem.MeetsSeq PySem.MeetsSeq2 PySem.MeetsSeq3
end
def kI(n d:Nat):Option Int->Nat
 |none=>d
 |some v=>if v<0 then (v+(n:Int)).toNat else min v.toNat n
theorem kG(n d:Nat):kI n d none=d:=rfl
theorem pT(n d k:Nat):kI n d (some (k:Int))=min k n:=by
 show (if (k:Int)<0 then ((k:Int)+(n:Int)).toNat else min (k:Int).toNat n)=min k n;rw[aq Z1,zd]
end HT
namespace L2
open PySem PySem.Spec PyProof.Rows
abbrev TO:=St->Hp->(Option Int->Hp->Prop)->Prop
def PO(X:Cx)(e:Option Expr)(t:TO):Prop:=
 ∀(pins:List (Addr × Obj)) (s:Ab) (σ:St) (H:Hp) (Q:Option Int->Hp->Prop),Inv X pins σ H s->t σ H Q->
  wpAny (model X.prog X.w) X.A (evalPart e X.env) (λu s'=>∃o H',Inv X pins σ H' s'/\IsPart u o/\Q o H') X.xe s
def xM:TO:=λ_ H Q=>Q none H
inductive sZ (Q:Option Int->Hp->Prop) (x:V) (H1:Hp):Prop
 |mk:∀i,x=.int i->Q (some i) H1->sZ Q x H1
def Fc(t:TE):TO:=λσ H Q=>t σ H λx H1=>sZ Q x H1
section
variable{X:Cx}{e:Expr}{te:TE}{lo hi:Option Expr}{tl th:TO}{pos p2:Pos}
theorem xb:PO X none xM:=by
 intro pins s σ H Q I h;rw[evalPart_none];exact bV #[none,H,I,.none,h]
theorem xc(h:PE X e te):PO X (some e) (Fc te):=by
 intro pins s σ H Q I hw;rw[evalPart_some];apply a_ (h pins s σ H _ I hw) λu s1 ⟨x,H1,I1,r1,q1⟩=>?_;let#[i,rfl,q]:=q1;let#[t,rfl]:=r1;exact#[some i,H1,I1,.int i t,q]
def Tn(X:Cx)(r:V->Option Int->Option Int->Hp->VK->Prop):Prop:=
 ∀(pins:List (Addr × Obj)) (s:Ab) (σ:St) (H:Hp) (x:V) (v vl vu:Aa) (lo hi:Option Int) (sl:Addr) (Q:VK),Inv X pins σ H s->RelV x v->s.heap.IsSliceOf sl vl vu .none->IsPart vl lo->IsPart vu hi->r x lo hi H Q->
  ∃T id,typeLookup (.type T) "__getitem__"=pure (some (.builtin id))/\s.TypeIs v T/\wpAny (model X.prog X.w) X.A (getItem v (.ref sl)) (EP X pins σ Q) X.xe s
def _Q(r:V->Option Int->Option Int->Hp->VK->Prop)(te:TE)(tl th:TO):TE:=λσ H Q=>te σ H λx H1=>tl σ H1 λl H2=>th σ H2 λu H3=>r x l u H3 Q
theorem xi{r:V->Option Int->Option Int->Hp->VK->Prop}(hr:Tn X r)(he:PE X e te)(hl:PO X lo tl)(hu:PO X hi th):PE X (.Subscript e (.Slice lo hi none p2) pos) (_Q r te tl th):=by
 intro pins s σ H Q I h;apply Subscript_ (a_ (he pins s σ H _ I h) λv s1 ⟨x,H1,I1,r1,q1⟩=>?_);apply wpAny_Slice (a_ (hl pins s1 σ H1 _ I1 q1) λvl s2 ⟨l,H2,I2,pl,q2⟩=>a_ (hu pins s2 σ H2 _ I2 q2) λvu s3 ⟨u,H3,I3,pu,q3⟩=>?_);rw[evalPart_none];apply bV ?_;have I4:Inv X pins σ H3 { s3 with heap:=s3.heap.push { cls:=.type "slice",data:=.fields (List.toArray [vl,vu,.none]) } }:=I3.kept (t':=s3.toks) λb ob q=>cU _ q;let#[T,id,hT,ht,hg]:=hr pins { s3 with heap:=s3.heap.push { cls:=.type "slice",data:=.fields (List.toArray [vl,vu,.none]) } } σ H3 x v vl vu l u s3.heap.objs.size Q I4 r1 (Heap.IsSliceOf.new ..) pl pu q3;show wpAny (model X.prog X.w) X.A (subscriptTail e (.Slice lo hi none p2) v (.ref s3.heap.objs.size)) (EP X pins σ Q) X.xe { s3 with heap:=s3.heap.push { cls:=.type "slice",data:=.fields (List.toArray [vl,vu,.none]) } };exact tail_any (ops:=[.ref s3.heap.objs.size,v]) ht hT hg (by with_unfolding_all rfl)
def gD(xs:ai)(lo hi:Option Int):ai:=(xs.drop (HT.kI xs.length 0 lo)).take (HT.kI xs.length xs.length hi - HT.kI xs.length 0 lo)
theorem fi_(xs:ai)(lo hi:Option Int):(gD xs lo hi).length<=xs.length:=by
 unfold gD;rw[dg,List.length_drop];omega
end
def zY(n:Nat)(i:Int):Option Nat:=if 0<=i then (if i<n then some i.toNat else none) else if -(n:Int)<=i then some (i+n).toNat else none
def gF{α:Type}(xs:List α)(i:Int):Option α:=(zY xs.length i).bind λj=>xs[j]?
variable{j n:Nat}
theorem VN{i:Int}(h:zY n i=some j):seqIndex? i n=some j/\j<n/\-(n:Int)<=i/\i<n:=by
 unfold zY at h;by_cases h0:0<=i
 ·rw[aA h0] at h;by_cases h1:i<n
  ·rw[aA h1] at h;have e:i.toNat=j:=eK h;exact#[by rw[seqIndex_of h0 h1,e],by omega,by omega,h1]
  ·rw[aq h1] at h;cases h
 ·rw[aq h0] at h;by_cases h1:-(n:Int)<=i
  ·rw[aA h1] at h;have e:(i+n).toNat=j:=eK h;exact#[by rw[seqIndex_neg Z1 h1,e],by omega,h1,by omega]
  ·rw[aq h1] at h;cases h
theorem Qc{α:Type}{xs:List α}{i:Int}{v:α}(h:gF xs i=some v):∃j,seqIndex? i xs.length=some j/\xs[j]? = some v/\j<xs.length/\-(xs.length:Int)<=i/\i<xs.length:=by
 unfold gF at h;cases e:zY xs.length i with
 |none=>rw[e] at h;cases h
 |some j=>
  rw[e] at h;let#[h1,h2,h3,h4]:=VN e;exact#[j,h1,h,h2,h3,h4]
theorem iT{α:Type}{xs:List α}{v:α}(h:xs[j]? = some v):gF xs (j:Int)=some v:=by
 have hj:j<xs.length:=(cy.mp h).1
 have e:zY xs.length (j:Int)=some j:=by
  unfold zY;rw[aA Z1,aA Z1];simp
 unfold gF;rw[e];exact h
def zh(b:Expr):Prop:=∀o i,subscripted b false o i=operate [o,i] (getItem o i)
def EU(X:Cx)(r:R2):Prop:=
 ∀(value slice:Expr) (pins:List (Addr × Obj)) (s:Ab) (σ:St) (H:Hp) (x y:V) (v u:Aa) (Q:VK),Inv X pins σ H s->RelV x v->RelV y u->r x y H Q->
  subscripted slice false v u=operate [v,u] (getItem v u)->wpAny (model X.prog X.w) X.A (subscriptTail value slice v u) (EP X pins σ Q) X.xe s
def ZI(X:Cx)(id:String)(r:V->ai->Hp->VK->Prop):Prop:=
 ∀(pins:List (Addr × Obj)) (s:Ab) (σ:St) (H:Hp) (x:V) (xs:ai) (v:Aa) (us:ax) (Q:VK),Inv X pins σ H s->RelV x v->Vals xs us->r x xs H Q->
  wpAny (model X.prog X.w) X.A (call (.builtin id) (v::us)) (EP X pins σ Q) X.xe s
variable{pins:List (Addr × Obj)}{σ:St}{s:Ab}{its its':ax}
variable{A:Ag}{u:Aa}
variable{T:String}
section
variable{X:Cx}{a b:Expr}{ta tb:TE}{pos:Pos}
theorem bO{r:R2}(hr:EU X r)(ha:PE X a ta)(hb:PE X b tb)(hs:zh b:=by exact λ_ _=>rfl):PE X (.Subscript a b pos) (Kk r ta tb):=by
 intro pins s σ H Q I h;exact Subscript_ (C3 ha hb I h λv u s2 x y H2 I2 rx ry q=>hr a b pins s2 σ H2 x y v u Q I2 rx ry q (hs _ _))
inductive By (K:af) (x:V) (y:V) (H:Hp) (Q:VK):Prop
 |mk:∀p xs i v,x=.ref p->y=.int i->eG K H p xs->gF xs i=some v->Q v H->By K x y H Q
inductive jf (K:af) (x:V) (y:V) (H:Hp) (Q:VK):Prop
 |mk:∀p xs i v,x=.ref p->y=.int i->iZ K H p xs->gF xs i=some v->Q v H->jf K x y H Q
inductive FM (x:V) (y:V) (H:Hp) (Q:VK):Prop
 |mk:∀z i c,x=.str z->y=.int i->z.length<=sizeLine->gF z.cps.toList i=some c->Q (.str ⟨(List.toArray [c])⟩) H->FM x y H Q
theorem fV:EU X (By X.K):=by
 intro value slice pins s σ H x y v u Q I rx ry h hs;let#[p,xs,i,z,rfl,rfl,hq,he,q]:=h;cases rx;let#[t,rfl]:=ry;let#[its,r,pl,hz]:=I.list hq;let#[j,h1,h2,h3,h4,h5]:=Qc he;let#[w,ew,kJ]:=r.get h2;let hl:=r.length;let hn:=gU;have fin:EP X pins σ Q w s:=⟨z,H,I,kJ,q⟩;by_cases h0:0<=i
 ·have hj:i.toNat=j:=by
   rw[seqIndex_of h0 h5] at h1;exact eK h1
  exact item_listR pl.isList h0 Z1 (by rw[hj];simpa using ew) fin hs
 ·have hj:(i+(its.toArray.size:Int)).toNat=j:=by
   rw[seqIndex_neg Z1 h4] at h1;rw[dQ,<- hl];exact eK h1
  exact subscriptTail_builtinR (x:=w) pl.isList.typeIs slot_list_getitem.lookup
   (wpAny_getItem_list_neg (Q:=λr s'=>r=w/\EP X pins σ Q r s') pl.isList Z1 (by rw[dQ]<;>omega) Z1 (by rw[hj];simpa using ew) ⟨rfl,fin⟩) hs
theorem eO:EU X (jf X.K):=by
 intro value slice pins s σ H x y v u Q I rx ry h hs;let#[p,xs,i,z,rfl,rfl,hq,he,q]:=h;cases rx;let#[t,rfl]:=ry;let#[its,r,pl,hz]:=I.tuple hq;let#[j,h1,h2,h3,h4,h5]:=Qc he;let#[w,ew,kJ]:=r.get h2;let hl:=r.length;let hn:=gU;have fin:EP X pins σ Q w s:=⟨z,H,I,kJ,q⟩
 exact subscriptTail_builtinR (x:=w) pl.typeIs slot_tuple_getitem.lookup
  (getItem_tuple (j:=j) (Q:=λr s'=>r=w/\EP X pins σ Q r s') pl Z1 Z1 (by rw[dQ,<- hl];exact h1) (by simpa using ew) ⟨rfl,fin⟩) hs
theorem UY:EU X FM:=by
 intro value slice pins s σ H x y v u Q I rx ry h hs;let#[z,i,c,rfl,rfl,hz,he,q]:=h;let#[t,rfl]:=rx;let#[t',rfl]:=ry;let#[j,h1,h2,h3,h4,h5]:=Qc he;have hl:z.cps.toList.length=z.length:=by simp[Str.length]
 rw[hl] at h1 h4 h5;let hn:=gU
 exact tail_any (typeIs_str s z t) slot_str_getitem.lookup (getItem_str (c:=c) (by
  have e1:decide (i < -(2 ^ 63:Int))=false:=dS Z1;have e2:decide (i ≥ 2 ^ 63)=false:=dS Z1;rw[e1,e2,Bool.or_false]) (by rw[h1];simpa using h2) ⟨.str ⟨(List.toArray [c])⟩,H,I.tok _,⟨_,rfl⟩,q⟩) hs
theorem gr_(its:ax)(n j:Nat)(u:Aa):Obj.mapSeq (·.setIfInBounds j u) { cls:=.type "list",data:=.seq its.toArray n }={ cls:=.type "list",data:=.seq (its.set j u).toArray n }:=by
 simp[Obj.mapSeq]
theorem Inv.lst{pins:List (Addr × Obj)}{σ:St}{H:Hp}{s:Ab}{p:Addr}{xs:ai}(I:Inv X pins σ H s)(h:H p=some (.lst xs)) :
  ∃(its:ax) (n:Nat),Vals xs its/\s.heap.get? p=some { cls:=.type "list",data:=.seq its.toArray n }/\xs.length<=sizeLine:=by
 let#[z,its,n,r,e]:=I.aN p _ h;exact⟨its,n,r,e,z⟩
theorem Inv.BH{H:Hp}{p:Addr}{xs ys:ai}{n':Nat}{f:Obj->Obj}(I:Inv X pins σ H s)(h:H p=some (.lst xs))(ho:s.heap.get? p=some { cls:=.type "list",data:=.seq its.toArray n })(hf:f { cls:=.type "list",data:=.seq its.toArray n }={ cls:=.type "list",data:=.seq its'.toArray n' })(r:Vals ys its')(hz:ys.length<=sizeLine)(t:Nat) :
  Inv X pins σ (upd H p (.lst ys)) { s with heap:=s.heap.update p f,toks:=t }:=by
 have e:(s.heap.update p f).get? p=some { cls:=.type "list",data:=.seq its'.toArray n' }:=by
  rw[Heap.get?_update_self f ho (by rw[hf]<;>rfl),hf]
 apply I.write (x:=p) (e:=p) (by rw[h];trivial) (.inl rfl) (λb u hb q=>(w_ _ _ (Ne.symm hb)).trans q) ⟨_,e⟩ ?_;exact⟨hz,its',n',r,e⟩
inductive zJ (o:V) (i:V) (v:V) (H:Hp) (Q:Hp->Prop):Prop
 |mk:∀p xs k j,o=.ref p->i=.int k->H p=some (.lst xs)->zY xs.length k=some j->Q (upd H p (.lst (xs.set j v)))->zJ o i v H Q
theorem XA:J_ X zJ:=by
 intro pins s σ H o i v ov iv u Q I ro ri rv h;let#[p,xs,k,j,rfl,rfl,hp,hj,q]:=h;cases ro;let#[t,rfl]:=ri;let#[its,n,r,ho,hz]:=I.lst hp;let#[h1,h2,h3,h4]:=VN hj;let hl:=r.length;let hn:=gU
 have I':Inv X pins σ (upd H p (.lst (xs.set j v))) { s with heap:=s.heap.update p (Obj.mapSeq (·.setIfInBounds j u)) }:=
  I.BH hp ho (gr_ its n j u) (r.set rv j) (by rw[List.length_set];exact hz) s.toks
 by_cases h0:0<=k
 ·have hk:k.toNat=j:=by
   rw[seqIndex_of h0 h4] at h1;exact eK h1
  exact PySem.W.ki_setAt ho h0 Z1 (by rw[dQ,<- hl];exact h4) (by rw[hk];exact⟨_,I',q⟩)
 ·have hk:(k+(its.toArray.size:Int)).toNat=j:=by
   rw[seqIndex_neg Z1 h3] at h1;rw[dQ,<- hl];exact eK h1
  exact PySem.W.ki_setBack ho Z1 (by rw[dQ,<- hl];exact h3) Z1 (by rw[hk];exact⟨_,I',q⟩)
theorem er_(lo hi:Option Int)(n:Nat):(sliceBounds lo hi none n).1=((HT.kI n 0 lo:Nat):Int)/\(sliceBounds lo hi none n).2.1=((HT.kI n n hi:Nat):Int)/\(sliceBounds lo hi none n).2.2=1:=by
 apply⟨?_,?_,rfl⟩
 ·cases lo with
  |none=>simp[sliceBounds,HT.kI]
  |some i=>
   simp only[sliceBounds,HT.kI,Option.getD_none,show (1:Int) > 0 by decide,if_true];by_cases h:i<0
   ·simp only[h,if_true]<;>omega
   ·simp only[h,if_false]<;>omega
 ·cases hi with
  |none=>simp[sliceBounds,HT.kI]
  |some i=>
   simp only[sliceBounds,HT.kI,Option.getD_none,show (1:Int) > 0 by decide,if_true];by_cases h:i<0
   ·simp only[h,if_true]<;>omega
   ·simp only[h,if_false]<;>omega
theorem dT_(its:ax)(lo hi:Option Int):slicePick its.toArray lo hi none=((its.drop (HT.kI its.length 0 lo)).take (HT.kI its.length its.length hi - HT.kI its.length 0 lo)).toArray:=by
 let#[h1,h2,h3]:=er_ lo hi its.toArray.size;unfold slicePick;rw[h1,h2,h3];simp only[sliceRange_one,pick_run,dQ]<;>rfl
inductive FG (K:af) (x:V) (lo:Option Int) (hi:Option Int) (H:Hp) (Q:VK):Prop
 |mk:∀a xs,x=.ref a->eG K H a xs->(∀p,H p=none->Q (.ref p) (upd H p (.lst (gD xs lo hi))))->FG K x lo hi H Q
theorem C0:Tn X (FG X.K):=by
 intro pins s σ H x v vl vu lo hi sl Q I rx hs pl pu h;let#[a,xs,rfl,hx,q]:=h;cases rx;let#[its,r,ht,hz]:=I.list hx;let hlen:=r.length;apply⟨"list",_,slot_list_getitem.lookup,ht.isList.typeIs,?_⟩;apply wpAny_getItem_list_slice ht.isList hs pl pu .none Z2 ?_ (by rw[dQ]<;>omega)
 rw[dT_,<- hlen];apply⟨.ref s.heap.objs.size,_,I.laid (t':=s.toks) (o:=.lst (gD xs lo hi)) (λb ob q=>cU _ q) (bp _) ?_,rfl,q _ (I.aN.fresh (bp _))⟩;exact⟨qC (fi_ xs lo hi) hz,_,0,(r.drop (HT.kI xs.length 0 lo)).take (HT.kI xs.length xs.length hi - HT.kI xs.length 0 lo),fG _ rfl⟩
def qw:V->Bool
 |.non=>true
 |.bl _=>true
 |.int _=>true
 |.str _=>true
 |_=>false
def jV:V->V->Bool
 |.non,.non=>true
 |.bl a,.bl b=>a == b
 |.bl a,.int b=>(if a then 1 else 0) == b
 |.int a,.bl b=>a == (if b then 1 else 0)
 |.int a,.int b=>a == b
 |.str a,.str b=>a == b
 |_,_=>false
theorem PH{y x:V}{v:Aa}(ry:RelV y u)(rx:RelV x v)(fy:qw y=true)(fx:qw x=true):SeqAt.EqAt A s u v (jV y x):=by
 cases y with
 |non=>
  cases ry;cases x with
  |non=>cases rx;exact SeqAt.EqAt.same _
  |bl b=>cases rx;exact SeqAt.EqAt.none_bool b
  |int b=>let#[t,rfl]:=rx;exact SeqAt.EqAt.none_int b t
  |str b=>let#[t,rfl]:=rx;exact SeqAt.EqAt.none_str b t
  |_=>exact absurd (show false=true from fx) hE
 |bl a=>
  cases ry;cases x with
  |non=>cases rx;exact SeqAt.EqAt.bool_none a
  |bl b=>cases rx;exact SeqAt.EqAt.bool_bool a b
  |int b=>let#[t,rfl]:=rx;exact SeqAt.EqAt.bool_int a b t
  |str b=>let#[t,rfl]:=rx;exact SeqAt.EqAt.bool_str a b t
  |_=>exact absurd (show false=true from fx) hE
 |int a=>
  let#[t',rfl]:=ry;cases x with
  |non=>cases rx;exact SeqAt.EqAt.int_none a t'
  |bl b=>cases rx;exact SeqAt.EqAt.int_bool a t' b
  |int b=>let#[t,rfl]:=rx;exact SeqAt.EqAt.int_int a t' b t
  |str b=>let#[t,rfl]:=rx;exact SeqAt.EqAt.int_str a t' b t
  |_=>exact absurd (show false=true from fx) hE
 |str a=>
  let#[t',rfl]:=ry;cases x with
  |non=>cases rx;exact SeqAt.EqAt.str_none a t'
  |bl b=>cases rx;exact SeqAt.EqAt.str_bool a t' b
  |int b=>let#[t,rfl]:=rx;exact SeqAt.EqAt.str_int a t' b t
  |str b=>let#[t,rfl]:=rx;exact SeqAt.EqAt.str_str a t' b t
  |_=>exact absurd (show false=true from fx) hE
 |_=>exact absurd (show false=true from fy) hE
def mr(x:V)(u:Aa):Bool:=match u with
 |.none=>jV .non x
 |.bool b=>jV (.bl b) x
 |.int i _=>jV (.int i) x
 |.str z _=>jV (.str z) x
 |_=>false
theorem PJ{x y:V}(r:RelV y u)(f:qw y=true):mr x u=jV y x:=by
 cases y with
 |non=>cases r;rfl
 |bl b=>cases r;rfl
 |int i=>let#[t,rfl]:=r;rfl
 |str z=>let#[t,rfl]:=r;rfl
 |_=>exact absurd (show false=true from f) hE
theorem P5{x:V}:∀{xs:ai} {us:ax},Vals xs us->xs.all qw=true->us.any (mr x)=xs.any λy=>jV y x
 |_,_,.nil,_=>rfl
 |y::xs,u::us,.cons r t,f=>by
  rw[List.all_cons,xx] at f;rw[List.any_cons,List.any_cons,PJ r f.1,P5 t f.2]
theorem Ip{A:Ag}{s:Ab}{x:V}{v:Aa}(rx:RelV x v)(fx:qw x=true):∀{xs:ai} {us:ax},Vals xs us->xs.all qw=true->∀u∈us,SeqAt.EqAt A s u v (mr x u)
 |_,_,.nil,_=>λu hu=>by cases hu
 |y::xs,u::us,.cons r t,f=>λu' hu=>by
  rw[List.all_cons,xx] at f;rcases bZ.mp hu with rfl|hu
  ·rw[PJ r f.1];exact PH r rx f.1 fx
  ·exact Ip rx fx t f.2 u' hu
def DF(x:V)(xs:ai):Bool:=xs.any λy=>jV y x
inductive Dv (K:af) (neg:Bool) (x:V) (y:V) (H:Hp) (Q:VK):Prop
 |mk:∀p xs,y=.ref p->(eG K H p xs∨iZ K H p xs)->qw x=true->xs.all qw=true->Q (.bl (if neg then !DF x xs else DF x xs)) H->Dv K neg x y H Q
theorem LY:eP X (compareOp .In) (Dv X.K false):=by
 intro pins s σ H x y v u Q I rx ry h;let#[p,xs,rfl,hq,fx,fs,q]:=h;cases ry;rcases hq with hq|hq
 ·let#[its,r,pl,hz]:=I.list hq;apply SeqAt.in_listAt (mr x) pl.isList (λw hw=>Ip rx fx r fs w (by simpa using hw)) ⟨.bl _,H,I,rfl,?_⟩;rw[show its.toArray.any (mr x)=its.any (mr x) by simp,P5 r fs];exact q
 ·let#[its,r,pl,hz]:=I.tuple hq;apply SeqAt.in_tupleAt (mr x) pl (λw hw=>Ip rx fx r fs w (by simpa using hw)) ⟨.bl _,H,I,rfl,?_⟩;rw[show its.toArray.any (mr x)=its.any (mr x) by simp,P5 r fs];exact q
inductive Ta (K:af) (xs:ai) (H:Hp) (Q:VK):Prop
 |mk:∀p ys,xs=[.ref p]->(eG K H p ys∨iZ K H p ys)->Q (.int ys.length) H->Ta K xs H Q
theorem lM:gY X (.builtin "len") (Ta X.K):=by
 intro pins s σ H xs us Q I r h;let#[p,ys,rfl,hq,q]:=h;let#[u,rfl,rx]:=vals1 r;cases rx;let hn:=gU;rcases hq with hq|hq
 ·let#[its,r',pl,hz]:=I.list hq;let hlen:=r'.length;exact Calls.call_len_list pl.isList (by simp only[dQ]<;>omega) ⟨.int ys.length,H,I.tok _,⟨s.toks+1,by rw[dQ,hlen]⟩,q⟩
 ·let#[its,r',pl,hz]:=I.tuple hq;let hlen:=r'.length;exact len_tuple pl (by simp only[dQ]<;>omega) ⟨.int ys.length,H,I.tok _,⟨s.toks+1,by rw[dQ,hlen]⟩,q⟩
inductive Zd (xs:ai) (H:Hp) (Q:VK):Prop
 |mk:∀z,xs=[.str z]->z.length<=sizeLine->Q (.int z.length) H->Zd xs H Q
theorem Zl:gY X (.builtin "len") Zd:=by
 intro pins s σ H xs us Q I r h;let#[z,rfl,hz,q]:=h;let#[u,rfl,t,rfl]:=vals1 r;let hn:=gU;exact len_str Z1 ⟨.int z.length,H,I.tok _,⟨_,rfl⟩,q⟩
inductive Zq (K:af) (xs:ai) (H:Hp) (Q:VK):Prop
 |mk:∀p ys,xs=[.ref p]->(eG K H p ys∨iZ K H p ys)->(∀l,H l=none->Q (.ref l) (upd H l (.lst ys)))->Zq K xs H Q
theorem eV_:gY X (.type "list") (Zq X.K):=by
 intro pins s σ H xs us Q I r h;let#[p,ys,rfl,hq,q]:=h;let#[u,rfl,rx]:=vals1 r;cases rx
 have fin:∀(its:ax),Vals ys its->ys.length<=sizeLine->∀(h':Heap) (c':Nat),(∀b o',s.heap.get? b=some o'->h'.get? b=some o')->
   h'.get? s.heap.objs.size=some { cls:=.type "list",dict:=none,data:=.seq its.toArray c',slots:=#[] }->EP X pins σ Q (.ref s.heap.objs.size) { s with heap:=h' }:=λits r' hz h' c' kp e=>
  #[.ref s.heap.objs.size,_,I.laid (t':=s.toks) kp (bp _) (show gm X.prog X.w _ h' _ (.lst ys) from #[hz,its,c',r',e]),Z,q _ (I.aN.fresh (bp _))]
 rcases hq with hq|hq
 ·let#[its,r',pl,hz]:=I.list hq;let hlen:=r'.length;let#[o,ho,hc,n,hd]:=pl.isList;exact call_list_seq p (.inl Z) ho hc hd (λh' c' kp e=>fin its r' hz h' c' kp e) (by simp only[dQ]<;>omega)
 ·let#[its,r',pl,hz]:=I.tuple hq;let hlen:=r'.length;let#[o,ho,hc,n,hd]:=pl;exact call_list_seq p (.inr Z) ho hc hd (λh' c' kp e=>fin its r' hz h' c' kp e) (by simp only[dQ]<;>omega)
def MF(K:af)(T:String)(x:V)(H:Hp):Prop:=match x with
 |.str _=>T="str"
 |.int _=>T="int"
 |.ref p=>(T="list"/\∃xs,eG K H p xs)∨(T="tuple"/\∃o,K.lookup p=some o/\o.cls=.type "tuple"/\o.dict=none) ∨
   (T="dict"/\((∃kvs,H p=some (.dK kvs))∨∃kvs,H p=some (.dT kvs)))∨(T="set"/\∃S n,H p=some (.set S n))
 |_=>False
theorem UX{H:Hp}{x:V}{v:Aa}(I:Inv X pins σ H s)(r:RelV x v)(ty:MF X.K T x H) :
  s.TypeIs v T/\∀a,v=.ref a->∃ob,s.heap.get? a=some ob/\ob.dict=none:=by
 cases x with
 |str z=>
  let#[t,rfl]:=r;cases (show T="str" from ty);exact#[typeIs_str s z t,λ_ e=>nomatch e]
 |int i=>
  let#[t,rfl]:=r;cases (show T="int" from ty);exact#[typeIs_int s i t,λ_ e=>nomatch e]
 |ref p=>
  cases r;rcases ty with⟨rfl,xs,hq⟩|⟨rfl,o,hk,hc,hd⟩|⟨rfl,hk⟩|⟨rfl,S,n,hk⟩
  ·let#[its,_,pl,_]:=I.list hq;apply#[pl.isList.typeIs,λa e=>?_];cases e;let#[o,n,e,c,hd,_]:=pl;exact#[o,e,hd]
  ·apply#[#[o,I.gK p o hk,hc],λa e=>?_];cases e;exact#[o,I.gK _ o hk,hd]
  ·have z:∃o,s.heap.get? p=some o/\o.ExactDict:=by
    rcases hk with⟨kvs,hk⟩|⟨kvs,hk⟩
    ·let#[_,_,_,_,o,_,_,e,ex,_]:=I.aN p _ hk;exact#[o,e,ex]
    ·let#[_,_,_,_,o,_,_,e,ex,_]:=I.aN p _ hk;exact#[o,e,ex]
   let#[o,e,ex]:=z;apply#[#[o,e,ex.1],λa e2=>?_];cases e2;exact#[o,e,ex.2.1]
  ·let#[o,_,_,_,e,ex,_]:=I.aN p _ hk;apply#[#[o,e,ex.1],λa e2=>?_];cases e2;exact#[o,e,ex.2.1]
 |_=>exact False.elim ty
def MX(K:af)(T:String)(r:V->ai->Hp->VK->Prop)(to:TE):TE:=λσ H Q=>to σ H λx H1=>MF K T x H1/\r x [] H1 Q
def _T(K:af)(T:String)(r:V->ai->Hp->VK->Prop)(to:TE)(t:TA):TE:=λσ H Q=>to σ H λx H1=>MF K T x H1/\t σ H1 λxs H2=>r x xs H2 Q
variable{o e:Expr}{es:List Expr}{to:TE}{t:TA}{name:Str}{apos du:Pos}{T id:String}{r:V->ai->Hp->VK->Prop}
theorem ml_(pa:PlainAttrs T)(slot:Slot T name id)(OG:typeOf (.builtin id)=pure (.type "method_descriptor"))(hm:ZI X id r)(ho:PE X o to)
  (iR:attributeBase o name X.env (eval o X.env)=eval o X.env:=by rfl) (iP:(apos.endLine == du.line)=true:=by rfl):PE X (.Call (.Attribute o name apos) [] [] du) (MX X.K T r to):=by
 intro pins s σ H Q I h;apply wpAny_Call_method0_late iR iP (a_ (ho pins s σ H _ I h) λv s1 ⟨x,H1,I1,r1,ty,q1⟩=>?_);let#[h1,h2]:=UX I1 r1 ty;exact#[T,id,pa,slot,OG,h1,h2,Calls.callWith_builtin Z (PySem.evalArgs_none (hm pins s1 σ H1 x [] v [] Q I1 r1 .nil q1))]
theorem gX(pa:PlainAttrs T)(slot:Slot T name id)(OG:typeOf (.builtin id)=pure (.type "method_descriptor"))(hm:ZI X id r)(ho:PE X o to)(ha:PA X (e::es) t)
  (iR:attributeBase o name X.env (eval o X.env)=eval o X.env:=by rfl)
  (Pb:((backTo du (starEach (e::es) X.env)).all (λx=>!x.1)&&(backToKw du (keywordEach [] X.env)).all (λx=>x.1.isSome)
   && decide ((e::es).length+([]:List Keyword).length+(if ([]:List Keyword).isEmpty then 0 else 1)<30))=true:=by rfl)
  (iP:(apos.endLine == du.line)=true:=by rfl) (hs:starEach (e::es) X.env=(false,eval e X.env)::starEach es X.env:=by rfl) (BQ:(backTo du (starEach es X.env)).any (·.1)=false:=by rfl) :
  PE X (.Call (.Attribute o name apos) (e::es) [] du) (_T X.K T r to t):=by
 intro pins s σ H Q I h;apply wpAny_Call_method_late iR Pb iP Z (a_ (ho pins s σ H _ I h) λv s1 ⟨x,H1,I1,r1,ty,q1⟩=>?_);let#[h1,h2]:=UX I1 r1 ty;apply#[T,id,pa,slot,OG,h1,h2,?_];let hA:=ha du pins s1 σ H1 _ I1 q1;rw[hs] at hA ⊢;apply Calls.callWith_builtin (by show (false || (backTo du (starEach es X.env)).any (·.1))=false;rw[BQ]<;>rfl) (Calls.evalArgs_plain ?_)
 exact a_ hA λus s2 ⟨vs,H2,I2,r2,q2⟩=>hm pins s2 σ H2 x vs v us Q I2 r1 r2 q2
end
def Dp(X:Cx)(id:String)(r:V->ai->Hp->VK->Prop):Prop:=
 ∀(pins:List (Addr × Obj)) (s:Ab) (σ:St) (H:Hp) (x:V) (xs:ai) (v:Aa) (us:ax) (Q:VK),Inv X pins σ H s->RelV x v->Vals xs us->r x xs H Q->
  wpAny (model X.prog X.w) X.A (call (.builtin id) (v::us)) (EP X pins σ Q) X.xe s
theorem Vals.one:∀{x:V} {us:ax},Vals [x] us->∃u,us=[u]/\RelV x u
 |_,_,.cons r .nil=>#[_,Z,r]
theorem Vals.eraseIdx:∀{xs:ai} {us:ax} (i:Nat),Vals xs us->Vals (xs.eraseIdx i) (us.eraseIdx i)
 |_,_,_,.nil=>.nil
 |_,_,0,.cons _ t=>t
 |_,_,i+1,.cons r t=>.cons r (Vals.eraseIdx i t)
theorem Vals.rep{xs:ai}{us:ax}(h:Vals xs us):∀k:Nat,Vals (List.replicate k xs).flatten (List.replicate k us).flatten
 |0=>.nil
 |k+1=>by
  rw[List.replicate_succ,List.replicate_succ,List.flatten_cons,List.flatten_cons];exact Vals.append h (Vals.rep h k)
theorem Ya{α:Type}:∀(l:List α) (i:Nat),(l.eraseIdx i).length<=l.length
 |[],_=>bp _
 |_::_,0=>Nat.le_succ _
 |_::r,i+1=>Nat.succ_le_succ (Ya r i)
theorem X4(its:ax):∀(k:Nat) (acc:ax),
  List.foldl (λx1 x2=>x1++x2) acc.toArray (List.replicate k its.toArray)=(acc++(List.replicate k its).flatten).toArray
 |0,acc=>by simp
 |k+1,acc=>by
  have e:acc.toArray++its.toArray=(acc++its).toArray:=by simp
  have e2:(acc++its)++(List.replicate k its).flatten=acc++(List.replicate (k+1) its).flatten:=by
   rw[List.replicate_succ,List.flatten_cons,xr]
  rw[<- e2,<- X4 its k (acc++its),<- e,List.replicate_succ,List.foldl_cons]
variable{t':Nat}
section
variable{X:Cx}{pins:List (Addr × Obj)}{σ:St}{H:Hp}{s:Ab}{l b:Addr}{xs ys zs:ai}
theorem Inv.BI{f:Array Aa->Array Aa}(I:Inv X pins σ H s)(hH:H l=some (.lst xs))(e:s.heap.get? l=some { cls:=.type "list",data:=.seq its.toArray n })(hf:f its.toArray=its'.toArray)(hv:Vals ys its')(hz:ys.length<=sizeLine) :
  Inv X pins σ (upd H l (.lst ys)) { s with heap:=s.heap.update l (Obj.mapSeq f),toks:=t' }:=by
 let q:=PySem.IsL.update e f;rw[hf] at q;apply I.write (x:=l) (e:=l) (by rw[hH];exact trivial) (.inl Z) (λb' u hb hu=>(w_ s.heap (Obj.mapSeq f) (Ne.symm hb)).trans hu) #[_,q] ?_;exact#[hz,its',_,hv,q]
theorem Inv.yr(I:Inv X pins σ H s)(hv:Vals ys its)(hz:ys.length<=sizeLine) :
  Inv X pins σ (upd H s.heap.objs.size (.lst ys)) { s with heap:=s.heap.push { cls:=.type "list",data:=.seq its.toArray },toks:=t' }:=
 I.laid (λ_ _ q=>cU _ q) (bp _) #[hz,its,0,hv,fG _ Z]
theorem Inv.fresh(I:Inv X pins σ H s):H s.heap.objs.size=none:=I.aN.fresh (bp _)
theorem Inv.jN(I:Inv X pins σ H s)(hH:H l=some (.lst xs)):xs.length<=sizeLine/\∃(its:ax) (n:Nat),Vals xs its/\xs.length=its.length/\s.heap.get? l=some { cls:=.type "list",data:=.seq its.toArray n }:=by
 let#[z,its,n,r,e]:=I.aN l _ hH;exact#[z,its,n,r,r.length,e]
theorem Xl(h:n<=sizeLine):Builtin.List.listTooLong n=false:=by
 unfold Builtin.List.listTooLong;exact dS Z1
end
inductive p8 (x:V) (vs:ai) (H:Hp) (Q:VK):Prop
 |mk:∀l xs y,x=.ref l->vs=[y]->H l=some (.lst xs)->xs.length<sizeLine->Q .non (upd H l (.lst (xs++[y])))->p8 x vs H Q
variable{X:Cx}
theorem lN:Dp X "list.append" p8:=by
 intro pins s σ H x vs v us Q I rx rv h;let#[l,xs,y,rfl,rfl,hH,hz,q]:=h;cases rx;let#[u,rfl,ru]:=rv.one;let#[z,its,n,r,hl,e]:=I.jN hH;apply call_meets F.slot_list_append ⟨_,e,rfl⟩ F.entry_list_append (F.args_list_append_2 _ _) (PySem.list_append l its.toArray n u (by rw[dQ];omega)) ⟨e,?_⟩;apply⟨.non,_,I.BI (its':=its++[u]) hH e Z2 (r.append (.cons ru .nil)) ?_,rfl,q⟩;rw[eA,Di];omega
inductive pZ (x:V) (vs:ai) (H:Hp) (Q:VK):Prop
 |mk:∀l b xs zs,x=.ref l->vs=[.ref b]->H l=some (.lst xs)->H b=some (.lst zs)->xs.length+zs.length<=sizeLine->Q .non (upd H l (.lst (xs++zs)))->pZ x vs H Q
theorem IQ:Dp X "list.extend" pZ:=by
 intro pins s σ H x vs v us Q I rx rv h;let#[l,b,xs,zs,rfl,rfl,hH,hB,hz,q]:=h;cases rx;let#[u,rfl,ru]:=rv.one;cases ru;let#[z,its,n,r,hl,e]:=I.jN hH;let#[z2,jP,n2,r2,oH,e2]:=I.jN hB;have hsz:its.toArray.size+jP.toArray.size<=sizeLine:=by rw[dQ,dQ];omega
 have vk:¬(!its.toArray.isEmpty&&Builtin.List.listTooLong (its.toArray.size+jP.toArray.size))=true:=by
  rw[Xl hsz,qA];exact hE
 apply call_meets F.slot_list_extend ⟨_,e,rfl⟩ F.entry_list_extend (F.args_list_extend_2 _ _)
  (AutoSeq1.list_extend_list_list_0 l its.toArray n b jP.toArray n2 vk (by rw[dQ];omega) Z1) ⟨e,e2,?_⟩
 apply⟨.non,_,I.BI (its':=its++jP) hH e Z2 (r.append r2) ?_,rfl,q⟩;rw[eA];omega
inductive BA (x:V) (y:V) (H:Hp) (Q:VK):Prop
 |mk:∀l b xs zs,x=.ref l->y=.ref b->H l=some (.lst xs)->H b=some (.lst zs)->xs.length+zs.length<=sizeLine->(∀p,H p=none->Q (.ref p) (upd H p (.lst (xs++zs))))->BA x y H Q
theorem CD:eP X (binaryOp .Add) BA:=by
 intro pins s σ H x y v u Q I rx ry h;let#[l,b,xs,zs,rfl,rfl,hH,hB,hz,q]:=h;cases rx;cases ry;let#[z,its,n,r,hl,e]:=I.jN hH;let#[z2,jP,n2,r2,oH,e2]:=I.jN hB;apply PySem.P.add_list e e2 ?_ (by rw[dQ,dQ];omega);have ea:its.toArray++jP.toArray=(its++jP).toArray:=by simp
 rw[ea];exact⟨.ref _,_,I.yr (t':=s.toks) (r.append r2) (by rw[eA];omega),rfl,q _ I.fresh⟩
inductive FI (x:V) (y:V) (H:Hp) (Q:VK):Prop
 |mk:∀l k xs,x=.ref l->y=.int k->H l=some (.lst xs)->-(2 ^ 63)<=k->k<2 ^ 63->xs.length * k.toNat<=sizeLine->(∀p,H p=none->Q (.ref p) (upd H p (.lst (List.replicate k.toNat xs).flatten)))->FI x y H Q
theorem lf_{α:Type}(xs:List α)(k:Nat):(List.replicate k xs).flatten.length=k * xs.length:=by
 induction k with
 |zero=>simp
 |succ k ih=>rw[List.replicate_succ,List.flatten_cons,eA,ih,Nat.succ_mul,Nat.add_comm]
theorem Vf:eP X (binaryOp .Mult) FI:=by
 intro pins s σ H x y v u Q I rx ry h;let#[l,k,xs,rfl,rfl,hH,h1,h2,hz,q]:=h;cases rx;let#[t,rfl]:=ry;let#[z,its,n,r,hl,e]:=I.jN hH;have hlen:its.toArray.size * k.toNat<=sizeLine:=by rw[dQ,<- hl];exact hz
 have Pq:¬its.toArray.size * k.toNat > (2 ^ 63 - 1) / 8:=by
  have:(sizeLine:Nat)<=(2 ^ 63 - 1) / 8:=by decide
  omega
 have Pa:¬(!Builtin.List.listFitsIndex k)=true:=by
  rw[fitsIndex_both h1 h2];exact hE
 have vk:¬Builtin.List.listTooLong (its.toArray.size * k.toNat)=true:=by
  rw[Xl hlen];exact hE
 have oG:List.foldl (λx1 x2=>x1++x2) #[] (List.replicate (if its.toArray.isEmpty=true then 0 else k.toNat) its.toArray)=(List.replicate k.toNat its).flatten.toArray:=by
  have f0:∀m:Nat,List.foldl (λx1 x2=>x1++x2) #[] (List.replicate m its.toArray)=(List.replicate m its).flatten.toArray:=λm=>by
   have:=X4 its m [];rw[List.nil_append] at this;exact this
  rw[f0];cases its with
  |nil=>simp
  |cons a r'=>rw[aq Z2]
 apply wpAny_binaryOp_repeat_ref (T:="list") (U:="int") (by decide) #[_,e,Z] (λs'=>typeIs_int s' k t) noFill_list_mul F.fills_int_mul F.slot_int_rmul repeat_list F.slot_int_index.lookup
  (call_meets F.slot_int_rmul (typeIs_int s k t) F.entry_int_rmul (F.args_int_rmul_2 _ _) (int___rmul___int_list k t l its.toArray n)
   #[e,Z,#[_,e,Z],call_meets F.slot_list_mul #[_,e,Z] F.entry_list_mul (F.args_list_mul_2 _ _) (AutoListH.list___mul___list_int_3 l its.toArray n k t Pa Pq vk) #[e,?_]])
 rw[oG];exact#[.ref _,_,I.yr (t':=s.toks) (r.rep k.toNat) (by rw[lf_,Nat.mul_comm];exact hz),Z,q _ I.fresh]
variable{o:aK}
section
variable{κ:Type}[DecidableEq κ]
def bM(kvs:List (κ × V))(k:κ):aK:=(kvs.find? λkv=>decide (kv.1=k)).map (·.2)
def putK(kvs:List (κ × V))(k:κ)(v:V):List (κ × V):=
 if (kvs.any λkv=>decide (kv.1=k))=true then kvs.map (λkv=>if kv.1=k then (kv.1,v) else kv) else kvs++[(k,v)]
theorem C6{p:κ × V}{r:List (κ × V)}{k:κ}(e:p.1=k):bM (p::r) k=some p.2:=by simp[bM,List.find?_cons,e]
theorem C9{p:κ × V}{r:List (κ × V)}{k:κ}(e:¬p.1=k):bM (p::r) k=bM r k:=by simp[bM,List.find?_cons,e]
theorem Im(k:κ):∀kvs:List (κ × V),(kvs.any λkv=>decide (kv.1=k))=(bM kvs k).isSome
 |[]=>rfl
 |p::r=>by
  rw[List.any_cons];by_cases e:p.1=k
  ·simp only[C6 e,cc e,Bool.true_or,Option.isSome_some]
  ·rw[C9 e,dS e,Bool.false_or];exact Im k r
theorem SX(kvs:List (κ × V))(k:κ)(v:V):(putK kvs k v).length<=kvs.length+1:=by
 unfold putK;split
 ·rw[ao];omega
 ·rw[eA,iW,sL];omega
theorem EJ{kvs:List (κ × V)}{k:κ}(v:V)(h:bM kvs k=none):putK kvs k v=kvs++[(k,v)]:=by
 unfold putK;rw[Im,h];exact aq (by decide)
theorem fq.eJ{u:Option Aa}(r:fq o u):o.isSome=u.isSome:=by
 cases o with
 |none=>cases u with
  |none=>rfl
  |some _=>exact (show False from r).elim
 |some _=>cases u with
  |none=>exact (show False from r).elim
  |some _=>rfl
theorem KV.val{kvs:List (κ × V)}{vs:List (κ × Aa)}(r:KV kvs vs)(k:κ):fq (bM kvs k) (valueAt vs k):=by
 unfold KV at r
 induction r with
 |nil=>exact True.intro
 |@cons p q ps qs h t ih=>
  let#[h1,h2]:=h;by_cases e:p.1=k
  ·have e':q.1=k:=h1.symm.trans e;have b:valueAt (q::qs) k=some q.2:=by simp[valueAt,List.find?_cons,e']
   rw[C6 e,b];exact h2
  ·have e':¬q.1=k:=λz=>e (h1.trans z);have b:valueAt (q::qs) k=valueAt qs k:=by simp[valueAt,List.find?_cons,e']
   rw[C9 e,b];exact ih
theorem KV.any{kvs:List (κ × V)}{vs:List (κ × Aa)}(r:KV kvs vs)(k:κ):(kvs.any λkv=>decide (kv.1=k))=vs.any λkv=>decide (kv.1=k):=by
 unfold KV at r
 induction r with
 |nil=>rfl
 |cons h t ih=>rw[List.any_cons,List.any_cons,ih,h.1]
theorem KV.Bx{kvs:List (κ × V)}{vs:List (κ × Aa)}(r:KV kvs vs)(k:κ){y:V}(ry:RelV y u) :
  KV (kvs.map λkv=>if kv.1=k then (kv.1,y) else kv) (vs.map λkv=>if kv.1=k then (kv.1,u) else kv):=by
 unfold KV at r ⊢
 induction r with
 |nil=>exact .nil
 |@cons p q ps qs h t ih=>
  rw[eL,eL];apply .cons ?_ ih;let#[h1,h2]:=h;by_cases e:p.1=k
  ·rw[aA e,aA (h1.symm.trans e)];exact#[h1,ry]
  ·rw[aq e,aq (λz=>e (h1.trans z))];exact#[h1,h2]
theorem KV.put{kvs:List (κ × V)}{vs:List (κ × Aa)}(r:KV kvs vs)(k:κ){y:V}(ry:RelV y u):KV (putK kvs k y) (stored vs k u):=by
 unfold putK stored;rw[r.any k];by_cases e:(vs.any λkv=>decide (kv.1=k))=true
 ·rw[aA e,aA e];exact r.Bx k ry
 ·rw[aq e,aq e];exact Paired.snoc r #[Z,ry]
theorem KV.keys{kvs:List (κ × V)}{vs:List (κ × Aa)}(r:KV kvs vs):kvs.map (·.1)=vs.map (·.1):=by
 unfold KV at r
 induction r with
 |nil=>rfl
 |cons h t ih=>rw[eL,eL,ih,h.1]
theorem KV.length{kvs:List (κ × V)}{vs:List (κ × Aa)}(r:KV kvs vs):kvs.length=vs.length:=bK r
end
variable{P:Ae}{w:Af}
theorem yI{k:Key}(r:RelV (kV k) u):(fu P w).is k u=true:=by
 cases k with
 |inl i=>let#[t,e]:=(show ∃t,u=Value.int i t from r);subst e;exact fo_ P w i t
 |inr x=>let#[t,e]:=(show ∃t,u=Value.str x t from r);subst e;exact Sh P w x t
theorem X5{P:Ae}{w:Af}:∀{ks:aM} {us:ax},Vals (ks.map kV) us->ItemsAre (fu P w) ks us
 |[],_,r=>by rw[xk] at r;cases r;exact .nil
 |k::ks,_,r=>by
  rw[eL] at r;cases r with
  |cons h t=>exact .cons (yI h) (X5 t)
abbrev KT(H:Hp):List (aM × V)->List (aM × Addr × Aa)->Prop:=Paired λp q=>p.1=q.1/\H q.2.1=some (.tup (p.1.map kV))/\RelV p.2 q.2.2
variable{H:Hp}{xs:List (aM × Addr × Aa)}{kvs:List (aM × V)}
theorem KT.val(r:KT H kvs xs)(k:aM):fq (bM kvs k) ((atKey xs k).map (·.2)):=by
 induction r with
 |nil=>exact True.intro
 |@cons p q ps qs h t ih=>
  let#[h1,_,h2]:=h;by_cases e:p.1=k
  ·have e':q.1=k:=h1.symm.trans e;have b:atKey (q::qs) k=some q.2:=by simp[atKey,List.find?_cons,e']
   rw[C6 e,b];exact h2
  ·have e':¬q.1=k:=λz=>e (h1.trans z);have b:atKey (q::qs) k=atKey qs k:=by simp[atKey,List.find?_cons,e']
   rw[C9 e,b];exact ih
theorem KT.Bx(r:KT H kvs xs)(k:aM){y:V}(ry:RelV y u) :
  KT H (kvs.map λkv=>if kv.1=k then (kv.1,y) else kv) (xs.map (putAt k u)):=by
 induction r with
 |nil=>exact .nil
 |@cons p q ps qs h t ih=>
  rw[eL,eL];apply .cons ?_ ih;let#[h1,h2,h3]:=h;unfold putAt;by_cases e:p.1=k
  ·rw[aA e,aA (h1.symm.trans e)];exact#[h1,h2,ry]
  ·rw[aq e,aq (λz=>e (h1.trans z))];exact#[h1,h2,h3]
variable{b:Addr}
theorem KT.put(r:KT H kvs xs)(k:aM){y:V}(hb:H b=some (.tup (k.map kV)))(ry:RelV y u) :
  KT H (putK kvs k y) (storedH xs k b u):=by
 have e:(kvs.any λkv=>decide (kv.1=k))=(atKey xs k).isSome:=by
  rw[Im,(r.val k).eJ,Option.isSome_map]
 unfold putK storedH;rw[e];by_cases q:(atKey xs k).isSome=true
 ·rw[aA q,aA q];exact r.Bx k ry
 ·rw[aq q,aq q];exact Paired.snoc r #[Z,hb,ry]
variable{H':Hp}
theorem KT.keeps(r:KT H kvs xs)(ht:∀b ys,H b=some (.tup ys)->H' b=some (.tup ys)):KT H' kvs xs:=
 Paired.bx r λ_ _ z=>#[z.1,ht _ _ z.2.1,z.2.2]
variable{h:Heap}{a:Addr}
theorem UT{u:HO}(ok:gx P w H h)(e:Rd H a u):gm P w H h a u:=e.ok ok
theorem qp{kvs:List (Key × V)}(ok:gx P w H h)(e:Rd H a (.dK kvs)):kvs.length<=sizeLine/\(a == sysModules)=false/\∃vs,KV kvs vs/\h.DictOf (fu P w) a vs:=
 show gm P w H h a (.dK kvs) from UT ok e
theorem yJ{kvs:List (Key × V)}(ok:gx P w H h)(e:H a=some (.dK kvs)):kvs.length<=sizeLine/\(a == sysModules)=false/\∃vs,KV kvs vs/\h.DictOf (fu P w) a vs:=qp ok (.inl e)
theorem HP{ks:aM}(ok:gx P w H h)(e:H a=some (.tup (ks.map kV))):(tupleKind (fu P w)).is h ks a:=by
 let#[_,its,r,#[o,h1,h2,n,h3],_]:=(show gm P w H h a (.tup (ks.map kV)) from ok a _ e);exact#[o,its.toArray,n,h1,h2,h3,by simpa using X5 r]
theorem DU(ok:gx P w H h)(e:Rd H a (.dT kvs)):kvs.length<=sizeLine/\(a == sysModules)=false /\
  ∃xs,KT H kvs xs/\h.DictOfH (tupleKind (fu P w)) a xs:=by
 let#[z,y,xs,r,o,es,ep,h1,h2,h3,h4,h5]:=(show gm P w H h a (.dT kvs) from UT ok e);apply#[z,y,xs,r,o,es,ep,h1,h2,h3,h4,λx hx=>?_,h5]
 have all:∀{l:List (aM × V)} {m:List (aM × Addr × Aa)},KT H l m->∀x∈m,(tupleKind (fu P w)).is h x.1 x.2.1:=by
  intro l m q
  induction q with
  |nil=>intro x hx;exact nomatch hx
  |@cons p q ps qs hq t ih=>
   intro x hx;rcases bZ.mp hx with e|hx
   ·subst e;exact HP ok (by rw[<- hq.1];exact hq.2.1)
   ·exact ih x hx
 exact all r x hx
theorem mw_(ok:gx P w H h)(e:H a=some (.dT kvs)):kvs.length<=sizeLine/\(a == sysModules)=false /\
  ∃xs,KT H kvs xs/\h.DictOfH (tupleKind (fu P w)) a xs:=DU ok (.inl e)
def cE(H:Hp)(a:Addr)(y:V)(r:aK):Prop:=
 (∃kvs k,Rd H a (.dK kvs)/\y=kV k/\r=bM kvs k)∨∃kvs k b,Rd H a (.dT kvs)/\y=.ref b/\H b=some (.tup (k.map kV))/\r=bM kvs k
def o6(H:Hp)(a:Addr)(y v:V)(H':Hp):Prop:=
 (∃kvs k,H a=some (.dK kvs)/\y=kV k/\kvs.length<sizeLine/\H'=upd H a (.dK (putK kvs k v))) ∨
 ∃kvs k b,H a=some (.dT kvs)/\y=.ref b/\H b=some (.tup (k.map kV))/\kvs.length<sizeLine/\H'=upd H a (.dT (putK kvs k v))
theorem cE.k{kvs:List (Key × V)}{k:Key}(e:H a=some (.dK kvs)):cE H a (kV k) (bM kvs k):=.inl #[kvs,k,.inl e,Z,Z]
theorem cE.t{k:aM}(e:H a=some (.dT kvs))(eb:H b=some (.tup (k.map kV))):cE H a (.ref b) (bM kvs k):=.inr #[kvs,k,b,.inl e,Z,eb,Z]
theorem o6.k{kvs:List (Key × V)}{k:Key}{v:V}(e:H a=some (.dK kvs))(hl:kvs.length<sizeLine):o6 H a (kV k) v (upd H a (.dK (putK kvs k v))):=.inl #[kvs,k,e,Z,hl,Z]
theorem o6.t{k:aM}{v:V}(e:H a=some (.dT kvs))(eb:H b=some (.tup (k.map kV)))(hl:kvs.length<sizeLine) :
  o6 H a (.ref b) v (upd H a (.dT (putK kvs k v))):=.inr #[kvs,k,b,e,Z,eb,hl,Z]
variable{h':Heap}
variable{kvs:List (Key × V)}
section
variable{X:Cx}{pins:List (Addr × Obj)}{σ:St}{H:Hp}{s:Ab}{a:Addr}{y v:V}{u r:Aa}{o:aK}{A:Ag}{E:Aa->Ab->Prop}
theorem Inv.big(I:Inv X pins σ H s):sysModules<s.heap.objs.size:=by
 have h:mainGlobals<s.heap.objs.size:=(I.mod.glob.keeps I.bk).lt;exact Nat.lt_trans (by decide) h
theorem XX{Q:Aa->Ab->Prop}(hu:A.units+1<cLine)(I:Inv X pins σ H s)(g:cE H a y (some v))(ry:RelV y u)(h:∀w' s',Inv X pins σ H s'->RelV v w'->Q w' s') :
  wpAny (model X.prog X.w) A (getItem (.ref a) u) Q E s:=by
 rcases g with⟨kvs,k,e,ey,l⟩|⟨kvs,k,b,e,ey,eb,l⟩
 ·subst ey;let#[z,hd,vs,rel,dd]:=qp I.aN e;let#[w',hw,kJ]:=fq.some_of (v:=v) (o:=valueAt vs k) (by rw[l];exact rel.val k);exact wpAny_getItem_of (yI ry) dd.mapOf hw (h w' _ (I.tok _) kJ)
 ·subst ey;cases (show u=Value.ref b from ry);let#[z,hd,xs,rel,dd]:=DU I.aN e;let#[w',hw,kJ]:=fq.some_of (v:=v) (o:=(atKey xs k).map (·.2)) (by rw[l];exact rel.val k);let#[p,hp,qc]:=Dj.mp hw;apply wpAny_getItem_heap (tupleKind_room_in1 hu) (HP I.aN eb) dd hp ?_;rw[qc];exact h w' _ (I.tok _) kJ
theorem Rz{Q:Aa->Ab->Prop}(hu:A.units+1<cLine)(I:Inv X pins σ H s)(g:cE H a y o)(ry:RelV y u)(h:∀s',Inv X pins σ H s'->Q (.bool o.isSome) s') :
  wpAny (model X.prog X.w) A (compareOp .In u (.ref a)) Q E s:=by
 rcases g with⟨kvs,k,e,ey,l⟩|⟨kvs,k,b,e,ey,eb,l⟩
 ·subst ey;let#[z,hd,vs,rel,dd]:=qp I.aN e;apply wpAny_in_of (yI ry) hd dd.mapOf ?_;rw[<- (rel.val k).eJ,<- l];exact h _ (I.tok _)
 ·subst ey;cases (show u=Value.ref b from ry);let#[z,hd,xs,rel,dd]:=DU I.aN e;apply wpAny_in_heap (tupleKind_room_in1 hu) (HP I.aN eb) hd dd ?_;let q:=(rel.val k).eJ;rw[Option.isSome_map] at q;rw[<- q,<- l];exact h _ (I.tok _)
theorem l0_{Q:Aa->Ab->Prop}(hu:A.units+1<cLine)(I:Inv X pins σ H s)(g:cE H a y o)(ry:RelV y u)(h:∀s',Inv X pins σ H s'->Q (.bool (!o.isSome)) s') :
  wpAny (model X.prog X.w) A (compareOp .NotIn u (.ref a)) Q E s:=by
 rcases g with⟨kvs,k,e,ey,l⟩|⟨kvs,k,b,e,ey,eb,l⟩
 ·subst ey;let#[z,hd,vs,rel,dd]:=qp I.aN e;apply wpAny_notIn_of (yI ry) hd dd.mapOf ?_;rw[<- (rel.val k).eJ,<- l];exact h _ (I.tok _)
 ·subst ey;cases (show u=Value.ref b from ry);let#[z,hd,xs,rel,dd]:=DU I.aN e;apply wpAny_notIn_heap (tupleKind_room_in1 hu) (HP I.aN eb) hd dd ?_;let q:=(rel.val k).eJ;rw[Option.isSome_map] at q;rw[<- q,<- l];exact h _ (I.tok _)
theorem LJ{ob:HO}(I:Inv X pins σ H s)(mu:Kb (H a))(hs:Heap.SameBut a s.heap h')(he:∃q,h'.get? a=some q)(new:gm X.prog X.w (upd H a ob) h' a ob) :
  Inv X pins σ (upd H a ob) { s with heap:=h',toks:=t' }:=
 I.write (x:=a) (e:=a) mu (.inl Z) (λb q hb z=>(hs.2 b hb).trans z) he new
theorem HR{vs:List (Key × Aa)}(z:kvs.length<=sizeLine)(hd:(a == sysModules)=false)(rel:KV kvs vs)(dd:h'.DictOf (fu P w) a vs) :
  gm P w H' h' a (.dK kvs):=#[z,hd,vs,rel,dd]
theorem Yr{Q:Unit->Ab->Prop}(hu:A.units+1<cLine)(I:Inv X pins σ H s)(g:o6 H a y v H')(ry:RelV y u)(rv:RelV v r)(h:∀s',Inv X pins σ H' s'->Q () s') :
  wpAny (model X.prog X.w) A (setItem (.ref a) u r) Q E s:=by
 rcases g with⟨kvs,k,e,ey,l,eH⟩|⟨kvs,k,b,e,ey,eb,l,eH⟩
 ·subst ey eH;let#[z,hd,vs,rel,dd]:=yJ I.aN e;have hz:vs.length<=sizeLine:=by rw[<- rel.length];exact z
  have hl:(putK kvs k v).length<=sizeLine:=by have:=SX kvs k v;omega
  apply wpAny_setItem_pairs (hsz:=hz) (yI ry) dd λh' sy hs=>h _ ?_;have he:∃q,h'.get? a=some q:=let #[q,_,_,hq,_]:=sy;#[q,hq];exact LJ I (by rw[e];exact True.intro) hs he (HR hl hd (rel.put k rv) sy)
 ·subst ey eH;cases (show u=Value.ref b from ry);let#[z,hd,xs,rel,dd]:=mw_ I.aN e;have hz:xs.length<=sizeLine:=by rw[<- bK rel];exact z
  have hl:(putK kvs k v).length<=sizeLine:=by have:=SX kvs k v;omega
  apply wpAny_setItem_heap (hsz:=hz) (tupleKind_room_in1 hu) (HP I.aN eb) dd λh' sy hs=>h _ ?_;let#[q,es,ep,hq,h2,h3,h4,_,h5]:=sy;apply LJ I (by rw[e];exact True.intro) hs #[q,hq] #[hl,hd,_,(rel.put k eb rv).keeps λc ys ec=>?_,q,es,ep,hq,h2,h3,h4,h5];rw[au (cj ec e nofun)];exact ec
end
variable{E:Aa->Ab->Prop}
theorem li_{Q:Aa->Ab->Prop}(I:Inv X pins σ H s)(e:H a=some (.dK kvs))(h:∀s',Inv X pins σ (upd H a (.dK [])) s'->Q .none s'):wpAny (model X.prog X.w) A (call (.builtin "dict.clear") [.ref a]) Q E s:=by
 let#[z,hd,vs,rel,dd]:=yJ I.aN e;apply call_meetsIn PySem.F.slot_dict_clear dd.typeIs PySem.F.entry_dict_clear (PySem.F.args_dict_clear_1 _) (meets_dict_clear (fu X.prog X.w) a) #[vs,dd,by rw[<- rel.length];exact z,λh' sy hs=>h _ ?_];have he:∃q,h'.get? a=some q:=let #[q,_,_,hq,_]:=sy;#[q,hq];exact LJ (t':=s.toks) I (by rw[e];exact True.intro) hs he (HR (gG _) hd .nil sy)
theorem mx_{Q:Aa->Ab->Prop}(I:Inv X pins σ H s)(e:Rd H a (.dK kvs))(h:∀t s',Inv X pins σ H s'->Q (.int kvs.length t) s'):wpAny (model X.prog X.w) A (call (.builtin "len") [.ref a]) Q E s:=by
 let#[z,hd,vs,rel,dd]:=qp I.aN e;apply call_len_dict hd dd (by rw[<- rel.length];rw[b_] at z;omega) ?_;rw[<- rel.length];exact h _ _ (I.tok _)
def Do(i:Expr):Prop:=∀ov iv,subscripted i false ov iv=operate [ov,iv] (getItem ov iv)
variable{value:Expr}{pos:Pos}
theorem Vt{prog:Ae}{env:Env}{slice:Expr}{id:String}{Q:Aa->Ab->Prop}(hl:typeLookup (.type T) "__getitem__"=pure (some (.builtin id)))(hs:Do slice)(h:wpAny (model prog w) A (eval value env) (λo bf=>wpAny (model prog w) A (eval slice env) (λi kB=>kB.TypeIs o T/\wpAny (model prog w) A (getItem o i) Q E kB) E bf) E s) :
  wpAny (model prog w) A (eval (.Subscript value slice pos) env) Q E s:=by
 apply Subscript_ (wpAny_mono h (λo bf OA=>wpAny_mono OA (λi kB BM=>?_) λ_ _ x=>x) λ_ _ x=>x);let#[hT,BM]:=BM;unfold subscriptTail;apply aO ?_;rw[getitemInPython_of_ne hT.not_modules];apply aO (wpAny_specialOf hT hl ?_)
 have fin:wpAny (model prog w) A (subscripted slice false o i) (λr Fn=>wpAny (model prog w) A (letTemporaryGo value o r >>= λ_=>pure r) Q E Fn) E kB:=by
  rw[hs o i];exact wpAny_operating (wpAny_mono BM (λr Fn Oz=>aO (wpAny_letTemporaryGo (bV Oz))) λ_ _ x=>x)
 first
  |exact bV (aO fin)
  |exact aO (bV (aO fin))
  |exact aO fin
theorem fq_{y:V}(I:Inv X pins σ H s)(g:cE H a y o):s.TypeIs (.ref a) "dict":=by
 rcases g with⟨kvs,k,e,_,_⟩|⟨kvs,k,b,e,_,_,_⟩
 ·let#[_,_,vs,_,dd]:=qp I.aN e;exact dd.typeIs
 ·let#[_,_,xs,_,dd]:=DU I.aN e;exact dd.typeIs
inductive tx (Q:VK) (x:V) (y:V) (H2:Hp):Prop
 |mk:∀a v,x=.ref a->cE H2 a y (some v)->Q v H2->tx Q x y H2
def Fk(td ty:TE):TE:=λσ H Q=>td σ H λx H1=>ty σ H1 λy H2=>tx Q x y H2
inductive zB (Q:VK) (y:V) (x:V) (H2:Hp):Prop
 |mk:∀a o,x=.ref a->cE H2 a y o->Q (.bl o.isSome) H2->zB Q y x H2
def MW(ty td:TE):TE:=λσ H Q=>ty σ H λy H1=>td σ H1 λx H2=>zB Q y x H2
inductive Xq (Q:VK) (y:V) (x:V) (H2:Hp):Prop
 |mk:∀a o,x=.ref a->cE H2 a y o->Q (.bl (!o.isSome)) H2->Xq Q y x H2
def xN(ty td:TE):TE:=λσ H Q=>ty σ H λy H1=>td σ H1 λx H2=>Xq Q y x H2
inductive uB (D:Ends) (σ:St) (v:V) (x:V) (y:V) (H3:Hp):Prop
 |mk:∀a H4,x=.ref a->o6 H3 a y v H4->D.nx σ H4->uB D σ v x y H3
def FA(td ty tv:TE):TS:=λD σ H=>tv σ H λv H1=>td σ H1 λx H2=>ty σ H2 λy H3=>uB D σ v x y H3
def FB(td ty tv:TE)(rd:V->V->Hp->VK->Prop):TS:=λD σ H=>td σ H λx H1=>ty σ H1 λy H2=>∃a v,x=.ref a/\cE H2 a y (some v) /\
 tv σ H2 λy2 H3=>rd v y2 H3 λz H4=>∃H5,o6 H4 a y z H5/\D.nx σ H5
variable{i o:Expr}{td ty:TE}
theorem cn(hu:X.A.units+1<cLine)(ho:PE X o td)(hi:PE X i ty)(hs:Do i:=by exact λ_ _=>rfl):PE X (.Subscript o i pos) (Fk td ty):=by
 intro pins s σ H Q I h;apply Vt PySem.F.slot_dict_getitem.lookup hs (a_ (ho pins s σ H _ I h) λu s1 ⟨x,H1,I1,rx,q1⟩=>a_ (hi pins s1 σ H1 _ I1 q1) λiv s2 ⟨y,H2,I2,ry,a,v,ex,g,q2⟩=>?_);subst ex;obtain rfl:u=Value.ref a:=rx;exact#[fq_ I2 g,XX hu I2 g ry λw' s3 I3 kJ=>#[v,H2,I3,kJ,q2]]
theorem Ek(hu:X.A.units+1<cLine)(hi:PE X i ty)(ho:PE X o td):PC X .In i o (MW ty td):=by
 intro pins s σ H Q I h;apply a_ (hi pins s σ H _ I h) λiv s1 ⟨y,H1,I1,ry,q1⟩=>a_ (ho pins s1 σ H1 _ I1 q1) λu s2 ⟨x,H2,I2,rx,a,ov,ex,g,q2⟩=>?_;subst ex;obtain rfl:u=Value.ref a:=rx;exact Rz hu I2 g ry λs3 I3=>#[.bl ov.isSome,H2,I3,Z,q2]
theorem Yw(hu:X.A.units+1<cLine)(hi:PE X i ty)(ho:PE X o td):PC X .NotIn i o (xN ty td):=by
 intro pins s σ H Q I h;apply a_ (hi pins s σ H _ I h) λiv s1 ⟨y,H1,I1,ry,q1⟩=>a_ (ho pins s1 σ H1 _ I1 q1) λu s2 ⟨x,H2,I2,rx,a,ov,ex,g,q2⟩=>?_;subst ex;obtain rfl:u=Value.ref a:=rx;exact l0_ hu I2 g ry λs3 I3=>#[.bl (!ov.isSome),H2,I3,Z,q2]
variable{pos':Pos}{tv:TE}
theorem rN(hu:X.A.units+1<cLine)(ho:PE X o td)(hi:PE X i ty)(hv:PE X value tv)(hs:swapsWith value (some (.Subscript o i pos')) pos.line X.env=pure false) :
  PS X (.Assign [.Subscript o i pos'] value pos) (FA td ty tv):=by
 intro pins s σ H D I h;apply wpAny_Assign_Subscript (a_ (hv pins s σ H _ I h) λr s1 ⟨v,H1,I1,rv,q1⟩=>a_ (ho pins s1 σ H1 _ I1 q1) λu s2 ⟨x,H2,I2,rx,q2⟩=>a_ (hi pins s2 σ H2 _ I2 q2) λiv s3 ⟨y,H3,I3,ry,a,H4,ex,g,q3⟩=>?_) hs;subst ex;obtain rfl:u=Value.ref a:=rx;exact Yr hu I3 g ry rv λs4 I4=>#[σ,H4,I4,q3]
variable{E6:Pos}
theorem kH_{op:Operator}{rd:V->V->Hp->VK->Prop}(hu:X.A.units+1<cLine)(ho:PE X o td)(hi:PE X i ty)(hv:PE X value tv)(hop:Ke X op rd)
  (ha:∀ov iv new,augStore i ov iv new=(do holding [new,ov,iv] (setItem ov iv new);release [new,ov,iv] [];pure .next)):PS X (.AugAssign (.Subscript o i E6) op value pos) (FB td ty tv rd):=by
 intro pins s σ H D I h;apply wpAny_AugAssign_SubscriptAny (a_ (ho pins s σ H _ I h) λu s1 ⟨x,H1,I1,rx,q1⟩=>a_ (hi pins s1 σ H1 _ I1 q1) λiv s2 ⟨y,H2,I2,ry,a,v,ex,g,q2⟩=>?_) ha;subst ex;obtain rfl:u=Value.ref a:=rx;apply XX hu I2 g ry λw' s3 I3 kJ=>a_ (hv pins s3 σ H2 _ I3 q2) λw2 s4 ⟨y2,H3,I4,ry2,q3⟩=>a_ (hop pins s4 σ H3 v y2 w' w2 _ I4 kJ ry2 q3) λw3 s5 ⟨z,H4,I5,rz,H5,g5,q4⟩=>?_;exact Yr hu I5 g5 ry rz λs6 I6=>#[σ,H5,I6,q4]
theorem XS(h:Heap)(hb:sysModules<h.objs.size):gm P w H (h.push { cls:=.type "dict",data:=.dict #[] }) h.objs.size (.dK []):=
 #[gG _,beq_eq_false_iff_ne.mpr (Ne.symm (eV hb)),[],.nil,Heap.DictOf.new h]
theorem iY_(h:Heap)(hb:sysModules<h.objs.size):gm P w H (h.push { cls:=.type "dict",data:=.dict #[] }) h.objs.size (.dT []):=
 #[gG _,beq_eq_false_iff_ne.mpr (Ne.symm (eV hb)),[],.nil,_,#[],0,fG _ Z,#[Z,Z,Z],Z,Z,List.nodup_nil]
def A6:TE:=λ_ H Q=>∀p,H p=none->Q (.ref p) (upd H p (.dK []))
def A5:TE:=λ_ H Q=>∀p,H p=none->Q (.ref p) (upd H p (.dT []))
theorem C_:PE X (.Dict [] [] pos) A6:=λpins s σ H Q I h=>
 wpAny_Dict_empty #[.ref s.heap.objs.size,_,I.laid (a:=s.heap.objs.size) (o:=.dK []) (t':=s.toks) (λ_ _ q=>cU _ q) (bp _) (XS s.heap I.big),Z,h _ (I.aN.fresh (bp _))]
theorem jv_:PE X (.Dict [] [] pos) A5:=λpins s σ H Q I h=>
 wpAny_Dict_empty #[.ref s.heap.objs.size,_,I.laid (a:=s.heap.objs.size) (o:=.dT []) (t':=s.toks) (λ_ _ q=>cU _ q) (bp _) (iY_ s.heap I.big),Z,h _ (I.aN.fresh (bp _))]
def mQ:List (TE × TE)->St->Hp->(List (V × V)->Hp->Prop)->Prop
 |[],_,H,Q=>Q [] H
 |(tk,tv)::r,σ,H,Q=>tk σ H λx H1=>tv σ H1 λy H2=>mQ r σ H2 λps H3=>Q ((x,y)::ps) H3
abbrev VV:List (V × V)->List (Aa × Aa)->Prop:=Paired λp q=>RelV p.1 q.1/\RelV p.2 q.2
def Mx(X:Cx)(pos:Pos)(keys:List (Option Expr))(values:List Expr)(zm:List (TE × TE)):Prop:=
 ∀(pins:List (Addr × Obj)) (s:Ab) (σ:St) (H:Hp) (Q:List (V × V)->Hp->Prop),Inv X pins σ H s->mQ zm σ H Q->
  wpAny (model X.prog X.w) X.A (evalPairs (pairTrees keys values X.env pos)) (λvs s'=>∃ps H',Inv X pins σ H' s'/\VV ps vs/\Q ps H') X.xe s
theorem l5_:Mx X pos [] [] []:=λpins s σ H Q I h=>pairTrees_nil_walk #[[],H,I,.nil,h]
variable{zm:List (TE × TE)}
theorem Qv{k v:Expr}{ks:List (Option Expr)}{vs:List Expr}{tk:TE}(hk:PE X k tk)(hv:PE X v tv)(hr:Mx X pos ks vs zm) :
  Mx X pos (some k::ks) (v::vs) ((tk,tv)::zm):=λpins s σ H Q I h=>
 pairTrees_cons_walk (a_ (hk pins s σ H _ I h) λu s1 ⟨x,H1,I1,rx,q1⟩=>a_ (hv pins s1 σ H1 _ I1 q1) λw2 s2 ⟨y,H2,I2,ry,q2⟩=>
  a_ (hr pins s2 σ H2 _ I2 q2) λws s3 ⟨ps,H3,I3,rel,q3⟩=>#[(x,y)::ps,H3,I3,.cons #[rx,ry] rel,q3])
def oW(kvs more:List (Key × V)):List (Key × V):=more.foldl (λacc kv=>putK acc kv.1 kv.2) kvs
theorem KV.merge:∀{more:List (Key × V)} {rs:List (Key × Aa)} {kvs:List (Key × V)} {vs:List (Key × Aa)},KV more rs->KV kvs vs->KV (oW kvs more) (merged vs rs):=by
 intro more rs kvs vs r;unfold KV at r
 induction r generalizing kvs vs with
 |nil=>intro q;exact q
 |@cons p q ps qs h t ih=>
  intro r0
  have e:KV (putK kvs p.1 p.2) (stored vs q.1 q.2):=by
   have:=r0.put p.1 h.2;rw[<- h.1];exact this
  exact ih e
theorem S_:∀(more kvs:List (Key × V)),(oW kvs more).length<=kvs.length+more.length
 |[],kvs=>by show kvs.length<=kvs.length+0;omega
 |p::r,kvs=>by
  let h1:=S_ r (putK kvs p.1 p.2);let h2:=SX kvs p.1 p.2;show (oW (putK kvs p.1 p.2) r).length<=_;rw[iW];omega
theorem Y0{P:Ae}{w:Af}:∀{kvs:List (Key × V)} {ws:List (Aa × Aa)},VV (kvs.map λkv=>(kV kv.1,kv.2)) ws->∃rs,Carries (fu P w) ws rs/\KV kvs rs
 |[],_,r=>by rw[xk] at r;cases r;exact#[[],True.intro,.nil]
 |p::kvs,_,r=>by
  rw[eL] at r;cases r with
  |@cons a b as bs h t=>
   let#[rs,c,q]:=Y0 (P:=P) (w:=w) t;let#[b1,b2]:=b;exact#[(p.1,b2)::rs,#[yI h.1,Z,c],.cons #[Z,h.2] q]
def Fj(zm:List (TE × TE)):TE:=λσ H Q=>∀p,H p=none->mQ zm σ (upd H p (.dK [])) λps H2=>H2 p=some (.dK [])/\∃kvs:List (Key × V),ps=kvs.map (λkv=>(kV kv.1,kv.2))/\kvs.length<=15/\Q (.ref p) (upd H2 p (.dK (oW [] kvs)))
theorem kS_{keys:List (Option Expr)}{values:List Expr}(h:Mx X pos keys values zm)(vw:keys.all (·.isSome)=true)(hl:keys.length=values.length)(h0:keys≠[])(h15:keys.length<=15):PE X (.Dict keys values pos) (Fj zm):=by
 intro pins s σ H Q I q;let hn:=I.aN.fresh (bp s.heap.objs.size);let I1:=I.laid (a:=s.heap.objs.size) (o:=.dK []) (h':=s.heap.push { cls:=.type "dict",data:=.dict #[] }) (t':=s.toks) (λ_ _ q=>cU _ q) (bp _) (XS s.heap I.big);apply wpAny_Dict_walk (knd:=fu X.prog X.w) vw hl h0 h15 (a_ (h pins _ σ _ _ I1 (q _ hn)) λws s2 ⟨ps,H2,I2,rel,e,kvs,ep,lk,q2⟩=>?_);subst ep;let#[rs,c,rk]:=Y0 (P:=X.prog) (w:=X.w) rel;let#[z,hd,vs0,r0,dd]:=yJ I2.aN e;cases r0;apply#[rs,c,dd,λh' sy hs=>#[.ref s.heap.objs.size,_,?_,Z,q2]]
 have hz:(oW [] kvs).length<=sizeLine:=by
  let h1:=S_ kvs [];rw[sL] at h1;rw[b_];omega
 have he:∃q,h'.get? s.heap.objs.size=some q:=let #[q,_,_,hq,_]:=sy;#[q,hq];exact LJ I2 (by rw[e];exact True.intro) hs he (HR hz hd (rk.merge .nil) sy)
structure M1 (X:Cx) (o:Expr) (m:Str) (apos:Pos) (e:Expr) (du:Pos):Prop where
 base:attributeBase o m X.env (eval o X.env)=eval o X.env
 few:((backTo du (starEach [e] X.env)).all (λx=>!x.1)&&(backToKw du (keywordEach [] X.env)).all (λx=>x.1.isSome)
  && decide (([e]:List Expr).length+([]:List Keyword).length+(if ([]:List Keyword).isEmpty then 0 else 1)<30))=true
 line:(apos.endLine == du.line)=true
 trees:backTo du (starEach [e] X.env)=[(false,eval e X.env)]
structure M2 (X:Cx) (o:Expr) (m:Str) (apos:Pos) (e f:Expr) (du:Pos):Prop where
 base:attributeBase o m X.env (eval o X.env)=eval o X.env
 few:((backTo du (starEach [e,f] X.env)).all (λx=>!x.1)&&(backToKw du (keywordEach [] X.env)).all (λx=>x.1.isSome)
  && decide (([e,f]:List Expr).length+([]:List Keyword).length+(if ([]:List Keyword).isEmpty then 0 else 1)<30))=true
 line:(apos.endLine == du.line)=true
 trees:backTo du (starEach [e,f] X.env)=[(false,eval e X.env),(false,eval f X.env)]
def IsD(H:Hp)(a:Addr):Prop:=(∃kvs,Rd H a (.dK kvs))∨∃kvs,Rd H a (.dT kvs)
theorem UV(I:Inv X pins σ H s)(d:IsD H a) :
  s.TypeIs (.ref a) "dict"/\(∀b,Value.ref a=.ref b->∃ob,s.heap.get? b=some ob/\ob.dict=none)/\(a == sysModules)=false:=by
 rcases d with⟨kvs,e⟩|⟨kvs,e⟩
 ·let#[_,hd,vs,_,dd]:=qp I.aN e;apply#[dd.typeIs,λb q=>?_,hd];cases q;let#[ob,_,_,h1,h2,_]:=dd;exact#[ob,h1,h2.2.1]
 ·let#[_,hd,xs,_,dd]:=DU I.aN e;apply#[dd.typeIs,λb q=>?_,hd];cases q;let#[ob,_,_,h1,h2,_]:=dd;exact#[ob,h1,h2.2.1]
theorem j4_{Q:Aa->Ab->Prop}(I:Inv X pins σ H s)(e:Rd H a (.dK kvs))(h:∀p s',H p=none->Inv X pins σ (upd H p (.dK kvs)) s'->Q (.ref p) s'):wpAny (model X.prog X.w) A (call (.type "dict") [.ref a]) Q E s:=by
 let#[z,hd,vs,rel,dd]:=qp I.aN e;apply kt_call_dict hd dd (by rw[<- rel.length];exact z) λh' sy hs=>?_;apply h _ _ (I.aN.fresh (bp _)) (I.laid (a:=s.heap.objs.size) (o:=.dK kvs) (t':=s.toks) (λb q hq=>?_) (bp _) (HR z (beq_eq_false_iff_ne.mpr (Ne.symm (eV I.big))) rel sy));exact (hs.2 b (eV (cQ hq))).trans (cU _ hq)
end L2
namespace ZO
open PySem PySem.W PySem.Calls PyProof.Rows
variable{P:Params}{h:Heap}
theorem d8_:∀(ns:List Int) (vs:ax),WellAll P h vs (ns.map WData.int)->IntsAre vs ns:=by
 intro ns
 induction ns with
 |nil=>
  intro vs w;rw[xk] at w;cases w;exact .nil
 |cons n ns ih=>
  intro vs w;rw[eL] at w;cases w with
  |cons a b=>
   cases a;exact .cons _ _ (ih _ b)
variable{l:OpenLaw}{n:Nat}
theorem i3_(hn:l.most=some n){args:List WData}{vals:ax}(yw:l.row.toRowW.claim.pre args=true)(OC:WellAll P h vals args) :
  ∃a vs ns,vals=[Value.ref a]/\args=[WData.list (ns.map WData.int)]/\h.get? a=some { cls:=.type "list",data:=.seq vs.toArray }/\IntsAre vs ns/\ns.length<=n:=by
 have hsh:WShape.hasAll [] args [.list .int]=true:=(pre_splitW yw).1;have hc:l.pre.holds [] { args:=args }=true:=(pre_splitW yw).2;let#[d,r,rfl,h1,h2]:=hasAllW_cons hsh;obtain rfl:=hasAllW_nil h2;let#[xs,rfl,h3]:=hasW_list h1;let#[ns,rfl]:=items_int h3
 have hlen:ns.length<=n:=by
  unfold OpenLaw.pre at hc
  have h4:(WTm.not (.lt (.lit (.int (n:Int))) (.len (.arg 0)))).holds [] { args:=[.list (ns.map .int)] }=true:=by
   let h4:=(holds_andW hc).1;rw[hn] at h4;exact h4
  let h5:=condW_of h4 (w_not (w_lt w_lit (w_len_list (w_arg Z))));rw[ao] at h5;apply Nat.le_of_not_lt λq=>?_;have q':(n:Int)<((ns.length:Nat):Int):=by omega
  first
   |(rw[cc q'] at h5;exact absurd h5 (by decide))
   |(simp at h5;omega)
 cases OC with
 |cons w1 w2=>
  cases w2;cases w1 with
  |list ho vw=>exact#[_,_,ns,Z,Z,ho,d8_ ns _ vw,hlen]
theorem iH_(l:OpenLaw)(args:List WData):l.row.toRowW.claim.post args (.bool true) args=true:=
 postW_of (r:=l.row.toRowW) (X:=(true == true))
  (show WShape.has [] (.bool true) .bool=true by first|rfl|decide|simp[WShape.has,WShape.arms,WShape.armsAll])
  (show (WTm.eq .res (.lit (.bool true))).value [] { args:=args,res:=some (.bool true),after:=args }=some (.bool (true == true)) from w_eq_bool (w_res Z) w_lit) Z
theorem lK{q:Ae}{loose:ae}{XP:(Str->Option Aa)->Heap->Prop}{YP:Af->Heap->Prop}{d:DefRec}(hn:l.most=some n)(k_:d.params.defaults=[])(call:∀(w:Af) (dA bf:Ab) (mg mb:Str->Option Aa) (fa:Addr) (o:Obj) (pm cd doc:Aa) (a:Addr) (vs:ax) (ns:List Int),
   Ground q loose [] XP w dA mg mb bf.heap->YP w bf.heap->
   bf.heap.get? fa=some o->o.data=.func (docDef d.name d.params d.body d.scope pm cd doc)->bf.heap.CodeRec cd d.name->mg d.name=some (.ref fa)->
   bf.heap.get? a=some { cls:=.type "list",data:=.seq vs.toArray }->IntsAre vs ns->ns.length<=n->bf.gens=#[]->
   codeAny (model l.prog w) callerA (.call (.ref fa) #[[.ref a],[]]) (λr s'=>r=.ok (.ret (.bool true))/\OldK bf.heap s'.heap/\s'.os=bf.os/\AllBare s'.gens) bf) :
  WalkO q loose XP YP l.row.toRowW d [] (λf vs=>PySem.call f vs):=by
 intro w dA bf mg mb G Y fa o pm cd doc dV kV ho hd iQ hD hmg hg args vals as yw hlay hrd OC hlo;obtain rfl:dV=.none:=Dflts.none hD k_;obtain rfl:kV=.none:=Dflts.noKw hD;let#[a,vs,ns,rfl,rfl,BU,hints,hlen]:=i3_ hn yw OC;apply enter_call (codeAny_mono (call w dA bf mg mb fa o pm cd doc a vs ns G Y ho (fd_plain hd) iQ hmg BU hints hlen hg) λr s' hq=>?_);let#[rfl,h2,h3,h4]:=hq;exact#[.inl #[.bool true,.bool true,[],Z,λ_=>rfl,.bool true,iH_ l _,λ_=>#[List.Pairwise.nil,λ_ hm=>(nomatch hm)]],h2,h3,h4]
end ZO
namespace L2
open PySem PySem.Spec PyProof.Rows
theorem X3:∀{vs:ax} {ns:List Int},IntsAre vs ns->Vals (ns.map V.int) vs
 |_,_,.nil=>.nil
 |_,_,.cons n t h=>.cons #[t,Z] (X3 h)
def ke(s:Stmt)(j:Nat):Stmt:=match s with
 |.ClassDef _ _ _ body _ _ _ _ _ _ _=>body.getD j (.Pass #[0,0,0,0])
 |_=>.Pass #[0,0,0,0]
def j_(s:Stmt):Arguments:=match s with
 |.FunctionDef _ a _ _ _ _ _ _ _ _=>a
 |_=>{ posonlyargs:=[],args:=[],vararg:=none,kwonlyargs:=[],kw_defaults:=[],kwarg:=none,defaults:=[] }
def i5(s:Stmt):List Stmt:=match s with
 |.FunctionDef _ _ b _ _ _ _ _ _ _=>b
 |_=>[]
def bb(s:Stmt):Scope:=match s with
 |.FunctionDef _ _ _ _ _ _ sc _ _ _=>sc
 |_=>{ kind:=.function,names:=[],isGenerator:=false,isCoroutine:=false }
abbrev aZ:xE:=λ_ _ _ _ _ _=>False
abbrev E0:XK:=λ_ _ _=>False
variable{X:Cx}
theorem kK:w9 aZ X E0:=λ_ _ _ _ _ _ _ h=>h.elim
structure bo (K:af) (x qual:Str) (st:Stmt) (f:Addr) (fd:Ad):Prop where
 ex:∃(oc:Aa) (od:Option Addr) (kV doc pm:Aa) (an:Option Addr) (aR ct:Aa) (mh:Array (Option Aa)),
  fd=PySem.W.fnOf x qual (j_ st) (i5 st) (bb st) .none kV doc pm an aR ct/\K.lookup f=some #[oc,od,.func fd,mh]/\PySem.W.codeIn K aR qual=true
 kp:PySem.W.keepIn K (.ref f)=true
variable{qual x:Str}{st:Stmt}{f:Addr}{fd:Ad}{N ps:ae}{k:Nat}{sp:Sp}{P:Ae}{w:Af}{K:af}{mg:Str->Option Aa}{base:Heap}
theorem bo.ok(F:bo K x qual st f fd)(S:bD N ps (bb st))(len:∀vs H Q E,sp vs H Q E->vs.length=ps.length)(gB:∀(aR:Aa) (A:Ag) (outer:List Env) (s:Ab) (H:Hp) (vs:ai) (Q:VK) (E:XK),ba k (A.deeper (envOfC qual (bb st) s.heap.objs.size f aR))->sp vs H Q E->
   ∃t,mL (lC aZ P w K mg base N qual (bb st) f aR A outer s H E).BC (i5 st) t/\t { nx:=λ_ H'=>Q .non H',rt:=Q } (start N vs) H):!aj aZ (k+1) f fd ps sp:=by
 let#[oc,od,kV,doc,pm,an,aR,ct,mh,rfl,lk,iQ]:=F.ex;apply UE lk iQ S len λA outer s H vs Q E hr mi=>?_;let#[t,h,q]:=gB aR A outer s H vs Q E hr mi;exact#[t,h.BC,q]
theorem bo.bI(F:bo K x qual st f fd)(S:bD N ps (bb st))(gB:∀(aR:Aa) (A:Ag) (outer:List Env) (s:Ab) (H:Hp) (vs:ai) (Q:VK) (E:XK),ba k (A.deeper (envOfC qual (bb st) s.heap.objs.size f aR))->sp vs H Q E->
   ∃t,mL (lC aZ P w K mg base N qual (bb st) f aR A outer s H E).BC (i5 st) t/\t { nx:=λ_ H'=>Q .non H',rt:=Q } (start N vs) H)(len:∀vs H Q E,sp vs H Q E->vs.length=ps.length:=by intro vs H Q E h;first|(cases h;subst_vars;rfl)|(let#[rfl,_]:=h;rfl)|(let#[_,rfl,_]:=h;rfl)|(let#[_,_,rfl,_]:=h;rfl)|(let#[_,_,_,rfl,_]:=h;rfl)|(let#[_,_,_,_,rfl,_]:=h;rfl)):!aj aZ (k+1) f fd ps sp:=F.ok S len gB
theorem bo.binds(F:bo K x qual st f fd)(h:∀(kV doc pm:Aa) (an:Option Addr) (aR ct:Aa) (us:ax),us.length=ps.length->bindArgs (PySem.W.fnOf x qual (j_ st) (i5 st) (bb st) .none kV doc pm an aR ct) #[us,[]]=pure (ps.zip us)):rJ K fd ps []:=by
 let#[oc,od,kV,doc,pm,an,aR,ct,mh,rfl,lk,iQ]:=F.ex;exact .all (h kV doc pm an aR ct)
theorem Ov{oc:Aa}{od an:Option Addr}{mh:Array (Option Aa)}{kV doc pm aR ct:Aa}(l:K.lookup f=some #[oc,od,.func (PySem.W.fnOf x qual (j_ st) (i5 st) (bb st) .none kV doc pm an aR ct),mh])(c:PySem.W.codeIn K aR qual=true)(k:PySem.W.keepIn K (.ref f)=true):bo K x qual st f (PySem.W.fnOf x qual (j_ st) (i5 st) (bb st) .none kV doc pm an aR ct):=#[#[oc,od,kV,doc,pm,an,aR,ct,mh,Z,l,c],k]
theorem eU{A:Ag}(hr:ba k A):A.units+1<cLine:=Nat.lt_of_le_of_lt (Nat.add_le_add_left (by decide:1<=64) _) hr.units
theorem pv(i:Nat){pos:Pos}(hN:X.N[i]? = some x:=by rfl)(hv:Th X.env.scope x:=by first|exact Or.inl Z|exact Or.inr (Or.inl Z)|exact Or.inr (Or.inr Z))(hd:(x == ("__debug__":Str))=false:=by decide)(iQ:(x == ("__classdict__":Str))=false:=by decide):PE X (.Name x pos) (sW i):=lY_ hN hv hd iQ
inductive YE (xs:ai) (H:Hp) (Q:VK):Prop
 |mk:∀a kvs,xs=[V.ref a]->H a=some (.dK kvs)->Q (.int kvs.length) H->YE xs H Q
theorem hW_:gY X (.builtin "len") YE:=by
 intro pins s σ H xs us Q I r h;let#[a,kvs,rfl,ha,q]:=h;let#[u,rfl,ru]:=vals1 r;cases ru;exact mx_ I (.inl ha) λt s' I'=>#[.int kvs.length,H,I',#[t,Z],q]
variable{A B:Prop}
theorem bu(h:B):if false=true then A else B:=by
 rw[aq hE];exact h
theorem fo(h:A):if true=true then A else B:=by
 rw[aA Z];exact h
variable{c:Prop}
theorem aP[Decidable c](h1:c->A)(h2:¬c->B):if c then A else B:=by
 by_cases h:c
 ·rw[aA h];exact h1 h
 ·rw[aq h];exact h2 h
theorem uX[Decidable c](hc:c)(h:B):if (!decide c)=true then A else B:=by
 rw[cc hc];exact bu h
def aa(H H':Hp):Prop:=∀b o,H b=some o->H' b=some o
theorem aa.refl(H:Hp):aa H H:=λ_ _ h=>h
variable{H:Hp}
theorem aa.trans{H1 H2:Hp}(a:aa H H1)(b:aa H1 H2):aa H H2:=λc o h=>b c o (a c o h)
theorem aa.free{H':Hp}(e:aa H H'){l:Addr}(h:H' l=Option.none):H l=Option.none:=by
 cases q:H l with
 |none=>rfl
 |some o=>
  rw[e l o q] at h;cases h
section
variable{κ:Type}[DecidableEq κ]
theorem kP_{kvs:List (κ × V)}{k:κ}{v:V}(h:bM kvs k=some v):k∈kvs.map (·.1):=by
 have q:(kvs.any λkv=>decide (kv.1=k))=true:=by
  rw[Im,h]
  all_goals rfl
 let#[p,hp,e]:=List.any_eq_true.mp q;exact bj.mpr #[p,hp,jB e]
end
end L2
local macro_rules|`(%[$x,*|$_])=>do return (<-x.getElems.foldrM (λe (a:Lean.Term)=>if e.raw.isNatLit?.isSome then`(L2.dD (L2.pv $e) $a)else`(L2.dD $e $a)) (<-`(L2.aJ)))
namespace L2
open PySem PySem.Spec PyProof.Rows
def jY(env:Env):List (Str × NameKind)->List (Str × Addr)->List (Str × Addr)
 |[],cs=>cs
 |(n,k)::r,cs=>jY env r (if k == .free then (n,(env.cells.lookup n).getD 0)::cs else cs)
theorem S8{env:Env}(f:Str × NameKind->List (Str × Addr)->Sem (ForInStep (List (Str × Addr))))
  (hf:∀n k cs,f (n,k) cs=if (k == .free)=true then (do let a <- cellOf env n;pure (.yield ((n,a)::cs))) else pure (.yield cs)) :
  ∀(names:List (Str × NameKind)) (cs:List (Str × Addr)),(∀x∈names,x.2=.free->∃c,env.cells.lookup x.1=some c)->forIn names cs f=(pure (jY env names cs):Sem _)
 |[],cs,_=>by rw[List.forIn_nil];rfl
 |(n,k)::r,cs,h=>by
  rw[List.forIn_cons,hf];have hr:∀x∈r,x.2=.free->∃c,env.cells.lookup x.1=some c:=λx hx=>h x (dI _ hx);unfold jY;by_cases hk:(k == NameKind.free)=true
  ·let#[c,hc]:=h (n,k) cZ (by simpa using hk);have hc:env.cells.lookup n=some c:=hc;rw[aA hk,aA hk];have e:cellOf env n=pure c:=by unfold cellOf;rw[hc]
   rw[e];simp only[pure_bind];rw[S8 f hf r _ hr,hc];rfl
  ·rw[aq hk,aq hk];simp only[pure_bind];exact S8 f hf r _ hr
variable{scope:Scope}{env:Env}
theorem Zf(h:∀x∈scope.names,x.2=.free->∃c,env.cells.lookup x.1=some c):closureFor scope env=pure (jY env scope.names []):=by
 simp only[closureFor];rw[S8 (env:=env) _ (λn k cs=>by by_cases hk:(k == NameKind.free)=true<;>simp[hk]) scope.names [] h]
 simp only[pure_bind]
theorem Y1{env:Env}:∀{names:List (Str × NameKind)} {cs:List (Str × Addr)} {x:Str} {c:Addr},(x,c)∈jY env names cs->(x,c)∈cs∨((x,NameKind.free)∈names/\c=(env.cells.lookup x).getD 0)
 |[],cs,x,c,h=>.inl h
 |(n,k)::r,cs,x,c,h=>by
  unfold jY at h;rcases Y1 h with h|⟨h,e⟩
  ·by_cases hk:(k == NameKind.free)=true
   ·rw[aA hk] at h;rcases bZ.mp h with q|q
    ·cases q;have:k=.free:=by simpa using hk
     subst this;exact .inr #[cZ,Z]
    ·exact .inl q
   ·rw[aq hk] at h;exact .inl h
  ·exact .inr #[dI _ h,e]
theorem SM{env:Env}:∀{names:List (Str × NameKind)} {cs:List (Str × Addr)} {x:Str},(x,NameKind.free)∈names∨(∃c,(x,c)∈cs)->∃c,(x,c)∈jY env names cs
 |[],cs,x,h=>by
  rcases h with h|h
  ·cases h
  ·exact h
 |(n,k)::r,cs,x,h=>by
  unfold jY;apply SM ?_;rcases h with h|⟨c,h⟩
  ·rcases bZ.mp h with e|h
   ·cases e;exact .inr #[(env.cells.lookup n).getD 0,by rw[aA (by decide)];exact cZ]
   ·exact .inl h
  ·apply .inr #[c,?_];split
   ·exact dI _ h
   ·exact h
theorem S6:∀(names:List (Str × NameKind)) (n:Nat) (acc cl:List (Str × Addr)),cellsFrom n names (acc++cl)=cellsFrom n names acc++cl
 |[],_,_,_=>rfl
 |(x,k)::r,n,acc,cl=>by
  unfold cellsFrom;split
  ·exact S6 r (n+1) ((x,n)::acc) cl
  ·exact S6 r n acc cl
theorem S9:∀{names:List (Str × NameKind)} {n:Nat} {acc:List (Str × Addr)} {x:Str} {c:Addr},(x,c)∈cellsFrom n names acc->(x,c)∈acc∨(x,NameKind.cell)∈names
 |[],_,_,_,_,h=>.inl h
 |(y,k)::r,n,acc,x,c,h=>by
  unfold cellsFrom at h;by_cases hk:(k == NameKind.cell)=true
  ·rw[aA hk] at h;rcases S9 h with h|h
   ·rcases bZ.mp h with e|h
    ·cases e;have:k=.cell:=by simpa using hk
     subst this;exact .inr cZ
    ·exact .inl h
   ·exact .inr (dI _ h)
  ·rw[aq hk] at h;rcases S9 h with h|h
   ·exact .inl h
   ·exact .inr (dI _ h)
theorem S7{α:Type}:∀{l:List (Str × α)} {x:Str} {c:α},(x,c)∈l->∃c',l.lookup x=some c'
 |(k,v)::r,x,c,h=>by
  rw[vW];cases hb:x == k with
  |true=>exact#[v,Z]
  |false=>
   rcases bZ.mp h with e|h
   ·cases e;simp at hb
   ·exact S7 h
def lF(scope:Scope)(C:Addr)(env:Env):Env:=
 { scope:=relabel scope env,locals:=C,globals:=env.globals,cells:=cellsFrom (C+1) scope.names (jY env scope.names []),qual:=env.qual,func:=none,code:=env.code,frame:=env.frame,builtins:=env.builtins }
theorem Za{M:Model}{A:Ag}{E:Aa->Ab->Prop}{s:Ab}{cl:List (Str × Addr)}{Q:Env->Ab->Prop}(h:Q { scope:=scope,locals:=s.heap.objs.size,globals:=env.globals,cells:=cellsFrom (s.heap.objs.size+1) scope.names cl,qual:=env.qual,func:=none,code:=env.code,frame:=env.frame,builtins:=env.builtins }
   { s with heap:=pushCells (s.heap.push { cls:=.type "dict",data:=.dict #[] }) scope.names }) :
  wpAny M A (newFunctionEnv scope env.globals cl [] env.qual none .none (some env)) Q E s:=by
 simp only[newFunctionEnv,Option.isSome_some,if_true];apply aO (wpAny_alloc ?_);apply aO (wpAny_layCells _ (λname kind cells=>by cases hkc:kind == NameKind.cell<;>simp[hkc]) _ _ _ _ ?_)
 rw[show ({ s with heap:=s.heap.push { cls:=.type "dict",data:=.dict #[] } }:Ab).heap.objs.size=s.heap.objs.size+1 from Heap.size_push ..];rw[List.forIn_nil];exact aO (bV (bV h))
def LA(PN:ae)(ps:Scope)(N:ae)(own:Nat)(fr:List Nat)(scope:Scope):Bool:=
 decide (scope.kind=.function)&&decide N.Nodup&&decide (own+fr.length=N.length)
 && (scope.names.all λy=>decide (scope.names.lookup y.1=some y.2))
 && (scope.names.all λy=>if y.2=.free then decide (ps.names.lookup y.1=some .cell) || decide (ps.names.lookup y.1=some .free) else true)
 && ((fr.map λj=>PN[j]?) == (N.drop own).map some)
 && ((N.drop own).all λx=>decide (scope.names.lookup x=some .free))
structure o7 (PN:ae) (ps:Scope) (N:ae) (own:Nat) (fr:List Nat) (scope:Scope):Prop where
 kind:scope.kind=.function
 nd:N.Nodup
 len:own+fr.length=N.length
 look:∀y∈scope.names,scope.names.lookup y.1=some y.2
 par:∀y∈scope.names,y.2=.free->ps.names.lookup y.1=some .cell∨ps.names.lookup y.1=some .free
 rE:(fr.map λj=>PN[j]?)=(N.drop own).map some
 frk:∀x∈N.drop own,scope.names.lookup x=some .free
variable{N:ae}{own:Nat}{fr:List Nat}
theorem o7.of{PN:ae}{ps:Scope}(h:LA PN ps N own fr scope=true):o7 PN ps N own fr scope:=by
 unfold LA at h;simp only[xx,mC,List.all_eq_true,beq_iff_eq] at h;let#[#[#[#[#[#[h1,h2],h3],h4],h5],h6],h7]:=h;apply#[h1,h2,h3,h4,λy hy e=>?_,h6,h7];let q:=h5 y hy;rw[aA e] at q;simpa using q
def CM(own:Nat)(fr:List Nat)(σ:St):St:=List.replicate own none++fr.map λj=>(σ[j]?).join
def i7(X:Cx)(N:ae)(scope:Scope)(fp:ay)(s:Ab)(H:Hp):Cx where
 prog:=X.prog
 w:=X.w
 K:=X.K
 mg:=X.mg
 base:=X.base
 A:=X.A
 N:=N
 dA:=s
 lX:=H
 env:=lF scope s.heap.objs.size X.env
 outer:=X.stack
 stack:=X.stack
 ex:=fp
 fn:=λx=>decide (scope.names.lookup x=some .local) || decide (scope.names.lookup x=some .cell)
 calm:=X.calm
 pn:=[]
 xe:=λ_ _=>False
theorem Zk{ps:Scope}{env:Env}(he:env.scope=ps){x:Str}:∀{names:List (Str × NameKind)} {k:NameKind},names.lookup x=some k->
  (names.map λ(n,k)=>if (k == NameKind.free&&env.scope.kind == .function&&env.kindOf n == some .cell) then (n,NameKind.cell) else (n,k)).lookup x =
   some (if (k == NameKind.free&&env.scope.kind == .function&&env.kindOf x == some .cell) then .cell else k)
 |(n,k')::r,k,h=>by
  rw[vW] at h;rw[eL];cases hb:x == n with
  |true=>
   rw[hb] at h;cases h;have e:x=n:=by simpa using hb
   subst e;dsimp only;split<;>simp[vW]
  |false=>
   rw[hb] at h;let ih:=Zk he (env:=env) h;dsimp only;split<;>(rw[vW,hb];exact ih)
theorem R6{env:Env}{x:Str}:∀{names:List (Str × NameKind)} {k:NameKind},(names.map λ(n,k)=>if (k == NameKind.free&&env.scope.kind == .function&&env.kindOf n == some .cell) then (n,NameKind.cell) else (n,k)).lookup x=some k->∃k',names.lookup x=some k'/\(k'=k∨(k'=.free/\k=.cell))
 |(n,k')::r,k,h=>by
  rw[eL] at h;rw[vW];dsimp only at h;cases hb:x == n with
  |true=>
   apply#[k',Z,?_];by_cases hc:(k' == NameKind.free&&env.scope.kind == .function&&env.kindOf n == some .cell)=true
   ·rw[aA hc,vW,hb] at h;cases h;simp only[xx,beq_iff_eq] at hc;exact .inr #[hc.1.1,Z]
   ·rw[aq hc,vW,hb] at h;cases h;exact .inl Z
  |false=>
   have h':(r.map λ(n,k)=>if (k == NameKind.free&&env.scope.kind == .function&&env.kindOf n == some .cell) then (n,NameKind.cell) else (n,k)).lookup x=some k:=by
    split at h<;>(rw[vW,hb] at h;exact h)
   exact R6 h'
theorem ea_{α:Type}{x:Str}{c:α}:∀{l r:List (Str × α)},(l++r).lookup x=some c->(x,c)∈l∨(x,c)∈r:=λh=>fQ.mp (rO h)
section
variable{X:Cx}{pins:List (Addr × Obj)}{σ:St}{H:Hp}{s:Ab}{N:ae}{own:Nat}{fr:List Nat}{scope:Scope}{fp:ay}
theorem Xp(I:Inv X pins σ H s)(S:o7 X.N X.env.scope N own fr scope){x:Str}{c:Addr}(h:(x,c)∈jY X.env scope.names []):X.env.cells.lookup x=some c/\(x,NameKind.free)∈scope.names:=by
 rcases Y1 h with h|⟨h,e⟩
 ·cases h
 ·let#[c',hc]:=I.ok.has x (S.par _ h Z);apply#[?_,h];rw[e,hc];rfl
theorem Inv.block(I:Inv X pins σ H s)(S:o7 X.N X.env.scope N own fr scope)(DM:∀b∈fp,dH X pins H b)(hfo:∀b∈fp,∃o,s.heap.get? b=some o) :
  Inv (i7 X N scope fp s H) [] (CM own fr σ) H { s with heap:=pushCells (s.heap.push { cls:=.type "dict",data:=.dict #[] }) scope.names }:=by
 have kept:∀b o,s.heap.get? b=some o->(pushCells (s.heap.push { cls:=.type "dict",data:=.dict #[] }) scope.names).get? b=some o:=λb o e=>pushCells_keeps _ _ b o (cU _ e);let LU:=cellsFrom_ok scope.names (s.heap.push { cls:=.type "dict",data:=.dict #[] }) (s.heap.objs.size+1) [] #[λ_ _ hm=>(nomatch hm),List.Pairwise.nil] (by rw[Heap.size_push];exact bp _);rw[Heap.size_push] at LU;have ecs:cellsFrom (s.heap.objs.size+1) scope.names (jY X.env scope.names [])=cellsFrom (s.heap.objs.size+1) scope.names []++jY X.env scope.names []:=S6 _ _ [] _
 have iM:∀{x c},(cellsFrom (s.heap.objs.size+1) scope.names (jY X.env scope.names [])).lookup x=some c->((x,c)∈cellsFrom (s.heap.objs.size+1) scope.names []/\(x,NameKind.cell)∈scope.names/\s.heap.objs.size+1<=c)∨(X.env.cells.lookup x=some c/\(x,NameKind.free)∈scope.names):=λ{x c} h=>by
  rw[ecs] at h;rcases ea_ h with h|h
  ·apply .inl #[h,?_,(LU.empty _ _ h).2];rcases S9 h with q|q
   ·cases q
   ·exact q
  ·exact .inr (Xp I S h)
 have FX:∀{x c},X.env.cells.lookup x=some c->c<s.heap.objs.size:=λ{x c} h=>by
  let#[v,hv]:=I.cell x c h;exact hv.lt
 have hb:∀b∈fp,b<s.heap.objs.size:=λb hb=>let #[o,e]:=hfo b hb;cQ e
 apply#[#[I.ok.mod,S.kind,I.ok.glob,I.ok.blt,bp _,λx y c h1 h2=>?_,λx hx=>?_,λx c hf h=>?_,I.ok.hd,I.ok.frames,.inl Z,λb vv=>#[eV (hb b vv),λx c h=>?_],I.bs,?_,λb o e vv=>?_,λb vv hs=>?_,I.stack,I.pF],
  rfl,I.bare,Un.kept kept,#[_,(Heap.Ns.new s.heap (.type "dict")).keeps (pushCells_keeps _ _),λi x v h1 h2 h3=>?_],λx c h=>?_,I.aN.fresh (bp _),λx c h=>?_,λp hp=>absurd (show p∈([]:List (Addr × Obj)) from hp) Z2,I.aN.kept kept,?_]
 ·-- inj
  rcases iM h1 with⟨m1,k1,l1⟩|⟨m1,k1⟩<;>rcases iM h2 with⟨m2,k2,l2⟩|⟨m2,k2⟩
  ·exact name_of_addr LU.apart m1 m2
  ·exact absurd (FX m2) (Nat.not_lt.mpr (Nat.le_of_succ_le l1))
  ·exact absurd (FX m1) (Nat.not_lt.mpr (Nat.le_of_succ_le l2))
  ·exact I.ok.inj x y c m1 m2
 ·-- has
  have key:(x,NameKind.cell)∈scope.names∨(x,NameKind.free)∈scope.names:=by
   rcases hx with hx|hx
   ·let#[k',e,q]:=R6 (env:=X.env) (show _=some NameKind.cell from hx);let m:=rO e;rcases q with q|⟨q,_⟩
    ·exact .inl (q▸m)
    ·exact .inr (q▸m)
   ·let#[k',e,q]:=R6 (env:=X.env) (show _=some NameKind.free from hx);let m:=rO e;rcases q with q|⟨_,q⟩
    ·exact .inr (q▸m)
    ·cases q
  show ∃c,(cellsFrom (s.heap.objs.size+1) scope.names (jY X.env scope.names [])).lookup x=some c
  have:((cellsFrom (s.heap.objs.size+1) scope.names (jY X.env scope.names [])).lookup x).isSome=true:=by
   apply PySem.W.cellsFrom_some _ _ _ ?_;rcases key with q|q
   ·exact .inl (S.look _ q)
   ·let#[c,m]:=SM (env:=X.env) (names:=scope.names) (cs:=[]) (x:=x) (.inl q);let#[c',e]:=S7 m;exact .inr (by rw[e];rfl)
  exact ES.mp this
 ·-- Eo
  rcases iM h with⟨_,_,l⟩|⟨_,k⟩
  ·exact Nat.le_of_succ_le l
  ·let e:=S.look _ k;have hf:(decide (scope.names.lookup x=some .local) || decide (scope.names.lookup x=some .cell))=true:=hf;rw[show scope.names.lookup x=some .free from e] at hf;exact absurd hf (by decide)
 ·rcases iM h with⟨_,_,l⟩|⟨q,_⟩
  ·exact xm (kj (hb b vv) (Nat.le_of_succ_le l))
  ·exact (DM b vv).2.2.2.2.1 x c q
 ·exact qC I.ok.vK I.sz
 ·rcases (DM b vv).2.2.2.1 with q|q
  ·exact I.ok.uR b o e q
  ·exact absurd (kj (cQ e) I.ok.vK) Z1
 ·rcases bZ.mp (I.mR b hs) with q|q
  ·exact (DM b vv).2.1 q
  ·exact (DM b vv).2.2.1 q
 ·-- names
  have hi:own<=i:=by
   apply Nat.le_of_not_lt λdz=>?_;unfold CM at h2;rw[Dh (by rw[xu];exact dz),List.getElem?_replicate,aA dz] at h2;cases h2
  have j7:(fr.map λj=>(σ[j]?).join)[i - own]? = some (some v):=by
   unfold CM at h2;rw[AR (by rw[xu];exact hi),xu] at h2;exact h2
  have h1:N[i]? = some x:=h1;have hx:(N.drop own)[i - own]? = some x:=by rw[List.getElem?_drop,show own+(i - own)=i by omega];exact h1
  rw[dW] at j7;cases ej:fr[i - own]? with
  |none=>rw[ej] at j7;cases j7
  |some j=>
   rw[ej] at j7;have j7:(σ[j]?).join=some v:=eK j7
   have ve:σ[j]? = some (some v):=by
    cases q:σ[j]? with
    |none=>rw[q] at j7;cases j7
    |some o=>rw[q] at j7;exact d8 some j7
   have hN:X.N[j]? = some x:=by
    let q:=d8 (λl=>l[i - own]?) S.rE;simp only[dW,ej,hx,Option.map_some] at q;exact eK q
   let kf:=S.frk x (cw hx);let mf:=rO kf;let#[m,hm,hv]:=I.loc;let pk:=S.par _ mf Z;let#[u,ru,lk]:=hv j x v hN ve (pk.elim (λq=>.inr (.inl q)) λq=>.inr (.inr q));apply#[u,ru,?_];have Uk:X.env.kindOf x=some .cell∨X.env.kindOf x=some .free:=pk;rcases lk with⟨k,_⟩|⟨_,c,hc,qj⟩
   ·rw[k] at Uk;rcases Uk with q|q<;>cases q
   ·let#[c',m1]:=SM (env:=X.env) (names:=scope.names) (cs:=[]) (x:=x) (.inl mf);let e1:=(Xp I S m1).1;rw[hc] at e1;cases e1;apply .inr #[?_,c,?_,qj.keeps kept]
    ·let q:=Zk (env:=X.env) Z kf;show (relabel scope X.env).names.lookup x=some .cell∨(relabel scope X.env).names.lookup x=some .free;unfold relabel;rw[q];split
     ·exact .inl Z
     ·exact .inr Z
    ·let#[c2,e2]:=ES.mp (PySem.W.cellsFrom_some (x:=x) scope.names (s.heap.objs.size+1) (jY X.env scope.names []) (.inr (by let#[c',e]:=S7 m1;rw[e];rfl)));show (cellsFrom (s.heap.objs.size+1) scope.names (jY X.env scope.names [])).lookup x=some c;rcases iM e2 with⟨_,q,_⟩|⟨q,_⟩
     ·have:=S.look _ q;rw[show scope.names.lookup x=some .free from kf] at this;cases this
     ·rw[hc] at q;cases q;exact e2
 ·-- cells
  rcases iM h with⟨q,_,_⟩|⟨q,_⟩
  ·exact#[_,(LU.empty _ _ q).1]
  ·let#[v,hv]:=I.cell x c q;exact#[v,hv.keeps kept]
 ·rcases iM h with⟨q,_,l⟩|⟨q,_⟩
  ·exact I.aN.fresh Z1
  ·exact I.eS x c q
 ·show (CM own fr σ).length=N.length;unfold CM;rw[eA,xu,ao];exact S.len
end
def J9(X:Cx)(ifs:List Expr)(t:TT):Prop:=
 ∀(pins:List (Addr × Obj)) (s:Ab) (σ:St) (H:Hp) (Q:Bool->Hp->Prop),Inv X pins σ H s->t σ H Q->
  wpAny (model X.prog X.w) X.A (forIn ifs true λc r=>if r=true then do let ok <- isTrue c X.env (eval c X.env);pure (ForInStep.yield ok) else pure (ForInStep.yield r)) (TP X pins σ Q) X.xe s
def sT:TT:=λ_ H Q=>Q true H
variable{σ:St}
theorem d9{H:Hp}{A B:Hp->Prop}(h:A H):sT σ H λb H4=>if b=true then A H4 else B H4:=by
 unfold sT;exact fo h
variable{X:Cx}
theorem iY:J9 X [] sT:=λ_ _ _ H _ I h=>wpAny_tests_nil #[H,I,h]
theorem Qe{c:Expr}{t:TT}(h:PT X c t):J9 X [c] t:=λpins s σ H Q I q=>wpAny_tests_one (h pins s σ H Q I q)
def Ct(J:It)(g:TG)(tc:TT)(te:TE)(mM:St)(D:Addr)(H1:Hp)(Q:VK):Prop:=∃W:Nat->Nat->St->Hp->Prop,
 (∃m,W 0 m mM (upd H1 D (.lst [])))/\∀i m bw H',W i m bw H'->(J.stop i H'/\Q (.ref D) H') ∨
  (J.go i H'/\∃Nx:St->Hp->Prop,(∀gO H2,Nx gO H2->∃m',m'<m/\W (i+1) m' gO H2) /\
   ∀x H2,J.xF i H' x H2->g x bw H2 λlZ H3=>tc lZ H3 λb H4=>if b=true then te lZ H4 λy H5=>∃out,H5 D=some (.lst out)/\out.length<sizeLine/\Nx lZ (upd H5 D (.lst (out++[y]))) else Nx lZ H4)
def zC(wi:TI)(own:Nat)(fr:List Nat)(g:TG)(tc:TT)(te:TE):TE:=λσ H Q=>wi σ H λJ H1=>∀D,H1 D=none->Ct J g tc te (CM own fr σ) D H1 Q
variable{Q:VK}{J:It}{D:Addr}{elt iter tg:Expr}{ifs:List Expr}{pos:Pos}{g:TG}{tc:TT}{te:TE}
theorem VF{R:Result->Ab->Prop}{pins:List (Addr × Obj)}{H1:Hp}{s2:Ab}{it:Addr}{fp:ay}{tn:Nat->Heap->Prop}(S:o7 X.N X.env.scope N own fr scope)(hc:X.calm=true)(hg:∀fp s H,PG (i7 X N scope fp s H) tg g)(ht:∀fp s H,J9 (i7 X N scope fp s H) ifs tc)(he:∀fp s H,PE (i7 X N scope fp s H) elt te)(I3:Inv X pins σ (upd H1 D (.lst [])) s2)(T:Turn X.prog X.w X.K tg J fp it tn)(st:tn 0 s2.heap)(f2:∀b∈fp,dH X pins (upd H1 D (.lst [])) b)(k:Ct J g tc te (CM own fr σ) D H1 Q)(hR:∀H' s',Inv X pins σ H' s'->(∃m,s'.heap.Ns s2.heap.objs.size m)->H' s2.heap.objs.size=none->Q (.ref D) H'->R (.ok .next) s') :
  codeAny (model X.prog X.w) X.A (.compStart (.ListComp elt [#[tg,iter,ifs,0]] scope pos) 0 (.ref it) (.ref D) (lF scope s2.heap.objs.size X.env)) R
   { s2 with heap:=pushCells (s2.heap.push { cls:=.type "dict",data:=.dict #[] }) scope.names }:=by
 let#[W,#[m0,w0],turn]:=k;let I4:=I3.block (N:=N) S f2 (λb hb=>let #[o,e,_]:=T.obj _ _ st b hb;#[o,e]);have kept:∀b o,s2.heap.get? b=some o->(pushCells (s2.heap.push { cls:=.type "dict",data:=.dict #[] }) scope.names).get? b=some o:=λb o e=>pushCells_keeps _ _ b o (cU _ e);have h_:tn 0 (pushCells (s2.heap.push { cls:=.type "dict",data:=.dict #[] }) scope.names):=T.keep _ _ _ st λb hb o e=>kept b o e
 have fx:∀{H':Hp},(∀b∈fp,H' b=none)->∀b∈fp,dH (i7 X N scope fp s2 (upd H1 D (.lst []))) [] H' b:=λhn b hb=>
  #[hn b hb,(I4.ok.Li b hb).1,I4.ok.vx b hb,.inl hb,(I4.ok.Li b hb).2,λp hp=>absurd (show p∈([]:List (Addr × Obj)) from hp) Z2]
 have loop:codeAny (model X.prog X.w) X.A (.compLoop (.ListComp elt [#[tg,iter,ifs,0]] scope pos) 0 (.ref it) (.ref D) (lF scope s2.heap.objs.size X.env)) R
   { s2 with heap:=pushCells (s2.heap.push { cls:=.type "dict",data:=.dict #[] }) scope.names }:=by
  apply codeAny_loop Z (λn s'=>∃i bw H',Inv (i7 X N scope fp s2 (upd H1 D (.lst []))) [] bw H' s'/\tn i s'.heap/\(∀b∈fp,H' b=none)/\W i n bw H') (λn s' hI=>?_) m0 #[0,_,_,I4,h_,λb hb=>(f2 b hb).1,w0];let#[i,bw,H',I5,fX,qm,w5]:=hI;show wpAny _ X.A ((compTurn (.ListComp elt [#[tg,iter,ifs,0]] scope pos) 0 (.ref it) (.ref D) (lF scope s2.heap.objs.size X.env)).onRaise (λx=>do noteFrame x (lF scope s2.heap.objs.size X.env);theTreesLotGoes x)) _ _ s';apply wpAny_noted (wpAny_mono (E:=λ_ _=>False) ?_ (λ_ _ q=>q) λ_ _ q=>q.elim);rw[compTurn_list];apply aO (wpAny_standAt (aO ?_));rcases turn i n bw H' w5 with⟨stop,q⟩|⟨go,Nx,hN,step⟩
  ·apply a_ (T.done (i7 X N scope fp s2 (upd H1 D (.lst []))) Z Z Z hc i [] s' bw H' _ I5 (fx qm) fX stop) λr s6 ⟨hr,I6⟩=>?_;subst hr;apply bV (hR H' s6 (I3.Ir I6.os I6.base I6.aN I6.bare λb hb=>?_) ?_ I6.free q)
   ·exact#[(f2 b hb).2.2.2.1,(f2 b hb).2.1,(f2 b hb).2.2.2.2.1,(f2 b hb).2.2.2.2.2]
   ·let#[m,hm,_]:=I6.loc;exact#[m,hm]
  ·apply a_ (T.item (i7 X N scope fp s2 (upd H1 D (.lst []))) Z Z Z hc i [] s' bw H' _ I5 (fx qm) fX go) λr s6 ⟨u,hr,h6⟩=>?_;subst hr;apply aO (a_ h6 λ_ s7 ⟨x,H7,I7,r7,y7,tG,fr7⟩=>?_);let I7':=I7.pinned (fx fr7) (T.obj _ _ tG)
   have back:∀{wu:St} {H8:Hp} {s8:Ab},Inv (i7 X N scope fp s2 (upd H1 D (.lst []))) ([]++yS fp s7.heap) wu H8 s8->Nx wu H8->∃m,m<n/\∃i bw H',Inv (i7 X N scope fp s2 (upd H1 D (.lst []))) [] bw H' s8/\tn i s8.heap/\(∀b∈fp,H' b=none)/\W i m bw H':=λ{wu H8 s8} I8 n8=>by
    let#[m',hm,w8]:=hN wu H8 n8;apply#[m',hm,i+1,wu,H8,I8.e_,T.keep _ _ _ tG λb hb o e=>(I8.pin (b,o) (o4 _ (o4 _ (Mp hb e)))).1,λb hb=>?_,w8];let#[o,e,d]:=T.obj _ _ tG b hb;exact (I8.pin (b,o) (o4 _ (o4 _ (Mp hb e)))).2.1
   apply aO (a_ (hg fp s2 (upd H1 D (.lst [])) _ s7 bw H7 x u _ I7' r7 (step x H7 y7)) λ_ s8 ⟨wu,H8,I8,q8⟩=>?_);apply aO (a_ (ht fp s2 (upd H1 D (.lst [])) _ s8 wu H8 _ I8 q8) λb s9 ⟨H9,I9,q9⟩=>?_);cases b with
   |false=>
    simp only[zf,if_false] at q9 ⊢;exact bV #[Z,back I9 q9]
   |true=>
    simp only[if_true] at q9 ⊢;apply aO (aO (a_ (he fp s2 (upd H1 D (.lst [])) _ s9 wu H9 _ I9 q9) λy Nq ⟨yv,AY,I10,r10,out,hD,hz,q10⟩=>?_));apply aO (a_ (lN (X:=i7 X N scope fp s2 (upd H1 D (.lst []))) _ Nq wu AY (.ref D) [yv] (.ref D) [y] (λ_ H'=>Nx wu H') I10 Z (.cons r10 .nil) #[D,out,yv,Z,Z,hD,hz,q10]) λ_ zI ⟨_,H11,I11,_,q11⟩=>?_);exact bV (bV #[Z,back I11 q11])
 exact codeAny_compStart_list loop (T.self _ 0 _ _ _ h_ loop)
variable{wi:TI}
theorem i8(N:ae)(own:Nat)(fr:List Nat)(hi:PI X tg iter wi)(hg:∀fp s H,PG (i7 X N scope fp s H) tg g)(ht:∀fp s H,J9 (i7 X N scope fp s H) ifs tc)(he:∀fp s H,PE (i7 X N scope fp s H) elt te)
  (S:LA X.N X.env.scope N own fr scope=true:=by kernel_rfl) (hc:X.calm=true:=by rfl) (hs:∀x,foldedSetIterable iter X.env x=pure x:=by intro _;rfl) :
  PE X (.ListComp elt [#[tg,iter,ifs,0]] scope pos) (zC wi own fr g tc te):=by
 intro pins s σ H Q I h;let S':=o7.of S;rw[eval_ListComp];have vq:closureFor scope X.env=pure (jY X.env scope.names []):=Zf λx hx e=>I.ok.has x.1 (S'.par x hx e);apply wpAny_comprehension_free (use:=none) Z hs vq S'.kind (λx hx e=>by rw[S'.look x hx,e]) (a_ (hi pins s σ H _ I h) λv s1 h1=>a_ h1 λKP s2 h2=>?_);let#[it,fp,tn,J,H1,rfl,I2,T,fI,f2,k]:=h2;apply wpAny_newObj_type (Za ?_);have hD:H1 s2.heap.objs.size=none:=I2.fresh;let I3:=I2.yr (ys:=[]) (its:=[]) (t':=s2.toks) .nil (gG _);have kept:∀b o,s2.heap.get? b=some o->(s2.heap.push { cls:=.type "list",data:=.seq ([]:ax).toArray }).get? b=some o:=λb o e=>cU _ e;apply VF (own:=own) (fr:=fr) (Q:=Q) S' hc hg ht he I3 T (T.keep _ _ _ fI λb hb o e=>kept b o e) (λb hb=>?_) (k _ hD) ?_
 ·apply#[?_,(f2 b hb).2];let#[o,e,_]:=T.obj _ _ fI b hb;rw[au (eV (cQ e))];exact (f2 b hb).1
 ·rintro H' s' I' ⟨m,hm⟩ hn q;apply#[m,hm,λh' sf=>#[.ref s2.heap.objs.size,H',?_,Z,q]]
  exact I'.turned (t':=s'.toks) (λb o hb e=>sf.extBut b o hb e) hn (xm I3.lt) (.inr I3.sz) (λx c Pn e=>by
   let#[v,hv]:=I3.cell x c Pn
   exact absurd hv.lt (by rw[e];exact vM _)) λp hp e=>by
    have:=(I3.pin p hp).1;rw[e] at this;exact absurd (cQ this) (vM _)
def Fl(i:Nat)(te:TE):TS:=λD σ H=>te σ H λx H1=>D.nx (σ.set i (some x)) H1
theorem Lm{i:Nat}{x:Str}{px:Pos}(N:ae)(own:Nat)(fr:List Nat)(hN:X.N.Nodup)(hi':X.N[i]? = some x)(hx:Loc X.env.scope x)
  (hi:PI X tg iter wi) (hg:∀fp s H,PG (i7 X N scope fp s H) tg g) (ht:∀fp s H,J9 (i7 X N scope fp s H) ifs tc) (he:∀fp s H,PE (i7 X N scope fp s H) elt te) {pos':Pos}
  (S:LA X.N X.env.scope N own fr scope=true:=by kernel_rfl) (hc:X.calm=true:=by rfl) (hs:∀x,foldedSetIterable iter X.env x=pure x:=by intro _;rfl)
  (hf:X.fn x=true∨X.env.scope.names.lookup x=some .local:=by first|exact .inl Z|exact .inr Z|assumption)
  (hsw:swapsWith (.ListComp elt [#[tg,iter,ifs,0]] scope pos) (some (.Name x px)) pos'.line X.env=pure true:=by rfl) :
  PS X (.Assign [.Name x px] (.ListComp elt [#[tg,iter,ifs,0]] scope pos) pos') (Fl i (zC wi own fr g tc te)):=by
 intro pins s σ H E I h;let S':=o7.of S;rw[exec_Assign_Name_used _ _ _ _ hsw];apply aO (wpAny_standAt (aO ?_));show wpAny _ X.A (do let _ <- comprehension (.ListComp elt [#[tg,iter,ifs,0]] scope pos) scope X.env _ (newList []) false (eval iter X.env) (some (assign (.Name x px) X.env))) _ _ s;have vq:closureFor scope X.env=pure (jY X.env scope.names []):=Zf λx hx e=>I.ok.has x.1 (S'.par x hx e)
 apply aO (wpAny_mono (wpAny_comprehension_free (use:=some (assign (.Name x px) X.env)) (Q:=λ_ s'=>SP X pins E .next s') Z hs vq S'.kind (λx hx e=>by rw[S'.look x hx,e]) (a_ (hi pins s σ H _ I h) λv s1 h1=>a_ h1 λKP s2 h2=>?_))
  (λ_ s' hq=>bV (bV hq)) λ_ _ e=>e)
 let#[it,fp,tn,J,H1,rfl,I2,T,fI,f2,k]:=h2;apply wpAny_newObj_type (Za ?_);have hD:H1 s2.heap.objs.size=none:=I2.fresh;let I3:=I2.yr (ys:=[]) (its:=[]) (t':=s2.toks) .nil (gG _);have kept:∀b o,s2.heap.get? b=some o->(s2.heap.push { cls:=.type "list",data:=.seq ([]:ax).toArray }).get? b=some o:=λb o e=>cU _ e;apply VF (own:=own) (fr:=fr) (Q:=λx H1=>E.nx (σ.set i (some x)) H1) S' hc hg ht he I3 T (T.keep _ _ _ fI λb hb o e=>kept b o e) (λb hb=>?_) (k _ hD) ?_
 ·apply#[?_,(f2 b hb).2];let#[o,e,_]:=T.obj _ _ fI b hb;rw[au (eV (cQ e))];exact (f2 b hb).1
 ·rintro H' s' I' ⟨m,hm⟩ hn q
  have wZ:∀y c,X.env.cells.lookup y=some c->c≠(s2.heap.push { cls:=.type "list",data:=.seq ([]:ax).toArray }).objs.size:=λy c Pn e=>by
   let#[v,hv]:=I3.cell y c Pn;exact absurd hv.lt (by rw[e];exact vM _)
  show wpAny _ X.A (assign (.Name x px) X.env (.ref s2.heap.objs.size)) _ _ s';apply wpAny_assign_Name (XZ (v:=V.ref s2.heap.objs.size) I' hN hi' hx Z (λrY I'' ⟨a,BO,ha⟩=>?_) hf)
  have hCa:(s2.heap.push { cls:=.type "list",data:=.seq ([]:ax).toArray }).objs.size≠a:=by
   rcases ha with e|e
   ·rw[e];exact xm I3.lt
   ·exact (wZ x a e).symm
  apply#[m,hm.sameBut BO hCa,λh' sf=>#[_,H',?_,q]]
  exact I''.turned (t':=rY.toks) (λb o hb e=>sf.extBut b o hb e) hn (xm I3.lt) (.inr I3.sz) wZ λp hp e=>by
    have:=(I3.pin p hp).1;rw[e] at this;exact absurd (cQ this) (vM _)
def EX(g:TG)(own:Nat)(fv:List aK)(dec:V->Hp->List aK->Prop):Prop:=
 ∀(x:V) (o:List aK) (H:Hp) (k:ck) (o3:List aK),o.length=own->dec x H o3->k (o3++fv) H->g x (o++fv) H k
variable{fv:List aK}
theorem d_:EX (mz 0) 1 fv (λx _ o3=>o3=[some x]):=λx o H k o3 hl e h=>by
 subst e
 match o,hl with
 |[a],_=>exact h
inductive Ia (K:af) (x:V) (H:Hp) (o3:List aK):Prop
 |mk:∀p u v,x=.ref p->iZ K H p [u,v]->o3=[some u,some v]->Ia K x H o3
inductive H_ (K:af) (x:V) (H:Hp) (o3:List aK):Prop
 |mk:∀p u v w,x=.ref p->iZ K H p [u,v,w]->o3=[some u,some v,some w]->H_ K x H o3
variable{K:af}
theorem Ho:EX (jS K 2 (wW (mz 0) (wW (mz 1) yE))) 2 fv (Ia K):=λx o H k o3 hl e h=>by
 let#[p,u,v,rfl,hp,rfl]:=e
 match o,hl with
 |[a,b],_=>exact#[p,[u,v],Z,hp,Z,u,[v],Z,v,[],Z,Z,h]
theorem PM:EX (jS K 3 (wW (mz 0) (wW (mz 1) (wW (mz 2) yE)))) 3 fv (H_ K):=λx o H k o3 hl e h=>by
 let#[p,u,v,w,rfl,hp,rfl]:=e
 match o,hl with
 |[a,b,c],_=>exact#[p,[u,v,w],Z,hp,Z,u,[v,w],Z,v,[w],Z,w,[],Z,Z,h]
variable{H:Hp}{dec:V->Hp->List aK->Prop}{mM:St}
theorem AN(ve:mM=List.replicate own none++fv)(G:EX g own fv dec)(n:Nat)(Pv:dY)(h0:Pv 0 [] (upd H D (.lst [])))(GH:∀out H',Pv n out H'->J.stop n H'/\Q (.ref D) H')(G8:∀i out H',i<n->Pv i out H'->J.go i H'/\∀x H2,J.xF i H' x H2->∃o3,dec x H2 o3/\o3.length=own/\∀Nx:Hp->Prop,(∀oC H2,Pv (i+1) oC H2->Nx H2)->
   tc (o3++fv) H2 λb H4=>if b=true then te (o3++fv) H4 λy H5=>∃gQ,H5 D=some (.lst gQ)/\gQ.length<sizeLine/\Nx (upd H5 D (.lst (gQ++[y]))) else Nx H4) :
  Ct J g tc te mM D H Q:=by
 subst ve;apply#[λi m bw H'=>m=n - i/\i<=n/\(∃o:List aK,bw=o++fv/\o.length=own)/\∃out,Pv i out H',#[n,by simp,gG _,#[_,Z,xu],_,h0],?_];rintro i m bw H' ⟨rfl,hi,⟨o,rfl,ho⟩,out,p⟩;by_cases dz:i<n
 ·let#[go,k]:=G8 i out H' dz p;apply .inr #[go,λgO H2=>(∃o:List aK,gO=o++fv/\o.length=own)/\∃out,Pv (i+1) out H2,λgO H2 q=>#[n - (i+1),by omega,Z,dz,q],λx H2 y=>?_];let#[o3,d,l3,q]:=k x H2 y;exact G x o H2 _ o3 ho d (q (λH2=>(∃o:List aK,o3++fv=o++fv/\o.length=own)/\∃out,Pv (i+1) out H2) λoC H2 z=>#[#[o3,Z,l3],oC,z])
 ·have e:i=n:=by omega
  subst e;exact .inl (GH out H' p)
theorem mJ{a:Addr}{xs:ai}(ve:mM=List.replicate own none++fv)(G:EX g own fv dec)(Pv:dY)(h0:Pv 0 [] (upd H D (.lst [])))(hl:∀i out H',i<=xs.length->Pv i out H'->eG K H' a xs)(hd:∀out H',Pv xs.length out H'->Q (.ref D) H')(G8:∀i x out H',xs[i]? = some x->Pv i out H'->∃o3,dec x H' o3/\o3.length=own/\∀Nx:Hp->Prop,(∀oC H2,Pv (i+1) oC H2->Nx H2)->
   tc (o3++fv) H' λb H4=>if b=true then te (o3++fv) H4 λy H5=>∃gQ,H5 D=some (.lst gQ)/\gQ.length<sizeLine/\Nx (upd H5 D (.lst (gQ++[y]))) else Nx H4) :
  Ct (AX K a) g tc te mM D H Q:=by
 apply AN ve G xs.length Pv h0 (λout H' p=>#[#[xs,hl _ _ _ (bp _) p,bp _],hd out H' p]) λi out H' hi p=>?_;let q:=hl i out H' (Nat.le_of_lt hi) p;apply#[#[xs,xs[i],q,by simp[hi]],λx H2 y=>?_];let#[e,y]:=y;subst e;exact G8 i x out _ (y xs q) p
end L2
namespace Kf
open PySem PySem.W PyProof.Rows
def Ok{α:Type}(f:Nat->Nat->Bool)(n:Nat):KasT α->(α->Prop)->Prop
 |.ret a,Q=>Q a
 |.ask i j k,Q=>i<n/\j<n/\Ok f n (k (f i j)) Q
theorem Ok.bind{α β:Type}{f:Nat->Nat->Bool}{n:Nat}{g:α->KasT β}{Q:β->Prop}:∀{t:KasT α} {R:α->Prop},Ok f n t R->(∀a,R a->Ok f n (g a) Q)->Ok f n (t.bind g) Q
 |.ret a,R,h,k=>k a h
 |.ask i j t,R,h,k=>#[h.1,h.2.1,Ok.bind h.2.2 k]
theorem Ok.imp{α:Type}{f:Nat->Nat->Bool}{n:Nat}{Q R:α->Prop}(k:∀a,Q a->R a):∀{t:KasT α},Ok f n t Q->Ok f n t R
 |.ret a,h=>k a h
 |.ask i j t,h=>#[h.1,h.2.1,Ok.imp k h.2.2]
theorem Ok.wp{α:Type}{f:Nat->Nat->Bool}{n:Nat}{cmp:Nat->Nat->(Bool->Ab->Prop)->Ab->Prop}{s:Ab}(hc:∀i j C,i<n->j<n->C (f i j) s->cmp i j C s){Q:α->Prop}{G:α->Ab->Prop}(k:∀a,Q a->G a s) :
  ∀{t:KasT α},Ok f n t Q->t.kasWp cmp G s
 |.ret a,h=>k a h
 |.ask i j t,h=>hc i j _ h.1 h.2.1 (Ok.wp hc k h.2.2)
structure Ord (f:Nat->Nat->Bool):Prop where
 fY:∀i,f i i=false
 trans:∀{i j k},f j i=false->f k j=false->f k i=false
 zo:∀{i j},f i j=true->f j i=false
variable{p:Array Nat}
variable{i j:Nat}
variable{k:Nat}
variable{n:Nat}
variable{dU:Nat}
section
variable{f:Nat->Nat->Bool}(O:Ord f){N:Nat}
abbrev at'(p:Array Nat)(i:Nat):Nat:=p.getD i 0
def Up(f:Nat->Nat->Bool)(p:Array Nat)(k:Nat):Prop:=∀i j,i<=j->j<k->f (at' p j) (at' p i)=false
def Down(f:Nat->Nat->Bool)(p:Array Nat)(k:Nat):Prop:=∀i j,i<=j->j<k->f (at' p i) (at' p j)=false
def rW(f:Nat->Nat->Bool)(p:Array Nat)(lo k:Nat):Prop:=∀i,lo<=i->i<k->f (at' p i) (at' p (k - 1))=false/\f (at' p (k - 1)) (at' p i)=false
def Good(N:Nat)(p:Array Nat):Prop:=p.Perm (List.range N).toArray
theorem Good.size(h:Good N p):p.size=N:=by
 have:=h.size_eq;simpa using this
theorem Good.lt(h:Good N p)(hN:0<N)(i:Nat):at' p i<N:=by
 unfold at';by_cases hi:i<p.size
 ·have e:p.getD i 0=p[i]:=by simp[Array.getD,hi]
  rw[e];have m:p[i]∈(List.range N).toArray:=h.mem_iff.mp (Array.getElem_mem hi);simpa using m
 ·have e:p.getD i 0=0:=by simp[Array.getD,hi]
  rw[e];exact hN
theorem Good.rev(h:Good N p)(i j:Nat):Good N (kas_rev p i j):=(mirror_perm _ _ _ _).trans h
theorem Good.bub(h:Good N p)(i j:Nat):Good N (bubble p i j):=(bubble_perm _ _ _).trans h
theorem HW{q:Array Nat}(h:p[i]? = q[j]?):at' p i=at' q j:=by
 unfold at';rw[Array.getD_eq_getD_getElem?,Array.getD_eq_getD_getElem?,h]
theorem CJ(hj:j<=p.size)(k:Nat):at' (kas_rev p i j) k=if i<=k/\k<j then at' p (i+j - 1 - k) else at' p k:=by
 let e:=getElem?_mirror_all (i:=i) hj k;unfold kas_rev;split
 ·rename_i c
  rw[aA c] at e;exact HW e
 ·rename_i c
  rw[aq c] at e;exact HW e
theorem U4{l:Nat}(hk:k<p.size)(hl:l<=k)(i:Nat):at' (bubble p k (k - l)) i=if i=l then at' p k else if l<i/\i<=k then at' p (i - 1) else at' p i:=by
 let e:=getElem?_bubble hk (k - l) Z1 i;rw[show k - (k - l)=l by omega] at e;by_cases c:i=l
 ·rw[aA c] at e ⊢;exact HW e
 ·rw[aq c] at e ⊢;split
  ·rename_i d
   rw[aA d] at e;exact HW e
  ·rename_i d
   rw[aq d] at e;exact HW e
include O
theorem Up.more(h:Up f p n)(h1:1<=n)(c:f (at' p n) (at' p (n - 1))=false):Up f p (n+1):=λi j oI hj=>by
 by_cases e:j<n
 ·exact h i j oI e
 ·have e:j=n:=by omega
  subst e;by_cases e2:i=j
  ·subst e2;exact O.fY _
  ·exact O.trans (h i (j - 1) Z1 Z1) c
theorem Down.more(h:Down f p n)(h1:1<=n)(c:f (at' p (n - 1)) (at' p n)=false):Down f p (n+1):=λi j oI hj=>by
 by_cases e:j<n
 ·exact h i j oI e
 ·have e:j=n:=by omega
  subst e;by_cases e2:i=j
  ·subst e2;exact O.fY _
  ·exact O.trans c (h i (j - 1) Z1 Z1)
theorem Ox{p:Array Nat}(g:Good N p)(hN:0<N):∀(m n:Nat),1<=n->Up f p n->Ok f N (kas_asc p m n) λr=>n<=r/\r<=n+m/\Up f p r/\(r<n+m->f (at' p r) (at' p (r - 1))=true)
 |0,n,_,h=>#[bp _,bp _,h,λq=>absurd q Z1]
 |m+1,n,h1,h=>by
  apply#[g.lt hN _,g.lt hN _,?_];dsimp only;by_cases c:f (at' p n) (at' p (n - 1))=true
  ·rw[aA c];exact#[bp _,by omega,h,λ_=>c]
  ·rw[aq c];apply (Ox g hN m (n+1) Z1 (h.more O h1 (by simpa using c))).imp λr ⟨a,b,u,z⟩=>#[by omega,by omega,u,λq=>z Z1]
theorem rW.rev{lo:Nat}(h:rW f p lo k)(hk:k<=p.size)(i:Nat):f (at' (kas_rev p lo k) i) (at' p i)=false/\f (at' p i) (at' (kas_rev p lo k) i)=false:=by
 rw[CJ hk];split
 ·rename_i c
  let#[a1,a2]:=h i c.1 c.2;let#[b1,b2]:=h (lo+k - 1 - i) Z1 Z1;exact#[O.trans a2 b1,O.trans b2 a1]
 ·exact#[O.fY _,O.fY _]
theorem Down.rev{lo:Nat}(h:Down f p n)(l:rW f p lo k)(hk:k<=p.size):Down f (kas_rev p lo k) n:=λi j oI hj=>by
 let#[a1,_]:=l.rev O hk i;let#[_,b2]:=l.rev O hk j;exact O.trans (O.trans b2 (h i j oI hj)) a1
theorem LB(hN:0<N):∀(m:Nat) (p:Array Nat) (n q:Nat),Good N p->1<=n->q+1<=n->n+m<=N->Down f p n->rW f p (n - (q+1)) n->
  Ok f N (kas_desc m p n q) λr=>Good N r.1/\n<=r.2.1/\r.2.1<=n+m/\Down f r.1 r.2.1/\r.2.2+1<=r.2.1/\rW f r.1 (r.2.1 - (r.2.2+1)) r.2.1
 |0,p,n,q,g,h1,hq,hn,d,l=>#[g,bp _,bp _,d,hq,l]
 |m+1,p,n,q,g,h1,hq,hn,d,l=>by
  apply#[g.lt hN _,g.lt hN _,?_];dsimp only;by_cases c:f (at' p n) (at' p (n - 1))=true
  ·rw[aA c];have d2:Down f p (n+1):=d.more O h1 (O.zo c)
   have one:∀p':Array Nat,rW f p' (n+1 - (0+1)) (n+1):=λp' i h2 h3=>by
    have e:i=n+1 - 1:=by omega
    subst e;exact#[O.fY _,O.fY _]
   by_cases VZ:q > 0
   ·rw[aA VZ];have hk:n<=p.size:=by rw[g.size];omega
    exact (LB hN m _ (n+1) 0 (g.rev _ _) Z1 Z1 Z1 (d2.rev O l hk) (one _)).imp λr ⟨a,b,b2,z⟩=>#[a,by omega,by omega,z]
   ·rw[aq VZ];exact (LB hN m _ (n+1) 0 g Z1 Z1 Z1 d2 (one _)).imp λr ⟨a,b,b2,z⟩=>#[a,by omega,by omega,z]
  ·rw[aq c];apply#[g.lt hN _,g.lt hN _,?_];dsimp only;have c:f (at' p n) (at' p (n - 1))=false:=by simpa using c
   by_cases e:f (at' p (n - 1)) (at' p n)=true
   ·rw[aA e];exact#[g,bp _,by show n<=n+(m+1);omega,d,hq,l]
   ·rw[aq e];have e:f (at' p (n - 1)) (at' p n)=false:=by simpa using e
    apply (LB hN m p (n+1) (q+1) g Z1 Z1 Z1 (d.more O h1 e) λi h2 h3=>?_).imp λr ⟨a,b,b2,z⟩=>#[a,by omega,by omega,z];show f (at' p i) (at' p n)=false/\f (at' p n) (at' p i)=false;by_cases ei:i=n
    ·subst ei;exact#[O.fY _,O.fY _]
    ·let#[a1,a2]:=l i Z1 Z1;exact#[O.trans e a1,O.trans a2 c]
def Q4(f:Nat->Nat->Bool)(N dU:Nat)(r:Nat × Array Nat):Prop:=Good N r.2/\1<=r.1/\r.1<=dU/\Up f r.2 r.1
theorem WO(hN:0<N)(g:Good N p)(h1:1<=n)(hn:n<=dU)(hr:dU<=N)(d:Down f p n):Ok f N (kas_tail3 n dU p) (Q4 f N dU):=by
 unfold kas_tail3
 have u:Up f (kas_rev p 0 n) n:=λi j oI hj=>by
  rw[CJ (by rw[g.size];omega),CJ (by rw[g.size];omega),aA Z1,aA Z1];exact d _ _ Z1 Z1
 exact (Ox O (g.rev _ _) hN (dU - n) n h1 u).bind λm ⟨a,b,u,_⟩=>#[g.rev _ _,by show 1<=m;omega,by show m<=dU;omega,u]
theorem Y8(hN:0<N)(g:Good N p)(hn:n+1<=dU)(hr:dU<=N)(d:Down f p (n+1)):Ok f N (kas_descPart n dU p) (Q4 f N dU):=by
 unfold kas_descPart;apply (LB O hN (dU - (n+1)) p (n+1) 0 g Z1 Z1 Z1 d λi h2 h3=>?_).bind λr ⟨g',a,b,d',hq,l⟩=>?_
 ·have e:i=n+1 - 1:=by omega
  subst e;exact#[O.fY _,O.fY _]
 ·split
  ·exact WO O hN (g'.rev _ _) Z1 Z1 hr (d'.rev O l (by rw[g'.size];omega))
  ·exact WO O hN g' Z1 Z1 hr d'
theorem iQ_(hN:0<N)(g:Good N p)(h1:1<=dU)(hr:dU<=N):Ok f N (kas_count dU p) (Q4 f N dU):=by
 unfold kas_count;apply (Ox O g hN (dU - 1) 1 (bp _) λi j oI hj=>?_).bind λn ⟨a,b,u,st⟩=>?_
 ·have e:i=j:=by omega
  subst e;exact O.fY _
 ·by_cases e:(n == dU)=true
  ·rw[aA e];exact#[g,a,by show n<=dU;omega,u]
  ·rw[aq e];have e:n≠dU:=by simpa using e
   let c:=st Z1;by_cases h2:n > 1
   ·rw[aA h2];apply#[g.lt hN _,g.lt hN _,?_];dsimp only;by_cases c2:f (at' p 0) (at' p (n - 1))=true
    ·rw[aA c2];exact#[g,a,by show n<=dU;omega,u]
    ·rw[aq c2];have c2:f (at' p 0) (at' p (n - 1))=false:=by simpa using c2
     apply Y8 O hN (g.rev _ _) Z1 hr λi j oI hj=>?_;by_cases ej:j<n
     ·rw[CJ (by rw[g.size];omega),CJ (by rw[g.size];omega),aA Z1,aA Z1];exact u _ _ Z1 Z1
     ·have ej:j=n:=by omega
      subst ej;by_cases ei:i=j
      ·subst ei;exact O.fY _
      ·rw[CJ (by rw[g.size];omega),CJ (by rw[g.size];omega),aA Z1,aq Z1];exact O.trans (O.trans (O.zo c) c2) (u 0 _ Z1 Z1)
   ·rw[aq h2];have e1:n=1:=by omega
    subst e1;apply Y8 O hN g Z1 hr λi j oI hj=>?_;by_cases ei:i=j
    ·subst ei;exact O.fY _
    ·have q1:i=0:=by omega
     have q2:j=1:=by omega
     subst q1;subst q2;exact O.zo c
theorem RL(hN:0<N){p:Array Nat}{k:Nat}(g:Good N p)(u:Up f p k):∀(m l r:Nat),r - l<=m->l<=r->r<=k->(∀i,i<l->f (at' p k) (at' p i)=false)->(∀i,r<=i->i<k->f (at' p k) (at' p i)=true)->
  Ok f N (kas_place p k m l r) λx=>x<=k/\(∀i,i<x->f (at' p k) (at' p i)=false)/\∀i,x<=i->i<k->f (at' p k) (at' p i)=true
 |0,l,r,hm,hl,hr,h1,h2=>by
  have e:l=r:=by omega
  subst e;exact#[hr,h1,h2]
 |m+1,l,r,hm,hl,hr,h1,h2=>by
  unfold kas_place;by_cases e:l ≥ r
  ·rw[aA e];have e:l=r:=by omega
   subst e;exact#[hr,h1,h2]
  ·rw[aq e];apply#[g.lt hN _,g.lt hN _,?_];dsimp only;by_cases c:f (at' p k) (at' p ((l+r) / 2))=true
   ·rw[aA c];apply RL hN g u m l _ Z1 Z1 Z1 h1 λi h3 h4=>?_;by_cases ei:f (at' p k) (at' p i)=true
    ·exact ei
    ·have ei:f (at' p k) (at' p i)=false:=by simpa using ei
     have:=O.trans (u _ i h3 h4) ei;rw[c] at this;cases this
   ·rw[aq c];have c:f (at' p k) (at' p ((l+r) / 2))=false:=by simpa using c
    exact RL hN g u m _ r Z1 Z1 hr (λi h3=>O.trans (u i _ Z1 Z1) c) h2
theorem Ve(hN:0<N):∀(m:Nat) (p:Array Nat) (k:Nat),Good N p->k+m=N->Up f p k->Ok f N (kas_bin m p k) λr=>Good N r/\Up f r N
 |0,p,k,g,e,u=>by
  have e:k=N:=by omega
  subst e;exact#[g,u]
 |m+1,p,k,g,e,u=>by
  unfold kas_bin;apply (RL O hN g u k 0 k Z1 Z1 (bp _) (λi h=>absurd h Z1) λi h1 h2=>absurd h2 Z1).bind λl ⟨hl,h1,h2⟩=>?_;have hk:k<p.size:=by rw[g.size];omega
  apply Ve hN m _ (k+1) (g.bub _ _) Z1 λi j oI hj=>?_;rw[U4 hk hl,U4 hk hl];by_cases ej:j=l
  ·rw[aA ej];by_cases ei:i=l
   ·rw[aA ei];exact O.fY _
   ·rw[aq ei,aq Z1];exact h1 i Z1
  ·rw[aq ej];by_cases Yf:l<j/\j<=k
   ·rw[aA Yf];by_cases ei:i=l
    ·rw[aA ei];exact O.zo (h2 (j - 1) Z1 Z1)
    ·rw[aq ei];by_cases Yh:l<i/\i<=k
     ·rw[aA Yh];exact u _ _ Z1 Z1
     ·rw[aq Yh];exact u _ _ Z1 Z1
   ·rw[aq Yf];rw[aq (show ¬i=l by omega),aq (show ¬(l<i/\i<=k) by omega)];exact u _ _ Z1 Z1
theorem Vy(hN:0<N):Ok f N (kas_sort N) λp=>Good N p/\Up f p N:=by
 unfold kas_sort;apply (iQ_ O hN (p:=(List.range N).toArray) (Array.Perm.refl _) hN (bp _)).bind λr ⟨g,h1,h2,u⟩=>?_;split
 ·rename_i c
  rw[show max r.1 1=r.1 by omega];exact Ve O hN _ _ _ g Z1 u
 ·rename_i c
  have e:r.1=N:=by omega
  exact#[g,e▸u]
end
def zj(prog:Ae)(w:Af)(A:Ag)(f:Nat->Nat->Bool)(vs:ax)(s:Ab):Prop:=
 ∃κ,(∀Q:SortKind->Ab->Prop,Q κ s->wpAny (model prog w) A (keyKind' vs.toArray) Q (λ_ _=>False) s)/\∀i j C,i<vs.length->j<vs.length->C (f i j) s->kas_ask prog w A κ vs i j C s
def HV(a:Addr)(h h':Heap):Prop:=∀b o,b≠a->h.get? b=some o->h'.get? b=some o
def oR(p:Array Nat)(vs:ax):ax:=p.toList.map λi=>vs.getD i Value.none
theorem YV(vs:ax):oR (List.range vs.length).toArray vs=vs:=by
 unfold oR;apply List.ext_getElem? ?_;intro i;simp only[dW];by_cases h:i<vs.length
 ·simp[h]
 ·simp[Nat.le_of_not_lt h]
variable{f:Nat->Nat->Bool}{prog:Ae}{w:Af}{A:Ag}{E:Aa->Ab->Prop}{s:Ab}
theorem jG_{a:Addr}{vs:ax}{P:Fin->Ab->Prop}(O:Ord f)(ho:s.heap.get? a=some (seqObj "list" vs.toArray n))(dk:vs.length<64)(Cb:2<=vs.length->∀h',HV a s.heap h'->zj prog w A f vs { s with heap:=h' })(h:∀(p:Array Nat) (h':Heap) (e:Nat),Good vs.length p->Up f p vs.length->h'.get? a=some (seqObj "list" (oR p vs).toArray e)->HV a s.heap h'->P (.done (.ret .none)) { s with heap:=h' }) :
  wpAny (model prog w) A (Builtin.«list.sort» #[[.ref a],[]]) P E s:=by
 have haz:a<s.heap.objs.size:=cQ ho;obtain⟨e1,DJ⟩:∃e1,(s.heap.update a (Obj.mapSeq λ_=>(#[]:Array Aa))).get? a=some (seqObj "list" #[] e1):=#[_,get?_update_seq ho (λ_=>#[])]
 have DD:vs.length<=sizeLine:=by
  have:=b_;omega
 rw[list_sort_plain];apply aO (listItems_at ho Z (aO (listUpdate_at ho Z (aO (seqEpoch_at DJ Z (aO (wpAny_newTuple (aO (wpAny_newList (wpAny_holding ?_) (gG _))) DD)))) (by simpa using DD) (gG _))))
 have keep:∀g:Array Aa->Array Aa,HV a s.heap ((((s.heap.update a (Obj.mapSeq λ_=>(#[]:Array Aa))).push (seqObj "tuple" vs.toArray 0)).push (seqObj "list" #[] 0)).update a (Obj.mapSeq g)):=λg b o hb e=>by
  apply (w_ _ _ (Ne.symm hb)).trans (cU _ (cU _ ?_));exact (w_ _ _ (Ne.symm hb)).trans e
 have Gq:HV a s.heap (((s.heap.update a (Obj.mapSeq λ_=>(#[]:Array Aa))).push (seqObj "tuple" vs.toArray 0)).push (seqObj "list" #[] 0)):=λb o hb e=>
  cU _ (cU _ ((w_ _ _ (Ne.symm hb)).trans e))
 have DI:(((s.heap.update a (Obj.mapSeq λ_=>(#[]:Array Aa))).push (seqObj "tuple" vs.toArray 0)).push (seqObj "list" #[] 0)).get? a=some (seqObj "list" #[] e1):=cU _ (cU _ DJ);show wpAny (model prog w) A _ P E { s with heap:=((s.heap.update a (Obj.mapSeq λ_=>(#[]:Array Aa))).push (seqObj "tuple" vs.toArray 0)).push (seqObj "list" #[] 0) };dsimp only;by_cases h2:vs.toArray.size<2
 ·rw[aA h2,aA h2];apply aO (bV ?_);rw[StateT.run_pure]
  have yH:((vs.toArray.zip vs.toArray).map λx:Keyed=>x.2)=(oR (List.range vs.length).toArray vs).toArray:=by
   rw[YV];apply Array.ext' ?_;simp[List.map_snd_zip]
  apply aO (bV (aO (seqEpoch_at DI Z (aO (listUpdate_at DI Z ?_ (gG _) ?_)))))
  ·simp only[bne_self_eq_false,zf,if_false];apply bV (h (List.range vs.length).toArray _ _ (Array.Perm.refl _) (λi j oI hj=>?_) ((get?_update_seq DI _).trans (d8 (λz=>some (seqObj "list" z _)) yH)) (keep _))
   ·have e:i=j:=by
     simp only[dQ] at h2;omega
    subst e;exact O.fY _
  ·have e:((vs.toArray.zip vs.toArray).map λx:Keyed=>x.2).size<=sizeLine+1:=by
    simp only[Array.size_map,Array.size_zip,dQ];omega
   exact e
 ·rw[aq h2,aq h2]
  have j7:2<=vs.length:=by
   simp only[dQ] at h2;omega
  let#[κ,hk,hc]:=Cb j7 _ Gq;apply aO (wpAny_mono (hk (λk s'=>k=κ/\s'=_) #[Z,Z]) (λk s' G2=>?_) λ_ _ x=>x.elim);let#[rfl,rfl]:=G2
  apply aO (wpAny_mono (kat_run (ks:=vs) (vs:=vs) (G:=λp s'=>s'={ s with heap:=((s.heap.update a (Obj.mapSeq λ_=>(#[]:Array Aa))).push (seqObj "tuple" vs.toArray 0)).push (seqObj "list" #[] 0) }/\Good vs.length p/\Up f p vs.length)
   (Q:=λfJ s'=>∃p:Array Nat,arrOf fJ=p.map (kas_item (vs.toArray.zip vs.toArray))/\failedOf fJ=none/\s'={ s with heap:=((s.heap.update a (Obj.mapSeq λ_=>(#[]:Array Aa))).push (seqObj "tuple" vs.toArray 0)).push (seqObj "list" #[] 0) }/\Good vs.length p/\Up f p vs.length)
   rfl j7 dk (λp fJ s' _ q1 q2 q3=>#[p,q1,q2,q3]) (Ok.wp hc (λp q=>#[Z,q]) (Vy O Z1))) ?_ λ_ _ x=>x)
  rintro⟨⟨⟩,fJ⟩ s' ⟨p,Pr,hf,sf,g,u⟩;have sf:s'={ s with heap:=((s.heap.update a (Obj.mapSeq λ_=>(#[]:Array Aa))).push (seqObj "tuple" vs.toArray 0)).push (seqObj "list" #[] 0) }:=sf;subst sf
  have yH:((arrOf fJ).map λx:Keyed=>x.2)=(oR p vs).toArray:=by
   rw[Pr];apply Array.ext' ?_;unfold oR;simp only[Array.map_map,Array.toList_map,List.toList_toArray];apply rV λi _=>?_;show (kas_item (vs.toArray.zip vs.toArray) i).2=_;unfold kas_item;by_cases hi:i<vs.length
   ·simp[Array.getD,hi]
   ·simp[Array.getD,hi,Nat.le_of_not_lt hi]
  have esz:((arrOf fJ).map λx:Keyed=>x.2).size=vs.length:=by
   rw[yH];unfold oR;simp only[dQ,ao,sN];exact g.size
  apply aO (seqEpoch_at DI Z (aO (listUpdate_at DI Z ?_ (gG _) (by rw[esz];omega))));rw[hf];simp only[bne_self_eq_false,zf,if_false];exact bV (h p _ _ g u ((get?_update_seq DI _).trans (d8 (λz=>some (seqObj "list" z _)) yH)) (keep _))
theorem Y5{x:Aa}{Q:Aa->Ab->Prop}(O:Ord f)(oM:wpAny (model prog w) A.in1 (collect x) (λvs s1=>vs.length<64/\(2<=vs.length->∀h':Heap,(∀b o,s1.heap.get? b=some o->h'.get? b=some o)->zj prog w A.in1.in1 f vs { s1 with heap:=h' }) /\
   ∀(p:Array Nat) (h':Heap) (e:Nat),Good vs.length p->Up f p vs.length->h'.get? s1.heap.objs.size=some (seqObj "list" (oR p vs).toArray e)->(∀b o,s1.heap.get? b=some o->h'.get? b=some o)->Q (.ref s1.heap.objs.size) { s1 with heap:=h' }) E s) :
  wpAny (model prog w) A (call (.builtin "sorted") [x]) Q E s:=by
 apply Calls.call_function_entry kind_sorted plain_sorted entry_sorted (args_sorted1 _) ?_;unfold Builtin.«sorted»;apply aO (m:=checkCount "sorted" 1 1 _) (bV (aO (wpAny_mono oM (λvs s1 q=>?_) λ_ _ z=>z)));let#[dk,Cb,hQ]:=q;apply aO (wpAny_newList ?_ (by have:=b_;omega));have hn:(s1.heap.push (seqObj "list" vs.toArray 0)).get? s1.heap.objs.size=some (seqObj "list" vs.toArray 0):=fG _ Z
 have old:∀h',HV s1.heap.objs.size (s1.heap.push (seqObj "list" vs.toArray 0)) h'->∀b o,s1.heap.get? b=some o->h'.get? b=some o:=λh' k b o e=>
  k b o (eV (cQ e)) (cU _ e)
 apply aO (wpAny_holding (wpAny_call_entry slot_list_sort #[_,hn,Z] entry_list_sort (jG_ O hn dk (λh2 h' k=>Cb h2 h' (old h' k)) λp h' e g u q k=>#[_,Z,?_]) (args_list_sort _)));exact bV #[_,Z,hQ p h' e g u q (old h' k)]
end Kf
namespace L2
open PySem PySem.Spec PyProof.Rows PySem.W Kf
def jO:Key->Key->Bool
 |.inl i,.inl j=>decide (i<j)
 |.inl _,.inr _=>true
 |.inr _,.inl _=>false
 |.inr x,.inr y=>decide (x.cps.toList<y.cps.toList)
def bE:aM->aM->Bool
 |[],[]=>false
 |[],_::_=>true
 |_::_,[]=>false
 |a::r,b::q=>if a=b then bE r q else jO a b
theorem VG:∀a:Key,jO a a=false
 |.inl i=>by simp[jO]
 |.inr x=>by simp[jO,List.lt_irrefl]
theorem Yd:∀{a b:Key},jO a b=true->jO b a=false
 |.inl i,.inl j,h=>by
  simp only[jO,mC,decide_eq_false_iff_not] at *;omega
 |.inl _,.inr _,_=>rfl
 |.inr _,.inl _,h=>by cases h
 |.inr x,.inr y,h=>by
  simp only[jO,mC,decide_eq_false_iff_not] at *;exact λq=>List.lt_irrefl _ (List.lt_trans h q)
theorem Wf:∀{a b:Key},jO a b=false->jO b a=false->a=b
 |.inl i,.inl j,h,h2=>by
  simp only[jO,decide_eq_false_iff_not] at *;rw[show i=j by omega]
 |.inl _,.inr _,h,_=>by cases h
 |.inr _,.inl _,_,h=>by cases h
 |.inr x,.inr y,h,h2=>by
  simp only[jO,decide_eq_false_iff_not] at *;rw[ext_toList (List.le_antisymm (List.not_lt.mp h2) (List.not_lt.mp h))]
theorem hM_:∀{a b c:Key},jO a b=true->jO b c=true->jO a c=true
 |.inl i,.inl j,.inl k,h,h2=>by
  simp only[jO,mC] at *;omega
 |.inl _,.inl _,.inr _,_,_=>rfl
 |.inl _,.inr _,.inr _,_,_=>rfl
 |.inl _,.inr _,.inl _,_,h=>by cases h
 |.inr _,.inl _,_,h,_=>by cases h
 |.inr _,.inr _,.inl _,_,h=>by cases h
 |.inr x,.inr y,.inr z,h,h2=>by
  simp only[jO,mC] at *;exact List.lt_trans h h2
theorem EI:∀a:aM,bE a a=false
 |[]=>rfl
 |a::r=>by
  unfold bE;rw[aA Z];exact EI r
theorem SC:∀{a b:aM},bE a b=true->bE b a=false
 |[],[],h=>by cases h
 |[],_::_,_=>rfl
 |_::_,[],h=>by cases h
 |a::r,b::q,h=>by
  unfold bE at h ⊢;by_cases e:a=b
  ·rw[aA e] at h;rw[aA e.symm];exact SC h
  ·rw[aq e] at h;rw[aq (Ne.symm e)];exact Yd h
theorem Ij:∀{a b:aM},bE a b=false->bE b a=false->a=b
 |[],[],_,_=>rfl
 |[],_::_,h,_=>by cases h
 |_::_,[],_,h=>by cases h
 |a::r,b::q,h,h2=>by
  unfold bE at h h2;by_cases e:a=b
  ·rw[aA e] at h;rw[aA e.symm] at h2;rw[e,Ij h h2]
  ·rw[aq e] at h;rw[aq (Ne.symm e)] at h2;exact absurd (Wf h h2) e
theorem Zh:∀{a b c:aM},bE a b=true->bE b c=true->bE a c=true
 |[],_,[],h,h2=>by
  rename_i b
  cases b with
  |nil=>cases h
  |cons _ _=>cases h2
 |[],_,_::_,_,_=>rfl
 |_::_,[],_,h,_=>by cases h
 |_::_,_::_,[],_,h=>by cases h
 |a::r,b::q,c::t,h,h2=>by
  unfold bE at h h2 ⊢;by_cases e:a=b
  ·subst e;rw[aA Z] at h;by_cases e2:a=c
   ·rw[aA e2] at h2 ⊢;exact Zh h h2
   ·rw[aq e2] at h2 ⊢;exact h2
  ·rw[aq e] at h;by_cases e2:b=c
   ·subst e2;rw[aq e];exact h
   ·rw[aq e2] at h2;let h3:=hM_ h h2;rw[aq (λq=>by rw[q,VG] at h3;cases h3)];exact h3
theorem EF{a b c:aM}(h:bE b a=false)(h2:bE c b=false):bE c a=false:=by
 cases e:bE c a with
 |false=>rfl
 |true=>
  by_cases e1:bE a b=true
  ·have:=Zh e e1;rw[h2] at this;cases this
  ·have e1:bE a b=false:=by simpa using e1
   have:=Ij e1 h;subst this;rw[h2] at e;cases e
def o_(ks:List aM):Prop:=ks.Pairwise λa b=>bE b a=false
theorem R0:∀{a b:List aM},a.Perm b->o_ a->o_ b->a=b
 |[],b,p,_,_=>by
  have:=p.length_eq;cases b with
  |nil=>rfl
  |cons _ _=>cases this
 |x::r,[],p,_,_=>by
  have:=p.length_eq;cases this
 |x::r,y::q,p,h1,h2=>by
  let#[a1,a2]:=vY.mp h1;let#[b1,b2]:=vY.mp h2
  have e:x=y:=by
   rcases bZ.mp (p.mem_iff.mp cZ) with m|m
   ·exact m
   ·rcases bZ.mp (p.mem_iff.mpr cZ) with m2|m2
    ·exact m2.symm
    ·exact Ij (b1 _ m) (a1 _ m2)
  subst e;rw[R0 ((List.perm_cons _).mp p) a2 b2]
def aU(ks:List aM):List aM:=ks.mergeSort λa b=>!bE b a
theorem mK(ks:List aM):(aU ks).Perm ks:=List.mergeSort_perm _ _
theorem Mn(ks:List aM):o_ (aU ks):=by
 have:=List.pairwise_mergeSort (le:=λa b=>!bE b a) (λa b c h1 h2=>by
  simp only[Bool.not_eq_true'] at *;exact EF h1 h2) (λa b=>by
  simp only[Bool.or_eq_true,Bool.not_eq_true'];by_cases e:bE b a=true
  ·exact .inr (SC e)
  ·exact .inl (by simpa using e)) ks
 exact this.imp λh=>by simpa using h
variable{ks:List aM}
theorem LR{uV:List aM}(p:uV.Perm ks)(h:o_ uV):uV=aU ks:=R0 (p.trans (mK ks).symm) h (Mn ks)
variable{p:Array Nat}
theorem IM{α:Type}{n:Nat}(g:Good n p)(F:Nat->α):(p.toList.map F).Perm ((List.range n).map F):=by
 have e:p.toList.Perm (List.range n):=by
  have:=Array.perm_iff_toList_perm.mp g;simpa using this
 exact e.map F
theorem P_{f:Nat->Nat->Bool}(hf:∀i j,i<ks.length->j<ks.length->f i j=bE (ks.getD i []) (ks.getD j []))(g:Good ks.length p)(u:Up f p ks.length):o_ (p.toList.map λi=>ks.getD i []):=by
 unfold o_;rw[oZ,List.pairwise_iff_getElem];intro i j hi hj oI;let hs:=g.size;rw[sN] at hi hj;have hj':j<ks.length:=by omega
 let q:=u i j (Nat.le_of_lt oI) hj';have hN:0<ks.length:=by omega
 rw[hf _ _ (g.lt hN _) (g.lt hN _)] at q;have e1:at' p i=p.toList[i]:=by simp[at',Array.getD,hi]
 have e2:at' p j=p.toList[j]:=by simp[at',Array.getD,hj]
 rw[e1,e2] at q;exact q
theorem Qz(ks:List aM):Ord λi j=>bE (ks.getD i []) (ks.getD j []):=#[λ_=>EI _,λh h2=>EF h h2,λh=>SC h]
theorem IS{α:Type}(d:α)(l:List α):((List.range l.length).map λi=>l.getD i d)=l:=by
 apply List.ext_getElem? ?_;intro i;simp only[dW];by_cases h:i<l.length
 ·simp[h]
 ·simp[Nat.le_of_not_lt h]
variable{ys:ai}{vs:ax}
theorem RG(r:Vals ys vs)(g:Good vs.length p):Vals (p.toList.map λi=>ys.getD i .non) (oR p vs):=by
 unfold oR
 have key:∀l:List Nat,(∀i∈l,i<vs.length)->Vals (l.map λi=>ys.getD i .non) (l.map λi=>vs.getD i Value.none):=λl=>by
  induction l with
  |nil=>exact λ_=>.nil
  |cons i l ih=>
   intro h;apply .cons ?_ (ih λj hj=>h j (dI _ hj));let hi:=h i cZ;have hy:i<ys.length:=by rw[r.length];exact hi
   let#[u,hu,ru]:=r.get (dG hy);have e1:ys.getD i .non=ys[i]:=by simp[hy]
   have e2:vs.getD i Value.none=u:=by simp[hu]
   show RelV (ys.getD i .non) (vs.getD i Value.none);rw[e1,e2];exact ru
 apply key p.toList λi hi=>?_;have m:i∈(List.range vs.length).toArray:=g.mem_iff.mp (by simpa using hi);simpa using m
theorem WK:∀{ss:ae} {vs:ax},Vals (ss.map V.str) vs->StrsAre vs ss
 |[],_,.nil=>.nil
 |x::r,_,.cons h t=>by
  let#[tk,rfl]:=h;exact .cons x tk (WK t)
def aV(ss:ae):ae:=(aU (ss.map λx=>[Sum.inr x])).map λk=>match k with
 |[.inr x]=>x
 |_=>⟨#[]⟩
def c_(x:Str):aM:=[Sum.inr x]
variable{prog:Ae}{w:Af}{A:Ag}{s:Ab}
theorem hu_{ss:ae}(r:StrsAre vs ss)(h2:2<=vs.length):zj prog w A (λi j=>bE ((ss.map c_).getD i []) ((ss.map c_).getD j [])) vs s:=by
 apply#[oneType',λQ q=>?_,λi j C hi hj hC=>?_]
 ·match vs,h2 with
  |v₁::_u::t,_=>
   rw[keyKind_strs r];exact bV q
 ·unfold kas_ask;rw[keyLt'_oneType]
  have look:∀k,k<vs.length->∃x t,vs.getD k Value.none=.str x t/\(ss.map c_).getD k []=[Sum.inr x]:=λk hk=>by
   let e:=r.strs;let#[x,t,q]:=r.all vs[k] (js hk);apply#[x,t,by simp[hk,q],?_]
   have V8:k<ss.length:=by
    rw[<- e,ao];exact hk
   have e2:ss[k]=x:=by
    have e3:(vs.map strOf)[k]? = ss[k]?:=by rw[e]
    rw[dW,dG hk,dG V8,q] at e3;exact (eK e3).symm
   simp[V8,e2,c_]
  let#[x,t,e1,e2]:=look i hi;let#[y,u,e3,e4]:=look j hj;rw[e1,e3];dsimp only at hC;rw[e2,e4] at hC;apply oneLt_str ?_;unfold bE at hC;by_cases e:x=y
  ·subst e;rw[aA Z] at hC;have:decide (x.cps.toList<x.cps.toList)=false:=by simp[List.lt_irrefl]
   rw[this];exact hC
  ·rw[aq (λq=>e (ij q))] at hC;exact hC
def zZ:Key->Bool
 |.inl _=>false
 |.inr _=>true
variable{a b:Key}
theorem hC_{E:Aa->Ab->Prop}{c:Bool}{p q:Aa}{Q:Bool->Ab->Prop}(ra:RelV (kV a) p)(rb:RelV (kV b) q)(hk:zZ a=zZ b)(h:Q (jO a b) s) :
  wpAny (model prog w) A (oneLt' c p q) Q E s:=by
 cases a with
 |inl i=>
  cases b with
  |inr y=>cases hk
  |inl j=>
   let#[t,rfl]:=ra;let#[u,rfl]:=rb;cases c with
   |true=>exact oneLt_int h
   |false=>exact kat_one _ _ (lt_int (show PySem.W.BoolBack Q (.bool _) s from h))
 |inr x=>
  cases b with
  |inl j=>cases hk
  |inr y=>
   let#[t,rfl]:=ra;let#[u,rfl]:=rb;cases c with
   |true=>exact oneLt_str h
   |false=>exact kat_one _ _ (PyProof.Rows.lt_str (show PySem.W.BoolBack Q (.bool _) s from h))
theorem W7(hk:zZ a=zZ b):jV (kV a) (kV b)=decide (a=b):=by
 cases a with
 |inl i=>
  cases b with
  |inr y=>cases hk
  |inl j=>
   show (i == j)=_;by_cases e:i=j
   ·subst e;simp
   ·rw[dS (λq=>e (Sum.inl.inj q))];simpa using e
 |inr x=>
  cases b with
  |inl j=>cases hk
  |inr y=>
   show (x == y)=_;by_cases e:x=y
   ·subst e;simp
   ·rw[dS (λq=>e (ij q))];simpa using e
theorem XC(a:Key):qw (kV a)=true:=by cases a<;>rfl
theorem YN{prog:Ae}{w:Af}{A:Ag}{s:Ab}{Q:Bool->Ab->Prop}:∀{k1 k2:aM} {us vs:ax} (i:Nat),Vals (k1.map kV) us->Vals (k2.map kV) vs->k1.map zZ=k2.map zZ->Q (bE k1 k2) s->KatLex prog w A true false Q (us.zip vs) i s
 |[],[],_,_,i,.nil,.nil,_,h=>h
 |[],_::_,_,_,_,_,_,h,_=>by cases h
 |_::_,[],_,_,_,_,_,h,_=>by cases h
 |a::k1,b::k2,u::us,v::vs,i,.cons ra r1,.cons rb r2,hk,h=>by
  let#[e1,e2]:=mB hk;apply kat_cons ?_;apply PH ra rb (XC a) (XC b) prog w _ _ ?_;rw[W7 e1];unfold bE at h;by_cases e:a=b
  ·rw[aA e] at h;rw[cc e];exact kat_yes (YN (i+1) r1 r2 e2 h)
  ·rw[aq e] at h;rw[dS e];exact kat_no (hC_ ra rb e1 h)
def bg(K:af)(H:Hp):ai->List aM->Prop:=Paired λy k=>∃a,y=V.ref a/\H a=some (.tup (k.map kV))
def Au(ks:List aM)(sh:List Bool):Prop:=sh≠[]/\∀k∈ks,k.map zZ=sh
theorem XW{X:Cx}{pins:List (Addr × Obj)}{σ:St}{H:Hp}{s':Ab}{sh:List Bool}(I:Inv X pins σ H s)(r:Vals ys vs)(t:bg X.K H ys ks)(al:Au ks sh)(h2:2<=vs.length)(kp:∀b o,s.heap.get? b=some o->s'.heap.get? b=some o):zj X.prog X.w A (λi j=>bE (ks.getD i []) (ks.getD j [])) vs s':=by
 have look:∀k,k<vs.length->∃a its,vs.getD k Value.none=.ref a/\Vals ((ks.getD k []).map kV) its/\IsTup s'.heap a its.toArray/\ks.getD k []∈ks:=λk hk=>by
  have hy:k<ys.length:=by rw[r.length];exact hk
  have DK:k<ks.length:=by rw[<- bK t];exact hy
  let#[u,hu,ru]:=r.get (dG hy)
  have gen:∀{ys:ai} {ks:List aM} (k:Nat) (hy:k<ys.length) (DK:k<ks.length),bg X.K H ys ks->∃a,ys[k]=V.ref a/\H a=some (.tup (ks[k].map kV)):=λ{ys ks} k hy DK t=>by
   induction t generalizing k with
   |nil=>exact absurd hy Z2
   |cons h t ih=>
    cases k with
    |zero=>exact h
    |succ k=>exact ih k (by simpa using hy) (by simpa using DK)
  let#[a,e,sq]:=gen k hy DK t;let#[its,ri,ti,_]:=I.tuple (iZ.of sq);rw[e] at ru;cases ru;have e2:ks.getD k []=ks[k]:=by simp[DK]
  apply#[a,its,by simp[hu],by rw[e2];exact ri,ti.keeps kp,?_];rw[e2];exact js DK
 let#[rB,Hj]:=al
 obtain⟨c,Fu,rfl⟩:∃c Fu,sh=c::Fu:=by
  cases sh with
  |nil=>exact absurd Z rB
  |cons c Fu=>exact#[c,Fu,Z]
 apply#[tuples' true,λQ q=>?_,λi j C hi hj hC=>?_]
 ·have Cn:∀l:ax,(∀v∈l,∃(a:Addr) (its:ax) (k:aM),v=.ref a/\Vals (k.map kV) its/\IsTup s'.heap a its.toArray/\k.map zZ=c::Fu)->∃fs,KatTups s'.heap l fs/\fs.length=l.length/\∀v∈fs,Looks (model X.prog X.w) s'.heap (typeOf v) (.type (if c then "str" else "int")):=λl=>by
   induction l with
   |nil=>exact λ_=>#[[],.nil,Z,λ_ h=>nomatch h]
   |cons v l ih=>
    intro h;let#[fs,h1,h2,h3]:=ih λv hv=>h v (dI _ hv);let#[a,its,k,rfl,rv,#[o,ho,hc,n,hd],hk]:=h v cZ
    match k,its,rv,hk with
    |k0::k,u::its,.cons r0 _,hk=>
     apply#[u::fs,.cons ho hc hd Z2 h1,by simp[h2],λv hv=>?_];rcases bZ.mp hv with e|hv
     ·subst e;let e0:=(mB hk).1;cases k0 with
      |inl i=>
       let#[t,rfl]:=r0;rw[<- e0];exact .now
      |inr x=>
       let#[t,rfl]:=r0;rw[<- e0];exact .now
     ·exact h3 v hv
  let#[fs,h1,h3,h4]:=Cn vs λv hv=>by
   let#[k,hk,rfl]:=rT hv;let#[a,its,e,rv,ti,m]:=look k hk;apply#[a,its,_,?_,rv,ti,Hj _ m];rw[<- e];simp[hk]
  apply kat_kind h1 Z1 h4 (by cases c<;>decide) ?_
  have e:((Value.type (if c then "str" else "int")) != Value.type "tuple")=true:=by cases c<;>decide
  rw[e];exact q
 ·unfold kas_ask;let#[a,its,e1,r1,#[o,ho,_,n,hd],m1]:=look i hi;let#[b,jP,e2,r2,#[o2,BV,_,n2,hd2],m2]:=look j hj;rw[e1,e2];apply kat_lt ho hd BV hd2 ?_;let l1:=r1.length;let l2:=r2.length;let l3:=d8 List.length ((Hj _ m1).trans (Hj _ m2).symm);simp only[ao] at l1 l2 l3;rw[show decide (its.toArray.size<jP.toArray.size)=false by simp;omega];exact YN 0 r1 r2 ((Hj _ m1).trans (Hj _ m2).symm) hC
end L2
namespace MA
open PySem PySem.W PyProof.Rows
def Raw(h:Heap)(d:Addr)(es:Array DictEntry)(ep:Nat):Prop:=∃o,h.get? d=some o/\o.ExactDict/\o.data=.dict es ep
variable{h h':Heap}{d:Addr}{es:Array DictEntry}{ep:Nat}
theorem Raw.fe(x:Raw h d es ep)(k:∀o,h.get? d=some o->h'.get? d=some o):Raw h' d es ep:=let #[o,e,r]:=x;#[o,k o e,r]
variable{s:Ab}
theorem Raw.ty(x:Raw s.heap d es ep):s.TypeIs (.ref d) "dict":=let #[o,e,c,_]:=x;#[o,e,c.1]
variable{prog:Ae}{w:Af}{A:Ag}{E:Aa->Ab->Prop}
theorem jn_{Q:Aa->Ab->Prop}(hd:(d == sysModules)=false)(x:Raw s.heap d es ep)(q:Q (.ref s.heap.objs.size) { s with heap:=s.heap.push { cls:=.type "dict_keyiterator",data:=.fields (List.toArray [.ref d,.int 0 0,.int es.size 0,.int ep 0]) } }) :
  wpAny (model prog w) A (pyIter (.ref d)) Q E s:=by
 let#[o,ho,hc,yC]:=id x;apply wpAny_pyIter_slot x.ty F.slot_dict_iter (wpAny_call_entry F.slot_dict_iter x.ty F.entry_dict_iter ?_ (F.args_dict_iter_1 _));unfold Builtin.«dict.__iter__» Builtin.Dict.dictSlotNone;apply aO (aO (wpAny_notOrdered_dict x.ty (show wpAny _ _ (pure (Value.ref d)) _ _ s from bV (show wpAny _ _ (Builtin.Dict.showsAll d >>= _) _ _ s from ?_))));unfold Builtin.Dict.showsAll;rw[aq (by rw[hd];decide)];apply aO (bV (aO (wpAny_dictEntries ho yC (aO (wpAny_dictEpoch ho yC (aO (wpAny_newObj_type (bV #[_,Z,"dict_keyiterator",_,#[_,fG _ Z,Z],F.slot_dict_keyiterator_next.lookup,?_]))))))));exact q
variable{Q:Option Aa->Ab->Prop}{it:Addr}{i:Nat}
theorem j8_(hit:s.heap.IsKeyIter it d i es.size ep)(x:Raw s.heap d es ep)(hi:i<es.size)(q:∀h',h'.IsKeyIter it d (i+1) es.size ep->Heap.SameBut it s.heap h'->Q (some es[i].key) { s with heap:=h' }):wpAny (model prog w) A (pyNext (.ref it)) Q E s:=by
 let#[o,ho,hc,hd]:=id hit;let#[od,GP,iQ,B9]:=id x;unfold pyNext;apply aO (wpAny_attempt (wpAny_callSpecial?_slot (name:=Str.ofString "__next__") hit.typeIs F.slot_dict_keyiterator_next (wpAny_call_entry F.slot_dict_keyiterator_next hit.typeIs F.entry_dict_keyiterator_next ?_ (F.args_dict_keyiterator_next_1 _))));apply aO (bV (aO (aO ?_)))
 first|refine aO (wpAny_typeNameOfWhole_keyiter hit.typeIs (bV (aO (wpAny_fieldsOf ho hd ?_))))|refine aO (wpAny_typeNameOf_keyiter hit.typeIs (bV (aO (wpAny_fieldsOf ho hd ?_))))
 simp only[show Builtin.Dict_items.ownsTuple "dict_keyiterator"=false by decide,zf,if_false];apply (show wpAny _ _ (if (Value.ref d == Value.none)=true then _ else _) _ _ s from ?_);rw[aq (λz=>by cases z)];apply aO (bV (aO (wpAny_dictEntries GP B9 ?_)));rw[aq Z2];apply aO (bV (aO (wpAny_dictEpoch GP B9 ?_)));rw[aq Z2];apply bV ?_;simp only[show ¬((i:Int)<0) from by omega,if_false,zd,Array.getElem?_eq_getElem hi];apply aO ?_
 first|refine aO (wpAny_typeNameOfWhole_keyiter hit.typeIs (bV (aO (wpAny_isOneOf_keyiter hit.typeIs ?_))))|refine aO (wpAny_typeNameOf_keyiter hit.typeIs (bV (aO (wpAny_isOneOf_keyiter hit.typeIs ?_))))
 apply (show wpAny _ _ (setField (.ref it) 1 (rawInt ((i:Int)+1)) >>= _) _ _ s from aO (wpAny_setField ho hd Z2 ?_))
 have turned:(s.heap.update it (Obj.mapFields (·.setIfInBounds 1 (rawInt ((i:Int)+1))))).IsKeyIter it d (i+1) es.size ep:=
  #[_,Heap.get?_update_self _ ho (Obj.isFreed_of_fields (Obj.data_mapFields hd _)),(Obj.cls_mapFields ..).trans hc,by rw[Obj.data_mapFields hd];simp[rawInt]]
 apply aO (wpAny_holding (aO (wpAny_isOneOf_keyiter (s:={ s with heap:=s.heap.update it (Obj.mapFields (·.setIfInBounds 1 (rawInt ((i:Int)+1)))) }) turned.typeIs ?_)));exact (show wpAny _ _ (pure es[i].key) _ _ _ from bV (bV #[_,Z,bV (q _ turned (Heap.SameBut.update ..))]))
theorem jQ_(hh:A.handled=none)(hit:s.heap.IsKeyIter it d es.size es.size ep)(x:Raw s.heap d es ep)(q:∀h',Heap.ExtBut it s.heap h'->Q none { s with heap:=h' }):wpAny (model prog w) A (pyNext (.ref it)) Q E s:=by
 let#[o,ho,hc,hd]:=id hit;let#[od,GP,iQ,B9]:=id x;unfold pyNext;apply aO (wpAny_attempt (wpAny_callSpecial?_slot (name:=Str.ofString "__next__") hit.typeIs F.slot_dict_keyiterator_next (wpAny_call_entry F.slot_dict_keyiterator_next hit.typeIs F.entry_dict_keyiterator_next ?_ (F.args_dict_keyiterator_next_1 _))));apply aO (bV (aO (aO ?_)))
 first|refine aO (wpAny_typeNameOfWhole_keyiter hit.typeIs (bV (aO (wpAny_fieldsOf ho hd ?_))))|refine aO (wpAny_typeNameOf_keyiter hit.typeIs (bV (aO (wpAny_fieldsOf ho hd ?_))))
 simp only[show Builtin.Dict_items.ownsTuple "dict_keyiterator"=false by decide,zf,if_false];apply (show wpAny _ _ (if (Value.ref d == Value.none)=true then _ else _) _ _ s from ?_);rw[aq (λz=>by cases z)];apply aO (bV (aO (wpAny_dictEntries GP B9 ?_)));rw[aq Z2];apply aO (bV (aO (wpAny_dictEpoch GP B9 ?_)));rw[aq Z2];apply bV ?_;simp only[show ¬((es.size:Int)<0) from by omega,if_false,zd,Array.getElem?_eq_none (bp _)];apply aO ?_
 first|refine aO (wpAny_typeNameOfWhole_keyiter hit.typeIs (bV ?g))|refine aO (wpAny_typeNameOf_keyiter hit.typeIs (bV ?g))
 apply (show wpAny _ _ (setField (.ref it) 0 .none >>= _) _ _ s from aO (wpAny_setField ho hd Z2 (show wpAny _ _ (newExc (.type "StopIteration") [] >>= _) _ _ _ from aO ?_)));simp only[newExc,newTuple];apply aO (wpAny_newObj_type (aO (m:=firstArgMember _ _) (wpAny_of_eq (a:=Value.none) (by first|rfl|(simp only[firstArgMember];rfl)) (wpAny_newObj_type ?_ (by size_fits)))) (by size_fits));simp only[raiseNew];apply aO (wpAny_handled ?_);rw[show A.in1.handled=none from hh];apply aO (bV (wpAny_throw ?_));exact aO (wpAny_isInstance (T:="StopIteration") (b:=true) #[_,fG _ Z,Z] isSubtype_stop (bV (q _ (((Heap.SameBut.update ..).extBut.push _).push _))))
theorem ha_(hh:A.handled=none)(I d:Addr)(rB:d≠I)(es:Array DictEntry)(ep:Nat) :
  Walks prog w A I [I,d] [I] es.size (λi v=>∃h:i<es.size,v=es[i].key) (λi h=>h.IsKeyIter I d i es.size ep/\Raw h d es ep) where
 sub:=λb hb=>by simp only[jq] at hb;simp[hb]
 frame:=λ_ _ _ st k=>#[st.1.at λo e=>k I Z2 o e,st.2.fe λo e=>k d Z2 o e]
 item:=λi s Q E hi st hQ=>j8_ st.1 st.2 hi λh' B3 sf=>hQ _ h' s.toks #[hi,Z] #[B3,st.2.fe λo e=>sf.extBut d o rB e] λb o hb e=>sf.extBut b o (λh=>hb (by simp[h])) e
 done:=λs Q E st hQ=>jQ_ hh st.1 st.2 λh' he'=>hQ h' s.toks λb o hb e=>he' b o (λh=>hb (by simp[h])) e
 self:=λ_ _ _ _ st hQ=>wpAny_pyIter_keyiter st.1 hQ
theorem kY_(lo:(d == sysModules)=false):KdlSrc prog w "dict" d d es.size (λi v=>∃h:i<es.size,v=es[i].key) (λh=>Raw h d es ep) where
 type:=λs x=>x.ty
 there:=λh x=>let #[o,e,_]:=x;#[cQ e,cQ e]
 keep:=λh h' x k=>x.fe λo e=>k d (.inl Z) o e
 notList:=by decide
 notTuple:=by decide
 hint:=λ_ _ s _ x q=>kdl_hint_dict x.ty q
 iter:=λA s hh x=>#[_,_,λE Q q=>jn_ lo x q,ha_ hh _ d (let #[o,e,_]:=x;eV (cQ e)) es ep,#[#[_,fG _ Z,Z,Z],x.fe λo e=>cU _ e]]
theorem du_:typeLookup (.type "list") "keys"=pure none:=by rw[typeLookup_type,builtinLookup_eq_fast];kernel_rfl
variable{a:Addr}{xs:Array Aa}{k:Nat}{tk:Tok}{R:Result->Ab->Prop}
theorem iC_(hx:s.heap.get? a=some (seqObj "list" xs k))(h:raisesAttr (.ref a) "keys" A R s) :
  codeAny (model prog w) A (.call (.builtin "list.__getattribute__") #[[.ref a,.str "keys" tk],[]]) R s:=by
 apply codeAny_call_builtin F.slot_list_getattribute.plain am_entry_list_getattribute (F.slot_list_getattribute.check _ _ _ _ _ _ _ _ #[_,hx,Z] (F.args_list_getattribute_2 _ _) ?_);exact meets_getattribute_miss_list a xs k #[] "keys" tk du_ (by decide) (by size_fits) prog w A R s #[hx,h]
theorem BE(hx:s.heap.get? a=some (seqObj "list" xs k))(hA:A.handled=none)(h:∀h' tk,(∀b o,s.heap.get? b=some o->h'.get? b=some o)->Q none { s with heap:=h',toks:=tk }):wpAny (model prog w) A (getAttr? (.ref a) "keys") Q E s:=by
 let#[hp,g,d,tk,os]:=s;have ty:∀wC,(#[hp,g,d,wC,os]:Ab).TypeIs (.ref a) "list":=λ_=>#[_,hx,Z];let f1:=sub_AttributeError;let f2:=F.slot_list_getattribute.lookup;let f3:=F.slot_list_getattribute.bind (.ref a);let f4:=am_list_getattr_none;unfold getAttr? getAttrBy? getAttrBy
 repeat (any_goals (first|assumption|exact ty _|wp_step))
 apply iC_ hx #[hA,λh' wC e DG=>?_];let#[t',u',he]:=DG.there;show wpAny _ _ (getattributeRaised _ _ _ _ _ _ _) _ _ _;unfold getattributeRaised
 repeat (any_goals (first|assumption|wp_step))
 exact h _ _ DG.keeps
theorem Yj:entryFor table "dict.update.loop"=some Builtin.«dict.update.loop»:=entryFor_of_tree (by kernel_rfl)
theorem L1:plainId "dict.update.loop"=true:=by decide +kernel
theorem U2(d it:Addr)(i:Int)(tk:Tok):Builtin.«dict.update.loop» #[[.ref d,.ref it,.int i tk,.none],[]]=(do
  let r <- pyNext (.ref it)
  match r with
  |none=>do Builtin.Dict.addKeywords d [];ret .none
  |some item=>do
   holding [item] (do
    let pair <- (Builtin.Dict.pairItems item).tryCatch λe=>do
     if !(<- isInstance e (.type "TypeError")) then throw e
     rule "dict.update.element-no-sequence"
     raiseError "TypeError" s!"cannot convert dictionary update sequence element #{i} to a sequence"
    match pair with
    |[k,v]=>holding [k,v] (dictSet d k v)
    |l=>do
     rule "dict.update.element-length"
     raiseError "ValueError" s!"dictionary update sequence element #{i} has length {l.length}; 2 is required")
   again (.builtin "dict.update.loop" #[[.ref d,.ref it,rawInt (i+1),.none],[]])):=by
 unfold Builtin.«dict.update.loop»;apply d8 (λf=>pyNext (.ref it) >>= f) (funext λr=>?_);cases r<;>rfl
variable{b l:Addr}{ys:Array Aa}
variable{its:ax}
section
variable{prog:Ae}{w:Af}{K:Type}[DecidableEq K]{knd:PySem.KeyKind prog w K}{A:Ag}
def QK(knd:PySem.KeyKind prog w K)(h:Heap):ax->List (K × Aa)->Prop:=Paired λv p=>∃a key,v=.ref a/\IsTup h a (List.toArray [key,p.2])/\knd.is p.1 key=true
def iL(kvs:List (K × Aa))(ps:List (K × Aa)):List (K × Aa):=ps.foldl (λacc p=>stored acc p.1 p.2) kvs
theorem gt_(kvs:List (K × Aa))(k:K)(v:Aa):(stored kvs k v).length<=kvs.length+1:=by
 unfold stored;split
 ·simp
 ·simp
theorem YS(t:IsTup h b ys)(q:h.IsListIter it l i):b≠it:=λz=>by
 let#[o,ho,hc,_]:=t;let#[o2,BV,DO,_]:=q;subst z;rw[ho] at BV;cases BV;rw[hc] at DO;exact absurd DO (by decide)
theorem fz_{kvs:List (K × Aa)}(t:IsTup h b ys)(q:h.DictOf knd d kvs):b≠d:=λz=>by
 let#[o,ho,hc,_]:=t;let#[o2,es,ep,BV,DO,_]:=q;subst z;rw[ho] at BV;cases BV;let Wt:=DO.1;rw[hc] at Wt;exact absurd Wt (by decide)
theorem Yv{kvs:List (K × Aa)}(q:h.DictOf knd d kvs)(k:∀o,h.get? d=some o->h'.get? d=some o):h'.DictOf knd d kvs:=by
 let#[o,es,ep,ho,r]:=q;exact#[o,es,ep,k _ ho,r]
theorem je_{key x:Aa}{k:K}{kvs:List (K × Aa)}(B8:d≠it)(hi:its.toArray[i]? = some (.ref a))(ht:IsTup s.heap a (List.toArray [key,x]))(hk:knd.is k key=true)(hit:s.heap.IsListIter it l i)(hl:s.heap.IsList l its.toArray)(hd:s.heap.DictOf knd d kvs)(hz:kvs.length<=1000)(hR:∀h2,h2.DictOf knd d (stored kvs k x)->(∀b o,b≠d->b≠it->s.heap.get? b=some o->h2.get? b=some o)->h2.IsListIter it l (i+1)->codeAny (model prog w) A (.builtin "dict.update.loop" #[[.ref d,.ref it,rawInt ((i:Int)+1),.none],[]]) R { s with heap:=h2,toks:=s.toks+1 }) :
  codeAny (model prog w) A (.builtin "dict.update.loop" #[[.ref d,.ref it,.int i tk,.none],[]]) R s:=by
 apply codeAny_builtin Yj ?_;rw[Around.under_plainId L1 _,U2];apply aO (wpAny_pyNext_list_item hit hl hi λh1 O5 OL=>?_);let#[ot,hot,Hh,nt,hdt]:=id ht;have GN:h1.get? a=some ot:=OL.extBut _ _ (YS ht hit) hot;apply aO (wpAny_holding (aO (wpAny_tryCatch ?_)));unfold Builtin.Dict.pairItems;apply aO (wpAny_typeOf (T:="tuple") #[ot,GN,Hh] ?_);rw[aA (by decide)];unfold seqItems?;apply aO (aO (wpAny_load GN ?_));rw[hdt];apply bV (bV ?_);apply (show wpAny _ _ (holding [key,x] (dictSet d key x)) _ _ _ from wpAny_holding (wpAny_dictSet_pairs hk (Yv hd λo q=>OL.extBut _ _ B8 q) (λh2 hd2 BO=>?_) (by have:=b_;omega)));exact bV #[plainId_quiet L1 _,hR h2 hd2 (λb o h3 h4 q=>BO.extBut _ _ h3 (OL.extBut _ _ h4 q)) (O5.extBut BO.extBut (Ne.symm B8))]
theorem kN_{kvs:List (K × Aa)}(B8:d≠it)(hh:A.handled=none)(hi:its.toArray[i]? = none)(hit:s.heap.IsListIter it l i)(hl:s.heap.IsList l its.toArray)(hd:s.heap.DictOf knd d kvs)(hR:∀h',h'.DictOf knd d kvs->(∀b o,b≠it->s.heap.get? b=some o->h'.get? b=some o)->R (.ok (.ret .none)) { s with heap:=h' }) :
  codeAny (model prog w) A (.builtin "dict.update.loop" #[[.ref d,.ref it,.int i tk,.none],[]]) R s:=by
 apply codeAny_builtin Yj ?_;rw[Around.under_plainId L1 _,U2];apply aO (wpAny_pyNext_list_end hh hit hl hi λh' he=>?_);exact aO (m:=Builtin.Dict.addKeywords d []) (bV (bV (hR h' (Yv hd λo q=>he _ _ B8 q) λb o hb q=>he b o hb q)))
theorem mp_(hil:l≠it)(B8:d≠it)(K1:d≠l)(hh:A.handled=none)(rest:ax):∀(ps:List (K × Aa)) (i:Nat) (kvs:List (K × Aa)) (s:Ab) (R:Result->Ab->Prop) (tk:Tok),its.drop i=rest->QK knd s.heap rest ps->
  s.heap.IsListIter it l i->s.heap.IsList l its.toArray->s.heap.DictOf knd d kvs->kvs.length+ps.length<=1000->
  (∀h' wC,h'.DictOf knd d (iL kvs ps)->(∀b o,b≠d->b≠it->s.heap.get? b=some o->h'.get? b=some o)->R (.ok (.ret .none)) { s with heap:=h',toks:=wC })->
  codeAny (model prog w) A (.builtin "dict.update.loop" #[[.ref d,.ref it,.int i tk,.none],[]]) R s:=by
 induction rest with
 |nil=>
  intro ps i kvs s R tk e hp hit hl hd hz hR;cases hp
  have hi:its.toArray[i]? = none:=by
   have:=d8 List.length e;simp only[List.length_drop,sL] at this;simp;omega
  exact kN_ B8 hh hi hit hl hd λh' iA kp=>hR h' s.toks iA λb o _ hb q=>kp b o hb q
 |cons v rest ih=>
  intro ps i kvs s R tk e hp hit hl hd hz hR;cases hp with
  |@cons _ p _ ps h0 hr=>
  let#[a,key,hv,ht,hk]:=h0;let#[k,x]:=p;subst hv
  have hi:its.toArray[i]? = some (.ref a):=by
   have q:(its.drop i)[0]? = some (.ref a):=by rw[e];rfl
   rw[List.getElem?_drop] at q;simpa using q
  have e':its.drop (i+1)=rest:=by
   rw[<- List.drop_drop,e];rfl
  simp only[iW] at hz;apply je_ B8 hi ht hk hit hl hd Z1 λh2 hd2 kp yB=>?_;have c1:((i:Int)+1)=((i+1:Nat):Int):=by omega
  rw[c1];apply ih ps (i+1) (stored kvs k x) _ R 0 e' (L2.Paired.bx hr λv p ⟨b,ky,e1,t1,k1⟩=>#[b,ky,e1,?_,k1]) yB (hl.at λo q=>kp _ _ (Ne.symm K1) hil q) hd2 (by have:=gt_ kvs k x;omega) λh' wC iA kp'=>hR h' wC iA λb o h3 h4 q=>kp' b o h3 h4 (kp b o h3 h4 q);let#[o,ho,r]:=id t1;exact#[o,kp _ _ (fz_ t1 hd) (YS t1 hit) ho,r]
theorem eJ_{n:Nat}{ps:List (K × Aa)}{Q:Aa->Ab->Prop}(hh:A.handled=none)(ho:s.heap.get? l=some (seqObj "list" its.toArray n))(hp:QK knd s.heap its ps)(hz:ps.length<=1000)(h:∀h' wC,h'.DictOf knd s.heap.objs.size (iL [] ps)->(∀b o,s.heap.get? b=some o->h'.get? b=some o)->Q (.ref s.heap.objs.size) { s with heap:=h',toks:=wC }) :
  wpAny (model prog w) A (call (.type "dict") [.ref l]) Q E s:=by
 apply callType_codes (Q₁:=λobj bf=>obj=.ref s.heap.objs.size/\bf={ s with heap:=s.heap.push { cls:=.type "dict",data:=.dict #[] } }) F.kt_called_dict (F.kt_typeCall_dict_1 _) F.entry_dict_init (kt_code_dict_new _ #[Z,Z]) ?_;rintro obj bf ⟨rfl,rfl⟩;have oG:(s.heap.push { cls:=.type "dict",data:=.dict #[] }).DictOf knd s.heap.objs.size []:=Heap.DictOf.new s.heap;have jR:(s.heap.push { cls:=.type "dict",data:=.dict #[] }).get? l=some (seqObj "list" its.toArray n):=cU _ ho;apply#[oG.typeIs,F.args_dict_init_2 _ _,?_];unfold Builtin.«dict.__init__» Builtin.Dict.selfAndRest;apply aO (aO (wpAny_notOrdered_dict oG.typeIs ?_));apply (show wpAny _ _ (pure (s.heap.objs.size,[Value.ref l])) _ _ _ from bV ?_);apply (show wpAny _ _ (Builtin.Dict.updateFrom "dict.__init__" s.heap.objs.size (.ref l) [] .none) _ _ _ from ?_);unfold Builtin.Dict.updateFrom;apply aO (wpAny_typeOf (T:="list") #[_,jR,Z] ?_);rw[aA (by decide)];apply aO (BE jR hh λh2 wB k2=>?_);simp only[Option.isNone_none,if_true];have oH:h2.get? l=some (seqObj "list" its.toArray n):=k2 _ _ jR;apply aO (wpAny_rule (aO (wpAny_pyIter_list #[_,oH,Z,_,Z] ?_)));apply bV #[plainId_quiet L1 _,?_];have all:∀{b o},s.heap.get? b=some o->(h2.push { cls:=.type "list_iterator",data:=.fields (List.toArray [.ref l,.int 0 0]) }).get? b=some o:=λq=>cU _ (k2 _ _ (cU _ q))
 have hd2:h2.DictOf knd s.heap.objs.size []:=by
  let#[o,es,ep,ho,r]:=oG;exact#[o,es,ep,k2 _ _ ho,r]
 have M3:s.heap.objs.size<h2.objs.size:=by
  let#[o,es,ep,ho,r]:=hd2;exact cQ ho
 have lz:l<s.heap.objs.size:=cQ ho
 apply mp_ (A:=A.in1) (knd:=knd) (its:=its) (it:=h2.objs.size) (l:=l) (d:=s.heap.objs.size) (eV (Nat.lt_trans lz M3)) (eV M3) (xm lz) hh its ps 0 [] _ _ 0 Z (L2.Paired.bx hp λv p ⟨b,ky,e1,t1,k1⟩=>#[b,ky,e1,t1.keeps λb o q=>all q,k1])
  #[_,fG _ Z,Z,Z] #[_,cU _ oH,Z,_,Z] (by
   let#[o,es,ep,ho,r]:=hd2;exact#[o,es,ep,cU _ ho,r]) (by simpa using hz) λh' wC iA kp=>#[Z,h h' wC iA λb o q=>?_]
 have bl:b<s.heap.objs.size:=cQ q;exact kp b o (eV bl) (eV (Nat.lt_trans bl M3)) (all q)
end
end MA
theorem zl{n:Nat}(h:decide (n<=16777216)=true:=by rfl):n<=PySem.sizeLine:=by
 rw[PySem.sizeLine_eq];exact jB h
namespace L2
open PySem PySem.Spec PyProof.Rows PySem.W Kf MA
variable{ys:ai}
theorem bg.same{K:af}{H H':Hp}{ks:List aM}(t:bg K H ys ks)(e:aa H H'):bg K H' ys ks:=Paired.bx t λy k ⟨a,z,q⟩=>#[a,z,e _ _ q]
theorem aa.new{H:Hp}{l:Addr}{o:HO}(h:H l=none):aa H (upd H l o):=λb u e=>by rw[au (bq e h)];exact e
section
variable{X:Cx}{pins:List (Addr × Obj)}{σ:St}{H H':Hp}{s:Ab}{h':Heap}{t':Nat}
theorem Inv.many(I:Inv X pins σ H s)(k:∀b o,s.heap.get? b=some o->h'.get? b=some o)(hold:aa H H')(oG:∀b,H b=none->b<s.heap.objs.size->H' b=none)
  (hob:∀b o,H' b=some o->H b=none->∃xs its,o=.tup xs/\xs.length<=sizeLine/\Vals xs its/\IsTup h' b its.toArray/\∃o,h'.get? b=some o/\o.dict=none):Inv X pins σ H' { s with heap:=h',toks:=t' }:=by
 apply I.un #[λb o q _ _ _=>k b o q,λb o q _ _ _=>#[o.slots,k b o q],λb o q n _=>oG b n (cQ q),λb o q _=>#[o,k b o q],λb xs q=>hold b _ q,λb o u q=>hold b _ q,λb ps q=>#[#[],by rw[Array.append_empty];exact hold b _ q]] λb o q=>?_;cases e:H b with
 |some u=>
  let e2:=hold b u e;rw[q] at e2;cases e2;exact (I.aN b o e).fe (λc v _ z=>k c v z) (λc z=>hold c _ z) λc xs z=>hold c _ z
 |none=>
  let#[xs,its,rfl,z,r,t]:=hob b o q e;exact#[z,its,r,t]
end
variable{R:ax->Ab->Prop}
section
variable{X:Cx}{pins:List (Addr × Obj)}{σ:St}{H:Hp}{s:Ab}{A:Ag}{E:Aa->Ab->Prop}
theorem Qw{p:Addr}(I:Inv X pins σ H s)(h:eG X.K H p ys)(hz:ys.length<=100000)(q:∀vs s1,Inv X pins σ H s1->Vals ys vs->R vs s1):wpAny (model X.prog X.w) A (collect (.ref p)) R E s:=by
 let#[its,r,pl,_]:=I.list h;let hl:=r.length;apply collect_list pl.isList (q its _ ?_ r) (by have:=b_;omega);apply I.kept (t':=s.toks) λb u e=>?_;have lt:b<s.heap.objs.size:=cQ e;rw[Heap.get?_update_ne _ _ _ _ (eV lt)];exact cU _ e
theorem R7{P:Nat->Aa->Prop}{acc:Array Aa}(h:ItemsOf P acc ys.length)(hp:∀(j:Nat) v,P j v->∀y,ys[j]? = some y->RelV y v):Vals ys acc.toList:=by
 have gen:∀(ys:ai) (vs:ax),ys.length=vs.length->(∀(j:Nat) y v,ys[j]? = some y->vs[j]? = some v->RelV y v)->Vals ys vs:=λys=>by
  induction ys with
  |nil=>
   intro vs hl _;cases vs with
   |nil=>exact .nil
   |cons _ _=>cases hl
  |cons y ys ih=>
   intro vs hl h;cases vs with
   |nil=>cases hl
   |cons v vs=>exact .cons (h 0 y v Z Z) (ih vs (by simpa using hl) λj y v a b=>h (j+1) y v (by simpa using a) (by simpa using b))
 apply gen ys acc.toList (by rw[sN];exact h.1.symm) λj y v a b=>hp j v (h.2 j v ?_) y a;rw[<- Array.getElem?_toList];exact b
theorem Vg{d:Addr}{kvs:List (Key × V)}(I:Inv X pins σ H s)(h:Rd H d (.dK kvs)):∃(P:Nat->Aa->Prop) (OK:Heap->Prop),KdlSrc X.prog X.w "dict" d d (kvs.map λkv=>kV kv.1).length P OK/\OK s.heap/\∀(j:Nat) v,P j v->∀y,(kvs.map λkv=>kV kv.1)[j]? = some y->RelV y v:=by
 let#[z,hd,vs,rel,dd]:=qp I.aN h;let#[ep,dat]:=dd.dictAt;let hl:=rel.length;apply#[λi v=>∃k x,vs[i]? = some (k,x)/\(fu X.prog X.w).is k v=true,λh=>h.DictAt (fu X.prog X.w) d vs ep,(by rw[ao,hl];exact kdl_dict (knd:=fu X.prog X.w) (kvs:=vs) (ep:=ep) hd),dat,λj v ⟨k,x,e,hk⟩ y hy=>?_];rw[dW] at hy;have ek:kvs.map (·.1)=vs.map (·.1):=rel.keys;have e2:(kvs.map (·.1))[j]? = (vs.map (·.1))[j]?:=by rw[ek]
 rw[dW,dW,e] at e2;cases e3:kvs[j]? with
 |none=>rw[e3] at e2;cases e2
 |some kv=>
  rw[e3] at e2 hy;have e4:kv.1=k:=eK e2;have e5:kV kv.1=y:=eK hy;rw[<- e5,e4];have hk:yM k v=true:=hk;rcases sM hk with⟨i,t,rfl,rfl⟩|⟨x,t,rfl,rfl⟩
  ·exact#[t,Z]
  ·exact#[t,Z]
theorem Vn{d:Addr}{kvs:List (Key × V)}(hh:A.handled=none)(I:Inv X pins σ H s)(h:Rd H d (.dK kvs))(q:∀vs s1,Inv X pins σ H s1->Vals (kvs.map λkv=>kV kv.1) vs->R vs s1):wpAny (model X.prog X.w) A (collect (.ref d)) R E s:=by
 let#[P,OK,S,ok,hp]:=Vg I h;apply kdu_collect S hh ok ?_ λh' tk acc k a=>q _ _ (I.kept k) (R7 a hp);rw[ao];exact (qp I.aN h).1
theorem lU_{d:Addr}{kvs:List (aM × V)}(I:Inv X pins σ H s)(h:Rd H d (.dT kvs)):∃(ys:ai) (P:Nat->Aa->Prop) (OK:Heap->Prop),bg X.K H ys (kvs.map (·.1))/\ys.length<=sizeLine/\KdlSrc X.prog X.w "dict" d d ys.length P OK/\OK s.heap/\∀(j:Nat) v,P j v->∀y,ys[j]? = some y->RelV y v:=by
 let#[z,hd,xs,rel,o,es,ep,ho,hc,yC,B7,nd]:=h.ok I.aN
 have l1:es.size=xs.length:=by
  have:=d8 List.length B7;simpa using this
 let l2:=bK rel;apply#[xs.map λx=>V.ref x.2.1,λi v=>∃h:i<es.size,v=es[i].key,λh=>Raw h d es ep,?_,by rw[ao];omega,(by rw[ao,<- l1];exact kY_ (es:=es) (ep:=ep) hd),#[o,ho,hc,yC],λj v ⟨hj,e⟩ y hy=>?_]
 ·have gen:∀{kvs:List (aM × V)} {xs:List (aM × Addr × Aa)},KT H kvs xs->bg X.K H (xs.map λx=>V.ref x.2.1) (kvs.map (·.1)):=λ{kvs xs} r=>by
   induction r with
   |nil=>exact .nil
   |cons h _ ih=>exact .cons #[_,Z,h.2.1] ih
  exact gen rel
 ·rw[dW] at hy;have hx:j<xs.length:=by omega
  rw[dG hx] at hy;have e1:V.ref xs[j].2.1=y:=eK hy
  have e2:es[j]=entryOfKey (tupleKind (fu X.prog X.w)) xs[j]:=by
   have e3:es.toList[j]? = (xs.map (entryOfKey (tupleKind (fu X.prog X.w))))[j]?:=by rw[B7]
   rw[dW,dG hx,Array.getElem?_toList,Array.getElem?_eq_getElem hj] at e3;exact eK e3
  rw[<- e1,e,e2];rfl
theorem mm_{d:Addr}{kvs:List (aM × V)}(hh:A.handled=none)(I:Inv X pins σ H s)(h:Rd H d (.dT kvs))(q:∀ys vs s1,Inv X pins σ H s1->Vals ys vs->bg X.K H ys (kvs.map (·.1))->R vs s1):wpAny (model X.prog X.w) A (collect (.ref d)) R E s:=by
 let#[ys,P,OK,t,z,S,ok,hp]:=lU_ I h;exact kdu_collect S hh ok z λh' tk acc k a=>q ys _ _ (I.kept k) (R7 a hp) t
def vQ(v d:Addr):HO:=.ext λh=>h.IsItemsView v d
def vO(v d:Addr):HO:=.ext λh=>h.IsValuesView v d
def jz(K:af)(H:Hp):ai->List (Key × V)->Prop:=Paired λy p=>∃a,y=V.ref a/\H a=some (.tup [kV p.1,p.2])
theorem hv_{v d:Addr}{kvs:List (Key × V)}(hh:A.handled=none)(I:Inv X pins σ H s)(hv:H v=some (vQ v d))(h:Rd H d (.dK kvs))(q:∀H1 ys vs s1,Inv X pins σ H1 s1->aa H H1->Vals ys vs->jz X.K H1 ys kvs->R vs s1) :
  wpAny (model X.prog X.w) A (collect (.ref v)) R E s:=by
 let#[z,hd,vs,rel,dd]:=qp I.aN h;let#[ep,dat]:=dd.dictAt;let#[iv,_,_]:=I.aN v _ hv;let hl:=rel.length;apply kdx_collect (knd:=fu X.prog X.w) (kvs:=vs) (ep:=ep) hh iv dat Z1 λh' tk as k la G=>?_;have up:∀b,b∈as->s.heap.objs.size<b:=G.above
 have Mt:∀(j:Nat) b p,as[j]? = some b->kvs[j]? = some p->∃its,Vals [kV p.1,p.2] its/\IsTup h' b its.toArray/\∃o,h'.get? b=some o/\o.dict=none:=λj b p hj hp=>by
  let#[key,kk,x,e1,e2,e3]:=G.pairs j b hj
  have gen:∀{kvs:List (Key × V)} {vs:List (Key × Aa)},KV kvs vs->∀(j:Nat),vs[j]? = some (kk,x)->kvs[j]? = some p->p.1=kk/\RelV p.2 x:=λ{kvs vs} r=>by
   induction r with
   |nil=>intro j e;simp at e
   |@cons p' q _ _ h _ ih=>
    intro j e e';cases j with
    |zero=>
     have e:q=(kk,x):=by simpa using e
     have e':p'=p:=by simpa using e'
     subst e';rw[e] at h;exact h
    |succ j=>exact ih j (by simpa using e) (by simpa using e')
  let#[g1,g2]:=gen rel j e1 hp;apply#[[key,x],.cons ?_ (.cons g2 .nil),#[_,e3,Z,_,Z],_,e3,Z];rw[g1];have e2:yM kk key=true:=e2;rcases sM e2 with⟨i,t,rfl,rfl⟩|⟨x,t,rfl,rfl⟩
  ·exact#[t,Z]
  ·exact#[t,Z]
 have look:∀{as:ay} {kvs:List (Key × V)},as.Pairwise (· < ·)->∀(j:Nat) b p,as[j]? = some b->kvs[j]? = some p->(as.zip kvs).lookup b=some p:=λ{as}=>by
  induction as with
  |nil=>intro kvs _ j b p e;simp at e
  |cons a as ih=>
   intro kvs pw j b p e e';cases kvs with
   |nil=>simp at e'
   |cons q kvs=>
    let#[p1,p2]:=vY.mp pw;show ((a,q)::as.zip kvs).lookup b=some p;cases j with
    |zero=>
     have e:a=b:=by simpa using e
     have e':q=p:=by simpa using e'
     subst e;subst e';rw[List.lookup_cons_self]
    |succ j=>
     have e:as[j]? = some b:=by simpa using e
     have e':kvs[j]? = some p:=by simpa using e'
     let lt:=p1 b (cw e);rw[vW,show (b == a)=false by simp only[beq_eq_false_iff_ne];exact xm lt];exact ih p2 j b p e e'
 have lk:as.length=kvs.length:=by omega
 let H1:Hp:=λb=>if b∈as then ((as.zip kvs).lookup b).map λp=>HO.tup [kV p.1,p.2] else H b
 have Hn:∀(j:Nat) b p,as[j]? = some b->kvs[j]? = some p->H1 b=some (.tup [kV p.1,p.2]):=λj b p e e'=>by
  show (if b∈as then _ else _)=_;rw[aA (cw e),look G.rise j b p e e'];rfl
 have ql:∀b,b∉as->H1 b=H b:=λb hb=>aq hb;have old:∀b,b<s.heap.objs.size->b∉as:=λb hb m=>absurd (up b m) Z1;apply q H1 (as.map V.ref) _ _ (I.many (t':=tk) k (λb o e=>by rw[ql b (old b (I.aN.lt e))];exact e) (λb e hb=>by rw[ql b (old b hb)];exact e) λb o e e0=>?_) (λb o e=>by rw[ql b (old b (I.aN.lt e))];exact e) ?_ ?_
 ·by_cases m:b∈as
  ·let#[j,hj]:=List.mem_iff_getElem?.mp m
   have jl:j<kvs.length:=by
    have:=(cy.mp hj).1;omega
   let e':=Hn j b kvs[j] hj (dG jl);rw[e] at e';cases e';let#[its,r,t]:=Mt j b _ hj (dG jl);exact#[_,its,Z,zl,r,t]
  ·rw[ql b m,e0] at e;cases e
 ·have gen:∀as:ay,Vals (as.map V.ref) (as.map Value.ref):=λas=>by
   induction as with
   |nil=>exact .nil
   |cons a as ih=>exact .cons Z ih
  exact gen as
 ·have gen:∀(iu:ay) (fZ:List (Key × V)),iu.length=fZ.length->(∀(j:Nat) b p,iu[j]? = some b->fZ[j]? = some p->H1 b=some (.tup [kV p.1,p.2]))->jz X.K H1 (iu.map V.ref) fZ:=λiu=>by
   induction iu with
   |nil=>
    intro fZ hl _;cases fZ with
    |nil=>exact .nil
    |cons _ _=>cases hl
   |cons a iu ih=>
    intro fZ hl h;cases fZ with
    |nil=>cases hl
    |cons p fZ=>exact .cons #[a,Z,h 0 a p Z Z] (ih fZ (by simpa using hl) λj b p e e'=>h (j+1) b p (by simpa using e) (by simpa using e'))
  exact gen as kvs lk Hn
end
theorem WV{a b:ae}(h:a.map c_=b.map c_):a=b:=by
 induction a generalizing b with
 |nil=>
  cases b with
  |nil=>rfl
  |cons _ _=>cases h
 |cons x a ih=>
  cases b with
  |nil=>cases h
  |cons y b=>
   let#[h1,h2]:=mB h;have h1:[(Sum.inr x:Key)]=[Sum.inr y]:=h1;cases h1;rw[ih h2]
theorem Sz(ss:ae):(aV ss).map c_=aU (ss.map c_):=by
 have all:∀k∈aU (ss.map c_),∃x,k=c_ x:=λk hk=>by
  let#[x,_,e]:=bj.mp ((mK _).mem_iff.mp hk);exact#[x,e.symm]
 have gen:∀l:List aM,(∀k∈l,∃x,k=c_ x)->(l.map λk=>match k with | [.inr x]=>x|_=>(⟨#[]⟩:Str)).map c_=l:=λl=>by
  induction l with
  |nil=>exact λ_=>rfl
  |cons k l ih=>
   intro h;let#[x,rfl]:=h k cZ;rw[eL,eL,ih λk hk=>h k (dI _ hk)];rfl
 exact gen _ all
theorem gq(ss:ae):(aV ss).Perm ss:=by
 have p:((aV ss).map c_).Perm (ss.map c_):=by rw[Sz];exact mK _
 have back:∀l:ae,(l.map c_).map (λk=>match k with | [.inr x]=>x|_=>(⟨#[]⟩:Str))=l:=λl=>by
  rw[cm]
  induction l with
  |nil=>rfl
  |cons x l ih=>rw[eL,ih];rfl
 let q:=p.map (λk=>match k with | [.inr x]=>x|_=>(⟨#[]⟩:Str));rwa [back,back] at q
variable{u:Aa}
section
variable{X:Cx}{pins:List (Addr × Obj)}{σ:St}{H:Hp}{s:Ab}
theorem Zm{ss:ae}{Q:VK}(dk:ss.length<64)(oM:wpAny (model X.prog X.w) X.A.in1 (collect u) (λvs s1=>∃H1,Inv X pins σ H1 s1/\Vals (ss.map V.str) vs/\∀l,H1 l=none->Q (.ref l) (upd H1 l (.lst ((aV ss).map V.str)))) X.xe s) :
  wpAny (model X.prog X.w) X.A (call (.builtin "sorted") [u]) (EP X pins σ Q) X.xe s:=by
 apply Y5 (Qz (ss.map c_)) (a_ oM λvs s1 ⟨H1,I1,r,q⟩=>?_);have hl:vs.length=ss.length:=by rw[<- r.length,ao]
 apply#[by omega,λh2 h' _=>hu_ (WK r) h2,λp h' e g up hD kp=>?_];have g':Good (ss.map c_).length p:=by rw[ao,<- hl];exact g
 let asc:=P_ (ks:=ss.map c_) (λi j _ _=>rfl) g' (by rw[ao,<- hl];exact up)
 have perm:(p.toList.map λi=>(ss.map c_).getD i []).Perm (ss.map c_):=by
  have:=IM g' λi=>(ss.map c_).getD i [];rwa [IS] at this
 let es:=LR perm asc
 have inr:∀i∈p.toList,i<ss.length:=λi hi=>by
  have m:i∈(List.range vs.length).toArray:=g.mem_iff.mp (by simpa using hi);rw[hl] at m;simpa using m
 have e1:(p.toList.map λi=>ss.getD i ⟨#[]⟩)=aV ss:=by
  apply WV ?_;rw[Sz,<- es,cm];apply rV λi hi=>?_;have:=inr i hi;simp[this]
 let rv:=RG r g
 have e2:(p.toList.map λi=>(ss.map V.str).getD i .non)=(aV ss).map V.str:=by
  rw[<- e1,cm];apply rV λi hi=>?_;have:=inr i hi;simp[this]
 rw[e2] at rv;apply#[.ref s1.heap.objs.size,_,I1.laid (t':=s1.toks) kp (bp _) (show gm X.prog X.w _ h' _ (.lst ((aV ss).map V.str)) from #[?_,oR p vs,e,rv,hD]),Z,q _ (I1.aN.fresh (bp _))];rw[ao,(gq ss).length_eq];have:=b_;omega
theorem jx_{K:af}{H:Hp}{ks:List aM}(t:bg K H ys ks):∀l:List Nat,(∀i∈l,i<ys.length)->bg K H (l.map λi=>ys.getD i .non) (l.map λi=>ks.getD i []):=λl=>by
 induction l with
 |nil=>exact λ_=>.nil
 |cons i l ih=>
  intro h;apply .cons ?_ (ih λj hj=>h j (dI _ hj));let hi:=h i cZ
  have gen:∀{ys:ai} {ks:List aM} (i:Nat),i<ys.length->bg K H ys ks->∃a,ys.getD i .non=V.ref a/\H a=some (.tup ((ks.getD i []).map kV)):=λ{ys ks} i hy t=>by
   induction t generalizing i with
   |nil=>exact absurd hy Z2
   |cons h t ih=>
    cases i with
    |zero=>exact h
    |succ i=>exact ih i (by simpa using hy)
  exact gen i hi t
theorem S5{ks:List aM}{sh:List Bool}{Q:VK}(dk:ks.length<64)(al:Au ks sh)(oM:wpAny (model X.prog X.w) X.A.in1 (collect u) (λvs s1=>∃H1 ys,Inv X pins σ H1 s1/\Vals ys vs/\bg X.K H1 ys ks/\∀l zs,H1 l=none->bg X.K H1 zs (aU ks)->zs.Perm ys->Q (.ref l) (upd H1 l (.lst zs))) X.xe s) :
  wpAny (model X.prog X.w) X.A (call (.builtin "sorted") [u]) (EP X pins σ Q) X.xe s:=by
 apply Y5 (Qz ks) (a_ oM λvs s1 ⟨H1,ys,I1,r,t,q⟩=>?_);let l1:=r.length;let l2:=bK t;have hl:vs.length=ks.length:=by omega
 apply#[by omega,λh2 h' k=>XW I1 r t al h2 k,λp h' e g up hD kp=>?_];have g':Good ks.length p:=by rw[<- hl];exact g
 let asc:=P_ (ks:=ks) (λi j _ _=>rfl) g' (by rw[<- hl];exact up)
 have perm:(p.toList.map λi=>ks.getD i []).Perm ks:=by
  have:=IM g' λi=>ks.getD i [];rwa [IS] at this
 let es:=LR perm asc
 have inr:∀i∈p.toList,i<ys.length:=λi hi=>by
  have m:i∈(List.range vs.length).toArray:=g.mem_iff.mp (by simpa using hi);rw[<- l1] at m;simpa using m
 let tz:=jx_ t p.toList inr;rw[es] at tz;let rv:=RG r g
 have pz:(p.toList.map λi=>ys.getD i .non).Perm ys:=by
  have:=IM (n:=ys.length) (by rw[l1];exact g) λi=>ys.getD i .non;rwa [IS] at this
 apply#[.ref s1.heap.objs.size,_,I1.laid (t':=s1.toks) kp (bp _) (show gm X.prog X.w _ h' _ (.lst (p.toList.map λi=>ys.getD i .non)) from #[?_,oR p vs,e,rv,hD]),Z,q _ _ (I1.aN.fresh (bp _)) tz pz];rw[pz.length_eq];have:=b_;omega
end
inductive uI (K:af) (xs:ai) (H:Hp) (Q:VK):Prop
 |mk:∀p ss,xs=[.ref p]->eG K H p (ss.map V.str)->ss.length<64->(∀l,H l=none->Q (.ref l) (upd H l (.lst ((aV ss).map V.str))))->uI K xs H Q
variable{X:Cx}
theorem SO:gY X (.builtin "sorted") (uI X.K):=by
 intro pins s σ H xs us Q I r h;let#[p,ss,rfl,hp,dk,q]:=h;let#[u,rfl,ru]:=vals1 r;cases ru;exact Zm dk (Qw I hp (by rw[ao];omega) λvs s1 I1 r1=>⟨H,I1,r1,q⟩)
inductive uH (K:af) (xs:ai) (H:Hp) (Q:VK):Prop
 |mk:∀p ys ks sh,xs=[.ref p]->eG K H p ys->bg K H ys ks->Au ks sh->ks.length<64->(∀l zs,H l=none->bg K H zs (aU ks)->zs.Perm ys->Q (.ref l) (upd H l (.lst zs)))->uH K xs H Q
theorem gz_:gY X (.builtin "sorted") (uH X.K):=by
 intro pins s σ H xs us Q I r h;let#[p,ys,ks,sh,rfl,hp,t,al,dk,q]:=h;let#[u,rfl,ru]:=vals1 r;cases ru;let l:=bK t;exact S5 dk al (Qw I hp Z1 λvs s1 I1 r1=>⟨H,ys,I1,r1,t,q⟩)
inductive pW (K:af) (xs:ai) (H:Hp) (Q:VK):Prop
 |mk:∀d kvs sh,xs=[.ref d]->H d=some (.dT kvs)->Au (kvs.map (·.1)) sh->kvs.length<64->(∀l zs,H l=none->bg K H zs (aU (kvs.map (·.1)))->Q (.ref l) (upd H l (.lst zs)))->pW K xs H Q
theorem fn_(hc:X.calm=true):gY X (.builtin "sorted") (pW X.K):=by
 intro pins s σ H xs us Q I r h;let#[d,kvs,sh,rfl,hd,al,dk,q]:=h;let#[u,rfl,ru]:=vals1 r;cases ru;exact S5 (by rw[ao];exact dk) al (mm_ (I.ok.hd hc) I (.inl hd) λys vs s1 I1 r1 t=>⟨H,ys,I1,r1,t,λl zs n t' _=>q l zs n t'⟩)
inductive pX (xs:ai) (H:Hp) (Q:VK):Prop
 |mk:∀d kvs ss,xs=[.ref d]->H d=some (.dK kvs)->kvs.map (·.1)=ss.map Sum.inr->ss.length<64->(∀l,H l=none->Q (.ref l) (upd H l (.lst ((aV ss).map V.str))))->pX xs H Q
theorem YU(hc:X.calm=true):gY X (.builtin "sorted") pX:=by
 intro pins s σ H xs us Q I r h;let#[d,kvs,ss,rfl,hd,ek,dk,q]:=h;let#[u,rfl,ru]:=vals1 r;cases ru;apply Zm dk (Vn (I.ok.hd hc) I (.inl hd) λvs s1 I1 r1=>⟨H,I1,?_,q⟩)
 have e:(kvs.map λkv=>kV kv.1)=ss.map V.str:=by
  rw[show (kvs.map λkv=>kV kv.1)=(kvs.map (·.1)).map kV by rw[cm];rfl,ek,cm];rfl
 rwa [e] at r1
inductive uJ (K:af) (xs:ai) (H:Hp) (Q:VK):Prop
 |mk:∀(v d:Addr) (kvs:List (Key × V)) (ks:List (Key × Key)) (sh:List Bool),xs=[.ref v]->H v=some (vQ v d)->H d=some (.dK kvs)->kvs=ks.map (λk:Key × Key=>(k.1,kV k.2))->Au (ks.map λk=>[k.1,k.2]) sh->ks.length<64->(∀l H1 zs,aa H H1->H1 l=none->bg K H1 zs (aU (ks.map λk=>[k.1,k.2]))->Q (.ref l) (upd H1 l (.lst zs)))->uJ K xs H Q
theorem go_(hc:X.calm=true):gY X (.builtin "sorted") (uJ X.K):=by
 intro pins s σ H xs us Q I r h;let#[v,d,kvs,ks,sh,rfl,hv,hd,ek,al,dk,q]:=h;let#[u,rfl,ru]:=vals1 r;cases ru;apply S5 (by rw[ao];exact dk) al (hv_ (I.ok.hd hc) I hv (.inl hd) λH1 ys vs s1 I1 sm r1 t=>⟨H1,ys,I1,r1,?_,λl zs n t' _=>q l H1 zs sm n t'⟩);subst ek
 have gen:∀(ks:List (Key × Key)) (ys:ai),jz X.K H1 ys (ks.map (λk:Key × Key=>(k.1,kV k.2)))->bg X.K H1 ys (ks.map λk=>[k.1,k.2]):=λks=>by
  induction ks with
  |nil=>
   intro ys t;cases t;exact .nil
  |cons k ks ih=>
   intro ys t;cases t with
   |cons h t=>exact .cons h (ih _ t)
 exact gen ks ys t
inductive uL (xs:ai) (H:Hp) (Q:VK):Prop
 |mk:∀d kvs,xs=[.ref d]->Rd H d (.dK kvs)->(∀l,H l=none->Q (.ref l) (upd H l (.lst (kvs.map λkv=>kV kv.1))))->uL xs H Q
theorem SE(hc:X.calm=true):gY X (.type "list") uL:=by
 intro pins s σ H xs us Q I r h;let#[d,kvs,rfl,hd,q]:=h;let#[u,rfl,ru]:=vals1 r;cases ru;let#[P,OK,S,ok,hp]:=Vg I hd;let z:=(qp I.aN hd).1;apply kdl_call S (I.ok.hd hc) ok (by rw[ao];exact z) λh' tk acc c k hD a=>?_;apply#[.ref s.heap.objs.size,_,I.laid (t':=tk) k (bp _) (show gm X.prog X.w _ h' _ (.lst (kvs.map λkv=>kV kv.1)) from #[by rw[ao];exact z,acc.toList,c,R7 a hp,by rw[Array.toArray_toList];exact hD]),Z,q _ I.fresh]
theorem KV.iL{κ:Type}[DecidableEq κ]:∀{more:List (κ × V)} {rs:List (κ × Aa)} {kvs:List (κ × V)} {vs:List (κ × Aa)},KV more rs->KV kvs vs->KV (more.foldl (λacc kv=>putK acc kv.1 kv.2) kvs) (MA.iL vs rs):=λ{more rs kvs vs} h=>by
 induction h generalizing kvs vs with
 |nil=>exact λh=>h
 |@cons p q _ _ h _ ih=>
  intro h2;let#[k,y]:=p;let#[k',u]:=q;let#[h1,h3]:=h;have h1:k=k':=h1;subst h1;exact ih (h2.put k h3)
inductive p6 (K:af) (xs:ai) (H:Hp) (Q:VK):Prop
 |mk:∀p ys kvs,xs=[.ref p]->H p=some (.lst ys)->jz K H ys kvs->kvs.length<=1000->(∀l,H l=none->Q (.ref l) (upd H l (.dK (oW [] kvs))))->p6 K xs H Q
theorem vX(hc:X.calm=true):gY X (.type "dict") (p6 X.K):=by
 intro pins s σ H xs us Q I r h;let#[p,ys,kvs,rfl,hp,t,hz,q]:=h;let#[u,rfl,ru]:=vals1 r;cases ru;let#[z,its,n,rv,hl,ho]:=I.jN hp
 have gen:∀{ys:ai} {its:ax} {kvs:List (Key × V)},Vals ys its->jz X.K H ys kvs->∃ps,KV kvs ps/\QK (fu X.prog X.w) s.heap its ps:=λ{ys its kvs} rv t=>by
  induction t generalizing its with
  |nil=>
   cases rv;exact#[[],.nil,.nil]
  |@cons y p ys kvs h t ih=>
   cases rv with
   |cons r0 rv=>
    let#[ps,h1,h2]:=ih rv;let#[a,e,sq]:=h;subst e;cases r0;let#[tv,rt,it,_]:=I.tuple (iZ.of sq);let#[key,x,e2,rk,rx]:=vals2 rt;subst e2;apply#[(p.1,x)::ps,Paired.cons (show p.1=p.1/\RelV p.2 x from #[Z,rx]) h1,Paired.cons (show ∃a' Gp,Value.ref a=.ref a'/\IsTup s.heap a' (List.toArray [Gp,x])/\(fu X.prog X.w).is p.1 Gp=true from #[a,key,Z,it,yI rk]) h2]
 let#[ps,h1,h2]:=gen rv t;let lp:=KV.length h1;apply eJ_ (knd:=fu X.prog X.w) (I.ok.hd hc) ho h2 Z1 λh' tk hd kp=>?_;apply#[.ref s.heap.objs.size,_,I.laid (t':=tk) kp (bp _) (HR ?_ (beq_eq_false_iff_ne.mpr (Ne.symm (eV I.big))) (KV.iL h1 .nil) hd),Z,q _ I.fresh];have:=S_ kvs [];have:=b_;simp only[sL] at *;show (oW [] kvs).length<=sizeLine;omega
theorem Qt:∀{bs:List Bool} {vs:ax},Vals (bs.map V.bl) vs->vs=bs.map Value.bool
 |[],_,.nil=>rfl
 |b::bs,_,.cons h t=>by
  cases h;rw[Qt t];rfl
inductive BB (K:af) (g:List Bool->Bool) (xs:ai) (H:Hp) (Q:VK):Prop
 |mk:∀p bs,xs=[.ref p]->eG K H p (bs.map V.bl)->Q (.bl (g bs)) H->BB K g xs H Q
theorem iR_(hc:X.calm=true):gY X (.builtin "all") (BB X.K λbs=>bs.all id):=by
 intro pins s σ H xs us Q I r h;let#[p,bs,rfl,hp,q]:=h;let#[u,rfl,ru]:=vals1 r;cases ru;let#[its,rv,pl,z]:=I.list hp;obtain rfl:=Qt rv;let hl:=pl.isList;have lt:p<s.heap.objs.size:=by let#[_,e,_]:=hl;exact cQ e
 apply call_all_walk (wpAny_pyIter_list hl ⟨s.heap.objs.size,[s.heap.objs.size,p],[s.heap.objs.size],(bs.map Value.bool).toArray.size,_,_,λi=>(bs[i]?).getD true,rfl,Walks.list (A:=X.A.in1) (I.ok.hd hc) _ p (eV lt) _,⟨⟨_,fG _ rfl,rfl,rfl⟩,hl.push _⟩,λi v s' Q' E' hP hQ=>?_,λh' tk hk=>?_⟩)
 ·have hP:(bs.map Value.bool).toArray[i]? = some v:=hP;simp only[List.getElem?_toArray,dW] at hP;cases e:bs[i]? with
  |none=>rw[e] at hP;cases hP
  |some b=>
   have hQ:Q' ((bs[i]?).getD true) s':=hQ;rw[e] at hP hQ;cases hP;exact vH hQ
 ·have e:((List.range (bs.map Value.bool).toArray.size).all λi=>(bs[i]?).getD true)=bs.all id:=by
   rw[dQ,ao];exact LSm.range_all bs
  rw[e];exact#[.bl _,H,I.kept (LSm.kept_iter hk),Z,q]
theorem Xw(hc:X.calm=true):gY X (.builtin "any") (BB X.K λbs=>bs.any id):=by
 intro pins s σ H xs us Q I r h;let#[p,bs,rfl,hp,q]:=h;let#[u,rfl,ru]:=vals1 r;cases ru;let#[its,rv,pl,z]:=I.list hp;obtain rfl:=Qt rv;let hl:=pl.isList;have lt:p<s.heap.objs.size:=by let#[_,e,_]:=hl;exact cQ e
 apply call_any_walk (wpAny_pyIter_list hl #[s.heap.objs.size,[s.heap.objs.size,p],[s.heap.objs.size],(bs.map Value.bool).toArray.size,_,_,λi=>(bs[i]?).getD false,Z,Walks.list (A:=X.A.in1) (I.ok.hd hc) _ p (eV lt) _,#[#[_,fG _ Z,Z,Z],hl.push _],λi v s' Q' E' hP hQ=>?_,λh' tk hk=>?_])
 ·have hP:(bs.map Value.bool).toArray[i]? = some v:=hP;simp only[List.getElem?_toArray,dW] at hP;cases e:bs[i]? with
  |none=>rw[e] at hP;cases hP
  |some b=>
   have hQ:Q' ((bs[i]?).getD false) s':=hQ;rw[e] at hP hQ;cases hP;exact vH hQ
 ·have e:((List.range (bs.map Value.bool).toArray.size).any λi=>(bs[i]?).getD false)=bs.any id:=by
   rw[dQ,ao];exact LSm.range_any bs
  rw[e];exact#[.bl _,H,I.kept (LSm.kept_iter hk),Z,q]
theorem WX:∀{ns:List Int} {vs:ax},Vals (ns.map V.int) vs->IntsAre vs ns
 |[],_,.nil=>.nil
 |n::ns,_,.cons h t=>by
  let#[tk,rfl]:=h;exact .cons _ _ (WX t)
inductive FJ (K:af) (xs:ai) (H:Hp) (Q:VK):Prop
 |mk:∀(p:Addr) (ns:List Int),xs=[.ref p]->eG K H p (ns.map V.int)->0<ns.length->(∀m,m∈ns->(∀a∈ns,a<=m)->Q (.int m) H)->FJ K xs H Q
theorem XQ(hc:X.calm=true):gY X (.builtin "max") (FJ X.K):=by
 intro pins s σ H xs us Q I r h;let#[p,ns,rfl,hp,hn,q]:=h;let#[u,rfl,ru]:=vals1 r;cases ru;let#[its,rv,pl,z]:=I.list hp;let hi:=WX rv;let#[xs,e]:=hi.allInts.items;let hl:=pl.isList;have BW:ns=xs.toList.map (·.1):=by rw[<- hi.numsOf,<- nums_intItems,<- e]
 have hsz:0<xs.size:=by
  let h3:=hn;rw[BW] at h3;simpa using h3
 rw[e] at hl;apply max_intList (I.ok.hd hc) hl hsz λv h' tk hv hk=>?_;let#[t,rfl]:=intItems_at hv;let#[h1,h2]:=argBest_gt (numAt xs) (xs.size - 1);apply#[.int _,H,I.kept hk,#[t,Z],q _ ?_ λa ha=>?_]
 ·rw[BW,numAt_eq];exact getD_mem (by rw[ao,sN];omega)
 ·rw[BW] at ha;let#[j,hj,rfl]:=mem_getD ha;rw[ao,sN] at hj;rw[<- numAt_eq];exact h2 j Z1
end L2
namespace Mz
open PySem PySem.SeqAt PyProof.Rows
open AutoSeq1 (wpAny_loadPart')
open MeetsSeq MeetsSeq2 MeetsSeq3 SeqRoads2
theorem mr_(l b:Addr)(xs ys:Array Aa)(n m:Nat)(dl db:Option Addr)(sl sb:Array (Option Aa))(hs:xs.size=ys.size)(e:Nat->Bool)(k:Nat) :
  ∀i:Nat,xs.size - i=k->Meets (Builtin.«list.__eq__.loop» #[[.ref l,.ref b,rawInt i,rawInt 3],[]])
   (λA R s=>(s.heap.get? l=some { cls:=.type "list",dict:=dl,data:=.seq xs n,slots:=sl }/\s.heap.get? b=some { cls:=.type "list",dict:=db,data:=.seq ys m,slots:=sb }) /\
    (∀j (h1:j<xs.size) (h2:j<ys.size),EqAt A.in1 s xs[j] ys[j] (e j))/\R (.ok (.ret (.bool (!((List.range xs.size).drop i).all e)))) s):=by
 induction k with
 |zero=>
  intro i hk prog w A R s ⟨⟨gl,gb⟩,he,h⟩;let#[hp,g,d,tk,os]:=s
  wp_walk using sE gl,sE gb
  rw[show xs[((i:Nat):Int).toNat]? = none by simp;omega,show ys[((i:Nat):Int).toNat]? = none by simp;omega];rw[show (List.range xs.size).drop i=[] by simp;omega] at h
  wp_walk using sE gl,sE gb
  apply (show R (.ok (.ret (.bool (xs.size != ys.size)))) _ from ?_);rw[show (xs.size != ys.size)=false by simp[hs]];exact h
 |succ k ih=>
  intro i hk prog w A R s ⟨⟨gl,gb⟩,he,h⟩;let#[hp,g,d,tk,os]:=s
  wp_walk using sE gl,sE gb
  have z1:i<xs.size:=by omega
  have z2:i<ys.size:=by omega
  have q1:xs[((i:Nat):Int).toNat]? = some xs[i]:=by simp[z1]
  have q2:ys[((i:Nat):Int).toNat]? = some ys[i]:=by simp[z2]
  rw[show (List.range xs.size).drop i=i::(List.range xs.size).drop (i+1) by simp[List.drop_eq_getElem_cons,z1],List.all_cons] at h;rw[q1,q2];apply aO (he i z1 z2 prog w _ _ ?_);cases c:e i with
  |true=>
   rw[c] at h
   wp_walk
   rw[show ((i:Int)+1)=((i+1:Nat):Int) by omega];apply#[plainId_quiet plain_eq_loop _,codeAny_builtin entry_eq_loop ?_];rw[Around.under_plainId plain_eq_loop _];exact ih (i+1) Z1 prog w A R _ #[#[gl,gb],he,by simpa using h]
  |false=>
   rw[c] at h
   wp_walk using sE gl,sE gb
   rw[q1,q2]
   wp_walk
   simpa using h
theorem iV_(l b:Addr)(xs ys:Array Aa)(n m:Nat)(dl db:Option Addr)(sl sb:Array (Option Aa))(hs:xs.size=ys.size)(e:Nat->Bool) :
  Meets (Builtin.«list.__ne__» #[[.ref l,.ref b],[]])
   (λA R s=>(s.heap.get? l=some { cls:=.type "list",dict:=dl,data:=.seq xs n,slots:=sl }/\s.heap.get? b=some { cls:=.type "list",dict:=db,data:=.seq ys m,slots:=sb }) /\
    (∀j (h1:j<xs.size) (h2:j<ys.size),EqAt A.in1 s xs[j] ys[j] (e j))/\R (.ok (.ret (.bool (!(List.range xs.size).all e)))) s):=by
 intro prog w A R s ⟨⟨gl,gb⟩,he,h⟩;let#[hp,g,d,tk,os]:=s;let f3:=AutoSeq1.sub_list_list;have no:¬(xs.size != ys.size)=true:=by simp[hs]
 wp_walk using sE gl,sE gb
 apply#[plainId_quiet plain_eq_loop _,codeAny_builtin entry_eq_loop ?_];rw[Around.under_plainId plain_eq_loop _];exact mr_ l b xs ys n m dl db sl sb hs e _ 0 Z prog w A R _ #[#[gl,gb],he,by simpa using h]
theorem jc_(l b:Addr)(xs ys:Array Aa)(n m:Nat)(dl db:Option Addr)(sl sb:Array (Option Aa))(hs:(xs.size != ys.size)=true) :
  Meets (Builtin.«list.__ne__» #[[.ref l,.ref b],[]])
   (λA R s=>(s.heap.get? l=some { cls:=.type "list",dict:=dl,data:=.seq xs n,slots:=sl }/\s.heap.get? b=some { cls:=.type "list",dict:=db,data:=.seq ys m,slots:=sb })/\R (.ok (.ret (.bool true))) s):=
 .of_wp λprog w A R s ⟨⟨gl,gb⟩,h⟩=>by
  let#[hp,g,d,tk,os]:=s;let f3:=AutoSeq1.sub_list_list
  wp_walk using sE gl,sE gb
  exact#[_,Z,h]
variable{b l:Addr}{xs ys:Array Aa}{E Q:Aa->Ab->Prop}{prog:Ae}{w:Af}{A:Ag}{s:Ab}
theorem rj{e:Nat->Bool}(hl:s.heap.IsList l xs)(hb:s.heap.IsList b ys)(hs:xs.size=ys.size)(hu:A.units<cLine)(he:∀j (h1:j<xs.size) (h2:j<ys.size),EqAt A.in1 s xs[j] ys[j] (e j))(h:Q (.bool (!(List.range xs.size).all e)) s):wpAny (model prog w) A (compareOp .NotEq (.ref l) (.ref b)) Q E s:=by
 let#[#[c1,d1,t1,l1],o1,k1,n1,z1]:=id hl;let#[#[c2,d2,t2,l2],o2,k2,n2,z2]:=id hb;simp only at k1 z1 k2 z2;subst k1 z1 k2 z2;exact richCompare_meets_room (op:=.NotEq) #[_,o1,Z] #[_,o2,Z] F.slot_list_ne F.entry_list_ne (F.args_list_ne_2 _ _) (iV_ l b xs ys n1 n2 d1 d2 l1 l2 hs e) #[#[o1,o2],he,show Value.bool (!(List.range xs.size).all e)≠Value.notImplemented/\Q (.bool (!(List.range xs.size).all e)) s from #[(λx=>nomatch x),h]] hu
theorem iK(hl:s.heap.IsList l xs)(hb:s.heap.IsList b ys)(hs:(xs.size != ys.size)=true)(hu:A.units<cLine)(h:Q (.bool true) s):wpAny (model prog w) A (compareOp .NotEq (.ref l) (.ref b)) Q E s:=by
 let#[#[c1,d1,t1,l1],o1,k1,n1,z1]:=id hl;let#[#[c2,d2,t2,l2],o2,k2,n2,z2]:=id hb;simp only at k1 z1 k2 z2;subst k1 z1 k2 z2;exact richCompare_meets_room (op:=.NotEq) #[_,o1,Z] #[_,o2,Z] F.slot_list_ne F.entry_list_ne (F.args_list_ne_2 _ _) (jc_ l b xs ys n1 n2 d1 d2 l1 l2 hs) #[#[o1,o2],show Value.bool true≠Value.notImplemented/\Q (.bool true) s from #[(λx=>nomatch x),h]] hu
end Mz
namespace L2
open PySem PySem.Spec PyProof.Rows PySem.W Kf MA
abbrev Rp(D:Type):=Hp->V->D->Prop
structure xD (X:Cx) (n:Nat) {D:Type} [DecidableEq D] (R:Rp D):Prop where
 eq:∀{pins:List (Addr × Obj)} {σ:St} {H:Hp} {s:Ab} {A:Ag} {x y:V} {u v:Aa} {d e:D},Inv X pins σ H s->RelV x u->RelV y v->R H x d->R H y e->A.units+n<cLine->SeqAt.EqAt A s u v (decide (d=e))
 one:∀{pins:List (Addr × Obj)} {σ:St} {H:Hp} {s:Ab} {x:V} {d e:D},Inv X pins σ H s->R H x d->R H x e->d=e
def rS:Rp Str:=λ_ x d=>x=.str d
def r2(K:af){D1 D2:Type}(R1:Rp D1)(R2:Rp D2):Rp (D1 × D2):=λH x d=>∃a u v,x=.ref a/\iZ K H a [u,v]/\R1 H u d.1/\R2 H v d.2
def rL(K:af){D:Type}(R:Rp D):Rp (List D):=λH x ds=>∃a xs,x=.ref a/\eG K H a xs/\Paired (R H) xs ds
variable{X:Cx}
theorem fP:xD X 0 rS where
 eq:=λ{pins σ H s A x y u v d e} I ru rv hx hy hu=>by
  have hx:x=.str d:=hx;have hy:y=.str e:=hy;subst hx;subst hy;let q:=PH (A:=A) (s:=s) ru rv Z Z
  have e2:jV (.str d) (.str e)=decide (d=e):=by
   show (d == e)=_;by_cases h:d=e
   ·subst h;simp
   ·simp[h]
  rwa [e2] at q
 one:=λ{pins σ H s x d e} I hx hy=>by
  have hx:x=.str d:=hx;have hy:x=.str e:=hy;rw[hx] at hy;exact V.str.inj hy
theorem YF{h:Heap}{a:Addr}{its:Array Aa}(t:IsTup h a its):h.IsTuple a its:=t
variable{n:Nat}
theorem yR{m:Nat}{D1 D2:Type}[DecidableEq D1][DecidableEq D2]{R1:Rp D1}{R2:Rp D2}(c1:xD X n R1)(c2:xD X m R2):xD X (max n m+1) (r2 X.K R1 R2) where
 one:=λ{pins σ H s x d e} I hx hy=>by
  let#[a,u,v,rfl,t,q1,q2]:=hx;let#[b,u',v',e0,t',Kz,Ky]:=hy;cases e0;let e1:=I.ju t t';cases e1;exact Prod.ext (c1.one I q1 Kz) (c2.one I q2 Ky)
 eq:=λ{pins σ H s A x y u v d e} I ru rv hx hy hu=>by
  let DG:=hx;let hy':=hy;let#[a,x1,x2,rfl,t,q1,q2]:=hx;let#[b,y1,y2,rfl,t',Kz,Ky]:=hy;cases ru;cases rv;by_cases Wv:a=b
  ·subst Wv;let e1:=I.ju t t';cases e1;have:d=e:=Prod.ext (c1.one I q1 Kz) (c2.one I q2 Ky);rw[cc this];exact SeqAt.EqAt.same _
  ·let#[its,r,it,_]:=I.tuple t;let#[its',r',it',_]:=I.tuple t';let#[u1,u2,rfl,r1,r2]:=vals2 r;let#[w1,w2,rfl,r1',r2']:=vals2 r'
   let key:=SeqAt.EqAt.of_refs Wv (SeqAt.RcAt.tuples (A:=A) (s:=s) (e:=λj=>if j=0 then decide (d.1=e.1) else decide (d.2=e.2)) (YF it) (YF it') Z1 λj h1 h2=>by
    match j,h1,h2 with
    |0,_,_=>exact c1.eq I r1 r1' q1 Kz (by show A.units+1+n<cLine;omega)
    |1,_,_=>exact c2.eq I r2 r2' q2 Ky (by show A.units+1+m<cLine;omega))
   have e3:((List.range (min [u1,u2].toArray.size [w1,w2].toArray.size)).all (λj=>if j=0 then decide (d.1=e.1) else decide (d.2=e.2))&&[u1,u2].toArray.size == [w1,w2].toArray.size)=decide (d=e):=by
    show (decide (d.1=e.1)&&(decide (d.2=e.2)&&true)&&true)=_;by_cases h1:d.1=e.1
    ·by_cases h2:d.2=e.2
     ·have:d=e:=Prod.ext h1 h2;simp[this]
     ·have:¬d=e:=λz=>h2 (by rw[z]);simp[h1,h2,this]
    ·have:¬d=e:=λz=>h1 (by rw[z]);simp[h1,this]
   rw[e3] at key;exact key
theorem iw{α β:Type}{F:α->β->Prop}:∀{l:List α} {m:List β},Paired F l m->∀(i:Nat) (h1:i<l.length) (h2:i<m.length),F l[i] m[i]
 |_,_,.cons h t,0,_,_=>h
 |_,_,.cons h t,i+1,h1,h2=>iw t i (by simpa using h1) (by simpa using h2)
theorem Zi{D:Type}[DecidableEq D]:∀{ds es:List D},ds.length=es.length->((List.range ds.length).all λj=>decide (ds[j]? = es[j]?))=decide (ds=es):=λ{ds es} hl=>by
 by_cases h:ds=es
 ·subst h;simp
 ·rw[dS h]
  have:∃i,i<ds.length/\ds[i]?≠es[i]?:=by
   apply Classical.byContradiction λhn=>h ?_;apply List.ext_getElem? ?_;intro i;by_cases hi:i<ds.length
   ·exact Classical.byContradiction λq=>hn #[i,hi,q]
   ·rw[List.getElem?_eq_none Z1,List.getElem?_eq_none Z1]
  let#[i,hi,q]:=this;rw[List.all_eq_false];exact#[i,by simpa using hi,by simpa using q]
variable{pins:List (Addr × Obj)}{σ:St}{s:Ab}{A:Ag}
theorem Xc{D:Type}[DecidableEq D]{R:Rp D}(c:xD X n R){H:Hp}(I:Inv X pins σ H s){xs ys:ai}{us vs:ax}{ds es:List D}(ru:Vals xs us)(rv:Vals ys vs)(hx:Paired (R H) xs ds)(hy:Paired (R H) ys es)(hu:A.units+n<cLine) :
  ∀j (h1:j<us.toArray.size) (h2:j<vs.toArray.size),SeqAt.EqAt A s us.toArray[j] vs.toArray[j] (decide (ds[j]? = es[j]?)):=λj h1 h2=>by
 let l1:=ru.length;let l2:=rv.length;let l3:=bK hx;let l4:=bK hy;simp only[dQ] at h1 h2;let q:=c.eq (A:=A) I (iw ru j Z1 h1) (iw rv j Z1 h2) (iw hx j Z1 Z1) (iw hy j Z1 Z1) hu
 have e:decide (ds[j]? = es[j]?)=decide (ds[j]' Z1=es[j]' Z1):=by
  rw[dG Z1,dG Z1];by_cases z:ds[j]' Z1=es[j]' Z1
  ·simp[z]
  ·simp[z]
 rw[e];exact q
def FO{D:Type}[DecidableEq D](R:Rp D)(neg:Bool):V->V->Hp->VK->Prop:=λx y H Q=>∃d e,R H x d/\R H y e/\Q (.bl (if neg then !decide (d=e) else decide (d=e))) H
theorem Vj{D:Type}[DecidableEq D]{R:Rp D}(c:xD X n R)(hu:X.A.units+n+1<cLine):eP X (compareOp .Eq) (FO (rL X.K R) false):=by
 intro pins s σ H x y v u Q I rx ry h;let#[d,e,#[a,xs,rfl,t,q],#[b,ys,rfl,t',q'],hq]:=h;cases rx;cases ry;let#[us,r,pl,_]:=I.list t;let#[vs,r',yd,_]:=I.list t';let l1:=r.length;let l2:=r'.length;let l3:=bK q;let l4:=bK q';by_cases hl:d.length=e.length
 ·apply SeqAt.eq_listAt pl.isList yd.isList (by simp only[dQ];omega) Z1 (Xc c I r r' q q' (A:=X.A.in1) (by show X.A.units+1+n<cLine;omega)) #[.bl _,H,I,Z,?_];rw[show us.toArray.size=d.length by simp only[dQ];omega,Zi hl];exact hq
 ·apply SeqAt.eq_list_lengthsAt pl.isList yd.isList (by simp only[dQ,bne_iff_ne];omega) Z1 #[.bl _,H,I,Z,?_];have hq:Q (.bl (decide (d=e))) H:=hq;rwa [dS (λz=>hl (by rw[z]))] at hq
theorem lQ_{D:Type}[DecidableEq D]{R:Rp D}(c:xD X n R)(hu:X.A.units+n+1<cLine):eP X (compareOp .NotEq) (FO (rL X.K R) true):=by
 intro pins s σ H x y v u Q I rx ry h;let#[d,e,#[a,xs,rfl,t,q],#[b,ys,rfl,t',q'],hq]:=h;cases rx;cases ry;let#[us,r,pl,_]:=I.list t;let#[vs,r',yd,_]:=I.list t';let l1:=r.length;let l2:=r'.length;let l3:=bK q;let l4:=bK q';have hq:Q (.bl (!decide (d=e))) H:=hq;by_cases hl:d.length=e.length
 ·apply Mz.rj pl.isList yd.isList (by simp only[dQ];omega) Z1 (Xc c I r r' q q' (A:=X.A.in1) (by show X.A.units+1+n<cLine;omega)) #[.bl _,H,I,Z,?_];rw[show us.toArray.size=d.length by simp only[dQ];omega,Zi hl];exact hq
 ·apply Mz.iK pl.isList yd.isList (by simp only[dQ,bne_iff_ne];omega) Z1 #[.bl _,H,I,Z,?_];rwa [dS (λz=>hl (by rw[z]))] at hq
def Bz(K:af){D:Type}[DecidableEq D](R:Rp D)(neg:Bool):V->V->Hp->VK->Prop:=λx y H Q=>∃d es,R H x d/\rL K R H y es/\Q (.bl (if neg then !decide (d∈es) else decide (d∈es))) H
theorem Vc{D:Type}[DecidableEq D]{R:Rp D}(c:xD X n R){H:Hp}(I:Inv X pins σ H s){x:V}{u:Aa}{d:D}(ru:RelV x u)(hx:R H x d)(hu:A.units+n<cLine):∀{ys:ai} {vs:ax} {es:List D},Vals ys vs->Paired (R H) ys es->
  ∃f:Aa->Bool,(∀w∈vs,SeqAt.EqAt A s w u (f w))/\vs.any f=decide (d∈es):=λ{ys vs es} rv hy=>by
 let f:Aa->Bool:=λw=>@decide (∃y e,RelV y w/\R H y e/\e=d) (Classical.propDecidable _)
 have sound:∀y w e,RelV y w->R H y e->f w=decide (e=d):=λy w e h1 h2=>by
  by_cases z:e=d
  ·rw[cc z];exact @cc _ (Classical.propDecidable _) #[y,e,h1,h2,z]
  ·rw[dS z];apply @dS _ (Classical.propDecidable _) λ⟨y',e',g1,g2,g3⟩=>z ?_;have:y'=y:=RelV.inj g1 h1;subst this;rw[<- g3];exact c.one I h2 g2
 apply#[f,?_,?_]
 ·induction rv generalizing es with
  |nil=>exact λw hw=>nomatch hw
  |cons h t ih=>
   cases hy with
   |cons g t'=>
    intro w hw;rcases bZ.mp hw with rfl|hw
    ·rw[sound _ _ _ h g];exact c.eq I h ru g hx hu
    ·exact ih t' w hw
 ·induction rv generalizing es with
  |nil=>
   cases hy;simp
  |cons h t ih=>
   cases hy with
   |@cons _ e _ es g t'=>
    rw[List.any_cons,ih t',sound _ _ _ h g];by_cases z:e=d
    ·subst z;simp
    ·by_cases z2:d∈es
     ·simp[z2]
     ·have:¬d∈e::es:=λq=>by
       rcases bZ.mp q with q|q
       ·exact z q.symm
       ·exact z2 q
      rw[dS z,dS z2,dS this];rfl
theorem Hx{D:Type}[DecidableEq D]{R:Rp D}(c:xD X n R)(hu:X.A.units+n+1<cLine):eP X (compareOp .In) (Bz X.K R false):=by
 intro pins s σ H x y v u Q I rx ry h;let#[d,es,hx,#[a,ys,rfl,t,q],hq]:=h;cases ry;let#[us,r,pl,_]:=I.list t;let#[f,h1,h2]:=Vc c I (A:=X.A.in1) rx hx (by show X.A.units+1+n<cLine;omega) r q;apply SeqAt.in_listAt f pl.isList (λw hw=>h1 w (by simpa using hw)) #[.bl _,H,I,Z,?_];rw[show us.toArray.any f=us.any f by simp,h2];exact hq
theorem L3{D:Type}[DecidableEq D]{R:Rp D}(c:xD X n R)(hu:X.A.units+n+1<cLine):eP X (compareOp .NotIn) (Bz X.K R true):=by
 intro pins s σ H x y v u Q I rx ry h;let#[d,es,hx,#[a,ys,rfl,t,q],hq]:=h;cases ry;let#[us,r,pl,_]:=I.list t;let#[f,h1,h2]:=Vc c I (A:=X.A.in1) rx hx (by show X.A.units+1+n<cLine;omega) r q;apply SeqAt.notIn_listAt f pl.isList (λw hw=>h1 w (by simpa using hw)) #[.bl _,H,I,Z,?_];rw[show us.toArray.any f=us.any f by simp,h2];exact hq
inductive FN (K:af) (xs:ai) (H:Hp) (Q:VK):Prop
 |mk:∀x T t b,xs=[x,.ty T]->gi K H x t->PySem.W.kitOne K t (.type T)=some b->Q (.bl b) H->FN K xs H Q
theorem qz:gY X (.builtin "isinstance") (FN X.K):=by
 intro pins s σ H xs us Q I r h;let#[x,T,t,b,rfl,ty,e,q]:=h;let#[u,w',rfl,ru,kJ]:=vals2 r;cases (show w'=Value.type T from kJ);exact Yk I ru ty e λtk=>#[.bl b,H,I.tok tk,Z,q]
inductive YH (x:V) (y:V) (H:Hp) (Q:VK):Prop
 |mk:∀i j,x=.str i->y=.str j->Q (.bl (!decide (j.cps.toList<i.cps.toList))) H->YH x y H Q
theorem X2:eP X (compareOp .LtE) YH:=by
 intro pins s σ H x y v u Q I rx ry h;let#[i,j,rfl,rfl,q]:=h;let#[t,rfl]:=rx;let#[t',rfl]:=ry;exact PySem.P.le_str ⟨.bl _,H,I,rfl,q⟩
inductive sV (mk:Addr->Addr->HO) (Q:VK) (x:V) (H1:Hp):Prop
 |mk:∀d kvs,x=.ref d->H1 d=some (.dK kvs)->(∀v,H1 v=none->Q (.ref v) (upd H1 v (mk v d)))->sV mk Q x H1
def zq(mk:Addr->Addr->HO)(td:TE):TE:=λσ H Q=>td σ H λx H1=>sV mk Q x H1
variable{H:Hp}{d:Addr}
theorem VE{cls:String}(I:Inv X pins σ H s)(φ:Heap->Prop)(hφ:φ (s.heap.push { cls:=.type cls,data:=.fields (List.toArray [.ref d]) }))(hs:∀h1 h2:Heap,φ h1->(∀o,h1.get? s.heap.objs.size=some o->h2.get? s.heap.objs.size=some o)->φ h2) :
  Inv X pins σ (upd H s.heap.objs.size (.ext φ)) { s with heap:=s.heap.push { cls:=.type cls,data:=.fields (List.toArray [.ref d]) } }:=
 I.laid (t':=s.toks) (λ_ _ q=>cU _ q) (bp _) #[hφ,#[_,fG _ Z],hs]
variable{o:Expr}{td:TE}{apos du:Pos}
theorem L5(ho:PE X o td)(iR:attributeBase o "items" X.env (eval o X.env)=eval o X.env:=by rfl)(iP:(apos.endLine == du.line)=true:=by rfl):PE X (.Call (.Attribute o "items" apos) [] [] du) (zq vQ td):=by
 intro pins s σ H Q I h;apply wpAny_Call_method0_late iR iP (a_ (ho pins s σ H _ I h) λv s1 ⟨x,H1,I1,r1,d,kvs,e,hd,q⟩=>?_);subst e;cases r1;let#[t1,t2,t3]:=UV I1 (.inl #[kvs,.inl hd]);let#[_,_,vs,rel,dd]:=yJ I1.aN hd;apply#["dict","dict.items",PySem.F.plainAttrs_dict,PySem.F.slot_dict_items,PySem.F.type_dict_items,t1,t2,Calls.callWith_builtin Z (PySem.evalArgs_none ?_)];apply call_meetsIn PySem.F.slot_dict_items t1 PySem.F.entry_dict_items (PySem.F.args_dict_items_1 _) (meets_dict_items (fu X.prog X.w) d t3) #[#[vs,dd],?_];exact#[.ref _,_,VE I1 _ #[_,fG _ Z,Z,Z] λh1 h2 ⟨o,e,r⟩ k=>#[o,k o e,r],Z,q _ I1.fresh]
theorem Yi(ho:PE X o td)(iR:attributeBase o "values" X.env (eval o X.env)=eval o X.env:=by rfl)(iP:(apos.endLine == du.line)=true:=by rfl):PE X (.Call (.Attribute o "values" apos) [] [] du) (zq vO td):=by
 intro pins s σ H Q I h;apply wpAny_Call_method0_late iR iP (a_ (ho pins s σ H _ I h) λv s1 ⟨x,H1,I1,r1,d,kvs,e,hd,q⟩=>?_);subst e;cases r1;let#[t1,t2,t3]:=UV I1 (.inl #[kvs,.inl hd]);let#[_,_,vs,rel,dd]:=yJ I1.aN hd;apply#["dict","dict.values",PySem.F.plainAttrs_dict,PySem.F.slot_dict_values,PySem.F.type_dict_values,t1,t2,Calls.callWith_builtin Z (PySem.evalArgs_none ?_)];apply call_meetsIn PySem.F.slot_dict_values t1 PySem.F.entry_dict_values (PySem.F.args_dict_values_1 _) (meets_dict_values (fu X.prog X.w) d t3) #[#[vs,dd],?_];exact#[.ref _,_,VE I1 _ #[_,fG _ Z,Z,Z] λh1 h2 ⟨o,e,r⟩ k=>#[o,k o e,r],Z,q _ I1.fresh]
variable{kvs:List (Key × V)}
theorem Inv.freeze(I:Inv X pins σ H s)(h:H d=some (.dK kvs)):∃o,s.heap.get? d=some o/\Inv X pins σ (upd H d (.frz o (.dK kvs))) s:=by
 let#[z,hd,vs,rel,dd]:=yJ I.aN h;let#[o,es,ep,ho,r]:=id dd;have other:∀{b u},H b=some u->u≠.dK kvs->upd H d (.frz o (.dK kvs)) b=some u:=λ{b u} e ne=>by rw[au (cj e h ne)];exact e
 apply#[o,ho,I.un (h':=s.heap) (t':=s.toks) #[λb u q _ _ _=>q,λb u q _ _ _=>#[u.slots,q],λb u q n _=>?_,λb u q _=>#[u,q],λb xs q=>other q Z2,λb u v q=>other q Z2,λb ps q=>#[#[],by rw[Array.append_empty];exact other q Z2]] λb u q=>?_]
 ·by_cases e:b=d
  ·subst e;rw[h] at n;cases n
  ·rw[au e];exact n
 ·by_cases e:b=d
  ·subst e;rw[az] at q;cases q;exact#[ho,z,hd,vs,rel,dd]
  ·rw[au e] at q;exact (I.aN b u q).fe (λc v _ z=>z) (λc z=>other z Z2) λc xs z=>other z Z2
variable{o:Obj}
theorem Inv.ko(I:Inv X pins σ H s)(h:H d=some (.frz o (.dK kvs)))(h0:∀o u,X.lX d≠some (.frz o u)):Inv X pins σ (upd H d (.dK kvs)) s:=by
 have other:∀{b u},H b=some u->(∀o v,u≠.frz o v)->upd H d (.dK kvs) b=some u:=λ{b u} e ne=>by rw[au (cj e h (ne _ _))];exact e
 have iJ:∀{b},H b=none->upd H d (.dK kvs) b=none:=λ{b} e=>by
  rw[au (λz=>by subst z;rw[h] at e;cases e)];exact e
 apply#[I.ok,I.os,I.bare,#[I.base.keep,I.base.slot,λb u q n hx=>iJ (I.base.free b u q n hx),I.base.there,λb xs q=>other (I.base.jH b xs q) Z2,λb u v q=>?_,λb ps q=>?_],I.loc,I.cell,iJ I.free,λx c e=>iJ (I.eS x c e),λp hp=>?_,λb u q=>?_,I.len]
 ·have:=I.base.ig b u v q;rw[au (λz=>by subst z;exact h0 _ _ q)];exact this
 ·let#[more,e]:=I.base.jb b ps q;exact#[more,other e Z2]
 ·let#[a1,a2,a3]:=I.pin p hp;exact#[a1,iJ a2,a3]
 ·by_cases e:b=d
  ·subst e;rw[az] at q;cases q;let#[ho,z,hd,vs,rel,dd]:=I.aN b _ h;exact#[z,hd,vs,rel,dd]
  ·rw[au e] at q;exact (I.aN b u q).fe (λc v _ z=>z) (λc z=>other z Z2) λc xs z=>other z Z2
def Fb(t:TE):TE:=λσ H Q=>∃d kvs,H d=some (.dK kvs)/\t σ H λv H1=>∃o,H1 d=some (.frz o (.dK kvs))/\Q v (upd H1 d (.dK kvs))
variable{e:Expr}
theorem VC{t:TE}(h:PE X e t):PE X e (Fb t):=by
 intro pins s σ H Q I q;let#[d,kvs,hd,q]:=q;apply a_ (h pins s σ H _ I q) λu s' ⟨v,H1,I1,r,o,hf,q1⟩=>#[v,_,I1.ko hf (λo u z=>?_),r,q1];have:=I.base.ig _ _ _ z;rw[hd] at this;cases this
def ZJ(d:Addr)(o:Obj)(kvs:List (Key × V)):It:=#[λi H=>H d=some (.frz o (.dK kvs))/\i<kvs.length,λi H x H'=>H'=H/\∃k,kvs[i]? = some (k,x),λi H=>H d=some (.frz o (.dK kvs))/\kvs.length<=i]
variable{es:Array DictEntry}{ep:Nat}
theorem EG(I:Inv X pins σ H s)(h:H d=some (.frz o (.dK kvs)))(ho:o.data=.dict es ep):∃vs,KV kvs vs/\s.heap.DictAt (fu X.prog X.w) d vs ep:=by
 let#[e,z,hd,vs,rel,o',Lj,Lk,e',c',d',r]:=I.aN d _ h;rw[e] at e';cases e';rw[ho] at d';cases d';exact#[vs,rel,o,es,e,c',ho,r]
theorem O4{κ:Type}{kvs:List (κ × V)}{vs:List (κ × Aa)}(r:KV kvs vs):∀(i:Nat) {k:κ} {x:V},kvs[i]? = some (k,x)->∃u,vs[i]? = some (k,u)/\RelV x u:=by
 induction r with
 |nil=>intro i k x e;simp at e
 |@cons p q _ _ h _ ih=>
  intro i k x e;cases i with
  |zero=>
   have e:p=(k,x):=by simpa using e
   subst e;apply#[q.2,?_,h.2];rw[List.getElem?_cons_zero];have h1:k=q.1:=h.1;rw[h1]
  |succ i=>exact ih i (by simpa using e)
variable{P:Ae}{w:Af}{K:af}{tg:Expr}
theorem hh_(d it:Addr)(o:Obj)(kvs:List (Key × V))(ho:o.data=.dict es ep):Turn P w K tg (ZJ d o kvs) [it] it (λi h=>h.IsValIter it d i kvs.length ep) where
 mem:=by simp
 obj:=λi h st b hb=>by
  obtain rfl:b=it:=by simpa using hb
  let#[o,e,c,d]:=st;exact#[o,e,λv z=>by rw[d] at z;cases z]
 keep:=λi h h' st k=>st.at λo e=>k it Z2 o e
 item:=by
  intro X hP hw hK hc i pins s σ H E I hf st hg;subst hP hw hK;let#[hd,hi]:=hg;let#[vs,rel,dat]:=EG I hd ho;obtain⟨⟨k,x⟩,hx⟩:∃p,kvs[i]? = some p:=#[kvs[i],by simp[hi]];let#[u,hu,ru]:=O4 rel i hx;let#[f0,f1,f2,f3,f4,f5]:=hf it Z2;rw[rel.length] at st;apply wpAny_pyNext_values_item st dat hu λh' fJ sb=>?_;have I1:Inv X pins σ H { s with heap:=h' }:=I.turned (t':=s.toks) (λb o hb e=>(sb.2 b hb).trans e) f0 f1 f3 f4 f5;let#[o',e,c,dd]:=id fJ;apply#[u,Z,DT (s:={ s with heap:=h' }) e c dd (by decide) #[x,H,I1,ru,#[Z,k,hx],?_,λb hb=>(hf b hb).1]];show h'.IsValIter it d (i+1) kvs.length ep;rw[rel.length];exact fJ
 done:=by
  intro X hP hw hK hc i pins s σ H E I hf st hg;subst hP hw hK;let#[hd,hi]:=hg;let#[vs,rel,dat]:=EG I hd ho;let#[f0,f1,f2,f3,f4,f5]:=hf it Z2;rw[rel.length] at st hi;exact wpAny_pyNext_values_end (I.ok.hd hc) st dat (by simp;omega) λh' eb=>#[Z,I.turned (t':=s.toks) (λb o hb e=>eb b o hb e) f0 f1 f3 f4 f5]
 self:=λ_ _ _ _ _ st h=>wpAny_pyIter_valiter st h
inductive uY (R:It->Hp->Prop) (x:V) (H1:Hp):Prop
 |mk:∀v d kvs,x=.ref v->H1 v=some (vO v d)->H1 d=some (.dK kvs)->(∀o,R (ZJ d o kvs) (upd H1 d (.frz o (.dK kvs))))->uY R x H1
def Gv(tv:TE):TI:=λσ H R=>tv σ H λx H1=>uY R x H1
theorem Vs{tv:TE}(he:PE X e tv):PI X tg e (Gv tv):=by
 intro pins s σ H R I h;apply a_ (he pins s σ H _ I h) λu s1 ⟨x,H1,I1,r1,v,d,kvs,ex,hv,hd,q⟩=>?_;subst ex;cases r1;let#[iv,_,_]:=I1.aN v _ hv;let#[o,ho,I2]:=I1.freeze hd;let#[z,_,vs,rel,o',es,ep,jx,c',dt,r]:=yJ I1.aN hd;rw[ho] at jx;cases jx;have rB:v≠d:=cj hv hd nofun;apply wpAny_pyIter_values (knd:=fu X.prog X.w) (kvs:=vs) (ep:=ep) iv #[o,es,ho,c',dt,r] ?_;apply#[s1.heap.objs.size,[s1.heap.objs.size],_,_,_,Z,I2.kept (t':=s1.toks) λb o e=>cU _ e,hh_ d _ o kvs dt,?_,λb hb=>?_,q o]
 ·rw[rel.length];exact#[_,fG _ Z,Z,Z]
 ·obtain rfl:b=s1.heap.objs.size:=by simpa using hb
  exact I2.jT (bp _) (I2.aN.fresh (bp _))
def TB(x:Str):It:=#[λi _=>i<x.cps.size,λi H v H'=>H'=H/\∃c,x.cps[i]? = some c/\v=.str ⟨(List.toArray [c])⟩,λi _=>x.cps.size<=i]
theorem gq_(it:Addr)(x:Str)(t:Tok):Turn P w K tg (TB x) [it] it (λi h=>i<=x.cps.size/\h.IsStrIter it "str_ascii_iterator" x t i) where
 mem:=by simp
 obj:=λi h st b hb=>by
  obtain rfl:b=it:=by simpa using hb
  let#[o,e,c,d]:=st.2;exact#[o,e,λv z=>by rw[d] at z;cases z]
 keep:=λi h h' st k=>#[st.1,let #[o,ho,r]:=st.2;#[o,k it Z2 o ho,r]]
 item:=by
  intro X hP hw hK hc i pins s σ H E I hf st hg;subst hP hw hK;have hg:i<x.cps.size:=hg;let#[f0,f1,f2,f3,f4,f5]:=hf it Z2;apply wpAny_pyNext_ascii_item st.2 (c:=x.cps[i]) (by simp[hg]) λh' fJ sb=>?_;have I1:Inv X pins σ H { s with heap:=h',toks:=s.toks+1 }:=I.turned (t':=s.toks+1) (λb o hb e=>(sb.2 b hb).trans e) f0 f1 f3 f4 f5;let#[o',e,c,dd]:=id fJ;exact#[_,Z,DT (s:={ s with heap:=h',toks:=s.toks+1 }) e c dd (by decide) #[.str ⟨#[x.cps[i]]⟩,H,I1,#[_,Z],#[Z,_,by simp[hg],Z],#[hg,fJ],λb hb=>(hf b hb).1]]
 done:=by
  intro X hP hw hK hc i pins s σ H E I hf st hg;subst hP hw hK;have hg:x.cps.size<=i:=hg;let#[f0,f1,f2,f3,f4,f5]:=hf it Z2;exact wpAny_pyNext_ascii_end (I.ok.hd hc) st.2 (by simp[hg]) λh' eb=>#[Z,I.turned (t':=s.toks) (λb o hb e=>eb b o hb e) f0 f1 f3 f4 f5]
 self:=λ_ _ _ _ _ st h=>wpAny_pyIter_striter_ascii st.2 h
theorem iI_(it:Addr)(x:Str)(t:Tok):Turn P w K tg (TB x) [it] it (λi h=>i<=x.cps.size/\h.IsStrIter it "str_iterator" x t i) where
 mem:=by simp
 obj:=λi h st b hb=>by
  obtain rfl:b=it:=by simpa using hb
  let#[o,e,c,d]:=st.2;exact#[o,e,λv z=>by rw[d] at z;cases z]
 keep:=λi h h' st k=>#[st.1,let #[o,ho,r]:=st.2;#[o,k it Z2 o ho,r]]
 item:=by
  intro X hP hw hK hc i pins s σ H E I hf st hg;subst hP hw hK;have hg:i<x.cps.size:=hg;let#[f0,f1,f2,f3,f4,f5]:=hf it Z2;apply wpAny_pyNext_wide_item st.2 (c:=x.cps[i]) (by simp[hg]) λh' fJ sb=>?_;have I1:Inv X pins σ H { s with heap:=h',toks:=s.toks+1 }:=I.turned (t':=s.toks+1) (λb o hb e=>(sb.2 b hb).trans e) f0 f1 f3 f4 f5;let#[o',e,c,dd]:=id fJ;exact#[_,Z,DT (s:={ s with heap:=h',toks:=s.toks+1 }) e c dd (by decide) #[.str ⟨#[x.cps[i]]⟩,H,I1,#[_,Z],#[Z,_,by simp[hg],Z],#[hg,fJ],λb hb=>(hf b hb).1]]
 done:=by
  intro X hP hw hK hc i pins s σ H E I hf st hg;subst hP hw hK;have hg:x.cps.size<=i:=hg;let#[f0,f1,f2,f3,f4,f5]:=hf it Z2;exact wpAny_pyNext_wide_end (I.ok.hd hc) st.2 (by simp[hg]) λh' eb=>#[Z,I.turned (t':=s.toks) (λb o hb e=>eb b o hb e) f0 f1 f3 f4 f5]
 self:=λ_ _ _ _ _ st h=>wpAny_pyIter_striter_wide st.2 h
inductive z_ (R:It->Hp->Prop) (v:V) (H1:Hp):Prop
 |mk:∀x,v=.str x->R (TB x) H1->z_ R v H1
def Ow(tl:TE):TI:=λσ H R=>tl σ H λv H1=>z_ R v H1
theorem m9_{l:Expr}{tl:TE}(hl:PE X l tl):PI X tg l (Ow tl):=by
 intro pins s σ H R I h;apply a_ (hl pins s σ H _ I h) λv s1 ⟨y,H1,I1,r1,x,e,q⟩=>?_;subst e;let#[t,rfl]:=r1
 have fp:∀b∈[s1.heap.objs.size],dH X pins H1 b:=λb hb=>by
  obtain rfl:b=s1.heap.objs.size:=by simpa using hb
  exact I1.jT (bp _) (I1.aN.fresh (bp _))
 cases ha:x.cps.all (· < 128)
 ·apply wpAny_pyIter_wide ha ?_;exact#[s1.heap.objs.size,[s1.heap.objs.size],_,_,H1,Z,I1.kept (t':=s1.toks) λb o e=>cU _ e,iI_ _ x t,#[gG _,_,fG _ Z,Z,Z],fp,q]
 ·apply wpAny_pyIter_ascii ha ?_;exact#[s1.heap.objs.size,[s1.heap.objs.size],_,_,H1,Z,I1.kept (t':=s1.toks) λb o e=>cU _ e,gq_ _ x t,#[gG _,_,fG _ Z,Z,Z],fp,q]
theorem FV{f:Aa->Aa->Sem Aa}(r:af->R2)(h:eP X f (r X.K))(hK:X.K=K:=by rfl):eP X f (r K):=by
 subst hK;exact h
theorem vF{f:Aa}(r:af->ai->Hp->VK->Prop)(h:gY X f (r X.K))(hK:X.K=K:=by rfl):gY X f (r K):=by
 subst hK;exact h
theorem yt(r:af->R2)(h:EU X (r X.K))(hK:X.K=K:=by rfl):EU X (r K):=by
 subst hK;exact h
abbrev FK(K:af):=Ta K
theorem IC(hK:X.K=K:=by rfl):gY X (.builtin "len") (FK K):=vF FK lM hK
theorem Lv{N:ae}{scope:Scope}{fp:ay}{es:List Expr}{k:Nat}{pos:Pos}{t:Dn}(h:Ka (i7 X N scope fp s H) es t)(hc:X.calm=true:=by rfl)(hn:(assignEach es (i7 X N scope fp s H).env).length=n:=by rfl)(BN:(assignEach es (i7 X N scope fp s H).env).findIdx? (·.1)=none:=by rfl):PG (i7 X N scope fp s H) (.Tuple es k pos) (jS X.K n t):=jm (X:=i7 X N scope fp s H) hc h hn BN
end L2
abbrev vA:PySem.Str:="_law_ties"
abbrev Cu:PySem.Str:="ways_by_name"
abbrev rK:PySem.Str:="_law_one"
abbrev yO:PySem.Str:="_law_script"
abbrev yN:PySem.Str:="_law_digit"
abbrev Cw:PySem.Str:="pieces_by_hand"
abbrev Cz:PySem.Str:="rising_neighbours"
abbrev qu:PySem.Str:="_law_piece"
abbrev Cv:PySem.Str:="neighbours_by_hand"
abbrev rG:PySem.Str:="_law_found"
abbrev i6:PySem.Str:="_law_stand"
abbrev lG:PySem.Str:="_law_other"
abbrev Ec:PySem.Str:="abcdefghijklmnopqrstuvwxyz"
abbrev wX:PySem.Str:="strength_by_hand"
abbrev sH:PySem.Str:="heaviest_first"
abbrev sI:PySem.Str:="weight_by_name"
abbrev qr:PySem.Str:="level_by_hand"
abbrev j8:PySem.Str:="_law_state_here"
abbrev jE:PySem.Str:="load_by_hand"
abbrev f_:PySem.Str:="_law_world_here"
abbrev mw:List PySem.Str:=["self","one","other"]
abbrev Ea:List PySem.Str:=[f_,i6,"_law_rule","_law_moment"]
abbrev lU:List PySem.Str:=[f_,"_law_held_here",rK,lG]
abbrev qO:List PySem.Str:=[f_,i6,"_law_pair","_law_guard","_law_given"]
abbrev j9:List PySem.Str:=["self","hand"]
abbrev Ee:List PySem.Str:=[j8,"_law_hands",vA]
abbrev Eb:List PySem.Str:=[f_,i6,"_law_hand"]
abbrev wV:List PySem.Str:=["sight","hand","words"]
abbrev Ap:List PySem.Str:=[j8,"_law_base"]
abbrev gZ:List PySem.Str:=["thing"]
abbrev qv:List PySem.Str:=["self","thing"]
abbrev qN:List PySem.Str:=[f_,qu,rK,lG]
abbrev Ao:List PySem.Str:=["sight","rule","moment"]
abbrev lS:List PySem.Str:=["sight","one","other","guard","given"]
abbrev vC:List PySem.Str:=["goods","placed"]
abbrev Av:List PySem.Str:=["name","weight","ways"]
abbrev sG:List PySem.Str:=["one","other"]
abbrev wg:List PySem.Str:=[f_,i6,"_law_moment","_law_guard"]
abbrev we:List PySem.Str:=[f_,i6,"_law_rule","_law_moments"]
abbrev iU:List PySem.Str:=["self"]
abbrev qM:List PySem.Str:=["_law_guard","_law_drop_here","_law_much"]
abbrev wc:List PySem.Str:=[f_,i6,"_law_hand","_law_words"]
abbrev lR:List PySem.Str:=[f_,i6]
abbrev lQ:List PySem.Str:=[f_,"_law_rule"]
abbrev DZ:List PySem.Str:=["sight","hand","guard"]
abbrev Aw:List PySem.Str:=["self","piece"]
abbrev qL:List PySem.Str:=[f_,"_law_pieces"]
abbrev qK:List PySem.Str:=["self","piece","one","other"]
abbrev qJ:List PySem.Str:=[j8,"_law_great"]
abbrev lP:List PySem.Str:=["thing","least","most"]
abbrev qI:List PySem.Str:=[j8,"_law_many"]
abbrev wb:List PySem.Str:=["_law_hands",vA,"_law_pieces"]
abbrev lO:List PySem.Str:=["high","fall","calm"]
abbrev qH:List PySem.Str:=[qu,i6]
abbrev v_:List PySem.Str:=["goods","placed","rule","moment"]
abbrev vZ:List PySem.Str:=["goods","stand","rule","moments"]
abbrev qG:List PySem.Str:=["self","goods","placed"]
abbrev qF:List PySem.Str:=["guard","lead","burden"]
abbrev qE:List PySem.Str:=["goods","stand","rule"]
abbrev qD:List PySem.Str:=[yO,"_law_k"]
namespace Ev
open PySem L2
def top(i:Nat):Stmt:=PySem.Challenge.pw_evenpieces_k41_stands_behind_moments.main.body.getD i (.Pass #[0,0,0,0])
abbrev Br:Stmt:=top 12
abbrev nI:Stmt:=top 14
abbrev ui:Stmt:=top 15
abbrev Qd:Stmt:=top 16
abbrev ug:Stmt:=top 17
abbrev QO:Stmt:=top 18
abbrev uE:Stmt:=top 19
abbrev uv:Stmt:=top 50
abbrev Bp:Stmt:=top 51
abbrev ud:Stmt:=top 52
abbrev uh:Stmt:=top 53
abbrev jJ:Stmt:=top 55
def gR(a b:Str):Bool:=decide (a.cps.toList<b.cps.toList)
def aL(a b:Str):Str × Str:=if gR a b=true then (a,b) else (b,a)
variable{f:Addr}{fd:Ad}
variable{X:Cx}{k:Nat}{ps:ae}{sp:Sp}{pos:Pos}{e:Expr}{es:List Expr}{t:TA}
section
variable{P:Ae}{w:Af}{K:af}{mg:Str->Option Aa}{base:Heap}
theorem bJ{N p:List Str}{c:Scope}(h:bD N p c:=by exact#[Z,Z,Z,by decide +kernel,Z,by decide +kernel,by decide +kernel]):bD N p c:=h
theorem tV:bD sG sG (bb Qd):=bJ
def Mi:Sp:=λvs H Q _=>∃a b,vs=[.str a,.str b]/\∀t,H t=none->Q (.ref t) (upd H t (.tup [.str (aL a b).1,.str (aL a b).2]))
theorem hy_(F:bo K "lesser_first" "lesser_first" Qd f fd):!aj aZ 1 f fd sG Mi:=by
 apply F.bI tV λaR A outer s H vs Q E hr h=>?_
 ·let#[a,b,rfl,k]:=h;apply#[_,aF (bh (RD (cz hx_ (pv 0) (pv 1)) (eW %[0,1|0]) (eW %[1,0|0]))),?_];apply#[_,Z,_,Z,a,b,Z,Z,_,Z,?_];apply aP (λc=>?_) (λc=>?_)
  ·apply#[_,Z,_,Z,zl,λt ht=>?_];have:=k t ht;rwa [show aL a b=(a,b) from aA c] at this
  ·apply#[_,Z,_,Z,zl,λt ht=>?_];have:=k t ht;rwa [show aL a b=(b,a) from aq c] at this
theorem xR:bD lP lP (bb nI):=bJ
def QG:Sp:=λvs H Q _=>∃i a b:Int,vs=[.int i,.int a,.int b]/\Q (.bl (decide (a<=i)&&decide (i<=b))) H
structure Bi (mg:Str->Option Aa):Prop where
 oF:mg "isinstance"=none
 int:mg "int"=none
 bool:mg "bool"=none
 str:mg "str"=none
 tuple:mg "tuple"=none
 list:mg "list"=none
 dict:mg "dict"=none
 len:mg "len"=none
 all:mg "all"=none
 sorted:mg "sorted"=none
 max:mg "max"=none
 range:mg "range"=none
 any:mg "any"=none
 enum:mg "enumerate"=none
 min:mg "min"=none
 abs:mg "abs"=none
structure br (P:Ae) (w:Af) (K:af) (mg:Str->Option Aa) (base:Heap) (k:Nat) (x:Str) (ps:ae) (sp:Sp):Prop where
 ex:∃f fd,aj P w K mg base aZ k f fd ps sp/\mg x=some (.ref f)/\PySem.W.keepIn K (.ref f)=true/\rJ K fd ps []
theorem aY{n_:Nat}{x:Str}{p:Pos}(c:br X.prog X.w X.K X.mg X.base k x ps sp)(hr:ba n_ X.A)(ha:PA X (e::es) t)(hg:Gl X x:=by rfl)(oJ:(x == ("__debug__":Str))=false:=by decide)(he:starEach (e::es) X.env=(false,eval e X.env)::starEach es X.env:=by rfl)(mm:(backTo pos (starEach es X.env)).any (·.1)=false:=by rfl)(hk:k<=n_:=by decide):PE X (.Call (.Name x p) (e::es) [] pos) (pC sp [] E0 t):=by
 let#[f,fd,F,m,kp,b]:=c.ex;exact l9_ F (hr.mono hk) hg m kp b .nil kK ha oJ he mm
theorem Fy:bD gZ gZ (bb Br):=bJ
def tL:Sp:=λvs H Q _=>∃i:Int,vs=[.int i]/\Q (.bl true) H
theorem lH_(F:bo K "is_whole" "is_whole" Br f fd)(B:Bi mg):!aj aZ 1 f fd gZ tL:=by
 apply F.bI Fy λaR A outer s H vs Q E hr h=>?_
 ·let#[i,rfl,k]:=h;apply#[_,aF (bh (sJ (cX qz (by rfl) B.oF oY %[0,qx (v:=.ty "int") (by rfl) B.int CL Z|0]) (oU (U6 (cX qz (by rfl) B.oF oY %[0,qx (v:=.ty "bool") (by rfl) B.bool PyProof.Rows.Boot.«bool» rfl|0]))))),?_];exact#[_,Z,_,_,_,_,Z,.int i,Z,_,Z,fo #[_,Z,_,_,_,_,Z,.int i,Z,_,Z,k]]
theorem jy_(F:bo K "is_whole_within" "is_whole_within" nI f fd)(cI:!br 1 "is_whole" gZ tL):!aj aZ 2 f fd lP QG:=by
 apply F.bI xR λaR A outer s H vs Q E hr h=>?_
 ·let#[i,a,b,rfl,k]:=h;apply#[_,aF (bh (sJ (aY cI hr %[0|0]) (oU (XH wU wU (pv 1) (pv 0) (pv 2))))),?_];apply#[_,Z,i,Z,_,Z,fo ?_];apply#[_,Z,_,Z,_,_,Z,Z,_,Z,?_];apply aP (λc=>?_) (λc=>?_)
  ·apply#[_,Z,_,_,Z,Z,?_];rw[c] at k;exact k
  ·rw[show decide (a<=i)=false by simpa using c] at k;exact k
def kL(c:Nat):Bool:=decide (97<=c)&&decide (c<=122)
def jD(x:Str):Bool:=decide (1<=x.length)&&decide (x.length<=8)&&x.cps.toList.all kL
theorem Be:bD gZ gZ (bb ui):=bJ
def K7:Sp:=λvs H Q _=>∃x:Str,vs=[.str x]/\x.length<=100000/\∀H',aa H H'->Q (.bl (jD x)) H'
theorem kw_{c:Nat}:(!decide ((⟨(List.toArray [c])⟩:Str).cps.toList<("a":Str).cps.toList))=decide (97<=c):=by
 have e:("a":Str).cps.toList=[97]:=by decide +kernel
 rw[e];show (!decide ([c] < [97]))=decide (97<=c);by_cases h:97<=c
 ·have:¬[c] < [97]:=by simp[List.cons_lt_cons_iff];omega
  simp[this,h]
 ·have:[c] < [97]:=by simp[List.cons_lt_cons_iff];omega
  simp[this,h]
theorem kz_{c:Nat}:(!decide (("z":Str).cps.toList<(⟨(List.toArray [c])⟩:Str).cps.toList))=decide (c<=122):=by
 have e:("z":Str).cps.toList=[122]:=by decide +kernel
 rw[e];show (!decide ([122] < [c]))=decide (c<=122);by_cases h:c<=122
 ·have:¬[122] < [c]:=by simp[List.cons_lt_cons_iff];omega
  simp[this,h]
 ·have:[122] < [c]:=by simp[List.cons_lt_cons_iff];omega
  simp[this,h]
theorem l7_(F:bo K "is_name" "is_name" ui f fd)(B:Bi mg){t8:Tok}(m8:mg "MOST_LETTERS"=some (.int 8 t8)):!aj aZ 1 f fd gZ K7:=by
 apply F.bI Be λaR A outer s H vs Q E hr h=>?_
 ·let#[x,rfl,hz,k]:=h;let sz:=b_
  apply#[_,ak (bQ (Ax (hY (gg (cX qz (by rfl) B.oF oY %[0,qx (v:=.ty "str") (by rfl) B.str HN Z|0])))
    (AH (hY (Xv wU wU aE (cX Zl (by rfl) B.len jk %[0|0]) (CQ (v:=.int 8) (by rfl) m8 #[t8,Z]))))).pt (aF (bh Cm)) bR)
   (aF (bh (cX (iR_ Z) (by rfl) B.all PyProof.Rows.Boot.«all» (dD
    (i8 ["letter"] 1 [] (m9_ (pv 0)) (λfp s H=>fw (i:=0) (show (["letter"]:ae).Nodup by decide +kernel) Z (Or.inl Z)) (λfp s H=>iY) (λfp s H=>XH X2 X2 cq (pv 0) cq)) aJ)))),?_]
  apply#[_,Z,_,_,_,_,Z,.str x,Z,_,Z,?_];apply bu ?_;apply#[_,Z,x,Z,by omega,_,_,Z,Z,_,Z,?_]
  have fin:(decide (1<=x.length)&&decide (x.length<=8))=false->∀H',aa H H'->Q (.bl false) H':=λe H' sm=>by
   have:=k H' sm;rwa [show jD x=false by unfold jD;rw[e];rfl] at this
  apply aP (λc=>?_) (λc=>?_)
  ·have c1:1<=x.length:=by
    have:(1:Int)<=(x.length:Int):=by simpa using c
    omega
   apply#[_,_,Z,Z,_,Z,?_];apply aP (λc2=>?_) (λc2=>?_)
   ·-- too long
    have c3:¬x.length<=8:=by
     have:¬((x.length:Int)<=8):=by simpa using c2
     omega
    exact fin (by rw[dS c3,qA]) H (aa.refl H)
   ·have c3:x.length<=8:=by
     have:(x.length:Int)<=8:=by simpa using c2
     omega
    apply#[_,Z,x,Z,λD hD=>?_]
    let Tx:dY:=λi out H'=>H'=upd H D (.lst out)/\out=((x.cps.toList.take i).map kL).map V.bl
    apply AN (own:=1) (fv:=[]) Z d_ x.cps.size Tx #[Z,by simp] (λout H' ⟨e1,e2⟩=>?_) (λi out H' hi ⟨e1,e2⟩=>?_)
    ·apply#[bp _,D,x.cps.toList.map kL,Z,.of ?_,?_]
     ·rw[e1,az,e2,y_ Z2]
     ·have:=k H' (by rw[e1];exact aa.new hD);rwa [show jD x=(x.cps.toList.map kL).all id by unfold jD;rw[cc c1,cc c3,List.all_map];rfl] at this
    ·apply#[hi,λv H2 y=>?_];let#[eH,c,hc,rfl]:=y;subst eH;apply#[_,Z,Z,λNx hN=>d9 ?_]
     have lo:out.length<sizeLine:=by
      rw[e2];have hs:x.length=x.cps.size:=rfl;simp only[ao,dg,sN];omega
     have nx:Nx (upd H2 D (.lst (out++[V.bl (kL c)]))):=hN (out++[V.bl (kL c)]) _ #[by rw[e1,l1_],by
      rw[e2,iE];simp[hc]]
     have Zy:H2 D=some (.lst out):=by rw[e1,az]
     apply#[_,Z,_,_,Z,Z,_,Z,?_];rw[kw_];apply aP (λc2=>?_) (λc2=>?_)
     ·apply#[_,_,Z,Z,out,Zy,lo,?_];rw[kz_];rwa [show kL c=decide (c<=122) by unfold kL;rw[c2];rfl] at nx
     ·apply#[out,Zy,lo,?_];rwa [show kL c=false by unfold kL;rw[show decide (97<=c)=false by simpa using c2];rfl] at nx
  ·have c1:¬1<=x.length:=by
    have:¬((1:Int)<=(x.length:Int)):=by simpa using c
    omega
   exact#[_,Z,fo (fin (by rw[dS c1];rfl) H (aa.refl H))]
end
def kT(t:Str × Str):aM:=[.inr t.1,.inr t.2]
def Co(t:Str × Str):Prop:=jD t.1=true/\jD t.2=true/\t.1≠t.2
theorem LW{x:Str}(h:jD x=true):x.length<=8:=by
 unfold jD at h;simp only[xx,mC] at h;exact h.1.2
theorem wH{H:Hp}{p:Addr}{t:Str × Str}(h:H p=some (.tup ((kT t).map kV))):H p=some (.tup [.str t.1,.str t.2]):=h
variable{ks:List aM}
variable{D:Addr}{o:HO}
section
variable{P:Ae}{w:Af}{K:af}{mg:Str->Option Aa}{base:Heap}
theorem Bd:bD gZ gZ (bb ug):=bJ
def tJ:Sp:=λvs H Q _=>∃(p:Addr) (a b:Str),vs=[.ref p]/\H p=some (.tup [.str a,.str b])/\a.length<=100000/\b.length<=100000/\∀H',aa H H'->Q (.bl (jD a&&jD b&&!decide (a=b))) H'
theorem kW_(F:bo K "is_pair_of_names" "is_pair_of_names" ug f fd)(B:Bi mg)(cN:!br 1 "is_name" gZ K7):!aj aZ 2 f fd gZ tJ:=by
 apply F.bI Bd λaR A outer s H vs Q E hr h=>?_
 ·let#[p,a,b,rfl,hp,la,lb,k]:=h
  apply#[_,ak (bQ (Ax (hY (gg (cX qz (by rfl) B.oF oY %[0,qx (v:=.ty "tuple") (by rfl) B.tuple Rf Z|0])))
    (AH (cz DV (cX lM (by rfl) B.len jk %[0|0]) aE))).pt (aF (bh Cm)) bR)
   (aF (bh (sJ (aY cN hr %[bO eO (pv 0) aE|0]) (sJ (aY cN hr %[bO eO (pv 0) aE|0])
    (oU (iG DV (bO eO (pv 0) aE) (bO eO (pv 0) aE))))))),?_]
  apply#[_,Z,_,_,_,_,Z,.tup hp,Z,_,Z,bu ?_];apply#[_,Z,p,_,Z,.inr (.of hp),Z,_,Z,?_];apply uX (show V.int ((2:Nat):Int)=V.int 2 from Z) ?_;apply#[_,Z,p,_,_,_,Z,Z,.of hp,Z,a,Z,la,λH1 s1=>#[_,Z,?_]];let KW:=s1 _ _ hp;apply aP (λc=>?_) (λc=>?_)
  ·apply#[_,Z,p,_,_,_,Z,Z,.of KW,Z,b,Z,lb,λH2 s2=>#[_,Z,?_]];let qc:=s2 _ _ KW;let kk:=k H2 (s1.trans s2);apply aP (λc2=>?_) (λc2=>?_)
   ·apply#[_,Z,p,_,_,_,Z,Z,.of qc,Z,_,Z,p,_,_,_,Z,Z,.of qc,Z,Z,?_];rw[c,c2] at kk
    have e:decide (V.str a=V.str b)=decide (a=b):=by
     by_cases z:a=b
     ·simp[z]
     ·simp[z]
    show Q (.bl (!decide (V.str a=V.str b))) H2;rw[e];exact kk
   ·rw[c,show jD b=false by simpa using c2] at kk;exact kk
  ·let kk:=k H1 s1;rw[show jD a=false by simpa using c] at kk;exact kk
theorem Mc:bD ["ties","found","pair","tie"] ["ties"] (bb QO):=bJ
def RE(K:af):Sp:=λvs H Q _=>∃(l:Addr) (ys:ai) (ts:Xb),vs=[.ref l]/\H l=some (.lst ys)/\bg K H ys (ts.map kT)/\(∀t∈ts,Co t)/\(ts.map λt=>kT (aL t.1 t.2)).Nodup/\ts.length<64 /\
 ∀l' zs H',aa H H'->H l'=none->H' l'=some (.lst zs)->bg K H' zs (aU (ts.map λt=>kT (aL t.1 t.2)))->Q (.ref l') H'
theorem jr{α β γ:Type}{F:α->γ->Prop}{g:β->γ}{ys:List α}{ts:List β}(t:Paired F ys (ts.map g)){i:Nat}{y:α}(h:ys[i]? = some y):∃x,ts[i]? = some x/\F y (g x):=by
 have hi:i<ys.length:=(cy.mp h).1;let hl:=bK t;rw[ao] at hl;have:=iw t i hi (by rw[ao];omega);rw[List.getElem_map] at this;apply#[ts[i],dG Z1,?_];rw[(cy.mp h).2] at this;exact this
theorem AO{κ:Type}[DecidableEq κ]{kvs:List (κ × V)}{k:κ}(h:k∉kvs.map (·.1)):bM kvs k=none:=by
 cases e:bM kvs k with
 |none=>rfl
 |some v=>exact absurd (kP_ e) h
theorem AQ{α β:Type}(g:α->β){ts:List α}{i:Nat}{x:α}(h:ts[i]? = some x):(ts.take (i+1)).map g=(ts.take i).map g++[g x]:=by
 rw[iE,h,cu];rfl
theorem IK{α β:Type}{g:α->β}{ts:List α}{i:Nat}{x:α}(h:(ts.map g).Nodup)(hx:ts[i]? = some x):g x∉(ts.take i).map g:=by
 intro m;have hi:i<ts.length:=(cy.mp hx).1;let#[y,hy,e]:=bj.mp m;let#[j,hj,e2]:=rT hy;rw[dg] at hj;rw[List.getElem_take] at e2;rw[xv,oZ,List.pairwise_iff_getElem] at h;apply h j i Z1 hi Z1 ?_;rw[e2,e,(cy.mp hx).2]
theorem it_(F:bo K "sorted_ties" "sorted_ties" QO f fd)(B:Bi mg)(cP:!br 2 "is_pair_of_names" gZ tJ)(cL:!br 1 "lesser_first" sG Mi):!aj aZ 3 f fd ["ties"] (RE K):=by
 apply F.bI Mc λaR A outer s H vs Q E hr h=>?_
 ·let#[l,ys,ts,rfl,hl,tu,good,nd,dk,k]:=h;let hu:=eU hr;let sz:=b_
  apply#[_,ak (bQ (hY (gg (cX qz (by rfl) B.oF oY %[0,qx (v:=.ty "list") (by rfl) B.list CT Z|0]))) fF bR)
   (ak (aQ 1 Mc.nd jv_)
   (ak (eM dX Z (dF (pv 0)) (bU 2 Mc.nd)
    (ak (bQ (hY (gg (aY cP hr %[2|0]))) fF bR)
    (ak (aQ 3 Mc.nd (aY cL hr %[bO eO (pv 2) aE,bO eO (pv 2) aE|0]))
    (ak (bQ (AJ (Ek hu (pv 3) (pv 1))) fF bR)
    (aF (rN hu (pv 1) (pv 3) Cm Z))))))
   (aF (bh (cX (fn_ Z) (by rfl) B.sorted yU %[1|0]))))),?_]
  apply#[_,Z,_,_,_,_,Z,.lst hl,Z,_,Z,bu ?_];intro d hd;have s0:aa H (upd H d (.dT [])):=aa.new hd
  let Tw:bL:=λi σ H2=>∃(v3 v4:aK),σ=[some (.ref l),some (.ref d),v3,v4]/\aa H H2/\H2 d=some (.dT ((ts.take i).map λt=>(kT (aL t.1 t.2),V.bl true)))
  apply#[_,Z,l,Z,#[_,.of (s0 _ _ hl)],gc (K:=K) (a:=l) (xs:=ys) Tw #[none,none,Z,s0,az] (λi σ H2 _ ⟨_,_,_,s2,_⟩=>.of (s2 _ _ hl)) ?_ ?_]
  ·rintro i y σ H2 hy ⟨v3,v4,rfl,s2,hd2⟩;let#[t,ht,a,rfl,ha]:=jr tu hy;let#[g1,g2,g3]:=good t (cw ht);let wO:=s2 _ _ (wH ha);apply#[_,Z,a,t.1,t.2,Z,wO,by have:=LW g1;omega,by have:=LW g2;omega,λH3 s3=>#[_,Z,?_]];let sr:=s3 _ _ wO;let oK:=s3 _ _ hd2;rw[g1,g2,dS g3];apply bu ?_;apply#[_,Z,a,_,_,_,Z,Z,.of sr,Z,_,Z,a,_,_,_,Z,Z,.of sr,Z,t.1,t.2,Z,λb hb=>?_];have s4:aa H3 (upd H3 b (.tup [.str (aL t.1 t.2).1,.str (aL t.1 t.2).2])):=aa.new hb;let Wm:=s4 _ _ oK;have Wu:upd H3 b (.tup [.str (aL t.1 t.2).1,.str (aL t.1 t.2).2]) b=some (.tup ((kT (aL t.1 t.2)).map kV)):=az
   have wF:bM ((ts.take i).map λt=>(kT (aL t.1 t.2),V.bl true)) (kT (aL t.1 t.2))=none:=AO (by
    rw[cm];exact IK (g:=λt=>kT (aL t.1 t.2)) nd ht)
   apply#[_,Z,_,Z,d,_,Z,.t (k:=kT (aL t.1 t.2)) Wm Wu,_,Z,?_];rw[wF];apply bu ?_;apply#[_,Z,_,Z,d,_,Z,.t (k:=kT (aL t.1 t.2)) Wm Wu (by rw[ao,dg];omega),?_];apply#[_,_,Z,λc o e=>?_,?_]
   ·rw[au (bq e hd)];exact s4 _ _ (s3 _ _ (s2 _ _ e))
   ·rw[az,EJ _ wF,AQ _ ht]
  ·rintro σ H2 ⟨v3,v4,rfl,s2,hd2⟩;let le:=bK tu;rw[ao] at le;rw[le,dP] at hd2;apply#[_,Z,d,_,[true,true],Z,hd2,#[by decide,λk hk=>?_],by rw[ao];exact dk,λl' zs hn tz=>?_]
   ·rw[cm] at hk;let#[t,_,rfl]:=bj.mp hk;rfl
   ·rw[cm] at tz;exact k l' zs _ (s2.trans (aa.new hn)) (s2.free hn) az (tz.same (aa.new hn))
theorem Bo:bD ["ties"] ["ties"] (bb uE):=bJ
def tP(K:af):Sp:=λvs H Q _=>∃(l:Addr) (ys:ai) (ts:Xb),vs=[.ref l]/\H l=some (.lst ys)/\bg K H ys (ts.map kT)/\ts.length<=1000 /\
 ∀l' zs H',aa H H'->H l'=none->H' l'=some (.lst zs)->bg K H' zs (ts.map kT)->Q (.ref l') H'
theorem vT{K:af}{H:Hp}{ys:ai}{a:Addr}{k:aM}(t:bg K H ys ks)(h:H a=some (.tup (k.map kV))):bg K H (ys++[.ref a]) (ks++[k]):=Paired.snoc t #[a,Z,h]
theorem gf{H H1:Hp}(h:aa H H1)(hD:H D=none):aa H (upd H1 D o):=λb u e=>by rw[au (bq e hD)];exact h b u e
theorem i9{K:af}{H:Hp}{ys:ai}{xs:ai}(t:bg K H ys ks)(hD:H D=some (.lst xs)):bg K (upd H D o) ys ks:=Paired.bx t λy k ⟨a,z,q⟩=>#[a,z,by rw[au (cj q hD nofun)];exact q]
theorem lB_(F:bo K "ties_anew" "ties_anew" uE f fd):!aj aZ 1 f fd ["ties"] (tP K):=by
 apply F.bI Bo λaR A outer s H vs Q E hr h=>?_
 ·let#[l,ys,ts,rfl,hl,tu,hz,k]:=h;let sz:=b_
  apply#[_,aF (bh (i8 sG 2 [] (dF (pv 0)) (λfp s H=>Lv (n:=2) (di (fw (i:=0) (show (sG:ae).Nodup by decide +kernel) Z (Or.inl Z)) (di (fw (i:=1) (show (sG:ae).Nodup by decide +kernel) Z (Or.inl Z)) iF)))
   (λfp s H=>iY) (λfp s H=>eW %[0,1|0]))),?_]
  apply#[_,Z,l,Z,#[_,.of hl],λD hD=>?_];let le:=bK tu;rw[ao] at le
  let Tu:dY:=λi out H'=>aa H H'/\H' D=some (.lst out)/\bg K H' out ((ts.take i).map kT)
  apply mJ (own:=2) (fv:=[]) (xs:=ys) Z Ho Tu #[aa.new hD,az,.nil] (λi out H' _ ⟨sm,_,_⟩=>.of (sm _ _ hl)) (λout H' ⟨sm,hd,tz⟩=>?_) (λi x out H' hx ⟨sm,hd,tz⟩=>?_)
  ·rw[le,dP] at tz;exact k D out H' sm hD hd tz
  ·let#[t,ht,a,rfl,ha]:=jr tu hx;apply#[_,#[a,_,_,Z,.of (sm _ _ (wH ha)),Z],Z,λNx hN=>d9 ?_];apply#[_,Z,_,Z,zl,λp hp=>#[out,(aa.new hp) _ _ hd,?_,?_]]
   ·have:=bK tz;rw[ao,dg] at this;omega
   ·have qc:upd H' p (.tup [.str t.1,.str t.2]) p=some (.tup ((kT t).map kV)):=az;apply hN (out++[.ref p]) _ #[gf (sm.trans (aa.new hp)) hD,az,?_];rw[AQ _ ht];exact i9 (vT (tz.same (aa.new hp)) qc) ((aa.new hp) _ _ hd)
end
def kH(h:Str × Int):aM:=[.inr h.1,.inl h.2]
def Am(h:Str × Int):Prop:=jD h.1=true/\1<=h.2/\h.2<=1000
def BJ:aM->Key × V
 |[k,v]=>(k,kV v)
 |_=>(.inl 0,.non)
def dM(hs:Xa):List (Key × V):=(aU (hs.map kH)).map BJ
theorem ON{H:Hp}{p:Addr}{t:Str × Int}(h:H p=some (.tup ((kH t).map kV))):H p=some (.tup [.str t.1,.int t.2]):=h
theorem Y3:∀(more kvs:List (Key × V)),(kvs.map (·.1)++more.map (·.1)).Nodup->oW kvs more=kvs++more
 |[],kvs,_=>by
  show kvs=kvs++[];rw[g_]
 |p::more,kvs,h=>by
  show oW (putK kvs p.1 p.2) more=kvs++p::more
  have hn:bM kvs p.1=none:=AO λm=>by
   rw[eL,List.nodup_append] at h;exact h.2.2 p.1 m p.1 cZ Z
  rw[EJ _ hn,Y3 more (kvs++[(p.1,p.2)])]
  ·simp
  ·simpa using h
theorem xp{more:List (Key × V)}(h:(more.map (·.1)).Nodup):oW [] more=more:=by
 rw[Y3 more [] (by simpa using h)];rfl
theorem Y7(hs:Xa):((dM hs).map (·.1)).Perm (hs.map λh=>Sum.inr h.1):=by
 unfold dM;rw[cm];let p:=(mK (hs.map kH)).map λk=>(BJ k).1;rw[cm] at p;exact p
theorem YT{hs:Xa}(h:(hs.map (·.1)).Nodup):((dM hs).map (·.1)).Nodup:=by
 apply (Y7 hs).nodup_iff.mpr ?_;have:(hs.map λh=>(Sum.inr h.1:Key))=(hs.map (·.1)).map Sum.inr:=by rw[cm];rfl
 rw[this,xv,oZ];exact h.imp λn e=>n (ij e)
theorem oN{A:Ag}(hr:ba k A)(n:Nat)(h:n+1<=64:=by decide):A.units+n+1<cLine:=by
 have:=hr.units;omega
variable{tk:Tok}
variable{ns:ae}
section
variable{P:Ae}{w:Af}{K:af}{mg:Str->Option Aa}{base:Heap}
theorem Bk:bD gZ gZ (bb uv):=bJ
def tM:Sp:=λvs H Q _=>∃(p:Addr) (a:Str) (n:Int),vs=[.ref p]/\H p=some (.tup [.str a,.int n])/\a.length<=100000/\∀H',aa H H'->Q (.bl (jD a&&(decide (1<=n)&&decide (n<=1000)))) H'
theorem l2_(F:bo K "is_hand_with_strength" "is_hand_with_strength" uv f fd)(B:Bi mg)(cN:!br 1 "is_name" gZ K7)(cW:!br 2 "is_whole_within" lP QG)(mS:mg "MOST_STRENGTH"=some (.int 1000 tk)) :
  aj P w K mg base aZ 3 f fd gZ tM:=by
 apply F.bI Bk λaR A outer s H vs Q E hr h=>?_
 ·let#[p,a,n,rfl,hp,la,k]:=h
  apply#[_,ak (bQ (Ax (hY (gg (cX qz (by rfl) B.oF oY %[0,qx (v:=.ty "tuple") (by rfl) B.tuple Rf Z|0])))
    (AH (cz DV (cX lM (by rfl) B.len jk %[0|0]) aE))).pt (aF (bh Cm)) bR)
   (aF (bh (sJ (aY cN hr %[bO eO (pv 0) aE|0]) (oU (aY cW hr %[bO eO (pv 0) aE,aE,CQ (v:=.int 1000) (by rfl) mS #[tk,Z]|0]))))),?_]
  apply#[_,Z,_,_,_,_,Z,.tup hp,Z,_,Z,bu ?_];apply#[_,Z,p,_,Z,.inr (.of hp),Z,_,Z,?_];apply uX (show V.int ((2:Nat):Int)=V.int 2 from Z) ?_;apply#[_,Z,p,_,_,_,Z,Z,.of hp,Z,a,Z,la,λH1 s1=>#[_,Z,?_]];let KW:=s1 _ _ hp;let kk:=k H1 s1;apply aP (λc=>?_) (λc=>?_)
  ·apply#[_,Z,p,_,_,_,Z,Z,.of KW,Z,n,1,1000,Z,?_];rw[c] at kk;exact kk
  ·rw[show jD a=false by simpa using c] at kk;exact kk
theorem tS:bD ["hands","found","hand"] ["hands"] (bb Bp):=bJ
def zE(K:af):Sp:=λvs H Q _=>∃(l:Addr) (ys:ai) (hs:Xa),vs=[.ref l]/\H l=some (.lst ys)/\bg K H ys (hs.map kH)/\(∀h∈hs,Am h)/\(hs.map (·.1)).Nodup/\1<=hs.length/\hs.length<=8 /\
 ∀d H',aa H H'->H d=none->H' d=some (.dK (dM hs))->Q (.ref d) H'
theorem m6_(F:bo K "checked_strengths" "checked_strengths" Bp f fd)(B:Bi mg)(cH:!br 3 "is_hand_with_strength" gZ tM)(mH:mg "MOST_HANDS"=some (.int 8 tk)):!aj aZ 4 f fd ["hands"] (zE K):=by
 apply F.bI tS λaR A outer s H vs Q E hr h=>?_
 ·let#[l,ys,hs,rfl,hl,tu,good,nd,h1,h8,k]:=h;let hu:=eU hr;let sz:=b_;let le:=bK tu;rw[ao] at le
  apply#[_,ak (bQ (Ax (hY (gg (cX qz (by rfl) B.oF oY %[0,qx (v:=.ty "list") (by rfl) B.list CT Z|0])))
    (AH (hY (Xv wU wU aE (cX lM (by rfl) B.len jk %[0|0]) (CQ (v:=.int 8) (by rfl) mH #[tk,Z]))))).pt fF bR)
   (ak (aQ 1 tS.nd C_)
   (ak (eM dX Z (dF (pv 0)) (bU 2 tS.nd)
    (ak (bQ (hY (gg (aY cH hr %[2|0]))) fF bR)
    (ak (bQ (AJ (Ek hu (bO eO (pv 2) aE) (pv 1))) fF bR)
    (aF (rN hu (pv 1) (bO eO (pv 2) aE) (bO eO (pv 2) aE) Z)))))
   (aF (bh (iD (vX Z) (by rfl) B.dict oV %[cX (go_ Z) (by rfl) B.sorted yU %[L5 (pv 1)|0]|0]))))),?_]
  apply#[_,Z,_,_,_,_,Z,.lst hl,Z,_,Z,bu ?_];apply#[_,Z,l,_,Z,.inl (.of hl),_,_,Z,Z,_,Z,?_];rw[cc (show (1:Int)<=(ys.length:Int) by omega)];apply fo #[_,_,Z,Z,_,Z,?_];rw[cc (show (ys.length:Int)<=8 by omega)];apply bu ?_;intro d hd;have s0:aa H (upd H d (.dK [])):=aa.new hd
  let Tt:bL:=λi σ H2=>∃(v2:aK),σ=[some (.ref l),some (.ref d),v2]/\aa H H2/\H2 d=some (.dK ((hs.take i).map λh=>(Sum.inr h.1,V.int h.2)))
  apply#[_,Z,l,Z,#[_,.of (s0 _ _ hl)],gc (K:=K) (a:=l) (xs:=ys) Tt #[none,Z,s0,az] (λi σ H2 _ ⟨_,_,s2,_⟩=>.of (s2 _ _ hl)) ?_ ?_]
  ·rintro i y σ H2 hy ⟨v2,rfl,s2,hd2⟩;let#[t,ht,a,rfl,ha]:=jr tu hy;let#[g1,g2,g3]:=good t (cw ht);let wO:=s2 _ _ (ON ha);apply#[_,Z,a,t.1,t.2,Z,wO,by have:=LW g1;omega,λH3 s3=>#[_,Z,?_]];let sr:=s3 _ _ wO;let oK:=s3 _ _ hd2;rw[g1,cc g2,cc g3];apply bu ?_
   have wF:bM ((hs.take i).map λh=>((Sum.inr h.1:Key),V.int h.2)) (Sum.inr t.1)=none:=AO (by
    rw[cm];let q:=IK (g:=λh:Str × Int=>h.1) nd ht;intro m;let#[h,hh,e]:=bj.mp m;exact q (bj.mpr #[h,hh,ij e]))
   apply#[_,Z,a,_,_,_,Z,Z,.of sr,Z,_,Z,d,_,Z,.k (k:=Sum.inr t.1) oK,_,Z,?_];rw[wF];apply bu ?_;apply#[_,Z,a,_,_,_,Z,Z,.of sr,Z,_,Z,_,Z,a,_,_,_,Z,Z,.of sr,Z,d,_,Z,.k (k:=Sum.inr t.1) oK (by rw[ao,dg];omega),?_];apply#[_,Z,λc o e=>?_,?_]
   ·rw[au (bq e hd)];exact s3 _ _ (s2 _ _ e)
   ·rw[az,EJ _ wF,AQ _ ht]
  ·rintro σ H2 ⟨v2,rfl,s2,hd2⟩;rw[le,dP] at hd2;apply#[_,Z,d,_,Z,hd2,λv hv=>?_];have s3:aa H2 (upd H2 v (vQ v d)):=aa.new hv;apply#[v,d,_,hs.map λh=>(Sum.inr h.1,Sum.inl h.2),[true,false],Z,az,s3 _ _ hd2,by rw[cm];rfl,#[by decide,λq hq=>?_],by rw[ao];omega,λl' H4 zs s4 hn tz=>?_]
   ·rw[cm] at hq;let#[h,_,rfl]:=bj.mp hq;rfl
   ·have ez:((hs.map λh=>((Sum.inr h.1:Key),(Sum.inl h.2:Key))).map λk=>[k.1,k.2])=hs.map kH:=by rw[cm];rfl
    rw[ez] at tz
    have pz:jz K (upd H4 l' (.lst zs)) zs (dM hs):=by
     have shape:∀k∈aU (hs.map kH),∃a b,k=[a,b]:=λk hk=>by
      let#[h,_,e]:=bj.mp ((mK _).mem_iff.mp hk);exact#[_,_,e.symm]
     have gen:∀(ks:List aM) (zs:ai),(∀k∈ks,∃a b,k=[a,b])->bg K (upd H4 l' (.lst zs)) zs ks->jz K (upd H4 l' (.lst zs)) zs (ks.map BJ):=λks=>by
      intro zs;generalize upd H4 l' (.lst zs)=HH;intro sh t
      induction t with
      |nil=>exact .nil
      |cons h t ih=>
       let#[a,b,rfl]:=sh _ cZ;exact .cons h (ih λk hk=>sh k (dI _ hk))
     exact gen _ _ shape (tz.same (aa.new hn))
    apply#[l',zs,_,Z,az,pz,?_,λd' iA=>?_]
    ·have:=(Y7 hs).length_eq;simp only[ao] at this;omega
    ·rw[xp (YT nd)];have FD:aa H (upd H4 l' (.lst zs)):=(s2.trans (s3.trans s4)).trans (aa.new hn);exact k d' _ (FD.trans (aa.new iA)) (FD.free iA) az
theorem Lb:bD ["ties","strengths","found","one","other"] ["ties","strengths"] (bb ud):=bJ
inductive mT (K:af) (vs:ai) (H:Hp) (Q:VK) (E:XK):Prop
 |mk:∀(l d:Addr) (ys:ai) (ts:Xb) (kvs:List (Key × V)),vs=[.ref l,.ref d]->H l=some (.lst ys)->bg K H ys (ts.map kT)->(∀t∈ts,Co t)->(ts.map λt=>kT (aL t.1 t.2)).Nodup->ts.length<64->H d=some (.dK kvs)->(∀t∈ts,(bM kvs (Sum.inr t.1)).isSome=true/\(bM kvs (Sum.inr t.2)).isSome=true)->(∀l' zs H',aa H H'->H l'=none->H' l'=some (.lst zs)->bg K H' zs (aU (ts.map λt=>kT (aL t.1 t.2)))->Q (.ref l') H')->mT K vs H Q E
theorem Ln(a b:Str):aL a b=(a,b)∨aL a b=(b,a):=by
 unfold aL;split
 ·exact .inl rfl
 ·exact .inr rfl
theorem lg_(F:bo K "checked_ties" "checked_ties" ud f fd)(B:Bi mg)(cS:!br 3 "sorted_ties" ["ties"] (RE K)):!aj aZ 4 f fd ["ties","strengths"] (mT K):=by
 apply F.bI Lb λaR A outer s H vs Q E hr h=>?_
 ·let#[l,d,ys,ts,kvs,rfl,hl,tu,good,nd,dk,hd,there,k]:=h;let hu:=eU hr
  apply#[_,ak (aQ 2 Lb.nd (aY cS hr %[0|0]))
   (ak (bQ (AJ (Lh (pv 2))) fF bR)
   (ak (eM dX Z (dF (pv 2)) (jm Z (di (bU 3 Lb.nd) (di (bU 4 Lb.nd) iF)))
    (aF (bQ (Ax (AJ (Yw hu (pv 3) (pv 1))) (AH (AJ (Yw hu (pv 4) (pv 1))))).pt fF bR)))
   (aF (bh (pv 2))))),?_]
  apply#[_,Z,l,ys,ts,Z,hl,tu,good,nd,dk,λl' zs H1 s1 hf jR tz=>?_];apply#[_,Z,_,Z,bu ?_]
  let Ts:bL:=λi σ H2=>∃(v3 v4:aK),σ=[some (.ref l),some (.ref d),some (.ref l'),v3,v4]/\H2=H1
  apply#[_,Z,l',Z,#[_,.of jR],gc (K:=K) (a:=l') (xs:=zs) Ts #[none,none,Z,Z] (λi σ H2 _ ⟨_,_,_,e⟩=>by subst e;exact .of jR) ?_ ?_]
  ·rintro i y σ H2 hy ⟨v3,v4,rfl,rfl⟩;let ez:=bK tz;have hi:i<zs.length:=(cy.mp hy).1;let#[a,e,ha]:=iw tz i hi Z1;rw[(cy.mp hy).2] at e;subst e;let#[t,ht,e]:=bj.mp ((mK _).mem_iff.mp (js (show i<(aU (ts.map λt=>kT (aL t.1 t.2))).length by omega)));rw[<- e] at ha;let#[t1,t2]:=there t ht
   have both:(bM kvs (Sum.inr (aL t.1 t.2).1)).isSome=true/\(bM kvs (Sum.inr (aL t.1 t.2).2)).isSome=true:=by
    rcases Ln t.1 t.2 with q|q
    ·rw[q];exact#[t1,t2]
    ·rw[q];exact#[t2,t1]
   let wL:=s1 _ _ hd;apply#[a,_,Z,.of (wH ha),Z,_,_,Z,_,_,Z,Z,?_];apply#[_,Z,_,Z,d,_,Z,.k (k:=Sum.inr (aL t.1 t.2).1) wL,_,Z,?_];rw[both.1];apply bu ?_;apply#[_,Z,_,Z,d,_,Z,.k (k:=Sum.inr (aL t.1 t.2).2) wL,_,Z,?_];rw[both.2];apply bu ?_;exact#[_,_,Z,Z]
  ·rintro σ H2 ⟨v3,v4,rfl,rfl⟩;exact#[_,Z,k l' zs _ s1 hf jR tz]
def near(ns:ae)(ts:Xb)(n:Str):ae:=ns.filter λo=>decide (aL n o∈ts)
theorem nA:bD ["names","ties","found","hand"] ["names","ties"] (bb uh):=bJ
def jX(ns:ae)(as:ay):List (Key × V):=(ns.zip as).map λp=>(Sum.inr p.1,V.ref p.2)
inductive mX (K:af) (vs:ai) (H:Hp) (Q:VK) (E:XK):Prop
 |mk:∀(l1 l2:Addr) (ns:ae) (zs:ai) (ts:Xb),vs=[.ref l1,.ref l2]->H l1=some (.lst (ns.map V.str))->H l2=some (.lst zs)->bg K H zs (ts.map kT)->ns.Nodup->ns.length<=1000->l1≠l2->(∀d as H',aa H H'->H d=none->as.length=ns.length->H' d=some (.dK (jX ns as))->(∀(i:Nat) n a,ns[i]? = some n->as[i]? = some a->H a=none/\H' a=some (.lst ((near ns ts n).map V.str)))->Q (.ref d) H')->mX K vs H Q E
theorem HY{K:af}{H:Hp}:∀{ts:Xb} {zs:ai},bg K H zs (ts.map kT)->Paired (r2 K rS rS H) zs ts
 |[],_,.nil=>.nil
 |t::ts,_,.cons ⟨a,e,h⟩ r=>.cons #[a,_,_,e,.of (wH h),Z,Z] (HY r)
theorem iX{i:Nat}{x:V}(h:(ns.map V.str)[i]? = some x):∃n,ns[i]? = some n/\x=.str n:=by
 rw[dW] at h;cases e:ns[i]? with
 |none=>rw[e] at h;cases h
 |some n=>rw[e] at h;exact#[n,Z,(eK h).symm]
theorem Zb{α:Type}(p:α->Bool){l:List α}{i:Nat}{x:α}(h:l[i]? = some x):(l.take (i+1)).filter p=(l.take i).filter p++(if p x then [x] else []):=PySem.take_succ_filter p l i x h
theorem kF_(F:bo K "neighbours_of_all" "neighbours_of_all" uh f fd)(cL:!br 1 "lesser_first" sG Mi):!aj aZ 2 f fd ["names","ties"] (mX K):=by
 apply F.bI nA λaR A outer s H vs Q E hr h=>?_
 ·let#[l1,l2,ns,zs,ts,rfl,jR,oH,tz,nd,h8,rB,k]:=h;let hu:=eU hr;let OF:=hr.units;let sz:=b_
  apply#[_,ak (aQ 2 nA.nd C_)
   (ak (eM dX Z (dF (pv 0)) (bU 3 nA.nd)
    (aF (rN hu (pv 2) (pv 3) (i8 ["other","hand","ties"] 1 [3,1] (dF (pv 0)) (λfp s H=>fw (i:=0) (show (["other","hand","ties"]:ae).Nodup by decide +kernel) Z (Or.inl Z))
     (λfp s H=>Qe (cz (FV (K:=K) (λK=>Bz K (r2 K rS rS) false) (Hx (yR fP fP) (oN hr _))) (aY cL hr %[1,0|0]) (pv 2) (by with_unfolding_all rfl))) (λfp s H=>pv 0)) Z)))
   (aF (bh (pv 2)))),?_]
  intro d hd;have s0:aa H (upd H d (.dK [])):=aa.new hd
  apply#[_,Z,l1,Z,#[_,.of (s0 _ _ jR)],gc (K:=K) (a:=l1) (xs:=ns.map V.str) (λi σ H2=>∃(v3:aK) (as:ay),σ=[some (.ref l1),some (.ref l2),some (.ref d),v3]/\aa H H2/\as.length=i/\H2 d=some (.dK (jX (ns.take i) as)) /\
   ∀(j:Nat) n a,ns[j]? = some n->as[j]? = some a->H a=none/\a≠d/\H2 a=some (.lst ((near ns ts n).map V.str))) #[none,[],Z,s0,Z,az,λj n a _ e=>by simp at e] (λi σ H2 _ ⟨_,_,_,s2,_⟩=>.of (s2 _ _ jR)) ?_ ?_]
  ·rintro i y σ H2 hy ⟨v3,as,rfl,s2,la,hd2,lists⟩;let#[n,hn,rfl]:=iX hy;have hi:i<ns.length:=(cy.mp hn).1
   have lk:(jX (ns.take i) as).length=i:=by
    unfold jX;rw[ao,List.length_zip,dg];omega
   apply#[_,Z,l1,Z,#[_,.of (s2 _ _ jR)],λD hD=>?_]
   let Tr:dY:=λj out H'=>aa H2 H'/\H' D=some (.lst out)/\out=((ns.take j).filter λo=>decide (aL n o∈ts)).map V.str
   apply mJ (own:=1) (fv:=[some (.str n),some (.ref l2)]) (xs:=ns.map V.str) Z d_ Tr #[aa.new hD,az,Z] (λj out H' _ ⟨sm,_,_⟩=>.of (sm _ _ (s2 _ _ jR))) (λout H' ⟨sm,eQ,eo⟩=>?_) (λj x out H' hx ⟨sm,eQ,eo⟩=>?_)
   ·rw[ao,dP] at eo
    have wF:bM (jX (ns.take i) as) (Sum.inr n)=none:=AO λm=>by
     unfold jX at m;rw[cm] at m;let#[p,hp,e]:=bj.mp m;have e:p.1=n:=ij e;let q:=IK (g:=id) (by rw[List.map_id];exact nd) hn;rw[List.map_id] at q;exact q (e▸(List.of_mem_zip hp).1)
    have Uv:D≠d:=λz=>by subst z;rw[hD] at hd2;cases hd2
    apply#[_,Z,_,Z,d,_,Z,.k (k:=Sum.inr n) (sm _ _ hd2) Z1,?_];apply#[_,as++[D],Z,λc o e=>?_,by rw[eA,la];rfl,?_,λj n' a GR ha=>?_]
    ·rw[au (bq e hd)];exact sm _ _ (s2 _ _ e)
    ·rw[az,EJ _ wF];congr 2;unfold jX;rw[iE,hn,List.zip_append (by rw[dg];omega),cu];rfl
    ·by_cases hj:j<as.length
     ·rw[Dh hj] at ha;let#[q1,q2,q3]:=lists j n' a GR ha;apply#[q1,q2,?_];rw[au q2];exact sm _ _ q3
     ·have Wa:j=i:=by
       have:=(cy.mp ha).1;rw[eA] at this;simp only[Di] at this;omega
      subst Wa;rw[AR Z1,la,Nat.sub_self] at ha;have ha:D=a:=by simpa using ha
      subst ha;rw[hn] at GR;cases GR;apply#[s2.free hD,Uv,?_];rw[au Uv,eQ,eo];rfl
   ·let#[o,ho,rfl]:=iX hx;apply#[_,Z,Z,λNx hN=>?_];apply#[_,Z,_,Z,n,o,Z,λt ht=>?_];have s3:aa H' (upd H' t (.tup [.str (aL n o).1,.str (aL n o).2])):=aa.new ht;let _G:=((tz.same s2).same sm).same s3
    have lo:out.length<sizeLine:=by
     rw[eo,ao];have:=xt (λo=>decide (aL n o∈ts)) (ns.take j);rw[dg] at this;omega
    apply#[_,Z,aL n o,ts,#[t,_,_,Z,.of az,Z,Z],#[l2,zs,Z,.of (s3 _ _ (sm _ _ (s2 _ _ oH))),HY _G],_,Z,?_];apply aP (λc=>?_) (λc=>?_)
    ·apply#[_,Z,out,s3 _ _ eQ,lo,hN _ _ #[gf (sm.trans s3) hD,az,?_]];have c:decide (aL n o∈ts)=true:=by simpa using c
     rw[Zb _ ho,aA c,cu,eo];rfl
    ·apply hN _ _ #[sm.trans s3,s3 _ _ eQ,?_];have c:¬decide (aL n o∈ts)=true:=by simpa using c
     rw[Zb _ ho,aq c,g_,eo]
  ·rintro σ H2 ⟨v3,as,rfl,s2,la,hd2,lists⟩;rw[ao] at la hd2;rw[dP] at hd2;exact#[_,Z,k d as _ s2 hd la hd2 λj n a h1 h2=>#[(lists j n a h1 h2).1,(lists j n a h1 h2).2.2]]
end
abbrev ur:Stmt:=ke jJ 0
abbrev ya:Stmt:=ke jJ 1
abbrev oo:Stmt:=ke jJ 2
abbrev Rr:Stmt:=ke jJ 3
abbrev oe:Stmt:=ke jJ 4
abbrev ue:Stmt:=ke jJ 5
abbrev nO:Stmt:=ke jJ 6
abbrev uk:Stmt:=ke jJ 7
def Hr:aM->Str
 |.inr a::_=>a
 |_=>⟨#[]⟩
def MG:aM->Str × Str
 |[.inr a,.inr b]=>(a,b)
 |_=>(⟨#[]⟩,⟨#[]⟩)
def aI(hs:Xa):ae:=(aU (hs.map kH)).map Hr
def aD(ts:Xb):Xb:=(aU (ts.map λt=>kT (aL t.1 t.2))).map MG
theorem IR(ts:Xb):(aD ts).map kT=aU (ts.map λt=>kT (aL t.1 t.2)):=by
 unfold aD;rw[cm]
 have all:∀k∈aU (ts.map λt=>kT (aL t.1 t.2)),∃t:Str × Str,k=kT t:=λk hk=>by
  let#[t,_,e]:=bj.mp ((mK _).mem_iff.mp hk);exact#[_,e.symm]
 generalize aU (ts.map λt=>kT (aL t.1 t.2))=l at all
 induction l with
 |nil=>rfl
 |cons k l ih=>
  let#[t,rfl]:=all k cZ;rw[eL,ih λk hk=>all k (dI _ hk)];rfl
theorem Mm(hs:Xa):∀k∈aU (hs.map kH),∃h:Str × Int,h∈hs/\k=kH h:=λk hk=>by
 let#[t,ht,e]:=bj.mp ((mK _).mem_iff.mp hk);exact#[t,ht,e.symm]
theorem WR(hs:Xa):((dM hs).map λkv=>kV kv.1)=(aI hs).map V.str:=by
 unfold dM aI;rw[cm,cm];apply rV λk hk=>?_;let#[h,_,rfl]:=Mm hs k hk;rfl
theorem XF(hs:Xa):(dM hs).map (·.1)=(aI hs).map Sum.inr:=by
 unfold dM aI;rw[cm,cm];apply rV λk hk=>?_;let#[h,_,rfl]:=Mm hs k hk;rfl
theorem gn(hs:Xa):(aI hs).Perm (hs.map (·.1)):=by
 unfold aI;let p:=(mK (hs.map kH)).map Hr;rw[cm] at p;exact p
theorem Yz{κ:Type}[DecidableEq κ]{kvs:List (κ × V)}{k:κ}(h:k∈kvs.map (·.1)):(bM kvs k).isSome=true:=by
 rw[<- Im];let#[p,hp,e]:=bj.mp h;exact List.any_eq_true.mpr #[p,hp,cc e]
theorem Ll{hs:Xa}{n:Str}:(bM (dM hs) (Sum.inr n)).isSome=decide (n∈hs.map (·.1)):=by
 by_cases h:n∈hs.map (·.1)
 ·rw[cc h];apply Yz ?_;rw[XF];exact bj.mpr #[n,(gn hs).mem_iff.mpr h,Z]
 ·rw[dS h,AO]
  ·rfl
  ·rw[XF];intro m;let#[x,hx,e]:=bj.mp m;cases e;exact h ((gn hs).mem_iff.mp hx)
theorem NW:¬((wX:Str)="sorted_pairs"):=by decide +kernel
theorem NV:¬((wX:Str)=Cv):=by decide +kernel
theorem n23:¬(("sorted_pairs":Str)=Cv):=by decide +kernel
def dm(d1 l2 d3:Addr):List (Str × V):=aH Cv (.ref d3) (aH "sorted_pairs" (.ref l2) (aH wX (.ref d1) []))
theorem Lg(d1 l2 d3:Addr):(dm d1 l2 d3).lookup (wX:Str)=some (.ref d1):=by
 unfold dm;rw[fH,aq NV,fH,aq NW,fH,aA Z]
theorem lW_(d1 l2 d3:Addr):(dm d1 l2 d3).lookup ("sorted_pairs":Str)=some (.ref l2):=by
 unfold dm;rw[fH,aq n23,fH,aA Z]
theorem Px(d1 l2 d3:Addr):(dm d1 l2 d3).lookup (Cv:Str)=some (.ref d3):=by
 unfold dm;rw[fH,aA Z]
variable{m:Str}
theorem j5(d1 l2 d3:Addr)(h1:¬m=wX)(h2:¬m="sorted_pairs")(h3:¬m=Cv):(dm d1 l2 d3).lookup m=none:=by
 unfold dm;rw[fH,aq h3,fH,aq h2,fH,aq h1]
 all_goals rfl
structure g9 (K:af) (C:Addr) (H:Hp) (p:Addr) (hs:Xa) (ts:Xb) (fp:ay):Prop where
 ex:∃(dx d1 l2 d3:Addr) (zs:ai) (as:ay),fp=p::d1::l2::d3::as/\H p=some (.ins C dx (dm d1 l2 d3))/\H d1=some (.dK (dM hs))/\H l2=some (.lst zs)/\bg K H zs ((aD ts).map kT)/\H d3=some (.dK (jX (aI hs) as))/\as.length=(aI hs).length /\
  ∀(i:Nat) n a,(aI hs)[i]? = some n->as[i]? = some a->H a=some (.lst ((near (aI hs) (aD ts) n).map V.str))
variable{H':Hp}
theorem g9.keep{K:af}{C:Addr}{H:Hp}{p:Addr}{hs:Xa}{ts:Xb}{fp:ay}(W:g9 K C H p hs ts fp)(k:∀b∈fp,∀o,H b=some o->H' b=some o)(kt:∀b xs,H b=some (.tup xs)->H' b=some (.tup xs)):g9 K C H' p hs ts fp:=by
 let#[dx,d1,l2,d3,zs,as,rfl,h1,h2,h3,h4,h5,h6,h7]:=W.ex;apply#[dx,d1,l2,d3,zs,as,Z,k _ Z2 _ h1,k _ Z2 _ h2,k _ Z2 _ h3,Paired.bx h4 λy q ⟨a,e,z⟩=>#[a,e,kt _ _ z],k _ Z2 _ h5,h6,λi n a e1 e2=>k _ ?_ _ (h7 i n a e1 e2)];have:=cw e2;simp[this]
theorem g9.same{K:af}{C:Addr}{H:Hp}{p:Addr}{hs:Xa}{ts:Xb}{fp:ay}(W:g9 K C H p hs ts fp)(s:aa H H'):g9 K C H' p hs ts fp:=W.keep (λb _ o e=>s b o e) λb xs e=>s b _ e
structure Good (hs:Xa) (ts:Xb):Prop where
 aN:∀h∈hs,Am h
 qe:(hs.map (·.1)).Nodup
 h1:1<=hs.length
 h8:hs.length<=8
 tok:∀t∈ts,Co t
 A3:(ts.map λt=>kT (aL t.1 t.2)).Nodup
 pE:ts.length<64
 qS:∀t∈ts,t.1∈hs.map (·.1)/\t.2∈hs.map (·.1)
theorem Good.r9{hs:Xa}{ts:Xb}(G:Good hs ts):(aI hs).Nodup:=(gn hs).nodup_iff.mpr G.qe
theorem Good.fM{hs:Xa}{ts:Xb}(G:Good hs ts):(aI hs).length=hs.length:=by
 rw[(gn hs).length_eq,ao]
theorem C8(ts:Xb):(aD ts).length=ts.length:=by
 unfold aD;rw[ao,(mK _).length_eq,ao]
structure Txt (K:af) (mg:Str->Option Aa) (C:Addr):Prop where
 cl:o8 K C
 nS:mI K C wX
 nP:mI K C "sorted_pairs"
 nN:mI K C Cv
section
variable{P:Ae}{w:Af}{K:af}{mg:Str->Option Aa}{base:Heap}
theorem nB:bD ["self","hands","ties","strengths","checked"] ["self","hands","ties"] (bb ur):=bJ
inductive m_ (K:af) (C:Addr) (vs:ai) (H:Hp) (Q:VK) (E:XK):Prop
 |mk:∀(p dx lh lt:Addr) (ys zs:ai) (hs:Xa) (ts:Xb),vs=[.ref p,.ref lh,.ref lt]->H p=some (.ins C dx [])->H lh=some (.lst ys)->bg K H ys (hs.map kH)->H lt=some (.lst zs)->bg K H zs (ts.map kT)->Good hs ts->(∀fp H',(∀b o,H b=some o->b≠p->H' b=some o)->g9 K C H' p hs ts fp->(∀b∈fp,b=p∨H b=none)->Q .non H')->m_ K C vs H Q E
theorem lj_{C:Addr}(F:bo K "__init__" "Web.__init__" ur f fd)(T:Txt K mg C)(B:Bi mg)(cS:!br 4 "checked_strengths" ["hands"] (zE K))(cT:!br 4 "checked_ties" ["ties","strengths"] (mT K))(cN:!br 2 "neighbours_of_all" ["names","ties"] (mX K)) :
  aj P w K mg base aZ 5 f fd ["self","hands","ties"] (m_ K C):=by
 apply F.bI nB λaR A outer s H vs Q E hr h=>?_
 ·let#[p,dx,lh,lt,ys,zs,hs,ts,rfl,hp,ic,th,dz,tt,G,k]:=h
  apply#[_,ak (aQ 3 nB.nd (aY cS hr %[1|0]))
   (ak (aQ 4 nB.nd (aY cT hr %[2,3|0]))
   (ak (xa (pv 0) (pv 3) Z) (ak (xa (pv 0) (pv 4) Z)
   (aF (xa (pv 0) (aY cN hr %[iD (SE Z) (by rfl) B.list CT %[3|0],4|0]) Z))))),?_]
  apply#[_,Z,lh,ys,hs,Z,ic,th,G.aN,G.qe,G.h1,G.h8,λd1 H1 s1 f1 wL=>?_];apply#[_,Z,_,Z,lt,d1,zs,ts,_,Z,s1 _ _ dz,tt.same s1,G.tok,G.A3,G.pE,wL,λt ht=>?_,λl2 EY H2 s2 f2 oH tz=>?_]
  ·rw[Ll,Ll];exact#[cc (G.qS t ht).1,cc (G.qS t ht).2]
  let B_:=s2 _ _ wL;let qc:=s2 _ _ (s1 _ _ hp);have p1:p≠d1:=cj qc B_ nofun;have p2:p≠l2:=cj qc oH nofun;apply#[_,Z,_,Z,p,C,dx,[],Z,qc,T.cl,T.nS,by show 0<1000;decide,?_];apply#[_,Z,_,Z,p,C,dx,_,Z,az,T.cl,T.nP,by show 1<1000;decide,?_]
  let H3:Hp:=upd (upd H2 p (.ins C dx (aH wX (.ref d1) []))) p (.ins C dx (aH "sorted_pairs" (.ref l2) (aH wX (.ref d1) [])))
  have h3:∀{b o},H2 b=some o->b≠p->H3 b=some o:=λe ne=>by
   show upd (upd H2 p _) p _ _=_;rw[au ne,au ne];exact e
  have PL:H3 p=some (.ins C dx (aH "sorted_pairs" (.ref l2) (aH wX (.ref d1) []))):=az
  have F2:∀{b},H3 b=none->H2 b=none:=λ{b} e=>by
   by_cases z:b=p
   ·subst z;rw[PL] at e;cases e
   ·have e:upd (upd H2 p _) p _ b=none:=e;rw[au z,au z] at e;exact e
  have TN:bg K H3 EY ((aD ts).map kT):=by
   rw[IR];exact Paired.bx tz λy q ⟨a,e,z⟩=>#[a,e,h3 z (cj z qc nofun)]
  apply#[_,Z,d1,_,Z,.inl (h3 B_ p1.symm),λl1 jR=>?_];rw[WR];have s4:aa H3 (upd H3 l1 (.lst ((aI hs).map V.str))):=aa.new jR;have NO:l1≠l2:=(bq (H:=H3) (h3 oH p2.symm) jR).symm;apply#[_,Z,l1,l2,aI hs,EY,aD ts,Z,az,s4 _ _ (h3 oH p2.symm),TN.same s4,G.r9,by rw[G.fM];have:=G.h8;omega,NO,λd3 as H5 s5 f5 la oK lists=>?_];let DH:=s5 _ _ (s4 _ _ PL);apply#[_,Z,p,C,dx,_,Z,DH,T.cl,T.nN,by show 2<1000;decide,?_]
  have up:∀{b o},H2 b=some o->b≠p->upd H5 p (.ins C dx (dm d1 l2 d3)) b=some o:=λe ne=>by
   rw[au ne];exact s5 _ _ (s4 _ _ (h3 e ne))
  have qm:∀{b},upd H3 l1 (.lst ((aI hs).map V.str)) b=none->H b=none:=λe=>s1.free (s2.free (F2 (s4.free e)));have Pm:d3≠p:=(bq (s4 _ _ PL) f5).symm;apply k (p::d1::l2::d3::as) _ (λb o e ne=>up (s2 _ _ (s1 _ _ e)) ne) #[dx,d1,l2,d3,EY,as,Z,az,up B_ p1.symm,up oH p2.symm,?_,?_,la,λi n a e1 e2=>?_] λb hb=>?_
  ·exact Paired.bx (TN.same (s4.trans s5)) λy q ⟨a,e,z⟩=>#[a,e,by rw[au (cj z DH nofun)];exact z]
  ·rw[au Pm];exact oK
  ·let#[q1,q2]:=lists i n a e1 e2;rw[au (cj q2 DH nofun)];exact q2
  ·simp only[bZ] at hb;rcases hb with rfl|rfl|rfl|rfl|hb
   ·exact .inl Z
   ·exact .inr f1
   ·exact .inr (s1.free f2)
   ·exact .inr (qm f5)
   ·let#[i,hi,e]:=rT hb;have e1:as[i]? = some b:=by rw[dG hi,e]
    have hn:i<(aI hs).length:=by omega
    exact .inr (qm (lists i _ b (dG hn) e1).1)
end
structure bG (P:Ae) (w:Af) (K:af) (mg:Str->Option Aa) (base:Heap) (C:Addr) (k:Nat) (m:Str) (ps:ae) (sp:Sp):Prop where
 ex:∃f fd,aj P w K mg base aZ k f fd ps sp/\Meth K C m f/\rJ K fd ps []
variable{o:Expr}{apos:Pos}{ta:TE}{pl:Sem Bool}
theorem fU{C:Addr}(c:bG X.prog X.w X.K X.mg X.base C k m ps sp)(cl:o8 X.K C)(hr:ba k X.A)(he:PE X o ta)(ha:PA X (e::es) t)(BN:starEach (e::es) X.env=(false,eval e X.env)::starEach es X.env:=by rfl)(mm:(backTo pos (starEach es X.env)).any (·.1)=false:=by rfl)(ht:eval (.Call (.Attribute o m apos) (e::es) [] pos) X.env=(do
   let ov <- eval o X.env
   standAt apos.atName
   let (f,first) <- holding [ov] (getMethod ov m pl)
   callWith pos f first (backTo pos (starEach (e::es) X.env)) (backToKw pos (keywordEach [] X.env))):=by rfl) :
  PE X (.Call (.Attribute o m apos) (e::es) [] pos) (pA C m sp [] E0 ta t):=by
 let#[f,fd,F,hm,b]:=c.ex;exact lh_ he cl hm F hr b .nil kK ha BN mm ht
theorem AF{C:Addr}(c:bG X.prog X.w X.K X.mg X.base C k m ps sp)(cl:o8 X.K C)(hr:ba k X.A)(he:PE X o ta)(ht:eval (.Call (.Attribute o m apos) [] [] pos) X.env=(do
   let ov <- eval o X.env
   standAt apos.atName
   let (f,first) <- holding [ov] (getMethod ov m pl)
   callWith pos f first (backTo pos (starEach [] X.env)) (backToKw pos (keywordEach [] X.env))):=by rfl) :
  PE X (.Call (.Attribute o m apos) [] [] pos) (pA C m sp [] E0 ta jI):=by
 let#[f,fd,F,hm,b]:=c.ex;exact iO_ he cl hm F hr b .nil kK ht
theorem gR_{hs:Xa}(nd:(hs.map (·.1)).Nodup){x:Str}{n:Int}(h:(x,n)∈hs):bM (dM hs) (Sum.inr x)=some (.int n):=by
 have m:((Sum.inr x:Key),V.int n)∈dM hs:=by
  unfold dM;apply bj.mpr #[kH (x,n),(mK _).mem_iff.mpr (bj.mpr #[_,h,Z]),Z]
 let nk:=YT nd;generalize dM hs=kvs at m nk
 induction kvs with
 |nil=>cases m
 |cons p r ih=>
  let#[n1,n2]:=rQ.mp nk;rcases bZ.mp m with e|m
  ·rw[<- e];exact C6 Z
  ·rw[C9 (λe:p.1=Sum.inr x=>n1 (bj.mpr #[_,m,e.symm]))];exact ih m n2
variable{as:ay}
theorem iu_(nd:ns.Nodup)(la:as.length=ns.length){i:Nat}{n:Str}(hn:ns[i]? = some n):∃a,as[i]? = some a/\bM (jX ns as) (Sum.inr n)=some (.ref a):=by
 induction ns generalizing as i with
 |nil=>simp at hn
 |cons x ns ih=>
  cases as with
  |nil=>cases la
  |cons b as=>
   let#[n1,n2]:=rQ.mp nd;cases i with
   |zero=>
    have e:x=n:=by simpa using hn
    subst e;exact#[b,Z,C6 Z]
   |succ i=>
    have hn:ns[i]? = some n:=by simpa using hn
    let#[a,h1,h2]:=ih n2 (by simpa using la) hn;apply#[a,by simpa using h1,?_];show bM ((Sum.inr x,V.ref b)::jX ns as) (Sum.inr n)=_;rw[C9 λe=>n1 (by rw[show x=n from ij e];exact cw hn)];exact h2
section
variable{P:Ae}{w:Af}{K:af}{mg:Str->Option Aa}{base:Heap}
theorem zF:bD qv qv (bb ya):=bJ
inductive kE (K:af) (C:Addr) (vs:ai) (H:Hp) (Q:VK) (E:XK):Prop
 |mk:∀(p:Addr) (x:Str) (hs:Xa) (ts:Xb) (fp:ay),vs=[.ref p,.str x]->g9 K C H p hs ts fp->Q (.bl (decide (x∈hs.map (·.1)))) H->kE K C vs H Q E
theorem lV_{C:Addr}(F:bo K "has_hand" "Web.has_hand" ya f fd)(T:Txt K mg C)(B:Bi mg):!aj aZ 1 f fd qv (kE K C):=by
 apply F.bI zF λaR A outer s H vs Q E hr h=>?_
 ·let#[p,x,hs,ts,fp,rfl,W,k]:=h;let hu:=eU hr;let#[dx,d1,l2,d3,zs,as,rfl,h1,h2,h3,h4,h5,h6,h7]:=W.ex;apply#[_,aF (bh (sJ (cX qz (by rfl) B.oF oY %[1,qx (v:=.ty "str") (by rfl) B.str HN Z|0]) (oU (HS (Ek hu (pv 1) (eE (pv 0) Z)))))),?_];apply#[_,Z,_,_,_,_,Z,.str x,Z,_,Z,fo ?_];apply#[_,Z,_,Z,p,C,dx,_,_,Z,h1,T.cl,T.nS,Lg _ _ _,d1,_,Z,.k (k:=Sum.inr x) h2,?_];rw[Ll];exact k
theorem x_:bD iU iU (bb oo):=bJ
inductive Es (K:af) (C:Addr) (vs:ai) (H:Hp) (Q:VK) (E:XK):Prop
 |mk:∀(p:Addr) (hs:Xa) (ts:Xb) (fp:ay),vs=[.ref p]->g9 K C H p hs ts fp->(∀l,H l=none->Q (.ref l) (upd H l (.lst ((aI hs).map V.str))))->Es K C vs H Q E
theorem iX_{C:Addr}(F:bo K "hands" "Web.hands" oo f fd)(T:Txt K mg C)(B:Bi mg):!aj aZ 1 f fd iU (Es K C):=by
 apply F.bI x_ λaR A outer s H vs Q E hr h=>?_
 ·let#[p,hs,ts,fp,rfl,W,k]:=h;let#[dx,d1,l2,d3,zs,as,rfl,h1,h2,h3,h4,h5,h6,h7]:=W.ex;apply#[_,aF (bh (iD (SE Z) (by rfl) B.list CT %[eE (pv 0) Z|0])),?_];apply#[_,Z,p,C,dx,_,_,Z,h1,T.cl,T.nS,Lg _ _ _,d1,_,Z,.inl h2,λl hl=>?_];rw[WR];exact k l hl
theorem fx':bD j9 j9 (bb Rr):=bJ
inductive EK (K:af) (C:Addr) (vs:ai) (H:Hp) (Q:VK) (E:XK):Prop
 |mk:∀(p:Addr) (x:Str) (n:Int) (hs:Xa) (ts:Xb) (fp:ay),vs=[.ref p,.str x]->g9 K C H p hs ts fp->(hs.map (·.1)).Nodup->(x,n)∈hs->Q (.int n) H->EK K C vs H Q E
theorem fu_{C:Addr}(F:bo K "strength" "Web.strength" Rr f fd)(T:Txt K mg C)(cH:!bG C 1 "has_hand" qv (kE K C)):!aj aZ 2 f fd j9 (EK K C):=by
 apply F.bI fx' λaR A outer s H vs Q E hr h=>?_
 ·let#[p,x,n,hs,ts,fp,rfl,W,nd,hx,k]:=h;let hu:=eU hr;let#[dx,d1,l2,d3,zs,as,rfl,h1,h2,h3,h4,h5,h6,h7]:=id W.ex;apply#[_,ak (bQ (hY (gg (fU cH T.cl hr (pv 0) %[1|0]))) fF bR) (aF (bh (cn hu (eE (pv 0) Z) (pv 1)))),?_];apply#[_,Z,p,dx,_,Z,h1,j5 _ _ _ Z0 Z0 Z0,_,Z,p,x,hs,ts,_,Z,W,_,Z,?_];rw[cc (bj.mpr #[_,hx,Z])];apply bu ?_;apply#[_,Z,p,C,dx,_,_,Z,h1,T.cl,T.nS,Lg _ _ _,_,Z,d1,_,Z,?_,k];rw[<- gR_ nd hx];exact .k (k:=Sum.inr x) h2
theorem xW:bD j9 j9 (bb oe):=bJ
inductive Lr (K:af) (C:Addr) (vs:ai) (H:Hp) (Q:VK) (E:XK):Prop
 |mk:∀(p:Addr) (x:Str) (hs:Xa) (ts:Xb) (fp:ay),vs=[.ref p,.str x]->g9 K C H p hs ts fp->(aI hs).Nodup->x∈hs.map (·.1)->(∀l,H l=none->Q (.ref l) (upd H l (.lst ((near (aI hs) (aD ts) x).map V.str))))->Lr K C vs H Q E
theorem UW{H:Hp}{hs:Xa}{ts:Xb}{x:Str}(nd:(aI hs).Nodup)(hx:x∈hs.map (·.1))(la:as.length=(aI hs).length)(h7:∀(i:Nat) n a,(aI hs)[i]? = some n->as[i]? = some a->H a=some (.lst ((near (aI hs) (aD ts) n).map V.str))):∃a,bM (jX (aI hs) as) (Sum.inr x)=some (.ref a)/\H a=some (.lst ((near (aI hs) (aD ts) x).map V.str)):=by
 let#[i,hi,e]:=rT ((gn hs).mem_iff.mpr hx);have hn:(aI hs)[i]? = some x:=by rw[dG hi,e]
 let#[a,h1,h2]:=iu_ nd la hn;exact⟨a,h2,h7 i x a hn h1⟩
theorem iL_{C:Addr}(F:bo K "neighbours" "Web.neighbours" oe f fd)(T:Txt K mg C)(B:Bi mg)(cH:!bG C 1 "has_hand" qv (kE K C)):!aj aZ 2 f fd j9 (Lr K C):=by
 apply F.bI xW λaR A outer s H vs Q E hr h=>?_
 ·let#[p,x,hs,ts,fp,rfl,W,nd,hx,k]:=h;let hu:=eU hr;let#[dx,d1,l2,d3,zs,as,rfl,h1,h2,h3,h4,h5,h6,h7]:=id W.ex;let#[a,e1,ha]:=UW nd hx h6 h7;apply#[_,ak (bQ (hY (gg (fU cH T.cl hr (pv 0) %[1|0]))) fF bR) (aF (bh (iD eV_ (by rfl) B.list CT %[cn hu (eE (pv 0) Z) (pv 1)|0]))),?_];apply#[_,Z,p,dx,_,Z,h1,j5 _ _ _ Z0 Z0 Z0,_,Z,p,x,hs,ts,_,Z,W,_,Z,?_];rw[cc hx];apply bu ?_;apply#[_,Z,p,C,dx,_,_,Z,h1,T.cl,T.nN,Px _ _ _,_,Z,d3,.ref a,Z,?_,a,_,Z,.inl (.of ha),k];rw[<- e1];exact .k (k:=Sum.inr x) h5
theorem Bb:bD mw mw (bb ue):=bJ
theorem C7{H:Hp}:∀ns:ae,Paired (rS H) (ns.map V.str) ns
 |[]=>.nil
 |_::ns=>.cons Z (C7 ns)
theorem xT:bD iU iU (bb nO):=bJ
inductive Qa (K:af) (C:Addr) (vs:ai) (H:Hp) (Q:VK) (E:XK):Prop
 |mk:∀(p:Addr) (hs:Xa) (ts:Xb) (fp:ay),vs=[.ref p]->g9 K C H p hs ts fp->ts.length<64->(∀l zs H',aa H H'->H l=none->H' l=some (.lst zs)->bg K H' zs ((aD ts).map kT)->Q (.ref l) H')->Qa K C vs H Q E
theorem jE_{C:Addr}(F:bo K "ties" "Web.ties" nO f fd)(T:Txt K mg C)(cA:!br 1 "ties_anew" ["ties"] (tP K)):!aj aZ 2 f fd iU (Qa K C):=by
 apply F.bI xT λaR A outer s H vs Q E hr h=>?_
 ·let#[p,hs,ts,fp,rfl,W,dk,k]:=h;let#[dx,d1,l2,d3,zs,as,rfl,h1,h2,h3,h4,h5,h6,h7]:=W.ex;apply#[_,aF (bh (aY cA hr %[eE (pv 0) Z|0])),?_];exact#[_,Z,p,C,dx,_,_,Z,h1,T.cl,T.nP,lW_ _ _ _,l2,zs,aD ts,Z,h3,h4,by rw[C8];omega,k]
theorem Bg:bD iU iU (bb uk):=bJ
def fO(hs:Xa)(ts:Xb):List Int:=(aI hs).map λn=>((near (aI hs) (aD ts) n).length:Int)
inductive mZ (K:af) (C:Addr) (vs:ai) (H:Hp) (Q:VK) (E:XK):Prop
 |mk:∀(p:Addr) (hs:Xa) (ts:Xb) (fp:ay),vs=[.ref p]->g9 K C H p hs ts fp->0<(aI hs).length->(aI hs).length<=1000->(∀m H',aa H H'->m∈fO hs ts->(∀a∈fO hs ts,a<=m)->Q (.int m) H')->mZ K C vs H Q E
theorem kE_{C:Addr}(F:bo K "most_neighbours" "Web.most_neighbours" uk f fd)(T:Txt K mg C)(B:Bi mg):!aj aZ 1 f fd iU (mZ K C):=by
 apply F.bI Bg λaR A outer s H vs Q E hr h=>?_
 ·let#[p,hs,ts,fp,rfl,W,h0,h8,k]:=h;let sz:=b_;let#[dx,d1,l2,d3,zs,as,rfl,h1,h2,h3,h4,h5,h6,h7]:=W.ex
  apply#[_,aF (bh (cX (XQ Z) (by rfl) B.max Eh %[VC (i8 ["row"] 1 [] (Vs (Yi (eE (pv 0) Z))) (λfp s H=>fw (i:=0) (show (["row"]:ae).Nodup by decide +kernel) Z (Or.inl Z)) (λfp s H=>iY)
   (λfp s H=>cX (IC (K:=K)) (by rfl) B.len jk %[0|0]))|0])),?_]
  apply#[d3,_,h5,_,Z,p,C,dx,_,_,Z,h1,T.cl,T.nN,Px _ _ _,d3,_,Z,h5,λv hv=>?_];have s1:aa H (upd H v (vO v d3)):=aa.new hv;apply#[v,d3,_,Z,az,s1 _ _ h5,λo D hD=>?_]
  have lk:(jX (aI hs) as).length=(aI hs).length:=by
   unfold jX;rw[ao,List.length_zip];omega
  have vN:∀{b u},H b=some u->u≠.dK (jX (aI hs) as)->upd (upd H v (vO v d3)) d3 (.frz o (.dK (jX (aI hs) as))) b=some u:=λe ne=>by
   rw[au (cj e h5 ne)];exact s1 _ _ e
  apply AN (own:=1) (fv:=[]) Z d_ (aI hs).length (λi out H'=>aa (upd (upd H v (vO v d3)) d3 (.frz o (.dK (jX (aI hs) as)))) H'/\H' D=some (.lst out)/\out=((fO hs ts).take i).map V.int) #[aa.new hD,az,Z] (λout H' ⟨sm,eQ,eo⟩=>?_) (λi out H' hi ⟨sm,eQ,eo⟩=>?_)
  ·let hf:=sm _ _ (show upd (upd H v (vO v d3)) d3 (.frz o (.dK (jX (aI hs) as))) d3=some _ from az);have Dd:D≠d3:=cj eQ hf nofun;have ll:(fO hs ts).length=(aI hs).length:=by unfold fO;rw[ao]
   rw[<- ll,dP] at eo;apply#[#[hf,by omega],o,hf,D,fO hs ts,Z,.of ?_,by omega,λm hm hle=>k m _ (λb u e=>?_) hm hle]
   ·rw[au Dd,eQ,eo]
   ·by_cases z:b=d3
    ·subst z;rw[az,<- h5];exact e
    ·rw[au z];exact sm _ _ (by rw[au z];exact s1 _ _ e)
  ·let hf:=sm _ _ (show upd (upd H v (vO v d3)) d3 (.frz o (.dK (jX (aI hs) as))) d3=some _ from az);apply#[#[hf,by omega],λx H2 y=>?_];let#[eH,kk,hk]:=y;subst eH;have hn:(aI hs)[i]? = some (aI hs)[i]:=dG hi;have ha:as[i]? = some (as[i]' Z1):=dG Z1
   have ex:x=.ref (as[i]' Z1):=by
    unfold jX at hk;rw[dW,dG (by rw[List.length_zip];omega),List.getElem_zip] at hk;exact (Prod.mk.inj (eK hk)).2.symm
   subst ex;let BP:=h7 i _ _ hn ha;apply#[_,Z,Z,λNx hN=>d9 ?_];apply#[_,Z,_,_,Z,.inl (.of (sm _ _ (vN BP nofun))),out,eQ,?_,hN _ _ #[gf sm hD,az,?_]]
   ·rw[eo,ao,dg];unfold fO;rw[ao];omega
   ·rw[AQ _ (show (fO hs ts)[i]? = some (((near (aI hs) (aD ts) (aI hs)[i]).length:Nat):Int) by unfold fO;rw[dW,hn];rfl),eo,ao]
end
end Ev
namespace L2
open PySem PySem.Spec PyProof.Rows PySem.W
def Kc(K:af)(a:Addr):It:=
 #[λi H=>∃xs x,eG K H a xs/\xs[i]? = some x,λi H y H'=>∃t x,y=.ref t/\H t=none/\(∀xs,eG K H a xs->xs[i]? = some x)/\H'=upd H t (.tup [.int i,x]),λi H=>∃xs,eG K H a xs/\xs.length=i]
variable{X:Cx}{pins:List (Addr × Obj)}{σ:St}{s:Ab}{h':Heap}{t':Nat}{fp:ay}
theorem Inv.pf{H:Hp}{T:Addr}{xs:ai}{its:ax}(I:Inv X pins σ H s)(k:∀b o,b∉fp->s.heap.get? b=some o->h'.get? b=some o)(hf:∀b∈fp,dH X pins H b)(hT:s.heap.objs.size<=T)(hz:xs.length<=sizeLine)(r:Vals xs its)(ht:IsTup h' T its.toArray/\∃o,h'.get? T=some o/\o.dict=none):Inv X pins σ (upd H T (.tup xs)) { s with heap:=h',toks:=t' }:=by
 have fT:H T=none:=I.aN.fresh hT;have nf:∀b u,H b=some u->b∉fp:=λb u e hb=>by rw[(hf b hb).1] at e;cases e
 have old:∀{b u},H b=some u->upd H T (.tup xs) b=some u:=λe=>by rw[au (bq e fT)];exact e
 apply I.step (g':=s.gens) (d':=s.drawn) (ch:=fp) (λb hb=>?_) (λb o _ _ hc e _=>k b o hc e) (λb o _ _ hc e _=>#[o.slots,k b o hc e]) (λb o _ e n=>?_)
  (λb o hc e=>#[o,k b o hc e]) (λb ys e=>old e) (λb o u e=>old e) (λb ps e=>#[#[],by rw[Array.append_empty];exact old e]) (λm hm=>?_) (λb u e=>?_) I.bare
 ·let#[f0,f1,f2,f3,f4,f5]:=hf b hb;exact#[f3,f1,f4,f5]
 ·rw[au (λz=>by subst z;exact absurd (cQ e) (Nat.not_lt.mpr hT))];exact n
 ·let#[o,es,ep,ho,r]:=hm;exact#[o,es,ep,k _ o (λhb=>(hf _ hb).2.1 Z) ho,r]
 ·by_cases z:b=T
  ·subst z;rw[az] at e;cases e;exact#[hz,its,r,ht]
  ·rw[au z] at e;apply (I.aN b u e).fe (λc v hc q=>k c v ?_ q) (λ_ q=>old q) λ_ _ q=>old q;rcases hc with z|z
   ·rw[z];exact nf b u e
   ·exact nf c _ z
theorem Inv.jG{H:Hp}(I:Inv X pins σ H s)(k:∀b o,b∉fp->s.heap.get? b=some o->h'.get? b=some o)(hf:∀b∈fp,dH X pins H b):Inv X pins σ H { s with heap:=h',toks:=t' }:=by
 have nf:∀b u,H b=some u->b∉fp:=λb u e hb=>by rw[(hf b hb).1] at e;cases e
 apply I.step (g':=s.gens) (d':=s.drawn) (ch:=fp) (λb hb=>?_) (λb o _ _ hc e _=>k b o hc e) (λb o _ _ hc e _=>#[o.slots,k b o hc e]) (λb o _ e n=>n)
  (λb o hc e=>#[o,k b o hc e]) (λb ys e=>e) (λb o u e=>e) (λb ps e=>#[#[],by rw[Array.append_empty];exact e]) (λm hm=>?_) (λb u e=>?_) I.bare
 ·let#[f0,f1,f2,f3,f4,f5]:=hf b hb;exact#[f3,f1,f4,f5]
 ·let#[o,es,ep,ho,r]:=hm;exact#[o,es,ep,k _ o (λhb=>(hf _ hb).2.1 Z) ho,r]
 ·apply (I.aN b u e).fe (λc v hc q=>k c v ?_ q) (λ_ q=>q) λ_ _ q=>q;rcases hc with z|z
  ·rw[z];exact nf b u e
  ·exact nf c _ z
variable{elts:List Expr}{pos:Pos}
theorem i9_{P:Ae}{w:Af}{K:af}{k:Nat}(a e it:Addr)(h1:e≠it)(h2:a≠e)(h3:a≠it):Turn P w K (.Tuple elts k pos) (Kc K a) [e,it] e (λi h=>(∃old,IsEnum h e it i old)/\h.IsListIter it a i) where
 mem:=by simp
 obj:=λi h st b hb=>by
  let#[#[old,q],o,e2,c,d]:=st;rcases bZ.mp hb with rfl|hb
  ·exact#[_,q,λv z=>by cases z]
  ·obtain rfl:b=it:=by simpa using hb
   exact#[o,e2,λv z=>by rw[d] at z;cases z]
 keep:=λi h h' st kk=>by
  let#[#[old,q],fI]:=st;exact#[#[old,kk e Z2 _ q],fI.at λo q2=>kk it Z2 o q2]
 item:=by
  intro X hP hw hK hc i pins s σ H E I hf st hg;subst hP hw hK;let#[xs,x,hq,hx]:=hg;let#[its,rv,p,hz]:=I.list hq;let#[u,hu,ru]:=rv.get hx;let W:=WalksT.enumerate (prog:=X.prog) (w:=X.w) (A:=X.A) (I.ok.hd hc) e it a h1 h2 h3 its.toArray
  have hi:i<its.toArray.size:=by
   simp only[dQ];exact (cy.mp hu).1
  let#[old,he]:=st.1;let hit:=st.2;apply wpAny_pyNext_enum_item he hit p.isList (x:=u) (by rw[List.getElem?_toArray];exact hu) h1 λh' ho B3 K2 hsz hk=>?_;have Pe:e<s.heap.objs.size:=cQ he;have O6:it<s.heap.objs.size:=by let#[_,x,_]:=hit;exact cQ x
  have mid:(∃x,IsEnumOut h' e it ((i:Int)+1) x s.heap.objs.size)/\h'.IsListIter it a (i+1)/\h'.IsList a its.toArray/\s.heap.objs.size≠e/\s.heap.objs.size≠it:=#[#[_,ho],B3,p.isList.at λo x=>hk a o h2 h3 x,xm Pe,xm O6];have kk:∀b o,b∉[e,it]->s.heap.get? b=some o->h'.get? b=some o:=λb o hb x=>hk b o (λe'=>hb (by simp[e'])) (λe'=>hb (by simp[e'])) x;have Ot:h'.IsTuple s.heap.objs.size (List.toArray [.int i s.toks,u]):=#[_,K2,Z,_,Z];obtain⟨T,eT⟩:∃T,T=s.heap.objs.size:=#[_,Z];obtain⟨t,et⟩:∃t,t=s.toks:=#[_,Z];obtain⟨tk,KR⟩:∃tk,tk=s.toks+1:=#[_,Z];rw[<- eT] at Ot mid K2 ⊢;have hT:s.heap.objs.size<=T:=Nat.le_of_eq eT.symm;rw[<- et] at Ot K2;rw[<- KR];apply#[_,Z,W.go elts k pos i T { s with heap:=h',toks:=tk } _ _ mid λj7 fJ On=>?_];have nT:T∉[e,it]:=W.apart i T h' mid
  have Os:j7.IsTuple T (List.toArray [.int i t,u]):=by
   let#[o,q,r]:=Ot;exact#[o,On T o nT q,r]
  have I1:Inv X pins σ (upd H T (.tup [.int i,x])) { s with heap:=j7,toks:=tk }:=I.pf (t':=tk) (fp:=[e,it]) (its:=[.int i t,u]) (λb o hb q=>On b o hb (kk b o hb q)) hf hT (zl) (.cons #[t,Z] (.cons ru .nil)) #[Os,_,On T _ nT K2,Z];apply#[.ref T,_,I1,Z,#[T,x,Z,I.aN.fresh hT,λys hy=>by rw[I.kW hy hq];exact hx,Z],#[?_,fJ.2.1],λb hb=>?_]
  ·let#[old,q]:=fJ.1;exact#[old,by simpa using q]
  ·rw[au (λz:b=T=>nT (by rw[<- z];exact hb))];exact (hf b hb).1
 done:=by
  intro X hP hw hK hc i pins s σ H E I hf st hg;subst hP hw hK;let#[xs,hq,hx]:=hg;let#[its,rv,p,hz]:=I.list hq;let W:=WalksT.enumerate (prog:=X.prog) (w:=X.w) (A:=X.A) (I.ok.hd hc) e it a h1 h2 h3 its.toArray
  have hn:its.toArray.size=i:=by
   have:=rv.length;simp only[dQ];omega
  apply W.done s _ _ (by rw[hn];exact#[st.1,st.2,p.isList]) λh' tk kk=>#[Z,I.jG (t':=tk) (fp:=[e,it]) kk hf]
 self:=λA i s Q E st h=>by
  let#[old,q]:=st.1;exact wpAny_pyIter_enum q h
inductive vd (K:af) (R:It->Hp->Prop) (vs:ai) (H1:Hp):Prop
 |mk:∀a,vs=[.ref a]->(∃xs,eG K H1 a xs)->R (Kc K a) H1->vd K R vs H1
def Gz(K:af)(ta:TA):TI:=λσ H R=>ta σ H λvs H1=>vd K R vs H1
theorem V2{kk:Nat}{p2:Pos}{a:Expr}{ta:TA}{p:Pos}(hg:Gl X "enumerate")(hm:X.mg "enumerate"=none)(ha:PA X [a] ta)(hs:starEach [a] X.env=[(false,eval a X.env)]:=by rfl):PI X (.Tuple elts kk p2) (.Call (.Name "enumerate" p) [a] [] pos) (Gz X.K ta):=by
 intro pins s σ H R I h;apply Call_ (Ej I hg hm boot_enumerate (PyProof.Rows.callWith_type1 (a_ (ha pos pins s σ H _ I h) λus s1 ⟨vs,H1,I1,r1,q1⟩=>?_) hs Z));let#[l,e,#[xs,hq],q]:=q1;subst e;cases r1 with
 |cons r rr=>
  cases rr;cases r;let#[its,rv,pl,hz]:=I1.list hq;have ll:l<s1.heap.objs.size:=by let#[_,e,_]:=pl.isList;exact cQ e
  apply call_enumerate_list pl.isList λh' he hi hn kp=>?_;apply wpAny_pyIter_enum he ?_;apply#[s1.heap.objs.size+1,[s1.heap.objs.size+1,s1.heap.objs.size],_,_,H1,Z,I1.kept (t':=s1.toks) kp,i9_ l _ _ (Nat.succ_ne_self _) (eV (Nat.lt_succ_of_lt ll)) (eV ll),#[#[_,he],hi],λb hb=>?_,q]
  have e:s1.heap.objs.size<=b:=by
   rcases bZ.mp hb with rfl|hb
   ·exact Nat.le_succ _
   ·obtain rfl:b=s1.heap.objs.size:=by simpa using hb
    exact bp _
  exact I1.jT e (I1.aN.fresh e)
theorem XR{K:af}{a:Addr}{xs:ai}{g:TG}{tb:TS}{D:Ends}{H:Hp}(Pv:bL)(h0:Pv 0 σ H)(hl:∀i σ H,i<=xs.length->Pv i σ H->eG K H a xs)(hs:∀i x σ H,xs[i]? = some x->Pv i σ H->∀t,H t=none->g (.ref t) σ (upd H t (.tup [.int i,x])) λgO H2=>tb { D with nx:=Pv (i+1),ct:=Pv (i+1),bk:=D.nx } gO H2)(hd:∀σ H,Pv xs.length σ H->D.nx σ H) :
  ∃W:Nat->Nat->St->Hp->Prop,(∃m,W 0 m σ H)/\∀i m σ H,W i m σ H->
   ((Kc K a).stop i H/\D.nx σ H)∨((Kc K a).go i H/\∃N:St->Hp->Prop,(∀bw H',N bw H'->∃m',m'<m/\W (i+1) m' bw H')/\∀x H',(Kc K a).xF i H x H'->g x σ H' λgO H2=>tb { D with nx:=N,ct:=N,bk:=D.nx } gO H2):=by
 apply#[λi m σ H=>m=xs.length - i/\i<=xs.length/\Pv i σ H,#[xs.length,by simp,gG _,h0],?_];rintro i m σ H ⟨rfl,hi,p⟩;let q:=hl i σ H hi p;by_cases dz:i<xs.length
 ·apply .inr #[#[xs,xs[i],q,by simp[dz]],Pv (i+1),λbw H' p'=>#[xs.length - (i+1),by omega,Z,dz,p'],λx H' y=>?_];let#[t,x,rfl,ht,y,rfl]:=y;exact hs i x σ H (y xs q) p t ht
 ·have e:i=xs.length:=by omega
  subst e;exact .inl #[#[xs,q,Z],hd σ H p]
theorem Eg(a b c:Str):DF (.str a) [.str b,.str c]=(decide (b=a) || decide (c=a)):=by
 have e:∀x y:Str,jV (.str x) (.str y)=decide (x=y):=λx y=>by
  have:=W7 (a:=Sum.inr x) (b:=Sum.inr y) Z;rw[show jV (.str x) (.str y)=jV (kV (Sum.inr x)) (kV (Sum.inr y)) from Z,this];by_cases z:x=y
  ·simp[z]
  ·simp[z]
 unfold DF;simp only[List.any_cons,List.any_nil,Bool.or_false,e]
section
variable{M:Model}{A:Ag}{E:Aa->Ab->Prop}{s:Ab}{base:Heap}{env:Env}{outer:List Env}{L e:Addr}{cls cx fl:Aa}{Q:Unit->Ab->Prop}
end
section
variable{P:Ae}{w:Af}{H H':Hp}{B h0 h h1:Heap}{l:List Env}
end
section
variable{X:Cx}{pins:List (Addr × Obj)}{σ:St}{H H':Hp}{s s1:Ab}{B h:Heap}{a:Addr}{cls a0:Aa}{E:XK}
end
section
variable{P:Ae}{w:Af}{K:af}{mg:Str->Option Aa}{base:Heap}{N:ae}{qual:Str}{scope:Scope}{f:Addr}{cd:Aa}{A:Ag}{outer:List Env}{s:Ab}{H:Hp}{E:XK}
end
section
variable{P:Ae}{w:Af}{K:af}{mg:Str->Option Aa}{base:Heap}
end
open PySem.Calls Builtin Builtin.ObjectAttr Builtin.Getset_descriptor
structure TF (K:af) (C:Addr):Prop where
 cl:(clsIn K C).isSome=true
 ga:findIn K (.ref C) "__getattribute__"=some (some (.builtin "BaseException.__getattribute__"))
 ha:findIn K (.ref C) "__getattr__"=some none
 ca:findIn K (.ref C) "__class__"=some (some (.builtin "object.__class__"))
 gt:specialIn K (.builtin "object.__class__") "__get__"=some (some (.builtin "getset_descriptor.__get__"))
 tk:takesIn K (.builtin "object.__class__")=some true
 mo:mroIn K C (.type "object")=some true
 mb:mroIn K C (.type "BaseException")=some true
section
variable{prog:Ae}{w:Af}{A:Ag}{E:Aa->Ab->Prop}{s:Ab}{K:af}{x C:Addr}
end
inductive zM (K:af) (xs:ai) (H:Hp) (Q:VK):Prop
 |mk:∀x C t b,xs=[x,.ref C]->gi K H x t->PySem.W.kitOne K t (.ref C)=some b->Q (.bl b) H->zM K xs H Q
theorem gU_:gY X (.builtin "isinstance") (zM X.K):=by
 intro pins s σ H xs us Q I r h;let#[x,C,t,b,rfl,ty,e,q]:=h;let#[u,w',rfl,ru,kJ]:=vals2 r;cases (show w'=Value.ref C from kJ);exact Yk I ru ty e λtk=>#[.bl b,H,I.tok tk,Z,q]
end L2
namespace Ev
open PySem L2
abbrev uC:Stmt:=top 63
abbrev ou:Stmt:=top 66
abbrev uq:Stmt:=top 68
abbrev Nj:Stmt:=top 20
abbrev Ql:Stmt:=top 29
abbrev nF:Stmt:=top 30
abbrev oh:Stmt:=top 64
abbrev nQ:Stmt:=top 65
abbrev og:Stmt:=top 67
abbrev ow:Stmt:=top 58
abbrev QX:Stmt:=top 59
abbrev RN:Stmt:=top 60
abbrev HG:Stmt:=top 61
abbrev Qf:Stmt:=top 23
abbrev RM:Stmt:=top 24
abbrev Ni:Stmt:=top 21
abbrev uj:Stmt:=top 25
abbrev QS:Stmt:=top 26
abbrev Ry:Stmt:=top 54
abbrev Re:Stmt:=top 13
abbrev jc:Stmt:=top 31
abbrev K9:Stmt:=top 32
abbrev uy:Stmt:=top 33
abbrev Bs:Stmt:=top 34
abbrev Bq:Stmt:=top 35
abbrev Qx:Stmt:=top 36
abbrev RW:Stmt:=top 37
abbrev Rx:Stmt:=top 38
abbrev HX:Stmt:=top 39
abbrev RO:Stmt:=top 40
abbrev kF:Stmt:=top 41
abbrev Q0:Stmt:=top 42
abbrev Rt:Stmt:=top 43
abbrev RH:Stmt:=top 69
abbrev nJ:Stmt:=top 70
abbrev QM:Stmt:=top 71
abbrev nE:Stmt:=top 73
abbrev uu:Stmt:=top 74
abbrev uA:Stmt:=top 75
abbrev um:Stmt:=top 76
abbrev oj:Stmt:=top 77
abbrev Bt:Stmt:=top 78
abbrev uD:Stmt:=top 79
abbrev Rb:Stmt:=top 80
abbrev oy:Stmt:=top 81
abbrev RC:Stmt:=top 82
abbrev Qm:Stmt:=top 84
abbrev nX:Stmt:=top 83
abbrev Rg:Stmt:=top 85
abbrev QF:Stmt:=top 88
abbrev nZ:Stmt:=top 45
abbrev nR:Stmt:=top 46
abbrev QJ:Stmt:=top 89
abbrev nM:Stmt:=top 86
abbrev uf:Stmt:=top 87
abbrev uz:Stmt:=top 72
abbrev iI:Stmt:=top 90
def aX(l:Addr)(H H':Hp):Prop:=∀b o,H b=some o->b≠l->H' b=some o
theorem aX.refl(l:Addr)(H:Hp):aX l H H:=λ_ _ e _=>e
variable{l:Addr}{H H1:Hp}
theorem aX.trans{H2:Hp}(h:aX l H H1)(h2:aX l H1 H2):aX l H H2:=λb o e n=>h2 b o (h b o e n) n
theorem aX.of(h:aa H H1):aX l H H1:=λb o e _=>h b o e
theorem aX.upd{o:HO}:aX l H (upd H l o):=λb u e n=>by rw[au n];exact e
def dJ(H:Hp)(l:Addr):Prop:=∃a b c:Int,H l=some (.lst [.int a,.int b,.int c])
theorem dJ.some(h:dJ H l):∃xs,H l=some (.lst xs):=by
 let#[a,b,c,e]:=h;exact#[_,e]
variable{H':Hp}
theorem dJ.same(h:dJ H l)(s:aa H H'):dJ H' l:=by
 let#[a,b,c,e]:=h;exact#[a,b,c,s _ _ e]
theorem dJ.ne{a:Addr}(h:dJ H l)(e:H a=none):a≠l:=by
 rintro rfl;let#[x,y,z,h]:=h;rw[e] at h;cases h
theorem aX.free{b:Addr}(h:aX l H H')(s:dJ H' l)(e:H' b=none):H b=none:=by
 cases z:H b with
 |none=>rfl
 |some o=>
  by_cases q:b=l
  ·subst q;let#[x,y,u,s]:=s;rw[e] at s;cases s
  ·rw[h b o z q] at e;cases e
theorem iT{α:Type}{xs:List α}{i:Int}(h0:0<=i)(h1:i<xs.length):gF xs i=xs[i.toNat]?:=by
 unfold gF zY;rw[aA h0,aA h1];rfl
theorem jh_:(Ec:Str).cps.toList=[97,98,99,100,101,102,103,104,105,106,107,108,109,110,111,112,113,114,115,116,117,118,119,120,121,122]:=by decide +kernel
def D_{α:Type}(l:List α)(k:Nat)(x:α):List α:=l.take k++x::l.drop k
theorem SL{α:Type}(l:List α)(k:Nat)(x:α):(D_ l k x).Perm (x::l):=by
 unfold D_;apply List.perm_middle.trans ?_;rw[List.take_append_drop]
theorem iw_{α:Type}(l:List α)(k:Nat)(x:α):(D_ l k x).length=l.length+1:=(SL l k x).length_eq
theorem yB{α:Type}{a b:α}{r:Int}(h0:0<=r)(h1:r<2):gF [a,b] r=some a∨gF [a,b] r=some b:=by
 have:r=0∨r=1:=by omega
 rcases this with rfl|rfl
 ·exact .inl Z
 ·exact .inr Z
variable{K:af}
theorem vU{ys:ai}{ks:List aM}(t:bg K H ys ks)(b:aX l H H'){xs:ai}(hl:H l=some (.lst xs)):bg K H' ys ks:=Paired.bx t λy k ⟨a,z,q⟩=>#[a,z,b _ _ q (cj q hl nofun)]
variable{ns:ae}
theorem Yn{D:Addr}(h:H D=some (.lst (ns.map V.str))):rL K rS H (.ref D) ns:=#[D,_,Z,.of h,C7 ns]
def kO(t:Str × Str):aM:=kT (aL t.1 t.2)
structure TI (ns:ae) (k j:Nat) (ts:Xb):Prop where
 at':∀t∈ts,∃(a b:Nat) (x y:Str),b<a/\(a<k∨(a=k/\b<j))/\ns[a]? = some x/\ns[b]? = some y/\(t=(x,y)∨t=(y,x))
 nd:(ts.map kO).Nodup
 len:ts.length<=7 * k+j
variable{j k:Nat}{ts:Xb}
theorem TI.skip(h:TI ns k j ts):TI ns k (j+1) ts:=
 #[λt ht=>let #[a,b,x,y,h1,h2,h3,h4,h5]:=h.at' t ht;#[a,b,x,y,h1,by omega,h3,h4,h5],h.nd,by have:=h.len;omega]
theorem TI.next(h:TI ns k k ts)(h7:k<=7):TI ns (k+1) 0 ts:=
 #[λt ht=>let #[a,b,x,y,h1,h2,h3,h4,h5]:=h.at' t ht;#[a,b,x,y,h1,by omega,h3,h4,h5],h.nd,by have:=h.len;omega]
theorem HQ{a b:Str × Str}(h:kT a=kT b):a=b:=by
 unfold kT at h;let#[h1,h2]:=mB h;let#[h2,_]:=mB h2;exact Prod.ext (ij h1) (ij h2)
variable{x:Str}
theorem HZ(nd:ns.Nodup){i:Nat}(h:ns[i]? = some x)(h2:ns[j]? = some x):i=j:=by
 let#[hi,e1]:=cy.mp h;let#[hj,e2]:=cy.mp h2;exact (List.getElem_inj nd).mp (e1.trans e2.symm)
variable{a b:Str}
theorem OS{c d:Str}(h:kO (a,b)=kO (c,d)):(a=c/\b=d)∨(a=d/\b=c):=by
 let h:=HQ h;dsimp only at h;rcases Ln a b with e|e<;>rcases Ln c d with e2|e2<;>rw[e,e2] at h<;>let h1:=(Prod.mk.inj h).1<;>let h2:=(Prod.mk.inj h).2
 ·exact .inl #[h1,h2]
 ·exact .inr #[h1,h2]
 ·exact .inr #[h2,h1]
 ·exact .inl #[h2,h1]
theorem TI.add(h:TI ns k j ts)(nd:ns.Nodup){y:Str}{t:Str × Str}(hj:j<k)(hx:ns[k]? = some x)(hy:ns[j]? = some y)(ht:t=(x,y)∨t=(y,x))(q:Nat):TI ns k (j+1) (D_ ts q t):=by
 apply#[λu hu=>?_,?_,by have:=h.len;rw[iw_];omega]
 ·rcases bZ.mp ((SL _ _ _).mem_iff.mp hu) with rfl|hu
  ·exact#[k,j,x,y,hj,.inr #[Z,by omega],hx,hy,ht]
  ·exact h.skip.at' u hu
 ·apply ((SL ts q t).map kO).nodup_iff.mpr ?_;rw[eL];apply rQ.mpr #[λm=>?_,h.nd];let#[u,hu,e]:=bj.mp m;let#[a,b,c,d,h1,h2,h3,h4,h5]:=h.at' u hu
  have key:(c=x/\d=y)∨(c=y/\d=x):=by
   rcases h5 with rfl|rfl<;>rcases ht with rfl|rfl<;>rcases OS e with⟨q1,q2⟩|⟨q1,q2⟩<;>simp_all
  rcases key with⟨rfl,rfl⟩|⟨rfl,rfl⟩
  ·have:=HZ nd h3 hx;have:=HZ nd h4 hy;omega
  ·have:=HZ nd h3 hy;have:=HZ nd h4 hx;omega
theorem TI.good(h:TI ns k j ts)(nd:ns.Nodup)(ok:∀n∈ns,jD n=true):∀t∈ts,Co t/\t.1∈ns/\t.2∈ns:=λt ht=>by
 let#[a,b,x,y,h1,h2,h3,h4,h5]:=h.at' t ht;let mx:=cw h3;let my:=cw h4
 have ne:x≠y:=λe=>by
  subst e;have:=HZ nd h3 h4;omega
 rcases h5 with rfl|rfl
 ·exact#[#[ok _ mx,ok _ my,ne],mx,my]
 ·exact#[#[ok _ my,ok _ mx,ne.symm],my,mx]
theorem jk_(ns:ae)(k:Nat):gD (ns.map V.str) none (some (k:Int))=(ns.take k).map V.str:=by
 unfold gD;rw[HT.kG,HT.pT,List.drop_zero,Nat.sub_zero,List.map_take,ao];by_cases h:k<=ns.length
 ·rw[Nat.min_eq_left h]
 ·rw[Nat.min_eq_right Z1,y_ (by rw[ao];omega),y_ (by rw[ao];omega)]
theorem P7(a:Str):gR a a=false:=VG (Sum.inr a)
theorem X1(h:gR a b=true):gR b a=false:=Yd (a:=Sum.inr a) (b:=Sum.inr b) h
theorem Vw(h:gR a b=false)(h2:gR b a=false):a=b:=ij (Wf (a:=Sum.inr a) (b:=Sum.inr b) h h2)
theorem Gf(a b:Str):bE (c_ a) (c_ b)=gR a b:=by
 show (if (Sum.inr a:Key)=Sum.inr b then false else gR a b)=gR a b;by_cases h:a=b
 ·subst h;rw[aA Z,P7]
 ·rw[aq λe=>h (ij e)]
def gI(ns:ae):Prop:=ns.Pairwise λa b=>gR b a=false
theorem gI.keys(h:gI ns):o_ (ns.map c_):=by
 unfold o_;rw[oZ];exact h.imp λq=>by rw[Gf];exact q
theorem Zc{a b:ae}(p:a.Perm b)(h1:gI a)(h2:gI b):a=b:=WV (R0 (p.map c_) h1.keys h2.keys)
theorem LX(ss:ae):gI (aV ss):=by
 let h:=Mn (ss.map c_);rw[<- Sz] at h;unfold o_ at h;rw[oZ] at h;exact h.imp λq=>by rw[Gf] at q;exact q
theorem Vz(hs:Xa):gI (aI hs):=by
 unfold aI gI;rw[oZ];apply (Mn (hs.map kH)).imp_of_mem λ{a b} ha hb q=>?_;let#[x,_,rfl]:=Mm hs a ha;let#[y,_,rfl]:=Mm hs b hb;show gR y.1 x.1=false;by_cases h:y.1=x.1
 ·rw[h,P7]
 ·have q:(if (Sum.inr y.1:Key)=Sum.inr x.1 then bE [Sum.inl y.2] [Sum.inl x.2] else gR y.1 x.1)=false:=q;rwa [aq λe=>h (ij e)] at q
theorem gA_(hs:Xa):aI hs=aV (hs.map (·.1)):=Zc ((gn hs).trans (gq _).symm) (Vz hs) (LX _)
theorem LZ(a b:Str):aL a b=aL b a:=by
 unfold aL;by_cases h:gR a b=true
 ·rw[aA h,aq (by rw[X1 h];decide)]
 ·by_cases h2:gR b a=true
  ·rw[aq h,aA h2]
  ·have:=Vw (by simpa using h) (by simpa using h2);subst this;rw[aq h]
theorem Me{x:Str × Str}:x∈aD ts ↔ ∃t∈ts,aL t.1 t.2=x:=by
 have e:kT x∈(aD ts).map kT ↔ x∈aD ts:=#[λh=>by
  let#[y,hy,e]:=bj.mp h;rw[<- HQ e];exact hy,λh=>bj.mpr #[x,h,Z]]
 rw[<- e,IR,(mK _).mem_iff,bj];exact#[λ⟨t,ht,q⟩=>#[t,ht,HQ q],λ⟨t,ht,q⟩=>#[t,ht,by rw[q]]]
theorem P4(a b:Str):kO (a,b)=kO (b,a):=by
 show kT (aL a b)=kT (aL b a);rw[LZ]
end Ev
namespace L2
open PySem PySem.Spec PyProof.Rows
inductive FF (x:V) (lo:Option Int) (hi:Option Int) (H:Hp) (Q:VK):Prop
 |mk:∀z,x=.str z->z.length<=sizeLine->Q (.str (Txt.slice z lo hi)) H->FF x lo hi H Q
variable{X:Cx}
theorem Pz:Tn X FF:=by
 intro pins s σ H x v vl vu lo hi sl Q I rx hs pl pu h;let#[z,rfl,hz,q]:=h;let#[t,rfl]:=rx;apply⟨"str",_,PySem.F.slot_str_getitem.lookup,typeIs_str _ _ _,?_⟩
 have fin:∀lo hi,Q (.str (Txt.slice z lo hi)) H->(Txt.slice z lo hi).length<=sizeLine/\∀t' k,EP X pins σ Q (.str (Txt.slice z lo hi) t') { s with toks:=k }:=λlo hi q=>
  #[qC (Txt.slice_le z _ _) hz,λt' k=>#[.str _,H,I.kept (h':=s.heap) (t':=k) λ_ _ e=>e,#[t',Z],q]]
 cases pl with
 |none=>
  cases pu with
  |none=>exact wpAny_getItem_str_slice (l:=none) (u:=none) (st:=none) hs Z (post_val_or_str (fin _ _ q))
  |int j u=>exact wpAny_getItem_str_slice (l:=none) (u:=some (j,u)) (st:=none) hs Z (post_val_or_str (fin _ _ q))
 |int i u=>
  cases pu with
  |none=>exact wpAny_getItem_str_slice (l:=some (i,u)) (u:=none) (st:=none) hs Z (post_val_or_str (fin _ _ q))
  |int j u'=>exact wpAny_getItem_str_slice (l:=some (i,u)) (u:=some (j,u')) (st:=none) hs Z (post_val_or_str (fin _ _ q))
theorem lT_{x:Str}{j:Nat}(h:j<=x.length):(Txt.slice x none (some (j:Int))).cps.toList=x.cps.toList.take j:=by
 have:=eq_of_beq (slice_closes_toL (x:=x) (j:=(j:Int)) Z1 Z1);rw[this];simp
theorem jD_{x:Str}{i:Nat}(h:i<=x.length):(Txt.slice x (some (i:Int)) none).cps.toList=x.cps.toList.drop i:=by
 rw[slice_from_eq (x:=x) (i:=(i:Int)) (b:=(x.length:Int)) Z1 Z1 Z]
 have:((x.length:Int) - (i:Int)).toNat=x.cps.toList.length - i:=by
  have:x.length=x.cps.toList.length:=by rw[sN];rfl
  omega
 rw[this];simp;rw[y_];simp
open PySem.Builtin PySem.Builtin.Str
theorem XD:∀{ss:ae} {us:ax},Vals (ss.map V.str) us->StrsAre us ss
 |[],_,.nil=>.nil
 |x::ss,_,.cons r rs=>by
  let#[t,rfl]:=r;exact .cons x t (XD rs)
theorem X6:∀(l:List (Str × Tok)),Vals ((l.map (·.1)).map V.str) (strValues l)
 |[]=>.nil
 |(x,t)::l=>.cons #[t,Z] (X6 l)
inductive rJoin (K:af) (x:V) (vs:ai) (H:Hp) (Q:VK):Prop
 |mk:∀(sep:Str) (p:Addr) (ss:ae),x=.str sep->vs=[.ref p]->eG K H p (ss.map V.str)->(ss.map (·.length)).sum+ss.length * sep.length<=16777216->Q (.str (Txt.join sep ss)) H->rJoin K x vs H Q
theorem kQ_:Dp X "str.join" (rJoin X.K):=by
 intro pins s σ H x vs v us Q I rx rv h;let#[sep,p,ss,rfl,rfl,hp,hz,q]:=h;let#[t,rfl]:=rx;let#[u,rfl,ru]:=rv.one;cases (show u=Value.ref p from ru);let#[its,r,ht,_]:=I.list hp;exact join_list ht.isList (XD r) hz λt' k=>#[.str _,H,I.tok k,#[t',Z],q]
open PySem.W
inductive zL (x:V) (y:V) (H:Hp) (Q:VK):Prop
 |mk:∀z n,x=.str z->y=.int n->PySem.MulOk z n->Q (.str (Txt.mul z n)) H->zL x y H Q
theorem lb_:eP X (binaryOp .Mult) zL:=by
 intro pins s σ H x y v u Q I rx ry h;let#[z,n,rfl,rfl,ok,q]:=h;let#[t,rfl]:=rx;let#[t2,rfl]:=ry;exact SB.mul ok λt' k=>#[.str _,H,I.tok _,#[_,Z],q]
end L2
namespace Ev
open PySem L2
theorem vo{α:Type}{p:α->Prop}{xs:List α}{r:Int}{n:Nat}(hn:xs.length=n)(h0:0<=r)(h1:r<(n:Int))(h:∀v∈xs,p v):∃v,gF xs r=some v/\p v:=by
 have hl:r.toNat<xs.length:=by omega
 apply#[xs[r.toNat],?_,h _ (js hl)];rw[iT h0 Z1,dG hl]
theorem Bn:bD qD qD (bb uC):=bJ
def tO(K:af):Sp:=λvs H Q _=>∃(l:Addr) (ns:List Int) (k:Int),vs=[.ref l,.int k]/\0<=k/\eG K H l (ns.map V.int)/\∀n,Q (.int n) H
variable{f:Addr}{fd:Ad}{P:Ae}{w:Af}{K:af}{mg:Str->Option Aa}{base:Heap}
theorem lC_(F:bo K "_law_cell_at" "_law_cell_at" uC f fd)(B:Bi mg):!aj aZ 1 f fd qD (tO K):=by
 apply F.bI Bn λaR A outer s H vs Q E hr h=>?_
 ·let#[l,ns,i,rfl,h0,hl,k]:=h;apply#[_,ak (bQ (cz KO (pv 1) (cX lM (by rfl) B.len jk %[0|0])) (aF (bh (bO fV (pv 0) (pv 1)))) bR) (aF (bh aE)),?_];apply#[_,Z,_,Z,l,_,Z,.inl hl,_,_,Z,Z,_,Z,?_];apply aP (λc=>?_) (λc=>?_)
  ·have c:i<(ns.map V.int).length:=by simpa using c
   have e:gF (ns.map V.int) i=some (.int (ns[i.toNat]'(by rw[ao] at c;omega))):=by
    rw[iT h0 c,dW,dG (by rw[ao] at c;omega)];rfl
   exact#[_,Z,_,Z,l,_,_,_,Z,Z,hl,e,k _]
  ·exact k 0
theorem Q_:bD ["_law_number"] ["_law_number"] (bb oh):=bJ
def pH:Sp:=λvs H Q _=>∃n:Int,vs=[.int n]/\∀r:Int,Q (.int r) H
theorem small(x:Int):-(2 ^ 64)<x % 2147483647/\x % 2147483647<2 ^ 64:=by
 let a:=yW x (show (2147483647:Int)≠0 by decide);let b:=AM x (show (0:Int)<2147483647 by decide);omega
theorem tQ(x:Int):-(2 ^ 64)<x % 2147483647+1/\x % 2147483647+1<2 ^ 64:=by
 let a:=yW x (show (2147483647:Int)≠0 by decide);let b:=AM x (show (0:Int)<2147483647 by decide);omega
theorem jN_(F:bo K "_law_mixed" "_law_mixed" oh f fd):!aj aZ 1 f fd ["_law_number"] pH:=by
 apply F.bI Q_ λaR A outer s H vs Q E hr h=>?_
 ·let#[n,rfl,k]:=h;refine' #[_,ak ?s1 (ak ?s2 ?s3),?kk]
  case s1=>exact aQ 0 Q_.nd (bF vP (bF ji (bF iV (bF vP (pv 0) aE) aE) aE) aE)
  case s2=>exact aQ 0 Q_.nd (bF vP (bF ji (pv 0) (bF iV (bF vL (pv 0) aE) aE)) aE)
  case s3=>exact aF (bh (bF vP (bF ji (bF iV (pv 0) aE) (bF iV (bF vL (pv 0) aE) aE)) aE))
  apply#[_,Z,_,_,Z,Z,by show (0:Int)<2147483647;decide,_,_,Z,Z,_,_,Z,Z,.inl (tQ n),_,_,Z,Z,by show (0:Int)<2147483647;decide,?_];apply#[_,Z,_,Z,_,_,Z,Z,#[by decide,by decide],_,_,Z,Z,_,_,Z,Z,.inl (small _),_,_,Z,Z,by show (0:Int)<2147483647;decide,?_];exact#[_,Z,_,_,Z,Z,_,Z,_,_,Z,Z,#[by decide,by decide],_,_,Z,Z,_,_,Z,Z,.inl (tQ _),_,_,Z,Z,by show (0:Int)<2147483629;decide,k _]
theorem xU:bD ["_law_cell","_law_k"] ["_law_cell","_law_k"] (bb nQ):=bJ
def pG:Sp:=λvs H Q _=>∃(c:Int) (i:Nat),vs=[.int c,.int i]/\i<100/\∀l H',aa H H'->H l=none->dJ H' l->Q (.ref l) H'
theorem jj_(F:bo K "_law_state" "_law_state" nQ f fd):!aj aZ 1 f fd ["_law_cell","_law_k"] pG:=by
 apply F.bI xU λaR A outer s H vs Q E hr h=>?_
 ·let#[c,i,rfl,hi,k]:=h;apply#[_,aF (bh (cO %[bF vL (pv 0) aE,bF vP (pv 0) aE,bF iV (pv 0) (bF ji aE (pv 1))|0])),?_];apply#[_,Z,_,_,Z,Z,#[by decide,by decide],_,Z,_,_,Z,Z,by show (0:Int)<2;decide,_,Z,_,Z,_,_,Z,Z,.inl #[by decide,by decide],_,_,Z,Z,zl,λl hl=>?_];exact k l _ (aa.new hl) hl #[_,_,_,az]
theorem pS:bD [j8,"_law_base",rG] Ap (bb ou):=bJ
def CO:Sp:=λvs H Q _=>∃(l:Addr) (b:Int),vs=[.ref l,.int b]/\0<b/\b<1073741824/\dJ H l/\∀r H',0<=r->r<b->aX l H H'->dJ H' l->Q (.int r) H'
theorem jm_(F:bo K yN yN ou f fd)(cM:!br 1 "_law_mixed" ["_law_number"] pH):!aj aZ 2 f fd Ap CO:=by
 apply F.bI pS λaR A outer s H vs Q E hr h=>?_
 ·let#[l,b,rfl,h0,h1,#[x,y,z,hl],k]:=h;refine' #[_,ak ?s1 (ak ?s2 ?s3),?kk]
  case s1=>exact bQ (yQ (cz ik (bO fV (pv 0) aE) aE) (CZ (cz rF (bO fV (pv 0) aE) aE))).pt (ak (aQ 2 pS.nd (bF vP (bO fV (pv 0) aE) (pv 1))) (ak (CB (bF vL (bO fV (pv 0) aE) (pv 1)) (Vm (pv 0) aE XA)) (aF (bh (pv 2))))) bR
  case s2=>exact CB (aY cM hr %[bF iV (bO fV (pv 0) aE) aE|0]) (Vm (pv 0) aE XA)
  case s3=>exact aF (bh (bF vP (bF vL (bO fV (pv 0) aE) aE) (pv 1)))
  have other:∀{R:Prop},R->R:=λh=>h;apply#[_,Z,l,_,_,_,Z,Z,.of hl,Z,Z,_,Z,?_];apply aP (λc=>?_) (λc=>?_)
  ·apply#[_,Z,l,_,_,_,Z,Z,.of hl,Z,_,_,Z,Z,_,Z,?_];apply aP (λc2=>?_) (λc2=>?_)
   ·apply#[_,Z,l,_,_,_,Z,Z,.of hl,Z,_,Z,_,_,Z,Z,h0,?_];apply#[_,Z,l,_,_,_,Z,Z,.of hl,Z,_,Z,_,_,Z,Z,#[h0,h1],_,Z,l,_,_,0,Z,Z,hl,Z,?_];exact#[_,Z,k _ _ (yW _ Z1) (AM _ h0) aX.upd #[_,_,_,az]]
   ·apply#[_,Z,l,_,_,_,Z,Z,.of hl,Z,_,_,Z,Z,_,Z,λr=>#[_,Z,l,_,_,2,Z,Z,hl,Z,?_]];apply#[_,Z,l,_,_,_,Z,Z,.of az,Z,_,_,Z,Z,#[by decide,by decide],_,Z,_,_,Z,Z,h0,?_];exact k _ _ (yW _ Z1) (AM _ h0) aX.upd #[_,_,_,az]
  ·apply#[_,Z,l,_,_,_,Z,Z,.of hl,Z,_,_,Z,Z,_,Z,λr=>#[_,Z,l,_,_,2,Z,Z,hl,Z,?_]];apply#[_,Z,l,_,_,_,Z,Z,.of az,Z,_,_,Z,Z,#[by decide,by decide],_,Z,_,_,Z,Z,h0,?_];exact k _ _ (yW _ Z1) (AM _ h0) aX.upd #[_,_,_,az]
variable{σ:St}{H:Hp}
theorem dB{t u:TS}{D:Ends}(R:ck)(later:∀σ H,R σ H->u D σ H)(now:∀N:St->Hp->Prop,(∀σ H,R σ H->N σ H)->t { D with nx:=N } σ H):mP t u D σ H:=now (u D) later
theorem setG{i:Nat}{v:V}{N:ck}(h:N (σ.set i (some v)) H):mz i v σ H N:=h
variable{a l:Addr}{o:HO}
theorem dJ.upd(h:dJ H l)(n:a≠l):dJ (L2.upd H a o) l:=by
 let#[x,y,z,e]:=h;exact#[x,y,z,by rw[au n.symm];exact e]
variable{H':Hp}
theorem aX.snd(h:aX l H H')(e:H a=none):aX l H (L2.upd H' a o):=λb u q n=>by
 rw[au (bq q e)];exact h b u q n
theorem jr_(sep:Str)(ss:ae):(Txt.join sep ss).length<=(ss.map (·.length)).sum+ss.length * sep.length:=by
 show (Builtin.Str.glued sep ss).length<=_;rw[size_glued];have:(ss.length - 1) * sep.length<=ss.length * sep.length:=Nat.mul_le_mul_right _ Z1;omega
variable{ss:ae}{m:Nat}
theorem mb_(h:∀x∈ss,x.length<=m):(ss.map (·.length)).sum<=m * ss.length:=by
 induction ss with
 |nil=>simp
 |cons x ss ih=>
  let a:=h x cZ;let b:=ih λy hy=>h y (dI _ hy);rw[eL,List.sum_cons,iW,Nat.mul_add,Nat.mul_one];omega
theorem jw_(h:∀x∈ss,∀c∈x.cps.toList,kL c=true):∀c∈(Txt.join "" ss).cps.toList,kL c=true:=by
 rw[show Txt.join "" ss=Str.join "" ss from StrLaws.glued_eq_join "" ss];intro c hc;rcases (PyProof.Rows.mem_join (sep:="") (ts:=ss) c).mp hc with⟨t,ht,m⟩|⟨_,m⟩
 ·exact h t ht c m
 ·rw[show ("":Str)=⟨#[]⟩ by decide +kernel] at m;simp at m
theorem xo(x:Str):x.length=x.cps.toList.length:=by rw[sN];rfl
theorem Gu(a b:Str):(a++b).cps.toList=a.cps.toList++b.cps.toList:=by rw[PySem.Str.cps_append,Array.toList_append]
theorem j4:(Ec:Str).length=26/\(Ec:Str).cps.toList.length=26:=by decide +kernel
variable{q:Nat}
theorem VI(h:q<26):gF (Ec:Str).cps.toList (q:Int)=some (97+q):=by
 rw[iT Z1 (by rw[j4.2];omega),jh_];have:∀q:Fin 26,([97,98,99,100,101,102,103,104,105,106,107,108,109,110,111,112,113,114,115,116,117,118,119,120,121,122]:List Nat)[(q.val:Int).toNat]? = some (97+q.val):=by decide +kernel
 exact this #[q,h]
theorem VU(h:q<26):kL (97+q)=true:=by
 unfold kL;simp;omega
structure Nm (m:Nat) (ns:ae):Prop where
 len:ns.length=m
 nd:ns.Nodup
 ok:∀n∈ns,jD n=true
variable{ns:ae}
theorem kC_{f:Nat}{a b:List Nat}(hm:m<=30)(hl:ns.length=m)(oa:∀c∈a,kL c=true)(ob:∀c∈b,kL c=true)(l7:a.length+b.length<=6)(h:∀k n,ns[k]? = some n->n.cps.toList=a++(97+(f+7 * k) % 26)::(b++List.replicate (k / 26) 122)):Nm m ns:=by
 apply#[hl,?_,?_]
 ·apply xv.mpr (List.pairwise_iff_getElem.mpr λi j hi hj oI e=>?_);let e1:=h i _ (dG hi);let e2:=h j _ (dG hj);rw[e,e2] at e1;let#[c1,c2]:=mB (List.append_cancel_left e1);let c3:=d8 List.length c2;rw[eA,eA,xu,xu] at c3;omega
 ·intro n hn;let#[k,hk]:=List.mem_iff_getElem?.mp hn;let e:=h k n hk;unfold jD;rw[xo,e]
  have hk30:k<30:=by
   have:=(cy.mp hk).1;omega
  simp only[eA,iW,xu,List.all_append,List.all_cons,xx,mC,List.all_eq_true];exact#[#[by omega,by omega],oa,VU (Nat.mod_lt _ (by decide)),ob,λc hc=>by rw[(List.mem_replicate.mp hc).2];rfl]
abbrev UA:ae:=["_law_k","_law_letters",j8]
abbrev Uz:ae:=["_law_k","_law_first","_law_letters"]
abbrev Uy:ae:=["_law_k","_law_place","_law_signs","_law_stem"]
theorem BF(h:q<=1):PySem.MulOk "z" (q:Int)/\(Txt.mul "z" (q:Int)).cps.toList=List.replicate q 122:=by
 have:q=0∨q=1:=by omega
 rcases this with rfl|rfl
 ·exact#[by unfold PySem.MulOk;decide +kernel,by decide +kernel]
 ·exact#[by unfold PySem.MulOk;decide +kernel,by decide +kernel]
theorem Ew:bD [j8,"_law_many","_law_letters","_law_stem","_law_place","_law_first","_law_signs"] qI (bb og):=bJ
def QQ:Sp:=λvs H Q _=>∃(l:Addr) (m:Nat),vs=[.ref l,.int m]/\m<=30/\dJ H l/\∀(a:Addr) (ns:ae) (H':Hp),aX l H H'->dJ H' l->H a=none->H' a=some (.lst (ns.map V.str))->Nm m ns->Q (.ref a) H'
theorem j7_(F:bo K "_law_named" "_law_named" og f fd)(B:Bi mg)(cD:!br 2 yN Ap CO):!aj aZ 3 f fd qI QQ:=by
 apply F.bI Ew λaR A outer s H vs Q E hr h=>?_
 ·let#[l,m,rfl,m8,st,k]:=h;let sz:=b_;refine' #[_,?r0,?kk]
  case' r0=>refine' ak ?s1 ?r1
  case' r1=>refine' ak ?s2 ?r2
  case' r2=>refine' ak ?s3 ?r3
  case' r3=>refine' ak ?s4 ?r4
  case' r4=>refine' ak ?s5 ?r5
  case' r5=>refine' aF ?s6
  case s1=>exact aQ 2 Ew.nd cq
  case' s2=>refine' aQ 3 Ew.nd ?a1
  case' a1=>refine' gX PySem.F.plainAttrs_str PySem.F.slot_str_join PySem.F.type_str_join kQ_ ?a2 ?a3
  case a2=>exact cq
  case' a3=>refine' dD ?a4 aJ
  case' a4=>refine' i8 UA 1 [2,0] ?d1 ?d2 ?d3 ?d4
  case d1=>exact EB (by rfl) B.range %[aY cD hr %[0,aE|0]|0]
  case d2=>exact λfp s H=>fw (i:=0) (show UA.Nodup by decide +kernel) Z (Or.inl Z)
  case d3=>exact λfp s H=>iY
  case d4=>exact λfp s H=>bO UY (pv 1) (aY cD hr %[2,aE|0])
  case s3=>exact aQ 4 Ew.nd (aY cD hr %[0,bF iV (cX Zl (by rfl) B.len jk %[3|0]) aE|0])
  case s4=>exact aQ 5 Ew.nd (aY cD hr %[0,aE|0])
  case' s5=>refine' aQ 6 Ew.nd ?e0
  case' e0=>refine' i8 Uz 1 [5,2] ?e1 ?e2 ?e3 ?e4
  case e1=>exact EB (by rfl) B.range %[1|0]
  case e2=>exact λfp s H=>fw (i:=0) (show Uz.Nodup by decide +kernel) Z (Or.inl Z)
  case e3=>exact λfp s H=>iY
  case e4=>exact λfp s H=>bO UY (pv 2) (bF vP (bF iV (pv 1) (bF ji aE (pv 0))) aE)
  case' s6=>refine' bh ?f0
  case' f0=>refine' i8 Uy 1 [4,6,3] ?f1 ?f2 ?f3 ?f4
  case f1=>exact EB (by rfl) B.range %[1|0]
  case f2=>exact λfp s H=>fw (i:=0) (show Uy.Nodup by decide +kernel) Z (Or.inl Z)
  case f3=>exact λfp s H=>iY
  case' f4=>intro fp s H
  case' f4=>refine' bF AK ?g1 ?g2
  case' g1=>refine' bF AK ?g3 ?g4
  case' g3=>refine' bF AK ?g5 ?g6
  case g5=>exact xi Pz (pv 3) xb (xc (pv 1))
  case g6=>exact bO (yt (K:=K) By fV) (pv 2) (pv 0)
  case g4=>exact xi Pz (pv 3) (xc (pv 1)) xb
  case g2=>exact bF lb_ cq (bF vL (pv 0) aE)
  apply#[Z,_,Z,l,7,Z,by decide,by decide,st,λr H1 r0 r7 b1 ma=>#[r,Z,by omega,by omega,λD hD=>?_]];let Dl:=ma.ne hD
  let Tq:dY:=λi out H'=>∃ss:ae,aX l H1 H'/\dJ H' l/\out=ss.map V.str/\H' D=some (.lst out)/\ss.length=i/\∀x∈ss,x.length<=1/\∀c∈x.cps.toList,kL c=true
  apply AN (own:=1) (fv:=[some (.str Ec),some (.ref l)]) Z d_ r.toNat Tq #[[],aX.of (aa.new hD),ma.same (aa.new hD),Z,az,Z,by simp] (λout H2 ⟨ss,b2,fI,eo,jy,le,h1⟩=>#[bp _,?_]) (λi out H2 hi ⟨ss,b2,fI,eo,jy,le,h1⟩=>#[hi,λx H3 ⟨e3,ex⟩=>?_]);rotate_left 1
  ·subst e3;apply#[_,Z,Z,λNx hN=>d9 ?_];apply#[_,Z,_,Z,l,26,Z,by decide,by decide,fI,λq H4 q0 Uh b4 h_=>?_];let#[q,rfl]:=qB q0;have FQ:q<26:=by omega
   apply#[_,_,97+q,Z,Z,by rw[j4.1];decide,VI FQ,out,b4 _ _ jy Dl,?_,hN (out++[.str ⟨(List.toArray [97+q])⟩]) _ #[ss++[⟨(List.toArray [97+q])⟩],?_,h_.upd Dl,?_,az,?_,?_]]
   ·rw[eo,ao];omega
   ·exact (b2.trans b4).snd hD
   ·rw[eo,cu];rfl
   ·rw[eA,le];rfl
   ·intro x hx;rcases fQ.mp hx with hx|hx
    ·exact h1 x hx
    ·obtain rfl:x=⟨(List.toArray [97+q])⟩:=by simpa using hx
     apply#[bp 1,λc hc=>?_];obtain rfl:c=97+q:=by simpa using hc
     exact VU FQ
  subst eo;let sl:=mb_ λx hx=>(h1 x hx).1;have l8:ss.length<=6:=by omega
  let Zx:=b1.trans b2;let fD:=b1.free ma hD;apply#["",D,ss,Z,Z,.of jy,by show (ss.map (·.length)).sum+ss.length * 0<=16777216;omega,?_]
  have jl:(Txt.join "" ss).length<=6:=by
   have:=jr_ "" ss;have e0:("":Str).length=0:=by decide +kernel
   rw[e0] at this;omega
  let jo:=jw_ λx hx=>(h1 x hx).2;generalize Txt.join "" ss=jn at jl jo ⊢;clear jy h1 sl;apply#[_,Z,_,Z,jn,Z,by omega,_,_,Z,Z,l,_,Z,by omega,by omega,fI,λpl H4 p0 p1 b4 h_=>?_];let#[pl,rfl]:=qB p0;have Uq:pl<=jn.length:=by omega
  apply#[_,Z,l,26,Z,by decide,by decide,h_,λfi H5 f0 f1 b5 fX=>?_];let#[fi,rfl]:=qB f0;let Zw:=Zx.trans (b4.trans b5);clear Zx b4 b5 b1 b2;apply#[_,Z,(m:Int),Z,by omega,by omega,λD2 jy=>?_];let D2l:=fX.ne jy;let fD2:=Zw.free fX jy
  let Tp:dY:=λi out H'=>aa H5 H'/\out=((List.range i).map λk=>V.str ⟨(List.toArray [97+(fi+7 * k) % 26])⟩)/\H' D2=some (.lst out)
  apply AN (own:=1) (fv:=[some (.int fi),some (.str Ec)]) Z d_ m Tp #[aa.new jy,Z,az] (λout H6 ⟨s6,eo,h6⟩=>#[bp _,?_]) (λi out H6 hi ⟨s6,eo,h6⟩=>#[hi,λx H7 ⟨e7,ex⟩=>?_]);rotate_left 1
  ·subst e7;subst ex;have Uh:(fi+7 * i) % 26<26:=Nat.mod_lt _ (by decide);apply#[_,Z,Z,λNx hN=>d9 ?_];apply#[_,Z,_,Z,_,Z,_,_,Z,Z,.inl #[by decide,by decide],_,_,Z,Z,_,_,Z,Z,by show (0:Int)<26;decide,?_];have e:((fi:Int)+7 * (0+(i:Int))) % 26=(((fi+7 * i) % 26:Nat):Int):=by omega
   apply#[_,_,97+(fi+7 * i) % 26,Z,Z,by rw[j4.1];decide,?_,out,h6,?_,hN (out++[.str ⟨(List.toArray [97+(fi+7 * i) % 26])⟩]) _ #[gf s6 jy,?_,az]]
   ·rw[e];exact VI Uh
   ·rw[eo,ao,List.length_range];omega
   ·rw[eo,List.range_succ,cu];rfl
  subst eo;have Zv:aX l H H6:=Zw.trans (aX.of s6);let jv:=fX.same s6;have V6:jn.length=jn.cps.toList.length:=xo jn;apply#[_,Z,(m:Int),Z,by omega,by omega,λD3 DS=>?_];let D3l:=jv.ne DS;let fD3:=Zv.free jv DS
  let To:dY:=λi out H'=>∃ns:ae,aa H6 H'/\out=ns.map V.str/\H' D3=some (.lst out)/\ns.length=i/\∀k n,ns[k]? = some n->n.cps.toList=jn.cps.toList.take pl++(97+(fi+7 * k) % 26)::(jn.cps.toList.drop pl++List.replicate (k / 26) 122)
  apply AN (own:=1) (fv:=[some (.int pl),some (.ref D2),some (.str jn)]) Z d_ m To #[[],aa.new DS,Z,az,Z,by simp] (λout H7 ⟨ns,s7,eo,h7,le,hn⟩=>#[bp _,?_]) (λi out H7 hi ⟨ns,s7,eo,h7,le,hn⟩=>#[hi,λx H8 ⟨e8,ex⟩=>?_])
  ·subst eo;apply k D3 ns H7 (Zv.trans (aX.of s7)) (jv.same s7) fD3 h7 (kC_ m8 le (λc hc=>jo c (List.mem_of_mem_take hc)) (λc hc=>jo c (List.mem_of_mem_drop hc)) ?_ hn);rw[dg,List.length_drop];omega
  ·subst e8;subst ex;apply#[_,Z,Z,λNx hN=>d9 ?_];let ct:=lT_ (x:=jn) Uq;let cf:=jD_ (x:=jn) Uq
   have lt:(Txt.slice jn none (some (pl:Int))).length<=6:=by
    rw[xo,ct,dg];omega
   have lf:(Txt.slice jn (some (pl:Int)) none).length<=6:=by
    rw[xo,cf,List.length_drop];omega
   have ha:((List.range m).map λk=>V.str ⟨(List.toArray [97+(fi+7 * k) % 26])⟩)[i]? = some (V.str ⟨(List.toArray [97+(fi+7 * i) % 26])⟩):=by
    rw[dW,List.getElem?_range hi];rfl
   apply#[_,Z,_,Z,_,Z,jn,Z,by omega,_,Z,_,Z,D2,_,_,V.str ⟨(List.toArray [97+(fi+7 * i) % 26])⟩,Z,Z,.of (s7 _ _ h6),?_,_,_,Z,Z,?_,?_]
   ·rw[iT Z1 (by rw[ao,List.length_range];omega),Int.zero_add];exact ha
   ·show (Txt.slice jn none (some (pl:Int))).length+1<=sizeLine;omega
   have l1:(Txt.slice jn none (some (pl:Int))++(⟨(List.toArray [97+(fi+7 * i) % 26])⟩:Str)).length<=7:=by
    rw[xo,Gu,eA,<- xo];show _+1<=7;omega
   apply#[_,Z,_,Z,_,Z,jn,Z,by omega,_,_,Z,Z,by omega,?_]
   have l2:(Txt.slice jn none (some (pl:Int))++(⟨(List.toArray [97+(fi+7 * i) % 26])⟩:Str)++Txt.slice jn (some (pl:Int)) none).length<=13:=by
    rw[xo,Gu,eA,<- xo,<- xo];omega
   have z0:((0:Int)+(i:Int)) / 26=((i / 26:Nat):Int):=by omega
   have q1:i / 26<=1:=by omega
   have lz:(Txt.mul "z" ((i / 26:Nat):Int)).length<=1:=by
    rw[xo,(BF q1).2,xu];exact q1
   apply#[_,Z,_,_,Z,Z,#[by decide,by decide],"z",((i / 26:Nat):Int),Z,by show V.int ((0+(i:Int)) / 26)=_;rw[z0],(BF q1).1,_,_,Z,Z,?_,out,h7,?_,hN _ _ #[ns++[Txt.slice jn none (some (pl:Int))++(⟨(List.toArray [97+(fi+7 * i) % 26])⟩:Str)++Txt.slice jn (some (pl:Int)) none++Txt.mul "z" ((i / 26:Nat):Int)],gf s7 DS,?_,az,?_,?_]]
   ·omega
   ·rw[eo,ao];omega
   ·rw[eo,cu];rfl
   ·rw[eA,le];rfl
   ·intro k n hk;by_cases z:k<ns.length
    ·rw[Dh z] at hk;exact hn k n hk
    ·rw[AR Z1] at hk
     have hk0:k - ns.length=0:=by
      have:=(cy.mp hk).1;simp at this;omega
     rw[hk0] at hk;have:k=i:=by omega
     subst this;obtain rfl:=(eK hk);rw[Gu,Gu,Gu,ct,cf,(BF q1).2];simp
theorem EE(ys:ai)(k:Nat):gD ys none (some (k:Int))=ys.take k:=by
 unfold gD;rw[HT.kG,HT.pT,List.drop_zero,Nat.sub_zero];by_cases h:k<=ys.length
 ·rw[Nat.min_eq_left h]
 ·rw[Nat.min_eq_right Z1,y_ (bp _),y_ Z1]
structure WI (K:af) (H0 H:Hp) (l ln lh lt:Addr) (ns:ae) (nh k j:Nat):Prop where
 but:aX l H0 H
 st:dJ H l
 hn:H ln=some (.lst (ns.map V.str))
 iS:∃(ys:ai) (hs:Xa),H lh=some (.lst ys)/\bg K H ys (hs.map kH)/\hs.map (·.1)=ns.take nh/\∀h∈hs,1<=h.2/\h.2<=1000
 qT:∃(zs:ai) (ts:Xb),H lt=some (.lst zs)/\bg K H zs (ts.map kT)/\TI ns k j ts
 nl:ln≠l
 hl:lh≠l
 tl:lt≠l
 th:lt≠lh
 F3:ln≠lh
 nt:ln≠lt
 fh:H0 lh=none
 ft:H0 lt=none
variable{H0:Hp}{lh ln lt:Addr}{j k nh:Nat}
theorem WI.mv(W:WI K H0 H l ln lh lt ns nh k j)(b:aX l H H')(s:dJ H' l):WI K H0 H' l ln lh lt ns nh k j:=by
 let#[xs,hx]:=W.st.some;let#[ys,hs,h1,h2,h3,h4]:=W.iS;let#[zs,ts,t1,t2,t3]:=W.qT;exact#[W.but.trans b,s,b _ _ W.hn W.nl,#[ys,hs,b _ _ h1 W.hl,vU h2 b hx,h3,h4],#[zs,ts,b _ _ t1 W.tl,vU t2 b hx,t3],W.nl,W.hl,W.tl,W.th,W.F3,W.nt,W.fh,W.ft]
theorem WI.same(W:WI K H0 H l ln lh lt ns nh k j)(s:aa H H'):WI K H0 H' l ln lh lt ns nh k j:=W.mv (aX.of s) (W.st.same s)
variable{n:Str}
theorem WI.hand(W:WI K H0 H l ln lh lt ns nh k j){t:Addr}{x:Int}{ys:ai}(hx:1<=x/\x<=1000)(hn:ns[nh]? = some n)(hy:H lh=some (.lst ys))(ht:H t=some (.tup [.str n,.int x])):WI K H0 (upd H lh (.lst (ys++[.ref t]))) l ln lh lt ns (nh+1) k j:=by
 let#[MC,hs,h1,h2,h3,h4]:=W.iS;rw[hy] at h1;cases h1;let#[zs,ts,t1,t2,t3]:=W.qT;have tt:H t=some (.tup ((kH (n,x)).map kV)):=ht;apply#[W.but.snd W.fh,W.st.upd W.hl,by rw[au W.F3];exact W.hn,#[_,hs++[(n,x)],az,?_,?_,λh hh=>?_],#[zs,ts,by rw[au W.th];exact t1,i9 t2 hy,t3],W.nl,W.hl,W.tl,W.th,W.F3,W.nt,W.fh,W.ft]
 ·rw[cu];exact i9 (vT h2 tt) hy
 ·rw[cu,h3,iE,hn];rfl
 ·rcases fQ.mp hh with hh|hh
  ·exact h4 h hh
  ·obtain rfl:h=(n,x):=by simpa using hh
   exact hx
theorem hr_{α:Type}(l:List α)(x:α):D_ l l.length x=l++[x]:=by
 unfold D_;rw[dP,List.drop_length]
theorem sD:bD [j8,"_law_names","_law_plain","_law_dense","_law_hands",vA,"_law_k","_law_name","_law_some",lG,"_law_pair"] [j8] (bb uq):=bJ
def tK(K:af):Sp:=λvs H Q _=>∃(l:Addr),vs=[.ref l]/\dJ H l/\∀(t lh lt:Addr) (ys zs:ai) (hs:Xa) (ts:Xb) (H':Hp),aX l H H'->dJ H' l->H' t=some (.tup [.ref lh,.ref lt])->H lh=none->H lt=none->lh≠lt->lh≠l->lt≠l->
 H' lh=some (.lst ys)->bg K H' ys (hs.map kH)->H' lt=some (.lst zs)->bg K H' zs (ts.map kT)->Good hs ts->Q (.ref t) H'
theorem aB(n:H a=none):aa H (upd H a o)/\upd H a o a=some o:=#[aa.new n,az]
theorem kt_(F:bo K "_law_web" "_law_web" uq f fd)(B:Bi mg)(cD:!br 2 yN Ap CO)(cN:!br 3 "_law_named" qI QQ):!aj aZ 4 f fd [j8] (tK K):=by
 apply F.bI sD λaR A outer s H vs Q E hr h=>?_
 ·let#[l,rfl,st,k]:=h;let sz:=b_;refine' #[_,?r0,?kk]
  case' r0=>refine' ak ?s1 ?r1
  case' r1=>refine' ak ?s2 ?r2
  case' r2=>refine' ak ?s3 ?r3
  case' r3=>refine' ak ?s4 ?r4
  case' r4=>refine' ak ?s5 ?r5
  case' r5=>refine' ak ?s6 ?r6
  case' r6=>refine' aF ?s7
  case s1=>exact aQ 1 sD.nd (aY cN hr %[0,bF iV aE (aY cD hr %[0,aE|0])|0])
  case s2=>exact aQ 2 sD.nd (aY cD hr %[0,aE|0])
  case s3=>exact aQ 3 sD.nd (bF iV aE (aY cD hr %[0,aE|0]))
  case s4=>exact aQ 4 sD.nd (cO aJ)
  case s5=>exact aQ 5 sD.nd (cO aJ)
  case' s6=>refine' eM dX Z (V2 (by rfl) B.enum %[1|0]) (jm Z (di (bU 6 sD.nd) (di (bU 7 sD.nd) iF))) ?b0
  case' b0=>refine' ak ?b1 ?c1
  case' c1=>refine' ak ?b2 ?c2
  case' c2=>refine' aF ?b3
  case' b1=>refine' aQ 8 sD.nd (cO ?l0)
  case' l0=>refine' dD aE ?l1
  case' l1=>refine' dD (bF iV aE (aY cD hr %[0,aE|0])) ?l2
  case' l2=>refine' dD (bF iV aE (aY cD hr %[0,aE|0])) ?l3
  case l3=>exact dD aE aJ
  case' b2=>refine' hZ (gX il mE mF lN (pv 4) %[eW %[7,?d1|0]|0])
  case d1=>exact bO fV (pv 8) (bF ji (aY cD hr %[0,aE|0]) (iD EC (by rfl) B.int CL %[iG rF (pv 2) aE|0]))
  case' b3=>refine' eM dX Z (dF (xi C0 (pv 1) xb (xc (pv 6)))) (bU 9 sD.nd) ?e0
  case' e0=>refine' ak ?e1 ?e2
  case e1=>exact aQ 10 sD.nd (bO fV (cO %[eW %[7,9|0],eW %[9,7|0]|0]) (aY cD hr %[0,aE|0]))
  case' e2=>refine' aF (aQ 5 sD.nd (bF CD (pv 5) (bF Vf (cO %[10|0]) ?g1)))
  case g1=>exact iD EC (by rfl) B.int CL %[iG KO (aY cD hr %[0,aE|0]) (pv 3)|0]
  case s7=>exact bh (eW %[4,5|0])
  apply#[_,Z,_,Z,l,8,Z,by decide,by decide,st,λr H1 r0 r8 b1 ma=>#[_,_,Z,Z,?_]];let#[r,rfl]:=qB r0;apply#[l,1+r,by show [V.ref l,V.int (1+(r:Int))]=[V.ref l,V.int ((1+r:Nat):Int)];rw[Int.natCast_add];rfl,by omega,ma,λln ns H2 b2 fI fn BX N=>?_];have n8:ns.length<=8:=by rw[N.len];omega
  have n1:1<=ns.length:=by rw[N.len];omega
  have Ga:ln≠l:=ma.ne fn;apply#[_,Z,l,3,Z,by decide,by decide,fI,λyc H3 p0 p1 b3 hJ=>?_];apply#[_,Z,l,3,Z,by decide,by decide,hJ,λdn H4 d0 d1 b4 h_=>#[_,_,Z,Z,?_]];let KZ:=b4 _ _ (b3 _ _ BX Ga) Ga;have B4:aX l H H4:=b1.trans (b2.trans (b3.trans b4));apply#[zl,λlh ic=>?_];let#[s5,B1]:=aB (o:=.lst []) ic;let Gc:=h_.ne ic;have fh:H lh=none:=B4.free h_ ic;have Dz:ln≠lh:=bq KZ ic;generalize upd H4 lh (.lst [])=H5 at s5 B1 ⊢;apply#[zl,λlt dz=>?_];let s6:=aa.new (o:=.lst []) dz;let fX:=h_.same s5;let yq:=fX.ne dz;let B5:=B4.trans (aX.of s5);have ft:H lt=none:=B5.free fX dz;have W0:WI K H (upd H5 lt (.lst [])) l ln lh lt ns 0 0 0:=#[B5.trans (aX.of s6),fX.same s6,s6 _ _ (s5 _ _ KZ),#[[],[],s6 _ _ B1,.nil,Z,by simp],#[[],[],az,.nil,#[by simp,.nil,gG _]],Ga,Gc,yq,(bq B1 dz).symm,Dz,bq (s5 _ _ KZ) dz,fh,ft];clear B4 B5 b1 b2 b3 b4 ma fI hJ h_ fX s5 s6 fn BX KZ;generalize upd H5 lt (.lst [])=H6 at W0 ⊢;apply setG ?_;dsimp only
  let J8:ck:=λσ H'=>∃(lt:Addr) (v6 v7 v8 v9 v10:aK),σ=[some (.ref l),some (.ref ln),some (.int yc),some (.int (1+dn)),some (.ref lh),some (.ref lt),v6,v7,v8,v9,v10]/\WI K H H' l ln lh lt ns ns.length ns.length 0
  apply dB J8 ?last ?loop
  case last=>
   rintro σ H7 ⟨lt,v6,v7,v8,v9,v10,rfl,W⟩;let#[ys,hs,h1,h2,h3,h4]:=W.iS;let#[zs,ts,t1,t2,t3]:=W.qT;rw[dP] at h3;apply#[_,Z,_,Z,zl,λt ht=>?_];let s8:=aa.new (o:=.tup [.ref lh,.ref lt]) ht;apply k t lh lt ys zs hs ts _ (W.but.trans (aX.of s8)) (W.st.same s8) az W.fh W.ft W.th.symm W.hl W.tl (s8 _ _ h1) (h2.same s8) (s8 _ _ t1) (t2.same s8) ?_;let tg:=t3.good N.nd N.ok
   have hlen:hs.length=ns.length:=by
    have:=d8 List.length h3;rwa [ao] at this
   apply#[λh hh=>#[N.ok _ ?_,h4 h hh],by rw[h3];exact N.nd,by omega,by omega,λt ht=>(tg t ht).1,t3.nd,by have:=t3.len;omega,λt ht=>by rw[h3];exact (tg t ht).2];rw[<- h3];exact bj.mpr #[h,hh,Z]
  case loop=>
   intro N0 hN
   let J7:bL:=λi σ H'=>∃(lt:Addr) (v6 v7 v8 v9 v10:aK),σ=[some (.ref l),some (.ref ln),some (.int yc),some (.int (1+dn)),some (.ref lh),some (.ref lt),v6,v7,v8,v9,v10]/\WI K H H' l ln lh lt ns i i 0
   apply#[_,Z,ln,Z,#[_,.of W0.hn],XR (K:=K) (a:=ln) (xs:=ns.map V.str) J7
    #[lt,none,none,none,none,none,Z,W0] (λi σ H' _ ⟨_,_,_,_,_,_,_,W⟩=>.of W.hn) ?_ ?_]
   rotate_left 1
   ·rintro σ H' ⟨lt,v6,v7,v8,v9,v10,rfl,W⟩;rw[ao] at W;exact hN _ _ #[lt,v6,v7,v8,v9,v10,Z,W]
   rintro i x σ H7 hx ⟨lt,v6,v7,v8,v9,v10,rfl,W⟩ u hu;let#[one,BS,rfl]:=iX hx;have hi:i<ns.length:=(cy.mp BS).1;have s7:aa H7 (upd H7 u (.tup [.int i,.str one])):=aa.new hu;have VQ:upd H7 u (.tup [.int i,.str one]) u=some (.tup [.int i,.str one]):=az;apply#[u,_,Z,.of VQ,Z,_,_,Z,_,_,Z,Z,?_];let W8:=W.same s7;clear W VQ;generalize upd H7 u (.tup [.int i,.str one])=H8 at W8 ⊢;clear s7 hu;dsimp only
   let J6:ck:=λσ H'=>∃(lt ls:Addr) (v9 v10:aK) (a b:Int),σ=[some (.ref l),some (.ref ln),some (.int yc),some (.int (1+dn)),some (.ref lh),some (.ref lt),some (.int i),some (.str one),some (.ref ls),v9,v10]/\WI K H H' l ln lh lt ns i i 0/\H' ls=some (.lst [.int 1,.int a,.int b,.int 1000])/\ls≠l/\1<=a/\a<=1000/\1<=b/\b<=1000
   apply dB J6 ?m2 ?m1
   case m1=>
    intro N2 hN2;apply#[_,Z,l,4,Z,by decide,by decide,W8.st,λr1 H9 q0 q1 b9 tF=>#[_,_,Z,Z,?_]];let W9:=W8.mv b9 tF;apply#[_,Z,l,1000,Z,by decide,by decide,W9.st,λr2 AY q2 q3 lJ qU=>#[_,_,Z,Z,?_]];let AV:=W9.mv lJ qU;apply#[zl,λls yy=>?_];exact hN2 _ _ #[lt,ls,_,_,1+r1,1+r2,Z,AV.same (aa.new yy),az,AV.st.ne yy,by omega,by omega,by omega,by omega]
   rintro σ H9 ⟨lt,ls,v9,v10,a,b,rfl,W9,yy,lsl,a1,a2,b1,b2⟩
   let J5:ck:=λσ H'=>∃(lt ls:Addr) (v9 v10:aK),σ=[some (.ref l),some (.ref ln),some (.int yc),some (.int (1+dn)),some (.ref lh),some (.ref lt),some (.int i),some (.str one),some (.ref ls),v9,v10]/\WI K H H' l ln lh lt ns (i+1) i 0
   apply dB J5 ?m4 ?m3
   case m3=>
    intro N3 hN3;let#[ys,hs,h1,h2,h3,h4]:=W9.iS;apply#[_,Z,.inl #[Z,_,.of h1],_,Z,_,Z,_,Z,l,4,Z,by decide,by decide,W9.st,λr1 AY q0 q1 lJ qU=>?_];let AV:=W9.mv lJ qU
    obtain⟨ix,e0,e4,eix⟩:∃ix:Int,0<=ix/\ix<4/\r1 * (if decide (0<yc)=true then 1 else 0)=ix:=by
     apply#[_,?_,?_,Z]
     ·by_cases c:decide (0<yc)=true
      ·rw[aA c];omega
      ·rw[aq c];omega
     ·by_cases c:decide (0<yc)=true
      ·rw[aA c];omega
      ·rw[aq c];omega
    let#[v,hv,x,rfl,x1,x2]:=vo (p:=λv:V=>∃x:Int,v=V.int x/\1<=x/\x<=1000) (xs:=[V.int 1,.int a,.int b,.int 1000]) (n:=4) Z e0 e4 (λv hv=>by
     simp only[bZ,xw,or_false] at hv;rcases hv with rfl|rfl|rfl|rfl
     ·exact#[_,Z,by decide,by decide]
     ·exact#[_,Z,a1,a2]
     ·exact#[_,Z,b1,b2]
     ·exact#[_,Z,by decide,by decide])
    let GU:=lJ _ _ yy lsl;apply#[_,Z,_,_,Z,Z,.inr #[_,Z,_,_,Z,Z,.inl #[by omega,by omega],ls,_,_,_,Z,d8 V.int eix,.of GU,hv,zl,λt ht=>?_]];let Mw:=AV.same (aa.new (o:=.tup [.str one,.int x]) ht);let WQ:=lJ _ _ h1 W9.hl;apply#[lh,_,_,Z,Z,aa.new (o:=.tup [.str one,.int x]) ht _ _ WQ,?_,hN3 _ _ #[lt,ls,v9,v10,Z,Mw.hand #[x1,x2] BS (aa.new (o:=.tup [.str one,.int x]) ht _ _ WQ) az]];have:=d8 List.length h3;have:=bK h2;rw[ao] at this;rw[ao,dg] at *;omega
   rintro σ AY ⟨lt,ls,v9,v10,rfl,AV⟩;apply#[_,Z,_,Z,_,Z,ln,_,Z,.of AV.hn,λp hp=>?_];rw[jk_];let Mw:=AV.same (aa.new (o:=.lst ((ns.take i).map V.str)) hp);have BR:upd AY p (.lst ((ns.take i).map V.str)) p=some (.lst ((ns.take i).map V.str)):=az;let lp:=AV.st.ne hp;generalize upd AY p (.lst ((ns.take i).map V.str))=H11 at Mw BR ⊢
   let J4:bL:=λj σ H'=>∃(lt ls:Addr) (v9 v10:aK),σ=[some (.ref l),some (.ref ln),some (.int yc),some (.int (1+dn)),some (.ref lh),some (.ref lt),some (.int i),some (.str one),some (.ref ls),v9,v10]/\H' p=some (.lst ((ns.take i).map V.str))/\WI K H H' l ln lh lt ns (i+1) i j
   apply#[p,Z,#[_,.of BR],gc (K:=K) (a:=p) (xs:=(ns.take i).map V.str) J4
    #[lt,ls,v9,v10,Z,BR,Mw] (λj σ H' _ ⟨_,_,_,_,_,q,_⟩=>.of q) ?_ ?_]
   rotate_left 1
   ·rintro σ H' ⟨lt,ls,v9,v10,rfl,_,W⟩;apply#[lt,_,_,_,_,_,Z,?_];let#[zs,ts,t1,t2,t3]:=W.qT;rw[ao,dg,Nat.min_eq_left Z1] at t3;exact#[W.but,W.st,W.hn,W.iS,#[zs,ts,t1,t2,t3.next Z1],W.nl,W.hl,W.tl,W.th,W.F3,W.nt,W.fh,W.ft]
   rintro j y σ TC hy ⟨lt,ls,v9,v10,rfl,OP,ZF⟩;let#[o,ho,rfl]:=iX hy
   have hj:j<i:=by
    have:=(cy.mp ho).1;rw[dg] at this;omega
   rw[List.getElem?_take,aA hj] at ho;apply setG ?_;dsimp only
   let J3:ck:=λσ H'=>∃(lt ls t:Addr) (v9:aK) (tt:Str × Str),σ=[some (.ref l),some (.ref ln),some (.int yc),some (.int (1+dn)),some (.ref lh),some (.ref lt),some (.int i),some (.str one),some (.ref ls),v9,some (.ref t)]/\H' p=some (.lst ((ns.take i).map V.str))/\WI K H H' l ln lh lt ns (i+1) i j/\H' t=some (.tup ((kT tt).map kV))/\(tt=(one,o)∨tt=(o,one))
   apply dB J3 ?m6 ?m5
   case m5=>
    intro N5 hN5;apply#[_,Z,_,Z,zl,λt1 Ah=>?_];let zI:=aa.new (o:=.tup [.str one,.str o]) Ah;apply#[_,Z,_,Z,zl,λt2 OJ=>?_];let gz:=aa.new (o:=.tup [.str o,.str one]) OJ;apply#[zl,λlx sj=>?_];let q_:=aa.new (o:=.lst [.ref t1,.ref t2]) sj;let Dk:=ZF.same ((zI.trans gz).trans q_);let yx:=q_ _ _ (gz _ _ (zI _ _ OP));apply#[_,Z,l,2,Z,by decide,by decide,Dk.st,λr5 ZK q4 q5 oX M7=>?_];have N8:lx≠l:=(ZF.same (zI.trans gz)).st.ne sj;let qg:=oX _ _ (show upd (upd (upd TC t1 (.tup [.str one,.str o])) t2 (.tup [.str o,.str one])) lx (.lst [.ref t1,.ref t2]) lx=_ from az) N8;let#[Z8,G0]:=Dk.st.some;let GF:=q_ _ _ (gz _ _ (show upd TC t1 (.tup [.str one,.str o]) t1=_ from az));let GD:=q_ _ _ (show upd (upd TC t1 (.tup [.str one,.str o])) t2 (.tup [.str o,.str one]) t2=_ from az);let GE:=oX _ _ GF (cj GF G0 nofun);let GC:=oX _ _ GD (cj GD G0 nofun)
    have pick:∃(t:Addr) (tt:Str × Str),gF [V.ref t1,V.ref t2] r5=some (.ref t)/\ZK t=some (.tup ((kT tt).map kV))/\(tt=(one,o)∨tt=(o,one)):=by
     rcases yB (a:=V.ref t1) (b:=V.ref t2) q4 q5 with e|e
     ·exact#[t1,(one,o),e,GE,.inl Z]
     ·exact#[t2,(o,one),e,GC,.inr Z]
    let#[t,tt,et,OH,wI]:=pick;exact#[lx,_,_,_,Z,Z,.of qg,et,hN5 _ _ #[lt,ls,t,_,tt,Z,oX _ _ yx lp,Dk.mv oX M7,OH,wI]]
   rintro σ ZL ⟨lt,ls,t,v9,tt,rfl,yx,Dk,OH,wI⟩;let#[zs,ts,t1,t2,t3]:=Dk.qT;apply#[_,Z,_,Z,zl,λlx sj=>?_];let Kw:=aa.new (o:=.lst [.ref t]) sj;let Mu:=Dk.same Kw;have qg:upd ZL lx (.lst [.ref t]) lx=some (.lst [.ref t]):=az;let N8:=Dk.st.ne sj;have lxh:lx≠p:=(bq yx sj).symm;let GM:=Kw _ _ yx;let vg:=Kw _ _ OH;generalize upd ZL lx (.lst [.ref t])=ZK at Kw Mu qg GM vg ⊢;apply#[_,Z,l,3,Z,by decide,by decide,Mu.st,λr6 H15 q6 q7 vV M6=>#[_,Z,_,_,Z,Z,.inr #[_,Z,?_]]];let ZE:=Mu.mv vV M6;let GS:=vV _ _ qg N8;let OO:=vV _ _ GM lp;let#[Z7,O0]:=Mu.st.some;let GB:=vV _ _ vg (cj vg O0 nofun);let#[zk,E5,u1,u2,u3]:=ZE.qT
   have u7:zk.length<=100:=by
    let a1:=bK u2;let a2:=u3.len;rw[ao] at a1;omega
   have fin:∀(b:Bool) (q:Addr) (My:Hp),aa H15 My->∀u,My u=none->WI K H (upd My u (.lst (zk++(List.replicate (if b=true then (1:Int) else 0).toNat [V.ref t]).flatten))) l ln lh u ns (i+1) i (j+1):=by
    intro b q My Bw u hu;let ET:=ZE.same Bw;let AU:=ET.same (aa.new (o:=.lst (zk++(List.replicate (if b=true then (1:Int) else 0).toNat [V.ref t]).flatten)) hu);apply#[AU.but,AU.st,AU.hn,AU.iS,#[_,if b=true then E5++[tt] else E5,az,?_,?_],AU.nl,AU.hl,ET.st.ne hu,?_,AU.F3,?_,AU.fh,ET.but.free ET.st hu]
    ·let TM:=(u2.same Bw).same (aa.new (o:=.lst (zk++(List.replicate (if b=true then (1:Int) else 0).toNat [V.ref t]).flatten)) hu);cases b with
     |true=>
      show bg K _ (zk++[V.ref t]) ((E5++[tt]).map kT);rw[cu];exact vT TM (aa.new hu _ _ (Bw _ _ GB))
     |false=>
      show bg K _ (zk++[]) (E5.map kT);rw[g_];exact TM
    ·cases b with
     |true=>
      have:=u3.add N.nd hj BS ho wI E5.length;rw[hr_] at this;exact this
     |false=>exact u3.skip
    ·let#[ys,hs,h1,_]:=ET.iS;exact (bq h1 hu).symm
    ·exact bq ET.hn hu
   apply#[lx,_,_,Z,Z,GS,?_,?_,?_,λq hq=>?_]
   ·by_cases c:decide (r6<1+dn)=true
    ·rw[aA c];decide
    ·rw[aq c];decide
   ·by_cases c:decide (r6<1+dn)=true
    ·rw[aA c];decide
    ·rw[aq c];decide
   ·by_cases c:decide (r6<1+dn)=true
    ·rw[aA c];show 1 * 1<=sizeLine;decide
    ·rw[aq c];show 1 * 0<=sizeLine;decide
   let Bw:=aa.new (o:=.lst (List.replicate (if decide (r6<1+dn)=true then (1:Int) else 0).toNat [V.ref t]).flatten) hq;apply#[lt,q,_,_,Z,Z,Bw _ _ u1,az,?_,λu hu=>#[u,ls,_,_,Z,aa.new hu _ _ (Bw _ _ OO),fin _ q _ Bw u hu]];by_cases c:decide (r6<1+dn)=true
   ·rw[aA c];show zk.length+1<=sizeLine;omega
   ·rw[aq c];show zk.length+0<=sizeLine;omega
theorem Rq{α:Type}{ps:List (Str × α)}(nd:(ps.map (·.1)).Nodup){a b:Str × α}(ha:a∈ps)(hb:b∈ps)(e:a.1=b.1):a=b:=by
 induction ps with
 |nil=>cases ha
 |cons p ps ih=>
  rw[eL,rQ] at nd;rcases bZ.mp ha with za|ha
  ·rcases bZ.mp hb with zb|hb
   ·rw[za,zb]
   ·rw[za] at e;exact absurd (show p.1∈ps.map (·.1) from bj.mpr #[b,hb,e.symm]) nd.1
  ·rcases bZ.mp hb with zb|hb
   ·rw[zb] at e;exact absurd (show p.1∈ps.map (·.1) from bj.mpr #[a,ha,e]) nd.1
   ·exact ih nd.2 ha hb
def strOf(hs:Xa)(n:Str):Int:=((hs.find? λh=>decide (h.1=n)).map (·.2)).getD 0
variable{hs:Xa}
theorem yV(h:n∈hs.map (·.1)):(n,strOf hs n)∈hs:=by
 unfold strOf;let#[x,hx,e]:=bj.mp h;cases q:hs.find? λh=>decide (h.1=n) with
 |none=>
  have:=AL.mp q x hx;simp[e] at this
 |some y=>
  let m:=List.mem_of_find?_eq_some q;have:=List.find?_some q;have e2:y.1=n:=by simpa using this
  show (n,y.2)∈hs;rw[<- e2];exact m
theorem WS(nd:(hs.map (·.1)).Nodup){s:Int}(h:(n,s)∈hs):strOf hs n=s:=by
 let m:=yV (bj.mpr #[_,h,Z]:n∈hs.map (·.1));exact d8 Prod.snd (Rq nd m h Z)
variable{a b:Int}
theorem jt_(ha:0<=a)(h:0<b):Int.gcd b (a % b)=Int.gcd a b:=by
 let#[m,rfl]:=qB ha;let#[n,rfl]:=qB (xj h);rw[<- Int.natCast_emod];show Nat.gcd n (m % n)=Nat.gcd m n;rw[Nat.gcd_comm n,<- Nat.gcd_rec,Nat.gcd_comm]
theorem mq_(hb:0<b)(qk:b<=2000000):0<(Int.gcd a b:Int)/\(Int.gcd a b:Int)<1073741824:=by
 have h1:0<Int.gcd a b:=Int.gcd_pos_of_ne_zero_right a Z1;have h2:(Int.gcd a b:Int) ∣ b:=Int.gcd_dvd_right a b;let h3:=Int.le_of_dvd hb h2;omega
theorem qW:bD ["one","other","rest","divisor","left"] sG (bb Nj):=bJ
def Fq:Sp:=λvs H Q _=>∃a b:Int,vs=[.int a,.int b]/\0<=a/\0<b/\Q (.int (Int.gcd a b)) H
theorem mv_(F:bo K "greatest_divisor" "greatest_divisor" Nj f fd):!aj aZ 1 f fd sG Fq:=by
 apply F.bI qW λaR A outer s H vs Q E hr h=>?_
 ·let#[a,b,rfl,ha,hb,k]:=h;refine' #[_,ak ?s1 (ak ?s2 (ak ?s3 ?s4)),?kk]
  case s1=>exact aQ 2 qW.nd (pv 0)
  case s2=>exact aQ 3 qW.nd (pv 1)
  case s3=>exact L6 dX (cz DV (pv 2) aE) (ak (aQ 4 qW.nd (bF vP (pv 3) (pv 2))) (ak (aQ 3 qW.nd (pv 2)) (aF (aQ 2 qW.nd (pv 4)))))
  case s4=>exact aF (bh (pv 3))
  apply#[_,Z,_,Z,?_];apply jU_ (λσ H'=>H'=H/\∃(r d:Int) (v4:aK),σ=[some (.int a),some (.int b),some (.int r),some (.int d),v4]/\0<=r/\0<d/\Int.gcd r d=Int.gcd a b) (λσ _=>match σ with | [_,_,some (.int r),_,_]=>r.toNat|_=>0) #[Z,a,b,none,Z,ha,hb,Z] ?_ ?_
  ·rintro σ H' ⟨rfl,r,d,v4,rfl,hr0,hd,e⟩;apply#[_,Z,Z,_,Z,?_];apply aP (λc=>?_) (λc=>?_)
   ·have k8:0<r:=by
     have:r≠0:=by
      intro z;subst z;simp at c
     omega
    apply#[_,Z,_,Z,_,_,Z,Z,k8,_,Z,_,Z,?_];let h1:=yW d (Int.ne_of_gt k8);let h2:=AM d k8;apply#[#[Z,_,_,_,Z,h1,k8,?_],?_]
    ·rw[<- e,Int.gcd_comm (d % r) r,jt_ (xj hd) k8,Int.gcd_comm]
    ·show (d % r).toNat<r.toNat;omega
   ·have k8:r=0:=by simpa using c
    subst k8;apply#[_,Z,?_]
    have e2:(Int.gcd a b:Int)=d:=by
     rw[<- e,Int.gcd_zero_left];omega
    rw[<- e2];exact k
  ·intro σ H' Q1 Q2 hq h;let#[x,e,h1,c,h2,h3]:=h;exact#[x,e,h1,c,h2,hq _ _ h3]
end Ev
local macro_rules|`(tactic|lk)=>`(tactic|(refine Ev.setG ?_;dsimp only))
namespace L2
open PySem PySem.Spec PyProof.Rows
def La(w:Af)(l:List (Str × Tok × Aa)):List DictEntry:=l.map λx=>#[hashStr w x.1,.str x.1 x.2.1,x.2.2]
def lW(K:af)(w:Af)(d:Addr)(kvs:List (Str × V)):Prop:=
 (d == sysModules)=false/\(kvs.map (·.1)).Nodup/\∃(l:List (Str × Tok × Aa)) (o:Obj) (es:Array DictEntry) (ep:Nat),K.lookup d=some o/\o.ExactDict/\o.data=.dict es ep/\es.toList=La w l/\Paired (λ(p:Str × V) (x:Str × Tok × Aa)=>p.1=x.1/\RelV p.2 x.2.2) kvs l
theorem Yq{P:Ae}{w:Af}:∀{l:List (Str × Tok × Aa)},Pairs (fu P w) (La w l) (l.map λx=>((Sum.inr x.1:Key),x.2.2))
 |[]=>.nil
 |x::l=>.cons (Sh P w x.1 x.2.1) Z (Yq (l:=l))
variable{kvs:List (Str × V)}{l:List (Str × Tok × Aa)}
theorem WT(h:Paired (λ(p:Str × V) (x:Str × Tok × Aa)=>p.1=x.1/\RelV p.2 x.2.2) kvs l):kvs.map (·.1)=l.map (·.1):=by
 induction h with
 |nil=>rfl
 |cons a _ ih=>rw[eL,eL,ih,a.1]
theorem lW.of{P:Ae}{K:af}{w:Af}{d:Addr}{h:Heap}(k:lW K w d kvs)(X:K.In h):∃l:List (Str × Tok × Aa),Paired (λ(p:Str × V) (x:Str × Tok × Aa)=>p.1=x.1/\RelV p.2 x.2.2) kvs l/\h.DictOf (fu P w) d (l.map λx=>((Sum.inr x.1:Key),x.2.2)):=by
 let#[_,nd,l,o,es,ep,ho,hx,hd,he,hp]:=k;apply#[l,hp,o,es,ep,X _ _ ho,hx,hd,λe m=>?_,?_,?_]
 ·have m:e∈La w l:=by
   rw[<- he];simpa using m
  let#[x,_,rfl]:=bj.mp m;exact#[Sum.inr x.1,Sh P w x.1 x.2.1,Z]
 ·rw[he];exact Yq
 ·rw[WT hp] at nd;rw[cm,xv,oZ];rw[xv,oZ] at nd;exact nd.imp λn e=>n (ij e)
theorem lA_(h:Paired (λ(p:Str × V) (x:Str × Tok × Aa)=>p.1=x.1/\RelV p.2 x.2.2) kvs l)(nd:(kvs.map (·.1)).Nodup){z:Str}{v:V}(m:(z,v)∈kvs):∃u,valueAt (l.map λx=>((Sum.inr x.1:Key),x.2.2)) (Sum.inr z)=some u/\RelV v u:=by
 unfold valueAt
 induction h with
 |nil=>cases m
 |@cons p x kvs l a _ ih=>
  rw[eL] at nd ⊢;rw[List.find?_cons];let#[n1,n2]:=rQ.mp nd;by_cases e:x.1=z
  ·rcases bZ.mp m with m|m
   ·subst m;apply#[x.2.2,?_,a.2];simp[e]
   ·exact absurd (by rw[a.1,e];exact bj.mpr #[_,m,Z]) n1
  ·rcases bZ.mp m with m|m
   ·subst m;exact absurd a.1.symm e
   ·have:=ih n2 m;simp[e];simpa using this
theorem hq_(h:Paired (λ(p:Str × V) (x:Str × Tok × Aa)=>p.1=x.1/\RelV p.2 x.2.2) kvs l)(z:Str):(valueAt (l.map λx=>((Sum.inr x.1:Key),x.2.2)) (Sum.inr z)).isSome=decide (z∈kvs.map (·.1)):=by
 rw[WT h];unfold valueAt;rw[Option.isSome_map,List.isSome_find?];rw[Bool.eq_iff_iff,List.any_eq_true,decide_eq_true_iff];constructor
 ·rintro⟨kv,hm,e⟩;let#[x,hx,rfl]:=bj.mp hm;have e:(Sum.inr x.1:Key)=Sum.inr z:=by simpa using e
  exact bj.mpr #[x,hx,ij e]
 ·intro m;let#[x,hx,e]:=bj.mp m;exact#[_,bj.mpr #[x,hx,Z],by simp[e]]
inductive zy (K:af) (w:Af) (Q:VK) (y:V) (x:V) (H2:Hp):Prop
 |mk:∀d kvs z,x=.ref d->lW K w d kvs->y=.str z->Q (.bl (decide (z∈kvs.map (·.1)))) H2->zy K w Q y x H2
def MR(K:af)(w:Af)(ty td:TE):TE:=λσ H Q=>ty σ H λy H1=>td σ H1 λx H2=>zy K w Q y x H2
variable{X:Cx}{i o:Expr}{td ty:TE}
theorem lX_(hi:PE X i ty)(ho:PE X o td):PC X .In i o (MR X.K X.w ty td):=by
 intro pins s σ H Q I h;apply a_ (hi pins s σ H _ I h) λiv s1 ⟨y,H1,I1,ry,q1⟩=>a_ (ho pins s1 σ H1 _ I1 q1) λu s2 ⟨x,H2,I2,rx,d,kvs,z,ex,kd,ey,q2⟩=>?_;subst ex;subst ey;obtain rfl:u=Value.ref d:=rx;let#[l,hp,dd]:=kd.of (P:=X.prog) I2.gK;apply wpAny_in_of (yI (k:=Sum.inr z) ry) kd.1 dd.mapOf ?_;rw[hq_ hp];exact#[.bl _,H2,I2.tok _,Z,q2]
inductive tq (K:af) (w:Af) (Q:VK) (x:V) (y:V) (H2:Hp):Prop
 |mk:∀d kvs z v,x=.ref d->lW K w d kvs->y=.str z->(z,v)∈kvs->Q v H2->tq K w Q x y H2
def Fh(K:af)(w:Af)(td ty:TE):TE:=λσ H Q=>td σ H λx H1=>ty σ H1 λy H2=>tq K w Q x y H2
variable{pos:Pos}
theorem lx_(ho:PE X o td)(hi:PE X i ty)(hs:Do i):PE X (.Subscript o i pos) (Fh X.K X.w td ty):=by
 intro pins s σ H Q I h;apply Vt PySem.F.slot_dict_getitem.lookup hs (a_ (ho pins s σ H _ I h) λu s1 ⟨x,H1,I1,rx,q1⟩=>a_ (hi pins s1 σ H1 _ I1 q1) λiv s2 ⟨y,H2,I2,ry,d,kvs,z,v,ex,kd,ey,hm,q2⟩=>?_);subst ex;subst ey;obtain rfl:u=Value.ref d:=rx;let#[l,hp,dd]:=kd.of (P:=X.prog) I2.gK;let#[w',hw,kJ]:=lA_ hp kd.2.1 hm;exact#[dd.mapOf.typeIs,wpAny_getItem_of (yI (k:=Sum.inr z) ry) dd.mapOf hw #[v,H2,I2.tok _,kJ,q2]]
end L2
namespace Ev
open PySem L2
abbrev Rl:=Str × Str × Str × Option Str
def rl:List Rl:=[("least one high","least","one",some "high"),("least one fall","least","one",some "fall"),("least one calm","least","one",some "calm"),("least all high","least","all",some "high"),("least all fall","least","all",some "fall"),("least all calm","least","all",some "calm"),("below one high","below","one",some "high"),("below one fall","below","one",some "fall"),("below one calm","below","one",some "calm"),("below all high","below","all",some "high"),("below all fall","below","all",some "fall"),("below all calm","below","all",some "calm"),("shares one","shares","one",none),("shares all","shares","all",none),("turns high","turns","all",some "high"),("turns fall","turns","all",some "fall"),("turns calm","turns","all",some "calm")]
def fL:Option Str->V
 |some x=>.str x
 |none=>.non
def oz:ae:=rl.map (·.1)
theorem h2_:oz.Nodup:=by decide +kernel
def Ue(as:ay):List (Str × V):=List.zipWith (λ(r:Rl) a=>(r.1,V.ref a)) rl as
structure LN (K:af) (w:Af) (mg:Str->Option Aa) (d:Addr) (as:ay):Prop where
 mg:mg "RULES"=some (.ref d)
 len:as.length=17
 kd:lW K w d (Ue as)
 tup:Paired (λa (r:Rl)=>∀H,iZ K H a [.str r.2.1,.str r.2.2.1,fL r.2.2.2]) as rl
variable{as:ay}
theorem Ym(h:as.length=17):(Ue as).map (·.1)=oz:=by
 have:∀(rs:List Rl) (as:ay),as.length=rs.length->(List.zipWith (λ(r:Rl) a=>(r.1,V.ref a)) rs as).map (·.1)=rs.map (·.1):=by
  intro rs
  induction rs with
  |nil=>intro as _;rfl
  |cons r rs ih=>
   intro as e;cases as with
   |nil=>cases e
   |cons a as=>
    rw[List.zipWith_cons_cons,eL,eL,ih as (by simpa using e)]
 exact this rl as h
theorem U3{K:af}:∀{rs:List Rl} {as:ay},Paired (λa (r:Rl)=>∀H,iZ K H a [.str r.2.1,.str r.2.2.1,fL r.2.2.2]) as rs->∀r∈rs,∃a,(r.1,V.ref a)∈List.zipWith (λ(r:Rl) a=>(r.1,V.ref a)) rs as/\∀H,iZ K H a [.str r.2.1,.str r.2.2.1,fL r.2.2.2]
 |_,_,.nil,r,h=>by cases h
 |r0::rs,a::as,.cons h t,r,m=>by
  rw[List.zipWith_cons_cons];rcases bZ.mp m with rfl|m
  ·exact#[a,cZ,h]
  ·let#[b,hb,hs]:=U3 t r m;exact#[b,dI _ hb,hs]
def Gs(ns:ae):Option Str->Bool
 |some x=>decide (x∈ns)
 |none=>false
theorem tX:bD gZ gZ (bb Ql):=bJ
def Xo:Sp:=λvs H Q _=>∃r∈rl,vs=[.str r.1]/\Q (.bl true) H
variable{d f:Addr}{fd:Ad}{P:Ae}{w:Af}{K:af}{mg:Str->Option Aa}{base:Heap}
theorem hF_(F:bo K "is_rule" "is_rule" Ql f fd)(B:Bi mg)(R:LN K w mg d as):!aj aZ 1 f fd gZ Xo:=by
 apply F.bI tX λaR A outer s H vs Q E hr h=>?_
 ·let#[r,iN,rfl,k]:=h;apply#[_,aF (bh (sJ (cX qz (by rfl) B.oF oY %[0,qx (v:=.ty "str") (by rfl) B.str HN Z|0]) (oU (HS (lX_ (pv 0) (CQ (v:=.ref d) (by rfl) R.mg Z)))))),?_];apply#[_,Z,_,_,_,_,Z,.str r.1,Z,_,Z,fo #[_,Z,d,_,r.1,Z,R.kd,Z,?_]];rw[Ym R.len,show decide (r.1∈oz)=true from cc (bj.mpr #[r,iN,Z])];exact k
theorem xQ:bD ["rule"] ["rule"] (bb nF):=bJ
def LH(K:af):Sp:=λvs H Q _=>∃r∈rl,vs=[.str r.1]/\∀a,(∀H',iZ K H' a [.str r.2.1,.str r.2.2.1,fL r.2.2.2])->Q (.ref a) H
theorem iS_(F:bo K "checked_words" "checked_words" nF f fd)(R:LN K w mg d as)(cI:!br 1 "is_rule" gZ Xo):!aj aZ 2 f fd ["rule"] (LH K):=by
 apply F.bI xQ λaR A outer s H vs Q E hr h=>?_
 ·let#[r,iN,rfl,k]:=h;apply#[_,ak (bQ (hY (gg (aY cI hr %[0|0]))) (aF jS_) bR) (aF (bh (lx_ (CQ (v:=.ref d) (by rfl) R.mg Z) (pv 0) (λ_ _=>rfl)))),?_];let#[a,ha,hs]:=U3 R.tup r iN;exact#[_,Z,r,iN,Z,_,Z,bu #[_,Z,d,_,r.1,.ref a,Z,R.kd,Z,ha,k a hs]]
end Ev
namespace HT
open PySem PySem.Spec PyProof.Rows
end HT
namespace L2
open PySem PySem.Spec PyProof.Rows
end L2
namespace Ev
open PySem L2
structure Ei (ts ws:Xb):Prop where
 good:∀w∈ws,Co w
 nd:(ws.map kO).Nodup
 hV:∀w∈ws,kO w∈ts.map kO
 len:ws.length<=ts.length
theorem lz_{ts us ws:Xb}(good:∀t∈ts,Co t)(nd:(ts.map kO).Nodup)(sub:us.Sublist ts)(p:Paired (λw u=>w=u∨w=(u.2,u.1)) ws us):Ei ts ws:=by
 have e:ws.map kO=us.map kO:=by
  clear sub
  induction p with
  |nil=>rfl
  |cons h _ ih=>
   rw[eL,eL,ih];rcases h with rfl|rfl
   ·rfl
   ·exact d8 (·::_) (P4 _ _)
 apply#[λw hw=>?_,?_,λw hw=>?_,?_]
 ·let#[i,hi,ew]:=rT hw;let hl:=bK p;let q:=iw p i hi Z1;rw[ew] at q;let g:=good _ (sub.subset (js (show i<us.length by omega)));rcases q with q|q
  ·rw[q];exact g
  ·rw[q];exact#[g.2.1,g.1,g.2.2.symm]
 ·rw[e];exact (sub.map kO).nodup nd
 ·have:kO w∈ws.map kO:=bj.mpr #[w,hw,Z];rw[e] at this;exact (sub.map kO).subset this
 ·rw[bK p];exact sub.length_le
def bW(K:af)(H:Hp)(v:V):Option (Xb)->Prop
 |none=>v=.non
 |some ws=>∃a ys,v=.ref a/\H a=some (.lst ys)/\bg K H ys (ws.map kT)
variable{K:af}{H H':Hp}{v:V}{o:Option (Xb)}
theorem bW.same(h:bW K H v o)(s:aa H H'):bW K H' v o:=by
 cases o with
 |none=>exact h
 |some ws=>
  let#[a,ys,e,ha,t]:=h;exact#[a,ys,e,s _ _ ha,t.same s]
abbrev Pc:=Str × Int × Option (Xb)
def wj(K:af)(H:Hp)(y:V)(p:Pc):Prop:=∃t v,y=.ref t/\H t=some (.tup [.str p.1,.int p.2.1,v])/\bW K H v p.2.2
abbrev As(K:af)(H:Hp)(ys:ai)(ps:List Pc):Prop:=Paired (wj K H) ys ps
structure Cs (ts:Xb) (p:Pc):Prop where
 nm:jD p.1=true
 w1:1<=p.2.1
 w2:p.2.1<=1000000000
 ws:∀ws,p.2.2=some ws->Ei ts ws
theorem wj.same{y:V}{p:Pc}(h:wj K H y p)(s:aa H H'):wj K H' y p:=by
 let#[t,v,e,ht,hv]:=h;exact#[t,v,e,s _ _ ht,hv.same s]
theorem bW.put{D:Addr}{xs:ai}{u:HO}(h:bW K H v o)(hD:H D=some (.lst xs))(ne:v≠.ref D):bW K (upd H D u) v o:=by
 cases o with
 |none=>exact h
 |some ws=>
  let#[a,ys,e,ha,t]:=h;subst e;exact#[a,ys,Z,by rw[au λz=>ne (by rw[z])];exact ha,i9 t hD]
end Ev
abbrev aC:=List Ev.Pc
namespace Ev
open PySem L2
theorem km{α β:Type}{F:α->β->Prop}:∀{ys MC:List α} {ks uV:List β},Paired F ys ks->Paired F MC uV->Paired F (ys++MC) (ks++uV)
 |_,_,_,_,.nil,h=>h
 |_,_,_,_,.cons a t,h=>.cons a (km t h)
def lV(K:af)(H:Hp)(v:V):Option Str->Prop
 |some x=>v=.str x
 |none=>∃t,gi K H v t/\PySem.W.kitOne K t (.type "str")=some false
def kn(hs:Xa)(ts:Xb):Option Str->Option Str->Bool
 |some x,some y=>decide (x∈hs.map (·.1))&&(decide (y∈hs.map (·.1))&&decide (y∈near (aI hs) (aD ts) x))
 |_,_=>false
theorem Mr(hs:Xa)(ts:Xb)(x y:Str):kn hs ts (some x) (some y)=(decide (x∈hs.map (·.1))&&(decide (y∈hs.map (·.1))&&decide (y∈near (aI hs) (aD ts) x))):=rfl
variable{f:Addr}{fd:Ad}
variable{H' H0:Hp}
variable{D:Addr}{u:HO}{v:V}{o:Option (Xb)}
section
variable{P:Ae}{w:Af}{K:af}{mg:Str->Option Aa}{base:Heap}
inductive ni (K:af) (C:Addr) (vs:ai) (H:Hp) (Q:VK) (E:XK):Prop
 |mk:∀(p:Addr) (v:V) (x:Option Str) (hs:Xa) (ts:Xb) (fp:ay),vs=[.ref p,v]->g9 K C H p hs ts fp->lV K H v x->Q (.bl (Gs (hs.map (·.1)) x)) H->ni K C vs H Q E
theorem kA_{C:Addr}(F:bo K "has_hand" "Web.has_hand" ya f fd)(T:Txt K mg C)(B:Bi mg):!aj aZ 1 f fd qv (ni K C):=by
 apply F.bI zF λaR A outer s H vs Q E hr h=>?_
 ·let#[p,v,x,hs,ts,fp,rfl,W,sv,k]:=h;let hu:=eU hr;let#[dx,d1,l2,d3,zs,as,rfl,h1,h2,h3,h4,h5,h6,h7]:=W.ex;apply#[_,aF (bh (sJ (cX qz (by rfl) B.oF oY %[1,qx (v:=.ty "str") (by rfl) B.str HN Z|0]) (oU (HS (Ek hu (pv 1) (eE (pv 0) Z)))))),?_];cases x with
  |some x=>
   cases (show v=.str x from sv);apply#[_,Z,_,_,_,_,Z,.str x,Z,_,Z,fo ?_];apply#[_,Z,_,Z,p,C,dx,_,_,Z,h1,T.cl,T.nS,Lg _ _ _,d1,_,Z,.k (k:=Sum.inr x) h2,?_];rw[Ll];exact k
  |none=>
   let#[t,ty,e]:=sv;exact#[_,Z,_,_,_,_,Z,ty,e,_,Z,bu k]
inductive Ly (K:af) (C:Addr) (vs:ai) (H:Hp) (Q:VK) (E:XK):Prop
 |mk:∀(p:Addr) (v u:V) (x y:Option Str) (hs:Xa) (ts:Xb) (fp:ay),vs=[.ref p,v,u]->g9 K C H p hs ts fp->(aI hs).Nodup->lV K H v x->lV K H u y->Q (.bl (kn hs ts x y)) H->Ly K C vs H Q E
theorem iM_{C:Addr}(F:bo K "are_tied" "Web.are_tied" ue f fd)(T:Txt K mg C)(cH:!bG C 1 "has_hand" qv (ni K C)):!aj aZ 2 f fd mw (Ly K C):=by
 apply F.bI Bb λaR A outer s H vs Q E hr h=>?_
 ·let#[p,v,u,x,y,hs,ts,fp,rfl,W,nd,sv,su,k]:=h;let hu:=eU hr;let#[dx,d1,l2,d3,zs,as,rfl,h1,h2,h3,h4,h5,h6,h7]:=id W.ex;have qd:(dm d1 l2 d3).lookup ("has_hand":Str)=none:=j5 _ _ _ Z0 Z0 Z0;apply#[_,aF (bh (sJ (fU cH T.cl hr (pv 0) %[1|0]) (sJ (fU cH T.cl hr (pv 0) %[2|0]) (oU (iG (Hx fP (oN hr 0)) (pv 2) (cn hu (eE (pv 0) Z) (pv 1)) (by with_unfolding_all rfl)))))),?_];apply#[_,Z,p,dx,_,Z,h1,qd,_,Z,p,v,x,hs,ts,_,Z,W,sv,_,Z,?_];cases x with
  |none=>exact bu k
  |some x=>
   cases (show v=.str x from sv);apply aP (λc=>?_) (λc=>?_)
   ·have hx:x∈hs.map (·.1):=jB c;let#[a,e1,ha]:=UW nd hx h6 h7;apply#[_,Z,p,dx,_,Z,h1,qd,_,Z,p,u,y,hs,ts,_,Z,W,su,_,Z,?_];cases y with
    |none=>exact bu k
    |some y=>
     cases (show u=.str y from su);rw[Mr,cc hx,Bool.true_and] at k;apply aP (λc2=>?_) (λc2=>?_)
     ·have hy:y∈hs.map (·.1):=jB c2;rw[cc hy,Bool.true_and] at k;apply#[_,Z,_,Z,p,C,dx,_,_,Z,h1,T.cl,T.nN,Px _ _ _,_,Z,d3,.ref a,Z,?_,y,_,Z,#[a,_,Z,.of ha,C7 _],k];rw[<- e1];exact .k (k:=Sum.inr x) h5
     ·have hy:¬y∈hs.map (·.1):=λz=>c2 (cc z);rw[dS hy,rP] at k;exact k
   ·have hx:¬x∈hs.map (·.1):=λz=>c (cc z);cases y with
    |none=>exact k
    |some y=>
     rw[Mr,dS hx,rP] at k;exact k
theorem iP_{hs:Xa}{ts ws:Xb}(G:Good hs ts)(W:Ei ts ws){t:Str × Str}(ht:t∈aD ws):kn hs ts (some t.1) (some t.2)=true:=by
 let#[x,hx,ex]:=Me.mp ht;let#[u,hu,eu]:=bj.mp (W.hV x hx);have eo:aL u.1 u.2=t:=(HQ eu).trans ex
 have both:t.1∈hs.map (·.1)/\t.2∈hs.map (·.1)/\aL t.1 t.2=t:=by
  let#[g1,g2]:=G.qS u hu;rcases Ln u.1 u.2 with e|e
  ·rw[<- eo,e];exact#[g1,g2,e]
  ·rw[<- eo,e];exact#[g2,g1,(LZ _ _).trans e]
 let#[m1,m2,m3]:=both;have m4:t.2∈near (aI hs) (aD ts) t.1:=rR.mpr #[(gn hs).mem_iff.mpr m2,cc (by rw[m3];exact Me.mpr #[u,hu,eo])];rw[Mr,cc m1,cc m2,cc m4];rfl
theorem LC:bD ["web","ways","found","one","other"] ["web","ways"] (bb ow):=bJ
inductive QU (K:af) (C:Addr) (vs:ai) (H:Hp) (Q:VK) (E:XK):Prop
 |mk:∀(p:Addr) (v:V) (o:Option (Xb)) (hs:Xa) (ts:Xb) (fp:ay),vs=[.ref p,v]->g9 K C H p hs ts fp->Good hs ts->bW K H v o->(∀ws,o=some ws->Ei ts ws)->(∀v' H',aa H H'->bW K H' v' (o.map aD)->(∀a,v'=.ref a->H a=none)->Q v' H')->QU K C vs H Q E
theorem iT_{C:Addr}(F:bo K "checked_ways" "checked_ways" ow f fd)(T:Txt K mg C)(cS:!br 3 "sorted_ties" ["ties"] (RE K))(cT:!bG C 2 "are_tied" mw (Ly K C)):!aj aZ 4 f fd ["web","ways"] (QU K C):=by
 apply F.bI LC λaR A outer s H vs Q E hr h=>?_
 ·let#[p,v,o,hs,ts,fp,rfl,W,G,wy,gw,k]:=h;let hu:=eU hr;have vh:ba 2 _:=hr.mono (by decide)
  apply#[_,ak (bQ (AJ (Lh (pv 1))) (aF (bh CK)) bR)
   (ak (aQ 2 LC.nd (aY cS hr %[1|0]))
   (ak (bQ (AJ (Lh (pv 2))) fF bR)
   (ak (eM dX Z (dF (pv 2)) (jm Z (di (bU 3 LC.nd) (di (bU 4 LC.nd) iF)))
    (aF (bQ (hY (gg (fU cT T.cl vh (pv 0) %[3,4|0]))) fF bR)))
   (aF (bh (pv 2)))))),?_]
  cases o with
  |none=>
   cases (show v=.non from wy);exact#[_,Z,_,Z,fo (k .non H (aa.refl H) Z (λa z=>by cases z))]
  |some ws=>
   let#[a,ys,rfl,ha,tu]:=wy;let Wo:=gw ws Z;apply#[_,Z,_,Z,bu ?_];apply#[_,Z,a,ys,ws,Z,ha,tu,Wo.good,Wo.nd,by have:=Wo.len;have:=G.pE;omega,λl' zs H1 s1 hf jR tz=>?_];apply#[_,Z,_,Z,bu ?_];let W1:=W.same s1;let#[dx,d1,l2,d3,l_,as,rfl,h1,h2,h3,h4,h5,h6,h7]:=id W1.ex;have qd:(dm d1 l2 d3).lookup ("are_tied":Str)=none:=j5 _ _ _ Z0 Z0 Z0;rw[<- IR] at tz
   let J2:bL:=λi σ H2=>∃(v3 v4:aK),σ=[some (.ref p),some (.ref a),some (.ref l'),v3,v4]/\H2=H1
   apply#[_,Z,l',Z,#[_,.of jR],gc (K:=K) (a:=l') (xs:=zs) J2 #[none,none,Z,Z] (λi σ H2 _ ⟨_,_,_,e⟩=>by subst e;exact .of jR) ?_ ?_]
   ·rintro i y σ H2 hy ⟨v3,v4,rfl,rfl⟩;let#[t,ht,q,rfl,hq]:=jr tz hy;apply#[q,_,Z,.of (wH hq),Z,_,_,Z,_,_,Z,Z,?_];apply#[_,Z,p,dx,_,Z,h1,qd,_,Z,_,Z,p,_,_,some t.1,some t.2,hs,ts,_,Z,W1,G.r9,Z,Z,_,Z,?_];rw[iP_ G Wo (cw ht)];apply bu ?_;exact#[_,_,Z,Z]
   ·rintro σ H2 ⟨v3,v4,rfl,rfl⟩;exact#[_,Z,k (.ref l') _ s1 #[l',zs,Z,jR,tz] (λc z=>by cases z;exact hf)]
def yj(p:Pc):Pc:=(p.1,p.2.1,p.2.2.map aD)
def sF(K:af)(H0 H:Hp)(y:V)(p:Pc):Prop:=∃t v,y=.ref t/\H t=some (.tup [.str p.1,.int p.2.1,v])/\bW K H v p.2.2/\∀a,v=.ref a->H0 a=none
theorem sF.same{K:af}{H:Hp}{y:V}{p:Pc}(h:sF K H0 H y p)(s:aa H H'):sF K H0 H' y p:=by
 let#[t,v,e,ht,hv,hn]:=h;exact#[t,v,e,s _ _ ht,hv.same s,hn]
theorem bW.up{K:af}{H:Hp}(h:bW K H v o)(n1:∀xs,H D≠some (.lst xs))(n2:∀xs,H D≠some (.tup xs)):bW K (upd H D u) v o:=by
 cases o with
 |none=>exact h
 |some ws=>
  let#[a,ys,e,ha,t]:=h;exact#[a,ys,e,by rw[au (λz:a=D=>n1 ys (z▸ha))];exact ha,Paired.bx t λy k ⟨b,z,q⟩=>#[b,z,by rw[au (λz:b=D=>n2 _ (z▸q))];exact q]]
theorem sF.up{K:af}{H:Hp}{y:V}{p:Pc}(h:sF K H0 H y p)(n1:∀xs,H D≠some (.lst xs))(n2:∀xs,H D≠some (.tup xs)):sF K H0 (upd H D u) y p:=by
 let#[t,v,e,ht,hv,hn]:=h;exact#[t,v,e,by rw[au (λz:t=D=>n2 _ (z▸ht))];exact ht,hv.up n1 n2,hn]
theorem RJ{ps:aC}{cs:ai}(nd:(ps.map (·.1)).Nodup)(hl:cs.length=ps.length):∀{j:Nat} {q:Pc} {c:V},ps[j]? = some q->cs[j]? = some c->bM ((ps.zip cs).map λq=>((Sum.inr q.1.1:Key),q.2)) (Sum.inr q.1)=some c:=by
 induction ps generalizing cs with
 |nil=>
  intro j q c h;simp at h
 |cons p ps ih=>
  intro j q c h1 h2;cases cs with
  |nil=>cases hl
  |cons b cs=>
   rw[eL] at nd;let#[n1,n2]:=rQ.mp nd;cases j with
   |zero=>
    have e1:p=q:=by simpa using h1
    have e2:b=c:=by simpa using h2
    subst e1 e2;exact C6 Z
   |succ j=>
    have h1:ps[j]? = some q:=by simpa using h1
    have h2:cs[j]? = some c:=by simpa using h2
    show bM ((Sum.inr p.1,b)::((ps.zip cs).map λq=>((Sum.inr q.1.1:Key),q.2))) (Sum.inr q.1)=_;rw[C9 λe=>n1 (by rw[show p.1=q.1 from ij e];exact bj.mpr #[q,cw h1,Z])];exact ih n2 (by simpa using hl) h1 h2
theorem uc:bD ["web","piece"] ["web","piece"] (bb QX):=bJ
inductive Qy (K:af) (C:Addr) (vs:ai) (H:Hp) (Q:VK) (E:XK):Prop
 |mk:∀(p:Addr) (y:V) (q:Pc) (hs:Xa) (ts:Xb) (fp:ay),vs=[.ref p,y]->g9 K C H p hs ts fp->Good hs ts->wj K H y q->Cs ts q->(∀y' H',aa H H'->sF K H H' y' (yj q)->Q y' H')->Qy K C vs H Q E
theorem h0_{C:Addr}(F:bo K "checked_piece" "checked_piece" QX f fd)(B:Bi mg)(cN:!br 1 "is_name" gZ K7)(cW:!br 2 "is_whole_within" lP QG)(cC:!br 4 "checked_ways" ["web","ways"] (QU K C)){tk:Tok}(mW:mg "MOST_WEIGHT"=some (.int 1000000000 tk)) :
  aj P w K mg base aZ 5 f fd ["web","piece"] (Qy K C):=by
 apply F.bI uc λaR A outer s H vs Q E hr h=>?_
 ·let#[p,y,q,hs,ts,fp,rfl,W,G,#[t,v,rfl,ht,wy],gp,k]:=h
  apply#[_,ak (bQ (Ax (hY (gg (cX qz (by rfl) B.oF oY %[1,qx (v:=.ty "tuple") (by rfl) B.tuple Rf Z|0])))
    (AH (cz DV (cX lM (by rfl) B.len jk %[1|0]) aE))).pt fF bR)
   (ak (bQ (hY (gg (aY cN hr %[bO eO (pv 1) aE|0]))) fF bR)
   (ak (bQ (hY (gg (aY cW hr %[bO eO (pv 1) aE,aE,CQ (v:=.int 1000000000) (by rfl) mW #[tk,Z]|0]))) fF bR)
   (aF (bh (eW %[bO eO (pv 1) aE,bO eO (pv 1) aE,aY cC hr %[0,bO eO (pv 1) aE|0]|0]))))),?_]
  apply#[_,Z,_,_,_,_,Z,.tup ht,Z,_,Z,bu ?_];apply#[_,Z,t,_,Z,.inr (.of ht),Z,_,Z,?_];apply uX (show V.int ((3:Nat):Int)=V.int 3 from Z) ?_;apply#[_,Z,t,_,_,_,Z,Z,.of ht,Z,q.1,Z,by have:=LW gp.nm;omega,λH1 s1=>#[_,Z,?_]];rw[gp.nm];apply bu ?_;let Ah:=s1 _ _ ht;apply#[_,Z,t,_,_,_,Z,Z,.of Ah,Z,q.2.1,1,1000000000,Z,_,Z,?_];rw[cc gp.w1,cc gp.w2];apply bu ?_;apply#[_,Z,t,_,_,_,Z,Z,.of Ah,Z,_,Z,t,_,_,_,Z,Z,.of Ah,Z,_,Z,_,Z,t,_,_,_,Z,Z,.of Ah,Z,p,v,q.2.2,hs,ts,fp,Z,W.same s1,G,wy.same s1,gp.ws,λv' H2 s2 _i hf=>?_];apply#[zl,λt' GG=>?_];exact k (.ref t') _ (s1.trans (s2.trans (aa.new GG))) #[t',v',Z,az,_i.same (aa.new GG),λa z=>s1.free (hf a z)]
theorem Ma:bD ["web","pieces","found","piece","checked"] ["web","pieces"] (bb RN):=bJ
structure Qs (ps qs:aC):Prop where
 p_:qs.map (·.1)=aV (ps.map (·.1))
 mem:∀q∈qs,∃p∈ps,q=yj p
inductive Ro (K:af) (C:Addr) (vs:ai) (H:Hp) (Q:VK) (E:XK):Prop
 |mk:∀(p l:Addr) (ys:ai) (ps:aC) (hs:Xa) (ts:Xb) (fp:ay),vs=[.ref p,.ref l]->g9 K C H p hs ts fp->Good hs ts->H l=some (.lst ys)->As K H ys ps->(∀q∈ps,Cs ts q)->(ps.map (·.1)).Nodup->ps.length<64->(∀l' zs qs H',aa H H'->H' l'=some (.lst zs)->Paired (sF K H H') zs qs->Qs ps qs->Q (.ref l') H')->Ro K C vs H Q E
theorem gJ_{C:Addr}(F:bo K "checked_pieces" "checked_pieces" RN f fd)(B:Bi mg)(cP:!br 5 "checked_piece" ["web","piece"] (Qy K C)):!aj aZ 6 f fd ["web","pieces"] (Ro K C):=by
 apply F.bI Ma λaR A outer s H vs Q E hr h=>?_
 ·let#[p,l,ys,ps,hs,ts,fp,rfl,W,G,hl,pc,gp,nd,dk,k]:=h;let hu:=eU hr;let sz:=b_;let le:=bK pc
  apply#[_,ak (bQ (hY (gg (cX qz (by rfl) B.oF oY %[1,qx (v:=.ty "list") (by rfl) B.list CT Z|0]))) fF bR)
   (ak (aQ 2 Ma.nd C_)
   (ak (eM dX Z (dF (pv 1)) (bU 3 Ma.nd)
    (ak (aQ 4 Ma.nd (aY cP hr %[0,3|0]))
    (ak (bQ (AJ (Ek hu (bO eO (pv 4) aE) (pv 2))) fF bR)
    (aF (rN hu (pv 2) (bO eO (pv 4) aE) (pv 4) Z)))))
   (aF (bh (i8 ["name","found"] 1 [2] (dF (cX (YU Z) (by rfl) B.sorted yU %[2|0])) (λfp s H=>fw (i:=0) (show (["name","found"]:ae).Nodup by decide +kernel) Z (Or.inl Z)) (λfp s H=>iY)
    (λfp s H=>cn hu (pv 1) (pv 0))))))),?_]
  apply#[_,Z,_,_,_,_,Z,.lst hl,Z,_,Z,bu ?_];intro d hd;have s0:aa H (upd H d (.dK [])):=aa.new hd
  let J1:bL:=λi σ H2=>∃(v3 v4:aK) (cs:ai),σ=[some (.ref p),some (.ref l),some (.ref d),v3,v4]/\aa H H2/\Paired (sF K H H2) cs ((ps.take i).map yj)/\H2 d=some (.dK (((ps.take i).zip cs).map λq=>(Sum.inr q.1.1,q.2)))
  apply#[_,Z,l,Z,#[_,.of (s0 _ _ hl)],gc (K:=K) (a:=l) (xs:=ys) J1 #[none,none,[],Z,s0,.nil,az] (λi σ H2 _ ⟨_,_,_,_,s2,_⟩=>.of (s2 _ _ hl)) ?_ ?_]
  ·rintro i y σ H2 hy ⟨v3,v4,cs,rfl,s2,pn,hd2⟩;have hi:i<ys.length:=(cy.mp hy).1;have hq:ps[i]? = some (ps[i]' Z1):=dG Z1;let py:=iw pc i hi Z1;rw[(cy.mp hy).2] at py;generalize ps[i]' Z1=q at hq py;apply#[_,Z,_,Z,p,y,q,hs,ts,fp,Z,W.same s2,G,py.same s2,gp q (cw hq),λy' H3 s3 pw=>?_];let#[t,v,rfl,ht,wy,hf]:=pw;let oK:=s3 _ _ hd2;let lc:=bK pn;rw[ao,dg] at lc
   have keys:((((ps.take i).zip cs).map λq=>((Sum.inr q.1.1:Key),q.2)).map (·.1))=((ps.take i).map (·.1)).map Sum.inr:=by
    rw[cm];have:((λx:Key × V=>x.1) ∘ λq:Pc × V=>((Sum.inr q.1.1:Key),q.2))=(λp:Pc=>(Sum.inr p.1:Key)) ∘ Prod.fst:=rfl;rw[this,<- cm,List.map_fst_zip (by rw[dg];omega),cm];rfl
   have wF:bM (((ps.take i).zip cs).map λq=>((Sum.inr q.1.1:Key),q.2)) (Sum.inr q.1)=none:=AO (by
    rw[keys];intro m;let#[x,hx,e]:=bj.mp m;cases e;exact IK (g:=λp:Pc=>p.1) nd hq hx)
   apply#[_,Z,t,_,_,_,Z,Z,.of ht,Z,_,Z,d,_,Z,.k (k:=Sum.inr q.1) oK,_,Z,?_];rw[wF];apply bu ?_;apply#[_,Z,_,Z,_,Z,t,_,_,_,Z,Z,.of ht,Z,d,_,Z,.k (k:=Sum.inr q.1) oK (by rw[ao,List.length_zip,dg];omega),?_];let jK:=s2.trans s3;have n1:∀xs,H3 d≠some (.lst xs):=λxs z=>by rw[oK] at z;cases z
   have n2:∀xs,H3 d≠some (.tup xs):=λxs z=>by rw[oK] at z;cases z
   apply#[_,_,cs++[.ref t],Z,λc o e=>?_,?_,?_]
   ·rw[au (bq e hd)];exact jK _ _ e
   ·rw[iE,hq,cu];exact km (Paired.bx pn λy q h=>(h.same s3).up n1 n2) (.cons (sF.up #[t,v,Z,ht,wy,λa z=>s2.free (hf a z)] n1 n2) .nil)
   ·rw[az,EJ _ wF,iE,hq,List.zip_append (by rw[dg];omega),cu];rfl
  ·rintro σ H2 ⟨v3,v4,cs,rfl,s2,pn,hd2⟩;rw[le,dP] at pn hd2;let lc:=bK pn;rw[ao] at lc
   have keys:(((ps.zip cs).map λq=>((Sum.inr q.1.1:Key),q.2)).map (·.1))=(ps.map (·.1)).map Sum.inr:=by
    rw[cm];have:((λx:Key × V=>x.1) ∘ λq:Pc × V=>((Sum.inr q.1.1:Key),q.2))=(λp:Pc=>(Sum.inr p.1:Key)) ∘ Prod.fst:=rfl;rw[this,<- cm,List.map_fst_zip Z1,cm];rfl
   apply#[_,Z,d,_,ps.map (·.1),Z,hd2,keys,by rw[ao];exact dk,λls yy=>?_];let#[s3,rC]:=aB (o:=.lst ((aV (ps.map (·.1))).map V.str)) yy;apply#[ls,Z,#[_,.of rC],λD hD=>?_];generalize upd H2 ls (.lst ((aV (ps.map (·.1))).map V.str))=H3 at s3 rC hD ⊢;have lss:(aV (ps.map (·.1))).length=ps.length:=by rw[(gq _).length_eq,ao]
   apply mJ (own:=1) (fv:=[some (.ref d)]) (xs:=(aV (ps.map (·.1))).map V.str) Z d_ (λi out H'=>∃qs:aC,aa H3 H'/\H' D=some (.lst out)/\Paired (sF K H H2) out qs/\qs.map (·.1)=(aV (ps.map (·.1))).take i/\∀q∈qs,∃p∈ps,q=yj p) #[[],aa.new hD,az,.nil,Z,by simp] (λi out H' _ ⟨_,sm,_⟩=>.of (sm _ _ rC)) (λzs H4 ⟨qs,s4,rD,pq,en,mem⟩=>?_) (λi x out H' hx ⟨qs,sm,eQ,pq,en,mem⟩=>?_)
   ·rw[ao,dP] at en;exact k D zs qs H4 (s2.trans (s3.trans s4)) rD (Paired.bx pq λy q h=>h.same (s3.trans s4)) #[en,mem]
   ·let#[n,hn,rfl]:=iX hx;have hm:n∈ps.map (·.1):=(gq _).mem_iff.mp (cw hn);let#[q,hq,eq]:=bj.mp hm;let#[j,hj,ej]:=rT hq;have hqj:ps[j]? = some q:=by rw[dG hj,ej]
    have Wp:cs[j]? = some (cs[j]' Z1):=dG Z1;let hv:=RJ nd lc hqj Wp;let pj:=iw pn j Z1 (by rw[ao];omega);rw[List.getElem_map,ej] at pj;generalize cs[j]' Z1=c at Wp hv pj;rw[eq] at hv;let lo:=bK pq;let lq:=d8 List.length en;rw[ao,dg] at lq;have hi:i<(aV (ps.map (·.1))).length:=(cy.mp hn).1;apply#[_,Z,Z,λNx hN=>d9 ?_];apply#[_,Z,_,Z,d,c,Z,?_,out,eQ,by omega,hN _ _ #[qs++[yj q],gf sm hD,az,?_,?_,?_]]
    ·rw[<- hv];exact .k (k:=Sum.inr n) (sm _ _ (s3 _ _ hd2))
    ·exact km pq (.cons pj .nil)
    ·rw[cu,en,iE,hn,<- eq];rfl
    ·intro q' hq';rcases fQ.mp hq' with hq'|hq'
     ·exact mem q' hq'
     ·obtain rfl:q'=yj q:=by simpa using hq'
      exact#[q,hq,Z]
end
abbrev oq:Stmt:=ke HG 0
abbrev ux:Stmt:=ke HG 1
abbrev QE:Stmt:=ke HG 2
abbrev QD:Stmt:=ke HG 3
abbrev uw:Stmt:=ke HG 5
def cb(p dw dy:Addr):List (Str × V):=aH Cu (.ref dy) (aH sI (.ref dw) (aH "web" (.ref p) []))
theorem g12:¬(("web":Str)=sI):=by decide +kernel
theorem g13:¬(("web":Str)=Cu):=by decide +kernel
theorem g23:¬((sI:Str)=Cu):=by decide +kernel
theorem qy(p dw dy:Addr):(cb p dw dy).lookup ("web":Str)=some (.ref p):=by
 unfold cb;rw[fH,aq g13,fH,aq g12,fH,aA Z]
theorem PZ(p dw dy:Addr):(cb p dw dy).lookup (sI:Str)=some (.ref dw):=by
 unfold cb;rw[fH,aq g23,fH,aA Z]
theorem lG_(p dw dy:Addr):(cb p dw dy).lookup (Cu:Str)=some (.ref dy):=by
 unfold cb;rw[fH,aA Z]
theorem xh(p dw dy:Addr){m:Str}(h1:¬m="web")(h2:¬m=sI)(h3:¬m=Cu):(cb p dw dy).lookup m=none:=by
 unfold cb;rw[fH,aq h3,fH,aq h2,fH,aq h1]
 all_goals rfl
def mN(qs:aC):List (Key × V):=qs.map λq=>(Sum.inr q.1,V.int q.2.1)
def xG(qs:aC)(vs:ai):List (Key × V):=(qs.zip vs).map λx=>(Sum.inr x.1.1,x.2)
theorem XO(qs:aC):(mN qs).map (·.1)=(qs.map (·.1)).map Sum.inr:=by
 unfold mN;rw[cm,cm];rfl
variable{qs:aC}
theorem jd_{vs:ai}(h:vs.length=qs.length):(xG qs vs).map (·.1)=(qs.map (·.1)).map Sum.inr:=by
 unfold xG;rw[cm];have:((λx:Key × V=>x.1) ∘ λq:Pc × V=>((Sum.inr q.1.1:Key),q.2))=(λp:Pc=>(Sum.inr p.1:Key)) ∘ Prod.fst:=rfl;rw[this,<- cm,List.map_fst_zip Z1,cm];rfl
structure iC (K:af) (CG CW:Addr) (H:Hp) (g p:Addr) (hs:Xa) (ts:Xb) (qs:aC) (fp:ay):Prop where
 ex:∃(dx dw dy:Addr) (vs:ai) (cK:ay),H g=some (.ins CG dx (cb p dw dy))/\g9 K CW H p hs ts cK/\H dw=some (.dK (mN qs))/\H dy=some (.dK (xG qs vs))/\Paired (λv (q:Pc)=>bW K H v q.2.2) vs qs /\
  g∈fp/\dw∈fp/\dy∈fp/\(∀b∈cK,b∈fp)/\∀v∈vs,∀a,v=.ref a->a∈fp
theorem Se{α β:Type}{F G:α->β->Prop}:∀{l:List α} {m:List β},Paired F l m->(∀a∈l,∀b,F a b->G a b)->Paired G l m
 |_,_,.nil,_=>.nil
 |_,_,.cons h t,f=>.cons (f _ cZ _ h) (Se t λa ha=>f a (dI _ ha))
theorem bW.keep{K:af}{H:Hp}(h:bW K H v o)(k:∀a,v=.ref a->∀u,H a=some u->H' a=some u)(kt:∀b xs,H b=some (.tup xs)->H' b=some (.tup xs)):bW K H' v o:=by
 cases o with
 |none=>exact h
 |some ws=>
  let#[a,ys,e,ha,t]:=h;exact#[a,ys,e,k a e _ ha,Paired.bx t λy q ⟨b,z,hb⟩=>#[b,z,kt _ _ hb]]
variable{fp:ay}
theorem iC.keep{K:af}{CG CW:Addr}{H:Hp}{g p:Addr}{hs:Xa}{ts:Xb}(G:iC K CG CW H g p hs ts qs fp)(k:∀b∈fp,∀o,H b=some o->H' b=some o)(kt:∀b xs,H b=some (.tup xs)->H' b=some (.tup xs)):iC K CG CW H' g p hs ts qs fp:=by
 let#[dx,dw,dy,vs,cK,h1,h2,h3,h4,h5,m1,m2,m3,m4,m5]:=G.ex;exact#[dx,dw,dy,vs,cK,k _ m1 _ h1,h2.keep (λb hb o e=>k b (m4 b hb) o e) kt,k _ m2 _ h3,k _ m3 _ h4,Se h5 λv hv q h=>h.keep (λa z u e=>k a (m5 v hv a z) u e) kt,m1,m2,m3,m4,m5]
theorem iC.same{K:af}{CG CW:Addr}{H:Hp}{g p:Addr}{hs:Xa}{ts:Xb}(G:iC K CG CW H g p hs ts qs fp)(s:aa H H'):iC K CG CW H' g p hs ts qs fp:=G.keep (λb _ o e=>s b o e) λb xs e=>s b _ e
structure eR (K:af) (CG:Addr):Prop where
 cl:o8 K CG
 nW:mI K CG "web"
 nG:mI K CG sI
 nY:mI K CG Cu
structure Kd (K:af) (C:Addr):Prop where
 ha:PySem.W.findIn K (.ref C) "__class__"=some (some (.builtin "object.__class__"))
 hn:PySem.W.specialIn K (.builtin "object.__class__") "__get__"=some (some (.builtin "getset_descriptor.__get__"))
 tk:PySem.W.takesIn K (.builtin "object.__class__")=some true
 mo:PySem.W.mroIn K C (.type "object")=some true
theorem jI_(K:af)(c:Aa):PySem.W.kitOne K c c=some true:=by
 unfold PySem.W.kitOne;rw[aA (beq_self_eq_true c)]
theorem XJ{K:af}{H0 H:Hp}:∀{zs:ai} {qs:aC},Paired (sF K H0 H) zs qs->∃vs:ai,vs.length=qs.length/\Paired (λz (x:Pc × V)=>∃t,z=.ref t/\H t=some (.tup [.str x.1.1,.int x.1.2.1,x.2])) zs (qs.zip vs)/\Paired (λv (q:Pc)=>bW K H v q.2.2) vs qs/\∀v∈vs,∀a,v=.ref a->H0 a=none
 |_,_,.nil=>#[[],Z,.nil,.nil,by simp]
 |_,_,.cons ⟨t,v,e,ht,wy,hn⟩ r=>by
  let#[vs,h1,h2,h3,h4]:=XJ r;apply#[v::vs,by simp[h1],.cons #[t,e,ht] h2,.cons wy h3,λu hu=>?_];rcases bZ.mp hu with rfl|hu
  ·exact hn
  ·exact h4 u hu
theorem Xj{K:af}{l:Addr}{zs:ai}{xs:List (Pc × V)}{H:Hp}{Q:VK}{mM:St}{j:Nat}(sel:Pc × V->V)(hj:∀x:Pc × V,[some (V.str x.1.1),some (V.int x.1.2.1),some x.2][j]? = some (some (sel x)))(ve:mM=[none,none,none])(hl:H l=some (.lst zs))(pz:Paired (λz (x:Pc × V)=>∃t,z=.ref t/\H t=some (.tup [.str x.1.1,.int x.1.2.1,x.2])) zs xs)(Ak:xs.length<=1000)(hD:H D=none)(q:∀H' out,aa H H'->H' D=some (.lst out)->jz K H' out (xs.map λx=>(Sum.inr x.1.1,sel x))->Q (.ref D) H') :
  Ct (AX K l) (jS K 3 (wW (mz 0) (wW (mz 1) (wW (mz 2) yE)))) sT (E_ (kA (sW 0) (kA (sW j) jI))) mM D H Q:=by
 let sz:=b_;let le:=bK pz
 let JZ:dY:=λi out H'=>aa H H'/\H' D=some (.lst out)/\jz K H' out ((xs.take i).map λx=>(Sum.inr x.1.1,sel x))
 apply mJ (own:=3) (fv:=[]) (xs:=zs) ve PM JZ #[aa.new hD,az,.nil] (λi out H' _ ⟨sm,_,_⟩=>.of (sm _ _ hl)) (λout H4 ⟨sm,rD,eo⟩=>?_) (λi y out H' hy ⟨sm,eQ,eo⟩=>?_)
 ·rw[le,dP] at eo;exact q _ _ sm rD eo
 ·have hi:i<zs.length:=(cy.mp hy).1;have hx:xs[i]? = some (xs[i]' Z1):=dG Z1;let#[t,et,ht]:=iw pz i hi Z1;rw[(cy.mp hy).2] at et;subst et;generalize xs[i]' Z1=x at hx ht;let lo:=bK eo;rw[ao,dg] at lo;apply#[_,#[t,_,_,_,Z,.of (sm _ _ ht),Z],Z,λNx hN=>d9 ?_];apply#[_,Z,_,hj x,zl,λp hp=>?_];let s2:=aa.new (o:=.tup [.str x.1.1,sel x]) hp;apply#[out,s2 _ _ eQ,by omega,hN _ _ #[gf (sm.trans s2) hD,az,?_]];rw[AQ _ hx];have pD:∀{b:Addr} {ys:ai},upd H' p (.tup [.str x.1.1,sel x]) b=some (.tup ys)->b≠D:=λhb=>cj hb (s2 _ _ eQ) nofun;apply km (Paired.bx eo λy kv ⟨b,z,hb⟩=>#[b,z,by rw[au (pD (s2 _ _ hb))];exact s2 _ _ hb]) (.cons #[p,Z,?_] .nil);have qc:upd H' p (.tup [.str x.1.1,sel x]) p=some (.tup [.str x.1.1,sel x]):=az;rw[au (pD qc)];exact qc
section
variable{P:Ae}{w:Af}{K:af}{mg:Str->Option Aa}{base:Heap}
theorem pR:bD ["self","web","pieces","checked"] ["self","web","pieces"] (bb oq):=bJ
inductive QP (K:af) (CG CW:Addr) (vs:ai) (H:Hp) (Q:VK) (E:XK):Prop
 |mk:∀(g dx p l:Addr) (ys:ai) (ps:aC) (hs:Xa) (ts:Xb) (cK:ay),vs=[.ref g,.ref p,.ref l]->H g=some (.ins CG dx [])->g9 K CW H p hs ts cK->g∉cK->Good hs ts->H l=some (.lst ys)->As K H ys ps->(∀q∈ps,Cs ts q)->(ps.map (·.1)).Nodup->ps.length<64->(∀qs fp H',(∀b o,H b=some o->b≠g->H' b=some o)->iC K CG CW H' g p hs ts qs fp->Qs ps qs->(∀b∈fp,b=g∨b∈cK∨H b=none)->Q .non H')->QP K CG CW vs H Q E
theorem jb_{CG CW:Addr}(F:bo K "__init__" "Goods.__init__" oq f fd)(T:eR K CG)(TW:Txt K mg CW)(IW:Kd K CW)(B:Bi mg)(NX:mg "Web"=some (.ref CW))(cP:!br 6 "checked_pieces" ["web","pieces"] (Ro K CW)):!aj aZ 7 f fd ["self","web","pieces"] (QP K CG CW):=by
 apply F.bI pR λaR A outer s H vs Q E hr h=>?_
 ·let#[g,dx,p,l,ys,ps,hs,ts,cK,rfl,hg,W,gw,G,hl,pc,gp,nd,dk,k]:=h
  apply#[_,ak (bQ (hY (gg (cX gU_ (by rfl) B.oF oY %[1,CQ (v:=.ref CW) (by rfl) NX Z|0]))) fF bR)
   (ak (aQ 3 pR.nd (aY cP hr %[1,2|0]))
   (ak (xa (pv 0) (pv 1) Z)
   (ak (xa (pv 0) (iD (vX Z) (by rfl) B.dict oV %[i8 Av 3 [] (dF (pv 3)) (λfp s H=>Lv (n:=3) (di (fw (i:=0) (show (Av:ae).Nodup by decide +kernel) Z (Or.inl Z)) (di (fw (i:=1) (show (Av:ae).Nodup by decide +kernel) Z (Or.inl Z)) (di (fw (i:=2) (show (Av:ae).Nodup by decide +kernel) Z (Or.inl Z)) iF)))) (λfp s H=>iY) (λfp s H=>eW %[0,1|0])|0]) Z)
   (aF (xa (pv 0) (iD (vX Z) (by rfl) B.dict oV %[i8 Av 3 [] (dF (pv 3)) (λfp s H=>Lv (n:=3) (di (fw (i:=0) (show (Av:ae).Nodup by decide +kernel) Z (Or.inl Z)) (di (fw (i:=1) (show (Av:ae).Nodup by decide +kernel) Z (Or.inl Z)) (di (fw (i:=2) (show (Av:ae).Nodup by decide +kernel) Z (Or.inl Z)) iF)))) (λfp s H=>iY) (λfp s H=>eW %[0,2|0])|0]) Z))))),?_]
  let#[gj,d1,l2,d3,l_,as,ef,w1,_]:=id W.ex;apply#[_,Z,_,_,_,_,Z,.ins w1 TW.cl IW.ha IW.hn IW.tk IW.mo,jI_ _ _,_,Z,bu ?_];apply#[_,Z,_,Z,p,l,ys,ps,hs,ts,cK,Z,W,G,hl,pc,gp,nd,dk,λlc zs qs H1 s1 GZ pn Qq=>?_];let#[vs,lv,pz,_g,EZ]:=XJ pn;let G_:=s1 _ _ hg
  have lq:qs.length=ps.length:=by
   have:=d8 List.length Qq.p_;rw[ao,(gq _).length_eq,ao] at this;exact this
  have qnd:(qs.map (·.1)).Nodup:=by
   rw[Qq.p_];exact (gq _).nodup_iff.mpr nd
  apply#[_,Z,_,Z,g,CG,dx,[],Z,G_,T.cl,T.nW,by show 0<1000;decide,?_];have up1:∀{b o},H1 b=some o->b≠g->upd H1 g (.ins CG dx (aH "web" (.ref p) [])) b=some o:=λe ne=>by rw[au ne];exact e
  have O9:upd H1 g (.ins CG dx (aH "web" (.ref p) [])) g=some (.ins CG dx (aH "web" (.ref p) [])):=az
  have D0:∀{b},upd H1 g (.ins CG dx (aH "web" (.ref p) [])) b=none->H1 b=none:=λ{b} e=>by
   by_cases z:b=g
   ·rw[z,az] at e;cases e
   ·rw[au z] at e;exact e
  generalize upd H1 g (.ins CG dx (aH "web" (.ref p) []))=H2 at up1 O9 D0 ⊢;have KM:lc≠g:=cj GZ G_ nofun;have pz2:Paired (λz (x:Pc × V)=>∃t,z=.ref t/\H2 t=some (.tup [.str x.1.1,.int x.1.2.1,x.2])) zs (qs.zip vs):=Paired.bx pz λz x ⟨t,e,ht⟩=>#[t,e,up1 ht (cj ht G_ nofun)];have pe:(qs.zip vs).length<=1000:=by rw[List.length_zip];omega
  apply#[_,Z,lc,Z,#[_,.of (up1 GZ KM)],λD hD=>?_];apply Xj (λx=>.int x.1.2.1) (λx=>rfl) Z (up1 GZ KM) pz2 pe hD λH3 out s3 DS pa3=>?_;apply#[D,out,_,Z,DS,pa3,by rw[ao];exact pe,λdw Pj=>?_]
  have ekv:((qs.zip vs).map λx:Pc × V=>((Sum.inr x.1.1:Key),V.int x.1.2.1))=mN qs:=by
   unfold mN;have:(λx:Pc × V=>((Sum.inr x.1.1:Key),V.int x.1.2.1))=(λq:Pc=>((Sum.inr q.1:Key),V.int q.2.1)) ∘ Prod.fst:=rfl;rw[this,<- cm,List.map_fst_zip Z1]
  have zR:(qs.map (·.1)).map (Sum.inr:Str->Key) |>.Nodup:=by
   rw[xv,oZ];exact qnd.imp λn e=>n (ij e)
  rw[ekv,xp (by rw[XO];exact zR)];let s4:=aa.new (o:=.dK (mN qs)) Pj;let Wh:=s4 _ _ (s3 _ _ O9);apply#[_,Z,g,CG,dx,_,Z,Wh,T.cl,T.nG,by show 1<1000;decide,?_];let Kv:=s3.trans s4;have Hg:upd H3 dw (.dK (mN qs)) dw=some (.dK (mN qs)):=az;have YI:dw≠g:=(bq (s3 _ _ O9) Pj).symm;have fr4:∀{b},upd H3 dw (.dK (mN qs)) b=none->H2 b=none:=λe=>Kv.free e;have dwn:H2 dw=none:=s3.free Pj;generalize upd H3 dw (.dK (mN qs))=H4 at s4 Wh Kv Hg fr4 ⊢;have wA:∀{b o},H4 b=some o->b≠g->upd H4 g (.ins CG dx (aH sI (.ref dw) (aH "web" (.ref p) []))) b=some o:=λe ne=>by rw[au ne];exact e
  have O8:upd H4 g (.ins CG dx (aH sI (.ref dw) (aH "web" (.ref p) []))) g=some (.ins CG dx (aH sI (.ref dw) (aH "web" (.ref p) []))):=az
  have qm:∀{b},upd H4 g (.ins CG dx (aH sI (.ref dw) (aH "web" (.ref p) []))) b=none->H4 b=none:=λ{b} e=>by
   by_cases z:b=g
   ·rw[z,az] at e;cases e
   ·rw[au z] at e;exact e
  generalize upd H4 g (.ins CG dx (aH sI (.ref dw) (aH "web" (.ref p) [])))=H5 at wA O8 qm ⊢;have xI:∀{b o},H1 b=some o->b≠g->H5 b=some o:=λe ne=>wA (Kv _ _ (up1 e ne)) ne;have pz5:Paired (λz (x:Pc × V)=>∃t,z=.ref t/\H5 t=some (.tup [.str x.1.1,.int x.1.2.1,x.2])) zs (qs.zip vs):=Paired.bx pz λz x ⟨t,e,ht⟩=>#[t,e,xI ht (cj ht G_ nofun)];apply#[_,Z,lc,Z,#[_,.of (xI GZ KM)],λD2 jy=>?_];apply Xj (λx=>x.2) (λx=>rfl) Z (xI GZ KM) pz5 pe jy λH6 gQ s6 PD pa6=>?_;apply#[D2,gQ,_,Z,PD,pa6,by rw[ao];exact pe,λdy Pg=>?_];rw[show ((qs.zip vs).map λx:Pc × V=>((Sum.inr x.1.1:Key),x.2))=xG qs vs from Z,xp (by rw[jd_ lv];exact zR)];let s7:=aa.new (o:=.dK (xG qs vs)) Pg;let pU:=s6.trans s7;let Wg:=pU _ _ O8;apply#[_,Z,g,CG,dx,_,Z,Wg,T.cl,T.nY,by show 2<1000;decide,?_];have Hf:upd H6 dy (.dK (xG qs vs)) dy=some (.dK (xG qs vs)):=az;have dyg:dy≠g:=(bq (s6 _ _ O8) Pg).symm;have dyn:H5 dy=none:=s6.free Pg;generalize upd H6 dy (.dK (xG qs vs))=H7 at s7 pU Wg Hf ⊢
  have fin:∀{b o},H1 b=some o->b≠g->upd H7 g (.ins CG dx (cb p dw dy)) b=some o:=λe ne=>by
   rw[au ne];exact pU _ _ (xI e ne)
  have E2:∀b xs,H1 b=some (.tup xs)->upd H7 g (.ins CG dx (cb p dw dy)) b=some (.tup xs):=λb xs e=>fin e (cj e G_ nofun);have nH:∀{b},H1 b=none->H b=none:=λe=>s1.free e;apply k qs (g::dw::dy::(cK++vs.filterMap λv=>match v with | .ref a=>some a|_=>none)) _ (λb o e ne=>fin (s1 _ _ e) ne) #[dx,dw,dy,vs,cK,az,?_,?_,?_,?_,by simp,by simp,by simp,λb hb=>by simp[hb],λv hv a z=>?_] Qq λb hb=>?_
  ·exact W.keep (λb hb o e=>fin (s1 _ _ e) (λz=>gw (z▸hb))) λb xs e=>E2 b xs (s1 _ _ e)
  ·rw[au YI];exact pU _ _ (wA Hg YI)
  ·rw[au dyg];exact Hf
  ·exact Se _g λv hv q h=>h.keep (λa z u e=>fin e (λzz=>by
    subst zz;have:=EZ v hv _ z;rw[hg] at this;cases this)) λb xs e=>E2 b xs e
  ·apply dI _ (dI _ (dI _ (o4 _ (yZ.mpr #[v,hv,?_]))));rw[z]
  ·simp only[bZ,fQ,yZ] at hb;rcases hb with rfl|rfl|rfl|hb|⟨v,hv,e⟩
   ·exact .inl Z
   ·exact .inr (.inr (nH (D0 dwn)))
   ·exact .inr (.inr (nH (D0 (Kv.free (qm dyn)))))
   ·exact .inr (.inl hb)
   ·cases v with
    |ref a=>
     cases e;exact .inr (.inr (EZ _ hv _ Z))
    |_=>cases e
end
end Ev
namespace L2
open PySem
end L2
namespace Ev
open PySem L2
theorem fp_{kvs:List (Key × V)}{ns:ae}(h:kvs.map (·.1)=ns.map Sum.inr)(x:Str):(bM kvs (Sum.inr x)).isSome=decide (x∈ns):=by
 by_cases hx:x∈ns
 ·rw[cc hx];apply Yz ?_;rw[h];exact bj.mpr #[x,hx,Z]
 ·rw[dS hx,AO]
  ·rfl
  ·rw[h];intro m;let#[y,hy,e]:=bj.mp m;cases e;exact hx hy
variable{q:Pc}
theorem mk_{qs:aC}(nd:(qs.map (·.1)).Nodup)(hq:q∈qs):bM (mN qs) (Sum.inr q.1)=some (.int q.2.1):=by
 let#[j,hj,e]:=rT hq;have:=RJ (ps:=qs) (cs:=qs.map λq=>V.int q.2.1) nd (by rw[ao]) (j:=j) (q:=q) (c:=.int q.2.1) (by rw[dG hj,e]) (by rw[dW,dG hj,e];rfl)
 have e2:((qs.zip (qs.map λq=>V.int q.2.1)).map λq=>((Sum.inr q.1.1:Key),q.2))=mN qs:=by
  unfold mN;rw[List.zip_map_right,cm]
  have:qs.zip qs=qs.map λq=>(q,q):=by
   clear nd hq this hj e j
   induction qs with
   |nil=>rfl
   |cons a l ih=>rw[List.zip_cons_cons,ih,eL]
  rw[this,cm];rfl
 rwa [e2] at this
theorem m0_{qs:aC}{vs:ai}(nd:(qs.map (·.1)).Nodup){K:af}{H:Hp}(h:Paired (λv (q:Pc)=>bW K H v q.2.2) vs qs)(hq:q∈qs):∃v∈vs,bM (xG qs vs) (Sum.inr q.1)=some v/\bW K H v q.2.2:=by
 let#[j,hj,e]:=rT hq;let hl:=bK h;have hv:j<vs.length:=by omega
 let p:=iw h j hv hj;rw[e] at p;exact#[vs[j],js hv,RJ nd Z1 (by rw[dG hj,e]) (dG hv),p]
def Cd(hs:Xa)(ts:Xb)(o:Option (Xb))(x y:Option Str):Bool:=
 kn hs ts x y&&match o,x,y with
  |none,_,_=>true
  |some ws,some a,some b=>decide (aL a b∈ws)
  |_,_,_=>false
variable{f:Addr}{fd:Ad}
section
variable{P:Ae}{w:Af}{K:af}{mg:Str->Option Aa}{base:Heap}
theorem Bl:bD qv qv (bb ux):=bJ
inductive HK (K:af) (CG CW:Addr) (vs:ai) (H:Hp) (Q:VK) (E:XK):Prop
 |mk:∀(g p:Addr) (v:V) (x:Option Str) (hs:Xa) (ts:Xb) (qs:aC) (fp:ay),vs=[.ref g,v]->iC K CG CW H g p hs ts qs fp->lV K H v x->Q (.bl (Gs (qs.map (·.1)) x)) H->HK K CG CW vs H Q E
theorem kV_{CG CW:Addr}(F:bo K "has_piece" "Goods.has_piece" ux f fd)(T:eR K CG)(B:Bi mg):!aj aZ 1 f fd qv (HK K CG CW):=by
 apply F.bI Bl λaR A outer s H vs Q E hr h=>?_
 ·let#[g,p,v,x,hs,ts,qs,fp,rfl,G,sv,k]:=h;let hu:=eU hr;let#[dx,dw,dy,vs,cK,h1,h2,h3,h4,h5,m1,m2,m3,m4,m5]:=G.ex;apply#[_,aF (bh (sJ (cX qz (by rfl) B.oF oY %[1,qx (v:=.ty "str") (by rfl) B.str HN Z|0]) (oU (HS (Ek hu (pv 1) (eE (pv 0) Z)))))),?_];cases x with
  |some x=>
   cases (show v=.str x from sv);apply#[_,Z,_,_,_,_,Z,.str x,Z,_,Z,fo ?_];apply#[_,Z,_,Z,g,CG,dx,_,_,Z,h1,T.cl,T.nG,PZ _ _ _,dw,_,Z,.k (k:=Sum.inr x) h3,?_];rw[fp_ (XO qs)];exact k
  |none=>
   let#[t,ty,e]:=sv;exact#[_,Z,_,_,_,_,Z,ty,e,_,Z,bu k]
theorem tZ:bD iU iU (bb QE):=bJ
inductive RS (K:af) (CG CW:Addr) (vs:ai) (H:Hp) (Q:VK) (E:XK):Prop
 |mk:∀(g p:Addr) (hs:Xa) (ts:Xb) (qs:aC) (fp:ay),vs=[.ref g]->iC K CG CW H g p hs ts qs fp->(∀l,H l=none->Q (.ref l) (upd H l (.lst ((qs.map (·.1)).map V.str))))->RS K CG CW vs H Q E
theorem hT_{CG CW:Addr}(F:bo K "names" "Goods.names" QE f fd)(T:eR K CG)(B:Bi mg):!aj aZ 1 f fd iU (RS K CG CW):=by
 apply F.bI tZ λaR A outer s H vs Q E hr h=>?_
 ·let#[g,p,hs,ts,qs,fp,rfl,G,k]:=h;let#[dx,dw,dy,vs,cK,h1,h2,h3,h4,h5,m1,m2,m3,m4,m5]:=G.ex;apply#[_,aF (bh (iD (SE Z) (by rfl) B.list CT %[eE (pv 0) Z|0])),?_];apply#[_,Z,g,CG,dx,_,_,Z,h1,T.cl,T.nG,PZ _ _ _,dw,_,Z,.inl h3,λl hl=>?_]
  have e:((mN qs).map λkv=>kV kv.1)=(qs.map (·.1)).map V.str:=by
   unfold mN;rw[cm,cm];rfl
  rw[e];exact k l hl
structure Ref (K:af) (mg:Str->Option Aa) (x:Str) (C:Addr):Prop where
 mg:mg x=some (.ref C)
 ex:PySem.W.excIn K C [.type "ValueError",.type "Exception",.type "BaseException",.type "object"] "ValueError.__new__"=true
theorem qX:bD Aw Aw (bb QD):=bJ
inductive C4 (K:af) (CG CW CP:Addr) (vs:ai) (H:Hp) (Q:VK) (E:XK):Prop
 |mk:∀(g p:Addr) (v:V) (x:Option Str) (hs:Xa) (ts:Xb) (qs:aC) (fp:ay),vs=[.ref g,v]->iC K CG CW H g p hs ts qs fp->(qs.map (·.1)).Nodup->lV K H v x->((∃q∈qs,x=some q.1/\Q (.int q.2.1) H)∨False)->C4 K CG CW CP vs H Q E
theorem gj_{CG CW CP:Addr}(F:bo K "weight" "Goods.weight" QD f fd)(T:eR K CG)(cH:!bG CG 1 "has_piece" qv (HK K CG CW)):!aj aZ 2 f fd Aw (C4 K CG CW CP):=by
 apply F.bI qX λaR A outer s H vs Q E hr h=>?_
 ·let#[g,p,v,x,hs,ts,qs,fp,rfl,G,nd,sv,k]:=h;let hu:=eU hr;let#[dx,dw,dy,vs,cK,h1,h2,h3,h4,h5,m1,m2,m3,m4,m5]:=id G.ex;have qd:(cb p dw dy).lookup ("has_piece":Str)=none:=xh _ _ _ Z0 Z0 Z0;apply#[_,ak (bQ (hY (gg (fU cH T.cl hr (pv 0) %[1|0]))) fF bR) (aF (bh (cn hu (eE (pv 0) Z) (pv 1)))),?_];apply#[_,Z,g,dx,_,Z,h1,qd,_,Z,g,p,v,x,hs,ts,qs,fp,Z,G,sv,_,Z,?_];rcases k with⟨q,hq,rfl,k⟩|k
  ·cases (show v=.str q.1 from sv);rw[show Gs (qs.map (·.1)) (some q.1)=true from cc (bj.mpr #[q,hq,Z])];apply bu ?_;apply#[_,Z,g,CG,dx,_,_,Z,h1,T.cl,T.nG,PZ _ _ _,_,Z,dw,_,Z,?_,k];rw[<- mk_ nd hq];exact .k (k:=Sum.inr q.1) h3
  ·exact k.elim
theorem t_:bD ["self","piece","one","other","ties"] qK (bb uw):=bJ
inductive K8 (K:af) (CG CW CP:Addr) (vs:ai) (H:Hp) (Q:VK) (E:XK):Prop
 |mk:∀(g p:Addr) (v u1 u2:V) (x y1 y2:Option Str) (hs:Xa) (ts:Xb) (qs:aC) (fp:ay),vs=[.ref g,v,u1,u2]->iC K CG CW H g p hs ts qs fp->(qs.map (·.1)).Nodup->(aI hs).Nodup->lV K H v x->((∃q∈qs,x=some q.1/\lV K H u1 y1/\lV K H u2 y2/\∀H',aa H H'->Q (.bl (Cd hs ts q.2.2 y1 y2)) H')∨False)->K8 K CG CW CP vs H Q E
theorem l6_{CG CW CP:Addr}(F:bo K "may_go" "Goods.may_go" uw f fd)(T:eR K CG)(TW:Txt K mg CW)(cH:!bG CG 1 "has_piece" qv (HK K CG CW))(cT:!bG CW 2 "are_tied" mw (Ly K CW))(cL:!br 1 "lesser_first" sG Mi) :
  aj P w K mg base aZ 3 f fd qK (K8 K CG CW CP):=by
 apply F.bI t_ λaR A outer s H vs Q E hr h=>?_
 ·let#[g,p,v,u1,u2,x,y1,y2,hs,ts,qs,fp,rfl,G,nd,r9,sv,k]:=h;let hu:=eU hr;have k8:ba 1 _:=hr.mono (by decide);let#[dx,dw,dy,vs,cK,h1,h2,h3,h4,h5,m1,m2,m3,m4,m5]:=id G.ex;have qd:(cb p dw dy).lookup ("has_piece":Str)=none:=xh _ _ _ Z0 Z0 Z0;let#[gj,d1,l2,d3,l_,as,ef,w1,_]:=id h2.ex;have iO:(dm d1 l2 d3).lookup ("are_tied":Str)=none:=j5 _ _ _ Z0 Z0 Z0
  apply#[_,ak (bQ (hY (gg (fU cH T.cl k8 (pv 0) %[1|0]))) fF bR)
   (ak (bQ (hY (gg (fU cT TW.cl hr (eE (pv 0) Z) %[2,3|0]))) (aF (bh Cm)) bR)
   (ak (aQ 4 t_.nd (cn hu (eE (pv 0) Z) (pv 1)))
   (aF (bh (DW (HS (Lh (pv 4))) (oU (iG (Hx (yR fP fP) (oN hr _)) (aY cL hr %[2,3|0]) (pv 4) (by with_unfolding_all rfl)))))))),?_]
  apply#[_,Z,g,dx,_,Z,h1,qd,_,Z,g,p,v,x,hs,ts,qs,fp,Z,G,sv,_,Z,?_];rcases k with⟨q,hq,rfl,s1,s2,k⟩|k
  ·cases (show v=.str q.1 from sv);rw[show Gs (qs.map (·.1)) (some q.1)=true from cc (bj.mpr #[q,hq,Z])];apply bu ?_;apply#[_,Z,g,CG,dx,_,_,Z,h1,T.cl,T.nW,qy _ _ _,p,gj,_,Z,w1,iO,_,Z,_,Z,p,u1,u2,y1,y2,hs,ts,cK,Z,h2,r9,s1,s2,_,Z,?_];cases tb:kn hs ts y1 y2 with
   |false=>
    apply fo ?_;have:=k H (aa.refl H);unfold Cd at this;rw[tb,rP] at this;exact this
   |true=>
    apply bu ?_;let#[u,VR,eu,wy]:=m0_ nd h5 hq;apply#[_,Z,g,CG,dx,_,_,Z,h1,T.cl,T.nY,lG_ _ _ _,_,Z,dy,u,Z,?_,?_]
    ·rw[<- eu];exact .k (k:=Sum.inr q.1) h4
    ·apply#[_,Z,_,Z,?_];unfold Cd at k;rw[tb] at k;cases e:q.2.2 with
     |none=>
      rw[e] at wy k;cases (show u=.non from wy);exact fo (k H (aa.refl H))
     |some ws=>
      rw[e] at wy k;let#[a,ys,rfl,ha,tu]:=wy;cases y1 with
      |none=>cases tb
      |some a1=>
       cases y2 with
       |none=>cases tb
       |some a2=>
        cases (show u1=.str a1 from s1);cases (show u2=.str a2 from s2);apply bu #[_,Z,_,Z,a1,a2,Z,λt ht=>?_];have s3:aa H (upd H t (.tup [.str (aL a1 a2).1,.str (aL a1 a2).2])):=aa.new ht;apply#[_,Z,aL a1 a2,ws,#[t,_,_,Z,.of az,Z,Z],#[a,ys,Z,.of (s3 _ _ ha),HY (tu.same s3)],?_];let z:=k _ s3;rw[Bool.true_and] at z;rw[aq hE];show Q (.bl _) _;have z:Q (.bl (decide (aL a1 a2∈ws))) (upd H t (.tup [.str (aL a1 a2).1,.str (aL a1 a2).2])):=z;generalize upd H t (.tup [.str (aL a1 a2).1,.str (aL a1 a2).2])=Hz at z ⊢;by_cases hm:aL a1 a2∈ws
        ·simpa [hm] using z
        ·simpa [hm] using z
  ·exact k.elim
end
end Ev
namespace L2
open PySem PySem.Spec PyProof.Rows PySem.W
variable{P:Ae}{w:Af}
theorem VH{k:Key}{key:Aa}(h:(fu P w).is k key=true):RelV (kV k) key:=by
 have e2:yM k key=true:=h;rcases sM e2 with⟨i,t,rfl,rfl⟩|⟨x,t,rfl,rfl⟩
 ·exact#[t,Z]
 ·exact#[t,Z]
def Itm(d:Addr)(o:Obj)(kvs:List (Key × V)):It:=#[λi H=>H d=some (.frz o (.dK kvs))/\i<kvs.length,λi H y H'=>∃t k x,y=.ref t/\H t=none/\kvs[i]? = some (k,x)/\H'=upd H t (.tup [kV k,x]),λi H=>H d=some (.frz o (.dK kvs))/\kvs.length<=i]
variable{K:af}{elts:List Expr}{ep kk:Nat}{es:Array DictEntry}
theorem gi_{pos:Pos}(d it:Addr)(o:Obj)(kvs:List (Key × V))(ho:o.data=.dict es ep):Turn P w K (.Tuple elts kk pos) (Itm d o kvs) [it] it (λi h=>∃ok ov,IsItemIter h it d i kvs.length ep ok ov) where
 mem:=by simp
 obj:=λi h st b hb=>by
  obtain rfl:b=it:=by simpa using hb
  let#[ok,ov,q]:=st;exact#[_,q,λv z=>by cases z]
 keep:=λi h h' st k=>by
  let#[ok,ov,q]:=st;exact#[ok,ov,k it Z2 _ q]
 item:=by
  intro X hP hw hK hc i pins s σ H E I hf st hg;subst hP hw hK;let#[hd,hi]:=hg;let#[vs,rel,dat]:=EG I hd ho;obtain⟨⟨k,x⟩,hx⟩:∃p,kvs[i]? = some p:=#[kvs[i],by simp[hi]];let#[u,hu,ru]:=O4 rel i hx;let#[ok,ov,st]:=st;have itl:it<s.heap.objs.size:=cQ st;rw[rel.length] at st;apply wpAny_pyNext_items_item st dat hu λkey h' hk out ht sz kp=>?_;apply#[_,Z,wpAny_letOwnedTupleGo_items (s:={ s with heap:=h' }) out λh2 fI sb=>?_];have nT:s.heap.objs.size≠it:=xm itl;have I1:Inv X pins σ (upd H s.heap.objs.size (.tup [kV k,x])) { s with heap:=h2 }:=I.pf (t':=s.toks) (fp:=[it]) (its:=[key,u]) (λb o hb q=>(sb.2 b (by simpa using hb)).trans (kp b o (by simpa using hb) q)) hf (bp _) (zl) (.cons (VH hk) (.cons ru .nil)) #[#[_,(sb.2 _ nT).trans ht,Z,_,Z],_,(sb.2 _ nT).trans ht,Z];apply#[.ref _,_,I1,Z,#[_,k,x,Z,I.aN.fresh (bp _),hx,Z],#[_,_,by rw[rel.length];exact fI],λb hb=>?_];have e:b=it:=by simpa using hb
  rw[au (λz=>nT (z.symm.trans e))];exact (hf b hb).1
 done:=by
  intro X hP hw hK hc i pins s σ H E I hf st hg;subst hP hw hK;let#[hd,hi]:=hg;let#[vs,rel,dat]:=EG I hd ho;let#[f0,f1,f2,f3,f4,f5]:=hf it Z2;let#[ok,ov,st]:=st;rw[rel.length] at st hi;exact wpAny_pyNext_items_end (I.ok.hd hc) st dat (by simp;omega) λh' eb=>#[Z,I.turned (t':=s.toks) (λb o hb e=>eb b o hb e) f0 f1 f3 f4 f5]
 self:=λA i s Q E st h=>by
  let#[ok,ov,q]:=st;exact kcp_self q h
inductive qb (R:It->Hp->Prop) (x:V) (H1:Hp):Prop
 |mk:∀v d kvs,x=.ref v->H1 v=some (vQ v d)->H1 d=some (.dK kvs)->(∀o,R (Itm d o kvs) (upd H1 d (.frz o (.dK kvs))))->qb R x H1
def BL(tv:TE):TI:=λσ H R=>tv σ H λx H1=>qb R x H1
variable{X:Cx}{e:Expr}{tv:TE}
theorem Ra{p2:Pos}(he:PE X e tv):PI X (.Tuple elts kk p2) e (BL tv):=by
 intro pins s σ H R I h;apply a_ (he pins s σ H _ I h) λu s1 ⟨x,H1,I1,r1,v,d,kvs,ex,hv,hd,q⟩=>?_;subst ex;cases r1;let#[iv,_,_]:=I1.aN v _ hv;let#[o,ho,I2]:=I1.freeze hd;let#[z,_,vs,rel,o',es,ep,jx,c',dt,r]:=yJ I1.aN hd;rw[ho] at jx;cases jx;apply wpAny_pyIter_items (knd:=fu X.prog X.w) (kvs:=vs) (ep:=ep) iv #[o,es,ho,c',dt,r] ?_;apply#[s1.heap.objs.size,[s1.heap.objs.size],_,_,_,Z,I2.kept (t':=s1.toks) λb o e=>cU _ e,gi_ d _ o kvs dt,?_,λb hb=>?_,q o]
 ·rw[rel.length];exact#[.none,.none,fG _ Z]
 ·obtain rfl:b=s1.heap.objs.size:=by simpa using hb
  exact I2.jT (bp _) (I2.aN.fresh (bp _))
variable{d:Addr}{o:Obj}{kvs:List (Key × V)}{g:TG}
theorem Rn{tb:TS}{D:Ends}{σ:St}{H:Hp}(Pv:bL)(h0:Pv 0 σ H)(hl:∀i σ H,i<=kvs.length->Pv i σ H->H d=some (.frz o (.dK kvs)))(hs:∀i k x σ H,kvs[i]? = some (k,x)->Pv i σ H->∀t,H t=none->g (.ref t) σ (upd H t (.tup [kV k,x])) λgO H2=>tb { D with nx:=Pv (i+1),ct:=Pv (i+1),bk:=D.nx } gO H2)(hd:∀σ H,Pv kvs.length σ H->D.nx σ H) :
  ∃W:Nat->Nat->St->Hp->Prop,(∃m,W 0 m σ H)/\∀i m σ H,W i m σ H->
   ((Itm d o kvs).stop i H/\D.nx σ H)∨((Itm d o kvs).go i H/\∃N:St->Hp->Prop,(∀bw H',N bw H'->∃m',m'<m/\W (i+1) m' bw H')/\∀x H',(Itm d o kvs).xF i H x H'->g x σ H' λgO H2=>tb { D with nx:=N,ct:=N,bk:=D.nx } gO H2):=by
 apply#[λi m σ H=>m=kvs.length - i/\i<=kvs.length/\Pv i σ H,#[kvs.length,by simp,gG _,h0],?_];rintro i m σ H ⟨rfl,hi,p⟩;let q:=hl i σ H hi p;by_cases dz:i<kvs.length
 ·apply .inr #[#[q,dz],Pv (i+1),λbw H' p'=>#[kvs.length - (i+1),by omega,Z,dz,p'],λx H' y=>?_];let#[t,k,x,rfl,ht,hx,rfl]:=y;exact hs i k x σ H hx p t ht
 ·have e:i=kvs.length:=by omega
  subst e;exact .inl #[#[q,bp _],hd σ H p]
def EW(d:Addr)(o:Obj)(kvs:List (Key × V)):It:=#[λi H=>H d=some (.frz o (.dK kvs))/\i<kvs.length,λi H y H'=>H'=H/\∃k x,kvs[i]? = some (k,x)/\y=kV k,λi H=>H d=some (.frz o (.dK kvs))/\kvs.length<=i]
variable{tg:Expr}
theorem iB_(d it:Addr)(o:Obj)(kvs:List (Key × V))(ho:o.data=.dict es ep):Turn P w K tg (EW d o kvs) [it] it (λi h=>h.IsKeyIter it d i kvs.length ep) where
 mem:=by simp
 obj:=λi h st b hb=>by
  obtain rfl:b=it:=by simpa using hb
  let#[o,e,c,d]:=st;exact#[o,e,λv z=>by rw[d] at z;cases z]
 keep:=λi h h' st k=>st.at λo e=>k it Z2 o e
 item:=by
  intro X hP hw hK hc i pins s σ H E I hf st hg;subst hP hw hK;let#[hd,hi]:=hg;let#[vs,rel,dat]:=EG I hd ho;obtain⟨⟨k,x⟩,hx⟩:∃p,kvs[i]? = some p:=#[kvs[i],by simp[hi]];let#[u,hu,ru]:=O4 rel i hx;let#[f0,f1,f2,f3,f4,f5]:=hf it Z2;rw[rel.length] at st;apply wpAny_pyNext_dict_item st dat hu λkey h' hk fJ sb=>?_;have I1:Inv X pins σ H { s with heap:=h' }:=I.turned (t':=s.toks) (λb o hb e=>(sb.2 b hb).trans e) f0 f1 f3 f4 f5;let#[o',e,c,dd]:=id fJ;apply#[key,Z,DT (s:={ s with heap:=h' }) e c dd (by decide) #[kV k,H,I1,VH hk,#[Z,k,x,hx,Z],?_,λb hb=>(hf b hb).1]];show h'.IsKeyIter it d (i+1) kvs.length ep;rw[rel.length];exact fJ
 done:=by
  intro X hP hw hK hc i pins s σ H E I hf st hg;subst hP hw hK;let#[hd,hi]:=hg;let#[vs,rel,dat]:=EG I hd ho;let#[f0,f1,f2,f3,f4,f5]:=hf it Z2;rw[rel.length] at st hi;exact wpAny_pyNext_dict_end (I.ok.hd hc) st dat (by simp;omega) λh' eb=>#[Z,I.turned (t':=s.toks) (λb o hb e=>eb b o hb e) f0 f1 f3 f4 f5]
 self:=λ_ _ _ _ _ st h=>wpAny_pyIter_keyiter st h
inductive vc (R:It->Hp->Prop) (x:V) (H1:Hp):Prop
 |mk:∀d kvs,x=.ref d->H1 d=some (.dK kvs)->(∀o,R (EW d o kvs) (upd H1 d (.frz o (.dK kvs))))->vc R x H1
def Gy(tv:TE):TI:=λσ H R=>tv σ H λx H1=>vc R x H1
theorem Ls(he:PE X e tv):PI X tg e (Gy tv):=by
 intro pins s σ H R I h;apply a_ (he pins s σ H _ I h) λu s1 ⟨x,H1,I1,r1,d,kvs,ex,hd,q⟩=>?_;subst ex;cases r1;let#[o,ho,I2]:=I1.freeze hd;let#[z,rB,vs,rel,o',es,ep,jx,c',dt,r]:=yJ I1.aN hd;rw[ho] at jx;cases jx;apply wpAny_pyIter_dict (knd:=fu X.prog X.w) (kvs:=vs) (ep:=ep) rB #[o,es,ho,c',dt,r] ?_;apply#[s1.heap.objs.size,[s1.heap.objs.size],_,_,_,Z,I2.kept (t':=s1.toks) λb o e=>cU _ e,iB_ d _ o kvs dt,?_,λb hb=>?_,q o]
 ·rw[rel.length];exact#[_,fG _ Z,Z,Z]
 ·obtain rfl:b=s1.heap.objs.size:=by simpa using hb
  exact I2.jT (bp _) (I2.aN.fresh (bp _))
theorem Yy{tc:TT}{te:TE}{own:Nat}{fv:List aK}{dec:V->Hp->List aK->Prop}{D:Addr}{H:Hp}{Q:VK}{mM:St}(ve:mM=List.replicate own none++fv)(G:EX g own fv dec)(Pv:dY)(h0:Pv 0 [] (upd H D (.lst [])))(hl:∀i out H',i<=kvs.length->Pv i out H'->H' d=some (.frz o (.dK kvs)))(hd:∀out H',Pv kvs.length out H'->Q (.ref D) H')(G8:∀i k x out H',kvs[i]? = some (k,x)->Pv i out H'->∃o3,dec (kV k) H' o3/\o3.length=own/\∀Nx:Hp->Prop,(∀oC H2,Pv (i+1) oC H2->Nx H2)->
   tc (o3++fv) H' λb H4=>if b=true then te (o3++fv) H4 λy H5=>∃gQ,H5 D=some (.lst gQ)/\gQ.length<sizeLine/\Nx (upd H5 D (.lst (gQ++[y]))) else Nx H4) :
  Ct (EW d o kvs) g tc te mM D H Q:=by
 apply AN ve G kvs.length Pv h0 (λout H' p=>#[#[hl _ _ _ (bp _) p,bp _],hd out H' p]) λi out H' hi p=>?_;let q:=hl i out H' (Nat.le_of_lt hi) p;apply#[#[q,hi],λx H2 y=>?_];let#[e,k,v,hx,rfl]:=y;subst e;exact G8 i k v out _ hx p
inductive sX (t:TS) (D:Ends) (σ:St) (H:Hp):Prop
 |mk:∀d kvs,H d=some (.dK kvs)->t { nx:=λpb H1=>∃o,H1 d=some (.frz o (.dK kvs))/\D.nx pb (upd H1 d (.dK kvs)),rt:=λv H1=>∃o,H1 d=some (.frz o (.dK kvs))/\D.rt v (upd H1 d (.dK kvs)) } σ H->sX t D σ H
theorem Ex{st:Stmt}{t:TS}(h:PS X st t):PS X st (sX t):=by
 intro pins s σ H D I q;let#[d,kvs,hd,q]:=q
 have nf:∀o u,X.lX d≠some (.frz o u):=λo u z=>by
  have:=I.base.ig _ _ _ z;rw[hd] at this;cases this
 apply a_ (h pins s σ H _ I q) λf s' p=>?_;cases f with
 |next=>
  let#[pb,H1,I1,o,hf,q1]:=p;exact#[pb,_,I1.ko hf nf,q1]
 |brk=>
  let#[pb,H1,I1,q1]:=p;exact False.elim q1
 |cont=>
  let#[pb,H1,I1,q1]:=p;exact False.elim q1
 |ret u=>
  let#[v,pb,H1,I1,r,o,hf,q1]:=p;exact#[v,pb,_,I1.ko hf nf,r,q1]
inductive p7 (x:V) (vs:ai) (H:Hp) (Q:VK):Prop
 |mk:∀d kvs,x=.ref d->vs=[]->H d=some (.dK kvs)->Q .non (upd H d (.dK []))->p7 x vs H Q
theorem h9_:Dp X "dict.clear" p7:=by
 intro pins s σ H x xs v us Q I r rs h;let#[d,kvs,rfl,rfl,hd,q]:=h;cases r;cases rs;exact li_ I hd λs' I'=>#[.non,_,I',Z,q]
end L2
namespace Ev
open PySem L2
structure Fz (d:Addr) (o:Obj) (kvs:List (Key × V)) (H H':Hp):Prop where
 at_:H' d=some (.frz o (.dK kvs))
 sm:∀b u,b≠d->H b=some u->H' b=some u
section
variable{d:Addr}{o:Obj}{kvs:List (Key × V)}{H H' H2:Hp}
theorem Fz.start:Fz d o kvs H (upd H d (.frz o (.dK kvs))):=#[az,λb u ne e=>by rw[au ne];exact e]
theorem Fz.step(f:Fz d o kvs H H')(s:aa H' H2):Fz d o kvs H H2:=#[s _ _ f.at_,λb u ne e=>s _ _ (f.sm b u ne e)]
theorem Fz.ko(f:Fz d o kvs H H')(hd:H d=some (.dK kvs)):aa H (upd H' d (.dK kvs)):=λb u e=>by
 by_cases z:b=d
 ·subst z;rw[hd] at e;cases e;exact az
 ·rw[au z];exact f.sm b u z e
theorem Fz.Al{K:af}{CG CW g p:Addr}{hs:Xa}{ts:Xb}{qs:aC}{fp:ay}(f:Fz d o kvs H H')(hd:H d=some (.dK kvs))(G:iC K CG CW H g p hs ts qs fp)(nd:d∉fp):iC K CG CW H' g p hs ts qs fp:=
 G.keep (λb hb u e=>f.sm b u (λz=>nd (z▸hb)) e) λb xs e=>f.sm b _ (cj e hd nofun) e
end
def bH(ns:ae)(g:Str->V):List (Key × V):=ns.map λn=>(Sum.inr n,g n)
theorem EA(ns:ae)(g:Str->V):(bH ns g).map (·.1)=ns.map Sum.inr:=by
 unfold bH;rw[cm];rfl
theorem gh(ns:ae)(g:Str->V):(bH ns g).length=ns.length:=ao _
variable{n:Str}
theorem Ey{ns:ae}{g:Str->V}(h:n∈ns):bM (bH ns g) (Sum.inr n)=some (g n):=by
 induction ns with
 |nil=>cases h
 |cons m ns ih=>
  by_cases e:m=n
  ·subst e;exact C6 Z
  ·have:bM (bH (m::ns) g) (Sum.inr n)=bM (bH ns g) (Sum.inr n):=C9 λz=>e (ij z);rw[this];rcases bZ.mp h with z|z
   ·exact absurd z.symm e
   ·exact ih z
theorem ED{ns:ae}{g k:Str->V}(h:∀n∈ns,g n=k n):bH ns g=bH ns k:=rV λn hn=>by rw[h n hn]
variable{v:V}
theorem Qk{ns:ae}{g:Str->V}(h:n∈ns):putK (bH ns g) (Sum.inr n) v=bH ns λm=>if m=n then v else g m:=by
 unfold putK;rw[aA]
 ·unfold bH;rw[cm];apply rV λm _=>?_;by_cases e:m=n
  ·subst e;simp
  ·have:¬((Sum.inr m:Key)=Sum.inr n):=λz=>e (ij z);simp[e]
 ·apply List.any_eq_true.mpr #[(Sum.inr n,g n),bj.mpr #[n,h,Z],by simp]
theorem LD{ns:ae}{g:Str->V}(h:n∉ns):putK (bH ns g) (Sum.inr n) v=bH (ns++[n]) λm=>if m=n then v else g m:=by
 rw[EJ _ (AO (by
  rw[EA];intro m;let#[x,hx,e]:=bj.mp m;exact h (ij e▸hx)))]
 unfold bH;rw[cu];congr 1
 ·apply rV λm hm=>?_;have e:¬m=n:=λz=>h (z▸hm);simp[e]
 ·simp
variable{i:Nat}
theorem AI{ns:ae}{g:Str->V}{k:Key}{x:V}(h:(bH ns g)[i]? = some (k,x)):∃n,ns[i]? = some n/\k=Sum.inr n/\x=g n:=by
 unfold bH at h;rw[dW] at h;cases e:ns[i]? with
 |none=>rw[e] at h;cases h
 |some n=>
  rw[e] at h;let h:=eK h;exact#[n,Z,(d8 Prod.fst h).symm,(d8 Prod.snd h).symm]
theorem Ih{ns:ae}(nd:ns.Nodup)(h:ns[i]? = some n):n∉ns.take i:=by
 let q:=IK (g:=id) (ts:=ns) (by rw[List.map_id];exact nd) h;rwa [List.map_id] at q
theorem fB{ns:ae}(h:ns[i]? = some n):ns.take (i+1)=ns.take i++[n]:=by
 rw[iE,h];rfl
abbrev bN(ns:ae)(f:ag):List (Key × V):=bH ns λn=>.str (f n)
def gJ(q:Pc):Str × Int:=(q.1,q.2.1)
def ld(f:ag)(ws:Xa)(h:Str):Int:=((ws.filter λx=>decide (f x.1=h)).map (·.2)).sum
theorem Ws(f:ag)(ws:Xa)(x:Str × Int)(h:Str):ld f (ws++[x]) h=if h=f x.1 then ld f ws h+x.2 else ld f ws h:=by
 unfold ld;rw[ze];by_cases e:f x.1=h
 ·rw[aA e.symm,cu,List.sum_append];simp[e]
 ·rw[aq λz=>e z.symm];simp[e]
theorem j0_{a b:List Int}(p:a.Perm b):a.sum=b.sum:=by
 induction p with
 |nil=>rfl
 |cons x _ ih=>simp[ih]
 |swap x y l=>simp only[List.sum_cons];omega
 |trans _ _ h1 h2=>exact h1.trans h2
theorem kK_(f:ag){a b:Xa}(p:a.Perm b)(h:Str):ld f a h=ld f b h:=j0_ ((p.filter _).map _)
theorem Wl:∀{l:List Int},(∀x∈l,0<=x)->0<=l.sum
 |[],_=>by simp
 |x::l,h=>by
  rw[List.sum_cons];have:=h x cZ;have:=Wl (l:=l) λy hy=>h y (dI _ hy);omega
theorem ma_{f:ag}{ws:Xa}{h:Str}(p:∀x∈ws,0<=x.2):0<=ld f ws h:=Wl λx hx=>by
 let#[y,hy,rfl]:=bj.mp hx;exact p y (rR.mp hy).1
variable{ps:aC}
theorem Qs.nd{qs:aC}(Q:Qs ps qs)(nd:(ps.map (·.1)).Nodup):(qs.map (·.1)).Nodup:=by
 rw[Q.p_];exact (gq _).nodup_iff.mpr nd
theorem Qs.len{qs:aC}(Q:Qs ps qs):qs.length=ps.length:=by
 have:=d8 List.length Q.p_;rw[ao,(gq _).length_eq,ao] at this;exact this
theorem Qs.ws{qs:aC}(Q:Qs ps qs)(nd:(ps.map (·.1)).Nodup):(qs.map gJ).Perm (ps.map gJ):=by
 have nw:∀{l:aC},(l.map (·.1)).Nodup->(l.map gJ).Nodup:=λ{l} h=>by
  have e:(l.map (·.1))=(l.map gJ).map (·.1):=by rw[cm];rfl
  rw[e] at h;exact (oZ.mp h).imp λn z=>n (by rw[z])
 apply (List.perm_ext_iff_of_nodup (nw (Q.nd nd)) (nw nd)).mpr λa=>#[λh=>?_,λh=>?_]
 ·let#[q,hq,rfl]:=bj.mp h;let#[p,hp,rfl]:=Q.mem q hq;exact bj.mpr #[p,hp,Z]
 ·let#[p,hp,rfl]:=bj.mp h
  have m:p.1∈qs.map (·.1):=by
   rw[Q.p_];exact (gq _).mem_iff.mpr (bj.mpr #[p,hp,Z])
  let#[q,hq,e]:=bj.mp m;let#[p',hp',e']:=Q.mem q hq;have:p'=p:=Rq nd hp' hp (by rw[e'] at e;exact e);apply bj.mpr #[q,hq,?_];rw[e',this];rfl
variable{fd:Ad}
section
variable{P:Ae}{w:Af}{K:af}{mg:Str->Option Aa}{base:Heap}
structure QN (hs:Xa) (qs:aC) (ns:ae) (f:ag):Prop where
 perm:ns.Perm (qs.map (·.1))
 at_:∀n∈ns,f n∈hs.map (·.1)
theorem Mh:bD ["goods","stand","piece","hand","names"] ["goods","stand"] (bb Qf):=bJ
inductive Mf (K:af) (CG CW:Addr) (vs:ai) (H:Hp) (Q:VK) (E:XK):Prop
 |mk:∀(g p d:Addr) (hs:Xa) (ts:Xb) (qs:aC) (fp:ay) (ns:ae) (f:ag),vs=[.ref g,.ref d]->iC K CG CW H g p hs ts qs fp->d∉fp->H d=some (.dK (bN ns f))->QN hs qs ns f->(qs.map (·.1)).Nodup->qs.length<64->(∀d' H',aa H H'->H d'=none->H' d'=some (.dK (bN (qs.map (·.1)) f))->Q (.ref d') H')->Mf K CG CW vs H Q E
theorem hL_{f CG CW:Addr}(F:bo K "checked_stand" "checked_stand" Qf f fd)(B:Bi mg)(T:eR K CG)(TW:Txt K mg CW)(cH:!bG CG 1 "has_piece" qv (HK K CG CW))(cW:!bG CW 1 "has_hand" qv (kE K CW))(cN:!bG CG 1 "names" iU (RS K CG CW)) :
  aj P w K mg base aZ 2 f fd ["goods","stand"] (Mf K CG CW):=by
 apply F.bI Mh λaR A outer s H vs Q E hr h=>?_
 ·let#[g,p,d,hs,ts,qs,fp,ns,f,rfl,G,qo,hd,so,nd,dk,k]:=h;let hu:=eU hr;let sz:=b_;refine' #[_,?r0,?kk]
  case' r0=>refine' ak ?s1 ?r1
  case s1=>exact bQ (hY (gg (cX qz (by rfl) B.oF oY %[1,qx (v:=.ty "dict") (by rfl) B.dict oV Z|0]))) fF bR
  case' r1=>refine' ak ?s2 ?r2
  case' s2=>refine' Ex (eM dX Z ?i2 ?g2 ?b2)
  case i2=>exact Ra (L5 (pv 1))
  case g2=>exact jm Z (di (bU 2 Mh.nd) (di (bU 3 Mh.nd) iF))
  case b2=>exact ak (bQ (hY (gg (fU cH T.cl hr (pv 0) %[2|0]))) fF bR) (aF (bQ (hY (gg (fU cW TW.cl hr (eE (pv 0) Z) %[3|0]))) fF bR))
  case' r2=>refine' ak ?s3 ?r3
  case s3=>exact aQ 4 Mh.nd (AF cN T.cl hr (pv 0))
  case' r3=>refine' ak ?s4 (aF ?s5)
  case s4=>exact bQ (cz DV (cX hW_ (by rfl) B.len jk %[1|0]) (cX lM (by rfl) B.len jk %[4|0])) fF bR
  case s5=>exact bh (iD (vX Z) (by rfl) B.dict oV %[i8 ["piece","stand"] 1 [1] (dF (pv 4)) (λfp s H=>fw (i:=0) (show (["piece","stand"]:ae).Nodup by decide +kernel) Z (Or.inl Z)) (λfp s H=>iY) (λfp s H=>eW %[0,cn hu (pv 1) (pv 0)|0])|0])
  have Oa:ns.length=qs.length:=by rw[so.perm.length_eq,ao]
  apply#[_,Z,_,_,_,_,Z,.dK hd,Z,_,Z,bu ?_];apply#[d,_,hd,?_];apply#[_,Z,d,_,Z,hd,λv hv=>?_];let#[s1,vf]:=aB (o:=vQ v d) hv;let G1:=G.same s1;let wL:=s1 _ _ hd;generalize upd H v (vQ v d)=H1 at s1 vf G1 wL ⊢;apply#[v,d,_,Z,vf,wL,λo=>?_]
  let JB:bL:=λi σ H'=>∃(v2 v3:aK),σ=[some (.ref g),some (.ref d),v2,v3,none]/\Fz d o (bN ns f) H1 H'
  apply Rn JB #[none,none,Z,Fz.start] (λi σ H' _ ⟨_,_,_,z⟩=>z.at_) ?_ ?_
  ·rintro i ky x σ H2 hx ⟨v2,v3,rfl,fz⟩ t ht;let#[n,hn,rfl,rfl]:=AI hx;let nm:=cw hn;let s2:=aa.new (o:=.tup [.str n,.str (f n)]) ht;let Cg:=fz.step s2;have e2:upd H2 t (.tup [.str n,.str (f n)]) t=some (.tup [.str n,.str (f n)]):=az;show jS _ _ _ _ _ (upd H2 t (.tup [.str n,.str (f n)])) _;generalize upd H2 t (.tup [.str n,.str (f n)])=H3 at s2 Cg e2 ⊢;apply#[t,_,Z,.of e2,Z,_,_,Z,_,_,Z,Z,?_];let G3:=Cg.Al wL G1 qo;let#[dx,dw,dy,vs,cK,h1,h2,h3,h4,h5,m1,m2,m3,m4,m5]:=id G3.ex;let#[gj,d1,l2,d3,l_,as,ef,w1,_]:=id h2.ex;have qd:(cb p dw dy).lookup ("has_piece":Str)=none:=xh _ _ _ Z0 Z0 Z0;have iO:(dm d1 l2 d3).lookup ("has_hand":Str)=none:=j5 _ _ _ Z0 Z0 Z0;apply#[_,Z,g,dx,_,Z,h1,qd,_,Z,g,p,.str n,some n,hs,ts,qs,fp,Z,G3,Z,_,Z,?_];rw[show Gs (qs.map (·.1)) (some n)=true from cc (so.perm.mem_iff.mp nm)];apply bu ?_;apply#[_,Z,g,CG,dx,_,_,Z,h1,T.cl,T.nW,qy _ _ _,p,gj,_,Z,w1,iO,_,Z,p,f n,hs,ts,cK,Z,h2,_,Z,?_];rw[cc (so.at_ n nm)];exact bu #[_,_,Z,Cg]
  rintro σ H2 ⟨v2,v3,rfl,fz⟩;apply#[o,fz.at_,?_];let s2:=s1.trans (fz.ko wL);have hd2:upd H2 d (.dK (bN ns f)) d=some (.dK (bN ns f)):=az;generalize upd H2 d (.dK (bN ns f))=H3 at s2 hd2 ⊢;let G3:=G.same s2;let#[dx,dw,dy,vs,cK,h1,h2,h3,h4,h5,m1,m2,m3,m4,m5]:=id G3.ex;apply#[_,Z,g,dx,_,Z,h1,xh _ _ _ Z0 Z0 Z0,g,p,hs,ts,qs,fp,Z,G3,λln qh=>?_];let#[s3,e3]:=aB (o:=.lst ((qs.map (·.1)).map V.str)) qh;let oK:=s3 _ _ hd2;generalize upd H3 ln (.lst ((qs.map (·.1)).map V.str))=H4 at s3 e3 oK ⊢;apply#[_,Z,d,_,Z,oK,_,Z,ln,_,Z,.inl (.of e3),Z,_,Z,?_];rw[gh,ao,ao,Oa];simp only[bne_self_eq_false,decide_true,Bool.not_true];apply bu ?_;let jd:=s2.trans s3;apply#[_,Z,ln,Z,#[_,.of e3],λD hD=>?_];apply mJ (own:=1) (fv:=[some (.ref d)]) (xs:=(qs.map (·.1)).map V.str) Z d_ (λi out H'=>aa H4 H'/\H' D=some (.lst out)/\jz K H' out (bN ((qs.map (·.1)).take i) f)) #[aa.new hD,az,.nil] (λi out H' _ ⟨sm,_,_⟩=>.of (sm _ _ e3)) (λout H5 ⟨sm,DR,pa⟩=>?_) (λi y out H' hy ⟨sm,eQ,pa⟩=>?_)
  ·rw[ao,dP] at pa;apply#[D,out,_,Z,DR,pa,by rw[gh,ao];omega,λd' iA=>?_]
   have zR:((bN (qs.map (·.1)) f).map (·.1)).Nodup:=by
    rw[EA,xv,oZ];exact nd.imp λn e=>n (ij e)
   rw[xp zR];exact k d' _ ((jd.trans sm).trans (aa.new iA)) (jd.free (sm.free iA)) az
  ·let#[n,hn,rfl]:=iX hy;have hi:i<(qs.map (·.1)).length:=(cy.mp hn).1;rw[ao] at hi;have nm:n∈ns:=so.perm.mem_iff.mpr (cw hn);apply#[_,Z,Z,λNx hN=>d9 ?_];apply#[_,Z,_,Z,_,Z,d,.str (f n),Z,?_,zl,λt ht=>?_]
   ·rw[<- Ey (g:=λn=>V.str (f n)) nm];exact .k (k:=Sum.inr n) (sm _ _ oK)
   let s5:=aa.new (o:=.tup [.str n,.str (f n)]) ht;let lo:=bK pa;rw[gh,dg,ao] at lo;apply#[out,s5 _ _ eQ,by omega,hN _ _ #[gf (sm.trans s5) hD,az,?_]];have Ac:upd H' t (.tup [.str n,.str (f n)]) t=some (.tup [.str n,.str (f n)]):=az;have pD:∀{b:Addr} {ys:ai},upd H' t (.tup [.str n,.str (f n)]) b=some (.tup ys)->b≠D:=λhb=>cj hb (s5 _ _ eQ) nofun;rw[fB hn];show jz K _ _ (((qs.map (·.1)).take i++[n]).map _);rw[cu];exact km (Paired.bx pa λy kv ⟨b,z,hb⟩=>#[b,z,by rw[au (pD (s5 _ _ hb))];exact s5 _ _ hb]) (.cons #[t,Z,by rw[au (pD Ac)];exact Ac] .nil)
end
section
variable{d d2:Addr}{o:Obj}{kvs:List (Key × V)}{H H' H1:Hp}{u:HO}
theorem Fz.A9(s:aa H H1):Fz d o kvs H (upd H1 d (.frz o (.dK kvs))):=#[az,λb u ne e=>by rw[au ne];exact s _ _ e]
theorem Fz.put(f:Fz d o kvs H H')(hn:H d2=none)(ne:d2≠d):Fz d o kvs H (upd H' d2 u):=#[by rw[au ne.symm];exact f.at_,λb u nb e=>by rw[au (bq e hn)];exact f.sm b u nb e]
end
section
variable{P:Ae}{w:Af}{K:af}{mg:Str->Option Aa}{base:Heap}
theorem LP:bD ["goods","placed","hand","found","piece"] vC (bb RM):=bJ
structure AC (K:af) (CG CW:Addr) (H:Hp) (g p d:Addr) (hs:Xa) (ts:Xb) (qs:aC) (fp:ay) (f:ag):Prop where
 G:iC K CG CW H g p hs ts qs fp
 Gd:Good hs ts
 qo:d∉fp
 hd:H d=some (.dK (bN (qs.map (·.1)) f))
 at_:∀n∈qs.map (·.1),f n∈hs.map (·.1)
 nd:(qs.map (·.1)).Nodup
 dk:qs.length<64
abbrev Gg(hs:Xa)(qs:aC)(f:ag):List (Key × V):=bH (aI hs) λh=>.int (ld f (qs.map gJ) h)
inductive Mb (K:af) (CG CW:Addr) (vs:ai) (H:Hp) (Q:VK) (E:XK):Prop
 |mk:∀(g p d:Addr) (hs:Xa) (ts:Xb) (qs:aC) (fp:ay) (f:ag),vs=[.ref g,.ref d]->AC K CG CW H g p d hs ts qs fp f->(∀d' H',aa H H'->H d'=none->H' d'=some (.dK (Gg hs qs f))->Q (.ref d') H')->Mb K CG CW vs H Q E
theorem gl_{f CG CW CP:Addr}(F:bo K "loads_at" "loads_at" RM f fd)(B:Bi mg)(T:eR K CG)(TW:Txt K mg CW)(cH:!bG CW 1 "hands" iU (Es K CW))(cW:!bG CG 2 "weight" Aw (C4 K CG CW CP)) :
  aj P w K mg base aZ 3 f fd vC (Mb K CG CW):=by
 apply F.bI LP λaR A outer s H vs Q E hr h=>?_
 ·let#[g,p,d,hs,ts,qs,fp,f,rfl,Pl,k]:=h;let hu:=eU hr;let sz:=b_;have k8:ba 1 _:=hr.mono (by decide);refine' #[_,?r0,?kk]
  case' r0=>refine' ak ?s1 ?r1
  case s1=>exact aQ 3 LP.nd (iD (vX Z) (by rfl) B.dict oV %[i8 ["hand"] 1 [] (dF (AF cH TW.cl k8 (eE (pv 0) Z))) (λfp s H=>fw (i:=0) (show (["hand"]:ae).Nodup by decide +kernel) Z (Or.inl Z)) (λfp s H=>iY) (λfp s H=>eW %[0,aE|0])|0])
  case' r1=>refine' ak ?s2 ?r2
  case' s2=>refine' Ex (eM dX Z ?i2 ?g2 (aF ?b2))
  case i2=>exact Ra (L5 (pv 1))
  case g2=>exact jm Z (di (bU 4 LP.nd) (di (bU 2 LP.nd) iF))
  case b2=>exact rN hu (pv 3) (pv 2) (bF iV (cn hu (pv 3) (pv 2)) (fU cW T.cl hr (pv 0) %[4|0])) Z
  case r2=>exact aF (bh (pv 3))
  let nl:=Pl.Gd.fM;let h8:=Pl.Gd.h8;let#[dx,dw,dy,vs,cK,h1,h2,h3,h4,h5,m1,m2,m3,m4,m5]:=id Pl.G.ex;let#[gj,d1,l2,d3,l_,as,ef,w1,_]:=id h2.ex;have iO:(dm d1 l2 d3).lookup ("hands":Str)=none:=j5 _ _ _ Z0 Z0 Z0;apply#[_,Z,g,CG,dx,_,_,Z,h1,T.cl,T.nW,qy _ _ _,p,gj,_,Z,w1,iO,p,hs,ts,cK,Z,h2,λlh ic=>?_];let#[s1,e1]:=aB (o:=.lst ((aI hs).map V.str)) ic;generalize upd H lh (.lst ((aI hs).map V.str))=H1 at s1 e1 ⊢;apply#[lh,Z,#[_,.of e1],λD hD=>?_]
  let JA:dY:=λi out H'=>aa H1 H'/\H' D=some (.lst out)/\jz K H' out (bH ((aI hs).take i) λ_=>.int 0)
  apply mJ (own:=1) (fv:=[]) (xs:=(aI hs).map V.str) Z d_ JA #[aa.new hD,az,.nil] (λi out H' _ ⟨sm,_,_⟩=>.of (sm _ _ e1)) (λout H5 ⟨sm,DR,pa⟩=>?_) (λi y out H' hy ⟨sm,eQ,pa⟩=>?_);rotate_left 1
  ·let#[n,hn,rfl]:=iX hy;have hi:i<(aI hs).length:=(cy.mp hn).1;apply#[_,Z,Z,λNx hN=>d9 ?_];apply#[_,Z,zl,λt ht=>?_];let s5:=aa.new (o:=.tup [.str n,.int 0]) ht;let lo:=bK pa;rw[gh,dg] at lo;apply#[out,s5 _ _ eQ,by omega,hN _ _ #[gf (sm.trans s5) hD,az,?_]];have Ac:upd H' t (.tup [.str n,.int 0]) t=some (.tup [.str n,.int 0]):=az;have pD:∀{b:Addr} {ys:ai},upd H' t (.tup [.str n,.int 0]) b=some (.tup ys)->b≠D:=λhb=>cj hb (s5 _ _ eQ) nofun;rw[fB hn];show jz K _ _ (((aI hs).take i++[n]).map _);rw[cu];exact km (Paired.bx pa λy kv ⟨b,z,hb⟩=>#[b,z,by rw[au (pD (s5 _ _ hb))];exact s5 _ _ hb]) (.cons #[t,Z,by rw[au (pD Ac)];exact Ac] .nil)
  rw[ao,dP] at pa;apply#[D,out,_,Z,DR,pa,by rw[gh];omega,λd2 hd2=>?_]
  have zR:((bH (aI hs) λ_=>V.int 0).map (·.1)).Nodup:=by
   rw[EA,xv,oZ];exact Pl.Gd.r9.imp λn e=>n (ij e)
  rw[xp zR];let s2:=(s1.trans sm).trans (aa.new (o:=.dK (bH (aI hs) λ_=>V.int 0)) hd2);have e2:upd H5 d2 (.dK (bH (aI hs) λ_=>V.int 0)) d2=some (.dK (bH (aI hs) λ_=>V.int 0)):=az;have n2:H d2=none:=s1.free (sm.free hd2);show mP _ _ _ _ (upd H5 d2 (.dK (bH (aI hs) λ_=>V.int 0)));generalize upd H5 d2 (.dK (bH (aI hs) λ_=>V.int 0))=H6 at s2 e2 ⊢;have RX:d2≠d:=(bq Pl.hd n2).symm;apply#[d,_,s2 _ _ Pl.hd,?_];apply#[_,Z,d,_,Z,s2 _ _ Pl.hd,λv hv=>?_];let#[s3,vf]:=aB (o:=vQ v d) hv;let e3:=s3 _ _ e2;let je:=s2.trans s3;generalize upd H6 v (vQ v d)=H7 at s3 vf e3 je ⊢;apply#[v,d,_,Z,vf,je _ _ Pl.hd,λo=>?_]
  let Jz:bL:=λi σ H'=>∃(v2 v4:aK),σ=[some (.ref g),some (.ref d),v2,some (.ref d2),v4]/\Fz d o (bN (qs.map (·.1)) f) H H'/\H' d2=some (.dK (bH (aI hs) λh=>.int (ld f ((qs.take i).map gJ) h)))
  apply Rn Jz #[none,none,Z,Fz.A9 je,by rw[au RX];exact e3] (λi σ H' _ ⟨_,_,_,z,_⟩=>z.at_) ?_ ?_
  ·rintro i ky x σ H8 hx ⟨v2,v4,rfl,fz,e8⟩ t ht;let#[n,hn,rfl,rfl]:=AI hx
   have hi:i<qs.length:=by
    have:=(cy.mp hn).1;rwa [ao] at this
   have hq:qs[i]? = some (qs[i]'hi):=dG hi
   have en:n=(qs[i]'hi).1:=by
    rw[dW,hq] at hn;exact (eK hn).symm
   have fm:f n∈aI hs:=(gn hs).mem_iff.mpr (Pl.at_ n (cw hn));generalize qs[i]'hi=q at hq en;let s8:=aa.new (o:=.tup [.str n,.str (f n)]) ht;let Cg:=fz.step s8;let e9:=s8 _ _ e8;have et:upd H8 t (.tup [.str n,.str (f n)]) t=some (.tup [.str n,.str (f n)]):=az;show jS _ _ _ _ _ (upd H8 t (.tup [.str n,.str (f n)])) _;generalize upd H8 t (.tup [.str n,.str (f n)])=H9 at s8 Cg e9 et ⊢;apply#[t,_,Z,.of et,Z,_,_,Z,_,_,Z,Z,?_];let G9:=Cg.Al Pl.hd Pl.G Pl.qo;let#[dx,dw,dy,vs,cK,h1,h2,h3,h4,h5,m1,m2,m3,m4,m5]:=id G9.ex;have qd:(cb p dw dy).lookup ("weight":Str)=none:=xh _ _ _ Z0 Z0 Z0;apply#[_,Z,_,Z,d2,.int (ld f ((qs.take i).map gJ) (f n)),Z,?_,_,Z,g,dx,_,Z,h1,qd,_,Z,g,p,.str n,some n,hs,ts,qs,fp,Z,G9,Pl.nd,Z,.inl #[q,cw hq,d8 some en,?_]]
   ·rw[<- Ey (g:=λh=>V.int (ld f ((qs.take i).map gJ) h)) fm];exact .k (k:=Sum.inr (f n)) e9
   apply#[_,_,Z,Z,_,Z,_,Z,d2,_,Z,.k (k:=Sum.inr (f n)) e9 (by rw[gh];omega),?_];apply#[_,_,Z,Cg.put n2 RX,?_];rw[az,Qk fm];congr 2;apply ED λm _=>?_
   have e5:(qs.take (i+1)).map gJ=(qs.take i).map gJ++[gJ q]:=by
    rw[iE,hq,cu];rfl
   rw[e5,Ws];show (if m=f n then V.int (ld f ((qs.take i).map gJ) (f n)+q.2.1) else V.int (ld f ((qs.take i).map gJ) m))=V.int (if m=f q.1 then _ else _);rw[<- en];by_cases z:m=f n
   ·rw[aA z,aA z,z];rfl
   ·rw[aq z,aq z]
  rintro σ H8 ⟨v2,v4,rfl,fz,e8⟩;apply#[o,fz.at_,?_];rw[gh,ao,dP] at e8;exact#[_,Z,k d2 _ (fz.ko Pl.hd) n2 (by rw[au RX];exact e8)]
end
end Ev
namespace L2
open PySem PySem.Spec PyProof.Rows PySem.W
inductive uN (xs:ai) (H:Hp) (Q:VK):Prop
 |mk:∀a kvs,xs=[.ref a]->Rd H a (.dK kvs)->(∀p,H p=none->Q (.ref p) (upd H p (.dK kvs)))->uN xs H Q
variable{X:Cx}
theorem SG:gY X (.type "dict") uN:=by
 intro pins s σ H xs us Q I r h;let#[a,kvs,rfl,hd,q]:=h;let#[u,rfl,ru]:=vals1 r;cases ru;exact j4_ I hd λp s' hp I'=>#[.ref p,_,I',Z,q p hp]
inductive uK (K:af) (x:V) (y:V) (H:Hp) (Q:VK):Prop
 |mk:∀a b xs,x=.ref a->y=.ref b->eG K H a xs->eG K H b []->Q (.bl (!xs.isEmpty)) H->uK K x y H Q
theorem L8(hu:X.A.units+0+1<cLine):eP X (compareOp .NotEq) (uK X.K):=by
 intro pins s σ H x y v u Q I rx ry h;let#[a,b,xs,rfl,rfl,t,t',hq]:=h;cases xs with
 |nil=>exact lQ_ fP hu pins s σ H (.ref a) (.ref b) v u Q I rx ry #[[],[],#[a,[],Z,t,.nil],#[b,[],Z,t',.nil],hq]
 |cons z zs=>
  cases rx;cases ry;let#[us,r,pl,_]:=I.list t;let#[vs,r',yd,_]:=I.list t';let l1:=r.length;let l2:=r'.length;exact Mz.iK pl.isList yd.isList (by simp only[dQ,bne_iff_ne];simp at l1 l2;omega) Z1 #[.bl true,H,I,Z,hq]
end L2
namespace Ev
open PySem L2
theorem Ww{A:Ag}{s:Ab}{ns:ae}{f g:ag}{vb:List (Key × Aa)}(rb:KV (bN ns g) vb):∀(ms:ae) (va:List (Key × Aa)),KV (bN ms f) va->(∀m∈ms,m∈ns)->PySem.W.KeqHits A s vb va (ms.all λn=>decide (f n=g n))
 |[],va,r,_=>by
  cases r;exact .nil
 |m::ms,va,r,h=>by
  cases r with
  |@cons _ q _ _v h1 r=>
   let hm:=h m cZ;let#[y,hy,ry]:=fq.some_of (v:=.str (g m)) (o:=valueAt vb (Sum.inr m)) (by rw[<- Ey (g:=λn=>V.str (g n)) hm];exact rb.val _);let#[k,v]:=q;let#[e1,e2]:=h1;have e1:(Sum.inr m:Key)=k:=e1;subst e1;let#[t,rfl]:=(show ∃t,v=Value.str (f m) t from e2);let#[u,rfl]:=(show ∃t,y=Value.str (g m) t from ry);let q:=SeqAt.EqAt.str_str (A:=A) (s:=s) (f m) t (g m) u;rw[show (f m == g m)=decide (f m=g m) by by_cases z:f m=g m<;>simp[z]] at q
   exact .hit hy q (Ww rb ms _v r λx hx=>h x (dI _ hx))
def oE(a n:Int):Int:=a / (Int.gcd a n:Int) * n
variable{n:Int}
theorem kI_{a:Int}(ha:0<a)(hn:0<n):oE a n=(Int.lcm a n:Int):=by
 let#[p,rfl]:=qB (xj ha);let#[q,rfl]:=qB (xj hn);show ((p:Int) / ((Nat.gcd p q:Nat):Int)) * (q:Int)=((Nat.lcm p q:Nat):Int);rw[<- Int.natCast_ediv,<- Int.natCast_mul,Nat.div_mul_right_comm (Nat.gcd_dvd_left p q)];rfl
def kX(ns:List Int):Int:=ns.foldl oE 1
theorem QZ:∀(ns:List Int) (a:Int),0<a->(∀n∈ns,0<n)->0<ns.foldl oE a/\∀x:Int,0<=x->(ns.foldl oE a ∣ x ↔ a ∣ x/\∀n∈ns,n ∣ x)
 |[],a,ha,_=>#[ha,λx _=>by simp]
 |n::ns,a,ha,h=>by
  let hn:=h n cZ;let e:=kI_ ha hn
  have p:0<oE a n:=by
   rw[e];have:=Nat.lcm_pos (m:=a.natAbs) (n:=n.natAbs) Z1 Z1;have:0<Int.lcm a n:=this;omega
  let#[h1,h2]:=QZ ns (oE a n) p λm hm=>h m (dI _ hm);apply#[h1,λx hx=>(h2 x hx).trans ?_];let#[z,rfl]:=qB hx;rw[e,Int.natCast_dvd_natCast,Int.lcm_dvd_iff];constructor
  ·rintro⟨⟨q1,q2⟩,q3⟩
   exact#[q1,λm hm=>by
    rcases bZ.mp hm with rfl|hm
    ·exact q2
    ·exact q3 m hm]
  ·rintro⟨q1,q2⟩;exact#[#[q1,q2 n cZ],λm hm=>q2 m (dI _ hm)]
variable{ns:List Int}
theorem RK(h:∀n∈ns,0<n):0<kX ns:=(QZ ns 1 (by decide) h).1
theorem iZ_(h:∀n∈ns,0<n)(hn:n∈ns):n ∣ kX ns:=
 (((QZ ns 1 (by decide) h).2 _ (xj (RK h))).mp (Int.dvd_refl _)).2 n hn
theorem kD_(f:ag)(x:Str × Int)(ws:Xa)(h:Str):ld f (x::ws) h=(if f x.1=h then x.2 else 0)+ld f ws h:=by
 unfold ld;by_cases e:f x.1=h
 ·simp[e]
 ·simp[e]
theorem UD{f:ag}{h:Str}:∀{ws:Xa},(∀x∈ws,0<=x.2/\x.2<=1000000000)->ld f ws h<=1000000000 * ws.length
 |[],_=>by
  unfold ld;simp
 |x::ws,p=>by
  let h1:=p x cZ;let h2:=UD (f:=f) (h:=h) (ws:=ws) λy hy=>p y (dI _ hy);rw[kD_,iW];by_cases z:f x.1=h
  ·rw[aA z];omega
  ·rw[aq z];omega
def Ed(hs:Xa):Int:=kX ((aI hs).map (strOf hs))
theorem bP{hs:Xa}{ts:Xb}(G:Good hs ts){n:Str}(h:n∈aI hs):1<=strOf hs n/\strOf hs n<=1000:=(G.aN _ (yV ((gn hs).mem_iff.mp h))).2
variable{i:Nat}
variable{fd:Ad}
section
variable{P:Ae}{w:Af}{K:af}{mg:Str->Option Aa}{base:Heap}
theorem xX:bD ["numbers","found","number"] ["numbers"] (bb Ni):=bJ
def Fp(K:af):Sp:=λvs H Q _=>∃(l:Addr) (ns:List Int),vs=[.ref l]/\eG K H l (ns.map V.int)/\(∀n∈ns,1<=n/\n<=1000)/\Q (.int (kX ns)) H
theorem j6_(h:ns[i]? = some n):kX (ns.take (i+1))=oE (kX (ns.take i)) n:=by
 unfold kX;rw[iE,h,List.foldl_append];rfl
theorem fg_{y:V}(h:(ns.map V.int)[i]? = some y):∃n,ns[i]? = some n/\y=.int n:=by
 rw[dW] at h;cases e:ns[i]? with
 |none=>rw[e] at h;cases h
 |some n=>rw[e] at h;exact#[n,Z,(eK h).symm]
theorem mt_{f:Addr}(F:bo K "least_multiple" "least_multiple" Ni f fd)(cG:!br 1 "greatest_divisor" sG Fq):!aj aZ 2 f fd ["numbers"] (Fp K):=by
 apply F.bI xX λaR A outer s H vs Q E hr h=>?_
 ·let#[l,ns,rfl,hl,b,k]:=h;refine' #[_,ak ?s1 (ak ?s2 (aF ?s3)),?kk]
  case s1=>exact aQ 1 xX.nd aE
  case s2=>exact eM dX Z (dF (pv 0)) (bU 2 xX.nd) (aF (aQ 1 xX.nd (bF ji (bF vL (pv 1) (aY cG hr %[1,2|0])) (pv 2))))
  case s3=>exact bh (pv 1)
  let Jy:bL:=λi σ H'=>H'=H/\∃(v2:aK),σ=[some (.ref l),some (.int (kX (ns.take i))),v2]
  apply#[_,Z,l,Z,#[_,hl],gc (K:=K) (a:=l) (xs:=ns.map V.int) Jy #[Z,none,Z] (λi σ H' _ ⟨e,_⟩=>by rw[e];exact hl) ?_ ?_]
  ·rintro i y σ H' hy ⟨rfl,v2,rfl⟩;let#[n,hn,rfl]:=fg_ hy;let bn:=b n (cw hn)
   let p:=RK (ns:=ns.take i) λm hm=>by
    have:=b m (List.take_subset _ _ hm);omega
   apply#[_,Z,_,Z,_,Z,_,_,Z,xj p,by omega,_,_,Z,Z,mq_ Z1 (Int.le_trans bn.2 (by decide)),_,Z,_,_,Z,Z,.inr #[by omega,by omega],Z,some (.int n),?_];rw[j6_ hn];rfl
  ·rintro σ H' ⟨rfl,v2,rfl⟩;apply#[_,Z,?_];rw[ao,dP];exact k
theorem Bf:bD ["web"] ["web"] (bb uj):=bJ
inductive mY (K:af) (C:Addr) (vs:ai) (H:Hp) (Q:VK) (E:XK):Prop
 |mk:∀(p:Addr) (hs:Xa) (ts:Xb) (fp:ay),vs=[.ref p]->g9 K C H p hs ts fp->Good hs ts->(∀H',aa H H'->Q (.int (Ed hs)) H')->mY K C vs H Q E
theorem kZ_{f CW:Addr}(F:bo K "multiple_of_strengths" "multiple_of_strengths" uj f fd)(TW:Txt K mg CW)(cL:!br 2 "least_multiple" ["numbers"] (Fp K))(cH:!bG CW 1 "hands" iU (Es K CW))(cS:!bG CW 2 "strength" j9 (EK K CW)):!aj aZ 3 f fd ["web"] (mY K CW):=by
 apply F.bI Bf λaR A outer s H vs Q E hr h=>?_
 ·let#[p,hs,ts,fp,rfl,W,G,k]:=h;let sz:=b_;let nl:=G.fM;let h8:=G.h8;refine' #[_,aF (bh (aY cL hr %[i8 ["hand","web"] 1 [0] (dF (AF cH TW.cl (hr.mono (by decide)) (pv 0))) (λfp s H=>fw (i:=0) (show (["hand","web"]:ae).Nodup by decide +kernel) Z (Or.inl Z)) (λfp s H=>iY) (λfp s H=>?e1)|0])),?kk]
  case e1=>exact fU cS TW.cl hr (pv 1) %[0|0]
  let#[gj,d1,l2,d3,l_,as,ef,w1,_]:=id W.ex;apply#[_,Z,p,gj,_,Z,w1,j5 _ _ _ Z0 Z0 Z0,p,hs,ts,fp,Z,W,λlh ic=>?_];let#[s1,e1]:=aB (o:=.lst ((aI hs).map V.str)) ic;generalize upd H lh (.lst ((aI hs).map V.str))=H1 at s1 e1 ⊢;apply#[lh,Z,#[_,.of e1],λD hD=>?_]
  let Jx:dY:=λi out H'=>aa H1 H'/\H' D=some (.lst out)/\out=(((aI hs).take i).map (strOf hs)).map V.int
  apply mJ (own:=1) (fv:=[some (.ref p)]) (xs:=(aI hs).map V.str) Z d_ Jx #[aa.new hD,az,Z] (λi out H' _ ⟨sm,_,_⟩=>.of (sm _ _ e1)) (λout H5 ⟨sm,DR,eo⟩=>?_) (λi y out H' hy ⟨sm,eQ,eo⟩=>?_)
  ·rw[ao,dP] at eo;rw[eo] at DR;apply#[D,_,Z,.of DR,λn hn=>?_,k H5 (s1.trans sm)];let#[m,hm,rfl]:=bj.mp hn;exact bP G hm
  ·let#[n,hn,rfl]:=iX hy;have hi:i<(aI hs).length:=(cy.mp hn).1;apply#[_,Z,Z,λNx hN=>d9 ?_];let W':=(W.same s1).same sm;let#[gj,d1,l2,d3,l_,as,ef,w1,_]:=id W'.ex;apply#[_,Z,p,gj,_,Z,w1,j5 _ _ _ Z0 Z0 Z0,_,Z,p,n,strOf hs n,hs,ts,fp,Z,W',G.qe,yV ((gn hs).mem_iff.mp (cw hn)),?_];apply#[out,eQ,by rw[eo,ao,ao,dg];omega,hN _ _ #[gf sm hD,az,?_]];rw[fB hn,cu,cu,eo];rfl
theorem ID:bD ["goods","placed","multiple","found","hand","load"] vC (bb QS):=bJ
def se(hs:Xa)(qs:aC)(f:ag)(h:Str):Int:=ld f (qs.map gJ) h * (Ed hs / strOf hs h)
inductive RA (K:af) (CG CW:Addr) (vs:ai) (H:Hp) (Q:VK) (E:XK):Prop
 |mk:∀(g p d:Addr) (hs:Xa) (ts:Xb) (qs:aC) (fp:ay) (f:ag),vs=[.ref g,.ref d]->AC K CG CW H g p d hs ts qs fp f->(∀q∈qs,0<=q.2.1/\q.2.1<=1000000000)->(∀d' H',aa H H'->H d'=none->H' d'=some (.dK (bH (aI hs) λh=>.int (se hs qs f h)))->Q (.ref d') H')->RA K CG CW vs H Q E
theorem KN{qs:aC}(wp:∀q∈qs,0<=q.2.1/\q.2.1<=1000000000)(dk:qs.length<64)(f:ag)(h:Str):0<=ld f (qs.map gJ) h/\ld f (qs.map gJ) h<=64000000000:=by
 have p:∀x∈qs.map gJ,0<=x.2/\x.2<=1000000000:=λx hx=>by
  let#[q,hq,rfl]:=bj.mp hx;exact wp q hq
 let h1:=UD (f:=f) (h:=h) p;rw[ao] at h1;exact#[ma_ λx hx=>(p x hx).1,by omega]
theorem i6_{f CG CW:Addr}(F:bo K "levels_at" "levels_at" QS f fd)(T:eR K CG)(TW:Txt K mg CW)(cL:!br 3 "loads_at" vC (Mb K CG CW))(cM:!br 3 "multiple_of_strengths" ["web"] (mY K CW))(cS:!bG CW 2 "strength" j9 (EK K CW)) :
  aj P w K mg base aZ 4 f fd vC (RA K CG CW):=by
 apply F.bI ID λaR A outer s H vs Q E hr h=>?_
 ·let#[g,p,d,hs,ts,qs,fp,f,rfl,Pl,wp,k]:=h;let hu:=eU hr;let sz:=b_;have vh:ba 2 _:=hr.mono (by decide);refine' #[_,?r0,?kk]
  case' r0=>refine' ak ?s0 (ak ?s1 (ak ?s2 ?r2))
  case s0=>exact aQ 2 ID.nd (aY cM hr %[eE (pv 0) Z|0])
  case s1=>exact aQ 3 ID.nd C_
  case' s2=>refine' eM dX Z ?i2 ?g2 (aF ?b2)
  case i2=>exact Ra (L5 (aY cL hr %[0,1|0]))
  case g2=>exact jm Z (di (bU 4 ID.nd) (di (bU 5 ID.nd) iF))
  case b2=>exact rN hu (pv 3) (pv 4) (bF ji (pv 5) (bF vL (pv 2) (fU cS TW.cl vh (eE (pv 0) Z) %[4|0]))) Z
  case r2=>exact aF (bh (pv 3))
  let nl:=Pl.Gd.fM;let h8:=Pl.Gd.h8;let#[dx,dw,dy,vs,cK,h1,h2,_]:=id Pl.G.ex;apply#[_,Z,g,CG,dx,_,_,Z,h1,T.cl,T.nW,qy _ _ _,p,hs,ts,cK,Z,h2,Pl.Gd,λH0 s0=>?_];intro d2 hd2;let s1:=s0.trans (aa.new (o:=.dK []) hd2);have e1:upd H0 d2 (.dK []) d2=some (.dK []):=az;have n2:H d2=none:=s0.free hd2;show mP _ _ _ _ (upd H0 d2 (.dK []));generalize upd H0 d2 (.dK [])=H1 at s1 e1 ⊢;have Pl1:AC K CG CW H1 g p d hs ts qs fp f:=#[Pl.G.same s1,Pl.Gd,Pl.qo,s1 _ _ Pl.hd,Pl.at_,Pl.nd,Pl.dk];apply#[_,Z,_,Z,g,p,d,hs,ts,qs,fp,f,Z,Pl1,λdl H2 s2 K1 e2=>?_];apply#[dl,_,Z,e2,λv hv=>?_];let#[s3,vf]:=aB (o:=vQ v dl) hv;let e3:=s3 _ _ e2;let q_:=s2.trans s3;generalize upd H2 v (vQ v dl)=H3 at s3 vf e3 q_ ⊢;have i0:H dl=none:=s1.free K1;have Y_:d2≠dl:=bq e1 K1;apply#[v,dl,_,Z,vf,e3,λo=>?_]
  let Jw:bL:=λi σ H'=>∃(v4 v5:aK),σ=[some (.ref g),some (.ref d),some (.int (Ed hs)),some (.ref d2),v4,v5]/\aa H H'/\H' dl=some (.frz o (.dK (Gg hs qs f)))/\H' d2=some (.dK (bH ((aI hs).take i) λh=>.int (se hs qs f h)))
  apply Rn Jw #[none,none,Z,gf (s1.trans q_) i0,az,by rw[au Y_];exact q_ _ _ e1] (λi σ H' _ ⟨_,_,_,_,z,_⟩=>z) ?_ ?_
  ·rintro i ky x σ H8 hx ⟨v4,v5,rfl,s8,f8,e8⟩ t ht;let#[n,hn,rfl,rfl]:=AI hx;have hi:i<(aI hs).length:=(cy.mp hn).1;have nm:n∈hs.map (·.1):=(gn hs).mem_iff.mp (cw hn);let sm:=yV nm;let sg:=bP Pl.Gd (cw hn);let lo:=KN wp Pl.dk f n;let ss:=aa.new (o:=.tup [.str n,.int (ld f (qs.map gJ) n)]) ht;let s9:=s8.trans ss;let e9:=ss _ _ e8;let f9:=ss _ _ f8;have et:upd H8 t (.tup [.str n,.int (ld f (qs.map gJ) n)]) t=some (.tup [.str n,.int (ld f (qs.map gJ) n)]):=az;show jS _ _ _ _ _ (upd H8 t (.tup [.str n,.int (ld f (qs.map gJ) n)])) _;generalize upd H8 t (.tup [.str n,.int (ld f (qs.map gJ) n)])=H9 at ss s9 e9 f9 et ⊢;apply#[t,_,Z,.of et,Z,_,_,Z,_,_,Z,Z,?_];let G9:=Pl.G.same s9;let#[dx,dw,dy,vs,cK,h1,h2,h3,h4,h5,m1,m2,m3,m4,m5]:=id G9.ex;let#[gj,d1,l2,d3,l_,as,ef,w1,_]:=id h2.ex;have iO:(dm d1 l2 d3).lookup ("strength":Str)=none:=j5 _ _ _ Z0 Z0 Z0;apply#[_,Z,_,Z,_,Z,g,CG,dx,_,_,Z,h1,T.cl,T.nW,qy _ _ _,p,gj,_,Z,w1,iO,_,Z,p,n,strOf hs n,hs,ts,cK,Z,h2,Pl.Gd.qe,sm,?_];apply#[_,_,Z,Z,#[by omega,by omega],_,_,Z,Z,.inl #[by omega,by omega],_,Z,_,Z,d2,_,Z,.k (k:=Sum.inr n) e9 (by rw[gh,dg];omega),?_];apply#[_,_,Z,gf s9 n2,by rw[au Y_.symm];exact f9,?_];rw[az,fB hn,LD (Ih Pl.Gd.r9 hn)];congr 2;apply ED λm _=>?_;by_cases z:m=n
   ·subst z;simp[se]
   ·simp[z]
  rintro σ H8 ⟨v4,v5,rfl,s8,f8,e8⟩;rw[gh,dP] at e8;exact#[_,Z,k d2 H8 s8 n2 e8]
end
end Ev
namespace L2
open PySem PySem.Spec PyProof.Rows
section
variable{P:Ae}{w:Af}{K:af}{mg:Str->Option Aa}{base:Heap}
section
variable{N:ae}{qual:Str}{scope:Scope}{f:Addr}{cd:Aa}{A:Ag}{outer:List Env}{s:Ab}{H:Hp}{E:XK}
end
end
open PySem.Calls PySem.W
section
variable{M:Model}{A:Ag}{E:Aa->Ab->Prop}{s:Ab}{base:Heap}{env:Env}{outer:List Env}{L e:Addr}{cls a0:Aa}{Q:Unit->Ab->Prop}
end
section
variable{prog:Ae}{w:Af}{A:Ag}{E:Aa->Ab->Prop}{h:Heap}{g:Array GenState}{d:Drawn}{t:Nat}{os:OsState}{nm q:Str}{C N f:Addr}{bs bm Zs:ax}{hdct:Bool}{sn:ae}{sub:ax}{ab:Bool}{col:Option Bool}{dd:Option Addr}{k0 k1 k2 k3 k5:Option Aa}{B newId Ou:String}{K:af}{rest:ax}
end
open Builtin Builtin.ObjectAttr
def Cp(C CE:Addr):ax:=[.ref C,.ref CE,.type "ValueError",.type "Exception",.type "BaseException",.type "object"]
section
variable{prog:Ae}{w:Af}{A:Ag}{E:Aa->Ab->Prop}{s:Ab}{K:af}{x C CE:Addr}{ox:Obj}{od:Option Obj}{name:Str}{tk:Tok}{v:Aa}{cd:ClassData}
end
def Cq(K:af)(C:Addr)(Zs:ax)(newId:String):Bool:=
 match K.lookup C with
 |some ⟨.type "type",_,.cls cd,sl⟩=>
  match cd.mro,sl.toList with
  |.ref C'::bm,[_,_,_,_,some (.builtin n),_]=>C' == C&&n == newId&&!cd.hasDel&&tailIn K Zs bm&&nsOkIn K cd.ns
  |_,_=>false
 |_=>false
def R8(K:af)(C CE:Addr):Bool:=
 match clsIn K C with
 |some cd=>cd.mro == Cp C CE&&cd.hasDict
 |none=>false
structure ExO (K:af) (C CE:Addr):Prop where
 kx:TF K C
 ex:Cq K C bmV "ValueError.__new__"=true
 es:findIn K (.ref C) "__setattr__"=some (some (.builtin "object.__setattr__"))
 cl:R8 K C CE=true
structure ExF (K:af) (C:Addr) (f:Str):Prop where
 tk:takerIn K C f=some none
 fd:findIn K (.ref C) f=some none
structure ExB (K:af) (CE:Addr):Prop where
 sp:specialIn K (.ref CE) "__getattribute__"=some (some (.builtin "type.__getattribute__"))
 rd:readsIn K CE (.type "type")=true
 fc:findCls K (.ref CE) (.type "type") "__init__"=some (.val (.builtin "ValueError.__init__"))
section
variable{P:Ae}{w:Af}{H:Hp}{h:Heap}{e C a0 d:Addr}{dd:Option Addr}{fs:List (Str × V)}
end
section
variable{X:Cx}{C CE:Addr}{x f:Str}{p apos pos pos':Pos}{o e value:Expr}{es:List Expr}{ta tv:TE}{t:TA}
end
section
variable{X:Cx}{pins:List (Addr × Obj)}{σ:St}{H H':Hp}{s s1:Ab}{B h:Heap}{a:Addr}{cls a0:Aa}{dd:Option Addr}{E:XK}
end
section
variable{P:Ae}{w:Af}{K:af}{mg:Str->Option Aa}{base:Heap}{N:ae}{qual:Str}{scope:Scope}{f:Addr}{cd:Aa}{A:Ag}{outer:List Env}{s:Ab}{H:Hp}{E:XK}
end
section
variable{X:Cx}{x:Str}{C f:Addr}{fd:Ad}{ps:ae}{sp:Sp}{k:Nat}{np du pos:Pos}{e:Expr}{es:List Expr}{t:TA}{E:XK}
end
section
variable{X:Cx}{i:Nat}{x n:Str}{D C:Addr}{np GL pos:Pos}{IJ:Stmt}{zD body:List Stmt}{tb:XK->TS}{ts:TS}{rest:List ExceptHandler}
end
section
variable{P:Ae}{w:Af}{K:af}{mg:Str->Option Aa}{base:Heap}{N:ae}{qual:Str}{scope:Scope}{f:Addr}{cd:Aa}{A:Ag}{outer:List Env}{s:Ab}{H:Hp}{E:XK}
end
section
variable{X:Cx}{i:Nat}{x x2 n:Str}{D C D2 C2:Addr}{np GL np2 V0 pos:Pos}{IJ c₀:Stmt}{zD M4 body:List Stmt}{tb:XK->TS}{ts ts2:TS}
end
section
variable{X:Cx}{i:Nat}{x n:Str}{D:Addr}{ok:Addr->Prop}{np GL pos:Pos}{IJ:Stmt}{zD body:List Stmt}{tb:XK->TS}{ts:TS}
end
section
variable{X:Cx}{k:Nat}{ps:ae}{x:Str}{p pos:Pos}{e:Expr}{es:List Expr}{tn:TE}{t:TA}
end
structure Ig (ps dR:ae) (scope:Scope):Prop where
 nd:(ps++dR).Nodup
 kind:scope.kind=.function
 co:scope.isCoroutine=false
 gen:scope.isGenerator=false
 par:∀p∈ps,scope.names.lookup p=some .local
 fv:∀x∈dR,scope.names.lookup x=some .free
 all:∀x,scope.names.lookup x=some .free->x∈dR
 uS:∀x∈scope.names,x.2≠.cell
def DY(CX:xE)(P:Ae)(w:Af)(K:af)(mg:Str->Option Aa)(base:Heap)(N:ae)(qual:Str)(scope:Scope)(f:Addr)(cd:Aa)(cl:List (Str × Addr))(A:Ag)(outer:List Env)(s:Ab)(H:Hp)(E:XK):Cx where
 prog:=P
 w:=w
 K:=K
 mg:=mg
 base:=base
 A:=A.deeper (envX qual scope s.heap.objs.size f cd cl)
 N:=N
 dA:=s
 lX:=H
 env:=envX qual scope s.heap.objs.size f cd cl
 outer:=outer
 stack:=envX qual scope s.heap.objs.size f cd cl::outer
 ex:=[]
 calm:=true
 fn:=λ_=>false
 pn:=[]
 xe:=λe s'=>wpAny (model P w) (A.deeper (envX qual scope s.heap.objs.size f cd cl)) (leaving (envX qual scope s.heap.objs.size f cd cl) e) (λ_ rY=>CX outer H s E e rY) (λe' rY=>CX outer H s E e' rY) s'
theorem X8{x:Str}{u:Aa}:∀{l:List (Str × Aa)},(l.map (·.1)).Nodup->(x,u)∈l->l.lookup x=some u
 |(y,v)::l,nd,h=>by
  let n:=rQ.mp nd;rcases bZ.mp h with e|h
  ·cases e;simp[List.lookup]
  ·have ne:x≠y:=λz=>n.1 (by rw[<- z];exact bj.mpr #[_,h,Z]);have:(x == y)=false:=by simpa using ne
   rw[vW,this];exact X8 n.2 h
theorem WL:∀(ps:ae) (us:ax),((ps.zip us).map (·.1)).Sublist ps
 |[],_=>by simp
 |_::_,[]=>by simp
 |p::ps,u::us=>by
  simp only[List.zip_cons_cons,eL];exact (WL ps us).cons₂ p
variable{ps:ae}{us:ax}{x:Str}
theorem dw_{i:Nat}{u:Aa}(nd:ps.Nodup)(h1:ps[i]? = some x)(h2:us[i]? = some u):(ps.zip us).reverse.lookup x=some u:=by
 apply X8 ?_ (List.mem_reverse.mpr (cw (i:=i) ?_))
 ·rw[List.map_reverse];apply (List.reverse_perm _).nodup_iff.mpr (nd.sublist ?_);exact WL ps us
 ·rw[List.getElem?_zip_eq_some];exact#[h1,h2]
structure Mg (dR:ae) (cl:List (Str × Addr)) (gs:ai) (h:Heap):Prop where
 inj:∀x y c,cl.lookup x=some c->cl.lookup y=some c->x=y
 has:∀x∈dR,∃c,cl.lookup x=some c
 all:∀x c,cl.lookup x=some c->∃v,h.IsCell c v
 is:∀(i:Nat) x v,dR[i]? = some x->gs[i]? = some v->∃c u,cl.lookup x=some c/\RelV v u/\h.IsCell c (some u)
variable{h':Heap}{c:Addr}
theorem IsCell.keeps{h:Heap}{v:Option Aa}(x:h.IsCell c v)(k:∀o,h.get? c=some o->h'.get? c=some o):h'.IsCell c v:=let #[o,e,d]:=x;#[o,k o e,d]
variable{CX:xE}{w:Af}{mg:Str->Option Aa}{base:Heap}{dR:ae}{f:Addr}{cd:Aa}{A:Ag}{outer:List Env}{s:Ab}{E:XK}{gs:ai}
theorem la_{P:Ae}{K:af}{qual:Str}{scope:Scope}{cl:List (Str × Addr)}{H:Hp}{vs:ai}{h1:Heap}{tk:Nat}(S:Ig ps dR scope)(hd:A.handled=none)(e0:jt P w K mg base A outer s H)(hl:vs.length=ps.length)(hg:gs.length=dR.length)(r:Vals vs us)(C:Mg dR cl gs s.heap)(fc:∀x c,cl.lookup x=some c->H c=none)(ns:h1.Ns s.heap.objs.size λx=>(ps.zip us).reverse.lookup x)(k:∀b o,s.heap.get? b=some o->h1.get? b=some o) :
  Inv (DY CX P w K mg base (ps++dR) qual scope f cd cl A outer s H E) [] (vs.map some++gs.map some) H { s with heap:=h1,toks:=tk }:=by
 have yk:∀b:Addr,b∉(DY CX P w K mg base (ps++dR) qual scope f cd cl A outer s H E).ex:=λb z=>absurd (show b∈([]:ay) from z) Z2
 apply#[#[e0.mod,S.kind,Z,Z,bp _,C.inj,λy hy=>?_,λy c h=>(by cases h),λ_=>hd,Around.frames_deeper e0.frames,.inr #[Z,Z],λb z=>absurd z (yk b),e0.bs,e0.vK,λb _ _=>yk b,λb z=>absurd z (yk b),e0.gC,e0.yF],
  rfl,e0.bare,Un.kept k,#[_,ns,λi y v mq h2 h3=>?_],λy c h=>?_,e0.aN.fresh (bp _),fc,λp hp=>absurd (show p∈([]:List (Addr × Obj)) from hp) Z2,e0.aN.kept k,?_]
 ·have hy:scope.names.lookup y=some .cell∨scope.names.lookup y=some .free:=hy;rcases hy with hy|hy
  ·exact absurd Z (S.uS _ (rO hy))
  ·exact C.has y (S.all y hy)
 ·have mq:(ps++dR)[i]? = some y:=mq;by_cases hi:i<ps.length
  ·rw[Dh hi] at mq;rw[Dh (by simpa [hl] using hi),dW] at h2;let#[v',hv,e]:=Dj.mp h2;cases e;let#[u,hu,rv]:=r.get hv;apply#[u,rv,.inl #[S.par y (cw mq),?_]];have KG:ps.Nodup:=(List.nodup_append.mp S.nd).1;show (ps.zip us).reverse.lookup y=some u;exact dw_ KG mq hu
  ·rw[AR Z1] at mq;rw[AR (by simp[hl];omega),dW,ao,hl] at h2;let#[v',hv,e]:=Dj.mp h2;cases e;let#[c,u,e1,rv,ce]:=C.is _ _ _ mq hv;exact#[u,rv,.inr #[.inr (S.fv y (cw mq)),c,e1,IsCell.keeps ce λo e=>k _ _ e]]
 ·let#[v,ce]:=C.all y c h;exact#[v,IsCell.keeps ce λo e=>k _ _ e]
 ·show _=(ps++dR).length;rw[eA,eA,ao,ao,hl,hg]
variable{k:Nat}{c':Addr}
theorem kR_{P:Ae}{K:af}{qual:Str}{params:Arguments}{body:PySem.Expr}{scope:Scope}{pm lE:Aa}{cl:List (Str × Addr)}{H:Hp}{Q:VK}{vs:ai}{t:TE}(S:Ig ps dR scope)(hr:ba (k+1) A)(e0:jt P w K mg base A outer s H)(hf:s.heap.get? f=some (kla_obj "<lambda>" qual params body scope cl pm c' lE))(iQ:s.heap.CodeRec (.ref c') qual)(hb:bindArgs (kla_fn "<lambda>" qual params body scope cl pm (.ref c') lE) #[us,[]]=pure (ps.zip us))(hl:vs.length=ps.length)(hg:gs.length=dR.length)(r:Vals vs us)(C:Mg dR cl gs s.heap)(fc:∀x c,cl.lookup x=some c->H c=none)(ht:ba k (A.deeper (envX qual scope s.heap.objs.size f (.ref c') cl))->PE (DY CX P w K mg base (ps++dR) qual scope f (.ref c') cl A outer s H E) body t)(hq:t (vs.map some++gs.map some) H Q) :
  codeAny (model P w) A (.call (.ref f) #[us,[]]) (CR CX outer P w H s Q E) s:=by
 have lim:s.heap.NoLimit:=e0.mod.nolimit.keeps λb o e=>(e0.bs b o e).1;apply kla_callFunE hr.depth hf Z S.co S.gen Z iQ ?_;rw[hb];apply bV (wpAny_newFunctionEnv S.uS (λx hx=>?_) (λh1 ns sb=>?_) S.kind)
 ·exact S.par x.1 (List.of_mem_zip hx).1
 have k1:∀b o,s.heap.get? b=some o->h1.get? b=some o:=λb o e=>sb.extBut b o (eV (cQ e)) (cU _ e);apply#[lim.keeps k1,?_];show codeAny _ _ (.expr body (envX qual scope s.heap.objs.size f (.ref c') cl)) _ _;let I:=la_ (CX:=CX) (qual:=qual) (f:=f) (cd:=.ref c') (E:=E) (tk:=s.toks+(ps.zip us).length) S hr.hd e0 hl hg r C fc ns k1;apply kla_codeExpr (wpAny_mono (ht (hr.deeper _) [] _ _ H _ I hq) (λv s' hs=>?_) λe s' hs=>hs);let#[x,H',J,rv,q]:=hs;exact#[x,H',J.os,J.bare,J.base,J.aN,rv,q]
def kZ(f:Addr)(qual:Str)(params:Arguments)(body:PySem.Expr)(scope:Scope)(cl:List (Str × Addr))(c':Addr):HO:=.ext λh=>∃pm lE,h.get? f=some (kla_obj "<lambda>" qual params body scope cl pm c' lE)
def yP(c':Addr)(qual:Str):HO:=.ext λh=>∃o vs t,h.get? c'=some o/\o.data=.fields vs/\vs[1]? = some (.str qual t)
inductive zx (P:Addr) (qual:Str) (params:Arguments) (body:PySem.Expr) (scope:Scope) (pos:Pos) (cl:List (Str × Addr)) (H:Hp) (Q:VK):Prop
 |mk:∀ps,H P=some (.tbl ps)->TriplesOk ps.toList->((codeAmong pos ps.toList=none/\∀c' f,H c'=none->H f=none->c'≠f->Q (.ref f) (upd (upd (upd H P (.tbl (ps++(List.toArray [rawInt pos.line,rawInt pos.col,.ref c'])))) c' (yP c' qual)) f (kZ f qual params body scope cl c')))∨∃c',codeAmong pos ps.toList=some (.ref c')/\∀f,H f=none->Q (.ref f) (upd H f (kZ f qual params body scope cl c')))->zx P qual params body scope pos cl H Q
def Fg(P:Addr)(qual:Str)(params:Arguments)(body:PySem.Expr)(scope:Scope)(pos:Pos)(cl:List (Str × Addr)):TE:=λ_ H Q=>zx P qual params body scope pos cl H Q
variable{X:Cx}{pos:Pos}
theorem Vl{params:Arguments}{body:PySem.Expr}{scope:Scope}{cl:List (Str × Addr)}{P:Addr}(Pk:defaultsOf params X.env=([],[]))(yD:closureFor scope X.env=pure cl)(Aj:X.env.code=.ref c)(C:CodeHd X.base c P)(vt:X.base.BuiltinsAt X.mg P) :
  PE X (.Lambda params body scope pos) (Fg P (X.env.qual++"<lambda>") params body scope pos cl):=by
 intro pins s σ H Q I h;let#[ps,hP,ht,h]:=h;have WD:s.heap.get? P=some (tabObj ps):=I.aN P _ hP
 have We:H mainGlobals=none:=by
  let#[o,_,_,e,_]:=I.mod.glob;exact (I.bs _ _ e).2
 apply kla_eval Pk ?_;rcases h with⟨hn,q⟩|⟨c',hf,q⟩
 ·apply kla_makeFunction yD I.ok.glob (I.mod.glob.keeps I.bk) Aj (C.keeps I.bk) WD ht hn (λz=>by rw[z,hP] at We;cases We) (vt.keeps I.bk) λc' lE h' tk hx O7 dz OM VT=>?_;have fz:s.heap.objs.size<=h'.objs.size:=qC O7 (Nat.le_of_lt dz);have nc:H c'=none:=I.aN.fresh O7;have nf:H h'.objs.size=none:=I.aN.fresh fz;have cf:c'≠h'.objs.size:=eV dz;have Pc:P≠c':=bq hP nc;have Pf:P≠h'.objs.size:=bq hP nf
  have old:∀{b u},H b=some u->b≠P->upd (upd (upd H P (.tbl (ps++(List.toArray [rawInt pos.line,rawInt pos.col,.ref c'])))) c' (yP c' (X.env.qual++"<lambda>"))) h'.objs.size (kZ h'.objs.size (X.env.qual++"<lambda>") params body scope cl c') b=some u:=λ{b u} e n=>by
   rw[au (bq e nf),au (bq e nc),au n];exact e
  have uO:∀{b u},H b=some u->(∀ps,u≠.tbl ps)->b≠P:=λ{b u} e n z=>by
   rw[z,hP] at e;cases e;exact n _ Z
  have kp:∀b o,b≠P->s.heap.get? b=some o->(h'.push (kla_obj "<lambda>" (X.env.qual++"<lambda>") params body scope cl ((X.mg "__name__").getD .none) c' lE)).get? b=some o:=λb o n e=>cU _ (hx b o n e);apply#[.ref h'.objs.size,_,I.un (t':=tk) #[λb o e n _ _=>kp b o (λz=>by rw[z,hP] at n;cases n) e,λb o e n _ _=>#[o.slots,kp b o (λz=>by rw[z,hP] at n;cases n) e],λb o e n _=>?_,λb o e _=>?_,λb xs e=>old e (uO e Z2),λb o u e=>old e (uO e Z2),λb qs e=>?_] (λb u e=>?_),Z,q c' h'.objs.size nc nf cf]
  ·let lt:=cQ e;rw[au (eV (kj lt fz)),au (eV (kj lt O7)),au (λz=>by rw[z,hP] at n;cases n)];exact n
  ·by_cases z:b=P
   ·subst z;exact#[_,cU _ VT]
   ·exact#[o,kp b o z e]
  ·by_cases z:b=P
   ·subst z;rw[hP] at e;cases e;exact#[_,by rw[au Pf,au Pc,az]]
   ·exact#[#[],by rw[Array.append_empty];exact old e z]
  ·by_cases z1:b=h'.objs.size
   ·subst z1;rw[az] at e;cases e;exact#[#[_,_,fG _ Z],#[_,fG _ Z],λh1 h2 ⟨pm,cv,e1⟩ k=>#[pm,cv,k _ e1]]
   ·rw[au z1] at e;by_cases z2:b=c'
    ·subst z2;rw[az] at e;cases e;let#[c2,oc,vs,t,ec,GQ,hd,hv]:=OM;cases ec;exact#[#[oc,vs,t,cU _ GQ,hd,hv],#[_,cU _ GQ],λh1 h2 ⟨o,vs,t,e1,r⟩ k=>#[o,vs,t,k _ e1,r]]
    ·rw[au z2] at e;by_cases z3:b=P
     ·subst z3;rw[az] at e;cases e;exact cU _ VT
     ·rw[au z3] at e;apply (I.aN b u e).fe (λd v hd e1=>kp d v ?_ e1) (λd e1=>old e1 (uO e1 Z2)) λd xs e1=>old e1 (uO e1 Z2);rcases hd with rfl|hd
      ·exact z3
      ·exact uO hd Z2
 ·apply kla_makeFunctionHit yD I.ok.glob (I.mod.glob.keeps I.bk) Aj (C.keeps I.bk) WD ht hf (vt.keeps I.bk) λlE h' tk hk hsz=>?_;have nf:H h'.objs.size=none:=I.aN.fresh hsz;apply#[.ref h'.objs.size,_,I.laid (t':=tk) (λb o e=>cU _ (hk b o e)) hsz ?_,Z,q _ nf];exact#[#[_,_,fG _ Z],#[_,fG _ Z],λh1 h2 ⟨pm,cv,e1⟩ k=>#[pm,cv,k _ e1]]
variable{P:Ae}{N:ae}
theorem yf{K:af}{qual:Str}{scope:Scope}{cl:List (Str × Addr)}{H:Hp}:w9 aZ (DY aZ P w K mg base N qual scope f cd cl A outer s H E) E:=λ_ _ _ _ _ _ _ h=>h.elim
section
variable{cs:List (Addr × Obj)}{H H':Hp}{b:Addr}{o:Obj}{u:HO}
variable{P:Ae}{w:Af}{h:Heap}
end
section
variable{X:Cx}{pins:List (Addr × Obj)}{σ:St}{H:Hp}{s s':Ab}{cs:List (Addr × Obj)}
def jF(P:Ae)(w:Af)(K:af)(mg:Str->Option Aa)(base:Heap)(k:Nat)(qual:Str)(params:Arguments)(body:PySem.Expr)(scope:Scope)(ps dR:ae)(sp:ai->ai->Hp->VK->XK->Prop):Prop:=
 ∀(A:Ag) (outer:List Env) (s:Ab) (H:Hp) (f c':Addr) (pm lE:Aa) (cl:List (Str × Addr)) (us:ax) (vs gs:ai) (Q:VK) (E:XK),ba k A->jt P w K mg base A outer s H->s.heap.get? f=some (kla_obj "<lambda>" qual params body scope cl pm c' lE)->s.heap.CodeRec (.ref c') qual->
  vs.length=ps.length->gs.length=dR.length->Vals vs us->Mg dR cl gs s.heap->(∀x c,cl.lookup x=some c->H c=none)->sp vs gs H Q E->codeAny (model P w) A (.call (.ref f) #[us,[]]) (CR aZ outer P w H s Q E) s
theorem zX{K:af}{qual:Str}{params:Arguments}{body:PySem.Expr}{scope:Scope}{sp:ai->ai->Hp->VK->XK->Prop}(S:Ig ps dR scope)(hb:∀pm c' lE cl us,us.length=ps.length->bindArgs (kla_fn "<lambda>" qual params body scope cl pm (.ref c') lE) #[us,[]]=pure (ps.zip us))(gB:∀(A:Ag) (outer:List Env) (s:Ab) (H:Hp) (f:Addr) (cd:Aa) (cl:List (Str × Addr)) (vs gs:ai) (Q:VK) (E:XK),ba k (A.deeper (envX qual scope s.heap.objs.size f cd cl))->sp vs gs H Q E->w9 aZ (DY aZ P w K mg base (ps++dR) qual scope f cd cl A outer s H E) E->
   ∃t,PE (DY aZ P w K mg base (ps++dR) qual scope f cd cl A outer s H E) body t/\t (vs.map some++gs.map some) H Q):!jF (k+1) qual params body scope ps dR sp:=by
 intro A outer s H f c' pm lE cl us vs gs Q E hr e0 hf iQ hl hg r C fc mi;let#[t,ht,hq]:=gB A outer s H f (.ref c') cl vs gs Q E (hr.deeper _) mi yf;exact kR_ S hr e0 hf iQ (hb pm c' lE cl us (by rw[<- r.length];exact hl)) hl hg r C fc (λ_=>ht) hq
end
structure MB (dR:ae) (cl:List (Str × Addr)) (cs:List (Addr × Obj)) (gs:ai):Prop where
 len:gs.length=dR.length
 inj:∀x y c,cl.lookup x=some c->cl.lookup y=some c->x=y
 has:∀x∈dR,∃c,cl.lookup x=some c
 all:∀x c,cl.lookup x=some c->∃o v,cs.lookup c=some o/\o.data=.cell v
 is:∀(i:Nat) x v,dR[i]? = some x->gs[i]? = some v->∃c o u,cl.lookup x=some c/\cs.lookup c=some o/\o.data=.cell (some u)/\RelV v u
section
variable{X:Cx}{k:Nat}{x:Str}{p pos:Pos}{tn:TE}{qual:Str}{params:Arguments}{body:PySem.Expr}{scope:Scope}{dR ps:ae}{sp':ai->ai->Hp->VK->XK->Prop}{E:XK}
end
section
variable{X:Cx}{k:Nat}{x:Str}{p pos:Pos}{e:PySem.Expr}{es:List PySem.Expr}{ta:TA}{dR ps:ae}{sp:Sp}{f:Addr}{fd:Ad}{cl:List (Str × Addr)}{is:List Nat}
end
variable{a:Addr}{ts:ay}{fd:Ad}
theorem iG_{K:af}{mb:Str->Option Aa}{fa:Addr}{sp:Sp}{bf:Ab}{vs:ax}{ns:List Int}(hT:∀T∈ts,K.lookup T=none)(eT:∀T∈ts,bf.heap.get? T=some (tabObj #[]))(Hh:∀T∈ts,isCodeTable bf.heap T)(KX:K.In bf.heap)(BW:bf.heap.Ns mainGlobals mg)(hb:bf.heap.Ns builtinsNs mb)(hbb:∀x:Str,x≠"__name__"->mb x=bootBuiltins x)(OX:bf.heap.NoLimit)(hg:bf.gens=#[])(ha:bf.heap.get? a=some { cls:=.type "list",data:=.seq vs.toArray })(hi:IntsAre vs ns)(hl:ns.length<=sizeLine)(hr:ba k callerA)(vt:∃bm ob,mg "__builtins__"=some (.ref bm)/\bm≠builtinsNs/\bf.heap.get? bm=some ob/\ob.cls=.type "module"/\ob.dict=some builtinsNs/\ob.data=.plain)(F:∀base:Heap,K.In base->base.Ns mainGlobals mg->(∀T∈ts,base.BuiltinsAt mg T)->!aj CX k fa fd [x] sp)(Hi:∀(s:Ab) (u:Aa),BindsTo s fd #[[u],[]] [(x,u)])(mi:∀H:Hp,(∀T∈ts,H T=some (.tbl #[]))->eG K H a (ns.map V.int)->sp [.ref a] H (λv _=>v=.bl true) λ_ _ _=>False)(PF:∀H e s',CX [] H bf (λ_ _ _=>False) e s'->False) :
  codeAny (model P w) callerA (.call (.ref fa) #[[.ref a],[]]) (λr s'=>r=.ok (.ret (.bool true))/\OldK bf.heap s'.heap/\s'.os=bf.os/\AllBare s'.gens) bf:=by
 let rv:=X3 hi;let Oh:=hi.length
 have aT:∀{b},b∈ts->b≠a:=λ{b} hb z=>by
  have:=eT b hb;rw[z,ha] at this;cases this
 have core:∀H:Hp,(∀b,H b=none∨(b∈ts/\H b=some (.tbl #[]))∨(b∉ts/\∃o xs,H b=some (.frz o (.lst xs))))->(∀T∈ts,H T=some (.tbl #[]))->eG K H a (ns.map V.int)->gx P w H bf.heap->(∀b,H b≠none->b=a∨b∈ts)->(H a≠none->K.lookup a=none)->
   codeAny (model P w) callerA (.call (.ref fa) #[[.ref a],[]]) (λr s'=>r=.ok (.ret (.bool true))/\OldK bf.heap s'.heap/\s'.os=bf.os/\AllBare s'.gens) bf:=by
  intro H hO hHT hS aN hA hK;have jW:∀{b:Addr} {o:Obj},bf.heap.get? b=some o->H b=none->(jh bf.heap H).get? b=some o:=λe n=>jR_ e n
  have yk:∀{b:Addr} {o:Obj} {es:Array DictEntry} {ep:Nat},bf.heap.get? b=some o->o.data=.dict es ep->H b=none:=λ{b o es ep} e d=>by
   cases q:H b with
   |none=>rfl
   |some u=>
    rcases hA b (by rw[q];simp) with e'|e'
    ·subst e';rw[ha] at e;cases e;have d':Data.seq vs.toArray _=Data.dict es ep:=d;cases d'
    ·rw[eT b e'] at e;cases e;cases d
  have KD:∀{b:Addr} {m:Str->Option Aa},bf.heap.Ns b m->(jh bf.heap H).Ns b m:=λ{b m} ⟨o,es,ep,e,d,r⟩=>#[o,es,ep,jW e (yk e d),d,r]
  have WH:K.In (jh bf.heap H):=λb o e=>jW (KX b o e) (by
   cases q:H b with
   |none=>rfl
   |some u=>
    rcases hA b (by rw[q];simp) with e'|e'
    ·subst e';rw[hK (by rw[q];simp)] at e;cases e
    ·rw[hT b e'] at e;cases e)
  have hB:∀T∈ts,(jh bf.heap H).BuiltinsAt mg T:=λT hTs=>by
   let#[bm,ob,h1,h2,h3,h4,h5,h6]:=vt
   have n1:bm≠mainGlobals:=λz=>by
    let#[o,es,ep,e,d,_]:=BW;rw[z,e] at h3;cases h3;rw[d] at h6;cases h6
   have n2:∀{b},b∈ts->bm≠b:=λ{b} hb z=>by
    rw[z,eT b hb] at h3;cases h3;cases h6
   apply#[bm,ob,h1,h2,n1,n2 hTs,jW h3 ?_,h4,h5,h6];cases q:H bm with
   |none=>rfl
   |some u=>
    rcases hA bm (by rw[q];simp) with e'|e'
    ·subst e';rw[ha] at h3;cases h3;cases h6
    ·exact absurd Z (n2 e')
  have hM:Mod K mg (jh bf.heap H):=#[WH,KD BW,#[mb,KD hb,hbb],let #[mc,h1,h2]:=OX;#[mc,KD h1,h2]];have e0:jt P w K mg (jh bf.heap H) callerA [] bf H:=#[Z,hM,λb o e=>lo_ e,Nat.le_of_eq (iF_ _ _),trivial,λb hb=>absurd (show b∈([]:ay) from hb) Z2,aN,.of_eq hg];apply codeAny_mono ((F _ WH (KD BW) hB).run callerA [] bf H #[[.ref a],[]] [.ref a] [.ref a] _ _ hr e0 (Hi bf (.ref a)) (.cons Z .nil) (mi H hHT hS)) λr s' h=>?_;cases r with
  |error e=>exact (PF H e s' h).elim
  |ok fl=>
   cases fl with
   |next=>exact False.elim h
   |brk=>exact False.elim h
   |cont=>exact False.elim h
   |ret u=>
    let#[v,H',os,bare,un,GO,r',q]:=h;have q':v=.bl true:=q;subst q';obtain rfl:u=Value.bool true:=r'
    have main:∀b o,bf.heap.get? b=some o->s'.heap.get? b=some o∨(b∈ts/\o=tabObj #[]/\∃more,s'.heap.get? b=some (tabObj (#[]++more))):=λb o e=>by
     cases q:H b with
     |none=>exact .inl (un.keep b o e q (by intro z;exact absurd (show b∈([]:ay) from z) Z2) Z2)
     |some u=>
      rcases hO b with z|⟨zT,z⟩|⟨_,ob,xs,z⟩
      ·rw[q] at z;cases z
      ·rw[eT b zT] at e;cases e;let#[more,z]:=un.jb b _ z;exact .inr #[zT,Z,more,GO b _ z]
      ·let z2:=un.ig b ob _ z;let#[e1,_]:=aN b _ z;let#[e2,_]:=GO b _ z2;rw[e] at e1;cases e1;exact .inl e2
    apply#[Z,#[λb o e=>?_,λb o e=>?_],os,bare]
    ·rcases main b o e with z|⟨zT,rfl,more,z⟩
     ·exact .inl z
     ·exact .inr (.inl #[Hh b zT,Z,_,_,Z,z])
    ·rcases main b o e with z|⟨_,_,more,z⟩
     ·exact#[_,z]
     ·exact#[_,z]
 cases hk:K.lookup a with
 |some o=>
  let e:=KX a o hk;rw[ha] at e;cases e;apply core (λb=>if b∈ts then some (.tbl #[]) else none) (λb=>?_) (λT h=>aA h) (.inr #[_,vs.toArray,_,hk,Z,Z,Z,by rw[dQ,Oh];exact hl,by simpa using rv]) (λb u z=>?_) (λb z=>?_) λz=>absurd (aq λq=>aT q Z) z
  ·by_cases hb:b∈ts
   ·exact .inr (.inl #[hb,aA hb])
   ·exact .inl (aq hb)
  ·by_cases hb:b∈ts
   ·let z':=(aA hb).symm.trans z;cases z';exact eT b hb
   ·let z':=(aq hb).symm.trans z;cases z'
  ·by_cases hb:b∈ts
   ·exact .inr hb
   ·exact absurd (aq hb) z
 |none=>
  have T2:∀{b:Addr},b∈ts->(λb=>if b∈ts then some (.tbl #[]) else if b=a then some (HO.frz { cls:=.type "list",data:=.seq vs.toArray } (.lst (ns.map V.int))) else none) b=some (.tbl #[]):=λ{b} hb=>aA hb;apply core (λb=>if b∈ts then some (.tbl #[]) else if b=a then some (.frz { cls:=.type "list",data:=.seq vs.toArray } (.lst (ns.map V.int))) else none) (λb=>?_) (λT h=>aA h) (.inl (.inr #[{ cls:=.type "list",data:=.seq vs.toArray },(aq λq=>aT q Z).trans (aA Z)])) (λb u z=>?_) (λb z=>?_) λ_=>hk
  ·by_cases qk:b∈ts
   ·exact .inr (.inl #[qk,aA qk])
   ·by_cases hb:b=a
    ·exact .inr (.inr #[qk,_,_,(aq qk).trans (aA hb)])
    ·exact .inl ((aq qk).trans (aq hb))
  ·by_cases qk:b∈ts
   ·let z':=(aA qk).symm.trans z;cases z';exact eT b qk
   ·by_cases hb:b=a
    ·let z':=((aq qk).trans (aA hb)).symm.trans z;cases z';subst hb;exact#[ha,by rw[ao];exact hl,vs,_,rv,ha]
    ·let z':=((aq qk).trans (aq hb)).symm.trans z;cases z'
  ·by_cases qk:b∈ts
   ·exact .inr qk
   ·by_cases hb:b=a
    ·exact .inl hb
    ·exact absurd ((aq qk).trans (aq hb)) z
variable{T:Addr}
theorem gx_{K:af}(h:T∉K.map (·.1)):K.lookup T=none:=by
 induction K with
 |nil=>rfl
 |cons p K ih=>
  let#[b,o]:=p;simp only[eL,bZ,not_or] at h;rw[vW,show (T == b)=false by simpa using h.1];exact ih h.2
variable{n:Nat}
theorem sS{l:PySem.W.OpenLaw}{q:Ae}{loose:ae}{XP:(Str->Option Aa)->Heap->Prop}{d:DefRec}{K:Params->af}{as:ay}{Lq:∀P:Params,as=(K P).map (·.1)}{CX:Af->xE}{sp:Af->Sp}(hn:l.most=some n)(BX:n<=sizeLine)(k_:d.params.defaults=[])(hr:ba k callerA)(OI:(ts.all λT=>!as.contains T)=true)(F:∀(w:Af) (mg:Str->Option Aa) (fa:Addr) (h:Heap),(K w.params).In h->h.Ns mainGlobals mg->mg d.name=some (.ref fa)->
   ∃fd:Ad,(∀(s:Ab) (u:Aa),BindsTo s fd #[[u],[]] [(x,u)])/\(∀T∈ts,isCodeTable h T) /\
    ∀base:Heap,(K w.params).In base->base.Ns mainGlobals mg->(∀T∈ts,base.BuiltinsAt mg T)->aj l.prog w (K w.params) mg base (CX w) k fa fd [x] (sp w))(mi:∀(w:Af) (H:Hp) (a:Addr) (ns:List Int),ns.length<=n->(∀T∈ts,H T=some (.tbl #[]))->eG (K w.params) H a (ns.map V.int)->sp w [.ref a] H (λv _=>v=.bl true) λ_ _ _=>False)(PF:∀(w:Af) (H:Hp) (s:Ab) (e:Aa) (s':Ab),CX w [] H s (λ_ _ _=>False) e s'->False) :
  PySem.W.WalkO q loose XP (kmHook K as Lq ts).says l.row.toRowW d [] (λf vs=>PySem.call f vs):=by
 apply ZO.lK hn k_ λw dA bf mg mb fa o pm cd doc a vs ns G Y ho hd iQ hmg BU hints hlen hg=>?_;have KX:(K w.params).In bf.heap:=km_in_of Y;have eT:∀T∈ts,bf.heap.get? T=some (tabObj #[]):=Y.2;let#[fd,hb,Hh,hF]:=F w mg fa _ KX G.T.g hmg;apply iG_ (λT h=>gx_ ?_) eT Hh KX G.T.g G.T.b G.T.builtins G.T.nolimit hg BU hints (qC hlen BX) hr G.T.bmain hF hb (λH hO hS=>mi w H a ns hlen hO hS) λH e s'=>PF w H bf e s';have:=List.all_eq_true.mp OI T h;rw[<- Lq w.params];simpa using this
open PySem.W in
def oQ:List (Pos × Addr)->ax
 |[]=>[]
 |(p,c)::es=>rawInt p.line::rawInt p.col::.ref c::oQ es
def ee(H:Hp)(T:Addr)(qual:Str):Prop:=∃es:List (Pos × Addr),H T=some (.tbl (oQ es).toArray)/\∀e∈es,H e.2=some (yP e.2 qual)
variable{H':Hp}
theorem ee.same{H:Hp}{qual:Str}(s:aa H H')(h:ee H T qual):ee H' T qual:=by
 let#[es,a,b]:=h;exact#[es,s _ _ a,λe he=>s _ _ (b e he)]
theorem Xx:∀es:List (Pos × Addr),TriplesOk (oQ es)
 |[]=>trivial
 |(p,c)::es=>by
  have:=Xx es;simp[oQ,TriplesOk,rawInt,this]
theorem XU:∀(es:List (Pos × Addr)) (p:Pos) (c:Addr),oQ (es++[(p,c)])=oQ es++[rawInt p.line,rawInt p.col,.ref c]
 |[],p,c=>rfl
 |(p',c')::es,p,c=>by
  show rawInt p'.line::rawInt p'.col::.ref c'::oQ (es++[(p,c)])=_;rw[XU es p c];rfl
theorem Y9(pos:Pos):∀es:List (Pos × Addr),codeAmong pos (oQ es)=none∨∃e∈es,codeAmong pos (oQ es)=some (.ref e.2)
 |[]=>.inl Z
 |(p,c)::es=>by
  by_cases h:codeAmong pos (oQ ((p,c)::es))=some (.ref c)
  ·exact .inr #[(p,c),cZ,h]
  ·have e:codeAmong pos (oQ ((p,c)::es))=codeAmong pos (oQ es):=by
    show codeAmong pos (rawInt p.line::rawInt p.col::.ref c::oQ es)=_;have h:¬codeAmong pos (rawInt p.line::rawInt p.col::.ref c::oQ es)=some (.ref c):=h;simp only[codeAmong,rawInt] at h ⊢;split at h
    ·exact absurd Z h
    ·rename_i q
     rw[aq q]
   rcases Y9 pos es with q|⟨x,hx,q⟩
   ·exact .inl (e.trans q)
   ·exact .inr #[x,dI _ hx,e.trans q]
open Kf
variable{E:Aa->Ab->Prop}{B:Ag}{H0:Hp}{kf:V->aM}
section
variable{X:Cx}{pins:List (Addr × Obj)}{σ:St}{H:Hp}{s:Ab}
theorem Inv.A2{t':Nat}{fp:ay}{ys:ai}{its:ax}(I:Inv X pins σ H s)(k:∀b o,b∉fp->s.heap.get? b=some o->h'.get? b=some o)(hf:∀b∈fp,dH X pins H b)(hT:T∈fp)(hz:ys.length<=sizeLine)(r:Vals ys its)(ht:h'.get? T=some { cls:=.type "list",data:=.seq its.toArray n }):Inv X pins σ (upd H T (.lst ys)) { s with heap:=h',toks:=t' }:=by
 have fT:H T=none:=(hf T hT).1;have nf:∀b u,H b=some u->b∉fp:=λb u e hb=>by rw[(hf b hb).1] at e;cases e
 have old:∀{b u},H b=some u->upd H T (.lst ys) b=some u:=λe=>by rw[au (bq e fT)];exact e
 apply I.step (g':=s.gens) (d':=s.drawn) (ch:=fp) (λb hb=>?_) (λb o _ _ hc e _=>k b o hc e) (λb o _ _ hc e _=>#[o.slots,k b o hc e]) (λb o hc e n=>?_)
  (λb o hc e=>#[o,k b o hc e]) (λb ys e=>old e) (λb o u e=>old e) (λb ps e=>#[#[],by rw[Array.append_empty];exact old e]) (λm hm=>?_) (λb u e=>?_) I.bare
 ·let#[f0,f1,f2,f3,f4,f5]:=hf b hb;exact#[f3,f1,f4,f5]
 ·rw[au (λz=>hc (by rw[z];exact hT))];exact n
 ·let#[o,es,ep,ho,r]:=hm;exact#[o,es,ep,k _ o (λhb=>(hf _ hb).2.1 Z) ho,r]
 ·by_cases z:b=T
  ·subst z;rw[az] at e;cases e;exact#[hz,its,n,r,ht]
  ·rw[au z] at e;apply (I.aN b u e).fe (λc v hc q=>k c v ?_ q) (λ_ q=>old q) λ_ _ q=>old q;rcases hc with z|z
   ·rw[z];exact nf b u e
   ·exact nf c _ z
theorem dH.at{b:Addr}(f:dH X pins H b)(n:H' b=none):dH X pins H' b:=#[n,f.2]
def qP(X:Cx)(σ:St)(B:Ag)(fv:Aa)(H0:Hp)(kf:V->aM)(xs:ai):Prop:=
 ∀(pins:List (Addr × Obj)) (H:Hp) (s:Ab) (x:V) (u:Aa),Inv X pins σ H s->aa H0 H->x∈xs->RelV x u->
  wpAny (model X.prog X.w) B (call fv [u]) (EP X pins σ λv H'=>aa H H'/\∃t,v=.ref t/\H' t=some (.tup ((kf x).map kV))) (λ_ _=>False) s
theorem kL_{fv:Aa}{kS:Addr}{e1:Nat}{all:ai}{Q:PUnit->Ab->Prop}{body:Aa->PUnit->Sem (ForInStep PUnit)}(rB:a≠kS)(lI:qP X σ B fv H0 kf all)(hb:∀(u:Aa) (s:Ab) (Qb:ForInStep PUnit->Ab->Prop),wpAny (model X.prog X.w) B (call fv [u]) (λk s'=>wpAny (model X.prog X.w) B (Builtin.List.listUpdate (.ref kS) (·.push k)) (λ_ rY=>Qb (.yield ⟨⟩) rY) E s') (λ_ _=>False) s->wpAny (model X.prog X.w) B (body u ⟨⟩) Qb E s) :
  ∀(xs:ai) (us:ax) (ks:ai) (kvs:ax) (kk:List aM) (H:Hp) (s:Ab) (c:Nat),Vals xs us->(∀x∈xs,x∈all)->Inv X pins σ H s->aa H0 H->dH X pins H a->dH X pins H kS->s.heap.get? a=some (seqObj "list" #[] e1)->s.heap.get? kS=some (seqObj "list" kvs.toArray c)->
   Vals ks kvs->bg X.K H ks kk->kvs.length+us.length<64->
   (∀H' s' fZ c',Inv X pins σ H' s'->aa H0 H'->dH X pins H' a->dH X pins H' kS->s'.heap.get? a=some (seqObj "list" #[] e1)->s'.heap.get? kS=some (seqObj "list" fZ.toArray c')->fZ.length=kvs.length+us.length->(∃uV,Vals uV fZ/\bg X.K H' uV (kk++xs.map kf))->Q ⟨⟩ s')->
   wpAny (model X.prog X.w) B (forIn us PUnit.unit body) Q E s:=by
 intro xs
 induction xs with
 |nil=>
  intro us ks kvs kk H s c rv _ I sm fa fk ha hk r t _ q;cases rv;rw[List.forIn_nil];exact bV (q H s kvs c I sm fa fk ha hk Z2 #[ks,r,by simpa using t])
 |cons x xs ih=>
  intro us ks kvs kk H s c rv hx I sm fa fk ha hk r t hz q
  obtain⟨u,us,rfl,ru,rr⟩:∃u TL,us=u::TL/\RelV x u/\Vals xs TL:=by
   cases rv with
   |cons h t=>exact#[_,_,Z,h,t]
  rw[List.forIn_cons];rw[iW] at hz;apply aO (hb u s _ ?_)
  have hf:∀b∈[a,kS],dH X pins H b:=λb hb=>by
   rcases bZ.mp hb with rfl|hb
   ·exact fa
   ·obtain rfl:b=kS:=by simpa using hb
    exact fk
  let I1:=I.pinned (fp:=[a,kS]) hf (λb hb=>by
   rcases bZ.mp hb with rfl|hb
   ·exact#[_,ha,λv z=>by cases z]
   ·obtain rfl:b=kS:=by simpa using hb
    exact#[_,hk,λv z=>by cases z])
  apply wpAny_mono (lI _ H s x u I1 sm (hx x cZ) ru) (λk s1 ⟨v,H1,J,rv,Kx,tk,ev,etk⟩=>?_) λ_ _ z=>z
  have pa:(a,seqObj "list" #[] e1)∈yS [a,kS] s.heap:=by
   unfold yS;exact yZ.mpr #[a,by simp,by rw[ha];rfl]
  have pk:(kS,seqObj "list" kvs.toArray c)∈yS [a,kS] s.heap:=by
   unfold yS;exact yZ.mpr #[kS,by simp,by rw[hk];rfl]
  let#[Pu,na1,_]:=J.pin _ (o4 _ (o4 _ pa));let#[K0,nk1,_]:=J.pin _ (o4 _ (o4 _ pk));have Pu:s1.heap.get? a=some (seqObj "list" #[] e1):=Pu;have K0:s1.heap.get? kS=some (seqObj "list" kvs.toArray c):=K0;let J0:=J.e_;let fa1:=fa.at (H':=H1) na1;let Xr:=fk.at (H':=H1) nk1;have DD:kvs.length<64:=by omega
  apply listUpdate_at K0 Z ?_ (by rw[dQ,b_];omega) (qC (Nat.le_of_eq (Array.size_push ..)) (by rw[dQ,b_];omega));have FU:∀b o,b∉[kS]->s1.heap.get? b=some o->(s1.heap.update kS (Obj.mapSeq (·.push k))).get? b=some o:=λb o hb e=>(w_ _ _ (λz=>hb (by simp[z]))).trans e;have ea:kvs.toArray.push k=(kvs++[k]).toArray:=by simp
  obtain⟨c2,DO⟩:∃c2,(s1.heap.update kS (Obj.mapSeq (·.push k))).get? kS=some (seqObj "list" (kvs++[k]).toArray c2):=#[_,by rw[<- ea];exact get?_update_seq K0 (·.push k)]
  have I2:Inv X pins σ H1 { s1 with heap:=s1.heap.update kS (Obj.mapSeq (·.push k)) }:=J0.jG (t':=s1.toks) (fp:=[kS]) FU (λb hb=>by
   obtain rfl:b=kS:=by simpa using hb
   exact Xr)
  subst ev;apply ih us (ks++[.ref tk]) (kvs++[k]) (kk++[kf x]) H1 _ c2 rr (λy hy=>hx y (dI _ hy)) I2 (sm.trans Kx) fa1 Xr ?_ DO (r.append (.cons rv .nil)) ?_ (by rw[eA,Di];omega) λH' s' fZ c' a1 a2 a3 a4 a5 a6 a7 a8=>?_
  ·exact FU a _ (by simpa using rB) Pu
  ·exact Paired.snoc (t.same Kx) #[tk,Z,etk]
  ·apply q H' s' fZ c' a1 a2 a3 a4 a5 a6 (by rw[a7,eA,Di,iW];omega) ?_;let#[uV,b1,b2]:=a8;exact#[uV,b1,by simpa using b2]
end
variable{xs:ai}
variable{sh:List Bool}
section
variable{X:Cx}{pins:List (Addr × Obj)}{σ:St}{H:Hp}{s:Ab}{B:Ag}
theorem le_{zs:ai}{p:Array Nat}(g:Good xs.length p)(up:Up (λi j=>bE ((xs.map kf).getD i []) ((xs.map kf).getD j [])) p xs.length)(ez:zs=p.toList.map λi=>xs.getD i .non):zs.Perm xs/\zs.map kf=aU (xs.map kf):=by
 have gk:Good (xs.map kf).length p:=by rw[ao];exact g
 let asc:=P_ (ks:=xs.map kf) (λi j _ _=>rfl) gk (by rw[ao];exact up)
 have perm:(p.toList.map λi=>(xs.map kf).getD i []).Perm (xs.map kf):=by
  have:=IM gk λi=>(xs.map kf).getD i [];rwa [IS] at this
 let es:=LR perm asc;apply#[?_,?_]
 ·have:=IM (n:=xs.length) g λi=>xs.getD i .non;rw[IS] at this;rw[ez];exact this
 ·rw[<- es,ez,cm];apply rV λi hi=>?_;have m:i∈(List.range xs.length).toArray:=g.mem_iff.mp (by simpa using hi);have m:i<xs.length:=by simpa using m
  show kf (xs.getD i .non)=(xs.map kf).getD i [];simp[List.getD,m]
theorem hm_{P:PySem.Fin->Ab->Prop}(I:Inv X pins σ H s)(fa:dH X pins H a)(ho:s.heap.get? a=some (seqObj "list" us.toArray n))(r:Vals xs us)(dk:us.length<64)(al:Au (xs.map kf) sh)(lI:qP X σ B (.ref f) H kf xs)(h:∀zs H' s',Inv X pins σ (upd H' a (.lst zs)) s'->aa H H'->H' a=none->zs.Perm xs->zs.map kf=aU (xs.map kf)->P (.done (.ret .none)) s'):wpAny (model X.prog X.w) B (ksk_tree a (.ref f) false) P E s:=by
 let lx:=r.length;obtain⟨e1,DJ⟩:∃e1,(s.heap.update a (Obj.mapSeq λ_=>(#[]:Array Aa))).get? a=some (seqObj "list" #[] e1):=#[_,get?_update_seq ho λ_=>#[]];have FU:∀b o,b∉[a]->s.heap.get? b=some o->(s.heap.update a (Obj.mapSeq λ_=>(#[]:Array Aa))).get? b=some o:=λb o hb e=>(w_ _ _ (λz=>hb (by simp[z]))).trans e
 have I1:Inv X pins σ H { s with heap:=s.heap.update a (Obj.mapSeq λ_=>(#[]:Array Aa)) }:=I.jG (t':=s.toks) (fp:=[a]) FU (λb hb=>by
  obtain rfl:b=a:=by simpa using hb
  exact fa)
 unfold ksk_tree;apply aO (listItems_at ho Z ?_);apply aO (listUpdate_at ho Z ?_ (by rw[dQ,b_];omega) (gG _));apply aO (seqEpoch_at DJ Z ?_);apply aO (wpAny_newTuple ?_ (by show us.length<=_;rw[b_];omega));apply aO (wpAny_newList ?_ (gG _));apply wpAny_holding ?_;have I2:Inv X pins σ H { s with heap:=(s.heap.update a (Obj.mapSeq λ_=>(#[]:Array Aa))).push (seqObj "tuple" us.toArray 0) }:=I1.kept (t':=s.toks) λb u e=>cU _ e;have I3:Inv X pins σ H { s with heap:=((s.heap.update a (Obj.mapSeq λ_=>(#[]:Array Aa))).push (seqObj "tuple" us.toArray 0)).push (seqObj "list" #[] 0) }:=I2.kept (t':=s.toks) λb u e=>cU _ e;have fk:dH X pins H ((s.heap.update a (Obj.mapSeq λ_=>(#[]:Array Aa))).push (seqObj "tuple" us.toArray 0)).objs.size:=I2.jT (bp _) (I2.aN.fresh (bp _));have sr:(((s.heap.update a (Obj.mapSeq λ_=>(#[]:Array Aa))).push (seqObj "tuple" us.toArray 0)).push (seqObj "list" #[] 0)).get? a=some (seqObj "list" #[] e1):=cU _ (cU _ DJ);have O3:(((s.heap.update a (Obj.mapSeq λ_=>(#[]:Array Aa))).push (seqObj "tuple" us.toArray 0)).push (seqObj "list" #[] 0)).get? ((s.heap.update a (Obj.mapSeq λ_=>(#[]:Array Aa))).push (seqObj "tuple" us.toArray 0)).objs.size=some (seqObj "list" #[] 0):=fG _ Z;have rB:a≠((s.heap.update a (Obj.mapSeq λ_=>(#[]:Array Aa))).push (seqObj "tuple" us.toArray 0)).objs.size:=eV (cQ (cU (seqObj "tuple" us.toArray 0) DJ));show wpAny (model X.prog X.w) B (ksk_rest a (.ref f) false us.toArray e1 (.ref ((s.heap.update a (Obj.mapSeq λ_=>(#[]:Array Aa))).push (seqObj "tuple" us.toArray 0)).objs.size)) P E { s with heap:=((s.heap.update a (Obj.mapSeq λ_=>(#[]:Array Aa))).push (seqObj "tuple" us.toArray 0)).push (seqObj "list" #[] 0) };generalize ((s.heap.update a (Obj.mapSeq λ_=>(#[]:Array Aa))).push (seqObj "tuple" us.toArray 0)).objs.size=kS at fk O3 rB ⊢;generalize ((s.heap.update a (Obj.mapSeq λ_=>(#[]:Array Aa))).push (seqObj "tuple" us.toArray 0)).push (seqObj "list" #[] 0)=h3 at I3 sr O3 ⊢;clear I2 I1 FU;unfold ksk_rest;apply aO (wpAny_rule ?_);rw[List.forIn_toArray];apply aO (kL_ (pins:=pins) (E:=E) (e1:=e1) rB lI (λu s4 Qb hq=>?_) xs us [] [] [] H _ 0 r (λx hx=>hx) I3 (aa.refl H) fa fk sr O3 .nil .nil (by simpa using dk) λH5 s5 kvs c5 I5 sm5 Xu fk5 ha5 V7 lk ⟨ks,rk,tk⟩=>?_)
 ·apply aO (wpAny_attempt (wpAny_mono hq (λk rY hk=>?_) λ_ _ hF=>hF.elim));exact aO (wpAny_mono hk (λ_ s6 h6=>bV h6) λ_ _ z=>z)
 rw[List.nil_append] at tk;rw[sL,Nat.zero_add] at lk;apply aO (listItems_at V7 Z ?_)
 have tail:∀(p:Array Nat) (st:SortSt),Good xs.length p->Up (λi j=>bE ((xs.map kf).getD i []) ((xs.map kf).getD j [])) p xs.length->(arrOf st).map (·.2)=(oR p us).toArray->failedOf st=none->wpAny (model X.prog X.w) B (ksk_tail a false e1 (.ref kS) st) P E s5:=λp st g up OQ Hd=>by
  have gu:Good us.length p:=by rw[<- lx];exact g
  have hz:(oR p us).length=us.length:=by
   unfold oR;rw[ao,sN];exact gu.size
  let s1:=Heap.SameBut.update s5.heap kS (Obj.mapSeq λ_=>(#[]:Array Aa));have Hk:(s5.heap.update kS (Obj.mapSeq λ_=>(#[]:Array Aa))).get? a=some (seqObj "list" #[] e1):=(w_ _ _ (Ne.symm rB)).trans ha5;unfold ksk_tail;dsimp only;rw[OQ];apply aO (listUpdate_at V7 Z ?_ (by rw[dQ,b_];omega) (gG _));apply aO (wpAny_letGo ?_);apply aO (seqEpoch_at Hk Z ?_);simp only[zf,if_false];apply aO (listUpdate_at Hk Z ?_ (gG _) (by rw[dQ,hz,b_];omega));rw[Hd];simp only[bne_self_eq_false,zf,if_false]
  have zl:(p.toList.map λi=>xs.getD i .non).length<=sizeLine:=by
   rw[ao,sN,g.size,b_];omega
  let#[pz,ek]:=le_ (zs:=p.toList.map λi=>xs.getD i .non) g up Z;apply bV (h _ H5 _ (I5.A2 (t':=s5.toks) (fp:=[a,kS]) (T:=a) (λb o hb e=>?_) (λb hb=>?_) Z2 zl (RG r gu) (get?_update_seq Hk _)) sm5 Xu.1 pz ek)
  ·have n1:b≠a:=λz=>hb (by simp[z]);have n2:b≠kS:=λz=>hb (by simp[z]);exact (w_ _ _ (Ne.symm n1)).trans ((w_ _ _ (Ne.symm n2)).trans e)
  ·rcases bZ.mp hb with rfl|hb
   ·exact Xu
   ·obtain rfl:b=kS:=by simpa using hb
    exact fk5
 unfold ksk_end;dsimp only;simp only[zf,if_false];by_cases h2:us.toArray.size<2
 ·rw[aA h2,aA h2];apply aO (bV ?_);rw[StateT.run_pure];apply aO (bV (tail (List.range xs.length).toArray _ (Array.Perm.refl _) (λi j oI hj=>?_) ?_ Z))
  ·have e:i=j:=by
    simp only[dQ] at h2;omega
   subst e;exact EI _
  ·show ((kvs.toArray.zip us.toArray).map λx:Keyed=>x.2)=_;rw[show xs.length=us.length from lx,YV];apply Array.ext' ?_;simp[List.map_snd_zip,lk]
 ·rw[aq h2,aq h2]
  have j7:2<=us.length:=by
   simp only[dQ] at h2;omega
  let#[κ,hk,hc]:=XW (A:=B) (s':=s5) I5 rk tk al Z1 (λ_ _ e=>e);apply aO (wpAny_mono (hk (λk s'=>k=κ/\s'=s5) #[Z,Z]) (λk s7 G2=>?_) λ_ _ x=>x.elim);let#[rfl,rfl]:=G2;have O:Ord (λi j=>bE ((xs.map kf).getD i []) ((xs.map kf).getD j [])):=Qz _
  apply aO (wpAny_mono (kat_run (ks:=kvs) (vs:=us) (G:=λp s'=>s'=s7/\Good us.length p/\Up (λi j=>bE ((xs.map kf).getD i []) ((xs.map kf).getD j [])) p us.length)
   (Q:=λfJ s'=>∃p:Array Nat,arrOf fJ=p.map (kas_item (kvs.toArray.zip us.toArray))/\failedOf fJ=none/\s'=s7/\Good us.length p/\Up (λi j=>bE ((xs.map kf).getD i []) ((xs.map kf).getD j [])) p us.length)
   lk j7 dk (λp fJ s' _ q1 q2 q3=>#[p,q1,q2,q3]) (Ok.wp (n:=us.length) (λi j C hi hj=>hc i j C Z1 Z1) (λp q=>#[Z,q]) (Vy O Z1))) ?_ λ_ _ x=>x)
  rintro⟨⟨⟩,fJ⟩ s' ⟨p,Pr,hf,sf,g,u⟩;subst sf;rw[<- lx] at g u;exact tail p fJ g u (kat_snds lk Pr) hf
end
section
variable{X:Cx}{pins:List (Addr × Obj)}{σ:St}{H:Hp}{s:Ab}
theorem Inv.vD{cl:List (Str × Addr)}{is:List Nat}(I:Inv X pins σ H s)(qi:∀q∈cl,X.env.cells.lookup q.1=some q.2)(yD:∀x∈dR,∃c,cl.lookup x=some c)(G5:∀x∈dR,X.env.scope.names.lookup x=some .cell)(hN:is.map (λi=>X.N[i]?)=dR.map some)(DL:is.map (λi=>σ[i]?)=gs.map (λv=>some (some v))):gs.length=dR.length/\Mg dR cl gs s.heap/\∀x c,cl.lookup x=some c->H c=none:=by
 have lk:∀{x c},cl.lookup x=some c->(x,c)∈cl:=λe=>rO e;apply#[?_,#[λa b c h1 h2=>I.ok.inj a b c (qi _ (lk h1)) (qi _ (lk h2)),yD,λa c h1=>I.cell a c (qi _ (lk h1)),λj a v h1 h2=>?_],λx c e=>I.eS x c (qi _ (lk e))]
 ·let a:=d8 List.length DL;let b:=d8 List.length hN;simp only[ao] at a b;omega
 ·let#[c,hc]:=yD a (cw h1);have e1:(is.map λi=>X.N[i]?)[j]? = some (some a):=by rw[hN,dW,h1];rfl
  have e2:(is.map λi=>σ[i]?)[j]? = some (some (some v)):=by rw[DL,dW,h2];rfl
  rw[dW] at e1 e2;let#[i,hi,e1]:=Dj.mp e1;rw[hi] at e2;have e2:σ[i]? = some (some v):=eK e2;let#[m,_,hl]:=I.loc;let kd:=G5 a (cw h1);let#[u,ru,lo]:=hl i a v e1 e2 (.inr (.inl kd));rcases lo with⟨z,_⟩|⟨_,c2,e3,o,e4,e5⟩
  ·have z:X.env.scope.names.lookup a=some .local:=z;rw[kd] at z;cases z
  ·rw[qi _ (lk hc)] at e3;cases e3;exact#[c,u,hc,ru,o,e4,e5]
theorem lw_{qual:Str}{params:Arguments}{body:PySem.Expr}{scope:Scope}{p:Str}{sp:ai->ai->Hp->VK->XK->Prop}{cl:List (Str × Addr)}{is:List Nat}(F:jF X.prog X.w X.K X.mg X.base k qual params body scope [p] dR sp)(hr:ba k B)(hB:B.frames=X.A.frames)(hf:H0 f=some (kZ f qual params body scope cl c'))(hc:H0 c'=some (yP c' qual))(qi:∀q∈cl,X.env.cells.lookup q.1=some q.2)(yD:∀x∈dR,∃c,cl.lookup x=some c)(G5:∀x∈dR,X.env.scope.names.lookup x=some .cell)(hN:is.map (λi=>X.N[i]?)=dR.map some)(DL:is.map (λi=>σ[i]?)=gs.map (λv=>some (some v)))(mi:∀H x,aa H0 H->x∈xs->sp [x] gs H (λv H'=>aa H H'/\∃t,v=.ref t/\H' t=some (.tup ((kf x).map kV))) (λ_ _ _=>False)):qP X σ B (.ref f) H0 kf xs:=by
 intro pins H s x u I sm hx ru;let#[#[pm,lE,ef],_]:=I.aN f _ (sm _ _ hf);let#[#[oc,Kh,t,ec,d1,d2],_]:=I.aN c' _ (sm _ _ hc);let#[hg,C,fc]:=I.vD qi yD G5 hN DL;let e0:=I.Cr;apply wpAny_call (codeAny_mono (F B X.stack s H f c' pm lE cl [u] [x] gs _ _ hr #[hB.trans e0.frames,e0.mod,e0.bs,e0.vK,e0.gC,e0.yF,e0.aN,e0.bare] ef #[c',oc,Kh,t,Z,ec,d1,d2] Z hg (.cons ru .nil) C fc (mi H x sm hx)) λr s' hq=>?_);cases r with
 |error e=>exact hq.elim
 |ok fl=>
  cases fl with
  |ret u=>exact I.after hq
  |next=>exact False.elim hq
  |brk=>exact False.elim hq
  |cont=>exact False.elim hq
theorem sortedK{x:Aa}{Q:VK}(I:Inv X pins σ H s)(dk:xs.length<64)(al:Au (xs.map kf) sh)(lI:qP X σ X.A.in1.in1 (.ref f) H kf xs)(oM:∀R:ax->Ab->Prop,(∀vs s1,Inv X pins σ H s1->Vals xs vs->R vs s1)->wpAny (model X.prog X.w) X.A.in1 (collect x) R E s)(q:∀l zs H',aa H H'->H' l=none->H l=none->zs.Perm xs->zs.map kf=aU (xs.map kf)->Q (.ref l) (upd H' l (.lst zs))):wpAny (model X.prog X.w) X.A (call (.builtin "sorted") [x] [(Str.ofString "key",.ref f)]) (EP X pins σ Q) E s:=by
 apply call_function_entry_kw kind_sorted plain_sorted entry_sorted (ksk_s1 _ _) ?_;unfold Builtin.«sorted»;apply aO (m:=checkCount "sorted" 1 1 _) (bV ?_);apply aO (oM _ λvs s1 I1 r=>?_);let lv:=r.length;apply aO (wpAny_newList ?_ (by rw[b_];omega));have KY:(s1.heap.push (seqObj "list" vs.toArray 0)).get? s1.heap.objs.size=some (seqObj "list" vs.toArray 0):=fG _ Z;have I2:Inv X pins σ H { s1 with heap:=s1.heap.push (seqObj "list" vs.toArray 0) }:=I1.kept (t':=s1.toks) λb u e=>cU _ e;have fa:dH X pins H s1.heap.objs.size:=I1.jT (bp _) (I1.aN.fresh (bp _));have nl:H s1.heap.objs.size=none:=I1.aN.fresh (bp _);apply aO (wpAny_holding (wpAny_call_entry_kw slot_list_sort #[_,KY,Z] entry_list_sort ?body (ksk_l1 _ _)))
 case body=>
  show wpAny (model X.prog X.w) X.A.in1.in1 (Builtin.«list.sort» #[[.ref s1.heap.objs.size],[(Str.ofString "key",.ref f)]]) _ _ _;rw[ksk_t1];apply hm_ (s:={ s1 with heap:=s1.heap.push (seqObj "list" vs.toArray 0) }) I2 fa KY r Z1 al lI λzs H' s' I' sm na pz ek=>?_;exact#[_,Z,bV #[_,Z,.ref _,_,I',Z,q _ zs H' sm na nl pz ek]]
end
def Tj(K:af)(H:Hp)(x:V)(xs:ai):Prop:=(∃l,x=.ref l/\eG K H l xs)∨∃d kvs,x=.ref d/\H d=some (.dK kvs)/\xs=kvs.map λkv=>kV kv.1
inductive ph (K:af) (qual:Str) (params:Arguments) (body:PySem.Expr) (scope:Scope) (cl:List (Str × Addr)) (is:List Nat) (sp:ai->ai->Hp->VK->XK->Prop) (t:TA) (σ:St) (H:Hp) (Q:VK) (vs:ai) (ws:ai) (H2:Hp):Prop
 |mk:∀x f c' xs kf sh gs,vs=[x]->ws=[.ref f]->H2 f=some (kZ f qual params body scope cl c')->H2 c'=some (yP c' qual)->Tj K H2 x xs->xs.length<64->Au (xs.map kf) sh->is.map (λi=>σ[i]?)=gs.map (λv=>some (some v))->(∀H x,aa H2 H->x∈xs->sp [x] gs H (λv H'=>aa H H'/\∃t,v=.ref t/\H' t=some (.tup ((kf x).map kV))) (λ_ _ _=>False))->(∀l zs H',aa H2 H'->H' l=none->H2 l=none->zs.Perm xs->zs.map kf=aU (xs.map kf)->Q (.ref l) (upd H' l (.lst zs)))->ph K qual params body scope cl is sp t σ H Q vs ws H2
def A4(K:af)(qual:Str)(params:Arguments)(body:PySem.Expr)(scope:Scope)(cl:List (Str × Addr))(is:List Nat)(sp:ai->ai->Hp->VK->XK->Prop)(t tk:TA):TE:=λσ H Q=>t σ H λvs H1=>tk σ H1 λws H2=>ph K qual params body scope cl is sp t σ H Q vs ws H2
variable{qual:Str}
theorem W_{e:PySem.Expr}{t tk:TA}{p kp uU:Pos}{params:Arguments}{body:PySem.Expr}{scope:Scope}{px:Str}{sp:ai->ai->Hp->VK->XK->Prop}{cl:List (Str × Addr)}{is:List Nat}(hc:X.calm=true)(hg:Gl X "sorted")(hm:X.mg "sorted"=none)(ha:PA X [e] t)(hkw:PK X [#[some "key",.Lambda params body scope uU,kp]] tk)(F:jF X.prog X.w X.K X.mg X.base k qual params body scope [px] dR sp)(hr:ba (k+2) X.A)(qi:∀q∈cl,X.env.cells.lookup q.1=some q.2)(yD:∀x∈dR,∃c,cl.lookup x=some c)(G5:∀x∈dR,X.env.scope.names.lookup x=some .cell)(hN:is.map (λi=>X.N[i]?)=dR.map some)(he:starEach [e] X.env=[(false,eval e X.env)]:=by rfl)(vw:(backToKw pos (keywordEach [#[some "key",.Lambda params body scope uU,kp]] X.env)).all (·.1.isSome)=true:=by rfl)(G2:(backToKw pos (keywordEach [#[some "key",.Lambda params body scope uU,kp]] X.env)).filterMap (·.1)=[Str.ofString "key"]:=by rfl)(hkn:(backToKw pos (keywordEach [#[some "key",.Lambda params body scope uU,kp]] X.env)).any (·.1.isNone)=false:=by rfl):PE X (.Call (.Name "sorted" p) [e] [#[some "key",.Lambda params body scope uU,kp]] pos) (A4 X.K qual params body scope cl is sp t tk):=by
 intro pins s σ H Q I h;apply wpAny_Call_Name_kw (Ej I hg hm yU ?_);let hA:=ha pos pins s σ H _ I h;rw[he] at hA ⊢;apply callWith_builtin_kwB (first:=[]) Z hkn (evalArgs_kwB vw (a_ hA λus s1 ⟨vs,H1,I1,r1,q1⟩=>?_));apply a_ (hkw pos pins s1 σ H1 _ I1 q1) λws s2 ⟨zs,H2,I2,rz,x,f,c',xs,kf,sh,gs,ev,ez,hf,iQ,src,dk,al,DL,mi,q⟩=>?_;subst ev ez;let#[u,rfl,ru]:=Vals.one r1;let#[fv,rfl,rf]:=Vals.one rz;cases rf;rw[G2];have hd:X.A.in1.handled=none:=I.ok.hd hc;apply sortedK I2 dk al (lw_ F hr.in1.in1 Z hf iQ qi yD G5 hN DL mi) (λR hR=>?_) q;rcases src with⟨l,rfl,hl⟩|⟨d,kvs,rfl,hd2,rfl⟩
 ·cases ru;exact Qw I2 hl Z1 hR
 ·cases ru;exact Vn hd I2 (.inl hd2) hR
structure lY (K:af) (x qual:Str) (st:Stmt) (f c:Addr) (fd:Ad):Prop where
 ex:∃(oc:Aa) (od:Option Addr) (kV doc pm:Aa) (an:Option Addr) (ct:Aa) (mh:Array (Option Aa)),
  fd=PySem.W.fnOf x qual (j_ st) (i5 st) (bb st) .none kV doc pm an (.ref c) ct/\K.lookup f=some #[oc,od,.func fd,mh]/\PySem.W.codeIn K (.ref c) qual=true
 kp:PySem.W.keepIn K (.ref f)=true
variable{K:af}{st:Stmt}
theorem lY.fn(F:lY K x qual st f c fd):bo K x qual st f fd:=by
 let#[oc,od,kV,doc,pm,an,ct,mh,e,l,h]:=F.ex;exact#[#[oc,od,kV,doc,pm,an,.ref c,ct,mh,e,l,h],F.kp]
theorem lY.ok{sp:Sp}(F:lY K x qual st f c fd)(S:bD N ps (bb st))(len:∀vs H Q E,sp vs H Q E->vs.length=ps.length)(gB:∀(A:Ag) (outer:List Env) (s:Ab) (H:Hp) (vs:ai) (Q:VK) (E:XK),ba k (A.deeper (envOfC qual (bb st) s.heap.objs.size f (.ref c)))->sp vs H Q E->
   ∃t,mL (lC aZ P w K mg base N qual (bb st) f (.ref c) A outer s H E).BC (i5 st) t/\t { nx:=λ_ H'=>Q .non H',rt:=Q } (start N vs) H):!aj aZ (k+1) f fd ps sp:=by
 let#[oc,od,kV,doc,pm,an,ct,mh,rfl,lk,iQ]:=F.ex;apply UE lk iQ S len λA outer s H vs Q E hr mi=>?_;let#[t,h,q]:=gB A outer s H vs Q E hr mi;exact#[t,h.BC,q]
end L2
namespace Ev
open PySem L2
def NT(H G:Hp):Prop:=∀b o,H b=some o->(∀vs,o≠.tbl vs)->G b=some o
variable{G:Hp}
theorem NT.of{H:Hp}(s:aa H G):NT H G:=λb o e _=>s b o e
theorem NT.refl(H:Hp):NT H H:=NT.of (aa.refl H)
theorem NT.trans{H J:Hp}(s:NT H G)(t:NT G J):NT H J:=λb o e n=>t b o (s b o e n) n
theorem aX.nt{T:Addr}{H:Hp}{vs:Array Aa}(b:aX T H G)(hT:H T=some (.tbl vs)):NT H G:=λc o e n=>b c o e (λz=>by
 rw[z,hT] at e;exact n _ (eK e).symm)
theorem NT.tup{H G:Hp}(s:NT H G){a:Addr}{xs:ai}(h:H a=some (.tup xs)):G a=some (.tup xs):=s _ _ h nofun
theorem NT.lst{H G:Hp}(s:NT H G){a:Addr}{xs:ai}(h:H a=some (.lst xs)):G a=some (.lst xs):=s _ _ h nofun
theorem NT.dK{H G:Hp}(s:NT H G){a:Addr}{xs:List (Key × V)}(h:H a=some (.dK xs)):G a=some (.dK xs):=s _ _ h nofun
theorem NT.ins{H G:Hp}(s:NT H G){a C dx:Addr}{fs:List (Str × V)}(h:H a=some (.ins C dx fs)):G a=some (.ins C dx fs):=s _ _ h nofun
variable{l:Addr}
section
variable{K:af}{H G:Hp}{v:V}
theorem bg.nt{ys:ai}{ks:List aM}(h:bg K H ys ks)(s:NT H G):bg K G ys ks:=Paired.bx h λy k ⟨a,z,q⟩=>#[a,z,s.tup q]
theorem g9.nt{C p:Addr}{hs:Xa}{ts:Xb}{fp:ay}(W:g9 K C H p hs ts fp)(s:NT H G):g9 K C G p hs ts fp:=by
 let#[dx,d1,l2,d3,zs,as,rfl,h1,h2,h3,h4,h5,h6,h7]:=W.ex;exact#[dx,d1,l2,d3,zs,as,Z,s _ _ h1 nofun,s.dK h2,s.lst h3,bg.nt h4 s,s.dK h5,h6,λi n a e1 e2=>s.lst (h7 i n a e1 e2)]
theorem bW.nt{o:Option (Xb)}(h:bW K H v o)(s:NT H G):bW K G v o:=by
 cases o with
 |none=>exact h
 |some ws=>
  let#[a,ys,e,ha,t]:=h;exact#[a,ys,e,s.lst ha,bg.nt t s]
theorem iC.nt{CG CW g p:Addr}{hs:Xa}{ts:Xb}{qs:aC}{fp:ay}(h:iC K CG CW H g p hs ts qs fp)(s:NT H G):iC K CG CW G g p hs ts qs fp:=by
 let#[dx,dw,dy,vs,cK,h1,h2,h3,h4,h5,r]:=h.ex;exact#[dx,dw,dy,vs,cK,s _ _ h1 nofun,h2.nt s,s.dK h3,s.dK h4,Paired.bx h5 λv q h=>h.nt s,r]
theorem dJ.nt(h:dJ H l)(s:NT H G):dJ G l:=by
 let#[a,b,c,e]:=h;exact#[a,b,c,s.lst e]
end
variable{qual:Str}{σ:St}
theorem Vb{H:Hp}{T:Addr}{q':Str}{a a':Arguments}{b b':Expr}{sc Kp:Scope}{ps:Pos}{cl:List (Str × Addr)}{Q:VK}(h:ee H T qual)(e1:q'=qual)(e2:a'=a)(e3:b'=b)(e4:Kp=sc)(q:∀f c' H1,aX T H H1->ee H1 T qual->H1 f=some (kZ f qual a b sc cl c')->H1 c'=some (yP c' qual)->Q (.ref f) H1):Fg T q' a' b' Kp ps cl σ H Q:=by
 subst e1 e2 e3 e4;let#[es,h,B7]:=h;apply#[_,h,Xx es,?_];rcases Y9 ps es with e|⟨e,he,q1⟩
 ·apply .inl #[e,λc' f n1 n2 n3=>?_];have nT1:T≠c':=bq h n1;have nT2:T≠f:=bq h n2
  have B:aX T H (upd (upd (upd H T (.tbl ((oQ es).toArray++(List.toArray [rawInt ps.line,rawInt ps.col,.ref c'])))) c' (yP c' q')) f (kZ f q' a' b' Kp cl c')):=λb o e n=>by
   rw[au (bq e n2),au (bq e n1),au n];exact e
  apply q f c' _ B #[es++[(ps,c')],?_,λx hx=>?_] az ?_
  ·rw[au nT2,au nT1,az,XU];simp
  ·rcases fQ.mp hx with hx|hx
   ·exact B _ _ (B7 x hx) (λz=>by have:=B7 x hx;rw[z,h] at this;cases this)
   ·rw[jq.mp hx];show upd _ f _ c'=_;rw[au n3,az]
  ·rw[au n3,az]
 ·apply .inr #[e.2,q1,λf hf=>?_];let s:=aa.new (o:=kZ f q' a' b' Kp cl e.2) hf;exact q f e.2 _ (aX.of s) #[es,s _ _ h,λx hx=>s _ _ (B7 x hx)] az (s _ _ (B7 e he))
theorem ki{H:Hp}{T:Addr}(h:ee H T qual):∃vs,H T=some (.tbl vs):=by
 let#[es,e,_]:=h;exact#[_,e]
theorem ee.but{H:Hp}{T T':Addr}{q:Str}(h:ee H T q)(b:aX T' H G)(hT:∃vs,H T'=some (.tbl vs))(ne:T≠T'):ee G T q:=by
 let#[es,e,a]:=h;let#[vs,hT]:=hT;exact#[es,b _ _ e ne,λx hx=>b _ _ (a x hx) (λz=>by have:=a x hx;rw[z,hT] at this;cases this)]
def kY:Expr->Scope
 |.Lambda _ _ s _=>s
 |_=>bb iI
def Gh:Expr->Expr
 |.Lambda _ b _ _=>b
 |e=>e
def Gi:Expr->Arguments
 |.Lambda a _ _ _=>a
 |_=>j_ iI
def UU:Expr->Expr
 |.Call _ _ (k::_) _=>k.value
 |e=>e
def FZ(l:List Stmt)(i:Nat):Stmt:=l.getD i (.Pass #[0,0,0,0])
def P0:Stmt->Expr
 |.For _ i _ _ _=>i
 |_=>.Constant .none 0 #[0,0,0,0]
def Nu:Stmt->Expr
 |.Return (some e) _=>e
 |_=>.Constant .none 0 #[0,0,0,0]
variable{k:ai->Hp->Prop}
theorem yl{H:Hp}(h:k [] H):jI σ H k:=h
theorem Az{te:TE}{t:TA}{H:Hp}(h:te σ H λx H1=>t σ H1 λxs H2=>k (x::xs) H2):kA te t σ H k:=h
abbrev eF(qs:aC)(n:Str):Int:=strOf (qs.map gJ) n
def kN(qs:aC)(n:Str):aM:=[.inl (-(eF qs n)),.inr n]
def gP:aM->Str
 |[_,.inr n]=>n
 |_=>⟨#[]⟩
def jg(qs:aC):ae:=(aU ((qs.map (·.1)).map (kN qs))).map gP
def Gm(qs:aC):V->aM
 |.str n=>kN qs n
 |_=>[]
variable{zs:ai}{ns:ae}
theorem XT(p:zs.Perm (ns.map V.str)):∃ms:ae,zs=ms.map V.str/\ms.Perm ns:=by
 have all:∀z∈zs,∃n,z=V.str n:=λz hz=>by
  let#[n,_,e]:=bj.mp (p.mem_iff.mp hz);exact#[n,e.symm]
 have mk:∀l:ai,(∀z∈l,∃n,z=V.str n)->∃ms:ae,l=ms.map V.str:=λl=>by
  induction l with
  |nil=>intro _;exact#[[],Z]
  |cons a r ih=>
   intro h;let#[n,rfl]:=h a cZ;let#[ms,rfl]:=ih λz hz=>h z (dI _ hz);exact#[n::ms,Z]
 let#[ms,rfl]:=mk zs all;apply#[ms,Z,?_];have:=p.map (λv:V=>match v with | .str n=>n|_=>(⟨#[]⟩:Str));rw[cm,cm] at this;simpa [Function.comp_def] using this
theorem mz_{qs:aC}(p:zs.Perm ((qs.map (·.1)).map V.str))(e:zs.map (Gm qs)=aU (((qs.map (·.1)).map V.str).map (Gm qs))):zs=(jg qs).map V.str:=by
 let#[ms,rfl,_]:=XT p;have e1:(ms.map V.str).map (Gm qs)=ms.map (kN qs):=by rw[cm];rfl
 have e2:((qs.map (·.1)).map V.str).map (Gm qs)=(qs.map (·.1)).map (kN qs):=by
  rw[cm];rfl
 rw[e1,e2] at e
 have em:(ms.map (kN qs)).map gP=ms:=by
  rw[cm];exact List.map_id' ms
 unfold jg;rw[<- e,em]
theorem C5(qs:aC):(jg qs).Perm (qs.map (·.1)):=by
 unfold jg;let p:=(mK ((qs.map (·.1)).map (kN qs))).map gP
 have e:((qs.map (·.1)).map (kN qs)).map gP=qs.map (·.1):=by
  generalize qs.map (·.1)=ns;rw[cm];exact List.map_id' _
 rw[e] at p;exact p
def bS(qs:aC)(f:ag)(h:Str):ae:=(jg qs).filter λn=>decide (f n=h)
abbrev zN:Str:="heaviest_first.<locals>.<lambda>"
def rp:Expr:=UU (P0 (FZ (i5 jc) 1))
abbrev Cj:ae:=["goods"]
theorem Hs:∀y∈(kY rp).names,y.2=.free->y.1∈Cj:=by decide +kernel
theorem Bh:Ig ["name"] Cj (kY rp):=#[by decide +kernel,Z,Z,Z,by decide +kernel,by decide +kernel,λx h=>Hs (x,.free) (rO h) Z,by decide +kernel]
variable{CP:Addr}
variable{L:Addr}{cd:Aa}
variable{c0 f0:Addr}{fd:Ad}
section
variable{P:Ae}{w:Af}{K:af}{mg:Str->Option Aa}{base:Heap}
inductive pJ (K:af) (CG CW:Addr) (vs:ai) (gs:ai) (H:Hp) (Q:VK):Prop
 |mk:∀(g p:Addr) (q:Pc) (hs:Xa) (ts:Xb) (qs:aC) (fp:ay),vs=[.str q.1]->gs=[.ref g]->iC K CG CW H g p hs ts qs fp->(qs.map (·.1)).Nodup->q∈qs->0<=q.2.1->q.2.1<=1000000000->(∀t,H t=none->Q (.ref t) (upd H t (.tup [.int (-q.2.1),.str q.1])))->pJ K CG CW vs gs H Q
def A_(K:af)(CG CW:Addr):ai->ai->Hp->VK->XK->Prop:=λvs gs H Q _=>pJ K CG CW vs gs H Q
theorem lF_{CG CW:Addr}(T:eR K CG)(cW:!bG CG 2 "weight" Aw (C4 K CG CW CP)):!jF 3 zN (Gi rp) (Gh rp) (kY rp) ["name"] Cj (A_ K CG CW):=by
 apply zX Bh (λpm c' lE cl us hl=>?_) (λA outer s H f cd cl vs gs Q E hr h hp=>?_)
 ·match us,hl with
  |[_],_=>rfl
 ·let#[g,p,q,hs,ts,qs,fp,rfl,rfl,G,nd,hq,w0,w1,k]:=h;let#[dx,dw,dy,vs,cK,h1,h2,_]:=id G.ex;apply#[_,eW %[my_ lN_ (fU cW T.cl hr (pv 1) %[0|0]),0|0],?_];have qd:(cb p dw dy).lookup ("weight":Str)=none:=xh _ _ _ Z0 Z0 Z0;apply#[_,Z,g,dx,_,Z,h1,qd,_,Z,g,p,.str q.1,some q.1,hs,ts,qs,fp,Z,G,nd,Z,.inl #[q,hq,Z,?_]];exact#[_,Z,_,Z,zl,λt ht=>k t ht]
def Ik(L:Addr):List (Str × Addr):=[("goods",L+1)]
theorem R9{f:Addr}:closureFor (kY rp) (PyProof.Rows.envOfC sH (bb jc) L f cd)=pure (Ik L):=by rfl
theorem Sa{f:Addr}:∀q∈Ik L,(PyProof.Rows.envOfC sH (bb jc) L f cd).cells.lookup q.1=some q.2:=by
 intro q hq;simp only[Ik,bZ,xw,or_false] at hq;rcases hq with rfl;rfl
theorem Oj:∀x∈Cj,∃c,(Ik L).lookup x=some c:=by
 intro x hx;simp only[Cj,bZ,xw,or_false] at hx;rcases hx with rfl;exact#[_,Z]
theorem Ob:∀x∈Cj,(bb jc).names.lookup x=some .cell:=by decide +kernel
theorem tY:bD ["goods","placed","found","piece"] vC (bb jc):=bJ
def wk(H:Hp)(ns:ae)(ad:Str->Addr)(g:Str->ae):Prop:=(∀h∈ns,H (ad h)=some (.lst ((g h).map V.str)))/\∀h∈ns,∀h'∈ns,ad h=ad h'->h=h'
inductive pN (K:af) (CG CW T:Addr) (vs:ai) (H:Hp) (Q:VK) (E:XK):Prop
 |mk:∀(g p d:Addr) (hs:Xa) (ts:Xb) (qs:aC) (fp:ay) (f:ag),vs=[.ref g,.ref d]->AC K CG CW H g p d hs ts qs fp f->(∀q∈qs,0<=q.2.1/\q.2.1<=1000000000)->ee H T zN->(∀d' ad H',aX T H H'->ee H' T zN->H d'=none->H' d'=some (.dK (bH (aI hs) λh=>.ref (ad h)))->wk H' (aI hs) ad (bS qs f)->(∀h∈aI hs,H (ad h)=none)->Q (.ref d') H')->pN K CG CW T vs H Q E
theorem ee.putL{H:Hp}{T a:Addr}{q:Str}{xs:ai}{o:HO}(h:ee H T q)(ha:H a=some (.lst xs)):ee (upd H a o) T q:=by
 let#[es,e,c]:=h;apply⟨es,by rw[au (cj e ha nofun)];exact e,λx hx=>?_⟩;rw[au (λz=>by have:=c x hx;rw[z,ha] at this;cases this)];exact c x hx
theorem gM{H:Hp}{d:Addr}{g:Str->V}{n:Str}(h:H d=some (.dK (bH ns g)))(m:n∈ns):cE H d (.str n) (some (g n)):=by
 have:=cE.k (k:=Sum.inr n) h;rw[Ey m] at this;exact this
theorem yK{qs:aC}(nd:(qs.map (·.1)).Nodup){q:Pc}(h:q∈qs):eF qs q.1=q.2.1:=by
 apply WS ?_ (bj.mpr ⟨q,h,rfl⟩);rw[cm];exact nd
theorem mg_{CG CW T:Addr}(F:lY K sH sH jc f0 c0 fd)(B:Bi mg)(TG:eR K CG)(TW:Txt K mg CW)(hC:PySem.W.CodeHd base c0 T)(vt:base.BuiltinsAt mg T)(cH:!bG CW 1 "hands" iU (Es K CW))(cW:!bG CG 2 "weight" Aw (C4 K CG CW CP)) :
  aj P w K mg base aZ 6 f0 fd vC (pN K CG CW T):=by
 apply F.ok tY (λvs H Q E h=>?_) (λA outer s H vs Q E hr h=>?_)
 ·let#[g,p,d,hs,ts,qs,fp,f,rfl,_]:=h;rfl
 ·let#[g,p,d,hs,ts,qs,fp,f,rfl,Pl,wq,tab,k]:=h;let hu:=eU hr;let sz:=b_;have k8:ba 1 _:=hr.mono (by decide);refine' ⟨_,ak ?s1 (ak ?s2 (aF ?s3)),?kk⟩
  case' s1=>refine' aQ 2 tY.nd (iD (vX Z) (by rfl) B.dict oV %[i8 ["hand"] 1 [] (dF (AF cH TW.cl k8 (eE (pv 0) Z))) (λfp s H=>fw (i:=0) (show (["hand"]:ae).Nodup by decide +kernel) Z (Or.inl Z)) (λfp s H=>iY) (λfp s H=>?e1)|0])
  case e1=>exact eW %[0,cO aJ|0]
  case' s2=>refine' eM dX Z (dF ?l2) (bU 3 tY.nd) (aF ?b2)
  case l2=>exact W_ (px:="name") (dR:=Cj) (cl:=Ik s.heap.objs.size) (is:=[0]) (k:=3) Z (by rfl) B.sorted %[1|0] (VD (Vl (P:=T) (c:=c0) Z R9 Z hC vt) U9) (lF_ TG cW) hr Sa Oj Ob Z
  case b2=>exact hZ (gX il mE mF lN (cn hu (pv 2) (cn hu (pv 1) (pv 3))) %[3|0])
  case s3=>exact bh (pv 2)
  let nd:=Pl.Gd.r9;have n8:(aI hs).length<=8:=by have:=Pl.Gd.fM;have:=Pl.Gd.h8;omega
  let#[dx,dw,dy,vs,cK,h1,h2,h3,h4,h5,m1,m2,m3,m4,m5]:=id Pl.G.ex;let#[gj,d1,l2,d3,l_,as,ef,w1,_]:=id h2.ex;have iO:(dm d1 l2 d3).lookup ("hands":Str)=none:=j5 _ _ _ Z0 Z0 Z0;apply#[_,Z,g,CG,dx,_,_,Z,h1,TG.cl,TG.nW,qy _ _ _,p,gj,_,Z,w1,iO,p,hs,ts,cK,Z,h2,λlh nh=>?_];let#[s1,e1]:=aB (o:=.lst ((aI hs).map V.str)) nh;generalize upd H lh (.lst ((aI hs).map V.str))=H1 at s1 e1 ⊢;apply#[lh,Z,#[_,.of e1],λD hD=>?_]
  let Jn:dY:=λi out H'=>∃ad:Str->Addr,aa H1 H'/\H' D=some (.lst out)/\jz K H' out (bH ((aI hs).take i) λh=>.ref (ad h))/\wk H' ((aI hs).take i) ad (λ_=>[])/\∀h∈(aI hs).take i,H1 (ad h)=none/\ad h≠D
  apply mJ (own:=1) (fv:=[]) (xs:=(aI hs).map V.str) Z d_ Jn #[λ_=>D,aa.new hD,az,.nil,#[by simp,by simp],by simp] (λi out H' _ ⟨_,sm,_⟩=>.of (sm _ _ e1)) (λout H2 ⟨ad,s2,jy,pa,ls,fr⟩=>?_) (λi x out H' hx ⟨ad,sm,hd,pa,ls,fr⟩=>?_);rotate_left
  ·let#[n,hn,rfl]:=iX hx;have nn:n∉(aI hs).take i:=Ih nd hn;apply#[_,Z,Z,λNx hN=>d9 ?_];apply#[_,Z,zl,λl nl=>?_];let#[s3,e3]:=aB (o:=.lst []) nl;generalize upd H' l (.lst [])=H3 at s3 e3 ⊢;apply#[zl,λt nt=>?_];let#[s4,e4]:=aB (o:=.tup [.str n,.ref l]) nt;generalize upd H3 t (.tup [.str n,.ref l])=H4 at s4 e4 ⊢;let eY:=s3.trans s4;let rD:=eY _ _ hd;have lD:l≠D:=λz=>by rw[z,hd] at nl;cases nl
   have IT:∀h∈(aI hs).take i,ad h≠l:=λh hh z=>by
    have:=ls.1 h hh;rw[z,nl] at this;cases this
   let lo:=bK pa;rw[gh,dg] at lo
   have pD:∀{b:Addr} {zs:ai},H4 b=some (.tup zs)->b≠D:=λhb z=>by
    rw[z,rD] at hb;cases hb
   have ne:∀h∈(aI hs).take i,h≠n:=λh hh z=>nn (z▸hh);apply#[out,rD,by omega,hN (out++[.ref t]) _ #[λm=>if m=n then l else ad m,gf (sm.trans eY) hD,az,?_,#[λh hh=>?_,λh hh h' G7 z=>?_],λh hh=>?_]]
   ·have e:bH ((aI hs).take (i+1)) (λh=>.ref (if h=n then l else ad h))=bH ((aI hs).take i) (λh=>.ref (ad h))++[(Sum.inr n,.ref l)]:=by
     rw[fB hn];unfold bH;rw[cu,eL,xk];dsimp only;rw[aA Z];congr 1;exact rV λm hm=>by rw[aq (ne m hm)]
    rw[e];exact km (Paired.bx pa λy kv ⟨b,z,hb⟩=>#[b,z,by rw[au (pD (eY _ _ hb))];exact eY _ _ hb]) (.cons #[t,Z,by rw[au (pD e4)];exact e4] .nil)
   ·rw[fB hn] at hh;rcases fQ.mp hh with hh|hh
    ·dsimp only;rw[aq (ne h hh),au (fr h hh).2];exact eY _ _ (ls.1 h hh)
    ·obtain rfl:h=n:=by simpa using hh
     dsimp only;rw[aA Z,au lD];exact s4 _ _ e3
   ·rw[fB hn] at hh G7;dsimp only at z;rcases fQ.mp hh with a1|a1<;>rcases fQ.mp G7 with a2|a2
    ·rw[aq (ne h a1),aq (ne h' a2)] at z;exact ls.2 h a1 h' a2 z
    ·have a2:h'=n:=by simpa using a2
     rw[aq (ne h a1),aA a2] at z;exact absurd z (IT h a1)
    ·have a1:h=n:=by simpa using a1
     rw[aq (ne h' a2),aA a1] at z;exact absurd z.symm (IT h' a2)
    ·rw[show h=n by simpa using a1,show h'=n by simpa using a2]
   ·rw[fB hn] at hh;dsimp only;rcases fQ.mp hh with hh|hh
    ·rw[aq (ne h hh)];exact fr h hh
    ·obtain rfl:h=n:=by simpa using hh
     rw[aA Z];exact#[sm.free nl,lD]
  rw[ao,dP] at pa ls fr;apply#[D,out,_,Z,jy,pa,by rw[gh];omega,λdf zS=>?_]
  have zR:((bH (aI hs) λh=>V.ref (ad h)).map (·.1)).Nodup:=by
   rw[EA,xv,oZ];exact nd.imp λn e=>n (ij e)
  rw[xp zR];let#[s3,e3]:=aB (o:=.dK (bH (aI hs) λh=>V.ref (ad h))) zS;lk;generalize upd H2 df (.dK (bH (aI hs) λh=>V.ref (ad h)))=H3 at s3 e3 ⊢;let je:=(s1.trans s2).trans s3;have kQ:H df=none:=(s1.trans s2).free zS;have Xm:∀h∈aI hs,H (ad h)=none:=λh hh=>s1.free (fr h hh).1;have UM:∀h∈aI hs,H3 (ad h)=some (.lst []):=λh hh=>s3 _ _ (ls.1 h hh);let inj:=ls.2;clear s1 s2 s3 e1 pa ls fr jy nh hD zS;apply#[_,Z,yl (Az ?_)];apply Vb (tab.same je) Z Z Z Z λfl c' H4 b4 h9 Hd DP=>?_;let#[tv,hT]:=ki tab
  have neT:∀{b:Addr} {o:HO},H3 b=some o->(∀vs,o≠.tbl vs)->b≠T:=λ{b o} e n z=>by
   rw[z,je _ _ hT] at e;exact n _ (eK e).symm
  have F0:NT H H4:=λb o e n=>b4 _ _ (je _ _ e) (neT (je _ _ e) n);have UL:∀h∈aI hs,H4 (ad h)=some (.lst []):=λh hh=>b4 _ _ (UM h hh) (neT (UM h hh) nofun);let e4:=b4 _ _ e3 (neT e3 nofun);have Ms:aX T H H4:=λb o e n=>b4 _ _ (je _ _ e) n;apply#[.ref d,fl,c',(qs.map (·.1)).map V.str,Gm qs,[false,true],[.ref g],Z,Z,Hd,DP,.inr #[d,_,Z,F0.dK Pl.hd,?_],by rw[ao,ao];exact Pl.dk,#[by decide,λk hk=>?_],Z,λH' x sm hx=>?_,λl zs H5 s5 nl DB pz ek=>?_]
  ·show _=((qs.map (·.1)).map _).map _;generalize qs.map (·.1)=ns';rw[cm];rfl
  ·let#[v,hv,rfl]:=bj.mp hk;let#[n,_,rfl]:=bj.mp hv;rfl
  ·let#[n,hn,rfl]:=bj.mp hx;let#[q,hq,rfl]:=bj.mp hn;apply#[g,p,q,hs,ts,qs,fp,Z,Z,(Pl.G.nt F0).same sm,Pl.nd,hq,(wq q hq).1,(wq q hq).2,λt nt=>#[aa.new nt,t,Z,?_]];rw[az];show _=some (HO.tup [.int (-(eF qs q.1)),.str q.1]);rw[yK Pl.nd hq]
  rw[mz_ pz ek];have hl:upd H5 l (.lst ((jg qs).map V.str)) l=some (.lst ((jg qs).map V.str)):=az;have s6:aa H4 (upd H5 l (.lst ((jg qs).map V.str))):=s5.trans (aa.new nl)
  have lne:∀h∈aI hs,ad h≠l:=λh hh z=>by
   have:=UL h hh;rw[z,DB] at this;cases this
  generalize upd H5 l (.lst ((jg qs).map V.str))=H6 at hl s6 ⊢
  have UR:(jg qs).length<64:=by
   rw[(C5 qs).length_eq,ao];exact Pl.dk
  have dT:d≠T:=λz=>by
   have:=Pl.hd;rw[z,hT] at this;cases this
  let Jm:bL:=λi σ H'=>∃v3:aK,σ=[some (.ref g),some (.ref d),some (.ref df),v3]/\aX T H H'/\ee H' T zN/\H' df=some (.dK (bH (aI hs) λh=>V.ref (ad h)))/\H' l=some (.lst ((jg qs).map V.str))/\wk H' (aI hs) ad (λh=>((jg qs).take i).filter λn=>decide (f n=h))
  apply#[l,Z,#[_,.of hl],gc (K:=K) (a:=l) (xs:=(jg qs).map V.str) Jm #[none,Z,λb o e n=>s6 _ _ (Ms b o e n),h9.same s6,s6 _ _ e4,hl,λh hh=>s6 _ _ (UL h hh),inj] (λi σ H' _ ⟨_,_,_,_,_,z,_⟩=>.of z) ?_ ?_]
  ·rintro i x σ H' hx ⟨v3,rfl,bT,kz,k_,sk,ls⟩;let#[n,hn,rfl]:=iX hx;have nm:n∈qs.map (·.1):=(C5 qs).mem_iff.mp (cw hn);have fm:f n∈aI hs:=(gn hs).mem_iff.mpr (Pl.at_ n nm);let iA:=bT _ _ Pl.hd dT;let la:=ls.1 (f n) fm;lk;apply#[_,Z,_,Z,_,Z,d,_,Z,gM iA nm,df,_,Z,gM k_ fm,.inl #[Z,_,.of la],_,Z,ad (f n),_,_,Z,Z,la,?_,?_]
   ·rw[ao];have:=xt (λn'=>decide (f n'=f n)) ((jg qs).take i);rw[dg] at this;dsimp only;omega
   apply#[_,Z,λb o e ne=>?_,ee.putL kz la,?_,?_,λh hh=>?_,inj]
   ·rw[au (bq e (Xm _ fm))];exact bT b o e ne
   ·rw[au (cj k_ la nofun)];exact k_
   ·rw[au (lne _ fm).symm];exact sk
   ·by_cases z:h=f n
    ·subst z;dsimp only;rw[az,fB hn,ze,List.filter_cons_of_pos Z2,List.filter_nil,cu];rfl
    ·dsimp only;rw[au (λy=>z (inj h hh _ fm y)),fB hn,ze,List.filter_cons_of_neg (by simpa using λy=>z y.symm),List.filter_nil,g_];exact ls.1 h hh
  ·rintro σ H' ⟨v3,rfl,bT,kz,k_,sk,ls⟩;rw[ao,dP] at ls;exact#[_,Z,k df ad H' bT kz kQ k_ ls Xm]
end
abbrev nU:Stmt:=ke K9 0
abbrev uo:Stmt:=ke K9 1
abbrev oi:Stmt:=ke K9 2
abbrev wY:Stmt:=ke K9 3
def eI(g dl dv dp:Addr):List (Str × V):=aH Cw (.ref dp) (aH qr (.ref dv) (aH jE (.ref dl) (aH "wares" (.ref g) [])))
theorem ia(g dl dv dp:Addr):(eI g dl dv dp).lookup ("wares":Str)=some (.ref g):=by
 unfold eI;rw[fH,fH,fH,fH,aq Z0,aq Z0,aq Z0,aA Z]
theorem Fw(g dl dv dp:Addr):(eI g dl dv dp).lookup (jE:Str)=some (.ref dl):=by
 unfold eI;rw[fH,fH,fH,aq Z0,aq Z0,aA Z]
theorem Nh(g dl dv dp:Addr):(eI g dl dv dp).lookup (qr:Str)=some (.ref dv):=by
 unfold eI;rw[fH,fH,aq Z0,aA Z]
theorem Fv(g dl dv dp:Addr):(eI g dl dv dp).lookup (Cw:Str)=some (.ref dp):=by
 unfold eI;rw[fH,aA Z]
theorem DX(g dl dv dp:Addr){m:Str}(h1:¬m="wares")(h2:¬m=jE)(h3:¬m=qr)(h4:¬m=Cw):(eI g dl dv dp).lookup m=none:=by
 unfold eI;rw[fH,fH,fH,fH,aq h4,aq h3,aq h2,aq h1];rfl
structure hG (K:af) (CS:Addr):Prop where
 cl:o8 K CS
 nW:mI K CS "wares"
 nL:mI K CS jE
 nV:mI K CS qr
 nP:mI K CS Cw
structure Wd (hs:Xa) (ts:Xb) (qs:aC) (f:ag):Prop where
 Gd:Good hs ts
 nd:(qs.map (·.1)).Nodup
 dk:qs.length<64
 at_:∀n∈qs.map (·.1),f n∈hs.map (·.1)
 wq:∀q∈qs,0<=q.2.1/\q.2.1<=1000000000
structure jA (K:af) (CS CG CW:Addr) (H:Hp) (v g p:Addr) (hs:Xa) (ts:Xb) (qs:aC) (fp:ay) (f:ag):Prop where
 ex:∃(dx dl dv dp:Addr) (ad:Str->Addr),H v=some (.ins CS dx (eI g dl dv dp))/\iC K CG CW H g p hs ts qs fp/\H dl=some (.dK (Gg hs qs f))/\H dv=some (.dK (bH (aI hs) λh=>.int (se hs qs f h)))/\H dp=some (.dK (bH (aI hs) λh=>.ref (ad h)))/\∀h∈aI hs,H (ad h)=some (.lst ((bS qs f h).map V.str))
theorem jA.nt{K:af}{CS CG CW:Addr}{H:Hp}{v g p:Addr}{hs:Xa}{ts:Xb}{qs:aC}{fp:ay}{f:ag}(S:jA K CS CG CW H v g p hs ts qs fp f)(s:NT H G):jA K CS CG CW G v g p hs ts qs fp f:=by
 let#[dx,dl,dv,dp,ad,h1,h2,h3,h4,h5,h6]:=S.ex;exact#[dx,dl,dv,dp,ad,s.ins h1,h2.nt s,s.dK h3,s.dK h4,s.dK h5,λh hh=>s.lst (h6 h hh)]
theorem jA.same{K:af}{CS CG CW:Addr}{H:Hp}{v g p:Addr}{hs:Xa}{ts:Xb}{qs:aC}{fp:ay}{f:ag}(S:jA K CS CG CW H v g p hs ts qs fp f)(s:aa H G):jA K CS CG CW G v g p hs ts qs fp f:=S.nt (NT.of s)
abbrev lo(qs:aC)(f:ag)(h:Str):Int:=ld f (qs.map gJ) h
def lH(hs:Xa)(qs:aC)(f:ag)(a b:Str):Int:=lo qs f a * strOf hs b - lo qs f b * strOf hs a
def ka(hs:Xa)(a b:Str):Int:=strOf hs a+strOf hs b
section
variable{P:Ae}{w:Af}{K:af}{mg:Str->Option Aa}{base:Heap}
theorem xV:bD qG qG (bb nU):=bJ
inductive QT (K:af) (CS CG CW T:Addr) (vs:ai) (H:Hp) (Q:VK) (E:XK):Prop
 |mk:∀(v dx g p d:Addr) (hs:Xa) (ts:Xb) (qs:aC) (fp:ay) (f:ag),vs=[.ref v,.ref g,.ref d]->H v=some (.ins CS dx [])->v∉fp->AC K CG CW H g p d hs ts qs fp f->Wd hs ts qs f->ee H T zN->(∀H',(∀b o,H b=some o->b≠v->b≠T->H' b=some o)->ee H' T zN->jA K CS CG CW H' v g p hs ts qs fp f->Q .non H')->QT K CS CG CW T vs H Q E
theorem jz_{CS CG CW T:Addr}(F:bo K "__init__" "Sight.__init__" nU f0 fd)(TS:hG K CS)(L9:!br 3 "loads_at" vC (Mb K CG CW))(Sy:!br 4 "levels_at" vC (RA K CG CW))(SI:!br 6 sH vC (pN K CG CW T)) :
  aj P w K mg base aZ 7 f0 fd qG (QT K CS CG CW T):=by
 apply F.bI xV λaR A outer s H vs Q E hr h=>?_
 ·let#[v,dx,g,p,d,hs,ts,qs,fp,f,rfl,hv,Ki,Pl,W,tab,k]:=h;refine' #[_,ak ?s1 (ak ?s2 (ak ?s3 (aF ?s4))),?kk]
  case s1=>exact xa (pv 0) (pv 1) Z
  case s2=>exact xa (pv 0) (aY L9 hr %[1,2|0]) Z
  case s3=>exact xa (pv 0) (aY Sy hr %[1,2|0]) Z
  case s4=>exact xa (pv 0) (aY SI hr %[1,2|0]) Z
  have dv:d≠v:=cj Pl.hd hv nofun;have uW:∀{G:Hp},(∀b o,H b=some o->b≠v->G b=some o)->AC K CG CW G g p d hs ts qs fp f:=λ{G} up=>#[Pl.G.keep (λb hb o e=>up b o e (λz=>Ki (z▸hb))) (λb xs e=>up b _ e (cj e hv nofun)),Pl.Gd,Pl.qo,up _ _ Pl.hd dv,Pl.at_,Pl.nd,Pl.dk];apply#[_,Z,_,Z,v,CS,dx,_,Z,hv,TS.cl,TS.nW,by show 0<1000;decide,?_];have up1:∀b o,H b=some o->b≠v->upd H v (.ins CS dx (aH "wares" (.ref g) [])) b=some o:=λb o e n=>by rw[au n];exact e
  have vf:upd H v (.ins CS dx (aH "wares" (.ref g) [])) v=some (.ins CS dx (aH "wares" (.ref g) [])):=az;have D0:∀{b},upd H v (.ins CS dx (aH "wares" (.ref g) [])) b=none->b≠v:=λ{b} e z=>by rw[z,az] at e;cases e
  generalize upd H v (.ins CS dx (aH "wares" (.ref g) []))=H1 at up1 vf D0 ⊢;apply#[_,Z,_,Z,g,p,d,hs,ts,qs,fp,f,Z,uW up1,λdl H2 s2 nl hl=>?_];let hv2:=s2 _ _ vf;have lv:dl≠v:=D0 nl;apply#[_,Z,v,CS,dx,_,Z,hv2,TS.cl,TS.nL,by show 1<1000;decide,?_];have ME:∀b o,H b=some o->b≠v->upd H2 v (.ins CS dx (aH jE (.ref dl) (aH "wares" (.ref g) []))) b=some o:=λb o e n=>by rw[au n];exact s2 _ _ (up1 b o e n)
  have VP:upd H2 v (.ins CS dx (aH jE (.ref dl) (aH "wares" (.ref g) []))) v=some (.ins CS dx (aH jE (.ref dl) (aH "wares" (.ref g) []))):=az;have Hu:∀{b},upd H2 v (.ins CS dx (aH jE (.ref dl) (aH "wares" (.ref g) []))) b=none->b≠v:=λ{b} e z=>by rw[z,az] at e;cases e
  have rC:upd H2 v (.ins CS dx (aH jE (.ref dl) (aH "wares" (.ref g) []))) dl=some (.dK (Gg hs qs f)):=by rw[au lv];exact hl
  generalize upd H2 v (.ins CS dx (aH jE (.ref dl) (aH "wares" (.ref g) [])))=H3 at ME VP Hu rC ⊢;apply#[_,Z,_,Z,g,p,d,hs,ts,qs,fp,f,Z,uW ME,W.wq,λde H4 s4 ne he=>?_];let OD:=s4 _ _ VP;have ev:de≠v:=Hu ne;apply#[_,Z,v,CS,dx,_,Z,OD,TS.cl,TS.nV,by show 2<1000;decide,?_];have wA:∀b o,H b=some o->b≠v->upd H4 v (.ins CS dx (aH qr (.ref de) (aH jE (.ref dl) (aH "wares" (.ref g) [])))) b=some o:=λb o e n=>by rw[au n];exact s4 _ _ (ME b o e n)
  have VO:upd H4 v (.ins CS dx (aH qr (.ref de) (aH jE (.ref dl) (aH "wares" (.ref g) [])))) v=some (.ins CS dx (aH qr (.ref de) (aH jE (.ref dl) (aH "wares" (.ref g) [])))):=az;have qm:∀{b},upd H4 v (.ins CS dx (aH qr (.ref de) (aH jE (.ref dl) (aH "wares" (.ref g) [])))) b=none->b≠v:=λ{b} e z=>by rw[z,az] at e;cases e
  have vn:upd H4 v (.ins CS dx (aH qr (.ref de) (aH jE (.ref dl) (aH "wares" (.ref g) [])))) dl=some (.dK (Gg hs qs f)):=by rw[au lv];exact s4 _ _ rC
  have Wj:upd H4 v (.ins CS dx (aH qr (.ref de) (aH jE (.ref dl) (aH "wares" (.ref g) [])))) de=some (.dK (bH (aI hs) λh=>.int (se hs qs f h))):=by rw[au ev];exact he
  generalize upd H4 v (.ins CS dx (aH qr (.ref de) (aH jE (.ref dl) (aH "wares" (.ref g) []))))=H5 at wA VO qm vn Wj ⊢;let#[es,hT,Wn]:=id tab;have Tv:T≠v:=cj hT hv nofun;have MM:ee H5 T zN:=#[es,wA _ _ hT Tv,λe he=>wA _ _ (Wn e he) (λz=>by have:=Wn e he;rw[z,hv] at this;cases this)];let ZG:=uW wA;apply#[_,Z,_,Z,g,p,d,hs,ts,qs,fp,f,Z,ZG,W.wq,MM,λdp ad H6 b6 ML np hp ls fra=>?_];have KC:NT H5 H6:=b6.nt (wA _ _ hT Tv);let KQ:=KC.ins VO;have pv':dp≠v:=qm np;have av:∀h∈aI hs,ad h≠v:=λh hh=>qm (fra h hh);apply#[_,Z,v,CS,dx,_,Z,KQ,TS.cl,TS.nP,by show 3<1000;decide,?_];apply k _ (λb o e n1 n2=>?_) ?_ #[dx,dl,de,dp,ad,az,(ZG.G.nt KC).keep (λb hb o e=>?_) (λb xs e=>?_),?_,?_,?_,λh hh=>?_]
  ·rw[au n1];exact b6 _ _ (wA b o e n1) n2
  ·let#[es,e1,e2]:=ML;exact#[es,by rw[au (cj e1 KQ nofun)];exact e1,λe he=>by rw[au (λz=>by have:=e2 e he;rw[z,KQ] at this;cases this)];exact e2 e he]
  ·rw[au (λz:b=v=>Ki (z▸hb))];exact e
  ·rw[au (cj e KQ nofun)];exact e
  ·rw[au lv];exact KC.dK vn
  ·rw[au ev];exact KC.dK Wj
  ·rw[au pv'];exact hp
  ·rw[au (av h hh)];exact ls.1 h hh
theorem tW:bD ["self","one","other","web"] mw (bb uo):=bJ
inductive El (K:af) (CS CG CW:Addr) (vs:ai) (H:Hp) (Q:VK) (E:XK):Prop
 |mk:∀(v g p:Addr) (a b:Str) (hs:Xa) (ts:Xb) (qs:aC) (fp:ay) (f:ag),vs=[.ref v,.str a,.str b]->jA K CS CG CW H v g p hs ts qs fp f->Wd hs ts qs f->a∈aI hs->b∈aI hs->Q (.int (lH hs qs f a b)) H->El K CS CG CW vs H Q E
theorem kr_{CS CG CW:Addr}(F:bo K "lead" "Sight.lead" uo f0 fd)(TS:hG K CS)(TG:eR K CG)(TW:Txt K mg CW)(cS:!bG CW 2 "strength" j9 (EK K CW)):!aj aZ 3 f0 fd mw (El K CS CG CW):=by
 apply F.bI tW λaR A outer s H vs Q E hr h=>?_
 ·let#[v,g,p,a,b,hs,ts,qs,fp,f,rfl,S,W,ha,hb,k]:=h;let hu:=eU hr;refine' #[_,ak ?s1 (aF ?s2),?kk]
  case s1=>exact aQ 3 tW.nd (eE (eE (pv 0) Z) Z)
  case s2=>exact bh (bF Hy (bF ji (cn hu (eE (pv 0) Z) (pv 1)) (fU cS TW.cl hr (pv 3) %[2|0])) (bF ji (cn hu (eE (pv 0) Z) (pv 2)) (fU cS TW.cl hr (pv 3) %[1|0])))
  let#[dx,dl,dv,dp,ad,h1,G,h3,h4,h5,h6]:=S.ex;let#[lB,dw,dy,vs,cK,g1,g2,_]:=id G.ex;let#[gj,d1,l2,d3,l_,as,ef,w1,_]:=id g2.ex;have iO:(dm d1 l2 d3).lookup ("strength":Str)=none:=j5 _ _ _ Z0 Z0 Z0;let la:=KN W.wq W.dk f a;let lb:=KN W.wq W.dk f b;apply#[_,Z,v,CS,dx,_,_,Z,h1,TS.cl,TS.nW,ia _ _ _ _,g,CG,lB,_,_,Z,g1,TG.cl,TG.nW,qy _ _ _,?_];lk;apply#[_,Z,v,CS,dx,_,_,Z,h1,TS.cl,TS.nL,Fw _ _ _ _,_,Z,dl,_,Z,gM h3 ha,_,Z,p,gj,_,Z,w1,iO,_,Z,p,b,strOf hs b,hs,ts,cK,Z,g2,W.Gd.qe,yV ((gn hs).mem_iff.mp hb),?_];apply#[_,_,Z,Z,.inl #[by omega,by omega],?_];apply#[_,Z,v,CS,dx,_,_,Z,h1,TS.cl,TS.nL,Fw _ _ _ _,_,Z,dl,_,Z,gM h3 hb,_,Z,p,gj,_,Z,w1,iO,_,Z,p,a,strOf hs a,hs,ts,cK,Z,g2,W.Gd.qe,yV ((gn hs).mem_iff.mp ha),?_];exact#[_,_,Z,Z,.inl #[by omega,by omega],_,_,Z,Z,k]
theorem xY:bD mw mw (bb oi):=bJ
inductive LG (K:af) (CS CG CW:Addr) (vs:ai) (H:Hp) (Q:VK) (E:XK):Prop
 |mk:∀(v g p:Addr) (a b:Str) (hs:Xa) (ts:Xb) (qs:aC) (fp:ay) (f:ag),vs=[.ref v,.str a,.str b]->jA K CS CG CW H v g p hs ts qs fp f->Wd hs ts qs f->a∈aI hs->b∈aI hs->Q (.int (ka hs a b)) H->LG K CS CG CW vs H Q E
theorem jV_{CS CG CW:Addr}(F:bo K "joint_strength" "Sight.joint_strength" oi f0 fd)(TS:hG K CS)(TG:eR K CG)(TW:Txt K mg CW)(cS:!bG CW 2 "strength" j9 (EK K CW)):!aj aZ 3 f0 fd mw (LG K CS CG CW):=by
 apply F.bI xY λaR A outer s H vs Q E hr h=>?_
 ·let#[v,g,p,a,b,hs,ts,qs,fp,f,rfl,S,W,ha,hb,k]:=h;refine' #[_,aF ?s2,?kk]
  case s2=>exact bh (bF iV (fU cS TW.cl hr (eE (eE (pv 0) Z) Z) %[1|0]) (fU cS TW.cl hr (eE (eE (pv 0) Z) Z) %[2|0]))
  let#[dx,dl,dv,dp,ad,h1,G,h3,h4,h5,h6]:=S.ex;let#[lB,dw,dy,vs,cK,g1,g2,_]:=id G.ex;let#[gj,d1,l2,d3,l_,as,ef,w1,_]:=id g2.ex;have iO:(dm d1 l2 d3).lookup ("strength":Str)=none:=j5 _ _ _ Z0 Z0 Z0;apply#[_,Z,v,CS,dx,_,_,Z,h1,TS.cl,TS.nW,ia _ _ _ _,g,CG,lB,_,_,Z,g1,TG.cl,TG.nW,qy _ _ _,p,gj,_,Z,w1,iO,_,Z,p,a,strOf hs a,hs,ts,cK,Z,g2,W.Gd.qe,yV ((gn hs).mem_iff.mp ha),?_];apply#[_,Z,v,CS,dx,_,_,Z,h1,TS.cl,TS.nW,ia _ _ _ _,g,CG,lB,_,_,Z,g1,TG.cl,TG.nW,qy _ _ _,p,gj,_,Z,w1,iO,_,Z,p,b,strOf hs b,hs,ts,cK,Z,g2,W.Gd.qe,yV ((gn hs).mem_iff.mp hb),?_];exact#[_,_,Z,Z,k]
end
theorem xg(a b:Str):decide (V.str a=V.str b)=decide (a=b):=by
 by_cases z:a=b
 ·simp[z]
 ·have:¬(V.str a=V.str b):=λe=>z (V.str.inj e);simp[z,this]
abbrev nb(hs:Xa)(ts:Xb)(h:Str):ae:=near (aI hs) (aD ts) h
def kR(hs:Xa)(qs:aC)(f:ag)(n:Str):aM:=[.inl (se hs qs f n),.inr n]
def dN(hs:Xa)(ts:Xb)(qs:aC)(f:ag)(h:Str):ae:=(aU ((nb hs ts h).map (kR hs qs f))).map gP
def Gn(hs:Xa)(qs:aC)(f:ag):V->aM
 |.str n=>kR hs qs f n
 |_=>[]
theorem mh_{hs:Xa}{ts:Xb}{qs:aC}{f:ag}{h:Str}(p:zs.Perm ((nb hs ts h).map V.str))(e:zs.map (Gn hs qs f)=aU (((nb hs ts h).map V.str).map (Gn hs qs f))):zs=(dN hs ts qs f h).map V.str:=by
 let#[ms,rfl,_]:=XT p;have e1:(ms.map V.str).map (Gn hs qs f)=ms.map (kR hs qs f):=by rw[cm];rfl
 have e2:((nb hs ts h).map V.str).map (Gn hs qs f)=(nb hs ts h).map (kR hs qs f):=by
  rw[cm];rfl
 rw[e1,e2] at e
 have em:(ms.map (kR hs qs f)).map gP=ms:=by
  rw[cm];exact List.map_id' ms
 unfold dN;rw[<- e,em]
theorem LV(hs:Xa)(ts:Xb)(qs:aC)(f:ag)(h:Str):(dN hs ts qs f h).Perm (nb hs ts h):=by
 unfold dN;let p:=(mK ((nb hs ts h).map (kR hs qs f))).map gP
 have e:((nb hs ts h).map (kR hs qs f)).map gP=nb hs ts h:=by
  rw[cm];exact List.map_id' _
 rw[e] at p;exact p
theorem Ci{hs:Xa}{ts:Xb}{h n:Str}(m:n∈nb hs ts h):n∈aI hs:=(rR.mp m).1
theorem AE(hs:Xa)(ts:Xb)(h:Str):(nb hs ts h).length<=(aI hs).length:=xt ..
abbrev me:Str:="Sight.rising_neighbours.<locals>.<lambda>"
def rq:Expr:=UU (Nu (FZ (i5 wY) 0))
abbrev Ck:ae:=iU
theorem Ht:∀y∈(kY rq).names,y.2=.free->y.1∈Ck:=by decide +kernel
theorem Bj:Ig ["other"] Ck (kY rq):=#[by decide +kernel,Z,Z,Z,by decide +kernel,by decide +kernel,λx h=>Ht (x,.free) (rO h) Z,by decide +kernel]
section
variable{P:Ae}{w:Af}{K:af}{mg:Str->Option Aa}{base:Heap}
inductive pK (K:af) (CS CG CW:Addr) (vs:ai) (gs:ai) (H:Hp) (Q:VK):Prop
 |mk:∀(v g p:Addr) (n:Str) (hs:Xa) (ts:Xb) (qs:aC) (fp:ay) (f:ag),vs=[.str n]->gs=[.ref v]->jA K CS CG CW H v g p hs ts qs fp f->n∈aI hs->(∀t,H t=none->Q (.ref t) (upd H t (.tup [.int (se hs qs f n),.str n])))->pK K CS CG CW vs gs H Q
def Ba(K:af)(CS CG CW:Addr):ai->ai->Hp->VK->XK->Prop:=λvs gs H Q _=>pK K CS CG CW vs gs H Q
theorem kB_{CS CG CW:Addr}(TS:hG K CS):!jF 1 me (Gi rq) (Gh rq) (kY rq) ["other"] Ck (Ba K CS CG CW):=by
 apply zX Bj (λpm c' lE cl us hl=>?_) (λA outer s H f0 cd cl vs gs Q E hr h hp=>?_)
 ·match us,hl with
  |[_],_=>rfl
 ·let#[v,g,p,n,hs,ts,qs,fp,f,rfl,rfl,S,hn,k]:=h;let hu:=eU hr;let#[dx,dl,dv,dp,ad,h1,G,h3,h4,h5,h6]:=S.ex;apply#[_,eW %[cn hu (eE (pv 1) Z) (pv 0),0|0],?_];exact#[_,Z,v,CS,dx,_,_,Z,h1,TS.cl,TS.nV,Nh _ _ _ _,_,Z,dv,_,Z,gM h4 hn,_,Z,zl,λt ht=>k t ht]
def Il(L:Addr):List (Str × Addr):=[("self",L+1)]
theorem R_{f:Addr}:closureFor (kY rq) (PyProof.Rows.envOfC "Sight.rising_neighbours" (bb wY) L f cd)=pure (Il L):=by rfl
theorem Sb{f:Addr}:∀q∈Il L,(PyProof.Rows.envOfC "Sight.rising_neighbours" (bb wY) L f cd).cells.lookup q.1=some q.2:=by
 intro q hq;simp only[Il,bZ,xw,or_false] at hq;rcases hq with rfl;rfl
theorem Ol:∀x∈Ck,∃c,(Il L).lookup x=some c:=by
 intro x hx;simp only[Ck,bZ,xw,or_false] at hx;rcases hx with rfl;exact#[_,Z]
theorem Oc:∀x∈Ck,(bb wY).names.lookup x=some .cell:=by decide +kernel
theorem Bc:bD j9 j9 (bb wY):=bJ
inductive HF (K:af) (CS CG CW T:Addr) (vs:ai) (H:Hp) (Q:VK) (E:XK):Prop
 |mk:∀(v g p:Addr) (h:Str) (hs:Xa) (ts:Xb) (qs:aC) (fp:ay) (f:ag),vs=[.ref v,.str h]->jA K CS CG CW H v g p hs ts qs fp f->Wd hs ts qs f->h∈aI hs->ee H T me->(∀l H',aX T H H'->ee H' T me->H l=none->H' l=some (.lst ((dN hs ts qs f h).map V.str))->Q (.ref l) H')->HF K CS CG CW T vs H Q E
theorem lt_{CS CG CW T:Addr}(F:lY K Cz "Sight.rising_neighbours" wY f0 c0 fd)(B:Bi mg)(TS:hG K CS)(TG:eR K CG)(TW:Txt K mg CW)(hC:PySem.W.CodeHd base c0 T)(vt:base.BuiltinsAt mg T)(cN:!bG CW 2 "neighbours" j9 (Lr K CW)) :
  aj P w K mg base aZ 4 f0 fd j9 (HF K CS CG CW T):=by
 apply F.ok Bc (λvs H Q E h=>?_) (λA outer s H vs Q E hr h=>?_)
 ·let#[v,g,p,h,hs,ts,qs,fp,f,rfl,_]:=h;rfl
 ·let#[v,g,p,h,hs,ts,qs,fp,f,rfl,S,W,hh,tab,k]:=h;have vh:ba 2 _:=hr.mono (by decide);refine' ⟨_,aF (bh ?l2),?kk⟩
  case l2=>exact W_ (px:="other") (dR:=Ck) (cl:=Il s.heap.objs.size) (is:=[0]) (k:=1) Z (by rfl) B.sorted %[fU cN TW.cl vh (eE (eE (pv 0) Z) Z) %[1|0]|0] (VD (Vl (P:=T) (c:=c0) Z R_ Z hC vt) U9) (kB_ (CG:=CG) (CW:=CW) TS) hr Sb Ol Oc Z
  let#[dx,dl,dv,dp,ad,h1,G,h3,h4,h5,h6]:=S.ex;let#[lB,dw,dy,vs,cK,g1,g2,_]:=id G.ex;let#[gj,d1,l2,d3,l_,as,ef,w1,_]:=id g2.ex;have iO:(dm d1 l2 d3).lookup ("neighbours":Str)=none:=j5 _ _ _ Z0 Z0 Z0;apply#[_,Z,v,CS,dx,_,_,Z,h1,TS.cl,TS.nW,ia _ _ _ _,g,CG,lB,_,_,Z,g1,TG.cl,TG.nW,qy _ _ _,p,gj,_,Z,w1,iO,_,Z,p,h,hs,ts,cK,Z,g2,W.Gd.r9,(gn hs).mem_iff.mp hh,λln nn=>?_];let#[s1,e1]:=aB (o:=.lst ((nb hs ts h).map V.str)) nn;show jI _ (upd H ln (.lst ((nb hs ts h).map V.str))) _;generalize upd H ln (.lst ((nb hs ts h).map V.str))=H1 at s1 e1 ⊢;apply yl (Az ?_);apply Vb (tab.same s1) Z Z Z Z λfl c' H4 b4 h9 Hd DP=>?_;let#[tv,hT]:=ki tab;have F0:NT H1 H4:=b4.nt (s1 _ _ hT);let S4:=(S.same s1).nt F0;have n8:(nb hs ts h).length<=8:=by have:=AE hs ts h;have:=W.Gd.fM;have:=W.Gd.h8;omega
  apply#[.ref ln,fl,c',(nb hs ts h).map V.str,Gn hs qs f,[false,true],[.ref v],Z,Z,Hd,DP,.inl #[ln,Z,.of (F0.lst e1)],by rw[ao];omega,#[by decide,λk hk=>?_],Z,λH' x sm hx=>?_,λl zs H5 s5 nl DB pz ek=>?_]
  ·let#[v,hv,rfl]:=bj.mp hk;let#[n,_,rfl]:=bj.mp hv;rfl
  ·let#[n,hn,rfl]:=bj.mp hx;apply#[v,g,p,n,hs,ts,qs,fp,f,Z,Z,S4.same sm,Ci hn,λt nt=>#[aa.new nt,t,Z,?_]];rw[az];rfl
  rw[mh_ pz ek];have s6:aa H4 (upd H5 l (.lst ((dN hs ts qs f h).map V.str))):=s5.trans (aa.new nl);apply k l _ (λb o e n=>s6 _ _ (b4 _ _ (s1 _ _ e) n)) (h9.same s6) ?_ az;cases z:H l with
  |none=>rfl
  |some o=>
   by_cases y:l=T
   ·let#[es,e,_]:=h9;rw[y,e] at DB;cases DB
   ·rw[b4 _ _ (s1 _ _ z) y] at DB;cases DB
theorem Bm:bD qF qF (bb uy):=bJ
def jU(g:Str)(a b:Int):Bool:=if g="high" then decide (0<a) else if g="fall" then decide (b<2 * a) else decide (b<=a)
def tN:Sp:=λvs H Q _=>∃(g:Str) (a b:Int),vs=[.str g,.int a,.int b]/\Q (.bl (jU g a b)) H
theorem ll_(F:bo K "fits" "fits" uy f0 fd):!aj aZ 1 f0 fd qF tN:=by
 apply F.bI Bm λaR A outer s H vs Q E hr h=>?_
 ·let#[g,a,b,rfl,k]:=h;refine' #[_,ak ?s1 (ak ?s2 (aF ?s3)),?kk]
  case s1=>exact bQ (cz ik (pv 0) cq) (aF (bh (iG rF (pv 1) aE))) bR
  case s2=>exact bQ (cz ik (pv 0) cq) (aF (bh (iG rF (bF ji aE (pv 1)) (pv 2)))) bR
  case s3=>exact bh (iG UC (pv 1) (pv 2))
  unfold jU at k;apply#[_,Z,Z,_,Z,?_];rw[xg];apply aP (λc=>?_) (λc=>?_)
  ·have c:g="high":=jB c;rw[aA c] at k;exact#[_,Z,_,_,Z,Z,k]
  ·have c:¬g="high":=λz=>c (cc z);rw[aq c] at k;apply#[_,Z,Z,_,Z,?_];rw[xg];apply aP (λc=>?_) (λc=>?_)
   ·have c:g="fall":=jB c;rw[aA c] at k;exact#[_,Z,_,_,Z,Z,.inl #[by decide,by decide],_,Z,_,_,Z,Z,k]
   ·have c:¬g="fall":=λz=>c (cc z);rw[aq c] at k;exact#[_,Z,_,Z,_,_,Z,Z,k]
end
abbrev Mv:=Str × Str × Str
def kM(m:Mv):aM:=[.inr m.1,.inr m.2.1,.inr m.2.2]
def AZ(qs:aC)(n:Str):Option (Xb):=match qs.find? λq=>decide (q.1=n) with
 |some q=>q.2.2
 |none=>none
theorem Hm{qs:aC}(nd:(qs.map (·.1)).Nodup){q:Pc}(h:q∈qs):AZ qs q.1=q.2.2:=by
 unfold AZ;cases e:qs.find? λp=>decide (p.1=q.1) with
 |none=>
  have:=AL.mp e q h;simp at this
 |some p=>
  let a:=List.mem_of_find?_eq_some e;let b:=List.find?_some e;have b:p.1=q.1:=jB b;rw[Rq nd a h b]
def jL(hs:Xa)(ts:Xb)(qs:aC)(n a b:Str):Bool:=Cd hs ts (AZ qs n) (some a) (some b)
def qf(hs:Xa)(ts:Xb)(qs:aC)(f:ag)(gd:Str)(gv:ae)(a b n:Str):Bool:=!decide (n∈gv)&&(jU gd (lH hs qs f a b) (eF qs n * ka hs a b)&&jL hs ts qs n a b)
def iz(hs:Xa)(ts:Xb)(qs:aC)(f:ag)(gd:Str)(gv:ae)(a b:Str):List Mv:=match (bS qs f a).find? (qf hs ts qs f gd gv a b) with
 |some n=>[(n,a,b)]
 |none=>[]
theorem VY{α:Type}{p:α->Bool}:∀{l:List α} {i:Nat} {x:α},l[i]? = some x->p x=true->(∀y∈l.take i,p y=false)->l.find? p=some x
 |a::l,0,x,h,hp,_=>by
  cases h;rw[List.find?_cons_of_pos hp]
 |a::l,i+1,x,h,hp,hn=>by
  have na:¬p a=true:=by rw[hn a Z2];decide
  rw[List.find?_cons_of_neg na];exact VY (by simpa using h) hp λy hy=>hn y (by simp[hy])
 |[],i,x,h,_,_=>by simp at h
theorem Lz{qs:aC}{f:ag}{h n:Str}(m:n∈bS qs f h):n∈qs.map (·.1)/\f n=h:=by
 let#[a,b]:=rR.mp m;exact#[(C5 qs).mem_iff.mp a,jB b]
variable{T:Addr}
section
variable{P:Ae}{w:Af}{K:af}{mg:Str->Option Aa}{base:Heap}
theorem pP:bD ["sight","one","other","guard","given","lead","joint","piece"] lS (bb Bs):=bJ
inductive kD (K:af) (CS CG CW:Addr) (vs:ai) (H:Hp) (Q:VK) (E:XK):Prop
 |mk:∀(v g p lg:Addr) (a b gd:Str) (gv:ae) (hs:Xa) (ts:Xb) (qs:aC) (fp:ay) (f:ag),vs=[.ref v,.str a,.str b,.str gd,.ref lg]->jA K CS CG CW H v g p hs ts qs fp f->Wd hs ts qs f->a∈aI hs->b∈aI hs->H lg=some (.lst (gv.map V.str))->(∀l ys H',aa H H'->H l=none->H' l=some (.lst ys)->bg K H' ys ((iz hs ts qs f gd gv a b).map kM)->Q (.ref l) H')->kD K CS CG CW vs H Q E
theorem lO_{CS CG CW:Addr}(F:bo K "heaviest_move" "heaviest_move" Bs f0 fd)(TS:hG K CS)(TG:eR K CG)(cL:!bG CS 3 "lead" mw (El K CS CG CW))(cJ:!bG CS 3 "joint_strength" mw (LG K CS CG CW))(cF:!br 1 "fits" qF tN)(cW:!bG CG 2 "weight" Aw (C4 K CG CW CP))(cM:!bG CG 3 "may_go" qK (K8 K CG CW CP)) :
  aj P w K mg base aZ 4 f0 fd lS (kD K CS CG CW):=by
 apply F.bI pP λaR A outer s H vs Q E hr h=>?_
 ·let#[v,g,p,lg,a,b,gd,gv,hs,ts,qs,fp,f,rfl,S,W,ha,hb,hg,k]:=h;let hu:=eU hr;let sz:=b_;have vh:ba 2 _:=hr.mono (by decide);refine' #[_,?r0,?kk]
  case' r0=>refine' ak ?s1 ?r1
  case' r1=>refine' ak ?s2 ?r2
  case' r2=>refine' ak ?s3 (aF ?s4)
  case s1=>exact aQ 5 pP.nd (fU cL TS.cl hr (pv 0) %[1,2|0])
  case s2=>exact aQ 6 pP.nd (fU cJ TS.cl hr (pv 0) %[1,2|0])
  case' s3=>refine' eM dX Z (dF (cn hu (eE (pv 0) Z) (pv 1))) (bU 7 pP.nd) (aF ?b3)
  case' b3=>refine' bQ (PW.pt (yQ ?c1 (CZ ?c2))) (aF ?b4) bR
  case c1=>exact cz (L3 fP (oN hr 0)) (pv 7) (pv 4) (by with_unfolding_all rfl)
  case c2=>exact gg (aY cF hr %[3,5,bF ji (fU cW TG.cl vh (eE (pv 0) Z) %[7|0]) (pv 6)|0])
  case b4=>exact bQ (gg (fU cM TG.cl hr (eE (pv 0) Z) %[7,1,2|0])) (aF (bh (cO %[eW %[7,1,2|0]|0]))) bR
  case s4=>exact bh (cO aJ)
  let#[dx,dl,dv,dp,ad,h1,G,h3,h4,h5,h6]:=S.ex;have no:∀{m:Str},¬m="wares"->¬m=jE->¬m=qr->¬m=Cw->(eI g dl dv dp).lookup m=none:=λa b c d=>DX _ _ _ _ a b c d;apply#[_,Z,v,dx,_,Z,h1,no Z0 Z0 Z0 Z0,_,Z,_,Z,v,g,p,a,b,hs,ts,qs,fp,f,Z,S,W,ha,hb,?_];lk;apply#[_,Z,v,dx,_,Z,h1,no Z0 Z0 Z0 Z0,_,Z,_,Z,v,g,p,a,b,hs,ts,qs,fp,f,Z,S,W,ha,hb,?_];lk;let hl:=h6 a ha
  let Jl:bL:=λi σ H'=>∃v7:aK,σ=[some (.ref v),some (.str a),some (.str b),some (.str gd),some (.ref lg),some (.int (lH hs qs f a b)),some (.int (ka hs a b)),v7]/\aa H H'/\∀n∈(bS qs f a).take i,qf hs ts qs f gd gv a b n=false
  apply#[_,Z,v,CS,dx,_,_,Z,h1,TS.cl,TS.nP,Fv _ _ _ _,_,Z,dp,_,Z,gM h5 ha,ad a,Z,#[_,.of hl],gc (K:=K) (a:=ad a) (xs:=(bS qs f a).map V.str) Jl #[none,Z,aa.refl H,by simp] (λi σ H' _ ⟨_,_,sm,_⟩=>.of (sm _ _ hl)) ?_ ?_]
  ·rintro i x σ H' hx ⟨v7,rfl,sm,nf⟩;let#[n,hn,rfl]:=iX hx;let#[nm,fn]:=Lz (cw hn);let#[q,hq,rfl]:=bj.mp nm;let G':=G.same sm;let mq:=sm _ _ h1;let#[lB,dw,dy,vs,cK,g1,g2,_]:=id G'.ex;have OB:(cb p dw dy).lookup ("weight":Str)=none:=xh _ _ _ Z0 Z0 Z0;have OT:(cb p dw dy).lookup ("may_go":Str)=none:=xh _ _ _ Z0 Z0 Z0;let wq:=W.wq q hq;let ew:=yK W.nd hq;let ey:=Hm W.nd hq
   have go:∀{H2:Hp},aa H' H2->qf hs ts qs f gd gv a b q.1=false->∃v7:aK,[some (V.ref v),some (V.str a),some (V.str b),some (V.str gd),some (V.ref lg),some (V.int (lH hs qs f a b)),some (V.int (ka hs a b)),some (V.str q.1)]=[some (V.ref v),some (V.str a),some (V.str b),some (V.str gd),some (V.ref lg),some (V.int (lH hs qs f a b)),some (V.int (ka hs a b)),v7]/\aa H H2/\∀n∈(bS qs f a).take (i+1),qf hs ts qs f gd gv a b n=false:=λ{H2} s2 e=>#[_,Z,sm.trans s2,λm hm=>by
    rw[fB hn] at hm;rcases fQ.mp hm with hm|hm
    ·exact nf m hm
    ·rw[jq.mp hm];exact e]
   lk;apply#[_,Z,_,Z,q.1,gv,Z,#[lg,_,Z,.of (sm _ _ hg),C7 gv],_,Z,?_];rw[aA Z];apply aP (λc=>?_) (λc=>?_)
   ·have c:¬q.1∈gv:=by simpa using c
    apply#[_,Z,_,Z,_,Z,v,CS,dx,_,_,Z,mq,TS.cl,TS.nW,ia _ _ _ _,g,lB,_,Z,g1,OB,_,Z,g,p,.str q.1,some q.1,hs,ts,qs,fp,Z,G',W.nd,Z,.inl #[q,hq,Z,?_]];apply#[_,Z,_,_,Z,Z,.inl #[by omega,by omega],gd,lH hs qs f a b,q.2.1 * ka hs a b,Z,_,Z,?_];apply aP (λc2=>?_) (λc2=>?_)
    ·apply#[_,Z,v,CS,dx,_,_,Z,mq,TS.cl,TS.nW,ia _ _ _ _,g,lB,_,Z,g1,OT,_,Z,_,Z,_,Z,g,p,.str q.1,.str a,.str b,some q.1,some a,some b,hs,ts,qs,fp,Z,G',W.nd,W.Gd.r9,Z,.inl #[q,hq,Z,Z,Z,λH2 s2=>#[_,Z,?_]]];apply aP (λc3=>?_) (λc3=>?_)
     ·have pt:qf hs ts qs f gd gv a b q.1=true:=by
       unfold qf jL;rw[ew,ey,c2,dS c];simpa using c3
      apply#[_,Z,_,Z,_,Z,zl,λt nt=>?_];let#[s3,e3]:=aB (o:=.tup [.str q.1,.str a,.str b]) nt;generalize upd H2 t (.tup [.str q.1,.str a,.str b])=H3 at s3 e3 ⊢;apply#[zl,λl nl=>?_];let s4:=aa.new (o:=.lst [.ref t]) nl;let jd:=(sm.trans s2).trans s3;apply k l [.ref t] _ (jd.trans s4) (jd.free nl) az ?_;unfold iz;rw[VY hn pt nf];exact .cons #[t,Z,s4 _ _ e3] .nil
     ·apply go s2 ?_;unfold qf jL;rw[ew,ey,c2];have c3:Cd hs ts q.2.2 (some a) (some b)=false:=by simpa using c3
      rw[c3,qA,qA]
    ·apply go (aa.refl H') ?_;unfold qf;rw[ew,show jU gd (lH hs qs f a b) (q.2.1 * ka hs a b)=false by simpa using c2,rP,qA]
   ·have c:q.1∈gv:=by simpa using c
    apply go (aa.refl H') ?_;unfold qf;rw[cc c];rfl
  ·rintro σ H' ⟨v7,rfl,sm,nf⟩;rw[ao,dP] at nf;apply#[zl,λl nl=>?_];apply k l [] _ (sm.trans (aa.new nl)) (sm.free nl) az ?_;unfold iz;rw[AL.mpr λn hn=>by rw[nf n hn];decide];exact .nil
def yX(hs:Xa)(ts:Xb)(qs:aC)(f:ag)(gd h:Str):List Mv:=match dN hs ts qs f h with
 |[]=>[]
 |o::_=>iz hs ts qs f gd [] h o
theorem Yg:bD ["sight","hand","guard","around"] DZ (bb Qx):=bJ
inductive kC (K:af) (CS CG CW T:Addr) (mv:Xa->Xb->aC->(Str->Str)->Str->Str->List Mv) (vs:ai) (H:Hp) (Q:VK) (E:XK):Prop
 |mk:∀(v g p:Addr) (h gd:Str) (hs:Xa) (ts:Xb) (qs:aC) (fp:ay) (f:ag),vs=[.ref v,.str h,.str gd]->jA K CS CG CW H v g p hs ts qs fp f->Wd hs ts qs f->h∈aI hs->ee H T me->(∀l ys H',aX T H H'->ee H' T me->H l=none->H' l=some (.lst ys)->bg K H' ys ((mv hs ts qs f gd h).map kM)->Q (.ref l) H')->kC K CS CG CW T mv vs H Q E
theorem aX.new{H:Hp}(b:aX T H G)(hT:∃vs,G T=some (.tbl vs))(n:G l=none):H l=none:=by
 cases z:H l with
 |none=>rfl
 |some o=>
  by_cases y:l=T
  ·let#[vs,e]:=hT;rw[y,e] at n;cases n
  ·rw[b _ _ z y] at n;cases n
theorem gm_{CS CG CW:Addr}(F:bo K "moves_by_least" "moves_by_least" Qx f0 fd)(TS:hG K CS)(cR:!bG CS 4 Cz j9 (HF K CS CG CW T))(cH:!br 4 "heaviest_move" lS (kD K CS CG CW)):!aj aZ 5 f0 fd DZ (kC K CS CG CW T yX):=by
 apply F.bI Yg λaR A outer s H vs Q E hr h=>?_
 ·let#[v,g,p,h,gd,hs,ts,qs,fp,f,rfl,S,W,hh,tab,k]:=h;refine' #[_,ak ?s1 (ak ?s2 (aF ?s3)),?kk]
  case s1=>exact aQ 3 Yg.nd (fU cR TS.cl hr (pv 0) %[1|0])
  case s2=>exact bQ (cz (Vj fP (oN hr 0)) (pv 3) (cO aJ)) (aF (bh (cO aJ))) bR
  case s3=>exact bh (aY cH hr %[0,1,bO fV (pv 3) aE,2,cO aJ|0])
  let#[dx,dl,dv,dp,ad,h1,G,h3,h4,h5,h6]:=S.ex;apply#[_,Z,v,dx,_,Z,h1,DX _ _ _ _ Z0 Z0 Z0 Z0,_,Z,v,g,p,h,hs,ts,qs,fp,f,Z,S,W,hh,tab,λl1 H1 b1 xK n1 e1=>?_];lk;let#[tv,hT]:=ki tab;let S1:=S.nt (b1.nt hT);apply#[_,Z,zl,λl2 n2=>?_];let#[s2,e2]:=aB (o:=.lst []) n2;generalize upd H1 l2 (.lst [])=H2 at s2 e2 ⊢;let Ef:=s2 _ _ e1;have b2:aX T H H2:=λb o e n=>s2 _ _ (b1 _ _ e n);let mO:=xK.same s2;let FT:=LV hs ts qs f h;apply#[dN hs ts qs f h,[],Yn Ef,Yn e2,_,Z,?_];cases z:dN hs ts qs f h with
  |nil=>
   apply fo #[zl,λl3 n3=>?_];let s3:=aa.new (o:=.lst []) n3;apply k l3 [] _ (λb o e n=>s3 _ _ (b2 _ _ e n)) (mO.same s3) (aX.new b2 (ki mO) n3) az ?_;unfold yX;rw[z];exact .nil
  |cons o r=>
   rw[dS Z2];apply bu ?_;rw[z] at Ef FT;have ob:o∈aI hs:=Ci (FT.mem_iff.mp cZ);apply#[_,Z,_,Z,_,Z,l1,_,0,.str o,Z,Z,.of Ef,L2.iT (j:=0) Z,_,Z,zl,λl3 n3=>?_];let#[s3,e3]:=aB (o:=.lst []) n3;generalize upd H2 l3 (.lst [])=H3 at s3 e3 ⊢;apply#[v,g,p,l3,h,o,gd,[],hs,ts,qs,fp,f,Z,(S1.same s2).same s3,W,hh,ob,e3,λl ys H4 s4 nl hl tu=>?_];let eY:=s3.trans s4;apply k l ys H4 (λb o e n=>eY _ _ (b2 _ _ e n)) (mO.same eY) (aX.new b2 (ki mO) (s3.free nl)) hl ?_;unfold yX;rw[z];exact tu
end
end Ev
abbrev fS:=List Ev.Mv
namespace Ev
open PySem L2
abbrev AW:=Rl->Xa->Xb->aC->(Str->Str)->Str->fS
def CC(mv:AW)(r:Rl)(hs:Xa)(ts:Xb)(qs:aC)(f:ag):fS:=if r.2.2.1="one" then ((aI hs).flatMap (mv r hs ts qs f)).take 1 else (aI hs).flatMap (mv r hs ts qs f)
def yT:AW:=λr hs ts qs f h=>yX hs ts qs f (r.2.2.2.getD "") h
theorem Vp:∀r∈rl,r.2.1≠"shares"->r.2.2.2.isSome=true:=by decide +kernel
theorem C1(hs:Xa)(ts:Xb)(qs:aC)(f:ag)(gd:Str)(gv:ae)(a b:Str):(iz hs ts qs f gd gv a b).length<=1:=by
 unfold iz;split
 ·exact bp 1
 ·exact gG 1
theorem h8_(r:Rl)(hs:Xa)(ts:Xb)(qs:aC)(f:ag)(h:Str):(yT r hs ts qs f h).length<=1:=by
 unfold yT yX;split
 ·exact gG 1
 ·exact C1 ..
theorem IL{α β:Type}{F:α->β->Prop}:∀{ys:List α} {ks:List β} (n:Nat),Paired F ys ks->Paired F (ys.take n) (ks.take n)
 |_,_,0,_=>.nil
 |_,_,_+1,.nil=>.nil
 |_,_,n+1,.cons h t=>.cons h (IL n t)
theorem Xe{α:Type}{g:Str->List α}{n:Nat}(h:∀x,(g x).length<=n):∀l:ae,(l.flatMap g).length<=n * l.length
 |[]=>by simp
 |a::l=>by
  have:=h a;let ih:=Xe h l;rw[xq,eA,iW,Nat.mul_succ];omega
variable{f0:Addr}{fd:Ad}
section
variable{P:Ae}{w:Af}{K:af}{mg:Str->Option Aa}{base:Heap}
theorem RI:bD wV wV (bb HX):=bJ
inductive w6 (K:af) (CS CG CW T:Addr) (pr:Rl->Prop) (mv:AW) (vs:ai) (H:Hp) (Q:VK) (E:XK):Prop
 |mk:∀(v g p aw:Addr) (h:Str) (hs:Xa) (ts:Xb) (qs:aC) (fp:ay) (f:ag),∀r∈rl,vs=[.ref v,.str h,.ref aw]->pr r->(∀H',iZ K H' aw [.str r.2.1,.str r.2.2.1,fL r.2.2.2])->jA K CS CG CW H v g p hs ts qs fp f->Wd hs ts qs f->h∈aI hs->ee H T me->(∀l ys H',aX T H H'->ee H' T me->H l=none->H' l=some (.lst ys)->bg K H' ys ((mv r hs ts qs f h).map kM)->Q (.ref l) H')->w6 K CS CG CW T pr mv vs H Q E
theorem gP_{CS CG CW T:Addr}(F:bo K "moves_from" "moves_from" HX f0 fd)(cL:!br 5 "moves_by_least" DZ (kC K CS CG CW T yX)):!aj aZ 6 f0 fd wV (w6 K CS CG CW T (λr=>r.2.1="least") yT):=by
 apply F.bI RI λaR A outer s H vs Q E hr h=>?_
 ·let#[v,g,p,aw,h,hs,ts,qs,fp,f,r,iN,rfl,le,ha,S,W,hh,tab,k]:=h;refine' #[_,ak ?s1 fF,?kk]
  case s1=>exact bQ (cz ik (bO eO (pv 2) aE) cq) (aF (bh (aY cL hr %[0,1,bO eO (pv 2) aE|0]))) bR
  let so:=Vp r iN (by rw[le];decide +kernel);let#[gd,eg]:=ES.mp so;apply#[_,Z,aw,_,_,_,Z,Z,ha _,Z,Z,_,Z,?_];rw[xg,cc le];apply fo ?_;apply#[_,Z,_,Z,_,Z,aw,_,_,.str gd,Z,Z,ha _,?_,v,g,p,h,gd,hs,ts,qs,fp,f,Z,S,W,hh,tab,λl ys H' b t n e tu=>k l ys H' b t n e ?_]
  ·rw[eg];rfl
  ·unfold yT;rw[eg];exact tu
theorem K6:bD ["sight","rule","moment","words","moves","hand"] Ao (bb kF):=bJ
inductive mU (K:af) (CS CG CW T:Addr) (pr:Rl->Prop) (mv:AW) (vs:ai) (H:Hp) (Q:VK) (E:XK):Prop
 |mk:∀(v g p:Addr) (m:Int) (hs:Xa) (ts:Xb) (qs:aC) (fp:ay) (f:ag),∀r∈rl,vs=[.ref v,.str r.1,.int m]->pr r->jA K CS CG CW H v g p hs ts qs fp f->Wd hs ts qs f->ee H T me->(∀l ys H',aX T H H'->ee H' T me->H l=none->H' l=some (.lst ys)->bg K H' ys ((CC mv r hs ts qs f).map kM)->Q (.ref l) H')->mU K CS CG CW T pr mv vs H Q E
theorem lc_{CS CG CW T:Addr}{pr:Rl->Prop}{mv:AW}(F:bo K "moves_seen" "moves_seen" kF f0 fd)(TS:hG K CS)(TG:eR K CG)(TW:Txt K mg CW)(npr:∀r,pr r->r.2.1≠"turns")(hb:∀r hs ts qs f h,Wd hs ts qs f->(mv r hs ts qs f h).length<=1000)(Iu:!br 2 "checked_words" ["rule"] (LH K))(cH:!bG CW 1 "hands" iU (Es K CW))(cF:!br 6 "moves_from" wV (w6 K CS CG CW T pr mv)) :
  aj P w K mg base aZ 7 f0 fd Ao (mU K CS CG CW T pr mv):=by
 apply F.bI K6 λaR A outer s H vs Q E hr h=>?_
 ·let#[v,g,p,m,hs,ts,qs,fp,f,r,iN,rfl,hp,S,W,tab,k]:=h;let sz:=b_;have k8:ba 1 _:=hr.mono (by decide);refine' #[_,?r0,?kk]
  case' r0=>refine' ak ?s1 ?r1
  case' r1=>refine' ak ?s2 ?r2
  case' r2=>refine' ak ?s3 ?r3
  case' r3=>refine' ak ?s4 (aF ?s5)
  case s1=>exact aQ 3 K6.nd (aY Iu hr %[1|0])
  case s2=>exact bQ (cz ik (bO eO (pv 3) aE) cq) fF bR
  case s3=>exact aQ 4 K6.nd (cO aJ)
  case' s4=>refine' eM dX Z (dF (AF cH TW.cl k8 (eE (eE (pv 0) Z) Z))) (bU 5 K6.nd) (ak ?b1 (aF ?b2))
  case b1=>exact hZ (gX il PySem.F.slot_list_extend PySem.F.type_list_extend IQ (pv 4) %[aY cF hr %[0,5,3|0]|0])
  case b2=>exact bQ (PW.pt (yQ (cz ik (bO eO (pv 3) aE) cq) (CZ (cz (L8 (oN hr 0)) (pv 4) (cO aJ))))) (aF (bh (xi C0 (pv 4) xb (xc aE)))) bR
  case s5=>exact bh (pv 4)
  apply#[_,Z,r,iN,Z,λaw ha=>?_];lk;apply#[_,Z,aw,_,_,_,Z,Z,ha _,Z,Z,_,Z,?_];rw[xg,dS (npr r hp)];apply bu ?_;apply#[zl,λlm nm=>?_];lk;let#[s1,e1]:=aB (o:=.lst []) nm;generalize upd H lm (.lst [])=H1 at s1 e1 ⊢;let#[dx,dl,dv,dp,ad,h1,G,h3,h4,h5,h6]:=(S.same s1).ex;let#[lB,dw,dy,vs,cK,g1,g2,_]:=id G.ex;let#[gj,d1,l2,d3,l_,as,ef,w1,_]:=id g2.ex;have iO:(dm d1 l2 d3).lookup ("hands":Str)=none:=j5 _ _ _ Z0 Z0 Z0;apply#[_,Z,v,CS,dx,_,_,Z,h1,TS.cl,TS.nW,ia _ _ _ _,g,CG,lB,_,_,Z,g1,TG.cl,TG.nW,qy _ _ _,p,gj,_,Z,w1,iO,p,hs,ts,cK,Z,g2,λlh nh=>?_];let#[s2,e2]:=aB (o:=.lst ((aI hs).map V.str)) nh;generalize upd H1 lh (.lst ((aI hs).map V.str))=H2 at s2 e2 ⊢;have lmh:lm≠lh:=bq e1 nh;let hU:=s1.trans s2;let#[tv,hT]:=ki tab;have neT:∀{b:Addr} {xs:ai},H2 b=some (.lst xs)->b≠T:=λe z=>by rw[z,hU _ _ hT] at e;cases e
  have n8:(aI hs).length<=8:=by have:=W.Gd.fM;have:=W.Gd.h8;omega
  have bound:∀i,(((aI hs).take i).flatMap (mv r hs ts qs f)).length<=8000:=λi=>by
   have:=Xe (g:=mv r hs ts qs f) (n:=1000) (λx=>hb r hs ts qs f x W) ((aI hs).take i);rw[dg] at this;omega
  let Jk:bL:=λi σ H'=>∃(v5:aK) (ys:ai),σ=[some (.ref v),some (.str r.1),some (.int m),some (.ref aw),some (.ref lm),v5]/\aX T H H'/\ee H' T me/\H' lh=some (.lst ((aI hs).map V.str))/\H' lm=some (.lst ys)/\bg K H' ys ((((aI hs).take i).flatMap (mv r hs ts qs f)).map kM)/\(r.2.2.1="one"->((aI hs).take i).flatMap (mv r hs ts qs f)=[])
  apply#[lh,Z,#[_,.of e2],gc (K:=K) (a:=lh) (xs:=(aI hs).map V.str) Jk #[none,[],Z,λb o e n=>hU _ _ e,tab.same hU,e2,s2 _ _ e1,.nil,λ_=>rfl] (λi σ H' _ ⟨_,_,_,_,_,z,_⟩=>.of z) ?_ ?_]
  ·rintro i x σ H' hx ⟨v5,ys,rfl,bT,kz,ic,vm,tu,one⟩;let#[n,hn,rfl]:=iX hx;let NJ:=cw hn;lk;let S':=S.nt (bT.nt hT);apply#[_,Z,.inl #[Z,_,.of vm],_,Z,_,Z,_,Z,v,g,p,aw,n,hs,ts,qs,fp,f,r,iN,Z,hp,ha,S',W,NJ,kz,λl zs H3 b3 ku nl hl tz=>?_];let#[tv',DQ]:=ki kz;let NF:=b3.nt DQ;let yA:=NF.lst vm;let _J:=bg.nt tu NF;have lT:l≠T:=λz=>by rw[z,DQ] at nl;cases nl
   have KI:lm≠l:=bq vm nl;let b03:=bound i;let ly:=bK tu;let lz:=bK tz;rw[ao] at ly lz;let bz:=hb r hs ts qs f n W;apply#[lm,l,ys,zs,Z,Z,yA,hl,by omega,?_];have e4:upd H3 lm (.lst (ys++zs)) lm=some (.lst (ys++zs)):=az
   have b4:aX T H (upd H3 lm (.lst (ys++zs))):=λb o e ne=>by
    rw[au (bq e nm)];exact b3 _ _ (bT _ _ e ne) ne
   have h9:ee (upd H3 lm (.lst (ys++zs))) T me:=ee.putL ku yA
   have B2:upd H3 lm (.lst (ys++zs)) lh=some (.lst ((aI hs).map V.str)):=by
    rw[au lmh.symm];exact NF.lst ic
   have fl:((aI hs).take (i+1)).flatMap (mv r hs ts qs f)=((aI hs).take i).flatMap (mv r hs ts qs f)++mv r hs ts qs f n:=by
    rw[fB hn,AS,xq,List.flatMap_nil,g_]
   have E4:bg K (upd H3 lm (.lst (ys++zs))) (ys++zs) ((((aI hs).take (i+1)).flatMap (mv r hs ts qs f)).map kM):=by
    rw[fl,cu];exact km (i9 _J yA) (i9 tz yA)
   generalize upd H3 lm (.lst (ys++zs))=H4 at e4 b4 h9 B2 E4 ⊢;dsimp only;apply#[_,Z,aw,_,_,_,Z,Z,ha _,Z,Z,_,Z,?_];rw[xg];apply aP (λc=>?_) (λc=>?_)
   ·have c:r.2.2.1="one":=jB c;apply#[_,Z,zl,λle ne=>?_];let#[s5,e5]:=aB (o:=.lst []) ne;generalize upd H4 le (.lst [])=H5 at s5 e5 ⊢;apply#[lm,le,ys++zs,Z,Z,.of (s5 _ _ e4),.of e5,_,Z,?_];let ll:=bK E4;rw[ao] at ll;apply aP (λc2=>?_) (λc2=>?_)
    ·apply#[_,Z,_,Z,lm,_,Z,.of (s5 _ _ e4),λlq nq=>?_];rw[show gD (ys++zs) none (some 1)=(ys++zs).take 1 from EE (ys++zs) 1];let s6:=aa.new (o:=.lst ((ys++zs).take 1)) nq;let qZ:=s5.trans s6;have b6:aX T H (upd H5 lq (.lst ((ys++zs).take 1))):=λb o e n=>qZ _ _ (b4 _ _ e n);apply k lq _ _ b6 (h9.same qZ) (aX.new (T:=T) (G:=H5) (λb o e n=>s5 _ _ (b4 _ _ e n)) (ki (h9.same s5)) nq) az ?_;unfold CC;rw[aA c]
     have nz:((aI hs).take (i+1)).flatMap (mv r hs ts qs f)≠[]:=λz=>by
      rw[z,sL] at ll;have y:ys++zs=[]:=zc.mp ll;rw[y] at c2;simp at c2
     have e7:((aI hs).flatMap (mv r hs ts qs f)).take 1=(((aI hs).take (i+1)).flatMap (mv r hs ts qs f)).take 1:=by
      conv=>lhs;rw[<- List.take_append_drop (i+1) (aI hs),AS]
      cases z:((aI hs).take (i+1)).flatMap (mv r hs ts qs f) with
      |nil=>exact absurd z nz
      |cons a b=>rfl
     rw[e7,List.map_take];exact IL 1 (E4.same qZ)
    ·have z:ys++zs=[]:=by simpa using c2
     apply#[_,_,Z,λb o e n=>s5 _ _ (b4 _ _ e n),h9.same s5,s5 _ _ B2,s5 _ _ e4,E4.same s5,λ_=>?_];rw[z,sL] at ll;exact zc.mp ll.symm
   ·apply#[_,_,Z,b4,h9,B2,e4,E4,λz=>absurd (cc z) c]
  ·rintro σ H' ⟨v5,ys,rfl,bT,kz,ic,vm,tu,one⟩;rw[ao,dP] at tu one;apply#[_,Z,k lm ys H' bT kz nm vm ?_];unfold CC;by_cases c:r.2.2.1="one"
   ·rw[aA c];have:=one c;rw[this] at tu ⊢;exact tu
   ·rw[aq c];exact tu
end
structure o9 (P:Ae) (w:Af) (K:af) (mg:Str->Option Aa) (base:Heap) (C:Addr) (k:Nat) (x:Str) (ps:ae) (sp:Sp):Prop where
 ex:∃f fd,aj P w K mg base aZ k f fd ps sp/\Mk K C f/\mg x=some (.ref C)/\rJ K fd ps []
theorem N_{n_:Nat}{X:Cx}{C:Addr}{k:Nat}{x:Str}{ps:ae}{sp:Sp}{p pos:Pos}{e:Expr}{es:List Expr}{t:TA}(c:o9 X.prog X.w X.K X.mg X.base C k x ps sp)(hr:ba n_ X.A)(ha:PA X (e::es) t)(hg:Gl X x:=by rfl)(oJ:(x == ("__debug__":Str))=false:=by decide)
  (he:starEach (e::es) X.env=(false,eval e X.env)::starEach es X.env:=by rfl) (mm:(backTo pos (starEach es X.env)).any (·.1)=false:=by rfl) (hk:(k+1)<=n_:=by decide):PE X (.Call (.Name x p) (e::es) [] pos) (zw C sp [] E0 t):=by
 let#[f,fd,F,M,m,b]:=c.ex;exact kv_ M F (hr.mono hk) hg m b .nil kK ha oJ he mm
section
variable{P:Ae}{w:Af}{K:af}{mg:Str->Option Aa}{base:Heap}
theorem tR:bD ["thing","least"] ["thing","least"] (bb Re):=bJ
def Xt:Sp:=λvs H Q _=>∃i a:Int,vs=[.int i,.int a]/\Q (.bl (decide (a<=i))) H
theorem hb_(F:bo K "is_whole_from" "is_whole_from" Re f0 fd)(cI:!br 1 "is_whole" gZ tL):!aj aZ 2 f0 fd ["thing","least"] Xt:=by
 apply F.bI tR λaR A outer s H vs Q E hr h=>?_
 ·let#[i,a,rfl,k]:=h;apply#[_,aF (bh (sJ (aY cI hr %[0|0]) (oU (iG wU (pv 1) (pv 0))))),?_];exact#[_,Z,i,Z,_,Z,fo #[_,Z,_,Z,_,_,Z,Z,k]]
theorem fD':bD gZ gZ (bb Rt):=bJ
def Y4:Sp:=λvs H Q _=>∃i:Int,vs=[.int i]/\0<=i/\Q (.int i) H
theorem f9_(F:bo K "checked_moments" "checked_moments" Rt f0 fd)(cI:!br 2 "is_whole_from" ["thing","least"] Xt):!aj aZ 3 f0 fd gZ Y4:=by
 apply F.bI fD' λaR A outer s H vs Q E hr h=>?_
 ·let#[i,rfl,h0,k]:=h;apply#[_,ak (bQ (hY (gg (aY cI hr %[0,aE|0]))) fF bR) (aF (bh (pv 0))),?_];apply#[_,Z,i,0,Z,_,Z,?_];rw[cc h0];exact bu #[_,Z,k]
theorem ub:bD qE qE (bb Q0):=bJ
def Xs(K:af)(CG CW:Addr):Sp:=λvs H Q _=>∃(g d:V),∃r∈rl,vs=[g,d,.str r.1]/\Mf K CG CW [g,d] H Q E0
theorem hY_{CG CW:Addr}(F:bo K "checked_start" "checked_start" Q0 f0 fd)(Iu:!br 2 "checked_words" ["rule"] (LH K))(cS:!br 2 "checked_stand" ["goods","stand"] (Mf K CG CW)):!aj aZ 3 f0 fd qE (Xs K CG CW):=by
 apply F.bI ub λaR A outer s H vs Q E hr h=>?_
 ·let#[g,d,r,iN,rfl,h]:=h;apply#[_,ak (hZ (aY Iu hr %[2|0])) (aF (bh (aY cS hr %[0,1|0]))),?_];exact#[_,Z,r,iN,Z,λa _=>#[_,Z,_,Z,h]]
structure xy (K:af) (CG CW:Addr) (H:Hp) (g p d:Addr) (hs:Xa) (ts:Xb) (qs:aC) (fp:ay) (ns:ae) (f:ag):Prop where
 G:iC K CG CW H g p hs ts qs fp
 qo:d∉fp
 hd:H d=some (.dK (bN ns f))
 so:QN hs qs ns f
 has:∀b∈fp,∃o,H b=some o/\∀vs,o≠.tbl vs
theorem xy.nt{CG CW g p d:Addr}{H G:Hp}{hs:Xa}{ts:Xb}{qs:aC}{fp:ay}{ns:ae}{f:ag}(S:xy K CG CW H g p d hs ts qs fp ns f)(s:NT H G):xy K CG CW G g p d hs ts qs fp ns f:=#[S.G.nt s,S.qo,s.dK S.hd,S.so,λb hb=>by
 let#[o,e,n]:=S.has b hb;exact#[o,s _ _ e n,n]]
structure Tb (H:Hp) (T1 T2:Addr):Prop where
 a:ee H T1 zN
 b:ee H T2 me
 ne:T1≠T2
end
def qt(hs:Xa)(ts:Xb)(qs:aC)(f:ag)(gd h:Str):fS->ae->fS
 |ms,[]=>ms
 |ms,o::l=>if 0<lH hs qs f h o then qt hs ts qs f gd h (ms++iz hs ts qs f gd (ms.map (·.1)) h o) l else qt hs ts qs f gd h ms l
def AA(hs:Xa)(ts:Xb)(qs:aC)(f:ag)(gd h:Str):fS:=qt hs ts qs f gd h [] (dN hs ts qs f h)
variable{T:Addr}
section
variable{P:Ae}{w:Af}{K:af}{mg:Str->Option Aa}{base:Heap}
theorem L_:bD ["sight","hand","guard","moves","other","given"] DZ (bb RW):=bJ
theorem gn_{CS CG CW:Addr}(F:bo K "moves_by_below" "moves_by_below" RW f0 fd)(TS:hG K CS)(cR:!bG CS 4 Cz j9 (HF K CS CG CW T))(cL:!bG CS 3 "lead" mw (El K CS CG CW))(cH:!br 4 "heaviest_move" lS (kD K CS CG CW)):!aj aZ 5 f0 fd DZ (kC K CS CG CW T AA):=by
 apply F.bI L_ λaR A outer s H vs Q E hr h=>?_
 ·let#[v,g,p,h,gd,hs,ts,qs,fp,f,rfl,S,W,hh,tab,k]:=h;let sz:=b_;have GK:ba 3 _:=hr.mono (by decide);refine' #[_,ak ?s1 (ak ?s2 (aF ?s3)),?kk]
  case s1=>exact aQ 3 L_.nd (cO aJ)
  case' s2=>refine' eM dX Z (dF (fU cR TS.cl hr (pv 0) %[1|0])) (bU 4 L_.nd) (aF (bQ ?t1 (ak ?b1 (aF ?b2)) bR))
  case t1=>exact cz rF (fU cL TS.cl GK (pv 0) %[1,4|0]) aE
  case b1=>exact Lm (i:=5) ["move"] 1 [] L_.nd Z (Or.inl Z) (dF (pv 3)) (λfp s H=>fw (i:=0) (show (["move"]:ae).Nodup by decide +kernel) Z (Or.inl Z)) (λfp s H=>iY) (λfp s H=>bO (yt (K:=K) jf eO) (pv 0) aE)
  case b2=>exact hZ (gX il PySem.F.slot_list_extend PySem.F.type_list_extend IQ (pv 3) %[aY cH hr %[0,1,4,2,5|0]|0])
  case s3=>exact bh (pv 3)
  have n8:(aI hs).length<=8:=by have:=W.Gd.fM;have:=W.Gd.h8;omega
  apply#[zl,λlm nm=>?_];lk;let#[s1,e1]:=aB (o:=.lst []) nm;generalize upd H lm (.lst [])=H1 at s1 e1 ⊢;let S1:=S.same s1;let xK:=tab.same s1;let#[dx,dl,dv,dp,ad,h1,G,h3,h4,h5,h6]:=S1.ex;apply#[_,Z,v,dx,_,Z,h1,DX _ _ _ _ Z0 Z0 Z0 Z0,_,Z,v,g,p,h,hs,ts,qs,fp,f,Z,S1,W,hh,xK,λl1 H2 b2 mO n1 e2=>?_];let#[tv,hT]:=ki xK;let#[_I,Wy]:=ki mO;let yi:=b2.nt hT;let S2:=S1.nt yi;let m2:=yi.lst e1;have KI:lm≠l1:=bq e1 n1;let FT:=LV hs ts qs f h;have hV:∀x∈dN hs ts qs f h,x∈aI hs:=λx hx=>Ci (FT.mem_iff.mp hx)
  have ll:(dN hs ts qs f h).length<=8:=by
   rw[FT.length_eq];have:=AE hs ts h;omega
  have bT:aX T H H2:=λb o e n=>b2 _ _ (s1 _ _ e) n
  let Jj:bL:=λi σ H'=>∃(v4 v5:aK) (ys:ai) (ms:fS),σ=[some (.ref v),some (.str h),some (.str gd),some (.ref lm),v4,v5]/\aX T H H'/\ee H' T me/\H' l1=some (.lst ((dN hs ts qs f h).map V.str))/\H' lm=some (.lst ys)/\bg K H' ys (ms.map kM)/\ms.length<=i/\qt hs ts qs f gd h ms ((dN hs ts qs f h).drop i)=AA hs ts qs f gd h
  apply#[l1,Z,#[_,.of e2],gc (K:=K) (a:=l1) (xs:=(dN hs ts qs f h).map V.str) Jj #[none,none,[],[],Z,bT,mO,e2,m2,.nil,bp _,Z] (λi σ H' _ ⟨_,_,_,_,_,_,_,z,_⟩=>.of z) ?_ ?_]
  ·rintro i x σ H3 hx ⟨v4,v5,ys,ms,rfl,IP,ku,l3,m3,t3,Gb,eq3⟩;let#[o,ho,rfl]:=iX hx;have hi:i<(dN hs ts qs f h).length:=(cy.mp ho).1;let om:=hV o (cw ho)
   have dr:(dN hs ts qs f h).drop i=o::(dN hs ts qs f h).drop (i+1):=by
    let#[h1,h2]:=cy.mp ho;rw[List.drop_eq_getElem_cons h1,h2]
   rw[dr] at eq3;let#[tv0,hT0]:=ki tab;let S3:=S.nt (IP.nt hT0);let#[Rh,_,_,_,_,k1,_]:=S3.ex;let ly:=bK t3;rw[ao] at ly;lk;apply#[_,Z,v,Rh,_,Z,k1,DX _ _ _ _ Z0 Z0 Z0 Z0,_,Z,_,Z,v,g,p,h,o,hs,ts,qs,fp,f,Z,S3,W,hh,om,_,_,Z,Z,_,Z,?_];apply aP (λc=>?_) (λc=>?_)
   ·have c:0<lH hs qs f h o:=by simpa using c
    have eq3:qt hs ts qs f gd h (ms++iz hs ts qs f gd (ms.map (·.1)) h o) ((dN hs ts qs f h).drop (i+1))=AA hs ts qs f gd h:=by
     rw[qt,aA c] at eq3;exact eq3
    apply#[_,Z,lm,Z,#[_,.of m3],λD hD=>?_]
    let Ji:dY:=λj out H'=>aa H3 H'/\H' D=some (.lst out)/\out=((ms.map (·.1)).take j).map V.str
    apply mJ (own:=1) (fv:=[]) (xs:=ys) Z d_ Ji #[aa.new hD,az,Z] (λj out H' _ ⟨sm,_⟩=>.of (sm _ _ m3)) (λout H4 ⟨s4,d4,eo⟩=>?_) (λj x out H' hx ⟨sm,hd,eo⟩=>?_);rotate_left
    ·let#[q,hq,a,rfl,ha]:=jr t3 hx;have hj:j<ms.length:=(cy.mp hq).1;apply#[_,Z,Z,λNx hN=>d9 ?_];apply#[_,Z,a,_,0,.str q.1,Z,Z,.of (sm _ _ ha),L2.iT (j:=0) Z,out,hd,?_,hN (out++[.str q.1]) _ #[gf sm hD,az,?_]]
     ·rw[eo,ao,dg];omega
     ·rw[eo,fB (show (ms.map (·.1))[j]? = some q.1 by rw[dW,hq];rfl),cu];rfl
    rw[ly,y_ (by rw[ao];exact bp _)] at eo;subst eo;lk;let m4:=s4 _ _ m3;apply#[_,Z,.inl #[Z,_,.of m4],?_];apply#[_,Z,_,Z,_,Z,_,Z,_,Z,v,g,p,D,h,o,gd,ms.map (·.1),hs,ts,qs,fp,f,Z,S3.same s4,W,hh,om,d4,λl5 zs H5 s5 n5 e5 t5=>?_];let jw:=s4.trans s5;let m5:=jw _ _ m3;let lz:=bK t5;let hl:=C1 hs ts qs f gd (ms.map (·.1)) h o;rw[ao] at lz;apply#[lm,l5,ys,zs,Z,Z,m5,e5,by omega,?_];apply#[_,_,ys++zs,ms++iz hs ts qs f gd (ms.map (·.1)) h o,Z,λb u e n=>?_,ee.putL (ku.same jw) m5,?_,az,?_,?_,eq3]
    ·rw[au (bq e nm)];exact jw _ _ (IP _ _ e n)
    ·rw[au KI.symm];exact jw _ _ l3
    ·rw[cu];exact km (i9 (t3.same jw) m5) (i9 t5 m5)
    ·rw[eA];omega
   ·have c:¬0<lH hs qs f h o:=by simpa using c
    apply#[_,_,ys,ms,Z,IP,ku,l3,m3,t3,by omega,?_];rw[qt,aq c] at eq3;exact eq3
  ·rintro σ H3 ⟨v4,v5,ys,ms,rfl,IP,ku,l3,m3,t3,Gb,eq3⟩;rw[ao,List.drop_length] at eq3;apply#[_,Z,k lm ys H3 IP ku nm m3 ?_];rw[<- eq3];exact t3
end
def AD:AW:=λr hs ts qs f h=>AA hs ts qs f (r.2.2.2.getD "") h
theorem Qh{hs:Xa}{ts:Xb}{qs:aC}{f:ag}{gd h:Str}:∀(l:ae) (ms:fS),(qt hs ts qs f gd h ms l).length<=ms.length+l.length
 |[],ms=>bp _
 |o::l,ms=>by
  rw[qt,iW];split
  ·let h1:=Qh (hs:=hs) (ts:=ts) (qs:=qs) (f:=f) (gd:=gd) (h:=h) l (ms++iz hs ts qs f gd (ms.map (·.1)) h o);let h2:=C1 hs ts qs f gd (ms.map (·.1)) h o;rw[eA] at h1;omega
  ·let h1:=Qh (hs:=hs) (ts:=ts) (qs:=qs) (f:=f) (gd:=gd) (h:=h) l ms;omega
theorem io_(r:Rl)(hs:Xa)(ts:Xb)(qs:aC)(f:ag)(h:Str)(W:Wd hs ts qs f):(AD r hs ts qs f h).length<=8:=by
 unfold AD AA;let h1:=Qh (hs:=hs) (ts:=ts) (qs:=qs) (f:=f) (gd:=r.2.2.2.getD "") (h:=h) (dN hs ts qs f h) [];let h2:=(LV hs ts qs f h).length_eq;let h3:=AE hs ts h;let h4:=W.Gd.fM;let h5:=W.Gd.h8;rw[sL] at h1;omega
section
variable{P:Ae}{w:Af}{K:af}{mg:Str->Option Aa}{base:Heap}
theorem gN_{CS CG CW:Addr}(F:bo K "moves_from" "moves_from" HX f0 fd)(cL:!br 5 "moves_by_below" DZ (kC K CS CG CW T AA)):!aj aZ 6 f0 fd wV (w6 K CS CG CW T (λr=>r.2.1="below") AD):=by
 apply F.bI RI λaR A outer s H vs Q E hr h=>?_
 ·let#[v,g,p,aw,h,hs,ts,qs,fp,f,r,iN,rfl,le,ha,S,W,hh,tab,k]:=h;refine' #[_,ak ?s0 (ak ?s1 fF),?kk]
  case s0=>exact bQ (cz ik (bO eO (pv 2) aE) cq) fF bR
  case s1=>exact bQ (cz ik (bO eO (pv 2) aE) cq) (aF (bh (aY cL hr %[0,1,bO eO (pv 2) aE|0]))) bR
  let so:=Vp r iN (by rw[le];decide +kernel);let#[gd,eg]:=ES.mp so;have ln:¬r.2.1="least":=by rw[le];decide +kernel
  apply#[_,Z,aw,_,_,_,Z,Z,ha _,Z,Z,_,Z,?_];rw[xg,dS ln];apply bu ?_;apply#[_,Z,aw,_,_,_,Z,Z,ha _,Z,Z,_,Z,?_];rw[xg,cc le];apply fo ?_;apply#[_,Z,_,Z,_,Z,aw,_,_,.str gd,Z,Z,ha _,?_,v,g,p,h,gd,hs,ts,qs,fp,f,Z,S,W,hh,tab,λl ys H' b t n e tu=>k l ys H' b t n e ?_]
  ·rw[eg];rfl
  ·unfold AD;rw[eg];exact tu
end
def iq(hs:Xa)(ts:Xb):Int:=((fO hs ts).max?).getD 0
variable{m:Int}
theorem Vr{hs:Xa}{ts:Xb}(h1:m∈fO hs ts)(h2:∀a∈fO hs ts,a<=m):m=iq hs ts:=by
 unfold iq;rw[List.max?_eq_some_iff.mpr #[h1,h2]];rfl
theorem Wb{hs:Xa}{ts:Xb}(G:Good hs ts)(h:m∈fO hs ts):0<=m/\m<=8:=by
 let#[n,_,rfl]:=bj.mp h;let h1:=AE hs ts n;let h2:=G.fM;let h3:=G.h8;show 0<=((nb hs ts n).length:Int)/\((nb hs ts n).length:Int)<=8;omega
theorem iN_{hs:Xa}{ts:Xb}(G:Good hs ts){a b:Str}(ha:a∈aI hs)(hb:b∈aI hs):2<=ka hs a b/\ka hs a b<=2000:=by
 let h1:=bP G ha;let h2:=bP G hb;unfold ka;omega
def fj(wt:Str->Int)(ok:Str->Bool):Int->ae->ae
 |_,[]=>[]
 |l,n::ns=>if (ok n&&decide (wt n<=l))=true then n::fj wt ok (l - wt n) ns else fj wt ok l ns
theorem Ic(wt:Str->Int)(ok:Str->Bool):∀(l:Int) (ns:ae),(fj wt ok l ns).Sublist ns
 |_,[]=>.slnil
 |l,n::ns=>by
  unfold fj;split
  ·exact (Ic wt ok _ ns).cons_cons n
  ·exact (Ic wt ok _ ns).cons n
def iH(hs:Xa)(ts:Xb)(qs:aC)(gv:ae)(a b n:Str):Bool:=!decide (n∈gv)&&jL hs ts qs n a b
def nj(hs:Xa)(ts:Xb)(qs:aC)(f:ag)(a b:Str):Int:=lH hs qs f a b / (ka hs a b * (iq hs ts+1))
def Ft(hs:Xa)(ts:Xb)(qs:aC)(f:ag)(gv:ae)(a b:Str):ae:=fj (eF qs) (iH hs ts qs gv a b) (nj hs ts qs f a b) (bS qs f a)
abbrev to3(a b:Str)(n:Str):Mv:=(n,a,b)
def xP(hs:Xa)(ts:Xb)(qs:aC)(f:ag)(gv:ae)(a b:Str):fS:=(Ft hs ts qs f gv a b).map (to3 a b)
theorem Q3{hs:Xa}{ts:Xb}{qs:aC}{f:ag}(W:Wd hs ts qs f)(a:Str):(bS qs f a).length<=63:=by
 have h1:(bS qs f a).length<=(jg qs).length:=xt ..;let h2:=(C5 qs).length_eq;rw[ao] at h2;have:=W.dk;omega
theorem WZ{hs:Xa}{ts:Xb}{qs:aC}{f:ag}(W:Wd hs ts qs f)(gv:ae)(a b:Str):(xP hs ts qs f gv a b).length<=63:=by
 unfold xP;rw[ao];have:=(Ic (eF qs) (iH hs ts qs gv a b) (nj hs ts qs f a b) (bS qs f a)).length_le;let h2:=Q3 W a;unfold Ft;omega
theorem PX{α:Type}{l:List α}{i:Nat}{x:α}(h:l[i]? = some x):l.drop i=x::l.drop (i+1):=by
 let#[h1,h2]:=cy.mp h;rw[List.drop_eq_getElem_cons h1,h2]
section
variable{P:Ae}{w:Af}{K:af}{mg:Str->Option Aa}{base:Heap}
abbrev Ng:ae:=["sight","one","other","given","parts","left","moves","piece","weight"]
theorem Cy:bD Ng ["sight","one","other","given"] (bb Bq):=bJ
inductive tH (K:af) (CS CG CW:Addr) (vs:ai) (H:Hp) (Q:VK) (E:XK):Prop
 |mk:∀(v g p lg:Addr) (a b:Str) (gv:ae) (hs:Xa) (ts:Xb) (qs:aC) (fp:ay) (f:ag),vs=[.ref v,.str a,.str b,.ref lg]->jA K CS CG CW H v g p hs ts qs fp f->Wd hs ts qs f->a∈aI hs->b∈aI hs->H lg=some (.lst (gv.map V.str))->(∀l ys H',aa H H'->H l=none->H' l=some (.lst ys)->bg K H' ys ((xP hs ts qs f gv a b).map kM)->Q (.ref l) H')->tH K CS CG CW vs H Q E
theorem mj_{CS CG CW CP:Addr}(F:bo K "share_moves" "share_moves" Bq f0 fd)(TS:hG K CS)(TG:eR K CG)(TW:Txt K mg CW)(cL:!bG CS 3 "lead" mw (El K CS CG CW))(cJ:!bG CS 3 "joint_strength" mw (LG K CS CG CW))(cN:!bG CW 1 "most_neighbours" iU (mZ K CW))(cW:!bG CG 2 "weight" Aw (C4 K CG CW CP))(cM:!bG CG 3 "may_go" qK (K8 K CG CW CP)) :
  aj P w K mg base aZ 4 f0 fd ["sight","one","other","given"] (tH K CS CG CW):=by
 apply F.bI Cy λaR A outer s H vs Q E hr h=>?_
 ·let#[v,g,p,lg,a,b,gv,hs,ts,qs,fp,f,rfl,S,W,ha,hb,hg,k]:=h;let hu:=eU hr;let sz:=b_;have k8:ba 1 _:=hr.mono (by decide);have vh:ba 2 _:=hr.mono (by decide);refine' #[_,?r0,?kk]
  case' r0=>refine' ak ?s1 ?r1
  case' r1=>refine' ak ?s2 ?r2
  case' r2=>refine' ak ?s3 ?r3
  case' r3=>refine' ak ?s4 (aF ?s5)
  case s1=>exact aQ 4 Cy.nd (bF ji (fU cJ TS.cl hr (pv 0) %[1,2|0]) (bF iV (AF cN TW.cl k8 (eE (eE (pv 0) Z) Z)) aE))
  case s2=>exact aQ 5 Cy.nd (bF vL (fU cL TS.cl hr (pv 0) %[1,2|0]) (pv 4))
  case s3=>exact aQ 6 Cy.nd (cO aJ)
  case' s4=>refine' eM dX Z (dF (cn hu (eE (pv 0) Z) (pv 1))) (bU 7 Cy.nd) (ak ?b1 (aF ?b2))
  case b1=>exact aQ 8 Cy.nd (fU cW TG.cl vh (eE (pv 0) Z) %[7|0])
  case' b2=>refine' bQ (PW.pt (yQ ?c1 (yQ ?c2 (CZ ?c3)))) (ak ?b3 (aF ?b4)) bR
  case c1=>exact cz (L3 fP (oN hr 0)) (pv 7) (pv 3) (by with_unfolding_all rfl)
  case c2=>exact cz wU (pv 8) (pv 5)
  case c3=>exact gg (fU cM TG.cl hr (eE (pv 0) Z) %[7,1,2|0])
  case b3=>exact hZ (gX il mE mF lN (pv 6) %[eW %[7,1,2|0]|0])
  case b4=>exact aQ 5 Cy.nd (bF Hy (pv 5) (pv 8))
  case s5=>exact bh (pv 6)
  let#[dx,dl,dv,dp,ad,h1,G,h3,h4,h5,h6]:=S.ex;let#[lB,dw,dy,vs,cK,g1,g2,_]:=id G.ex;let#[gj,d1,l2,d3,l_,as,ef,w1,_]:=id g2.ex;have hnm:(dm d1 l2 d3).lookup ("most_neighbours":Str)=none:=j5 _ _ _ Z0 Z0 Z0;have no:∀{m:Str},¬m="wares"->¬m=jE->¬m=qr->¬m=Cw->(eI g dl dv dp).lookup m=none:=λa b c d=>DX _ _ _ _ a b c d;let jo:=iN_ W.Gd ha hb;let nl:=W.Gd.fM;let n1:=W.Gd.h1;let n8:=W.Gd.h8;apply#[_,Z,v,dx,_,Z,h1,no Z0 Z0 Z0 Z0,_,Z,_,Z,v,g,p,a,b,hs,ts,qs,fp,f,Z,S,W,ha,hb,?_];apply#[_,Z,v,CS,dx,_,_,Z,h1,TS.cl,TS.nW,ia _ _ _ _,g,CG,lB,_,_,Z,g1,TG.cl,TG.nW,qy _ _ _,p,gj,_,Z,w1,hnm,p,hs,ts,cK,Z,g2,by omega,by omega,λm H1 s1 m1 m2=>?_];let mo:=Wb W.Gd m1;obtain rfl:=Vr m1 m2;have pp:0<ka hs a b * (iq hs ts+1):=Int.mul_pos Z1 Z1
  have pl:ka hs a b * (iq hs ts+1)<1073741824:=by
   have:=Int.mul_le_mul jo.2 (show iq hs ts+1<=9 by omega) Z1 (by decide);omega
  apply#[_,_,Z,Z,_,_,Z,Z,.inl #[by omega,by omega],?_];lk;apply#[_,Z,v,dx,_,Z,s1 _ _ h1,no Z0 Z0 Z0 Z0,_,Z,_,Z,v,g,p,a,b,hs,ts,qs,fp,f,Z,S.same s1,W,ha,hb,_,Z,_,_,Z,Z,#[pp,pl],?_];lk;apply#[zl,λlm nm=>?_];lk;let#[s2,e2]:=aB (o:=.lst []) nm;let Dy:=s1.free nm;generalize upd H1 lm (.lst [])=H2 at s2 e2 ⊢;let hU:=s1.trans s2;let hl:=h6 a ha;let l63:=Q3 W a
  let JI:bL:=λi σ H'=>∃(v7 v8:aK) (left:Int) (ys:ai) (ns:ae),σ=[some (.ref v),some (.str a),some (.str b),some (.ref lg),some (.int (ka hs a b * (iq hs ts+1))),some (.int left),some (.ref lm),v7,v8]/\aa H H'/\H' lm=some (.lst ys)/\bg K H' ys ((ns.map (to3 a b)).map kM)/\ns.length<=i/\ns++fj (eF qs) (iH hs ts qs gv a b) left ((bS qs f a).drop i)=Ft hs ts qs f gv a b
  apply#[_,Z,v,CS,dx,_,_,Z,hU _ _ h1,TS.cl,TS.nP,Fv _ _ _ _,_,Z,dp,_,Z,gM (hU _ _ h5) ha,ad a,Z,#[_,.of (hU _ _ hl)],gc (K:=K) (a:=ad a) (xs:=(bS qs f a).map V.str) JI #[none,none,_,[],[],Z,hU,e2,.nil,bp _,Z] (λi σ H' _ ⟨_,_,_,_,_,_,sm,_⟩=>.of (sm _ _ hl)) ?_ ?_]
  ·rintro i x σ H' hx ⟨v7,v8,left,ys,ns,rfl,sm,vm,tu,ln,eq⟩;let#[n,hn,rfl]:=iX hx;have hi:i<(bS qs f a).length:=(cy.mp hn).1;let#[NJ,fn]:=Lz (cw hn);let#[q,hq,rfl]:=bj.mp NJ;let G':=G.same sm;let mq:=sm _ _ h1;let#[HU,YJ,YG,Kh,fpw',Xi,g2',_]:=id G'.ex;have OB:(cb p YJ YG).lookup ("weight":Str)=none:=xh _ _ _ Z0 Z0 Z0;have OT:(cb p YJ YG).lookup ("may_go":Str)=none:=xh _ _ _ Z0 Z0 Z0;let ew:=yK W.nd hq;let ey:=Hm W.nd hq;rw[PX hn,fj] at eq;let ly:=bK tu;rw[ao,ao] at ly
   have go:∀{H2:Hp} {v8:aK},aa H' H2->(iH hs ts qs gv a b q.1&&decide (eF qs q.1<=left))=false->∃(v7 _w:aK) (zW:Int) (ys:ai) (ns:ae),[some (V.ref v),some (.str a),some (.str b),some (.ref lg),some (.int (ka hs a b * (iq hs ts+1))),some (.int left),some (.ref lm),some (.str q.1),v8]=[some (V.ref v),some (.str a),some (.str b),some (.ref lg),some (.int (ka hs a b * (iq hs ts+1))),some (.int zW),some (.ref lm),v7,_w]/\aa H H2/\H2 lm=some (.lst ys)/\bg K H2 ys ((ns.map (to3 a b)).map kM)/\ns.length<=i+1/\ns++fj (eF qs) (iH hs ts qs gv a b) zW ((bS qs f a).drop (i+1))=Ft hs ts qs f gv a b:=λ{H2 v8} s2 e=>by
    rw[e,aq (by decide)] at eq;exact#[_,_,_,ys,ns,Z,sm.trans s2,s2 _ _ vm,tu.same s2,by omega,eq]
   lk;apply#[_,Z,v,CS,dx,_,_,Z,mq,TS.cl,TS.nW,ia _ _ _ _,g,HU,_,Z,Xi,OB,_,Z,g,p,.str q.1,some q.1,hs,ts,qs,fp,Z,G',W.nd,Z,.inl #[q,hq,Z,?_]];lk;apply#[_,Z,_,Z,q.1,gv,Z,#[lg,_,Z,.of (sm _ _ hg),C7 gv],_,Z,?_];apply aP (λc=>?_) (λc=>?_)
   ·have c:¬q.1∈gv:=by simpa using c
    apply#[_,Z,_,Z,_,_,Z,Z,_,Z,?_];apply aP (λc2=>?_) (λc2=>?_)
    ·have c2:q.2.1<=left:=by simpa using c2
     apply#[_,Z,v,CS,dx,_,_,Z,mq,TS.cl,TS.nW,ia _ _ _ _,g,HU,_,Z,Xi,OT,_,Z,_,Z,_,Z,g,p,.str q.1,.str a,.str b,some q.1,some a,some b,hs,ts,qs,fp,Z,G',W.nd,W.Gd.r9,Z,.inl #[q,hq,Z,Z,Z,λH3 s3=>#[_,Z,?_]]];apply aP (λc3=>?_) (λc3=>?_)
     ·have pt:(iH hs ts qs gv a b q.1&&decide (eF qs q.1<=left))=true:=by
       unfold iH jL;rw[ew,ey,cc c2,dS c];simpa using c3
      rw[aA pt,ew] at eq;apply#[_,Z,.inl #[Z,_,.of (s3 _ _ vm)],_,Z,_,Z,_,Z,zl,λt nt=>?_];let#[s4,e4]:=aB (o:=.tup [.str q.1,.str a,.str b]) nt;generalize upd H3 t (.tup [.str q.1,.str a,.str b])=H4 at s4 e4 ⊢;let eY:=s3.trans s4;let GX:=eY _ _ vm;apply#[lm,_,_,Z,Z,GX,by omega,?_];dsimp only;apply#[_,Z,_,Z,_,_,Z,Z,?_];lk;apply#[_,_,_,ys++[.ref t],ns++[q.1],Z,λb' o e=>?_,az,?_,?_,?_]
      ·rw[au (bq e Dy)];exact eY _ _ (sm _ _ e)
      ·rw[cu,cu];exact i9 (vT (tu.same eY) e4) GX
      ·rw[eA];show ns.length+1<=i+1;omega
      ·rw[xr];exact eq
     ·apply go s3 ?_;unfold iH jL;have c3:Cd hs ts q.2.2 (some a) (some b)=false:=by simpa using c3
      rw[ey,c3,qA,rP]
    ·apply go (aa.refl H') ?_;have c2:¬q.2.1<=left:=by simpa using c2
     rw[ew,dS c2,qA]
   ·have c:q.1∈gv:=by simpa using c
    apply go (aa.refl H') ?_;unfold iH;rw[cc c];rfl
  ·rintro σ H' ⟨v7,v8,left,ys,ns,rfl,sm,vm,tu,ln,eq⟩;rw[ao,List.drop_length,fj,g_] at eq;apply#[_,Z,k lm ys H' sm Dy vm ?_];unfold xP;rw[<- eq];exact tu
end
def oP(hs:Xa)(ts:Xb)(qs:aC)(f:ag)(h:Str):fS->ae->fS
 |ms,[]=>ms
 |ms,o::l=>if 0<lH hs qs f h o then oP hs ts qs f h (ms++xP hs ts qs f (ms.map (·.1)) h o) l else oP hs ts qs f h ms l
def Dc(hs:Xa)(ts:Xb)(qs:aC)(f:ag)(h:Str):fS:=oP hs ts qs f h [] (nb hs ts h)
def Ep:AW:=λ_ hs ts qs f h=>Dc hs ts qs f h
theorem Qi{hs:Xa}{ts:Xb}{qs:aC}{f:ag}(W:Wd hs ts qs f){h:Str}:∀(l:ae) (ms:fS),(oP hs ts qs f h ms l).length<=ms.length+63 * l.length
 |[],ms=>bp _
 |o::l,ms=>by
  rw[oP,iW];split
  ·let h1:=Qi W (h:=h) l (ms++xP hs ts qs f (ms.map (·.1)) h o);let h2:=WZ W (ms.map (·.1)) h o;rw[eA] at h1;omega
  ·let h1:=Qi W (h:=h) l ms;omega
theorem gO_(r:Rl)(hs:Xa)(ts:Xb)(qs:aC)(f:ag)(h:Str)(W:Wd hs ts qs f):(Ep r hs ts qs f h).length<=1000:=by
 unfold Ep Dc;let h1:=Qi W (h:=h) (nb hs ts h) [];let h3:=AE hs ts h;let h4:=W.Gd.fM;let h5:=W.Gd.h8;rw[sL] at h1;omega
variable{CG CS CW:Addr}
section
variable{P:Ae}{w:Af}{K:af}{mg:Str->Option Aa}{base:Heap}
theorem L0:bD ["sight","hand","moves","other","given"] ["sight","hand"] (bb Rx):=bJ
inductive RP (K:af) (CS CG CW:Addr) (vs:ai) (H:Hp) (Q:VK) (E:XK):Prop
 |mk:∀(v g p:Addr) (h:Str) (hs:Xa) (ts:Xb) (qs:aC) (fp:ay) (f:ag),vs=[.ref v,.str h]->jA K CS CG CW H v g p hs ts qs fp f->Wd hs ts qs f->h∈aI hs->(∀l ys H',aa H H'->H l=none->H' l=some (.lst ys)->bg K H' ys ((Dc hs ts qs f h).map kM)->Q (.ref l) H')->RP K CS CG CW vs H Q E
theorem fr_(F:bo K "moves_by_shares" "moves_by_shares" Rx f0 fd)(TS:hG K CS)(TG:eR K CG)(TW:Txt K mg CW)(cN:!bG CW 2 "neighbours" j9 (Lr K CW))(cL:!bG CS 3 "lead" mw (El K CS CG CW))(cH:!br 4 "share_moves" ["sight","one","other","given"] (tH K CS CG CW)):!aj aZ 5 f0 fd ["sight","hand"] (RP K CS CG CW):=by
 apply F.bI L0 λaR A outer s H vs Q E hr h=>?_
 ·let#[v,g,p,h,hs,ts,qs,fp,f,rfl,S,W,hh,k]:=h;let sz:=b_;have vh:ba 2 _:=hr.mono (by decide);have GK:ba 3 _:=hr.mono (by decide);refine' #[_,ak ?s1 (ak ?s2 (aF ?s3)),?kk]
  case s1=>exact aQ 2 L0.nd (cO aJ)
  case' s2=>refine' eM dX Z (dF (fU cN TW.cl vh (eE (eE (pv 0) Z) Z) %[1|0])) (bU 3 L0.nd) (aF (bQ ?t1 (ak ?b1 (aF ?b2)) bR))
  case t1=>exact cz rF (fU cL TS.cl GK (pv 0) %[1,3|0]) aE
  case b1=>exact Lm (i:=4) ["move"] 1 [] L0.nd Z (Or.inl Z) (dF (pv 2)) (λfp s H=>fw (i:=0) (show (["move"]:ae).Nodup by decide +kernel) Z (Or.inl Z)) (λfp s H=>iY) (λfp s H=>bO (yt (K:=K) jf eO) (pv 0) aE)
  case b2=>exact hZ (gX il PySem.F.slot_list_extend PySem.F.type_list_extend IQ (pv 2) %[aY cH hr %[0,1,3,4|0]|0])
  case s3=>exact bh (pv 2)
  have n8:(aI hs).length<=8:=by have:=W.Gd.fM;have:=W.Gd.h8;omega
  apply#[zl,λlm nm=>?_];lk;let#[s1,e1]:=aB (o:=.lst []) nm;generalize upd H lm (.lst [])=H1 at s1 e1 ⊢;let#[dx,dl,dv,dp,ad,h1,G,h3,h4,h5,h6]:=(S.same s1).ex;let#[lB,dw,dy,vs,cK,g1,g2,_]:=id G.ex;let#[gj,d1,l2,d3,l_,as,ef,w1,_]:=id g2.ex;have iO:(dm d1 l2 d3).lookup ("neighbours":Str)=none:=j5 _ _ _ Z0 Z0 Z0;apply#[_,Z,v,CS,dx,_,_,Z,h1,TS.cl,TS.nW,ia _ _ _ _,g,CG,lB,_,_,Z,g1,TG.cl,TG.nW,qy _ _ _,p,gj,_,Z,w1,iO,_,Z,p,h,hs,ts,cK,Z,g2,W.Gd.r9,(gn hs).mem_iff.mp hh,λl1 n1=>?_];let#[s2,e2]:=aB (o:=.lst ((nb hs ts h).map V.str)) n1;have KI:lm≠l1:=bq e1 n1;let hU:=s1.trans s2;generalize upd H1 l1 (.lst ((nb hs ts h).map V.str))=H2 at s2 e2 hU ⊢;have hV:∀x∈nb hs ts h,x∈aI hs:=λx hx=>Ci hx
  have ll:(nb hs ts h).length<=8:=by
   have:=AE hs ts h;omega
  let JH:bL:=λi σ H'=>∃(v3 v4:aK) (ys:ai) (ms:fS),σ=[some (.ref v),some (.str h),some (.ref lm),v3,v4]/\aa H H'/\H' l1=some (.lst ((nb hs ts h).map V.str))/\H' lm=some (.lst ys)/\bg K H' ys (ms.map kM)/\ms.length<=63 * i/\oP hs ts qs f h ms ((nb hs ts h).drop i)=Dc hs ts qs f h
  apply#[l1,Z,#[_,.of e2],gc (K:=K) (a:=l1) (xs:=(nb hs ts h).map V.str) JH #[none,none,[],[],Z,hU,e2,s2 _ _ e1,.nil,bp _,Z] (λi σ H' _ ⟨_,_,_,_,_,_,z,_⟩=>.of z) ?_ ?_]
  ·rintro i x σ H3 hx ⟨v3,v4,ys,ms,rfl,Fs,l3,m3,t3,Gb,eq3⟩;let#[o,ho,rfl]:=iX hx;have hi:i<(nb hs ts h).length:=(cy.mp ho).1;let om:=hV o (cw ho);rw[PX ho] at eq3;let S3:=S.same Fs;let#[Rh,_,_,_,_,k1,_]:=S3.ex;let ly:=bK t3;rw[ao] at ly;lk;apply#[_,Z,v,Rh,_,Z,k1,DX _ _ _ _ Z0 Z0 Z0 Z0,_,Z,_,Z,v,g,p,h,o,hs,ts,qs,fp,f,Z,S3,W,hh,om,_,_,Z,Z,_,Z,?_];apply aP (λc=>?_) (λc=>?_)
   ·have c:0<lH hs qs f h o:=by simpa using c
    have eq3:oP hs ts qs f h (ms++xP hs ts qs f (ms.map (·.1)) h o) ((nb hs ts h).drop (i+1))=Dc hs ts qs f h:=by
     rw[oP,aA c] at eq3;exact eq3
    apply#[_,Z,lm,Z,#[_,.of m3],λD hD=>?_]
    let JG:dY:=λj out H'=>aa H3 H'/\H' D=some (.lst out)/\out=((ms.map (·.1)).take j).map V.str
    apply mJ (own:=1) (fv:=[]) (xs:=ys) Z d_ JG #[aa.new hD,az,Z] (λj out H' _ ⟨sm,_⟩=>.of (sm _ _ m3)) (λout H4 ⟨s4,d4,eo⟩=>?_) (λj x out H' hx ⟨sm,hd,eo⟩=>?_);rotate_left
    ·let#[q,hq,a,rfl,ha]:=jr t3 hx;have hj:j<ms.length:=(cy.mp hq).1;apply#[_,Z,Z,λNx hN=>d9 ?_];apply#[_,Z,a,_,0,.str q.1,Z,Z,.of (sm _ _ ha),L2.iT (j:=0) Z,out,hd,?_,hN (out++[.str q.1]) _ #[gf sm hD,az,?_]]
     ·rw[eo,ao,dg];omega
     ·rw[eo,fB (show (ms.map (·.1))[j]? = some q.1 by rw[dW,hq];rfl),cu];rfl
    rw[ly,y_ (by rw[ao];exact bp _)] at eo;subst eo;lk;let m4:=s4 _ _ m3;apply#[_,Z,.inl #[Z,_,.of m4],?_];apply#[_,Z,_,Z,_,Z,_,Z,v,g,p,D,h,o,ms.map (·.1),hs,ts,qs,fp,f,Z,S3.same s4,W,hh,om,d4,λl5 zs H5 s5 n5 e5 t5=>?_];let jw:=s4.trans s5;let m5:=jw _ _ m3;let lz:=bK t5;let hl:=WZ W (ms.map (·.1)) h o;rw[ao] at lz;apply#[lm,l5,ys,zs,Z,Z,m5,e5,by omega,?_];apply#[_,_,ys++zs,ms++xP hs ts qs f (ms.map (·.1)) h o,Z,λb u e=>?_,?_,az,?_,?_,eq3]
    ·rw[au (bq e nm)];exact jw _ _ (Fs _ _ e)
    ·rw[au KI.symm];exact jw _ _ l3
    ·rw[cu];exact km (i9 (t3.same jw) m5) (i9 t5 m5)
    ·rw[eA];omega
   ·have c:¬0<lH hs qs f h o:=by simpa using c
    apply#[_,_,ys,ms,Z,Fs,l3,m3,t3,by omega,?_];rw[oP,aq c] at eq3;exact eq3
  ·rintro σ H3 ⟨v3,v4,ys,ms,rfl,Fs,l3,m3,t3,Gb,eq3⟩;rw[ao,List.drop_length] at eq3;apply#[_,Z,k lm ys H3 Fs nm m3 ?_];rw[<- eq3];exact t3
theorem gw_(F:bo K "moves_from" "moves_from" HX f0 fd)(cL:!br 5 "moves_by_shares" ["sight","hand"] (RP K CS CG CW)):!aj aZ 6 f0 fd wV (w6 K CS CG CW T (λr=>r.2.1="shares") Ep):=by
 apply F.bI RI λaR A outer s H vs Q E hr h=>?_
 ·let#[v,g,p,aw,h,hs,ts,qs,fp,f,r,iN,rfl,le,ha,S,W,hh,tab,k]:=h;refine' #[_,ak ?s0 (ak ?s1 (aF ?s2)),?kk]
  case s0=>exact bQ (cz ik (bO eO (pv 2) aE) cq) fF bR
  case s1=>exact bQ (cz ik (bO eO (pv 2) aE) cq) fF bR
  case s2=>exact bh (aY cL hr %[0,1|0])
  have ln:¬r.2.1="least":=by rw[le];decide +kernel
  have lb:¬r.2.1="below":=by rw[le];decide +kernel
  apply#[_,Z,aw,_,_,_,Z,Z,ha _,Z,Z,_,Z,?_];rw[xg,dS ln];apply bu ?_;apply#[_,Z,aw,_,_,_,Z,Z,ha _,Z,Z,_,Z,?_];rw[xg,dS lb];apply bu ?_;exact#[_,Z,_,Z,v,g,p,h,hs,ts,qs,fp,f,Z,S,W,hh,λl ys H' b n e tu=>k l ys H' (aX.of b) (tab.same b) n e tu]
end
def hit(t u:Str × Str):Bool:=(decide (u.1=t.1) || decide (u.2=t.1)) || (decide (u.1=t.2) || decide (u.2=t.2))
def dc(rs:List Xb)(t:Str × Str):Nat:=rs.findIdx λr=>!r.any (hit t)
def mG(K:af)(H:Hp)(l:Addr)(as:ay)(rs:List Xb):Prop:=H l=some (.lst (as.map V.ref))/\Paired (λa r=>∃zs,H a=some (.lst zs)/\bg K H zs (r.map kT)) as rs
theorem mG.same{K:af}{H H':Hp}{l:Addr}{as:ay}{rs:List Xb}(h:mG K H l as rs)(s:aa H H'):mG K H' l as rs:=#[s _ _ h.1,Paired.bx h.2 λa r ⟨zs,e,t⟩=>#[zs,s _ _ e,t.same s]]
variable{f:Addr}
section
variable{P:Ae}{w:Af}{K:af}{mg:Str->Option Aa}{base:Heap}
theorem tT:bD ["rows","tie","place","row"] ["rows","tie"] (bb Ry):=bJ
inductive tI (K:af) (vs:ai) (H:Hp) (Q:VK) (E:XK):Prop
 |mk:∀(l t:Addr) (as:ay) (rs:List Xb) (tt:Str × Str),vs=[.ref l,.ref t]->mG K H l as rs->H t=some (.tup ((kT tt).map kV))->(∀r∈rs,r.length<=1000)->(∀H',aa H H'->Q (.int (dc rs tt)) H')->tI K vs H Q E
theorem m2_(F:bo K "first_row_without" "first_row_without" Ry f fd)(B:Bi mg):!aj aZ 1 f fd ["rows","tie"] (tI K):=by
 apply F.bI tT λaR A outer s H vs Q E hr h=>?_
 ·let#[l,t,as,rs,tt,rfl,R,ht,Ak,k]:=h;let sz:=b_
  apply#[_,ak (eM dX Z (V2 (by rfl) B.enum %[0|0]) (jm Z (di (bU 2 tT.nd) (di (bU 3 tT.nd) iF)))
    (aF (bQ (hY (gg (cX (Xw Z) (by rfl) B.any PyProof.Rows.Boot.«any» (dD
     (i8 ["there","tie"] 1 [1] (dF (pv 3)) (λfp s H=>fw (i:=0) (show (["there","tie"]:ae).Nodup by decide +kernel) Z (Or.inl Z)) (λfp s H=>iY)
      (λfp s H=>DW (iG (FV (K:=K) (λK=>Dv K false) LY) (bO (yt (K:=K) jf eO) (pv 1) aE) (pv 0) (by with_unfolding_all rfl)) (oU (iG (FV (K:=K) (λK=>Dv K false) LY) (bO (yt (K:=K) jf eO) (pv 1) aE) (pv 0) (by with_unfolding_all rfl))))) aJ)))) (aF (bh (pv 2))) bR)))
   (aF (bh (cX lM (by rfl) B.len jk %[0|0]))),?_]
  let la:=bK R.2
  let Jv:bL:=λi σ H2=>∃(v2 v3:aK),σ=[some (.ref l),some (.ref t),v2,v3]/\aa H H2/\∀r∈rs.take i,r.any (hit tt)=true
  apply#[_,Z,l,Z,#[_,.of R.1],XR (K:=K) (a:=l) (xs:=as.map V.ref) Jv #[none,none,Z,aa.refl H,by simp] (λi σ H2 _ ⟨_,_,_,s2,_⟩=>.of (s2 _ _ R.1)) ?_ ?_]
  ·rintro i x σ H2 hx ⟨v2,v3,rfl,s2,past⟩ u hu
   have hi:i<as.length:=by
    have:=(cy.mp hx).1;rwa [ao] at this
   have ex:x=.ref as[i]:=by
    rw[dW,dG hi] at hx;exact (eK hx).symm
   subst ex;have KS:i<rs.length:=by omega
   let#[zs,VL,tz]:=iw R.2 i hi KS;have s3:aa H (upd H2 u (.tup [.int i,.ref as[i]])):=s2.trans (aa.new hu);have OF:upd H2 u (.tup [.int i,.ref as[i]]) u=some (.tup [.int i,.ref as[i]]):=az;generalize upd H2 u (.tup [.int i,.ref as[i]])=H3 at s3 OF ⊢;apply#[u,_,Z,.of OF,Z,_,_,Z,_,_,Z,Z,?_];apply#[_,Z,as[i],Z,#[_,.of (s3 _ _ VL)],λD hD=>?_];let lz:=bK tz;rw[ao] at lz;let lr:=Ak rs[i] (js KS)
   let Ju:dY:=λj out H'=>aa H3 H'/\H' D=some (.lst out)/\out=((rs[i].take j).map (hit tt)).map V.bl
   apply mJ (own:=1) (fv:=[some (.ref t)]) (xs:=zs) Z d_ Ju #[aa.new hD,az,Z] (λj out H' _ ⟨sm,_,_⟩=>.of (sm _ _ (s3 _ _ VL))) (λout H4 ⟨s4,rD,eo⟩=>?_) (λj y out H' hy ⟨sm,eQ,eo⟩=>?_)
   ·rw[lz,dP] at eo;subst eo;apply#[D,rs[i].map (hit tt),Z,.of rD,#[_,Z,?_]];have vy:(rs[i].map (hit tt)).any id=rs[i].any (hit tt):=by rw[List.any_map];rfl
    apply aP (λc=>?_) (λc=>?_)
    ·have c:rs[i].any (hit tt)=false:=by
      have:(!(rs[i].map (hit tt)).any id)=true:=c;rw[vy] at this;simpa using this
     have e:dc rs tt=i:=by
      unfold dc;rw[List.findIdx_eq KS];apply#[by rw[c];rfl,λj hj=>?_];have:=past (rs[j]' Z1) (List.mem_iff_getElem?.mpr #[j,by rw[List.getElem?_take_of_lt hj,dG Z1]]);rw[this];rfl
     apply#[_,Z,?_];have:=k H4 (s3.trans s4);rw[e] at this;exact this
    ·have c:rs[i].any (hit tt)=true:=by
      have:¬(!(rs[i].map (hit tt)).any id)=true:=c;rw[vy] at this;simpa using this
     apply#[_,_,Z,s3.trans s4,λr hr=>?_];rw[iE,dG KS] at hr;rcases fQ.mp hr with hr|hr
     ·exact past r hr
     ·obtain rfl:r=rs[i]:=by simpa using hr
      exact c
   ·let#[q,hq,a,rfl,ha]:=jr tz hy;let Hl:=sm _ _ (s3 _ _ (wH ha));let GG:=sm _ _ (s3 _ _ (wH ht))
    have lo:out.length<sizeLine:=by
     rw[eo,ao,ao,dg];omega
    apply#[_,Z,Z,λNx hN=>d9 ?_];have nx:Nx (upd H' D (.lst (out++[.bl (hit tt q)]))):=hN _ _ #[gf sm hD,az,by rw[AQ _ hq,cu,eo];rfl];apply#[_,Z,t,_,_,_,Z,Z,.of GG,Z,_,Z,a,_,Z,.inr (.of Hl),Z,Z,_,Z,?_];apply aP (λc=>?_) (λc=>?_)
    ·have c:(decide (q.1=tt.1) || decide (q.2=tt.1))=true:=by rw[<- Eg];exact c
     apply#[out,eQ,lo,?_];rwa [show hit tt q=true by unfold hit;rw[c];rfl] at nx
    ·have c:(decide (q.1=tt.1) || decide (q.2=tt.1))=false:=by
      rw[<- Eg];simpa using c
     apply#[_,Z,t,_,_,_,Z,Z,.of GG,Z,_,Z,a,_,Z,.inr (.of Hl),Z,Z,out,eQ,lo,?_];rw[show hit tt q=DF (.str tt.2) [.str q.1,.str q.2] by unfold hit;rw[c,Bool.false_or,Eg]] at nx;exact nx
  ·rintro σ H2 ⟨v2,v3,rfl,s2,past⟩;rw[ao,la,dP] at past;apply#[_,Z,l,_,Z,.inl (.of (s2 _ _ R.1)),?_]
   have e:dc rs tt=rs.length:=by
    unfold dc;rw[List.findIdx_eq_length];intro r hr;rw[past r hr];rfl
   have:=k H2 s2;rw[e] at this;rw[ao,la];exact this
end
abbrev nK:Stmt:=ke jJ 8
theorem LS{α β:Type}{F:α->β->Prop}:∀{l:List α} {m:List β},l.length=m.length->(∀(i:Nat) (h1:i<l.length) (h2:i<m.length),F l[i] m[i])->Paired F l m
 |[],[],_,_=>.nil
 |[],_::_,h,_=>by cases h
 |_::_,[],h,_=>by cases h
 |a::l,b::m,h,f=>.cons (f 0 Z2 Z2) (LS (by simpa using h) λi h1 h2=>f (i+1) (by simpa using h1) (by simpa using h2))
def hX(rs:List Xb)(t:Str × Str):List Xb:=if h:dc rs t<rs.length then rs.set (dc rs t) (rs[dc rs t]++[t]) else rs++[[t]]
def turnsOf(ts:Xb):List Xb:=ts.foldl hX []
theorem Xf(rs:List Xb)(t:Str × Str):dc rs t<=rs.length:=List.findIdx_le_length
theorem Mj(rs:List Xb)(t:Str × Str):(hX rs t).length<=rs.length+1:=by
 unfold hX;split
 ·rw[List.length_set];omega
 ·rw[eA];exact bp _
variable{t:Str × Str}{rs:List Xb}
theorem Mq{n:Nat}(h:∀r∈rs,r.length<=n):∀r∈hX rs t,r.length<=n+1:=by
 unfold hX;intro r hr;split at hr
 ·rename_i dz
  rcases List.mem_or_eq_of_mem_set hr with m|rfl
  ·have:=h r m;omega
  ·have:=h rs[dc rs t] (js dz);rw[eA];show rs[dc rs t].length+1<=n+1;omega
 ·rcases fQ.mp hr with m|m
  ·have:=h r m;omega
  ·obtain rfl:r=[t]:=by simpa using m
   simp
theorem mG.add{K:af}{H H':Hp}{l a:Addr}{as:ay}{zs:ai}(h:mG K H l as rs)(nd:as.Nodup){p:Nat}(hp:p<rs.length)(ha:as[p]? = some a)(hl:H' l=some (.lst (as.map V.ref)))(hz:H' a=some (.lst zs))(tz:bg K H' zs ((rs[p]++[t]).map kT))(k:∀b o,H b=some o->b≠l->b≠a->H' b=some o)(hla:∀b∈as,b≠l)(kt:∀b xs,H b=some (.tup xs)->H' b=some (.tup xs)):mG K H' l as (rs.set p (rs[p]++[t])):=by
 let la:=bK h.2;apply#[hl,LS (by rw[List.length_set,la]) λi h1 h2=>?_];rw[List.length_set] at h2;let#[si,ea]:=cy.mp ha;by_cases e:p=i
 ·subst e;rw[List.getElem_set_self,ea];exact#[zs,hz,tz]
 ·rw[List.getElem_set_ne e];let#[EY,e2,t2]:=iw h.2 i h1 h2;have ne:as[i]≠a:=λq=>e ((List.getElem_inj nd).mp (ea.trans q.symm));exact#[EY,k _ _ e2 (hla _ (js h1)) ne,Paired.bx t2 λy q ⟨c,z,e⟩=>#[c,z,kt _ _ e]]
theorem YM{α β:Type}{F:α->β->Prop}{l:List α}{m:List β}{a:α}{b:β}(h:Paired F l m)(f:F a b):Paired F (l++[a]) (m++[b]):=Paired.snoc h f
section
variable{P:Ae}{w:Af}{K:af}{mg:Str->Option Aa}{base:Heap}
theorem Lw:bD ["self","rows","tie","place"] iU (bb nK):=bJ
inductive QL (K:af) (C:Addr) (vs:ai) (H:Hp) (Q:VK) (E:XK):Prop
 |mk:∀(p:Addr) (hs:Xa) (ts:Xb) (fp:ay),vs=[.ref p]->g9 K C H p hs ts fp->ts.length<64->(∀(l:Addr) (as:ay) (H':Hp),aa H H'->H l=none->(∀a∈as,H a=none)->(∀a∈as,a≠l)->as.Nodup->mG K H' l as (turnsOf (aD ts))->Q (.ref l) H')->QL K C vs H Q E
theorem jO_{C:Addr}(F:bo K "turns" "Web.turns" nK f fd)(B:Bi mg)(T:Txt K mg C)(cT:!bG C 2 "ties" iU (Qa K C))(cR:!br 1 "first_row_without" ["rows","tie"] (tI K)):!aj aZ 3 f fd iU (QL K C):=by
 apply F.bI Lw λaR A outer s H vs Q E hr h=>?_
 ·let#[p,hs,ts,fp,rfl,W,dk,k]:=h;let sz:=b_;let#[dx,d1,l2,d3,l_,as0,efp,h1,_]:=id W.ex;have noT:(dm d1 l2 d3).lookup ("ties":Str)=none:=j5 _ _ _ Z0 Z0 Z0
  apply#[_,ak (aQ 1 Lw.nd (cO aJ))
   (ak (eM dX Z (dF (AF cT T.cl hr (pv 0))) (bU 2 Lw.nd)
    (ak (aQ 3 Lw.nd (aY cR hr %[1,2|0]))
    (ak (bQ (cz ik (pv 3) (cX lM (by rfl) B.len jk %[1|0]))
     (aF (hZ (gX il mE mF lN (pv 1) %[cO aJ|0]))) bR)
    (aF (hZ (gX il mE mF lN (bO fV (pv 1) (pv 3)) %[2|0]))))))
   (aF (bh (pv 1)))),?_]
  apply#[zl,λlr OV=>?_];have s0:aa H (upd H lr (.lst [])):=aa.new OV;have yz:upd H lr (.lst []) lr=some (.lst []):=az;generalize upd H lr (.lst [])=H0 at s0 yz ⊢;apply#[_,Z,p,dx,_,Z,s0 _ _ h1,noT,p,hs,ts,fp,Z,W.same s0,dk,λlt zs H1 s1 dz GT tz=>?_];have nlt:lt≠lr:=(bq yz dz).symm;let lz:=bK tz;rw[ao,C8] at lz;let yq:=C8 ts
  let Jt:bL:=λi σ H2=>∃(v2 v3:aK) (as:ay),σ=[some (.ref p),some (.ref lr),v2,v3]/\aX lr H1 H2/\(∀a∈as,H1 a=none/\a≠lr)/\as.Nodup/\mG K H2 lr as (turnsOf ((aD ts).take i))/\(turnsOf ((aD ts).take i)).length<=i/\∀r∈turnsOf ((aD ts).take i),r.length<=i
  apply#[lt,Z,#[_,.of GT],gc (K:=K) (a:=lt) (xs:=zs) Jt
   #[none,none,[],Z,aX.refl _ _,by simp,.nil,#[s1 _ _ yz,.nil],bp _,by intro r hr;simp[turnsOf] at hr] (λi σ H2 _ ⟨_,_,_,_,b,_⟩=>.of (b _ _ GT nlt)) ?_ ?_]
  ·rintro i y σ H2 hy ⟨v2,v3,as,rfl,b2,fa,nd,R,l1,DE⟩;let#[t,ht,a,rfl,ha]:=jr tz hy;have hi:i<(aD ts).length:=(cy.mp ht).1;let OU:=s1 _ _ yz;have nal:a≠lr:=cj ha OU nofun;let wO:=b2 _ _ ha nal;let la:=bK R.2
   have wR:turnsOf ((aD ts).take (i+1))=hX (turnsOf ((aD ts).take i)) t:=by
    unfold turnsOf;rw[iE,ht,List.foldl_append];rfl
   generalize turnsOf ((aD ts).take i)=rs at R l1 DE la wR;apply#[_,Z,_,Z,lr,a,as,rs,t,Z,R,wO,λr hr=>by have:=DE r hr;omega,λH3 s3=>?_];let R3:=R.same s3;let sr:=s3 _ _ wO;have b3:aX lr H1 H3:=b2.trans (aX.of s3);have f3:∀a∈as,H1 a=none/\a≠lr:=fa;apply#[_,Z,_,Z,lr,_,Z,.inl (.of R3.1),Z,_,Z,?_];apply aP (λc=>?_) (λc=>?_)
   ·have c:dc rs t=rs.length:=by
     have:V.int (dc rs t)=V.int ((as.map V.ref).length:Nat):=by simpa using c
     rw[ao,la] at this;have:=V.int.inj this;omega
    apply#[_,Z,.inl #[Z,_,.of R3.1],zl,λln qh=>?_];let#[s4,OW]:=aB (o:=.lst []) qh;have r_:ln≠lr:=(bq R3.1 qh).symm;apply#[lr,_,_,Z,Z,s4 _ _ R3.1,by rw[ao];omega,?_]
    have P3:H1 ln=none:=by
     cases z:H1 ln with
     |none=>rfl
     |some o=>
      have:=b3 _ _ z r_;rw[qh] at this;cases this
    have NM:ln∉as:=λm=>by
     let#[j,hj,e]:=rT m;let#[zz,e2,_]:=iw R3.2 j hj Z1;rw[e,qh] at e2;cases e2
    have yY:gF (as.map V.ref++[V.ref ln]) (dc rs t:Int)=some (.ref ln):=by
     rw[iT Z1 (by rw[eA,ao];show ((dc rs t:Nat):Int)<((as.length+1:Nat):Int);omega),zd,c,AR (by rw[ao];omega),ao,la,Nat.sub_self];rfl
    have BY:upd (upd H3 ln (.lst [])) lr (.lst (as.map V.ref++[.ref ln])) lr=some (.lst (as.map V.ref++[.ref ln])):=az;have BZ:upd (upd H3 ln (.lst [])) lr (.lst (as.map V.ref++[.ref ln])) ln=some (.lst []):=by rw[au r_];exact OW
    have k5:∀{b o},H3 b=some o->b≠lr->upd (upd H3 ln (.lst [])) lr (.lst (as.map V.ref++[.ref ln])) b=some o:=λe ne=>by rw[au ne];exact s4 _ _ e
    generalize upd (upd H3 ln (.lst [])) lr (.lst (as.map V.ref++[.ref ln]))=H5 at BY BZ k5 ⊢;apply#[_,Z,_,Z,lr,_,_,_,Z,Z,.of BY,yY,.inl #[Z,_,.of BZ],_,Z,ln,_,_,Z,Z,BZ,by show 0<sizeLine;decide,?_];have k6:∀{b o},H3 b=some o->b≠lr->upd H5 ln (.lst ([]++[.ref a])) b=some o:=λe ne=>by rw[au (bq e qh)];exact k5 e ne
    have GW:upd H5 ln (.lst ([]++[.ref a])) ln=some (.lst [.ref a]):=az;have GV:upd H5 ln (.lst ([]++[.ref a])) lr=some (.lst (as.map V.ref++[.ref ln])):=by rw[au r_.symm];exact BY
    generalize upd H5 ln (.lst ([]++[.ref a]))=H6 at k6 GW GV ⊢;have kt:∀b xs,H3 b=some (.tup xs)->H6 b=some (.tup xs):=λb xs e=>k6 e (cj e R3.1 nofun)
    have ep:hX rs t=rs++[[t]]:=by
     unfold hX;rw[dif_neg Z1]
    apply#[_,_,as++[ln],Z,λb o e ne=>k6 (b3 _ _ e ne) ne,λx hx=>?_,?_,?_,?_,?_]
    ·rcases fQ.mp hx with m|m
     ·exact fa x m
     ·obtain rfl:x=ln:=by simpa using m
      exact#[P3,r_]
    ·rw[List.nodup_append]
     exact#[nd,by simp,λx hx z hz=>by
      obtain rfl:z=ln:=by simpa using hz
      exact λq=>NM (q▸hx)]
    ·rw[wR,ep];apply#[by rw[cu];exact GV,YM (LS la λj h1 h2=>?_) #[_,GW,.cons #[a,Z,kt _ _ sr] .nil]];let#[zz,e,tt]:=iw R3.2 j h1 h2;exact#[zz,k6 e (fa _ (js h1)).2,Paired.bx tt λy q ⟨c,z,e⟩=>#[c,z,kt _ _ e]]
    ·rw[wR];have:=Mj rs t;omega
    ·rw[wR];exact Mq DE
   ·have c:dc rs t<rs.length:=by
     let h1:=Xf rs t
     have:¬dc rs t=rs.length:=λe=>c (by
      rw[ao,la,e];simp)
     omega
    have si:dc rs t<as.length:=by omega
    have nl:as[dc rs t]≠lr:=(fa _ (js si)).2;let#[zz,ez,E1]:=iw R3.2 (dc rs t) si c;let N7:=bK E1;rw[ao] at N7;let N9:=DE _ (js c)
    have yY:gF (as.map V.ref) (dc rs t:Int)=some (.ref as[dc rs t]):=by
     rw[iT Z1 (by rw[ao];omega),zd,dW,dG si];rfl
    apply#[_,Z,_,Z,lr,_,_,_,Z,Z,.of R3.1,yY,.inl #[Z,_,.of ez],_,Z,_,_,_,Z,Z,ez,by omega,?_];have k6:∀{b o},H3 b=some o->b≠as[dc rs t]->upd H3 as[dc rs t] (.lst (zz++[.ref a])) b=some o:=λe ne=>by rw[au ne];exact e
    have h6:upd H3 as[dc rs t] (.lst (zz++[.ref a])) as[dc rs t]=some (.lst (zz++[.ref a])):=az;generalize upd H3 as[dc rs t] (.lst (zz++[.ref a]))=H6 at k6 h6 ⊢;have kt:∀b xs,H3 b=some (.tup xs)->H6 b=some (.tup xs):=λb xs e=>k6 e (cj e ez nofun)
    have ep:hX rs t=rs.set (dc rs t) (rs[dc rs t]++[t]):=by
     unfold hX;rw[dif_pos c]
    apply#[_,_,as,Z,λb o e ne=>k6 (b3 _ _ e ne) (bq e (fa _ (js si)).1),fa,nd,?_,?_,?_]
    ·rw[wR,ep];apply R3.add nd c (dG si) (k6 R3.1 nl.symm) h6 ?_ (λb o e _ ne=>k6 e ne) (λb hb=>(fa b hb).2) kt;rw[cu];exact vT (Paired.bx E1 λy q ⟨c,z,e⟩=>#[c,z,kt _ _ e]) (kt _ _ sr)
    ·rw[wR];have:=Mj rs t;omega
    ·rw[wR];exact Mq DE
  ·rintro σ H2 ⟨v2,v3,as,rfl,b2,fa,nd,R,_,_⟩;rw[lz,<- yq,dP] at R;have s2:aa H H2:=λb o e=>b2 _ _ (s1 _ _ (s0 _ _ e)) (bq e OV);exact#[_,Z,k lr as H2 s2 OV (λa ha=>(s0.trans s1).free (fa a ha).1) (λa ha=>(fa a ha).2) nd R]
end
end Ev
namespace L2
open PySem PyProof.Rows
inductive uM (K:af) (x:V) (y:V) (H:Hp) (Q:VK):Prop
 |mk:∀a b xs,x=.ref a->y=.ref b->eG K H a xs->eG K H b []->Q (.bl xs.isEmpty) H->uM K x y H Q
variable{X:Cx}
theorem jJ_(hu:X.A.units+0+1<cLine):eP X (compareOp .Eq) (uM X.K):=by
 intro pins s σ H x y v u Q I rx ry h;let#[a,b,xs,rfl,rfl,t,t',hq]:=h;cases xs with
 |nil=>exact Vj fP hu pins s σ H (.ref a) (.ref b) v u Q I rx ry #[[],[],#[a,[],Z,t,.nil],#[b,[],Z,t',.nil],hq]
 |cons z zs=>
  cases rx;cases ry;let#[us,r,pl,_]:=I.list t;let#[vs,r',yd,_]:=I.list t';let l1:=r.length;let l2:=r'.length;exact SeqAt.eq_list_lengthsAt pl.isList yd.isList (by simp only[dQ,bne_iff_ne];simp at l1 l2;omega) Z1 #[.bl false,H,I,Z,hq]
end L2
namespace Ev
open PySem L2
def gE(ts:Xb)(m:Int):Xb:=((turnsOf (aD ts))[(m % ((turnsOf (aD ts)).length:Int)).toNat]?).getD []
def vE(hs:Xa)(ts:Xb)(qs:aC)(f:ag)(gd:Str)(t:Str × Str):fS:=iz hs ts qs f gd [] t.1 t.2++iz hs ts qs f gd [] t.2 t.1
def Et(hs:Xa)(ts:Xb)(qs:aC)(f:ag)(gd:Str)(m:Int):fS:=(gE ts m).flatMap (vE hs ts qs f gd)
variable{u:Str × Str}
theorem gk_{rs:List Xb}{t:Str × Str}{r:Xb}(hr:r∈hX rs t)(hu:u∈r):u=t∨∃r'∈rs,u∈r':=by
 unfold hX at hr;split at hr
 ·rename_i dz
  rcases List.mem_or_eq_of_mem_set hr with m|rfl
  ·exact .inr #[r,m,hu]
  ·rcases fQ.mp hu with h|h
   ·exact .inr #[_,js dz,h]
   ·exact .inl (by simpa using h)
 ·rcases fQ.mp hr with m|m
  ·exact .inr #[r,m,hu]
  ·obtain rfl:r=[t]:=by simpa using m
   exact .inl (by simpa using hu)
theorem X9{u:Str × Str}:∀(ts:Xb) (rs:List Xb) {r:Xb},r∈ts.foldl hX rs->u∈r->u∈ts∨∃r'∈rs,u∈r'
 |[],rs,r,hr,hu=>.inr #[r,hr,hu]
 |t::ts,rs,r,hr,hu=>by
  rw[List.foldl_cons] at hr;rcases X9 ts (hX rs t) hr hu with h|⟨r',h1,h2⟩
  ·exact .inl (dI _ h)
  ·rcases gk_ h1 h2 with rfl|h
   ·exact .inl cZ
   ·exact .inr h
theorem Rj:∀(ts:Xb) (rs:List Xb),(ts.foldl hX rs).length<=rs.length+ts.length
 |[],rs=>bp _
 |t::ts,rs=>by
  rw[List.foldl_cons,iW];let h1:=Rj ts (hX rs t);let h2:=Mj rs t;omega
theorem X7{n:Nat}:∀(ts:Xb) (rs:List Xb),(∀r∈rs,r.length<=n)->∀r∈ts.foldl hX rs,r.length<=n+ts.length
 |[],rs,h,r,hr=>h r hr
 |t::ts,rs,h,r,hr=>by
  rw[List.foldl_cons] at hr;have:=X7 (n:=n+1) ts (hX rs t) (Mq h) r hr;rw[iW];omega
theorem Mo{ts:Xb}{m:Int}(h:u∈gE ts m):u∈aD ts:=by
 unfold gE at h;cases e:(turnsOf (aD ts))[(m % ((turnsOf (aD ts)).length:Int)).toNat]? with
 |none=>rw[e] at h;cases h
 |some r=>
  rw[e] at h;rcases X9 (aD ts) [] (cw e) h with z|⟨_,z,_⟩
  ·exact z
  ·cases z
theorem YL{hs:Xa}{ts:Xb}(G:Good hs ts)(m:Int):(gE ts m).length<64:=by
 unfold gE;cases e:(turnsOf (aD ts))[(m % ((turnsOf (aD ts)).length:Int)).toNat]? with
 |none=>show 0<64;decide
 |some r=>
  have:=X7 (n:=0) (aD ts) [] Z2 r (cw e);rw[C8] at this;have:=G.pE;show r.length<64;omega
theorem L7{hs:Xa}{ts:Xb}(G:Good hs ts)(h:u∈aD ts):u.1∈aI hs/\u.2∈aI hs:=by
 have k:kT u∈(aD ts).map kT:=bj.mpr #[u,h,Z];rw[IR,(mK _).mem_iff] at k;let#[t,ht,e]:=bj.mp k;let e:=HQ e;let#[h1,h2]:=G.qS t ht;let n1:=(gn hs).mem_iff.mpr h1;let n2:=(gn hs).mem_iff.mpr h2;rw[<- e];unfold aL;split
 ·exact#[n1,n2]
 ·exact#[n2,n1]
theorem Rc{α β:Type}{g:α->List β}{n:Nat}(h:∀x,(g x).length<=n):∀l:List α,(l.flatMap g).length<=n * l.length
 |[]=>gG _
 |a::l=>by
  let h1:=h a;let h2:=Rc h l;rw[xq,eA,iW,Nat.mul_succ];omega
theorem YZ(hs:Xa)(ts:Xb)(qs:aC)(f:ag)(gd:Str)(t:Str × Str):(vE hs ts qs f gd t).length<=2:=by
 unfold vE;rw[eA];let h1:=C1 hs ts qs f gd [] t.1 t.2;let h2:=C1 hs ts qs f gd [] t.2 t.1;omega
variable{f0:Addr}
section
variable{P:Ae}{w:Af}{K:af}{mg:Str->Option Aa}{base:Heap}
theorem Iq:bD ["sight","guard","moment","rows","moves","one","other"] ["sight","guard","moment"] (bb RO):=bJ
inductive Rk (K:af) (CS CG CW:Addr) (vs:ai) (H:Hp) (Q:VK) (E:XK):Prop
 |mk:∀(v g p:Addr) (gd:Str) (m:Int) (hs:Xa) (ts:Xb) (qs:aC) (fp:ay) (f:ag),vs=[.ref v,.str gd,.int m]->0<=m->jA K CS CG CW H v g p hs ts qs fp f->Wd hs ts qs f->(∀l ys H',aa H H'->H l=none->H' l=some (.lst ys)->bg K H' ys ((Et hs ts qs f gd m).map kM)->Q (.ref l) H')->Rk K CS CG CW vs H Q E
theorem gp_{CS CG CW:Addr}{fd:Ad}(F:bo K "moves_by_turns" "moves_by_turns" RO f0 fd)(B:Bi mg)(TS:hG K CS)(TG:eR K CG)(TW:Txt K mg CW)(cT:!bG CW 3 "turns" iU (QL K CW))(cH:!br 4 "heaviest_move" lS (kD K CS CG CW)):!aj aZ 5 f0 fd ["sight","guard","moment"] (Rk K CS CG CW):=by
 apply F.bI Iq λaR A outer s H vs Q E hr h=>?_
 ·let#[v,g,p,gd,m,hs,ts,qs,fp,f,rfl,m0,S,W,k]:=h;let sz:=b_;have GK:ba 3 _:=hr.mono (by decide);refine' #[_,?r0,?kk]
  case' r0=>refine' ak ?s1 ?r1
  case' r1=>refine' ak ?s2 ?r2
  case' r2=>refine' ak ?s3 (ak ?s4 (aF ?s5))
  case s1=>exact aQ 3 Iq.nd (AF cT TW.cl GK (eE (eE (pv 0) Z) Z))
  case s2=>exact bQ (cz (jJ_ (oN hr 0)) (pv 3) (cO aJ)) (aF (bh (cO aJ))) bR
  case s3=>exact aQ 4 Iq.nd (cO aJ)
  case' s4=>refine' eM dX Z (dF (bO fV (pv 3) (bF vP (pv 2) (cX lM (by rfl) B.len jk %[3|0])))) (jm Z (di (bU 5 Iq.nd) (di (bU 6 Iq.nd) iF))) (ak ?b1 (aF ?b2))
  case b1=>exact hZ (gX il PySem.F.slot_list_extend PySem.F.type_list_extend IQ (pv 4) %[aY cH hr %[0,5,6,1,cO aJ|0]|0])
  case b2=>exact hZ (gX il PySem.F.slot_list_extend PySem.F.type_list_extend IQ (pv 4) %[aY cH hr %[0,6,5,1,cO aJ|0]|0])
  case s5=>exact bh (pv 4)
  let#[dx,dl,dv,dp,ad,h1,G,h3,h4,h5,h6]:=S.ex;let#[lB,dw,dy,vs,cK,g1,g2,_]:=id G.ex;let#[gj,d1,l2,d3,l_,as0,ef,w1,_]:=id g2.ex;have iO:(dm d1 l2 d3).lookup ("turns":Str)=none:=j5 _ _ _ Z0 Z0 Z0;apply#[_,Z,v,CS,dx,_,_,Z,h1,TS.cl,TS.nW,ia _ _ _ _,g,CG,lB,_,_,Z,g1,TG.cl,TG.nW,qy _ _ _,p,gj,_,Z,w1,iO,p,hs,ts,cK,Z,g2,W.Gd.pE,λlr as H1 s1 nr _ _ _ R=>?_];lk;let la:=bK R.2;apply#[_,Z,zl,λle ne=>?_];let#[gz,e2]:=aB (o:=.lst []) ne;generalize upd H1 le (.lst [])=H2 at gz e2 ⊢;let s2:=s1.trans gz;let R2:=R.same gz;apply#[lr,le,_,Z,Z,.of R2.1,.of e2,_,Z,?_];apply aP (λc=>?_) (λc=>?_)
  ·have z:as=[]:=by simpa using c
   have z:turnsOf (aD ts)=[]:=by
    rw[z] at la;exact zc.mp la.symm
   apply#[zl,λl nl=>?_];apply k l [] _ (s2.trans (aa.new nl)) (s2.free nl) az ?_;unfold Et gE;rw[z];exact .nil
  ·have z:as≠[]:=by simpa using c
   have pos:0<as.length:=List.length_pos_iff.mpr z;apply#[zl,λlm nm=>?_];lk;let#[jK,e3]:=aB (o:=.lst []) nm;generalize upd H2 lm (.lst [])=H3 at jK e3 ⊢;let s3:=s2.trans jK;have Dy:H lm=none:=s2.free nm;let R3:=R2.same jK
   have lt:(m % ((turnsOf (aD ts)).length:Int)).toNat<as.length:=by
    let h1:=yW m (show ((as.length:Nat):Int)≠0 by omega);let h2:=AM m (show 0<((as.length:Nat):Int) by omega);rw[<- la];omega
   have lt':(m % ((turnsOf (aD ts)).length:Int)).toNat<(turnsOf (aD ts)).length:=by omega
   let#[zs,hz,tz]:=iw R2.2 _ lt lt'
   have er:gE ts m=(turnsOf (aD ts))[(m % ((turnsOf (aD ts)).length:Int)).toNat]:=by
    unfold gE;rw[dG lt'];rfl
   rw[<- er] at tz;let lm63:=YL W.Gd m;have Nt:∀u∈gE ts m,u.1∈aI hs/\u.2∈aI hs:=λu hu=>L7 W.Gd (Mo hu);let h0:=yW m (show (((turnsOf (aD ts)).length:Nat):Int)≠0 by omega)
   have ix:gF (as.map V.ref) (m % ((as.map V.ref).length:Int))=some (.ref (as[(m % ((turnsOf (aD ts)).length:Int)).toNat])):=by
    rw[ao,la,iT h0 (by rw[ao];omega),dW,dG lt];rfl
   generalize as[(m % ((turnsOf (aD ts)).length:Int)).toNat]=ar at hz ix;let lz:=bK tz;rw[ao] at lz;have Te:ar≠lm:=bq hz nm;replace hz:=jK _ _ hz;replace tz:=tz.same jK
   let Js:bL:=λi σ H'=>∃(v5 v6:aK) (ys:ai),σ=[some (.ref v),some (.str gd),some (.int m),some (.ref lr),some (.ref lm),v5,v6]/\aa H H'/\aX lm H3 H'/\H' lm=some (.lst ys)/\bg K H' ys ((((gE ts m).take i).flatMap (vE hs ts qs f gd)).map kM)
   apply#[_,Z,_,Z,_,Z,lr,_,Z,.inl (.of R3.1),_,_,Z,Z,by rw[ao];omega,lr,_,_,_,Z,Z,.of R3.1,ix,ar,Z,#[_,.of hz],gc (K:=K) (a:=ar) (xs:=zs) Js #[none,none,[],Z,s3,aX.refl _ _,e3,.nil] (λi σ H' _ ⟨_,_,_,_,_,b,_⟩=>.of (b _ _ hz Te)) ?_ ?_]
   ·rintro i x σ H4 hx ⟨v5,v6,ys,rfl,s4,b4,m4,t4⟩;let#[u,hu,a,rfl,ha]:=jr tz hx;have hi:i<(gE ts m).length:=(cy.mp hu).1;let#[n1,n2]:=Nt u (cw hu);have Pt:H4 a=some (.tup [.str u.1,.str u.2]):=b4 _ _ ha (cj ha e3 nofun);apply#[a,_,Z,.of Pt,Z,_,_,Z,_,_,Z,Z,?_];dsimp only;let ly:=bK t4;rw[ao] at ly;let bl:=Rc (YZ hs ts qs f gd) ((gE ts m).take i);rw[dg] at bl;let l1:=C1 hs ts qs f gd [] u.1 u.2;let DE:=C1 hs ts qs f gd [] u.2 u.1;apply#[_,Z,.inl #[Z,_,.of m4],_,Z,_,Z,_,Z,_,Z,zl,λlg ng=>?_];let#[md,e5]:=aB (o:=.lst []) ng;generalize upd H4 lg (.lst [])=H5 at md e5 ⊢;apply#[v,g,p,lg,u.1,u.2,gd,[],hs,ts,qs,fp,f,Z,S.same (s4.trans md),W,n1,n2,e5,λl6 z6 H6 qZ n6 e6 t6=>?_];let uF:=md.trans qZ;let m6:=uF _ _ m4;let lz6:=bK t6;rw[ao] at lz6;apply#[lm,l6,ys,z6,Z,Z,m6,e6,by omega,?_];have s7:aa H (upd H6 lm (.lst (ys++z6))):=gf (s4.trans uF) Dy;have b7:aX lm H3 (upd H6 lm (.lst (ys++z6))):=λb o e n=>by rw[au n];exact uF _ _ (b4 _ _ e n)
    have e7:upd H6 lm (.lst (ys++z6)) lm=some (.lst (ys++z6)):=az
    have t7:bg K (upd H6 lm (.lst (ys++z6))) (ys++z6) ((((gE ts m).take i).flatMap (vE hs ts qs f gd)++iz hs ts qs f gd [] u.1 u.2).map kM):=by
     rw[cu];exact km (i9 (t4.same uF) m6) (i9 t6 m6)
    generalize upd H6 lm (.lst (ys++z6))=H7 at s7 b7 e7 t7 ⊢;dsimp only;apply#[_,Z,.inl #[Z,_,.of e7],_,Z,_,Z,_,Z,_,Z,zl,λUO ng2=>?_];let#[j6,e8]:=aB (o:=.lst []) ng2;generalize upd H7 UO (.lst [])=H8 at j6 e8 ⊢;apply#[v,g,p,UO,u.2,u.1,gd,[],hs,ts,qs,fp,f,Z,S.same (s7.trans j6),W,n2,n1,e8,λl9 z9 H9 qY n9 e9 t9=>?_];let Ks:=j6.trans qY;let m9:=Ks _ _ e7;let lz9:=bK t9;have ly7:(ys++z6).length=ys.length+z6.length:=eA;rw[ao] at lz9;apply#[lm,l9,ys++z6,z9,Z,Z,m9,e9,by omega,?_];apply#[_,_,(ys++z6)++z9,Z,gf (s7.trans Ks) Dy,λb o e n=>by rw[au n];exact Ks _ _ (b7 _ _ e n),az,?_];rw[show (gE ts m).take (i+1)=(gE ts m).take i++[u] by rw[iE,hu];rfl,AS,xq,List.flatMap_nil,g_];unfold vE;rw[<- xr,cu];exact km (i9 (t7.same Ks) m9) (i9 t9 m9)
   ·rintro σ H4 ⟨v5,v6,ys,rfl,s4,b4,m4,t4⟩;rw[lz,dP] at t4;exact#[_,Z,k lm ys H4 s4 Dy m4 t4]
theorem pO:bD ["sight","rule","moment","words","moves","hand"] Ao (bb kF):=bJ
inductive QI (K:af) (CS CG CW:Addr) (vs:ai) (H:Hp) (Q:VK) (E:XK):Prop
 |mk:∀(v g p:Addr) (m:Int) (gd:Str) (hs:Xa) (ts:Xb) (qs:aC) (fp:ay) (f:ag),∀r∈rl,vs=[.ref v,.str r.1,.int m]->r.2.1="turns"->r.2.2.2=some gd->0<=m->jA K CS CG CW H v g p hs ts qs fp f->Wd hs ts qs f->(∀l ys H',aa H H'->H l=none->H' l=some (.lst ys)->bg K H' ys ((Et hs ts qs f gd m).map kM)->Q (.ref l) H')->QI K CS CG CW vs H Q E
theorem ji_{CS CG CW:Addr}{fd:Ad}(F:bo K "moves_seen" "moves_seen" kF f0 fd)(Iu:!br 2 "checked_words" ["rule"] (LH K))(cT:!br 5 "moves_by_turns" ["sight","guard","moment"] (Rk K CS CG CW)):!aj aZ 6 f0 fd Ao (QI K CS CG CW):=by
 apply F.bI pO λaR A outer s H vs Q E hr h=>?_
 ·let#[v,g,p,m,gd,hs,ts,qs,fp,f,r,iN,rfl,le,eg,m0,S,W,k]:=h;refine' #[_,ak ?s1 (ak ?s2 fF),?kk]
  case s1=>exact Vh (i:=3) pO.nd Z (Or.inl Z) (aY Iu hr %[1|0])
  case s2=>exact bQ (cz ik (bO eO (pv 3) aE) cq) (aF (bh (aY cT hr %[0,bO eO (pv 3) aE,2|0]))) bR
  apply#[_,Z,r,iN,Z,λaw ha=>?_];lk;apply#[_,Z,aw,_,_,_,Z,Z,ha _,Z,Z,_,Z,?_];rw[xg,cc le];apply fo ?_;apply#[_,Z,_,Z,aw,_,_,.str gd,Z,Z,ha _,?_,_,Z,v,g,p,gd,m,hs,ts,qs,fp,f,Z,m0,S,W,k];rw[eg];rfl
end
theorem aj.two{P:Ae}{w:Af}{K:af}{mg:Str->Option Aa}{base:Heap}{CX:xE}{k:Nat}{f:Addr}{fd:Ad}{ps:ae}{sp T8 M8:Sp}(F:!aj CX k f fd ps T8)(G:!aj CX k f fd ps M8)(h:∀vs H Q E,sp vs H Q E->T8 vs H Q E∨M8 vs H Q E):!aj CX k f fd ps sp:=
 #[λvs H Q E q=>(h vs H Q E q).elim (F.len vs H Q E) (G.len vs H Q E),λA outer s H args us vs Q E hr e b v q=>(h vs H Q E q).elim (F.run A outer s H args us vs Q E hr e b v) (G.run A outer s H args us vs Q E hr e b v)]
def oO:AW:=λr hs ts qs f h=>if r.2.1="least" then yT r hs ts qs f h else if r.2.1="below" then AD r hs ts qs f h else Ep r hs ts qs f h
theorem ld_:∀r∈rl,r.2.1≠"turns"->r.2.1≠"least"->r.2.1≠"below"->r.2.1="shares":=by decide +kernel
theorem jF_:∀r∈rl,r.2.1="turns"->r.2.2.2.isSome=true:=by decide +kernel
variable{r:Rl}
theorem X_(h:r.2.1="least")(hs:Xa)(ts:Xb)(qs:aC)(f:ag)(x:Str):oO r hs ts qs f x=yT r hs ts qs f x:=aA h
theorem Ys(h:r.2.1="below")(hs:Xa)(ts:Xb)(qs:aC)(f:ag)(x:Str):oO r hs ts qs f x=AD r hs ts qs f x:=(aq (by rw[h];decide +kernel)).trans (aA h)
theorem YX(h:r.2.1="shares")(hs:Xa)(ts:Xb)(qs:aC)(f:ag)(x:Str):oO r hs ts qs f x=Ep r hs ts qs f x:=(aq (by rw[h];decide +kernel)).trans (aq (by rw[h];decide +kernel))
def i4(r:Rl)(hs:Xa)(ts:Xb)(qs:aC)(f:ag)(m:Int):fS:=if r.2.1="turns" then Et hs ts qs f (r.2.2.2.getD "") m else CC oO r hs ts qs f
def eN(r:Rl)(ts:Xb):Nat:=if r.2.1="turns" then max 1 (turnsOf (aD ts)).length else 1
def BT(T1 T2:Addr)(H H':Hp):Prop:=∀b o,H b=some o->b≠T1->b≠T2->H' b=some o
variable{T1 T2:Addr}
theorem BT.of{H H':Hp}(s:aa H H'):BT T1 T2 H H':=λb o e _ _=>s b o e
theorem BT.trans{H H1 H2:Hp}(a:BT T1 T2 H H1)(b:BT T1 T2 H1 H2):BT T1 T2 H H2:=λc o e n1 n2=>b c o (a c o e n1 n2) n1 n2
theorem BT.nt{H H':Hp}(a:BT T1 T2 H H')(tb:Tb H T1 T2):NT H H':=λb o e n=>by
 let#[v1,h1]:=ki tb.a;let#[v2,h2]:=ki tb.b;exact a b o e (λz=>n v1 (by rw[z,h1] at e;exact (eK e).symm)) (λz=>n v2 (by rw[z,h2] at e;exact (eK e).symm))
section
variable{P:Ae}{w:Af}{K:af}{mg:Str->Option Aa}{base:Heap}{CS CG CW T1 T2:Addr}
theorem gD_{fd:Ad}{T:Addr}(l:!aj aZ 6 f0 fd wV (w6 K CS CG CW T (λr=>r.2.1="least") yT))(b:!aj aZ 6 f0 fd wV (w6 K CS CG CW T (λr=>r.2.1="below") AD))(s:!aj aZ 6 f0 fd wV (w6 K CS CG CW T (λr=>r.2.1="shares") Ep)):!aj aZ 6 f0 fd wV (w6 K CS CG CW T (λr=>r.2.1≠"turns") oO):=by
 apply aj.two l (M8:=w6 K CS CG CW T (λr=>r.2.1≠"turns"/\r.2.1≠"least") oO) (aj.two b s λvs H Q E q=>?_) λvs H Q E q=>?_
 ·let#[v,g,p,aw,h,hs,ts,qs,fp,f,r,hr,e,#[n1,n2],ha,S,W,hh,tab,k]:=q;by_cases c:r.2.1="below"
  ·exact .inl #[v,g,p,aw,h,hs,ts,qs,fp,f,r,hr,e,c,ha,S,W,hh,tab,λl ys H' b t n e tu=>k l ys H' b t n e (by rw[Ys c];exact tu)]
  ·let c:=ld_ r hr n1 n2 c;exact .inr #[v,g,p,aw,h,hs,ts,qs,fp,f,r,hr,e,c,ha,S,W,hh,tab,λl ys H' b t n e tu=>k l ys H' b t n e (by rw[YX c];exact tu)]
 ·let#[v,g,p,aw,h,hs,ts,qs,fp,f,r,hr,e,n1,ha,S,W,hh,tab,k]:=q;by_cases c:r.2.1="least"
  ·exact .inl #[v,g,p,aw,h,hs,ts,qs,fp,f,r,hr,e,c,ha,S,W,hh,tab,λl ys H' b t n e tu=>k l ys H' b t n e (by rw[X_ c];exact tu)]
  ·exact .inr #[v,g,p,aw,h,hs,ts,qs,fp,f,r,hr,e,#[n1,c],ha,S,W,hh,tab,k]
inductive QW (K:af) (CS CG CW T:Addr) (vs:ai) (H:Hp) (Q:VK) (E:XK):Prop
 |mk:∀(v g p:Addr) (m:Int) (hs:Xa) (ts:Xb) (qs:aC) (fp:ay) (f:ag),∀r∈rl,vs=[.ref v,.str r.1,.int m]->0<=m->jA K CS CG CW H v g p hs ts qs fp f->Wd hs ts qs f->ee H T me->(∀l ys H',aX T H H'->ee H' T me->H l=none->H' l=some (.lst ys)->bg K H' ys ((i4 r hs ts qs f m).map kM)->Q (.ref l) H')->QW K CS CG CW T vs H Q E
theorem jl_{fd:Ad}{T:Addr}(a:!aj aZ 7 f0 fd Ao (mU K CS CG CW T (λr=>r.2.1≠"turns") oO))(t:!aj aZ 6 f0 fd Ao (QI K CS CG CW)):!aj aZ 7 f0 fd Ao (QW K CS CG CW T):=by
 apply aj.two a (t.mono (by decide)) λvs H Q E q=>?_;let#[v,g,p,m,hs,ts,qs,fp,f,r,hr,e,m0,S,W,tab,k]:=q;by_cases c:r.2.1="turns"
 ·let#[gd,eg]:=ES.mp (jF_ r hr c);exact .inr #[v,g,p,m,gd,hs,ts,qs,fp,f,r,hr,e,c,eg,m0,S,W,λl ys H' s n e tu=>k l ys H' (aX.of s) (tab.same s) n e (by unfold i4;rw[aA c,eg];exact tu)]
 ·exact .inl #[v,g,p,m,hs,ts,qs,fp,f,r,hr,e,c,S,W,tab,λl ys H' b t n e tu=>k l ys H' b t n e (by unfold i4;rw[aq c];exact tu)]
structure Pld (K:af) (CG CW T1 T2:Addr) (H:Hp) (g p d:Addr) (hs:Xa) (ts:Xb) (qs:aC) (fp:ay) (f:ag):Prop where
 Pl:AC K CG CW H g p d hs ts qs fp f
 W:Wd hs ts qs f
 tb:Tb H T1 T2
 has:∀b∈fp,∃o,H b=some o
end
section
variable{P:Ae}{w:Af}{K:af}{mg:Str->Option Aa}{base:Heap}{CS CG CW T1 T2:Addr}
end
section
variable{P:Ae}{w:Af}{K:af}{mg:Str->Option Aa}{base:Heap}
theorem qV:bD qJ qJ (bb RH):=bJ
def Ye:Sp:=λvs H Q _=>∃(l:Addr) (g:Int),vs=[.ref l,.int g]/\0<=g/\g<4/\dJ H l/\∀r H',1<=r->r<=1000000000->aX l H H'->dJ H' l->Q (.int r) H'
theorem gM_{f:Addr}{fd:Ad}(F:bo K "_law_weight" "_law_weight" RH f fd)(cD:!br 2 yN Ap CO):!aj aZ 3 f fd qJ Ye:=by
 apply F.bI qV λaR A outer s H vs Q E hr h=>?_
 ·let#[l,g,rfl,g0,g4,st,k]:=h;refine' #[_,ak ?s1 (aF ?s2),?kk]
  case s1=>exact bQ (cz ik (pv 1) aE) (aF (bh (bO fV (cO %[bF U7 aE aE,bF iV aE (aY cD hr %[0,bF U7 aE aE|0])|0]) (aY cD hr %[0,aE|0])))) bR
  case s2=>exact bh (bF iV aE (aY cD hr %[0,bO fV (cO %[aE,aE,aE|0]) (pv 1)|0]))
  apply#[_,Z,Z,_,Z,?_];apply aP (λc=>?_) (λc=>?_)
  ·apply#[_,_,Z,Z,#[by decide,by decide,by decide],_,Z,_,_,Z,Z,#[by decide,by decide,by decide],l,(10:Int) ^ (9:Int).toNat,Z,by decide,by decide,st,λr1 H1 q0 q1 b1 ma=>#[_,_,Z,Z,?_]];have q1:r1<1000000000:=q1;apply#[zl,λlx nx=>?_];let#[s2,e2]:=aB (o:=.lst [.int ((10:Int) ^ (9:Int).toNat),.int (1+r1)]) nx;let xl:=ma.ne nx;generalize upd H1 lx (.lst [.int ((10:Int) ^ (9:Int).toNat),.int (1+r1)])=H2 at s2 e2 ⊢;apply#[_,Z,l,2,Z,by decide,by decide,ma.same s2,λr2 H3 u0 u1 b3 hJ=>?_]
   let#[v,hv,x,rfl,x1,x2]:=vo (p:=λv:V=>∃x:Int,v=V.int x/\1<=x/\x<=1000000000) (xs:=[V.int ((10:Int) ^ (9:Int).toNat),.int (1+r1)]) (n:=2) Z u0 u1 (λv hv=>by
    simp only[bZ,xw,or_false] at hv;rcases hv with rfl|rfl
    ·exact#[_,Z,by decide,by decide]
    ·exact#[_,Z,by omega,by omega])
   exact#[lx,_,_,_,Z,Z,.of (b3 _ _ e2 xl),hv,k x H3 x1 x2 ((b1.trans (aX.of s2)).trans b3) hJ]
  ·have g3:g<3:=by
    have:¬g=3:=λz=>c (by rw[z];rfl);omega
   apply#[_,Z,zl,λlx nx=>?_];let#[s2,e2]:=aB (o:=.lst [.int 3,.int 12,.int 1000]) nx;generalize upd H lx (.lst [.int 3,.int 12,.int 1000])=H2 at s2 e2 ⊢
   let#[v,hv,x,rfl,x1,x2]:=vo (p:=λv:V=>∃x:Int,v=V.int x/\1<=x/\x<=1000) (xs:=[V.int 3,.int 12,.int 1000]) (n:=3) Z g0 g3 (λv hv=>by
    simp only[bZ,xw,or_false] at hv;rcases hv with rfl|rfl|rfl
    ·exact#[_,Z,by decide,by decide]
    ·exact#[_,Z,by decide,by decide]
    ·exact#[_,Z,by decide,by decide])
   apply#[_,Z,lx,_,_,_,Z,Z,.of e2,hv,l,x,Z,by omega,by omega,st.same s2,λr1 H3 q0 q1 b3 hJ=>#[_,_,Z,Z,?_]];exact k (1+r1) H3 Z1 Z1 ((aX.of s2).trans b3) hJ
theorem Er:bD [j8,vA,rG,rK,lG,"_law_pair"] [j8,vA] (bb nJ):=bJ
inductive QY (K:af) (vs:ai) (H:Hp) (Q:VK) (E:XK):Prop
 |mk:∀(l lt:Addr) (zs:ai) (ts:Xb),vs=[.ref l,.ref lt]->dJ H l->H lt=some (.lst zs)->lt≠l->bg K H zs (ts.map kT)->ts.length<64->(∀t∈ts,Co t)->(ts.map kO).Nodup->(∀lw ys ws H',aX l H H'->dJ H' l->H lw=none->H' lw=some (.lst ys)->bg K H' ys (ws.map kT)->Ei ts ws->Q (.ref lw) H')->QY K vs H Q E
theorem ja_{f:Addr}{fd:Ad}(F:bo K "_law_ways" "_law_ways" nJ f fd)(B:Bi mg)(cD:!br 2 yN Ap CO):!aj aZ 3 f fd [j8,vA] (QY K):=by
 apply F.bI Er λaR A outer s H vs Q E hr h=>?_
 ·let#[l,lt,zs,ts,rfl,st,dz,yq,tt,dk,good,nd,k]:=h;let sz:=b_;refine' #[_,ak ?s1 (ak ?s2 (aF ?s3)),?kk]
  case s1=>exact aQ 2 Er.nd (cO aJ)
  case' s2=>refine' eM dX Z (dF (pv 1)) (jm Z (di (bU 3 Er.nd) (di (bU 4 Er.nd) iF))) (ak ?b1 (aF ?b2))
  case b1=>exact aQ 5 Er.nd (bO fV (cO %[eW %[3,4|0],eW %[4,3|0]|0]) (aY cD hr %[0,aE|0]))
  case b2=>exact aQ 2 Er.nd (bF CD (pv 2) (bF Vf (cO %[5|0]) (iD EC (by rfl) B.int CL %[iG rF (aY cD hr %[0,aE|0]) aE|0])))
  case s3=>exact bh (pv 2)
  let lz:=bK tt;rw[ao] at lz;apply#[zl,λUK FY=>?_];let#[s1,e1]:=aB (o:=.lst []) FY;let _t:=st.ne FY;lk;generalize upd H UK (.lst [])=H1 at s1 e1 ⊢
  let Jg:bL:=λi σ H'=>∃(lw:Addr) (v3 v4 v5:aK) (ys:ai) (ws us:Xb),σ=[some (.ref l),some (.ref lt),some (.ref lw),v3,v4,v5]/\aX l H H'/\dJ H' l/\H lw=none/\lw≠l/\H' lw=some (.lst ys)/\bg K H' ys (ws.map kT)/\us.Sublist (ts.take i)/\Paired (λw u=>w=u∨w=(u.2,u.1)) ws us
  apply#[_,Z,lt,Z,#[_,.of (s1 _ _ dz)],gc (K:=K) (a:=lt) (xs:=zs) Jg #[UK,none,none,none,[],[],[],Z,aX.of s1,st.same s1,FY,_t,e1,.nil,List.Sublist.refl _,.nil] (λi σ H' _ ⟨_,_,_,_,_,_,_,_,b,_⟩=>.of (b _ _ dz yq)) ?_ ?_]
  ·rintro i x σ H2 hx ⟨lw,v3,v4,v5,ys,ws,us,rfl,b2,fI,nw,wl,hw,tw,sub,pr⟩;let#[t,ht,a,rfl,ha]:=jr tt hx;let#[Kg,wK]:=st.some;let wO:=b2 _ _ (wH ha) (cj (wH ha) wK nofun);apply#[a,_,Z,.of wO,Z,_,_,Z,_,_,Z,Z,?_];dsimp only
   have lu:us.length<=i:=by
    have:=sub.length_le;rw[dg] at this;omega
   let lws:=bK pr;let ly:=bK tw;rw[ao] at ly
   have hi:i<ts.length:=by
    have:=(cy.mp ht).1;omega
   let Jf:ck:=λσ H'=>∃(q:Addr) (qq:Str × Str),σ=[some (.ref l),some (.ref lt),some (.ref lw),some (.str t.1),some (.str t.2),some (.ref q)]/\aX l H H'/\dJ H' l/\H' lw=some (.lst ys)/\bg K H' ys (ws.map kT)/\H' q=some (.tup ((kT qq).map kV))/\(qq=t∨qq=(t.2,t.1))
   apply dB Jf ?m2 ?m1
   case m1=>
    intro N hN;apply#[_,Z,_,Z,zl,λt1 Ah=>?_];let#[zI,YC]:=aB (o:=.tup [.str t.1,.str t.2]) Ah;generalize upd H2 t1 (.tup [.str t.1,.str t.2])=H3 at zI YC ⊢;apply#[_,Z,_,Z,zl,λt2 OJ=>?_];let#[gz,Ef]:=aB (o:=.tup [.str t.2,.str t.1]) OJ;generalize upd H3 t2 (.tup [.str t.2,.str t.1])=H4 at gz Ef ⊢;apply#[zl,λlx sj=>?_];let#[q_,Lu]:=aB (o:=.lst [.ref t1,.ref t2]) sj;let xl:=((fI.same zI).same gz).ne sj;generalize upd H4 lx (.lst [.ref t1,.ref t2])=H5 at q_ Lu ⊢;let uG:=(zI.trans gz).trans q_;let fX:=fI.same uG;let#[Z6,vn]:=fX.some;apply#[_,Z,l,2,Z,by decide,by decide,fX,λr5 H6 q4 q5 b6 jv=>?_];have E3:∀{b:Addr} {zs:ai},H5 b=some (.tup zs)->H6 b=some (.tup zs):=λe=>b6 _ _ e (cj e vn nofun)
    have pick:∃(q:Addr) (qq:Str × Str),gF [V.ref t1,V.ref t2] r5=some (.ref q)/\H6 q=some (.tup ((kT qq).map kV))/\(qq=t∨qq=(t.2,t.1)):=by
     rcases yB (a:=V.ref t1) (b:=V.ref t2) q4 q5 with e|e
     ·exact#[t1,t,e,E3 (q_ _ _ (gz _ _ YC)),.inl Z]
     ·exact#[t2,(t.2,t.1),e,E3 (q_ _ _ Ef),.inr Z]
    let#[q,qq,et,KU,wI]:=pick;have Zt:aX l H2 H6:=(aX.of uG).trans b6;exact#[lx,_,_,_,Z,Z,.of (b6 _ _ Lu xl),et,hN _ _ #[q,qq,Z,b2.trans Zt,jv,Zt _ _ hw wl,vU (tw.same uG) b6 vn,KU,wI]]
   rintro σ H6 ⟨q,qq,rfl,b6,jv,hw6,_H,KU,wI⟩;apply#[_,Z,_,Z,zl,λlx sj=>?_];let#[s7,e7]:=aB (o:=.lst [.ref q]) sj;let xl:=jv.ne sj;generalize upd H6 lx (.lst [.ref q])=H7 at s7 e7 ⊢;let tG:=jv.same s7;let#[xs7,V5]:=tG.some;apply#[_,Z,l,3,Z,by decide,by decide,tG,λr6 H8 q6 q7 b8 xO=>#[_,_,Z,Z,.inr #[_,Z,?_]]];let hw8:=b8 _ _ (s7 _ _ hw6) wl;let e8:=b8 _ _ e7 xl;let TQ:=vU (_H.same s7) b8 V5;let hq8:=b8 _ _ (s7 _ _ KU) (cj (s7 _ _ KU) V5 nofun);have ER:aX l H H8:=b6.trans ((aX.of s7).trans b8);apply#[lx,_,_,Z,Z,e8,?_,?_,?_,λp hp=>?_]
   ·by_cases c:decide (0<r6)=true
    ·rw[aA c];decide
    ·rw[aq c];decide
   ·by_cases c:decide (0<r6)=true
    ·rw[aA c];decide
    ·rw[aq c];decide
   ·by_cases c:decide (0<r6)=true
    ·rw[aA c];show 1 * 1<=sizeLine;decide
    ·rw[aq c];show 1 * 0<=sizeLine;decide
   let#[s9,e9]:=aB (o:=.lst (List.replicate (if decide (0<r6)=true then (1:Int) else 0).toNat [V.ref q]).flatten) hp;generalize upd H8 p (.lst (List.replicate (if decide (0<r6)=true then (1:Int) else 0).toNat [V.ref q]).flatten)=H9 at s9 e9 ⊢;apply#[lw,p,_,_,Z,Z,s9 _ _ hw8,e9,?_,λu hu=>?_]
   ·by_cases c:decide (0<r6)=true
    ·rw[aA c];show ys.length+1<=sizeLine;omega
    ·rw[aq c];show ys.length+0<=sizeLine;omega
   let Nq:=aa.new (o:=.lst (ys++(List.replicate (if decide (0<r6)=true then (1:Int) else 0).toNat [V.ref q]).flatten)) hu;let Bu:=s9.trans Nq;have b0u:aX l H (upd H9 u (.lst (ys++(List.replicate (if decide (0<r6)=true then (1:Int) else 0).toNat [V.ref q]).flatten))):=ER.trans (aX.of Bu);let tF:=xO.same s9;apply#[u,_,_,_,_,if decide (0<r6)=true then ws++[qq] else ws,if decide (0<r6)=true then us++[t] else us,Z,b0u,xO.same Bu,(ER.trans (aX.of s9)).free tF hu,tF.ne hu,az,?_,?_,?_]
   ·by_cases c:decide (0<r6)=true
    ·rw[aA c,aA c];show bg K _ (ys++[V.ref q]) ((ws++[qq]).map kT);rw[cu];rw[aA c] at Bu;exact vT (TQ.same Bu) (Bu _ _ hq8)
    ·rw[aq c,aq c];show bg K _ (ys++[]) (ws.map kT);rw[g_];rw[aq c] at Bu;have:=TQ.same Bu;simpa using this
   ·have e:ts.take (i+1)=ts.take i++[t]:=by rw[iE,ht];rfl
    rw[e];by_cases c:decide (0<r6)=true
    ·rw[aA c];exact sub.append (List.Sublist.refl _)
    ·rw[aq c];exact sub.trans (List.sublist_append_left _ _)
   ·by_cases c:decide (0<r6)=true
    ·rw[aA c,aA c];exact km pr (.cons wI .nil)
    ·rw[aq c,aq c];exact pr
  ·rintro σ H2 ⟨lw,v3,v4,v5,ys,ws,us,rfl,b2,fI,nw,wl,hw,tw,sub,pr⟩;rw[lz,dP] at sub;exact#[_,Z,k lw ys ws H2 b2 fI nw hw tw (lz_ good nd sub pr)]
end
theorem XM{K:af}{H:Hp}{a l:Addr}{ys:ai}{ks:List aM}(t:bg K H ys ks)(ha:H a=some (.lst ys))(st:dJ H l):a≠l:=λe=>by
 subst e;let#[x,y,z,e]:=st;rw[ha] at e;have e:ys=_:=HO.lst.inj (eK e);subst e;cases t with
 |cons h _=>
  let#[b,z,_]:=h;cases z
variable{v:V}{o:Option (Xb)}
theorem bW.mv{K:af}{H H':Hp}{l:Addr}(h:bW K H v o)(b:aX l H H')(st:dJ H l):bW K H' v o:=by
 cases o with
 |none=>exact h
 |some ws=>
  let#[a,ys,e,ha,t]:=h;let#[xs,hl]:=st.some;exact#[a,ys,e,b _ _ ha (XM t ha st),vU t b hl]
def PcI(K:af)(H:Hp)(lp:Addr)(y:V)(p:Pc):Prop:=∃t v,y=.ref t/\H t=some (.tup [.str p.1,.int p.2.1,v])/\bW K H v p.2.2/\v≠.ref lp
structure GI (K:af) (H0 H:Hp) (l ln lp d:Addr) (ns:ae) (hs:Xa) (ts:Xb) (i j:Nat):Prop where
 but:aX l H0 H
 st:dJ H l
 hn:H ln=some (.lst (ns.map V.str))
 Dw:∃yp ps,H lp=some (.lst yp)/\Paired (PcI K H lp) yp ps/\ps.map (·.1)=ns.take i/\∀q∈ps,Cs ts q
 Fo:∃f:Str->Str,H d=some (.dK (bN (ns.take j) f))/\∀n∈ns.take j,f n∈hs.map (·.1)
 nl:ln≠l
 pl:lp≠l
 dl:d≠l
 np:ln≠lp
 fp:H0 lp=none
 fd:H0 d=none
variable{n:Str}
section
variable{K:af}{H0 H G:Hp}{l ln lp d:Addr}{ns:ae}{hs:Xa}{ts:Xb}{i j:Nat}
theorem GI.mv(W:GI K H0 H l ln lp d ns hs ts i j)(b:aX l H G)(st:dJ G l):GI K H0 G l ln lp d ns hs ts i j:=by
 let#[yp,ps,h1,h2,h3,h4]:=W.Dw;let#[f,d1,d2]:=W.Fo;let#[xs,hl]:=W.st.some;exact#[W.but.trans b,st,b _ _ W.hn W.nl,#[yp,ps,b _ _ h1 W.pl,Paired.bx h2 λy p ⟨t,v,e,ht,wy,n⟩=>#[t,v,e,b _ _ ht (cj ht hl nofun),wy.mv b W.st,n],h3,h4],#[f,b _ _ d1 W.dl,d2],W.nl,W.pl,W.dl,W.np,W.fp,W.fd]
theorem GI.same(W:GI K H0 H l ln lp d ns hs ts i j)(s:aa H G):GI K H0 G l ln lp d ns hs ts i j:=W.mv (aX.of s) (W.st.same s)
theorem GI.FS(W:GI K H0 H l ln lp d ns hs ts i j){x:Int}{t:Addr}{yp:ai}(hn:ns[i]? = some n)(hp:H lp=some (.lst yp))(ht:H t=some (.tup [.str n,.int x,v]))(wy:bW K H v o)(nv:v≠.ref lp)(g:Cs ts (n,x,o)):GI K H0 (upd H lp (.lst (yp++[.ref t]))) l ln lp d ns hs ts (i+1) j:=by
 let#[yp',ps,h1,h2,h3,h4]:=W.Dw;let#[f,d1,d2]:=W.Fo;rw[hp] at h1;cases h1;apply#[λb o e ne=>by rw[au (bq e W.fp)];exact W.but b o e ne,?_,by rw[au W.np];exact W.hn,#[_,ps++[(n,x,o)],az,km (Paired.bx h2 λy p ⟨t,v,e,ht,wy,n⟩=>#[t,v,e,by rw[au (cj ht hp nofun)];exact ht,wy.put hp n,n]) (.cons #[t,v,Z,by rw[au (cj ht hp nofun)];exact ht,wy.put hp nv,nv] .nil),?_,λq hq=>?_],#[f,by rw[au (cj d1 hp nofun)];exact d1,d2],W.nl,W.pl,W.dl,W.np,W.fp,W.fd]
 ·exact W.st.upd W.pl
 ·rw[cu,h3,fB hn];rfl
 ·rcases fQ.mp hq with hq|hq
  ·exact h4 q hq
  ·rw[jq.mp hq];exact g
theorem GI.put(W:GI K H0 H l ln lp d ns hs ts i j)(nd:ns.Nodup){h:Str}{f:ag}(hn:ns[j]? = some n)(hd:H d=some (.dK (bN (ns.take j) f)))(fm:∀n∈ns.take j,f n∈hs.map (·.1))(hh:h∈hs.map (·.1)):GI K H0 (upd H d (.dK (putK (bN (ns.take j) f) (Sum.inr n) (.str h)))) l ln lp d ns hs ts i (j+1):=by
 let#[yp,ps,h1,h2,h3,h4]:=W.Dw;let nn:=Ih nd hn;have pd:∀{b:Addr} {zs:ai},H b=some (.tup zs)->b≠d:=λe z=>by rw[z,hd] at e;cases e
 have ld:∀{b:Addr} {zs:ai},H b=some (.lst zs)->b≠d:=λe z=>by rw[z,hd] at e;cases e
 apply#[λb o e ne=>by rw[au (bq e W.fd)];exact W.but b o e ne,W.st.upd W.dl,by rw[au (ld W.hn)];exact W.hn,#[yp,ps,by rw[au (ld h1)];exact h1,Paired.bx h2 λy p ⟨t,v,e,ht,wy,n⟩=>#[t,v,e,by rw[au (pd ht)];exact ht,?_,n],h3,h4],#[λm=>if m=n then h else f m,?_,λm hm=>?_],W.nl,W.pl,W.dl,W.np,W.fp,W.fd]
 ·cases o:p.2.2 with
  |none=>rw[o] at wy;exact wy
  |some ws=>
   rw[o] at wy;let#[a,ys,e,ha,tu]:=wy;exact#[a,ys,e,by rw[au (ld ha)];exact ha,Paired.bx tu λy k ⟨b,z,q⟩=>#[b,z,by rw[au (pd q)];exact q]]
 ·rw[az,LD nn,fB hn];apply d8 (λx=>some (HO.dK x)) (ED λm hm=>?_);dsimp only;by_cases z:m=n
  ·simp only[aA z]
  ·simp only[aq z]
 ·dsimp only;rw[fB hn] at hm;by_cases z:m=n
  ·rw[aA z];exact hh
  ·rw[aq z];rcases fQ.mp hm with hm|hm
   ·exact fm m hm
   ·exact absurd (jq.mp hm) z
end
variable{fd:Ad}
section
variable{P:Ae}{w:Af}{K:af}{mg:Str->Option Aa}{base:Heap}
abbrev gN:ae:=[j8,"_law_hands",vA,"_law_many","_law_great","_law_free","_law_heap","_law_pieces",i6,"_law_name","_law_ways_here","_law_at"]
theorem vR:bD gN Ee (bb QM):=bJ
inductive IE (K:af) (vs:ai) (H:Hp) (Q:VK) (E:XK):Prop
 |mk:∀(l lh lt:Addr) (yh zs:ai) (hs:Xa) (ts:Xb),vs=[.ref l,.ref lh,.ref lt]->dJ H l->H lh=some (.lst yh)->lh≠l->bg K H yh (hs.map kH)->H lt=some (.lst zs)->lt≠l->bg K H zs (ts.map kT)->Good hs ts->(∀(t lp d:Addr) (yp:ai) (ps:aC) (f:ag) (H':Hp),aX l H H'->dJ H' l->H' t=some (.tup [.ref lp,.ref d])->H lp=none->H d=none->lp≠l->d≠l->H' lp=some (.lst yp)->As K H' yp ps->H' d=some (.dK (bN (ps.map (·.1)) f))->(∀q∈ps,Cs ts q)->(ps.map (·.1)).Nodup->ps.length<=30->(∀n∈ps.map (·.1),f n∈hs.map (·.1))->Q (.ref t) H')->IE K vs H Q E
theorem im_(F:bo K "_law_goods" "_law_goods" QM f0 fd)(B:Bi mg)(cD:!br 2 yN Ap CO)(cN:!br 3 "_law_named" qI QQ)(cW:!br 3 "_law_weight" qJ Ye)(cY:!br 3 "_law_ways" [j8,vA] (QY K)):!aj aZ 4 f0 fd Ee (IE K):=by
 apply F.bI vR λaR A outer s H vs Q E hr h=>?_
 ·let#[l,lh,lt,yh,zs,hs,ts,rfl,st,ic,Gc,th,dz,yq,tt,Gd,k]:=h;let sz:=b_;let hu:=eU hr;refine' #[_,?r0,?kk]
  case' r0=>refine' ak ?s1 ?r1
  case' r1=>refine' ak ?s2 ?r2
  case' r2=>refine' ak ?s3 ?r3
  case' r3=>refine' ak ?s4 ?r4
  case' r4=>refine' ak ?s5 ?r5
  case' r5=>refine' ak ?s6 ?r6
  case' r6=>refine' ak ?s7 (aF ?s8)
  case s1=>exact aQ 3 vR.nd (bO fV (cO %[aY cD hr %[0,aE|0],aY cD hr %[0,aE|0]|0]) (aY cD hr %[0,aE|0]))
  case s2=>exact aQ 4 vR.nd (aY cD hr %[0,aE|0])
  case s3=>exact aQ 5 vR.nd (aY cD hr %[0,aE|0])
  case s4=>exact aQ 6 vR.nd (aY cD hr %[0,aE|0])
  case s5=>exact aQ 7 vR.nd (cO aJ)
  case s6=>exact aQ 8 vR.nd C_
  case' s7=>refine' eM dX Z (dF (aY cN hr %[0,3|0])) (bU 9 vR.nd) ?b0
  case' b0=>refine' ak ?b1 ?c1
  case' c1=>refine' ak ?b2 ?c2
  case' c2=>refine' ak ?b3 ?c3
  case' c3=>refine' ak ?b4 (aF ?b5)
  case b1=>exact aQ 10 vR.nd CK
  case b2=>exact bQ (PW.pt (yQ (cz ik (pv 5) aE) (CZ (cz rF (aY cD hr %[0,aE|0]) aE)))) (aF (aQ 10 vR.nd (aY cY hr %[0,2|0]))) bR
  case b3=>exact hZ (gX il mE mF lN (pv 7) %[eW %[9,aY cW hr %[0,4|0],10|0]|0])
  case b4=>exact aQ 11 vR.nd (aY cD hr %[0,cX lM (by rfl) B.len jk %[1|0]|0])
  case' b5=>refine' rN hu (pv 8) (pv 9) (bO eO (bO fV (pv 1) ?ix) aE) Z
  case ix=>exact bF ji (pv 11) (iD EC (by rfl) B.int CL %[DW (iG ik (pv 6) aE) (oU (iG ik (aY cD hr %[0,aE|0]) aE))|0])
  case s8=>exact bh (eW %[7,8|0])
  let KH:=bK th;rw[ao] at KH;let mq:=Gd.h1;let h8':=Gd.h8;apply#[_,Z,l,9,Z,by decide,by decide,st,λa1 H1 p0 p1 b1 ma=>?_];apply#[_,Z,l,31,Z,by decide,by decide,ma,λa2 H2 p2 p3 b2 fI=>?_];apply#[zl,λlx nx=>?_];let#[s3,e3]:=aB (o:=.lst [.int a1,.int a2]) nx;let xl:=fI.ne nx;generalize upd H2 lx (.lst [.int a1,.int a2])=H3 at s3 e3 ⊢;apply#[_,Z,l,2,Z,by decide,by decide,fI.same s3,λa3 H4 p4 p5 b4 h_=>?_]
  let#[v,hv,m,rfl,m0,m30]:=vo (p:=λv:V=>∃x:Int,v=V.int x/\0<=x/\x<=30) (xs:=[V.int a1,.int a2]) (n:=2) Z p4 p5 (λv hv=>by
   simp only[bZ,xw,or_false] at hv;rcases hv with rfl|rfl
   ·exact#[_,Z,by omega,by omega]
   ·exact#[_,Z,by omega,by omega])
  let#[m,rfl]:=qB m0;apply#[lx,_,_,_,Z,Z,.of (b4 _ _ e3 xl),hv,?_];have Ms:aX l H H4:=(b1.trans b2).trans ((aX.of s3).trans b4);lk;clear b1 b2 b4 s3 e3 hv nx ma fI;apply#[_,Z,l,4,Z,by decide,by decide,h_,λgr H5 g0 g4 b5 fX=>?_];lk;apply#[_,Z,l,2,Z,by decide,by decide,fX,λfr H6 f0 f2 b6 jv=>?_];lk;apply#[_,Z,l,2,Z,by decide,by decide,jv,λhp H7 q0 q2 b7 tG=>?_];lk;have Tc:aX l H H7:=Ms.trans (b5.trans (b6.trans b7));clear Ms b5 b6 b7 h_ fX jv;apply#[zl,λlp np=>?_];lk;let#[s8,e8]:=aB (o:=.lst []) np;let UN:=tG.ne np;have fp0:H lp=none:=Tc.free tG np;generalize upd H7 lp (.lst [])=H8 at s8 e8 ⊢;let xO:=tG.same s8;let ER:=Tc.trans (aX.of s8);apply λd nd=>?_;lk;let#[s9,e9]:=aB (o:=.dK []) nd;let dl:=xO.ne nd;have fd0:H d=none:=ER.free xO nd;generalize upd H8 d (.dK [])=H9 at s9 e9 ⊢;let tF:=xO.same s9;let Zu:=ER.trans (aX.of s9);apply#[_,Z,_,Z,l,m,Z,by omega,tF,λln ns AY lJ qU nn hn N=>?_];have Ga:ln≠l:=tF.ne nn;have W0:GI K H AY l ln lp d ns hs ts 0 0:=#[Zu.trans lJ,qU,hn,#[[],[],lJ _ _ (s9 _ _ e8) UN,.nil,Z,by simp],#[λ_=>"",lJ _ _ e9 dl,by simp],Ga,UN,dl,(bq (s9 _ _ e8) nn).symm,fp0,fd0];clear Tc ER Zu lJ tG xO tF qU s8 s9 e8 e9 np nd nn hn;have n30:ns.length<=30:=by rw[N.len];omega
  let Je:bL:=λi σ H'=>∃(v9 v10 v11:aK),σ=[some (.ref l),some (.ref lh),some (.ref lt),some (.int m),some (.int gr),some (.int fr),some (.int hp),some (.ref lp),some (.ref d),v9,v10,v11]/\GI K H H' l ln lp d ns hs ts i i
  apply#[ln,Z,#[_,.of W0.hn],gc (K:=K) (a:=ln) (xs:=ns.map V.str) Je #[none,none,none,Z,W0] (λi σ H' _ ⟨_,_,_,_,W⟩=>.of W.hn) ?_ ?_]
  ·rintro i x σ H2 hx ⟨v9,v10,v11,rfl,W⟩;let#[n,hn,rfl]:=iX hx;have hi:i<ns.length:=(cy.mp hn).1;lk;apply setG (i:=10) (v:=.non) ?_;dsimp only
   let Jd:ck:=λσ H'=>∃(wv:V) (o:Option (Xb)),σ=[some (.ref l),some (.ref lh),some (.ref lt),some (.int m),some (.int gr),some (.int fr),some (.int hp),some (.ref lp),some (.ref d),some (.str n),some wv,v11]/\GI K H H' l ln lp d ns hs ts i i/\bW K H' wv o/\wv≠.ref lp/\∀ws,o=some ws->Ei ts ws
   apply dB Jd ?m2 ?m1
   case m1=>
    intro N1 hN;have iJ:∀{H3:Hp},GI K H H3 l ln lp d ns hs ts i i->N1 [some (.ref l),some (.ref lh),some (.ref lt),some (.int m),some (.int gr),some (.int fr),some (.int hp),some (.ref lp),some (.ref d),some (.str n),some .non,v11] H3:=λW3=>hN _ _ #[.non,none,Z,W3,Z,(λz=>by cases z),λws e=>by cases e];apply#[_,Z,Z,_,Z,?_];apply aP (λc=>?_) (λc=>?_)
    ·apply#[_,Z,l,3,Z,by decide,by decide,W.st,λr1 H3 u0 u1 b3 hJ=>#[_,_,Z,Z,_,Z,?_]];let W3:=W.mv b3 hJ;apply aP (λc2=>?_) (λc2=>?_)
     ·apply#[_,Z,_,Z,l,lt,zs,ts,Z,hJ,W3.but _ _ dz yq,yq,?_,Gd.pE,Gd.tok,Gd.A3,λlw ys ws H4 b4 h_ nw hw tw wo=>?_]
      ·let#[Kg,wK]:=st.some;exact vU tt W3.but wK
      let W4:=W3.mv b4 h_;apply hN _ _ #[.ref lw,some ws,Z,W4,#[lw,ys,Z,hw,tw],λz=>?_,λws' e=>by cases e;exact wo];let#[yp,ps,h1,_]:=W3.Dw;cases z;rw[h1] at nw;cases nw
     ·exact iJ W3
    ·exact iJ W
   rintro σ H3 ⟨wv,o,rfl,W3,wy,nv,gw⟩
   let Jc:ck:=λσ H'=>σ=[some (.ref l),some (.ref lh),some (.ref lt),some (.int m),some (.int gr),some (.int fr),some (.int hp),some (.ref lp),some (.ref d),some (.str n),some wv,v11]/\GI K H H' l ln lp d ns hs ts (i+1) i
   apply dB Jc ?m4 ?m3
   case m3=>
    intro N1 hN;let#[yp,ps,h1,h2,h3,h4]:=W3.Dw;apply#[_,Z,.inl #[Z,_,.of h1],_,Z,_,Z,_,Z,l,gr,Z,g0,g4,W3.st,λx H4 x1 x2 b4 h_=>?_];let W4:=W3.mv b4 h_;let _h:=wy.mv b4 W3.st;apply#[_,Z,zl,λt nt=>?_];let#[s5,e5]:=aB (o:=.tup [.str n,.int x,wv]) nt;generalize upd H4 t (.tup [.str n,.int x,wv])=H5 at s5 e5 ⊢;let DH:=s5 _ _ (b4 _ _ h1 W3.pl);let ly:=bK h2;let lps:=d8 List.length h3;rw[ao,dg] at lps;apply#[lp,_,_,Z,Z,DH,by omega,hN _ _ #[Z,(W4.same s5).FS hn DH e5 (_h.same s5) nv #[N.ok n (cw hn),x1,x2,gw]]]
   rintro σ H4 ⟨rfl,W4⟩;apply#[_,Z,_,Z,lh,_,Z,.inl (.of (W4.but _ _ ic Gc)),l,_,Z,by omega,by omega,W4.st,λat' H5 a0 a1 b5 fX=>?_];let W5:=W4.mv b5 fX;lk
   have fin:∀{H6:Hp} {b:Bool},GI K H H6 l ln lp d ns hs ts (i+1) i->∃v,gF yh (at' * (if b=true then 1 else 0))=some v/\∃h∈hs,∃a,v=.ref a/\H6 a=some (.tup [.str h.1,.int h.2]):=λ{H6 b} W6=>by
    have:0<=at' * (if b=true then 1 else 0)/\at' * (if b=true then 1 else 0)<(yh.length:Int):=by
     cases b
     ·simp;omega
     ·simp;omega
    apply vo (n:=yh.length) (p:=λv:V=>∃h∈hs,∃a,v=.ref a/\H6 a=some (.tup [.str h.1,.int h.2])) Z this.1 this.2 λv hv=>?_;let#[jj,hj]:=List.mem_iff_getElem?.mp hv;let#[h,hh,a,e,ha]:=jr th hj;let#[Kg,wK]:=st.some;have ha:H a=some (.tup [.str h.1,.int h.2]):=ha;exact#[h,cw hh,a,e,W6.but _ _ ha (cj ha wK nofun)]
   apply#[_,Z,_,Z,_,Z,Z,_,Z,?_];apply aP (λc=>?_) (λc=>?_)
   ·apply .inr #[_,Z,_,_,Z,Z,.inl #[by omega,by omega],?_];let#[v,ev,h,hh,a,ea,ha]:=fin (b:=true) W5;subst ea;let#[f,d1,d2]:=W5.Fo;apply#[lh,_,_,_,Z,Z,.of (W5.but _ _ ic Gc),ev,a,_,_,_,Z,Z,.of ha,Z,_,Z,_,Z,d,_,Z,.k (k:=Sum.inr n) d1 (by rw[gh,dg];omega),?_];exact#[_,_,_,Z,W5.put N.nd hn d1 d2 (bj.mpr #[h,hh,Z])]
   ·apply#[_,Z,l,4,Z,by decide,by decide,W5.st,λr1 H6 u0 u1 b6 jv=>#[Z,?_]];let W6:=W5.mv b6 jv;apply .inr #[_,Z,_,_,Z,Z,.inl #[by omega,by omega],?_];let#[v,ev,h,hh,a,ea,ha]:=fin (b:=decide (V.int r1=V.int 0)) W6;subst ea;let#[f,d1,d2]:=W6.Fo;apply#[lh,_,_,_,Z,Z,.of (W6.but _ _ ic Gc),ev,a,_,_,_,Z,Z,.of ha,Z,_,Z,_,Z,d,_,Z,.k (k:=Sum.inr n) d1 (by rw[gh,dg];omega),?_];exact#[_,_,_,Z,W6.put N.nd hn d1 d2 (bj.mpr #[h,hh,Z])]
  ·rintro σ H2 ⟨v9,v10,v11,rfl,W⟩;rw[ao] at W;let#[yp,ps,h1,h2,h3,h4]:=W.Dw;let#[f,d1,d2]:=W.Fo;rw[dP] at h3 d1 d2;apply#[_,Z,_,Z,zl,λt nt=>?_];let s3:=aa.new (o:=.tup [.ref lp,.ref d]) nt;let W3:=W.same s3;apply k t lp d yp ps f _ W3.but W3.st az W.fp W.fd W.pl W.dl (s3 _ _ h1) (Paired.bx h2 λy p ⟨t,v,e,ht,wy,_⟩=>#[t,v,e,s3 _ _ ht,wy.same s3]) ?_ h4 ?_ ?_ ?_
   ·rw[h3];exact s3 _ _ d1
   ·rw[h3];exact N.nd
   ·have:=d8 List.length h3;rw[ao] at this;omega
   ·rw[h3];exact d2
end
def ym(h:Str)(t:Str × Str):ae:=(if t.1=h then [t.2] else [])++if t.2=h then [t.1] else []
def dj(ts:Xb)(h:Str):ae:=ts.flatMap (ym h)
def sR(ds dn lt dh dy:Addr):List (Key × V):=[(.inr "strength",.ref ds),(.inr "near",.ref dn),(.inr "ties",.ref lt),(.inr "heavy",.ref dh),(.inr "ways",.ref dy)]
structure eX (K:af) (H:Hp) (w ds dn lt dh dy:Addr) (ad:Str->Addr) (gy:Str->V) (hs:Xa) (ts:Xb) (ps:aC):Prop where
 top:H w=some (.dK (sR ds dn lt dh dy))
 sg:H ds=some (.dK (bH (hs.map (·.1)) λn=>.int (strOf hs n)))
 nr:H dn=some (.dK (bH (hs.map (·.1)) λn=>.ref (ad n)))
 ls:∀h∈hs.map (·.1),H (ad h)=some (.lst ((dj ts h).map V.str))
 hv:H dh=some (.dK (bH (ps.map (·.1)) λn=>.int (eF ps n)))
 wy:H dy=some (.dK (bH (ps.map (·.1)) gy))
 wv:∀q∈ps,bW K H (gy q.1) q.2.2
 tl:∃zs,H lt=some (.lst zs)/\bg K H zs (ts.map kT)
def jC(K:af)(H:Hp)(w:Addr)(hs:Xa)(ts:Xb)(ps:aC):Prop:=∃(ds dn lt dh dy:Addr) (ad:Str->Addr) (gy:Str->V),eX K H w ds dn lt dh dy ad gy hs ts ps
variable{dh dn ds dy w:Addr}{G:Hp}{ad:Str->Addr}{gy:Str->V}
theorem eX.nt{K:af}{H:Hp}{lt:Addr}{hs:Xa}{ts:Xb}{ps:aC}(W:eX K H w ds dn lt dh dy ad gy hs ts ps)(s:NT H G):eX K G w ds dn lt dh dy ad gy hs ts ps:=
 #[s _ _ W.top nofun,s _ _ W.sg nofun,s _ _ W.nr nofun,λh hh=>s _ _ (W.ls h hh) nofun,s _ _ W.hv nofun,s _ _ W.wy nofun,λq hq=>(W.wv q hq).nt s,let #[zs,a,b]:=W.tl;#[zs,s.lst a,bg.nt b s]]
theorem eX.same{K:af}{H:Hp}{lt:Addr}{hs:Xa}{ts:Xb}{ps:aC}(W:eX K H w ds dn lt dh dy ad gy hs ts ps)(s:aa H G):eX K G w ds dn lt dh dy ad gy hs ts ps:=W.nt (NT.of s)
theorem jC.nt{K:af}{H:Hp}{hs:Xa}{ts:Xb}{ps:aC}(W:jC K H w hs ts ps)(s:NT H G):jC K G w hs ts ps:=by
 let#[ds,dn,lt,dh,dy,ad,gy,W]:=W;exact#[ds,dn,lt,dh,dy,ad,gy,W.nt s]
section
variable{H:Hp}{w ds dn lt dh dy:Addr}{K:af}{ad:Str->Addr}{gy:Str->V}{hs:Xa}{ts:Xb}{ps:aC}
theorem eX.gS(W:eX K H w ds dn lt dh dy ad gy hs ts ps):cE H w (.str "strength") (some (.ref ds)):=cE.k (k:=Sum.inr "strength") W.top
theorem eX.gN(W:eX K H w ds dn lt dh dy ad gy hs ts ps):cE H w (.str "near") (some (.ref dn)):=cE.k (k:=Sum.inr "near") W.top
theorem eX.gH(W:eX K H w ds dn lt dh dy ad gy hs ts ps):cE H w (.str "heavy") (some (.ref dh)):=cE.k (k:=Sum.inr "heavy") W.top
theorem eX.gW(W:eX K H w ds dn lt dh dy ad gy hs ts ps):cE H w (.str "ways") (some (.ref dy)):=cE.k (k:=Sum.inr "ways") W.top
theorem jH_:putK (putK (oW [] [((.inr "strength":Key),V.ref ds),(.inr "near",.ref dn),(.inr "ties",.ref lt)]) (.inr "heavy") (.ref dh)) (.inr "ways") (.ref dy)=sR ds dn lt dh dy:=rfl
end
structure sO (H0 H:Hp) (dn:Addr) (ad:Str->Addr) (ns:ae) (g:Str->ae):Prop where
 sm:aa H0 H
 nr:H dn=some (.dK (bH ns λn=>.ref (ad n)))
 ls:wk H ns ad g
 fn:H0 dn=none
 fr:∀h∈ns,H0 (ad h)=none
variable{H0:Hp}{ns:ae}{g:Str->ae}
theorem sO.same{H:Hp}(N:sO H0 H dn ad ns g)(s:aa H G):sO H0 G dn ad ns g:=#[N.sm.trans s,s _ _ N.nr,#[λh hh=>s _ _ (N.ls.1 h hh),N.ls.2],N.fn,N.fr]
theorem sO.app{H:Hp}(N:sO H0 H dn ad ns g){m:Str}(hn:n∈ns):sO H0 (upd H (ad n) (.lst ((g n).map V.str++[.str m]))) dn ad ns (λh=>if h=n then g h++[m] else g h):=by
 let la:=N.ls.1 n hn;apply#[gf N.sm (N.fr n hn),by rw[au (cj N.nr la nofun)];exact N.nr,#[λh hh=>?_,N.ls.2],N.fn,N.fr];dsimp only;by_cases z:h=n
 ·subst z;rw[aA Z,az,cu];rfl
 ·rw[aq z,au λy=>z (N.ls.2 h hh n hn y)];exact N.ls.1 h hh
theorem sO.to{H:Hp}{g':Str->ae}(N:sO H0 H dn ad ns g)(e:∀h,g h=g' h):sO H0 H dn ad ns g':=by
 obtain rfl:g=g':=funext e;exact N
theorem WN(ts:Xb)(h:Str):(dj ts h).length<=2 * ts.length:=by
 induction ts with
 |nil=>exact gG _
 |cons t ts ih=>
  have:(ym h t).length<=2:=by
   unfold ym;rw[eA];have h1:(if t.1=h then [t.2] else []).length<=1:=by split<;>simp
   have h2:(if t.2=h then [t.1] else []).length<=1:=by split<;>simp
   omega
  unfold dj at ih ⊢;rw[xq,eA,iW];omega
theorem iU_{ts:Xb}{i:Nat}{t:Str × Str}(ht:ts[i]? = some t)(h:Str):dj (ts.take (i+1)) h=(dj (ts.take i) h++if h=t.1 then [t.2] else [])++if h=t.2 then [t.1] else []:=by
 unfold dj;rw[iE,ht,Option.toList_some,AS,xq,List.flatMap_nil,g_,xr];unfold ym;congr 1;congr 1
 ·by_cases z:h=t.1
  ·rw[aA z,aA z.symm]
  ·rw[aq z,aq λy=>z y.symm]
 ·by_cases z:h=t.2
  ·rw[aA z,aA z.symm]
  ·rw[aq z,aq λy=>z y.symm]
theorem XY{α β γ δ:Type}{F:α->γ->Prop}{G:α->δ->Prop}{g:β->γ}{k:β->δ}:∀{ys:List α} {ts:List β},Paired F ys (ts.map g)->(∀y t,F y (g t)->G y (k t))->Paired G ys (ts.map k)
 |_,[],t,_=>by rw[xk] at t;cases t;exact .nil
 |_,b::ts,t,f=>by
  rw[eL] at t;cases t with
  |cons h r=>rw[eL];exact .cons (f _ _ h) (XY r f)
theorem hsK{hs:Xa}(nd:(hs.map (·.1)).Nodup):(hs.map λh=>((Sum.inr h.1:Key),V.int h.2))=bH (hs.map (·.1)) λn=>.int (strOf hs n):=by
 unfold bH;rw[cm]
 exact rV λh hh=>by
  show _=((Sum.inr h.1:Key),V.int (strOf hs h.1));rw[WS nd (show (h.1,h.2)∈hs from hh)]
theorem PB(nd:ns.Nodup)(g:Str->V):((bH ns g).map (·.1)).Nodup:=by
 rw[EA,xv,oZ];exact nd.imp λn e=>n (ij e)
section
variable{P:Ae}{w:Af}{K:af}{mg:Str->Option Aa}{base:Heap}
abbrev wN:ae:=["_law_hands",vA,"_law_pieces","_law_near",rK,lG,"_law_ways_here","_law_heavy","_law_name","_law_weight_here","_law_told",rG]
theorem xn:bD wN wb (bb nE):=bJ
inductive P9 (K:af) (vs:ai) (H:Hp) (Q:VK) (E:XK):Prop
 |mk:∀(lh lt lp:Addr) (yh zs yp:ai) (hs:Xa) (ts:Xb) (ps:aC),vs=[.ref lh,.ref lt,.ref lp]->H lh=some (.lst yh)->bg K H yh (hs.map kH)->H lt=some (.lst zs)->bg K H zs (ts.map kT)->H lp=some (.lst yp)->As K H yp ps->Good hs ts->(ps.map (·.1)).Nodup->ps.length<=30->(∀w H',aa H H'->H w=none->jC K H' w hs ts ps->Q (.ref w) H')->P9 K vs H Q E
theorem jo_(F:bo K "_law_world" "_law_world" nE f0 fd)(B:Bi mg):!aj aZ 1 f0 fd wb (P9 K):=by
 apply F.bI xn λaR A outer s H vs Q E hr h=>?_
 ·let#[lh,lt,lp,yh,zs,yp,hs,ts,ps,rfl,ic,th,dz,tt,V4,pc,Gd,Ui,ib,k]:=h;let sz:=b_;let hu:=eU hr;refine' #[_,?r0,?kk]
  case' r0=>refine' ak ?s1 ?r1
  case' r1=>refine' ak ?s2 ?r2
  case' r2=>refine' ak ?s3 ?r3
  case' r3=>refine' ak ?s4 ?r4
  case' r4=>refine' ak ?s5 ?r5
  case' r5=>refine' ak ?s6 ?r6
  case' r6=>refine' ak ?s7 (ak ?s8 (aF ?s9))
  case s1=>exact aQ 3 xn.nd (iD (vX Z) (by rfl) B.dict oV %[i8 ["_law_name","_law_strength"] 2 [] (dF (pv 0)) (λfp s H=>Lv (n:=2) (di (fw (i:=0) (show (["_law_name","_law_strength"]:ae).Nodup by decide +kernel) Z (Or.inl Z)) (di (fw (i:=1) (show (["_law_name","_law_strength"]:ae).Nodup by decide +kernel) Z (Or.inl Z)) iF))) (λfp s H=>iY) (λfp s H=>eW %[0,cO aJ|0])|0])
  case' s2=>refine' eM dX Z (dF (pv 1)) (jm Z (di (bU 4 xn.nd) (di (bU 5 xn.nd) iF))) (ak ?b1 (aF ?b2))
  case b1=>exact hZ (gX il mE mF lN (cn hu (pv 3) (pv 4)) %[5|0])
  case b2=>exact hZ (gX il mE mF lN (cn hu (pv 3) (pv 5)) %[4|0])
  case s3=>exact aQ 6 xn.nd C_
  case s4=>exact aQ 7 xn.nd C_
  case' s5=>refine' eM dX Z (dF (pv 2)) (jm Z (di (bU 8 xn.nd) (di (bU 9 xn.nd) (di (bU 10 xn.nd) iF)))) (ak ?c1 (aF ?c2))
  case c1=>exact rN hu (pv 6) (pv 8) (pv 10) Z
  case c2=>exact rN hu (pv 7) (pv 8) (pv 9) Z
  case s6=>exact aQ 11 xn.nd (kS_ (Qv cq (iD (vX Z) (by rfl) B.dict oV %[0|0]) (Qv cq (pv 3) (Qv cq (pv 1) l5_))) Z Z nofun (by decide))
  case s7=>exact rN hu (pv 11) cq (pv 7) Z
  case s8=>exact rN hu (pv 11) cq (pv 6) Z
  case s9=>exact bh (pv 11)
  let nd:=Gd.qe;let h8:=Gd.h8;let KH:=bK th;rw[ao] at KH;apply#[_,Z,lh,Z,#[_,.of ic],λD hD=>?_]
  let Jb:dY:=λi out H'=>∃ad:Str->Addr,aa H H'/\H' D=some (.lst out)/\jz K H' out (bH ((hs.map (·.1)).take i) λh=>.ref (ad h))/\wk H' ((hs.map (·.1)).take i) ad (λ_=>[])/\∀h∈(hs.map (·.1)).take i,H (ad h)=none/\ad h≠D
  apply mJ (own:=2) (fv:=[]) (xs:=yh) Z Ho Jb #[λ_=>D,aa.new hD,az,.nil,#[by simp,by simp],by simp] (λi out H' _ ⟨_,sm,_⟩=>.of (sm _ _ ic)) (λout H2 ⟨ad,s2,jy,pa,ls,fr⟩=>?_) (λi x out H' hx ⟨ad,sm,hd,pa,ls,fr⟩=>?_);rotate_left
  ·let#[h0,hh0,a,rfl,ha]:=jr th hx;have hn:(hs.map (·.1))[i]? = some h0.1:=by rw[dW,hh0];rfl
   have nn:h0.1∉(hs.map (·.1)).take i:=Ih nd hn;apply#[_,#[a,_,_,Z,.of (sm _ _ (ON ha)),Z],Z,λNx hN=>d9 ?_];apply#[_,Z,zl,λl nl=>?_];let#[s3,e3]:=aB (o:=.lst []) nl;generalize upd H' l (.lst [])=H3 at s3 e3 ⊢;apply#[zl,λt nt=>?_];let#[s4,e4]:=aB (o:=.tup [.str h0.1,.ref l]) nt;generalize upd H3 t (.tup [.str h0.1,.ref l])=H4 at s4 e4 ⊢;let eY:=s3.trans s4;let rD:=eY _ _ hd;have lD:l≠D:=λz=>by rw[z,hd] at nl;cases nl
   have IT:∀h∈(hs.map (·.1)).take i,ad h≠l:=λh hh z=>by
    have:=ls.1 h hh;rw[z,nl] at this;cases this
   let lo:=bK pa;rw[gh,dg,ao] at lo
   have pD:∀{b:Addr} {zs:ai},H4 b=some (.tup zs)->b≠D:=λhb z=>by
    rw[z,rD] at hb;cases hb
   have ne:∀h∈(hs.map (·.1)).take i,h≠h0.1:=λh hh z=>nn (z▸hh);apply#[out,rD,by omega,hN (out++[.ref t]) _ #[λm=>if m=h0.1 then l else ad m,gf (sm.trans eY) hD,az,?_,#[λh hh=>?_,λh hh h' G7 z=>?_],λh hh=>?_]]
   ·have e:bH ((hs.map (·.1)).take (i+1)) (λh=>.ref (if h=h0.1 then l else ad h))=bH ((hs.map (·.1)).take i) (λh=>.ref (ad h))++[(Sum.inr h0.1,.ref l)]:=by
     rw[fB hn];unfold bH;rw[cu,eL,xk];dsimp only;rw[aA Z];congr 1;exact rV λm hm=>by rw[aq (ne m hm)]
    rw[e];exact km (Paired.bx pa λy kv ⟨b,z,hb⟩=>#[b,z,by rw[au (pD (eY _ _ hb))];exact eY _ _ hb]) (.cons #[t,Z,by rw[au (pD e4)];exact e4] .nil)
   ·rw[fB hn] at hh;rcases fQ.mp hh with hh|hh
    ·dsimp only;rw[aq (ne h hh),au (fr h hh).2];exact eY _ _ (ls.1 h hh)
    ·let z:=jq.mp hh;dsimp only;rw[aA z,au lD];exact s4 _ _ e3
   ·rw[fB hn] at hh G7;dsimp only at z;rcases fQ.mp hh with a1|a1<;>rcases fQ.mp G7 with a2|a2
    ·rw[aq (ne h a1),aq (ne h' a2)] at z;exact ls.2 h a1 h' a2 z
    ·have a2:h'=h0.1:=by simpa using a2
     rw[aq (ne h a1),aA a2] at z;exact absurd z (IT h a1)
    ·have a1:h=h0.1:=by simpa using a1
     rw[aq (ne h' a2),aA a1] at z;exact absurd z.symm (IT h' a2)
    ·rw[show h=h0.1 by simpa using a1,show h'=h0.1 by simpa using a2]
   ·rw[fB hn] at hh;dsimp only;rcases fQ.mp hh with hh|hh
    ·rw[aq (ne h hh)];exact fr h hh
    ·let z:=jq.mp hh;rw[aA z];exact#[sm.free nl,lD]
  rw[show yh.length=(hs.map (·.1)).length by rw[ao,KH],dP] at pa ls fr;have n8:(hs.map (·.1)).length<=8:=by rw[ao];exact h8
  apply#[D,out,_,Z,jy,pa,by rw[gh];omega,λdn NQ=>?_];rw[xp (PB nd _)];lk;let s3:=aa.new (o:=.dK (bH (hs.map (·.1)) λh=>V.ref (ad h))) NQ;have N0:sO H (upd H2 dn (.dK (bH (hs.map (·.1)) λh=>V.ref (ad h)))) dn ad (hs.map (·.1)) (dj (ts.take 0)):=#[s2.trans s3,az,#[λh hh=>s3 _ _ (ls.1 h hh),ls.2],s2.free NQ,λh hh=>(fr h hh).1];generalize upd H2 dn (.dK (bH (hs.map (·.1)) λh=>V.ref (ad h)))=H3 at N0 ⊢;clear s2 s3 jy pa ls fr hD NQ
  let Ja:ck:=λσ H'=>∃(v4 v5:aK),σ=[some (.ref lh),some (.ref lt),some (.ref lp),some (.ref dn),v4,v5,none,none,none,none,none,none]/\sO H H' dn ad (hs.map (·.1)) (dj ts)
  apply dB Ja ?m2 ?m1
  case m1=>
   intro N1 hN;let lz:=bK tt;rw[ao] at lz;let pE:=Gd.pE
   let I_:bL:=λi σ H'=>∃(v4 v5:aK),σ=[some (.ref lh),some (.ref lt),some (.ref lp),some (.ref dn),v4,v5,none,none,none,none,none,none]/\sO H H' dn ad (hs.map (·.1)) (dj (ts.take i))
   apply#[_,Z,lt,Z,#[_,.of (N0.sm _ _ dz)],gc (K:=K) (a:=lt) (xs:=zs) I_ #[none,none,Z,N0] (λi σ H' _ ⟨_,_,_,N⟩=>.of (N.sm _ _ dz)) ?_ ?_]
   ·rintro i x σ H4 hx ⟨v4,v5,rfl,N⟩;let#[t,ht,a,rfl,ha]:=jr tt hx;let yo:=Gd.qS t (cw ht);let MI:=(Gd.tok t (cw ht)).2.2;apply#[a,_,Z,.of (N.sm _ _ (wH ha)),Z,_,_,Z,_,_,Z,Z,?_];dsimp only;have hi:i<ts.length:=(cy.mp ht).1;let l1:=WN (ts.take i) t.1;let l2:=WN (ts.take i) t.2;rw[dg] at l1 l2;let e1:=N.ls.1 _ yo.1;let N2:=N.app (m:=t.2) yo.1;let e2:=N2.ls.1 _ yo.2;apply#[_,Z,_,Z,dn,_,Z,gM N.nr yo.1,.inl #[Z,_,.of e1],_,Z,ad t.1,_,_,Z,Z,e1,by rw[ao];omega,?_];apply#[_,Z,_,Z,dn,_,Z,gM N2.nr yo.2,.inl #[Z,_,.of e2],_,Z,ad t.2,_,_,Z,Z,e2,?_,?_]
    ·have z:¬t.2=t.1:=λz=>MI z.symm;rw[ao];simp only[aq z];omega
    apply#[_,_,Z,(N2.app (m:=t.1) yo.2).to λh=>?_];show (if h=t.2 then (if h=t.1 then dj (ts.take i) h++[t.2] else dj (ts.take i) h)++[t.1] else if h=t.1 then dj (ts.take i) h++[t.2] else dj (ts.take i) h)=_;rw[iU_ ht];by_cases z1:h=t.1
    ·rw[aq (c:=h=t.2) (λz=>MI (z1.symm.trans z)),aA z1,aq (c:=h=t.2) (λz=>MI (z1.symm.trans z)),aA z1,g_]
    ·by_cases z2:h=t.2
     ·rw[aA z2,aq z1,aA z2,aq z1,g_]
     ·rw[aq z2,aq z1,aq z2,aq z1,g_,g_]
   ·rintro σ H4 ⟨v4,v5,rfl,N⟩;rw[lz,dP] at N;exact hN _ _ #[_,_,Z,N]
  rintro σ H4 ⟨v4,v5,rfl,N⟩;apply λdy ny=>?_;lk;let#[s5,e5]:=aB (o:=.dK []) ny;generalize upd H4 dy (.dK [])=H5 at s5 e5 ⊢;apply λdh nh=>?_;lk;let#[s6,e6]:=aB (o:=.dK []) nh;generalize upd H5 dh (.dK [])=H6 at s6 e6 ⊢;let N6:=(N.same s5).same s6;have hy:dh≠dy:=λz=>by rw[z,e5] at nh;cases nh
  have fy:H dy=none:=N.sm.free ny;have fh:H dh=none:=(N.sm.trans s5).free nh;let ye:=s6 _ _ e5;have ney:∀{b:Addr} {o:HO},H4 b=some o->b≠dy:=λe z=>by rw[z,ny] at e;cases e
  have neh:∀{b:Addr} {o:HO},H4 b=some o->b≠dh:=λe z=>by rw[z] at e;have:=s5 _ _ e;rw[nh] at this;cases this
  let I0:ck:=λσ H'=>∃(v4 v5 v8 v9 v10:aK) (gy:Str->V),σ=[some (.ref lh),some (.ref lt),some (.ref lp),some (.ref dn),v4,v5,some (.ref dy),some (.ref dh),v8,v9,v10,none]/\aa H4 H'/\H' dh=some (.dK (bH (ps.map (·.1)) λn=>.int (eF ps n)))/\H' dy=some (.dK (bH (ps.map (·.1)) gy))/\∀q∈ps,bW K H' (gy q.1) q.2.2
  apply dB I0 ?m4 ?m3
  case m3=>
   intro N1 hN;let lz:=bK pc
   let IZ:bL:=λi σ H'=>∃(v8 v9 v10:aK) (gy:Str->V),σ=[some (.ref lh),some (.ref lt),some (.ref lp),some (.ref dn),v4,v5,some (.ref dy),some (.ref dh),v8,v9,v10,none]/\aa H4 H'/\H' dh=some (.dK (bH ((ps.map (·.1)).take i) λn=>.int (eF ps n)))/\H' dy=some (.dK (bH ((ps.map (·.1)).take i) gy))/\∀q∈ps.take i,bW K H (gy q.1) q.2.2
   apply#[_,Z,lp,Z,#[_,.of (N6.sm _ _ V4)],gc (K:=K) (a:=lp) (xs:=yp) IZ #[none,none,none,λ_=>.non,Z,s5.trans s6,e6,ye,by simp] (λi σ H' _ ⟨_,_,_,_,_,sm,_⟩=>.of (sm _ _ (N.sm _ _ V4))) ?_ ?_]
   ·rintro i x σ H7 hx ⟨v8,v9,v10,gy,rfl,sm,CH,CA,wy⟩;let#[q,hq,a,v,rfl,ha,wv]:=jr (g:=id) (by rw[List.map_id];exact pc) hx;have hn:(ps.map (·.1))[i]? = some q.1:=by rw[dW,hq];rfl
    have hi:i<ps.length:=(cy.mp hq).1;let nn:=Ih Ui hn;have ne:∀m∈(ps.map (·.1)).take i,m≠q.1:=λm hm z=>nn (z▸hm);apply#[a,_,Z,.of (sm _ _ (N.sm _ _ ha)),Z,_,_,Z,_,_,Z,_,_,Z,Z,?_];dsimp only;apply#[_,Z,_,Z,_,Z,dy,_,Z,.k (k:=Sum.inr q.1) CA (by rw[gh,dg,ao];omega),?_];have dh8:upd H7 dy (.dK (putK (bH ((ps.map (·.1)).take i) gy) (Sum.inr q.1) v)) dh=some (.dK (bH ((ps.map (·.1)).take i) λn=>.int (eF ps n))):=by rw[au hy];exact CH
    apply#[_,Z,_,Z,_,Z,dh,_,Z,.k (k:=Sum.inr q.1) dh8 (by rw[gh,dg,ao];omega),?_];apply#[_,_,_,λm=>if m=q.1 then v else gy m,Z,λb o e=>?_,?_,?_,λq' hq'=>?_]
    ·rw[au (neh e),au (ney e)];exact sm _ _ e
    ·rw[az,LD nn,fB hn];apply d8 (λx=>some (HO.dK x)) (ED λm hm=>?_);by_cases z:m=q.1
     ·rw[aA z,z,yK Ui (cw hq)];rfl
     ·rw[aq z]
    ·rw[au hy.symm,az,LD nn,fB hn]
    ·dsimp only;rw[iE,hq,Option.toList_some] at hq';rcases fQ.mp hq' with hq'|hq'
     ·rw[aq (ne _ (by rw[<- List.map_take];exact bj.mpr #[_,hq',Z]))];exact wy q' hq'
     ·obtain rfl:=jq.mp hq';rw[aA Z];exact wv
   ·rintro σ H7 ⟨v8,v9,v10,gy,rfl,sm,CH,CA,wy⟩;rw[lz] at CH CA wy;rw[y_ (by rw[ao];exact bp _)] at CH CA;rw[dP] at wy;exact hN _ _ #[_,_,_,_,_,gy,Z,sm,CH,CA,λq hq=>(wy q hq).same (N.sm.trans sm)]
  rintro σ H7 ⟨v4,v5,v8,v9,v10,gy,rfl,sm,CH,CA,wy⟩;apply λwa nw=>?_;let#[s8,e8]:=aB (o:=.dK []) nw;generalize upd H7 wa (.dK [])=H8 at s8 e8 ⊢;let Uc:=(N.sm.trans sm).trans s8
  have kvs:jz K H8 yh (hs.map λh=>((Sum.inr h.1:Key),V.int h.2)):=by
   exact XY th λy h ⟨b,z,q⟩=>#[b,z,Uc _ _ (ON q)]
  apply#[_,Z,lh,yh,_,Z,Uc _ _ ic,kvs,by rw[ao];omega,λds NP=>?_];rw[hsK nd,xp (PB nd _)];let#[s9,e9]:=aB (o:=.dK (bH (hs.map (·.1)) λn=>V.int (strOf hs n))) NP;generalize upd H8 ds (.dK (bH (hs.map (·.1)) λn=>V.int (strOf hs n)))=H9 at s9 e9 ⊢;apply#[_,Z,_,Z,s9 _ _ e8,[((.inr "strength":Key),V.ref ds),(.inr "near",.ref dn),(.inr "ties",.ref lt)],Z,by show 3<=15;decide,?_];lk;apply#[_,Z,_,Z,wa,_,Z,.k (k:=Sum.inr "heavy") az (by show 3<sizeLine;decide),?_];apply#[_,Z,_,Z,wa,_,Z,.k (k:=Sum.inr "ways") az (by show 4<sizeLine;decide),?_];have FY:H wa=none:=(N.sm.trans sm).free nw;have new:∀{b:Addr} {o:HO},H7 b=some o->b≠wa:=λe z=>by rw[z,nw] at e;cases e
  have Ri:ds≠wa:=λz=>by rw[z,e8] at NP;cases NP
  have up:∀{b:Addr} {o:HO},H7 b=some o->upd (upd (upd H9 wa (.dK (oW [] [((.inr "strength":Key),V.ref ds),(.inr "near",.ref dn),(.inr "ties",.ref lt)]))) wa (.dK (putK (oW [] [((.inr "strength":Key),V.ref ds),(.inr "near",.ref dn),(.inr "ties",.ref lt)]) (Sum.inr "heavy") (.ref dh)))) wa (.dK (putK (putK (oW [] [((.inr "strength":Key),V.ref ds),(.inr "near",.ref dn),(.inr "ties",.ref lt)]) (Sum.inr "heavy") (.ref dh)) (Sum.inr "ways") (.ref dy))) b=some o:=λ{b o} e=>by
   rw[au (new e),au (new e),au (new e)];exact s9 _ _ (s8 _ _ e)
  apply#[_,Z,k wa _ (λb o e=>up (sm _ _ (N.sm _ _ e))) FY #[ds,dn,lt,dh,dy,ad,gy,?_,?_,up (sm _ _ N.nr),λh hh=>up (sm _ _ (N.ls.1 h hh)),up CH,up CA,λq hq=>?_,zs,up (sm _ _ (N.sm _ _ dz)),Paired.bx tt λy k ⟨b,z,q⟩=>#[b,z,up (sm _ _ (N.sm _ _ q))]]]
  ·rw[az,jH_]
  ·rw[au Ri,au Ri,au Ri];exact e9
  ·exact (wy q hq).same λb o e=>up e
end
end Ev
namespace L2
open PySem PySem.Spec PyProof.Rows PySem.W
theorem Xh{d:Addr}{o:Obj}{kvs:List (Key × V)}{g:TG}{tb:TS}{D:Ends}{σ:St}{H:Hp}(Pv:bL)(h0:Pv 0 σ H)(hl:∀i σ H,i<=kvs.length->Pv i σ H->H d=some (.frz o (.dK kvs)))
  (hs:∀i k x σ H,kvs[i]? = some (k,x)->Pv i σ H->g (kV k) σ H λgO H2=>tb { D with nx:=Pv (i+1),ct:=Pv (i+1),bk:=D.nx } gO H2) (hd:∀σ H,Pv kvs.length σ H->D.nx σ H) :
  ∃W:Nat->Nat->St->Hp->Prop,(∃m,W 0 m σ H)/\∀i m σ H,W i m σ H->
   ((EW d o kvs).stop i H/\D.nx σ H)∨((EW d o kvs).go i H/\∃N:St->Hp->Prop,(∀bw H',N bw H'->∃m',m'<m/\W (i+1) m' bw H')/\∀x H',(EW d o kvs).xF i H x H'->g x σ H' λgO H2=>tb { D with nx:=N,ct:=N,bk:=D.nx } gO H2):=by
 apply#[λi m σ H=>m=kvs.length - i/\i<=kvs.length/\Pv i σ H,#[kvs.length,by simp,gG _,h0],?_];rintro i m σ H ⟨rfl,hi,p⟩;let q:=hl i σ H hi p;by_cases dz:i<kvs.length
 ·apply .inr #[#[q,dz],Pv (i+1),λbw H' p'=>#[kvs.length - (i+1),by omega,Z,dz,p'],λx H' y=>?_];let#[rfl,k,v,hx,rfl]:=y;exact hs i k v σ _ hx p
 ·have e:i=kvs.length:=by omega
  subst e;exact .inl #[#[q,bp _],hd σ H p]
theorem Ie:∀{xs:ai} {us:ax},Vals xs us->xs.all qw=true->∀(k:V) (j:Nat) (h:j<us.length),∃h2:j<xs.length,mr k us[j]=jV xs[j] k
 |_,_,.nil,_,k,j,h=>absurd h (Nat.not_lt_zero _)
 |y::xs,u::us,.cons r t,f,k,j,h=>by
  rw[List.all_cons,xx] at f;cases j with
  |zero=>exact#[Nat.zero_lt_succ _,PJ r f.1]
  |succ j=>
   let#[h2,e]:=Ie t f.2 k j (Nat.lt_of_succ_lt_succ h);exact#[Nat.succ_lt_succ h2,e]
inductive pY (x:V) (vs:ai) (H:Hp) (Q:VK):Prop
 |mk:∀(l:Addr) (xs:ai) (k:V) (j:Nat),x=.ref l->vs=[k]->H l=some (.lst xs)->qw k=true->xs.all qw=true->j<1000->(∃y,xs[j]? = some y/\jV y k=true)->(∀i y,i<j->xs[i]? = some y->jV y k=false)->Q (.int (j:Int)) H->pY x vs H Q
variable{X:Cx}
theorem if_:Dp X "list.index" pY:=by
 intro pins s σ H x vs v us Q I rx rv h;let#[l,xs,k,j,rfl,rfl,hH,fk,fx,hj,#[y,hy,ey],no,q]:=h;cases rx;let#[u,rfl,ru]:=rv.one;let#[z,its,n,r,hl,e]:=I.jN hH;let#[hjx,Qr]:=cy.mp hy;apply call_meets PySem.F.slot_list_index ⟨_,e,rfl⟩ PySem.F.entry_list_index (PySem.F.args_list_index_2 _ _) (SeqAt.list_indexAt l its.toArray n none _ u (mr k) j (by show j<its.length;omega) Z1 ?_ ?_) ⟨e,λy hy=>Ip ru fk r fx y (by simpa using hy),⟨.int _,H,I.tok _,⟨_,rfl⟩,q⟩⟩
 ·let#[h2,e2]:=Ie r fx k j Z1;show mr k its[j]=true;rw[e2,Qr];exact ey
 ·intro m hm lt;let#[h2,e2]:=Ie r fx k m (by simpa using hm);show mr k its[m]=false;rw[e2];exact no m _ lt (dG h2)
end L2
namespace Ev
open PySem L2
theorem PU{H:Hp}{d:Addr}{ns:ae}{g:Str->V}{n:Str}(r:Rd H d (.dK (bH ns g)))(h:n∈ns):cE H d (.str n) (some (g n)):=by
 rw[<- Ey (g:=g) h];exact .inl ⟨_,Sum.inr n,r,rfl,rfl⟩
variable{kvs:List (Key × V)}
theorem mu_{d:Addr}{o:Obj}{H H':Hp}(f:Fz d o kvs H H'):Rd H' d (.dK kvs):=.inr ⟨o,f.at_⟩
structure Pw (hs:Xa) (ts:Xb) (ps:aC) (f:ag):Prop where
 Gd:Good hs ts
 gp:∀q∈ps,Cs ts q
 nd:(ps.map (·.1)).Nodup
 ib:ps.length<=30
 at_:∀n∈ps.map (·.1),f n∈hs.map (·.1)
abbrev wJ(ps:aC)(f:ag)(n:Str):Int:=ld f (ps.map gJ) n
theorem Pw.jQ{hs:Xa}{ts:Xb}{ps:aC}{f:ag}(W:Pw hs ts ps f)(n:Str):0<=wJ ps f n/\wJ ps f n<=64000000000:=KN (λq hq=>⟨by have:=(W.gp q hq).w1;omega,(W.gp q hq).w2⟩) (by have:=W.ib;omega) f n
theorem Pw.bP{hs:Xa}{ts:Xb}{ps:aC}{f:ag}(W:Pw hs ts ps f){n:Str}(h:n∈hs.map (·.1)):1<=strOf hs n/\strOf hs n<=1000:=(W.Gd.aN _ (yV h)).2
theorem Pw.wt{hs:Xa}{ts:Xb}{ps:aC}{f:ag}(W:Pw hs ts ps f){n:Str}(h:n∈ps.map (·.1)):1<=eF ps n/\eF ps n<=1000000000:=by
 let#[q,hq,rfl]:=bj.mp h;rw[yK W.nd hq];exact⟨(W.gp q hq).w1,(W.gp q hq).w2⟩
theorem m3_{ps:aC}{f:ag}{n:Str}(hn:n∈ps.map (·.1))(h:∀x∈kvs,∃a,x.2=V.ref a)(e:kvs=bN (ps.map (·.1)) f):False:=by
 have m:((Sum.inr n:Key),V.str (f n))∈kvs:=by
  rw[e];exact bj.mpr ⟨n,hn,rfl⟩
 let#[a,z]:=h _ m;cases z
theorem m5_{ns:ae}{f:ag}{g:Str->Int}{n:Str}(hn:n∈ns)(e:bH ns (λn=>.int (g n))=bN ns f):False:=by
 have m:((Sum.inr n:Key),V.str (f n))∈bH ns (λn=>.int (g n)):=by
  rw[e];exact bj.mpr ⟨n,hn,rfl⟩
 let#[k,_,z]:=bj.mp m;cases (Prod.mk.inj z).2
variable{f0:Addr}{fd:Ad}
section
variable{P:Ae}{w:Af}{K:af}{mg:Str->Option Aa}{base:Heap}
abbrev hdN:ae:=[f_,i6,rG,qu]
theorem nC:bD hdN lR (bb uu):=bJ
inductive HL (K:af) (vs:ai) (H:Hp) (Q:VK) (E:XK):Prop
 |mk:∀(wa sd:Addr) (hs:Xa) (ts:Xb) (ps:aC) (f:ag),vs=[.ref wa,.ref sd]->jC K H wa hs ts ps->Pw hs ts ps f->H sd=some (.dK (bN (ps.map (·.1)) f))->(∀d H',aa H H'->H d=none->H' d=some (.dK (bH (hs.map (·.1)) λn=>.int (wJ ps f n)))->Q (.ref d) H')->HL K vs H Q E
theorem lD_(F:bo K "_law_held" "_law_held" uu f0 fd)(B:Bi mg):!aj aZ 1 f0 fd lR (HL K):=by
 apply F.bI nC λaR A outer s H vs Q E hr h=>?_
 ·let#[wa,sd,hs,ts,ps,f,rfl,#[ds,dn,lt,dh,dy,ad,gy,W],Pp,iy,k]:=h;let sz:=b_;let hu:=eU hr;refine' #[_,ak ?s1 (ak ?s2 (aF ?s3)),?kk]
  case s1=>exact Ex (aQ 2 nC.nd (iD (vX Z) (by rfl) B.dict oV %[i8 ["_law_name"] 1 [] (Ls (cn hu (pv 0) cq)) (λfp s H=>fw (i:=0) (show (["_law_name"]:ae).Nodup by decide +kernel) Z (Or.inl Z)) (λfp s H=>iY) (λfp s H=>eW %[0,aE|0])|0]))
  case s2=>exact Ex (eM dX Z (Ls (pv 1)) (bU 3 nC.nd) (aF (kH_ hu (pv 2) (cn hu (pv 1) (pv 3)) (cn hu (cn hu (pv 0) cq) (pv 3)) lJ_ (λ_ _ _=>rfl))))
  case s3=>exact bh (pv 2)
  let qe:=Pp.Gd.qe;have h8:(hs.map (·.1)).length<=8:=by rw[ao];exact Pp.Gd.h8
  apply#[ds,_,W.sg,?_];apply#[_,Z,wa,_,Z,W.gS,ds,_,Z,W.sg,λo D hD=>?_]
  have zi:D≠ds:=by
   intro z;rw[z,az] at hD;cases hD
  have Cc:H D=none:=by rw[au zi] at hD;exact hD
  let IY:dY:=λi out H'=>Fz ds o (bH (hs.map (·.1)) λn=>.int (strOf hs n)) H H'/\H' D=some (.lst out)/\jz K H' out (bH ((hs.map (·.1)).take i) λ_=>.int 0)
  apply Yy (own:=1) (fv:=[]) Z d_ IY #[Fz.start.put Cc zi,az,.nil] (λi out H' _ ⟨z,_,_⟩=>z.at_) (λout H2 ⟨fz,jy,pa⟩=>?_) (λi ky x out H' hx ⟨fz,eQ,pa⟩=>?_);rotate_left 1
  ·let#[n,hn,rfl,rfl]:=AI hx;have hi:i<(hs.map (·.1)).length:=(cy.mp hn).1;apply#[_,Z,Z,λNx hN=>d9 ?_];apply#[_,Z,zl,λt ht=>?_];let s5:=aa.new (o:=.tup [.str n,.int 0]) ht;let lo:=bK pa;rw[gh,dg] at lo;apply#[out,s5 _ _ eQ,by omega,hN _ _ #[(fz.step s5).put Cc zi,az,?_]];have Ac:upd H' t (.tup [.str n,.int 0]) t=some (.tup [.str n,.int 0]):=az;have pD:∀{b:Addr} {ys:ai},upd H' t (.tup [.str n,.int 0]) b=some (.tup ys)->b≠D:=λhb=>cj hb (s5 _ _ eQ) nofun;rw[fB hn];show jz K _ _ (((hs.map (·.1)).take i++[n]).map _);rw[cu];exact km (Paired.bx pa λy kv ⟨b,z,hb⟩=>#[b,z,by rw[au (pD (s5 _ _ hb))];exact s5 _ _ hb]) (.cons #[t,Z,by rw[au (pD Ac)];exact Ac] .nil)
  rw[gh,dP] at pa;apply#[D,out,_,Z,jy,pa,by rw[gh];omega,λdf zS=>?_];rw[xp (PB qe _)];have yL:df≠ds:=λz=>by rw[z,fz.at_] at zS;cases zS
  have kQ:H df=none:=by
   cases e:H df with
   |none=>rfl
   |some u=>have:=fz.sm _ _ yL e;rw[zS] at this;cases this
  have PR:Fz ds o (bH (hs.map (·.1)) λn=>.int (strOf hs n)) H (upd H2 df (.dK (bH (hs.map (·.1)) λ_=>.int 0))):=fz.put kQ yL;lk;apply#[o,PR.at_,?_];let s3:=PR.ko W.sg;have e3:upd (upd H2 df (.dK (bH (hs.map (·.1)) λ_=>.int 0))) ds (.dK (bH (hs.map (·.1)) λn=>.int (strOf hs n))) df=some (.dK (bH (hs.map (·.1)) λ_=>.int 0)):=by rw[au yL,az]
  generalize upd (upd H2 df (.dK (bH (hs.map (·.1)) λ_=>.int 0))) ds (.dK (bH (hs.map (·.1)) λn=>.int (strOf hs n)))=H3 at s3 e3 ⊢;clear PR fz pa jy hD Cc zS yL zi;let W3:=W.same s3;let k4:=s3 _ _ iy;have CI:df≠sd:=(bq iy kQ).symm;have dwd:wa≠df:=bq W.top kQ;have dhd:dh≠df:=bq W.hv kQ;apply#[sd,_,k4,?_];apply#[_,Z,sd,_,Z,k4,λo2=>?_]
  let IX:bL:=λi σ H'=>∃v3:aK,σ=[some (.ref wa),some (.ref sd),some (.ref df),v3]/\H' sd=some (.frz o2 (.dK (bN (ps.map (·.1)) f)))/\(∀b u,b≠sd->b≠df->H3 b=some u->H' b=some u)/\H' df=some (.dK (bH (hs.map (·.1)) λn=>.int (ld f ((ps.take i).map gJ) n)))
  apply Xh IX #[none,Z,az,λb u n1 n2 e=>by rw[au n1];exact e,by rw[au CI];exact e3] (λi σ H' _ ⟨_,_,z,_⟩=>z) ?_ ?_
  ·rintro i ky x σ H4 hx ⟨v3,rfl,fz,kp,k_⟩;let#[n,hn,rfl,rfl]:=AI hx;let nm:=cw hn;rw[dW,Dj] at hn;let#[q,hq,rfl]:=hn;let hqm:=cw hq;let fm:=Pp.at_ _ nm;have MH:H4 wa=some (.dK (sR ds dn lt dh dy)):=kp _ _ (λz=>m3_ (ps:=ps) (f:=f) nm (λx hx=>by simp only[sR,bZ,xw,or_false] at hx;rcases hx with rfl|rfl|rfl|rfl|rfl<;>exact#[_,Z]) (HO.dK.inj (eK ((z▸W3.top).symm.trans k4)))) dwd W3.top
   have OD:H4 dh=some (.dK (bH (ps.map (·.1)) λn=>.int (eF ps n))):=kp _ _ (λz=>m5_ nm (HO.dK.inj (eK ((z▸W3.hv).symm.trans k4)))) dhd W3.hv;lk;apply#[_,Z,_,Z,_,Z,sd,_,Z,PU (.inr #[o2,fz]) nm,df,_,Z,gM k_ fm,?_];apply#[_,Z,wa,_,Z,cE.k (k:=Sum.inr "heavy") MH,_,Z,dh,_,Z,gM OD nm,?_];apply#[_,_,Z,Z,_,.k (k:=Sum.inr (f q.1)) k_ (by rw[gh];omega),?_];apply#[_,Z,by rw[au CI.symm];exact fz,λb u n1 n2 e=>by rw[au n2];exact kp b u n1 n2 e,?_];rw[az,Qk fm];apply d8 (λx=>some (HO.dK x)) (ED λm hm=>?_);rw[iE,hq,Option.toList_some,cu,eL,xk,Ws];by_cases z:m=f q.1
   ·rw[aA z,aA (show m=f (gJ q).1 from z),z,yK Pp.nd hqm];rfl
   ·rw[aq z,aq (show ¬m=f (gJ q).1 from z)]
  ·rintro σ H4 ⟨v3,rfl,fz,kp,k_⟩;rw[gh,ao,dP] at k_;apply#[o2,fz,_,Z,k df _ (λb u e=>?_) kQ (by rw[au CI];exact k_)];by_cases z:b=sd
   ·rw[z] at e ⊢;rw[iy] at e;rw[az];exact e
   ·rw[au z];exact kp b u z (bq e kQ) (s3 _ _ e)
def ip(hs:Xa)(ps:aC)(f:ag)(a b:Str):Int:=wJ ps f a * strOf hs b - wJ ps f b * strOf hs a
theorem ua:bD [f_,"_law_held_here",rK,lG,"_law_strength"] lU (bb uA):=bJ
inductive HJ (K:af) (vs:ai) (H:Hp) (Q:VK) (E:XK):Prop
 |mk:∀(wa d:Addr) (a b:Str) (hs:Xa) (ts:Xb) (ps:aC) (f:ag),vs=[.ref wa,.ref d,.str a,.str b]->jC K H wa hs ts ps->Pw hs ts ps f->H d=some (.dK (bH (hs.map (·.1)) λn=>.int (wJ ps f n)))->a∈hs.map (·.1)->b∈hs.map (·.1)->Q (.int (ip hs ps f a b)) H->HJ K vs H Q E
theorem ls_(F:bo K "_law_drop" "_law_drop" uA f0 fd):!aj aZ 1 f0 fd lU (HJ K):=by
 apply F.bI ua λaR A outer s H vs Q E hr h=>?_
 ·let#[wa,d,a,b,hs,ts,ps,f,rfl,#[ds,dn,lt,dh,dy,ad,gy,W],Pp,hd,ha,hb,k]:=h;let hu:=eU hr;refine' #[_,ak ?s1 (aF ?s2),?kk]
  case s1=>exact aQ 4 ua.nd (cn hu (pv 0) cq)
  case s2=>exact bh (bF Hy (bF ji (cn hu (pv 1) (pv 2)) (cn hu (pv 4) (pv 3))) (bF ji (cn hu (pv 1) (pv 3)) (cn hu (pv 4) (pv 2))))
  let h1:=Pp.jQ a;let h2:=Pp.jQ b;let e1:=Pp.bP ha;let e2:=Pp.bP hb;apply#[_,Z,wa,_,Z,W.gS,?_];lk;apply#[_,Z,_,Z,d,_,Z,gM hd ha,_,Z,_,Z,ds,_,Z,gM W.sg hb,_,_,Z,Z,.inr #[by omega,by omega],?_];exact#[_,Z,_,Z,d,_,Z,gM hd hb,_,Z,_,Z,ds,_,Z,gM W.sg ha,_,_,Z,Z,.inr #[by omega,by omega],_,_,Z,Z,k]
def fN(ts:Xb)(ps:aC)(n a b:Str):Bool:=decide (b∈dj ts a)&&match AZ ps n with
 |none=>true
 |some ws=>decide ((a,b)∈ws) || decide ((b,a)∈ws)
theorem tU:bD [f_,qu,rK,lG,"_law_ways_here"] qN (bb um):=bJ
inductive K_ (K:af) (vs:ai) (H:Hp) (Q:VK) (E:XK):Prop
 |mk:∀(wa:Addr) (n a b:Str) (hs:Xa) (ts:Xb) (ps:aC) (f:ag),vs=[.ref wa,.str n,.str a,.str b]->jC K H wa hs ts ps->Pw hs ts ps f->n∈ps.map (·.1)->a∈hs.map (·.1)->(∀H',aa H H'->Q (.bl (fN ts ps n a b)) H')->K_ K vs H Q E
theorem ky_(F:bo K "_law_may" "_law_may" um f0 fd):!aj aZ 1 f0 fd qN (K_ K):=by
 apply F.bI tU λaR A outer s H vs Q E hr h=>?_
 ·let#[wa,n,a,b,hs,ts,ps,f,rfl,#[ds,dn,lt,dh,dy,ad,gy,W],Pp,hn,ha,k]:=h;let hu:=eU hr;refine' #[_,ak ?s1 (ak ?s2 (aF ?s3)),?kk]
  case s1=>exact aQ 4 tU.nd (cn hu (cn hu (pv 0) cq) (pv 1))
  case s2=>exact bQ (cz (L3 fP (oN hr 0)) (pv 3) (cn hu (cn hu (pv 0) cq) (pv 2)) (by with_unfolding_all rfl)) (aF (bh Cm)) bR
  case s3=>exact bh (DW (iG U5 (pv 4) CK) (DW (iG (Hx (yR fP fP) (oN hr _)) (eW %[2,3|0]) (pv 4) (by with_unfolding_all rfl)) (oU (iG (Hx (yR fP fP) (oN hr _)) (eW %[3,2|0]) (pv 4) (by with_unfolding_all rfl)))))
  let#[q,hq,rfl]:=bj.mp hn;let wv:=W.wv q hq;let wn:=Hm Pp.nd hq;apply#[_,Z,wa,_,Z,W.gW,_,Z,dy,_,Z,gM W.wy hn,?_];lk;apply#[_,Z,_,Z,wa,_,Z,W.gN,_,Z,dn,_,Z,gM W.nr ha,b,dj ts a,Z,#[ad a,_,Z,.of (W.ls a ha),C7 _],_,Z,?_];have fin:∀{H1:Hp} {r:Bool},aa H H1->fN ts ps q.1 a b=r->Q (.bl r) H1:=λs e=>e▸k _ s;apply aP (λc=>?_) (λc=>?_)
  ·apply fin (aa.refl H) ?_;unfold fN;have c:¬b∈dj ts a:=by simpa using c
   rw[dS c,rP]
  ·have c:b∈dj ts a:=by simpa using c
   have ml:fN ts ps q.1 a b=match q.2.2 with
    |none=>true
    |some ws=>decide ((a,b)∈ws) || decide ((b,a)∈ws):=by
    unfold fN;rw[cc c,Bool.true_and,wn]
   cases o:q.2.2 with
   |none=>
    rw[o] at wv ml;have wv:gy q.1=.non:=wv;apply#[_,Z,Z,_,Z,?_];rw[wv];exact fin (aa.refl H) ml
   |some ws=>
    rw[o] at wv ml;let#[aw,ys,e,hw,tw]:=wv;apply#[_,Z,Z,_,Z,?_];rw[e];apply#[_,Z,_,Z,zl,λt1 n1=>?_];let#[s1,e1]:=aB (o:=.tup [.str a,.str b]) n1;generalize upd H t1 (.tup [.str a,.str b])=H1 at s1 e1 ⊢;apply#[_,Z,(a,b),ws,#[t1,_,_,Z,.of e1,Z,Z],#[aw,ys,Z,.of (s1 _ _ hw),HY (tw.same s1)],_,Z,?_];apply aP (λc2=>?_) (λc2=>?_)
    ·apply fin s1 (ml.trans ?_);have c2:(a,b)∈ws:=by simpa using c2
     simp[c2]
    ·apply#[_,Z,_,Z,zl,λt2 n2=>?_];let#[s2,e2]:=aB (o:=.tup [.str b,.str a]) n2;generalize upd H1 t2 (.tup [.str b,.str a])=H2 at s2 e2 ⊢;apply#[_,Z,(b,a),ws,#[t2,_,_,Z,.of e2,Z,Z],#[aw,ys,Z,.of (s2 _ _ (s1 _ _ hw)),HY (tw.same (s1.trans s2))],fin (s1.trans s2) (ml.trans ?_)];have c2:¬(a,b)∈ws:=by simpa using c2
     simp[c2]
theorem xZ:bD qM qM (bb oj):=bJ
def pL:Sp:=λvs H Q _=>∃(g:Str) (a b:Int),vs=[.str g,.int a,.int b]/\g∈(lO:ae)/\-(2 ^ 63)<a/\a<2 ^ 63/\∀H',aa H H'->Q (.bl (jU g a b)) H'
theorem jP_(F:bo K "_law_is_fit" "_law_is_fit" oj f0 fd):!aj aZ 1 f0 fd qM pL:=by
 apply F.bI xZ λaR A outer s H vs Q E hr h=>?_
 ·let#[g,a,b,rfl,hg,a1,a2,k]:=h;refine' #[_,aF (bh (bO fV (cO %[iG rF (pv 1) aE,iG rF (bF ji aE (pv 1)) (pv 2),iG UC (pv 1) (pv 2)|0]) (gX il PySem.F.slot_list_index PySem.F.type_list_index if_ (cO %[cq,cq,cq|0]) %[0|0]))),?kk];apply#[_,Z,_,_,Z,Z,_,Z,_,_,Z,Z,.inl #[by decide,by decide],_,Z,_,_,Z,Z,_,Z,_,Z,_,_,Z,Z,zl,λl1 n1=>?_];let#[s1,e1]:=aB (o:=.lst [.bl (decide (0<a)),.bl (decide (b<2 * a)),.bl (decide (b<=a))]) n1;generalize upd H l1 (.lst [.bl (decide (0<a)),.bl (decide (b<2 * a)),.bl (decide (b<=a))])=H1 at s1 e1 ⊢;apply#[zl,λl2 n2=>?_];let#[s2,e2]:=aB (o:=.lst [.str "high",.str "fall",.str "calm"]) n2;generalize upd H1 l2 (.lst [.str "high",.str "fall",.str "calm"])=H2 at s2 e2 ⊢;apply#[.inl #[Z,_,.of e2],_,Z,?_];let e3:=s2 _ _ e1;let k:=k H2 (s1.trans s2);simp only[bZ,xw,or_false] at hg;rcases hg with rfl|rfl|rfl
  ·exact#[l2,_,_,0,Z,Z,e2,Z,Z,by decide,#[_,Z,by decide +kernel],λi y h _=>absurd h (Nat.not_lt_zero _),l1,_,_,_,Z,Z,.of e3,Z,k]
  ·apply#[l2,_,_,1,Z,Z,e2,Z,Z,by decide,#[_,Z,by decide +kernel],λi y h e=>?_,l1,_,_,_,Z,Z,.of e3,Z,k];obtain rfl:i=0:=by omega
   cases e;decide +kernel
  ·apply#[l2,_,_,2,Z,Z,e2,Z,Z,by decide,#[_,Z,by decide +kernel],λi y h e=>?_,l1,_,_,_,Z,Z,.of e3,Z,k];rcases (show i=0∨i=1 by omega) with rfl|rfl
   ·cases e;decide +kernel
   ·cases e;decide +kernel
end
def dZ(ps:aC)(o:Option Str)(n:Str):Option Str:=match o with
 |none=>some n
 |some m=>if eF ps m<eF ps n then some n else some m
def rA(ps:aC)(ns:ae):Option Str:=(aV ns).foldl (dZ ps) none
theorem XI{ps:aC}:∀{l:ae} {o:Option Str} {m:Str},l.foldl (dZ ps) o=some m->m∈l∨o=some m
 |[],o,m,h=>.inr h
 |n::l,o,m,h=>by
  rw[List.foldl_cons] at h;rcases XI h with h|h
  ·exact .inl (dI _ h)
  ·unfold dZ at h;cases o with
   |none=>cases h;exact .inl cZ
   |some k=>
    dsimp only at h;split at h
    ·cases h;exact .inl cZ
    ·exact .inr h
theorem eX.but{K:af}{H G:Hp}{w ds dn lt dh dy sd:Addr}{ad:Str->Addr}{gy:Str->V}{hs:Xa}{ts:Xb}{ps:aC}{f:ag}{n:Str}(W:eX K H w ds dn lt dh dy ad gy hs ts ps)(iy:H sd=some (.dK (bN (ps.map (·.1)) f)))(hn:n∈ps.map (·.1))(kp:∀b u,b≠sd->H b=some u->G b=some u):eX K G w ds dn lt dh dy ad gy hs ts ps:=by
 have kl:∀{b:Addr} {xs:ai},H b=some (.lst xs)->G b=some (.lst xs):=λe=>kp _ _ (λz=>by rw[z,iy] at e;cases e) e;have kt:∀{b:Addr} {xs:ai},H b=some (.tup xs)->G b=some (.tup xs):=λe=>kp _ _ (λz=>by rw[z,iy] at e;cases e) e
 have kd:∀{b:Addr} {kvs:List (Key × V)},H b=some (.dK kvs)->(∀x∈kvs,∀y,x=((Sum.inr n:Key),V.str y)->False)->G b=some (.dK kvs):=λ{b kvs} e h=>kp _ _ (λz=>by
  have:kvs=bN (ps.map (·.1)) f:=HO.dK.inj (eK (e.symm.trans (z▸iy)));exact h ((Sum.inr n:Key),V.str (f n)) (by rw[this];exact bj.mpr #[n,hn,Z]) _ Z) e
 apply#[kd W.top λx hx y z=>?_,kd W.sg λx hx y z=>?_,kd W.nr λx hx y z=>?_,λh hh=>kl (W.ls h hh),kd W.hv λx hx y z=>?_,kd W.wy λx hx y z=>?_,λq hq=>?_,let #[zs,a,b]:=W.tl;#[zs,kl a,Paired.bx b λy k ⟨b,z,q⟩=>#[b,z,kt q]]]
 ·rw[z] at hx;simp[sR] at hx
 ·rw[z] at hx;let#[_,_,z]:=bj.mp hx;cases (Prod.mk.inj z).2
 ·rw[z] at hx;let#[_,_,z]:=bj.mp hx;cases (Prod.mk.inj z).2
 ·rw[z] at hx;let#[_,_,z]:=bj.mp hx;cases (Prod.mk.inj z).2
 ·rw[z] at hx;let#[m,hm,z]:=bj.mp hx;let#[q,hq,rfl]:=bj.mp hm;let wv:=W.wv q hq;rw[(Prod.mk.inj z).2] at wv;cases o:q.2.2 with
  |none=>rw[o] at wv;cases wv
  |some ws=>
   rw[o] at wv;let#[a,ys,e,_]:=wv;cases e
 ·let wv:=W.wv q hq;cases o:q.2.2 with
  |none=>rw[o] at wv;exact wv
  |some ws=>
   rw[o] at wv;let#[a,ys,e,ha,t]:=wv;exact#[a,ys,e,kl ha,Paired.bx t λy k ⟨b,z,q⟩=>#[b,z,kt q]]
def jZ(hs:Xa)(ts:Xb)(ps:aC)(f:ag)(gd:Str)(gv:ae)(a b n:Str):Bool:=decide (f n=a)&&(!decide (n∈gv)&&(fN ts ps n a b&&jU gd (ip hs ps f a b) ((strOf hs a+strOf hs b) * eF ps n)))
def rH(hs:Xa)(ts:Xb)(ps:aC)(f:ag)(gd:Str)(gv:ae)(a b:Str):Option Str:=rA ps ((ps.map (·.1)).filter (jZ hs ts ps f gd gv a b))
section
variable{P:Ae}{w:Af}{K:af}{mg:Str->Option Aa}{base:Heap}
theorem pQ:bD [f_,"_law_pieces",rG,qu] qL (bb Bt):=bJ
inductive pM (K:af) (vs:ai) (H:Hp) (Q:VK) (E:XK):Prop
 |mk:∀(wa l:Addr) (ns:ae) (hs:Xa) (ts:Xb) (ps:aC),vs=[.ref wa,.ref l]->jC K H wa hs ts ps->H l=some (.lst (ns.map V.str))->(∀n∈ns,n∈ps.map (·.1))->ns.length<64->(∀H',aa H H'->Q (fL (rA ps ns)) H')->pM K vs H Q E
theorem mf_(F:bo K "_law_heaviest" "_law_heaviest" Bt f0 fd)(B:Bi mg):!aj aZ 1 f0 fd qL (pM K):=by
 apply F.bI pQ λaR A outer s H vs Q E hr h=>?_
 ·let#[wa,l,ns,hs,ts,ps,rfl,#[ds,dn,lt,dh,dy,ad,gy,W],hl,sub,wG,k]:=h;let hu:=eU hr;refine' #[_,ak ?s1 (ak ?s2 (aF ?s3)),?kk]
  case s1=>exact aQ 2 pQ.nd CK
  case' s2=>refine' eM dX Z (dF (cX SO (by rfl) B.sorted yU %[1|0])) (bU 3 pQ.nd) (aF ?b1)
  case b1=>exact bQ (PW.pt (Ax (cz U5 (pv 2) CK) (AH (cz rF (cn hu (cn hu (pv 0) cq) (pv 3)) (cn hu (cn hu (pv 0) cq) (pv 2)))))) (aF (aQ 2 pQ.nd (pv 3))) bR
  case s3=>exact bh (pv 2)
  lk;apply#[_,Z,l,ns,Z,.of hl,wG,λlx nx=>?_];let#[s1,e1]:=aB (o:=.lst ((aV ns).map V.str)) nx;generalize upd H lx (.lst ((aV ns).map V.str))=H1 at s1 e1 ⊢;let W1:=W.same s1;apply#[lx,Z,#[_,.of e1],gc (K:=K) (a:=lx) (xs:=(aV ns).map V.str) (λi σ H'=>∃v3:aK,σ=[some (.ref wa),some (.ref l),some (fL (((aV ns).take i).foldl (dZ ps) none)),v3]/\H'=H1) #[none,Z,Z] (λi σ H' _ ⟨_,_,z⟩=>z▸.of e1) ?_ ?_]
  ·rintro i x σ H' hx ⟨v3,rfl,rfl⟩;let#[n,hn,rfl]:=iX hx;have nm:n∈ps.map (·.1):=sub n ((gq ns).mem_iff.mp (cw hn));have st:((aV ns).take (i+1)).foldl (dZ ps) none=dZ ps (((aV ns).take i).foldl (dZ ps) none) n:=by rw[fB hn,List.foldl_append];rfl
   have hV:∀m,((aV ns).take i).foldl (dZ ps) none=some m->m∈ps.map (·.1):=λm hm=>by
    rcases XI hm with h|h
    ·exact sub m ((gq ns).mem_iff.mp (List.mem_of_mem_take h))
    ·cases h
   generalize ((aV ns).take i).foldl (dZ ps) none=o at st hV ⊢;rw[st];lk;cases o with
   |none=>
    apply#[_,Z,Z,_,Z,?_];apply aP (λc=>?_) (λc=>absurd Z c);apply aP (λc=>?_) (λc=>absurd Z c);exact#[_,Z,_,Z,Z]
   |some m=>
    apply#[_,Z,Z,_,Z,?_];apply aP (λc=>by simp[fL] at c) (λc=>?_);apply#[_,Z,wa,_,Z,W1.gH,_,Z,dh,_,Z,gM W1.hv nm,_,Z,wa,_,Z,W1.gH,_,Z,dh,_,Z,gM W1.hv (hV m Z),_,_,Z,Z,_,Z,?_];apply aP (λc=>?_) (λc=>?_)
    ·apply#[_,Z,some (.str n),?_,Z];have c:eF ps m<eF ps n:=by simpa using c
     unfold dZ;dsimp only;rw[aA c];rfl
    ·apply#[some (.str n),?_,Z];have c:¬eF ps m<eF ps n:=by simpa using c
     unfold dZ;dsimp only;rw[aq c];rfl
  ·rintro σ H' ⟨v3,rfl,rfl⟩;rw[ao,dP];exact#[_,Z,k _ s1]
abbrev btN:ae:=[f_,i6,"_law_pair","_law_guard","_law_given",rK,lG,"_law_drop_here","_law_both","_law_fit",qu]
theorem CF:bD btN qO (bb uD):=bJ
inductive Ld (K:af) (vs:ai) (H:Hp) (Q:VK) (E:XK):Prop
 |mk:∀(wa sd t lg:Addr) (a b gd:Str) (gv:ae) (hs:Xa) (ts:Xb) (ps:aC) (f:ag),vs=[.ref wa,.ref sd,.ref t,.str gd,.ref lg]->jC K H wa hs ts ps->Pw hs ts ps f->H sd=some (.dK (bN (ps.map (·.1)) f))->H t=some (.tup [.str a,.str b])->a∈hs.map (·.1)->b∈hs.map (·.1)->gd∈(lO:ae)->H lg=some (.lst (gv.map V.str))->(∀H',aa H H'->Q (fL (rH hs ts ps f gd gv a b)) H')->Ld K vs H Q E
theorem lv_(F:bo K "_law_best" "_law_best" uD f0 fd)(cD:!br 1 "_law_drop" lU (HJ K))(cH:!br 1 "_law_held" lR (HL K))(cM:!br 1 "_law_may" qN (K_ K))(cF:!br 1 "_law_is_fit" qM pL)(cV:!br 1 "_law_heaviest" qL (pM K)) :
  aj P w K mg base aZ 2 f0 fd qO (Ld K):=by
 apply F.bI CF λaR A outer s H vs Q E hr h=>?_
 ·let#[wa,sd,t,lg,a,b,gd,gv,hs,ts,ps,f,rfl,WA,Pp,iy,ht,ha,hb,B6,OY,k]:=h;let#[ds,dn,lt,dh,dy,ad,gy,W]:=id WA;let hu:=eU hr;let sz:=b_;refine' #[_,?r0,?kk]
  case' r0=>refine' ak ?s1 ?r1
  case' r1=>refine' ak ?s2 ?r2
  case' r2=>refine' ak ?s3 ?r3
  case' r3=>refine' ak ?s4 (ak ?s5 (aF ?s6))
  case s1=>exact CB (pv 2) (jm Z (di (bU 5 CF.nd) (di (bU 6 CF.nd) iF)))
  case s2=>exact aQ 7 CF.nd (aY cD hr %[0,aY cH hr %[0,1|0],5,6|0])
  case s3=>exact aQ 8 CF.nd (bF iV (cn hu (cn hu (pv 0) cq) (pv 5)) (cn hu (cn hu (pv 0) cq) (pv 6)))
  case s4=>exact aQ 9 CF.nd (cO aJ)
  case' s5=>refine' Ex (eM dX Z (Ls (pv 1)) (bU 10 CF.nd) (aF (bQ ?t5 (aF (bQ ?t6 (aF ?b6) bR)) bR)))
  case t5=>exact PW.pt (yQ (cz ik (cn hu (pv 1) (pv 10)) (pv 5)) (yQ (cz (L3 fP (oN hr 0)) (pv 10) (pv 4) (by with_unfolding_all rfl)) (CZ (gg (aY cM hr %[0,10,5,6|0])))))
  case t6=>exact gg (aY cF hr %[3,7,bF ji (pv 8) (cn hu (cn hu (pv 0) cq) (pv 10))|0])
  case b6=>exact hZ (gX il mE mF lN (pv 9) %[10|0])
  case s6=>exact bh (aY cV hr %[0,9|0])
  let h1:=Pp.jQ a;let h2:=Pp.jQ b;let e1:=Pp.bP ha;let e2:=Pp.bP hb;apply#[_,Z,t,_,Z,.of ht,Z,_,_,Z,_,_,Z,Z,?_];dsimp only;apply#[_,Z,_,Z,_,Z,wa,sd,hs,ts,ps,f,Z,WA,Pp,iy,λdd H1 s1 NU vz=>?_];apply#[_,Z,_,Z,wa,dd,a,b,hs,ts,ps,f,Z,WA.nt (NT.of s1),Pp,vz,ha,hb,?_];lk;let W1:=W.same s1;apply#[_,Z,wa,_,Z,W1.gS,_,Z,ds,_,Z,gM W1.sg ha,_,Z,wa,_,Z,W1.gS,_,Z,ds,_,Z,gM W1.sg hb,_,_,Z,Z,?_];lk;apply#[zl,λlf nf=>?_];lk;let s2:=s1.trans (aa.new (o:=.lst []) nf);have e3:upd H1 lf (.lst []) lf=some (.lst []):=az;have rh:H lf=none:=s1.free nf;generalize upd H1 lf (.lst [])=H2 at s2 e3 ⊢
  have db:-(2 ^ 63)<ip hs ps f a b/\ip hs ps f a b<2 ^ 63:=by
   unfold ip;let m1:=Int.mul_nonneg h1.1 (show 0<=strOf hs b by omega);let m2:=Int.mul_le_mul h1.2 e2.2 Z1 Z1;let m3:=Int.mul_nonneg h2.1 (show 0<=strOf hs a by omega);let m4:=Int.mul_le_mul h2.2 e1.2 Z1 Z1;constructor<;>omega
  have jo:0<=strOf hs a+strOf hs b/\strOf hs a+strOf hs b<=2000:=#[by omega,by omega];generalize Wk:ip hs ps f a b=dp at db ⊢;generalize V9:strOf hs a+strOf hs b=jn at jo ⊢;let GJ:=s2 _ _ iy;have Oe:lf≠sd:=(bq iy rh).symm;apply#[sd,_,GJ,?_];apply#[_,Z,sd,_,Z,GJ,λo=>?_];apply Xh (λi σ H'=>∃v10:aK,σ=[some (.ref wa),some (.ref sd),some (.ref t),some (.str gd),some (.ref lg),some (.str a),some (.str b),some (.int dp),some (.int jn),some (.ref lf),v10]/\H' sd=some (.frz o (.dK (bN (ps.map (·.1)) f)))/\(∀b u,b≠sd->H b=some u->H' b=some u)/\H' lf=some (.lst ((((ps.map (·.1)).take i).filter (jZ hs ts ps f gd gv a b)).map V.str))) #[none,Z,az,λb u n1 e=>by rw[au n1];exact s2 _ _ e,by rw[au Oe];exact e3] (λi σ H' _ ⟨_,_,z,_⟩=>z) ?_ ?_
  ·rintro i ky x σ H4 hx ⟨v10,rfl,fz,kp,GY⟩;let#[n,hn,rfl,rfl]:=AI hx;let nm:=cw hn;have hi:i<(ps.map (·.1)).length:=(cy.mp hn).1;rw[ao] at hi;let ib:=Pp.ib;let W4:=W.but iy nm kp;let wn:=Pp.wt nm
   have no:∀{H5:Hp},aa H4 H5->jZ hs ts ps f gd gv a b n=false->∃v10:aK,[some (V.ref wa),some (.ref sd),some (.ref t),some (.str gd),some (.ref lg),some (.str a),some (.str b),some (.int dp),some (.int jn),some (.ref lf),some (.str n)]=[some (V.ref wa),some (.ref sd),some (.ref t),some (.str gd),some (.ref lg),some (.str a),some (.str b),some (.int dp),some (.int jn),some (.ref lf),v10]/\H5 sd=some (.frz o (.dK (bN (ps.map (·.1)) f)))/\(∀b u,b≠sd->H b=some u->H5 b=some u)/\H5 lf=some (.lst ((((ps.map (·.1)).take (i+1)).filter (jZ hs ts ps f gd gv a b)).map V.str)):=λs5 e=>#[_,Z,s5 _ _ fz,λb u n1 e=>s5 _ _ (kp b u n1 e),by
    rw[fB hn,ze,List.filter_cons_of_neg (by rw[e];exact hE),List.filter_nil,g_];exact s5 _ _ GY]
   lk;apply#[_,Z,_,Z,sd,_,Z,PU (.inr #[o,fz]) nm,_,Z,Z,_,Z,?_];apply aP (λc1=>?_) (λc1=>?_)
   ·have c1:f n=a:=by simpa using c1
    apply#[_,Z,_,Z,n,gv,Z,#[lg,_,Z,.of (kp _ _ (λz=>by rw[z,iy] at OY;cases OY) OY),C7 gv],_,Z,?_];rw[aA Z];apply aP (λc2=>?_) (λc2=>?_)
    ·have c2:¬n∈gv:=by simpa using c2
     apply#[_,Z,_,Z,_,Z,_,Z,wa,n,a,b,hs,ts,ps,f,Z,#[ds,dn,lt,dh,dy,ad,gy,W4],Pp,nm,ha,λH5 s5=>#[_,Z,?_]];let W5:=W4.same s5;apply aP (λc3=>?_) (λc3=>?_)
     ·apply#[_,Z,_,Z,_,Z,_,Z,wa,_,Z,W5.gH,_,Z,dh,_,Z,gM W5.hv nm,_,_,Z,Z,.inl #[by omega,by omega],gd,dp,jn * eF ps n,Z,B6,db.1,db.2,λH6 s6=>#[_,Z,?_]];apply aP (λc4=>?_) (λc4=>?_)
      ·have pt:jZ hs ts ps f gd gv a b n=true:=by
        unfold jZ;rw[cc c1,dS c2,c3,Wk,V9,c4];rfl
       let UP:=s6 _ _ (s5 _ _ GY);apply#[_,Z,.inl #[Z,_,.of UP],_,Z,lf,_,_,Z,Z,UP,?_,?_]
       ·rw[ao];have:=xt (jZ hs ts ps f gd gv a b) ((ps.map (·.1)).take i);rw[dg] at this;omega
       ·apply#[_,Z,by rw[au Oe.symm];exact s6 _ _ (s5 _ _ fz),λb u n1 e=>by rw[au (bq e rh)];exact s6 _ _ (s5 _ _ (kp b u n1 e)),?_];rw[az,fB hn,ze,List.filter_cons_of_pos (by exact pt),List.filter_nil,cu];rfl
      ·apply no (s5.trans s6) ?_;unfold jZ;rw[Wk,V9,show jU gd dp (jn * eF ps n)=false by simpa using c4,qA,qA,qA]
     ·apply no s5 ?_;unfold jZ;rw[show fN ts ps n a b=false by simpa using c3,rP,qA,qA]
    ·apply no (aa.refl H4) ?_;have c2:n∈gv:=by simpa using c2
     unfold jZ;rw[cc c2,Bool.not_true,rP,qA]
   ·apply no (aa.refl H4) ?_;have c1:¬f n=a:=by simpa using c1
    unfold jZ;rw[dS c1,rP]
  ·rintro σ H4 ⟨v10,rfl,fz,kp,GY⟩;rw[gh,dP] at GY
   have s4:aa H (upd H4 sd (.dK (bN (ps.map (·.1)) f))):=λb u e=>by
    by_cases z:b=sd
    ·rw[z] at e ⊢;rw[iy] at e;rw[az];exact e
    ·rw[au z];exact kp b u z e
   have UQ:upd H4 sd (.dK (bN (ps.map (·.1)) f)) lf=some (.lst (((ps.map (·.1)).filter (jZ hs ts ps f gd gv a b)).map V.str)):=by rw[au Oe];exact GY
   apply#[o,fz,?_];generalize upd H4 sd (.dK (bN (ps.map (·.1)) f))=H5 at s4 UQ ⊢;apply#[_,Z,_,Z,wa,lf,_,hs,ts,ps,Z,WA.nt (NT.of s4),UQ,λn hn=>(rR.mp hn).1,?_,λH6 s6=>k _ (s4.trans s6)];have:=xt (jZ hs ts ps f gd gv a b) (ps.map (·.1));let ib:=Pp.ib;rw[ao] at this;omega
end
end Ev
namespace L2
open PySem
inductive RV (x:V) (vs:ai) (H:Hp) (Q:VK):Prop
 |mk:∀(l:Addr) (xs:ai) (k:V) (j:Nat),x=.ref l->vs=[k]->H l=some (.lst xs)->qw k=true->xs.all qw=true->(∃y,xs[j]? = some y/\jV y k=true)->(∀i y,i<j->xs[i]? = some y->jV y k=false)->Q .non (upd H l (.lst (xs.eraseIdx j)))->RV x vs H Q
variable{X:Cx}
theorem SU:Dp X "list.remove" RV:=by
 intro pins s σ H x vs v us Q I rx rv h;let#[l,xs,k,j,rfl,rfl,hH,fk,fx,#[y,hy,ey],no,q]:=h;cases rx;let#[u,rfl,ru]:=rv.one;let#[z,its,n,r,hl,e]:=I.jN hH;let#[hjx,Qr]:=cy.mp hy;apply call_meets PySem.F.slot_list_remove ⟨_,e,rfl⟩ PySem.F.entry_list_remove (PySem.F.args_list_remove_2 _ _) (MeetsSeq.list_remove l its.toArray n u (mr k) (λy hy prog w A E s Q hq=>Ip (A:=A) (s:=s) ru fk r fx y (by simpa using hy) prog w E Q hq) j (by show j<its.length;omega) ?_ ?_ (by rw[dQ];omega)) ⟨e,?_⟩
 ·let#[h2,e2]:=Ie r fx k j Z1;show mr k its[j]=true;rw[e2,Qr];exact ey
 ·intro m hm lt;let#[h2,e2]:=Ie r fx k m (by simpa using hm);show mr k its[m]=false;rw[e2];exact no m _ lt (dG h2)
 ·apply⟨.non,_,I.BI (its':=its.eraseIdx j) hH e ?_ (r.eraseIdx j) ?_,rfl,q⟩
  ·show its.toArray.eraseIdxIfInBounds j=(its.eraseIdx j).toArray;rw[List.eraseIdxIfInBounds_toArray]
  ·have:=Ya xs j;omega
end L2
namespace Ev
open PySem L2
def bY(hs:Xa)(ps:aC)(f:ag)(a:Str)(l:ae):Str:=l.foldl (λlo x=>if 0<ip hs ps f lo x then x else lo) a
theorem K4{hs:Xa}{ps:aC}{f:ag}:∀{l:ae} {a:Str},bY hs ps f a l=a∨bY hs ps f a l∈l
 |[],a=>.inl Z
 |x::l,a=>by
  have e:bY hs ps f a (x::l)=bY hs ps f (if 0<ip hs ps f a x then x else a) l:=rfl;rw[e];by_cases c:0<ip hs ps f a x
  ·rw[aA c];rcases K4 (hs:=hs) (ps:=ps) (f:=f) (l:=l) (a:=x) with h|h
   ·exact .inr (by rw[h];exact cZ)
   ·exact .inr (dI _ h)
  ·rw[aq c];rcases K4 (hs:=hs) (ps:=ps) (f:=f) (l:=l) (a:=a) with h|h
   ·exact .inl h
   ·exact .inr (dI _ h)
variable{a:Str}{l:ae}
theorem P1{hs:Xa}{ps:aC}{f:ag}:bY hs ps f a (a::l)∈a::l:=by
 rcases K4 (hs:=hs) (ps:=ps) (f:=f) (l:=a::l) (a:=a) with h|h
 ·rw[h];exact cZ
 ·exact h
def gA(hs:Xa)(ps:aC)(f:ag):Nat->ae->ae
 |0,_=>[]
 |_+1,[]=>[]
 |n+1,a::l=>bY hs ps f a (a::l)::gA hs ps f n ((a::l).erase (bY hs ps f a (a::l)))
def fK(hs:Xa)(ts:Xb)(ps:aC)(f:ag)(h:Str):ae:=gA hs ps f (aV (dj ts h)).length (aV (dj ts h))
theorem Xy(hs:Xa)(ps:aC)(f:ag):∀(n:Nat) (l:ae),(gA hs ps f n l).length<=n
 |0,_=>bp _
 |_+1,[]=>gG _
 |n+1,a::l=>Nat.succ_le_succ (Xy hs ps f n _)
theorem WM{hs:Xa}{ps:aC}{f:ag}:∀{n:Nat} {l:ae} {x:Str},x∈gA hs ps f n l->x∈l
 |0,_,_,h=>by cases h
 |_+1,[],_,h=>by cases h
 |n+1,a::l,x,h=>by
  rcases bZ.mp h with h|h
  ·rw[h];exact P1
  ·exact EH (WM h)
theorem RB:∀{l:ae} {a:Str},a∈l->∃j,l[j]? = some a/\(∀i y,i<j->l[i]? = some y->y≠a)/\l.eraseIdx j=l.erase a
 |b::l,a,h=>by
  by_cases z:b=a
  ·subst z;exact#[0,Z,λi y h=>absurd h (Nat.not_lt_zero _),by simp]
  ·let#[j,h1,h2,h3]:=RB (List.mem_of_ne_of_mem (λy=>z y.symm) h);apply#[j+1,h1,λi y hi e=>?_,?_]
   ·cases i with
    |zero=>cases e;exact z
    |succ i=>exact h2 i y Z1 e
   ·rw[List.eraseIdx_cons_succ,h3,List.erase_cons_tail (by simpa using z)]
theorem S0{α β:Type}(g:α->β):∀(l:List α) (j:Nat),(l.map g).eraseIdx j=(l.eraseIdx j).map g
 |[],_=>by simp
 |a::l,0=>by simp
 |a::l,j+1=>by simp[S0 g l j]
theorem Lo(x y:Str):jV (.str x) (.str y)=decide (x=y):=by
 show (x == y)=_;by_cases h:x=y
 ·subst h;simp
 ·simp[h]
def oS(hs:Xa)(ts:Xb)(ps:aC)(f:ag)(gd h:Str):ae->ae->fS
 |_,[]=>[]
 |gv,o::l=>match rH hs ts ps f gd gv h o with
  |some n=>(n,h,o)::oS hs ts ps f gd h (gv++[n]) l
  |none=>oS hs ts ps f gd h gv l
def kU(hs:Xa)(ts:Xb)(ps:aC)(f:ag)(w0 gd h:Str):fS:=oS hs ts ps f gd h [] (if w0="least" then (fK hs ts ps f h).take 1 else fK hs ts ps f h)
variable{x:Str}
theorem Pd{hs:Xa}{ts:Xb}(G:Good hs ts){h:Str}(m:x∈dj ts h):x∈hs.map (·.1):=by
 let#[t,ht,m]:=List.mem_flatMap.mp m;unfold ym at m;rcases fQ.mp m with m|m
 ·split at m
  ·rw[jq.mp m];exact (G.qS t ht).2
  ·cases m
 ·split at m
  ·rw[jq.mp m];exact (G.qS t ht).1
  ·cases m
variable{f0:Addr}{fd:Ad}
section
variable{P:Ae}{w:Af}{K:af}{mg:Str->Option Aa}{base:Heap}
abbrev rsN:ae:=[f_,i6,"_law_hand","_law_held_here","_law_left",rG,"_law_lowest",rK]
theorem Dg:bD rsN Eb (bb Rb):=bJ
inductive RZ (K:af) (vs:ai) (H:Hp) (Q:VK) (E:XK):Prop
 |mk:∀(wa sd:Addr) (h:Str) (hs:Xa) (ts:Xb) (ps:aC) (f:ag),vs=[.ref wa,.ref sd,.str h]->jC K H wa hs ts ps->Pw hs ts ps f->H sd=some (.dK (bN (ps.map (·.1)) f))->h∈hs.map (·.1)->(dj ts h).length<64->(∀l H',aa H H'->H l=none->H' l=some (.lst ((fK hs ts ps f h).map V.str))->Q (.ref l) H')->RZ K vs H Q E
theorem hp_(F:bo K "_law_rising" "_law_rising" Rb f0 fd)(B:Bi mg)(cD:!br 1 "_law_drop" lU (HJ K))(cH:!br 1 "_law_held" lR (HL K)):!aj aZ 2 f0 fd Eb (RZ K):=by
 apply F.bI Dg λaR A outer s H vs Q E hr h=>?_
 ·let#[wa,sd,h,hs,ts,ps,f,rfl,WA,Pp,iy,hh,wG,k]:=h;let#[ds,dn,lt,dh,dy,ad,gy,W]:=id WA;let hu:=eU hr;let sz:=b_;refine' #[_,?r0,?kk]
  case' r0=>refine' ak ?s1 ?r1
  case' r1=>refine' ak ?s2 ?r2
  case' r2=>refine' ak ?s3 (ak ?s4 (aF ?s5))
  case s1=>exact aQ 3 Dg.nd (aY cH hr %[0,1|0])
  case s2=>exact aQ 4 Dg.nd (cX SO (by rfl) B.sorted yU %[cn hu (cn hu (pv 0) cq) (pv 2)|0])
  case s3=>exact aQ 5 Dg.nd (cO aJ)
  case' s4=>refine' L6 dX (cz (L8 (oN hr 0)) (pv 4) (cO aJ)) (ak ?b1 (ak ?b2 (ak ?b3 (aF ?b4))))
  case b1=>exact aQ 6 Dg.nd (bO fV (pv 4) aE)
  case b2=>exact eM dX Z (dF (pv 4)) (bU 7 Dg.nd) (aF (bQ (cz rF (aY cD hr %[0,3,6,7|0]) aE) (aF (aQ 6 Dg.nd (pv 7))) bR))
  case b3=>exact hZ (gX il mE mF lN (pv 5) %[6|0])
  case b4=>exact hZ (gX il PySem.F.slot_list_remove PySem.F.type_list_remove SU (pv 4) %[6|0])
  case s5=>exact bh (pv 5)
  apply#[_,Z,_,Z,wa,sd,hs,ts,ps,f,Z,WA,Pp,iy,λdd H1 s1 NU e1=>?_];lk;let W1:=W.same s1;apply#[_,Z,wa,_,Z,W1.gN,_,Z,dn,_,Z,gM W1.nr hh,ad h,dj ts h,Z,.of (W1.ls h hh),wG,λlx nx=>?_];lk;let#[s2,e2]:=aB (o:=.lst ((aV (dj ts h)).map V.str)) nx;generalize upd H1 lx (.lst ((aV (dj ts h)).map V.str))=H2 at s2 e2 ⊢;apply#[zl,λlf nf=>?_];lk;let#[s3,e3]:=aB (o:=.lst []) nf;generalize upd H2 lf (.lst [])=H3 at s3 e3 ⊢;have Ur:H lx=none:=s1.free nx;have rh:H lf=none:=(s1.trans s2).free nf;have xf:lx≠lf:=bq e2 nf;have hV:∀x∈aV (dj ts h),x∈hs.map (·.1):=λx hx=>Pd Pp.Gd ((gq _).mem_iff.mp hx);have DD:(aV (dj ts h)).length<64:=by rw[(gq _).length_eq];exact wG
  let YA:=s3 _ _ e2;let je:=(s1.trans s2).trans s3;let Lu:=(s2.trans s3) _ _ e1;have ddx:dd≠lx:=bq e1 nx;have ddf:dd≠lf:=bq (s2 _ _ e1) nf;unfold fK at k;generalize aV (dj ts h)=L at hV DD k YA;clear e2 nx nf s1 s2 s3 W1;apply#[λm σ H'=>∃(v6 v7:aK) (left done:ae),σ=[some (.ref wa),some (.ref sd),some (.str h),some (.ref dd),some (.ref lx),some (.ref lf),v6,v7]/\aa H H'/\H' dd=some (.dK (bH (hs.map (·.1)) λn=>.int (wJ ps f n)))/\H' lx=some (.lst (left.map V.str))/\H' lf=some (.lst (done.map V.str))/\m=left.length/\(∀x∈left,x∈hs.map (·.1))/\left.length+done.length<=64/\done++gA hs ps f left.length left=gA hs ps f L.length L,#[_,none,none,L,[],Z,je,Lu,YA,e3,Z,hV,by rw[sL];omega,Z],?_];rintro m σ H4 ⟨v6,v7,left,done,rfl,s4,d4,x4,f4,rfl,in4,l4,eq4⟩;apply#[_,Z,zl,λle ne=>?_];let#[s5,e5]:=aB (o:=.lst []) ne;generalize upd H4 le (.lst [])=H5 at s5 e5 ⊢;apply#[lx,le,left.map V.str,Z,Z,.of (s5 _ _ x4),.of e5,_,Z,?_];apply aP (λc=>?_) (λc=>?_)
  ·cases left with
   |nil=>simp at c
   |cons a l=>
    apply#[λσ H'=>∃(v6 v7:aK) (left done:ae),left.length<(a::l).length/\σ=[some (.ref wa),some (.ref sd),some (.str h),some (.ref dd),some (.ref lx),some (.ref lf),v6,v7]/\aa H H'/\H' dd=some (.dK (bH (hs.map (·.1)) λn=>.int (wJ ps f n)))/\H' lx=some (.lst (left.map V.str))/\H' lf=some (.lst (done.map V.str))/\(∀x∈left,x∈hs.map (·.1))/\left.length+done.length<=64/\done++gA hs ps f left.length left=gA hs ps f L.length L,λbw H' ⟨v6,v7,left,done,lt,e,q1,q2,q3,q4,q5,q6,q7⟩=>#[left.length,lt,v6,v7,left,done,e,q1,q2,q3,q4,Z,q5,q6,q7],?_];let x5:=s5 _ _ x4;let d5:=s5 _ _ d4;let f5:=s5 _ _ f4;let W5:=W.same (s4.trans s5);apply#[_,Z,lx,_,_,_,Z,Z,.of x5,L2.iT (xs:=(a::l).map V.str) (j:=0) (v:=.str a) Z,?_];lk;apply dB (λσ H'=>∃v7:aK,σ=[some (.ref wa),some (.ref sd),some (.str h),some (.ref dd),some (.ref lx),some (.ref lf),some (.str (bY hs ps f a (a::l))),v7]/\H'=H5) ?m2 ?m1
    case m1=>
     intro N1 hN;apply#[_,Z,lx,Z,#[_,.of x5],gc (K:=K) (a:=lx) (xs:=(a::l).map V.str) (λi σ H'=>∃v7:aK,σ=[some (.ref wa),some (.ref sd),some (.str h),some (.ref dd),some (.ref lx),some (.ref lf),some (.str (bY hs ps f a ((a::l).take i))),v7]/\H'=H5) #[v7,Z,Z] (λi σ H' _ ⟨_,_,z⟩=>z▸.of x5) ?_ ?_]
     ·rintro i x σ H' hx ⟨v7,rfl,rfl⟩;let#[n,hn,rfl]:=iX hx
      have st:bY hs ps f a ((a::l).take (i+1))=if 0<ip hs ps f (bY hs ps f a ((a::l).take i)) n then n else bY hs ps f a ((a::l).take i):=by
       unfold bY;rw[fB hn,List.foldl_append];rfl
      have lm:bY hs ps f a ((a::l).take i)∈hs.map (·.1):=by
       rcases K4 (hs:=hs) (ps:=ps) (f:=f) (l:=(a::l).take i) (a:=a) with z|z
       ·rw[z];exact in4 a cZ
       ·exact in4 _ (List.mem_of_mem_take z)
      rw[st];generalize bY hs ps f a ((a::l).take i)=lo at lm ⊢;lk;apply#[_,Z,_,Z,_,Z,_,Z,wa,dd,lo,n,hs,ts,ps,f,Z,#[ds,dn,lt,dh,dy,ad,gy,W5],Pp,d5,lm,in4 n (cw hn),_,_,Z,Z,_,Z,?_];apply aP (λc=>?_) (λc=>?_)
      ·have c:0<ip hs ps f lo n:=by simpa using c
       rw[aA c];exact#[_,Z,_,Z,Z]
      ·have c:¬0<ip hs ps f lo n:=by simpa using c
       rw[aq c];exact#[_,Z,Z]
     ·rintro σ H' ⟨v7,rfl,rfl⟩;rw[ao,dP];exact hN _ _ #[_,Z,Z]
    rintro σ H6 ⟨v7,rfl,rfl⟩;let lm:=P1 (hs:=hs) (ps:=ps) (f:=f) (a:=a) (l:=l);generalize elo:bY hs ps f a (a::l)=lo at lm ⊢;rw[iW] at l4;apply#[_,Z,.inl #[Z,_,.of f5],_,Z,lf,_,_,Z,Z,f5,by rw[ao];omega,?_];have x6:upd H6 lf (.lst (done.map V.str++[.str lo])) lx=some (.lst ((a::l).map V.str)):=by rw[au xf];exact x5
    let#[j,j1,j2,j3]:=RB lm;have KJ:((a::l).erase lo).length=l.length:=by rw[List.length_erase_of_mem lm];rfl
    apply#[_,Z,.inl #[Z,_,.of x6],_,Z,lx,_,_,j,Z,Z,x6,Z,?_,#[.str lo,by rw[dW,j1];rfl,by rw[Lo];simp],λi y hi e=>?_,?_]
    ·rw[List.all_eq_true];intro v hv;let#[_,_,rfl]:=bj.mp hv;rfl
    ·rw[dW,Dj] at e;let#[x,hx,rfl]:=e;rw[Lo];simpa using j2 i x hi hx
    ·apply#[_,_,(a::l).erase lo,done++[lo],by rw[KJ,iW];omega,Z,λb u e=>?_,?_,?_,?_,λx hx=>in4 x (EH hx),by rw[KJ,eA,Di];omega,?_]
     ·rw[au (bq e Ur),au (bq e rh)];exact s5 _ _ (s4 _ _ e)
     ·rw[au ddx,au ddf];exact d5
     ·rw[az,S0,j3]
     ·rw[au xf.symm,az,cu];rfl
     ·rw[KJ,<- eq4,xr];show done++(lo::gA hs ps f l.length ((a::l).erase lo))=done++(bY hs ps f a (a::l)::gA hs ps f l.length ((a::l).erase (bY hs ps f a (a::l))));rw[elo]
  ·have z:left=[]:=by
    cases left with
    |nil=>rfl
    |cons a l=>simp at c
   subst z;apply#[_,Z,k lf _ (s4.trans s5) rh ?_];rw[<- eq4,s5 _ _ f4];show _=some (HO.lst ((done++[]).map V.str));rw[g_]
end
variable{o:Str}{gv:ae}
theorem Ml{hs:Xa}{ts:Xb}{ps:aC}{f:ag}{gd h:Str}(e:rH hs ts ps f gd gv h o=none):oS hs ts ps f gd h gv (o::l)=oS hs ts ps f gd h gv l:=by
 rw[oS,e]
variable{n:Str}
theorem SD{hs:Xa}{ts:Xb}{ps:aC}{f:ag}{gd h:Str}(e:rH hs ts ps f gd gv h o=some n):oS hs ts ps f gd h gv (o::l)=(n,h,o)::oS hs ts ps f gd h (gv++[n]) l:=by
 rw[oS,e]
theorem jK_(hs:Xa)(ts:Xb)(ps:aC)(f:ag)(h:Str):(fK hs ts ps f h).length<=(dj ts h).length:=by
 have:=Xy hs ps f (aV (dj ts h)).length (aV (dj ts h));rw[(gq _).length_eq] at this;unfold fK;rw[(gq _).length_eq];exact this
theorem Qg{hs:Xa}{ts:Xb}{ps:aC}{f:ag}(G:Good hs ts){h:Str}(m:x∈fK hs ts ps f h):x∈hs.map (·.1):=Pd G ((gq _).mem_iff.mp (WM m))
section
variable{P:Ae}{w:Af}{K:af}{mg:Str->Option Aa}{base:Heap}
abbrev blN:ae:=[f_,i6,"_law_hand","_law_words",rG,"_law_given","_law_some",lG,qu]
theorem CN:bD blN wc (bb oy):=bJ
inductive QR (K:af) (vs:ai) (H:Hp) (Q:VK) (E:XK):Prop
 |mk:∀(wa sd lw:Addr) (h w0 w1 gd:Str) (hs:Xa) (ts:Xb) (ps:aC) (f:ag),vs=[.ref wa,.ref sd,.str h,.ref lw]->jC K H wa hs ts ps->Pw hs ts ps f->H sd=some (.dK (bN (ps.map (·.1)) f))->h∈hs.map (·.1)->(dj ts h).length<64->H lw=some (.lst [.str w0,.str w1,.str gd])->gd∈(lO:ae)->(∀l ys H',aa H H'->H l=none->H' l=some (.lst ys)->bg K H' ys ((kU hs ts ps f w0 gd h).map kM)->Q (.ref l) H')->QR K vs H Q E
theorem ju_(F:bo K "_law_by_low" "_law_by_low" oy f0 fd)(cR:!br 2 "_law_rising" Eb (RZ K))(cB:!br 2 "_law_best" qO (Ld K)):!aj aZ 3 f0 fd wc (QR K):=by
 apply F.bI CN λaR A outer s H vs Q E hr h=>?_
 ·let#[wa,sd,lw,h,w0,w1,gd,hs,ts,ps,f,rfl,WA,Pp,iy,hh,wG,V3,B6,k]:=h;let hu:=eU hr;let sz:=b_;refine' #[_,?r0,?kk]
  case' r0=>refine' ak ?s1 ?r1
  case' r1=>refine' ak ?s2 ?r2
  case' r2=>refine' ak ?s3 ?r3
  case' r3=>refine' ak ?s4 (ak ?s5 (aF ?s6))
  case s1=>exact aQ 4 CN.nd (cO aJ)
  case s2=>exact aQ 5 CN.nd (cO aJ)
  case s3=>exact aQ 6 CN.nd (aY cR hr %[0,1,2|0])
  case s4=>exact bQ (cz ik (bO fV (pv 3) aE) cq) (aF (aQ 6 CN.nd (xi C0 (pv 6) xb (xc aE)))) bR
  case' s5=>refine' eM dX Z (dF (pv 6)) (bU 7 CN.nd) (ak ?b1 (aF (bQ (cz WE (pv 8) CK) (ak ?b2 (aF ?b3)) bR)))
  case b1=>exact aQ 8 CN.nd (aY cB hr %[0,1,eW %[2,7|0],bO fV (pv 3) aE,5|0])
  case b2=>exact hZ (gX il mE mF lN (pv 5) %[8|0])
  case b3=>exact hZ (gX il mE mF lN (pv 4) %[eW %[8,2,7|0]|0])
  case s6=>exact bh (pv 4)
  apply#[zl,λlf nf=>?_];lk;let#[s1,f1]:=aB (o:=.lst []) nf;generalize upd H lf (.lst [])=H1 at s1 f1 ⊢;apply#[zl,λlg ng=>?_];lk;let#[s2,g2]:=aB (o:=.lst []) ng;generalize upd H1 lg (.lst [])=H2 at s2 g2 ⊢;let f2:=s2 _ _ f1;have fg:lf≠lg:=bq f1 ng;have ng0:H lg=none:=s1.free ng;let hU:=s1.trans s2;apply#[_,Z,_,Z,_,Z,wa,sd,h,hs,ts,ps,f,Z,WA.nt (NT.of hU),Pp,hU _ _ iy,hh,wG,λlr H3 s3 nr r3=>?_];lk;let je:=hU.trans s3;let rl:=jK_ hs ts ps f h;have ri:∀x∈fK hs ts ps f h,x∈hs.map (·.1):=λx hx=>Qg Pp.Gd hx
  let IV:ck:=λσ H'=>∃(l6:Addr) (L:ae),σ=[some (.ref wa),some (.ref sd),some (.str h),some (.ref lw),some (.ref lf),some (.ref lg),some (.ref l6),none,none]/\aa H3 H'/\H2 l6=none/\H' l6=some (.lst (L.map V.str))/\L.length<64/\(∀x∈L,x∈hs.map (·.1))/\kU hs ts ps f w0 gd h=oS hs ts ps f gd h [] L
  apply dB IV ?m2 ?m1
  case m1=>
   intro N1 hN;apply#[_,Z,lw,_,_,_,Z,Z,.of (je _ _ V3),L2.iT (xs:=[V.str w0,.str w1,.str gd]) (j:=0) (v:=.str w0) Z,Z,_,Z,?_];apply aP (λc=>?_) (λc=>?_)
   ·have c:w0="least":=by simpa using c
    apply#[_,Z,_,Z,lr,_,Z,.of r3,λlq nq=>?_];rw[show gD ((fK hs ts ps f h).map V.str) none (some 1)=((fK hs ts ps f h).map V.str).take 1 from EE _ 1,<- List.map_take];apply hN _ _ #[lq,(fK hs ts ps f h).take 1,Z,aa.new nq,s3.free nq,az,by rw[dg];omega,λx hx=>ri x (List.mem_of_mem_take hx),?_];unfold kU;rw[aA c]
   ·have c:¬w0="least":=by simpa using c
    apply hN _ _ #[lr,fK hs ts ps f h,Z,aa.refl _,nr,r3,by omega,ri,?_];unfold kU;rw[aq c]
  rintro σ H4 ⟨l6,L,rfl,s4,n6,e6,DD,li,HI⟩;rw[HI] at k;clear HI;let jd:=je.trans s4;let f4:=s4 _ _ (s3 _ _ f2);let g4:=s4 _ _ (s3 _ _ g2);have f6:l6≠lf:=(bq f2 n6).symm;have g6:l6≠lg:=(bq g2 n6).symm
  let IU:bL:=λi σ H'=>∃(v7 v8:aK) (gv:ae) (done:fS) (ys:ai),σ=[some (.ref wa),some (.ref sd),some (.str h),some (.ref lw),some (.ref lf),some (.ref lg),some (.ref l6),v7,v8]/\aa H H'/\H' l6=some (.lst (L.map V.str))/\H' lg=some (.lst (gv.map V.str))/\H' lf=some (.lst ys)/\bg K H' ys (done.map kM)/\gv.length<=i/\done.length<=i/\done++oS hs ts ps f gd h gv (L.drop i)=oS hs ts ps f gd h [] L
  apply#[_,Z,l6,Z,#[_,.of e6],gc (K:=K) (a:=l6) (xs:=L.map V.str) IU #[none,none,[],[],[],Z,jd,e6,g4,f4,.nil,bp _,bp _,Z] (λi σ H' _ ⟨_,_,_,_,_,_,_,z,_⟩=>.of z) ?_ ?_]
  ·rintro i x σ H5 hx ⟨v7,v8,gv,done,ys,rfl,s5,e5,g5,f5,t5,lgv,ldn,eq5⟩;let#[o,ho,rfl]:=iX hx;have hi:i<L.length:=(cy.mp ho).1
   have dr:L.drop i=o::L.drop (i+1):=by
    let#[h1,h2]:=cy.mp ho;rw[List.drop_eq_getElem_cons h1,h2]
   rw[dr] at eq5;let ly:=bK t5;rw[ao] at ly;lk;apply#[_,Z,_,Z,_,Z,_,Z,zl,λt nt=>?_];let#[s6,e7]:=aB (o:=.tup [.str h,.str o]) nt;generalize upd H5 t (.tup [.str h,.str o])=H6 at s6 e7 ⊢;let Nr:=s5.trans s6;apply#[_,Z,lw,_,_,_,Z,Z,.of (Nr _ _ V3),L2.iT (xs:=[V.str w0,.str w1,.str gd]) (j:=2) (v:=.str gd) Z,?_];apply#[_,Z,wa,sd,t,lg,h,o,gd,gv,hs,ts,ps,f,Z,WA.nt (NT.of Nr),Pp,Nr _ _ iy,e7,hh,li o (cw ho),B6,s6 _ _ g5,λH7 s7=>?_];lk;let pU:=s6.trans s7;let Ud:=s5.trans pU;apply#[_,Z,Z,_,Z,?_];cases eb:rH hs ts ps f gd gv h o with
   |none=>
    rw[Ml eb] at eq5;apply aP (λc=>by simp[fL] at c) (λc=>?_);exact#[_,_,gv,done,ys,Z,Ud,pU _ _ e5,pU _ _ g5,pU _ _ f5,t5.same pU,by omega,by omega,eq5]
   |some n=>
    rw[SD eb] at eq5;apply aP (λc=>?_) (λc=>by simp[fL] at c);rw[show fL (some n)=V.str n from Z];let g7:=pU _ _ g5;apply#[_,Z,.inl #[Z,_,.of g7],_,Z,lg,_,_,Z,Z,g7,by rw[ao];omega,?_];have f8:upd H7 lg (.lst (gv.map V.str++[.str n])) lf=some (.lst ys):=by rw[au fg];exact pU _ _ f5
    have g8:upd H7 lg (.lst (gv.map V.str++[.str n])) lg=some (.lst ((gv++[n]).map V.str)):=by rw[az,cu];rfl
    have e8:upd H7 lg (.lst (gv.map V.str++[.str n])) l6=some (.lst (L.map V.str)):=by rw[au g6];exact pU _ _ e5
    have s8:aa H (upd H7 lg (.lst (gv.map V.str++[.str n]))):=gf Ud ng0;have t8:bg K (upd H7 lg (.lst (gv.map V.str++[.str n]))) ys (done.map kM):=i9 (t5.same pU) g7;generalize upd H7 lg (.lst (gv.map V.str++[.str n]))=H8 at f8 g8 e8 s8 t8 ⊢;apply#[_,Z,.inl #[Z,_,.of f8],_,Z,_,Z,_,Z,zl,λt2 yi=>?_];let s9:=aa.new (o:=.tup [.str n,.str h,.str o]) yi;have e9:upd H8 t2 (.tup [.str n,.str h,.str o]) t2=some (.tup ((kM (n,h,o)).map kV)):=az;generalize upd H8 t2 (.tup [.str n,.str h,.str o])=H9 at s9 e9 ⊢;let f9:=s9 _ _ f8;apply#[lf,_,_,Z,Z,f9,by omega,?_];apply#[_,_,gv++[n],done++[(n,h,o)],ys++[.ref t2],Z,gf (s8.trans s9) nf,by rw[au f6];exact s9 _ _ e8,by rw[au fg.symm];exact s9 _ _ g8,az,?_,by rw[eA,Di];omega,by rw[eA,Di];omega,?_]
    ·rw[cu];exact i9 (vT (t8.same s9) e9) f9
    ·rw[xr];exact eq5
  ·rintro σ H5 ⟨v7,v8,gv,done,ys,rfl,s5,e5,g5,f5,t5,_,_,eq5⟩;rw[ao,List.drop_length] at eq5;apply#[_,Z,k lf ys H5 s5 nf f5 ?_];rw[<- eq5];show bg K H5 ys ((done++[]).map kM);rw[g_];exact t5
end
variable{h:Str}
theorem LK{t:Str × Str}:x∈ym h t ↔ t=(h,x)∨t=(x,h):=by
 let#[a,b]:=t;unfold ym;rw[fQ];constructor
 ·rintro (m|m)
  ·split at m
   ·rename_i z
    have z:a=h:=z;exact .inl (by rw[jq.mp m,z])
   ·cases m
  ·split at m
   ·rename_i z
    have z:b=h:=z;exact .inr (by rw[jq.mp m,z])
   ·cases m
 ·rintro (e|e)
  ·let#[rfl,rfl]:=Prod.mk.inj e;exact .inl (by rw[aA Z];exact jq.mpr Z)
  ·let#[rfl,rfl]:=Prod.mk.inj e;exact .inr (by rw[aA Z];exact jq.mpr Z)
variable{ts:Xb}
theorem qa:x∈dj ts h ↔ (h,x)∈ts∨(x,h)∈ts:=by
 unfold dj;rw[List.mem_flatMap];constructor
 ·rintro⟨t,ht,m⟩;rcases LK.mp m with rfl|rfl
  ·exact .inl ht
  ·exact .inr ht
 ·rintro (m|m)
  ·exact#[_,m,LK.mpr (.inl Z)]
  ·exact#[_,m,LK.mpr (.inr Z)]
theorem Vo{h:Str}:∀{ts:Xb},(∀t∈ts,t.1≠t.2)->(ts.map kO).Nodup->(dj ts h).Nodup
 |[],_,_=>List.nodup_nil
 |t::ts,ne,nd=>by
  rw[eL,rQ] at nd;let ih:=Vo (h:=h) (λu hu=>ne u (dI _ hu)) nd.2;let nt:=ne t cZ;show (ym h t++dj ts h).Nodup;rw[List.nodup_append];apply#[?_,ih,λa ha b hb e=>?_]
  ·unfold ym;by_cases z1:t.1=h
   ·rw[aA z1,aq (λz=>nt (z1.trans z.symm)),g_];simp
   ·rw[aq z1,List.nil_append];split
    ·simp
    ·exact List.nodup_nil
  ·subst e;apply nd.1 ?_;rcases LK.mp ha with rfl|rfl<;>rcases qa.mp hb with m|m
   ·exact bj.mpr #[_,m,Z]
   ·exact bj.mpr #[_,m,P4 _ _]
   ·exact bj.mpr #[_,m,P4 _ _]
   ·exact bj.mpr #[_,m,Z]
variable{hs:Xa}
theorem U1(G:Good hs ts):x∈nb hs ts h ↔ x∈dj ts h:=by
 show x∈(aI hs).filter _ ↔ _;rw[rR,mC,Me,qa];constructor
 ·rintro⟨_,⟨a,b⟩,ht,e⟩;rcases OS (a:=a) (b:=b) (c:=h) (d:=x) (by show kT (aL a b)=kT (aL h x);rw[<- e]) with⟨rfl,rfl⟩|⟨rfl,rfl⟩
  ·exact .inl ht
  ·exact .inr ht
 ·rintro (m|m)
  ·exact#[(gn hs).mem_iff.mpr (G.qS _ m).2,_,m,Z]
  ·exact#[(gn hs).mem_iff.mpr (G.qS _ m).1,_,m,LZ _ _]
theorem LI(G:Good hs ts)(h:Str):aV (dj ts h)=nb hs ts h:=by
 apply (Zc ?_ ((Vz hs).filter _) (LX _)).symm;apply ((List.perm_ext_iff_of_nodup (G.r9.filter _) (Vo (λt ht=>(G.tok t ht).2.2) G.A3)).mpr λx=>?_).trans (gq _).symm;exact U1 G
variable{ps qs:aC}{f:ag}
theorem K3(W:Pw hs ts ps f)(Q:Qs ps qs)(n:Str):wJ ps f n=lo qs f n:=(kK_ f (Q.ws W.nd) n).symm
theorem Qj(W:Pw hs ts ps f)(Q:Qs ps qs)(a b:Str):ip hs ps f a b=lH hs qs f a b:=by
 unfold ip lH;rw[K3 W Q,K3 W Q]
theorem jA_(G:Good hs ts):0<Ed hs:=RK λn hn=>by
 let#[m,hm,rfl]:=bj.mp hn;have:=bP G hm;omega
theorem U_(G:Good hs ts)(h:n∈hs.map (·.1)):Ed hs / strOf hs n * strOf hs n=Ed hs:=by
 apply Int.ediv_mul_cancel (iZ_ (λm hm=>?_) (bj.mpr #[n,(gn hs).mem_iff.mpr h,Z]));let#[k,hk,rfl]:=bj.mp hm;have:=bP G hk;omega
theorem uT(a b:Int):a<b∨b<=a:=by omega
theorem Ii{ha hb sa sb A B M:Int}(hM:0<M)(hA:A * sa=M)(hB:B * sb=M)(sa0:0<sa)(sb0:0<sb):0<ha * sb - hb * sa ↔ hb * B<ha * A:=by
 have A0:0<A:=by
  rcases uT 0 A with h|h
  ·exact h
  ·have:=L4 h (xj sa0);omega
 have B0:0<B:=by
  rcases uT 0 B with h|h
  ·exact h
  ·have:=L4 h (xj sb0);omega
 have e:(ha * A - hb * B) * M=(ha * sb - hb * sa) * (A * B):=by
  have e1:ha * A * M=ha * sb * (A * B):=by rw[<- hB];simp only[Int.mul_assoc,Int.mul_comm,Int.mul_left_comm]
  have e2:hb * B * M=hb * sa * (A * B):=by rw[<- hA];simp only[Int.mul_assoc,Int.mul_comm,Int.mul_left_comm]
  rw[Int.sub_mul,Int.sub_mul,e1,e2]
 let AB:=Int.mul_pos A0 B0;constructor
 ·intro h;let h1:=Int.mul_pos h AB;rw[<- e] at h1;rcases uT 0 (ha * A - hb * B) with h2|h2
  ·omega
  ·have:=L4 h2 (xj hM);omega
 ·intro h;let h1:=Int.mul_pos (show 0<ha * A - hb * B by omega) hM;rw[e] at h1;rcases uT 0 (ha * sb - hb * sa) with h2|h2
  ·exact h2
  ·have:=L4 h2 (xj AB);omega
variable{b:Str}
theorem ku_(W:Pw hs ts ps f)(Q:Qs ps qs)(ha:a∈hs.map (·.1))(hb:b∈hs.map (·.1)):0<ip hs ps f a b ↔ se hs qs f b<se hs qs f a:=by
 let s1:=W.bP ha;let s2:=W.bP hb;unfold ip se;rw[K3 W Q,K3 W Q];exact Ii (jA_ W.Gd) (U_ W.Gd ha) (U_ W.Gd hb) Z1 Z1
theorem Og(x y:Int)(a b:Str):bE [.inl x,.inr a] [.inl y,.inr b]=if x=y then gR a b else decide (x<y):=by
 by_cases h:x=y
 ·subst h;rw[aA Z];show (if (Sum.inl x:Key)=Sum.inl x then (if (Sum.inr a:Key)=Sum.inr b then false else gR a b) else _)=_;rw[aA Z];by_cases z:a=b
  ·subst z;rw[aA Z,P7]
  ·rw[aq λe=>z (ij e)]
 ·rw[aq h];show (if (Sum.inl x:Key)=Sum.inl y then _ else jO (Sum.inl x) (Sum.inl y))=_;rw[aq λe=>h (Sum.inl.inj e)];rfl
theorem Le{x y:Int}(h:y<x∨(y<=x/\gR a b=false)):bE [.inl x,.inr a] [.inl y,.inr b]=false:=by
 rw[Og];by_cases z:x=y
 ·rw[aA z];rcases h with h|h
  ·omega
  ·exact h.2
 ·rw[aq z];exact dS Z1
theorem P6(W:Pw hs ts ps f)(Q:Qs ps qs):∀{l:ae} {a:Str},gI (a::l)->(∀x∈a::l,x∈hs.map (·.1))->∀x∈a::l,bE (kR hs qs f x) (kR hs qs f (bY hs ps f a l))=false
 |[],a,_,_,x,hx=>by
  rw[jq.mp hx];exact EI _
 |y::l,a,as,hV,x,hx=>by
  have e:bY hs ps f a (y::l)=bY hs ps f (if 0<ip hs ps f a y then y else a) l:=rfl;rw[e];have iu:(∀z∈y::l,gR z a=false)/\gI (y::l):=vY.mp as;have Td:(∀z∈l,gR z y=false)/\gI l:=vY.mp iu.2;let iff:=ku_ W Q (hV a cZ) (hV y Z2);by_cases c:0<ip hs ps f a y
  ·rw[aA c];let ih:=P6 W Q iu.2 λz hz=>hV z (dI _ hz);rcases bZ.mp hx with rfl|hx
   ·exact EF (ih y cZ) (Le (.inl (iff.mp c)))
   ·exact ih x hx
  ·rw[aq c]
   let ih:=P6 W Q (l:=l) (a:=a) (vY.mpr #[λz hz=>iu.1 z (dI _ hz),Td.2]) λz hz=>by
    rcases bZ.mp hz with rfl|hz
    ·exact hV _ cZ
    ·exact hV z (by simp[hz])
   rcases bZ.mp hx with rfl|hx
   ·exact ih x cZ
   ·rcases bZ.mp hx with rfl|hx
    ·apply EF (ih a cZ) (Le (.inr #[?_,iu.1 x cZ]));rcases uT (se hs qs f x) (se hs qs f a) with h|h
     ·exact absurd (iff.mpr h) c
     ·exact h
    ·exact ih x (dI _ hx)
theorem jT_(a:Str)(l:ae):bY hs ps f a (a::l)=bY hs ps f a l:=by
 have e:bY hs ps f a (a::l)=bY hs ps f (if 0<ip hs ps f a a then a else a) l:=rfl;rw[e];split<;>rfl
theorem YD(W:Pw hs ts ps f)(Q:Qs ps qs):∀(n:Nat) (l:ae),l.length=n->gI l->(∀x∈l,x∈hs.map (·.1))->(gA hs ps f n l).Perm l/\o_ ((gA hs ps f n l).map (kR hs qs f))
 |0,l,e,_,_=>by
  rw[zc.mp e];exact#[.refl _,.nil]
 |n+1,[],e,_,_=>by cases e
 |n+1,a::l,e,as,hV=>by
  let lm:=P1 (hs:=hs) (ps:=ps) (f:=f) (a:=a) (l:=l)
  have mn:∀x∈a::l,bE (kR hs qs f x) (kR hs qs f (bY hs ps f a (a::l)))=false:=by
   rw[jT_];exact P6 W Q as hV
  show (bY hs ps f a (a::l)::gA hs ps f n ((a::l).erase (bY hs ps f a (a::l)))).Perm (a::l)/\o_ ((bY hs ps f a (a::l)::gA hs ps f n ((a::l).erase (bY hs ps f a (a::l)))).map (kR hs qs f));generalize bY hs ps f a (a::l)=lo at lm mn ⊢;let ih:=YD W Q n ((a::l).erase lo) (by rw[List.length_erase_of_mem lm];exact Nat.succ.inj e) (as.sublist List.erase_sublist) λx hx=>hV x (EH hx);apply#[(ih.1.cons lo).trans (List.perm_cons_erase lm).symm,?_];rw[eL];apply vY.mpr #[λk hk=>?_,ih.2];let#[x,hx,rfl]:=bj.mp hk;exact mn x (EH (ih.1.mem_iff.mp hx))
theorem Vd(W:Pw hs ts ps f)(Q:Qs ps qs)(h:Str):fK hs ts ps f h=dN hs ts qs f h:=by
 let s:=YD W Q (aV (dj ts h)).length (aV (dj ts h)) Z (LX _) λx hx=>Pd W.Gd ((gq _).mem_iff.mp hx);let e:=LR ((s.1.map (kR hs qs f)).trans (by rw[LI W.Gd])) s.2;unfold fK dN;rw[<- e,cm];exact (List.map_id' _).symm
theorem US(Q:Qs ps qs)(h:n∈ps.map (·.1)):∃p∈ps,p.1=n/\yj p∈qs:=by
 have m:n∈qs.map (·.1):=by
  rw[Q.p_];exact (gq _).mem_iff.mpr h
 let#[q,hq,rfl]:=bj.mp m;let#[p,hp,e]:=Q.mem q hq;exact#[p,hp,by rw[e];rfl,by rw[<- e];exact hq]
theorem sQ(W:Pw hs ts ps f)(Q:Qs ps qs)(h:n∈ps.map (·.1)):eF qs n=eF ps n:=by
 let#[p,hp,rfl,hq]:=US Q h;rw[yK W.nd hp];exact yK (q:=yj p) (Q.nd W.nd) hq
theorem MD(W:Pw hs ts ps f)(Q:Qs ps qs)(h:n∈ps.map (·.1)):AZ qs n=(AZ ps n).map aD:=by
 let#[p,hp,rfl,hq]:=US Q h;rw[Hm W.nd hp];exact Hm (q:=yj p) (Q.nd W.nd) hq
theorem xH{ws:Xb}:aL a b∈aD ws ↔ (a,b)∈ws∨(b,a)∈ws:=by
 rw[Me];constructor
 ·rintro⟨⟨x,y⟩,ht,e⟩;rcases OS (a:=x) (b:=y) (c:=a) (d:=b) (by show kT (aL x y)=kT (aL a b);rw[<- e]) with⟨rfl,rfl⟩|⟨rfl,rfl⟩
  ·exact .inl ht
  ·exact .inr ht
 ·rintro (m|m)
  ·exact#[_,m,Z]
  ·exact#[_,m,LZ _ _]
theorem UZ(W:Pw hs ts ps f)(Q:Qs ps qs)(h:n∈ps.map (·.1))(ha:a∈hs.map (·.1))(hb:b∈hs.map (·.1)):fN ts ps n a b=jL hs ts qs n a b:=by
 unfold fN jL Cd;rw[Mr,cc ha,cc hb,Bool.true_and,Bool.true_and,MD W Q h,decide_eq_decide.mpr (U1 W.Gd)];congr 1;cases AZ ps n with
 |none=>rfl
 |some ws=>
  show (decide ((a,b)∈ws) || decide ((b,a)∈ws))=decide (aL a b∈aD ws);rw[Bool.eq_iff_iff,Bool.or_eq_true,mC,mC,mC];exact xH.symm
variable{gd:Str}
theorem U8(W:Pw hs ts ps f)(Q:Qs ps qs)(h:n∈ps.map (·.1))(ha:a∈hs.map (·.1))(hb:b∈hs.map (·.1)):jZ hs ts ps f gd gv a b n=(decide (f n=a)&&qf hs ts qs f gd gv a b n):=by
 unfold jZ qf ka;rw[UZ W Q h ha hb,Qj W Q,sQ W Q h,Int.mul_comm,Bool.and_comm (jL hs ts qs n a b)]
theorem Q5{R:Str->Bool}{k:Str->aM}{n:Str}:∀{l:ae},o_ (l.map k)->l.find? R=some n->∀m∈l,R m=true->bE (k m) (k n)=false
 |x::l,as,e,m,hm,r=>by
  rw[eL] at as;have iu:(∀z∈l.map k,bE z (k x)=false)/\o_ (l.map k):=vY.mp as;cases c:R x with
  |true=>
   rw[List.find?_cons_of_pos c] at e;cases e;rcases bZ.mp hm with rfl|hm
   ·exact EI _
   ·exact iu.1 _ (bj.mpr #[m,hm,Z])
  |false=>
   rw[List.find?_cons_of_neg (by rw[c];exact hE)] at e;rcases bZ.mp hm with rfl|hm
   ·rw[c] at r;cases r
   ·exact Q5 iu.2 e m hm r
theorem WG(qs:aC):o_ ((jg qs).map (kN qs)):=by
 unfold jg;rw[cm]
 have e:∀k∈aU ((qs.map (·.1)).map (kN qs)),(kN qs ∘ gP) k=id k:=λk hk=>by
  let#[n,_,rfl]:=bj.mp ((mK _).mem_iff.mp hk);rfl
 rw[rV e,List.map_id];exact Mn _
theorem vp:∀(l:ae) (a:Str),gI (a::l)->∃m,l.foldl (dZ ps) (some a)=some m/\m∈a::l/\∀x∈a::l,bE (kN ps x) (kN ps m)=false
 |[],a,_=>#[a,Z,cZ,λx hx=>by rw[jq.mp hx];exact EI _]
 |y::l,a,as=>by
  have iu:(∀z∈y::l,gR z a=false)/\gI (y::l):=vY.mp as;have Td:(∀z∈l,gR z y=false)/\gI l:=vY.mp iu.2;have e:(y::l).foldl (dZ ps) (some a)=l.foldl (dZ ps) (if eF ps a<eF ps y then some y else some a):=rfl;rw[e];by_cases c:eF ps a<eF ps y
  ·rw[aA c];let#[m,e,hm,mn]:=vp l y iu.2;apply#[m,e,dI _ hm,λx hx=>?_];rcases bZ.mp hx with rfl|hx
   ·exact EF (mn y cZ) (Le (.inl Z1))
   ·exact mn x hx
  ·rw[aq c];let#[m,e,hm,mn]:=vp l a (vY.mpr #[λz hz=>iu.1 z (dI _ hz),Td.2]);apply#[m,e,?_,λx hx=>?_]
   ·rcases bZ.mp hm with rfl|hm
    ·exact cZ
    ·simp[hm]
   ·rcases bZ.mp hx with rfl|hx
    ·exact mn x cZ
    ·rcases bZ.mp hx with rfl|hx
     ·exact EF (mn a cZ) (Le (.inr #[by omega,iu.1 x cZ]))
     ·exact mn x (dI _ hx)
theorem Qp(ps:aC)(S:ae):(S=[]/\rA ps S=none)∨∃m,rA ps S=some m/\m∈S/\∀x∈S,bE (kN ps x) (kN ps m)=false:=by
 let p:=gq S;let as:=LX S;unfold rA;generalize aV S=T at p as;cases T with
 |nil=>exact .inl #[List.nil_perm.mp p,Z]
 |cons a l=>
  let#[m,e,hm,mn]:=vp (ps:=ps) l a as;exact .inr #[m,e,p.mem_iff.mp hm,λx hx=>mn x (p.mem_iff.mpr hx)]
theorem PY(W:Pw hs ts ps f)(Q:Qs ps qs)(ha:a∈hs.map (·.1))(hb:b∈hs.map (·.1)):rH hs ts ps f gd gv a b=(bS qs f a).find? (qf hs ts qs f gd gv a b):=by
 have nm:∀{n:Str},n∈jg qs ↔ n∈ps.map (·.1):=λ{n}=>by
  rw[(C5 qs).mem_iff,Q.p_,(gq _).mem_iff]
 have kq:∀{n:Str},n∈ps.map (·.1)->kN qs n=kN ps n:=λ{n} h=>by
  unfold kN;rw[sQ W Q h]
 unfold rH bS;rw[List.find?_filter]
 have sm:∀n,n∈(ps.map (·.1)).filter (jZ hs ts ps f gd gv a b) ↔ n∈jg qs/\(decide (f n=a)&&qf hs ts qs f gd gv a b n)=true:=λn=>by
  rw[rR,nm];constructor
  ·rintro⟨h1,h2⟩;exact#[h1,by rw[<- U8 W Q h1 ha hb];exact h2]
  ·rintro⟨h1,h2⟩;exact#[h1,by rw[U8 W Q h1 ha hb];exact h2]
 rcases Qp ps ((ps.map (·.1)).filter (jZ hs ts ps f gd gv a b)) with⟨e,h⟩|⟨m,h,hm,mn⟩
 ·rw[h];symm;rw[AL];intro x hx r;have:=(sm x).mpr #[hx,by simpa using r];rw[e] at this;cases this
 ·rw[h];let#[m1,m2]:=(sm m).mp hm;cases e:(jg qs).find? λx=>decide ((decide (f x=a))=true/\qf hs ts qs f gd gv a b x=true) with
  |none=>
   have:=AL.mp e m m1;exact absurd (by simpa using m2) this
  |some n=>
   let n1:=List.mem_of_find?_eq_some e;let n2:=List.find?_some e;let nS:=(sm n).mpr #[n1,by simpa using n2];let h1:=mn n nS;let h2:=Q5 (WG qs) e m m1 (by simpa using m2);rw[kq (nm.mp m1),kq (nm.mp n1)] at h2;have:=Ij h1 h2;have:gP (kN ps n)=gP (kN ps m):=by rw[this]
   exact d8 some this.symm
theorem m4_(W:Pw hs ts ps f)(Q:Qs ps qs)(hh:h∈hs.map (·.1)):kU hs ts ps f "least" gd h=yX hs ts qs f gd h:=by
 have hV:∀x∈fK hs ts ps f h,x∈hs.map (·.1):=λx hx=>Qg W.Gd hx;unfold kU yX;rw[aA Z,<- Vd W Q];cases e:fK hs ts ps f h with
 |nil=>rfl
 |cons o l=>
  rw[e] at hV;show oS hs ts ps f gd h [] [o]=iz hs ts qs f gd [] h o;unfold iz;rw[<- PY W Q hh (hV o cZ)];cases eb:rH hs ts ps f gd [] h o with
  |none=>rw[Ml eb];rfl
  |some n=>rw[SD eb];rfl
theorem lm_{a b:Int}(h:jU gd a b=true)(hb:1<=b):0<a:=by
 unfold jU at h;split at h
 ·exact jB h
 ·split at h
  ·have:=jB h;omega
  ·have:=jB h;omega
theorem iv_(W:Pw hs ts ps f)(ha:a∈hs.map (·.1))(hb:b∈hs.map (·.1))(h:¬0<ip hs ps f a b):rH hs ts ps f gd gv a b=none:=by
 unfold rH
 have e:(ps.map (·.1)).filter (jZ hs ts ps f gd gv a b)=[]:=by
  rw[List.filter_eq_nil_iff];intro n hn r;unfold jZ at r;simp only[xx] at r;apply h (lm_ r.2.2.2 ?_);let h1:=W.wt hn;let h2:=W.bP ha;let h3:=W.bP hb;have:=Int.mul_le_mul (show (1:Int)<=strOf hs a+strOf hs b by omega) h1.1 (by decide) Z1;omega
 rw[e];rcases Qp ps [] with⟨_,e⟩|⟨m,_,hm,_⟩
 ·exact e
 ·cases hm
theorem PP(W:Pw hs ts ps f)(Q:Qs ps qs){gd h:Str}(hh:h∈hs.map (·.1)):∀(l:ae) (ms:fS),(∀x∈l,x∈hs.map (·.1))->qt hs ts qs f gd h ms l=ms++oS hs ts ps f gd h (ms.map (·.1)) l
 |[],ms,_=>by
  rw[qt,oS,g_]
 |o::l,ms,hV=>by
  let ho:=hV o cZ;have Gr:∀x∈l,x∈hs.map (·.1):=λx hx=>hV x (dI _ hx);rw[qt,<- Qj W Q];by_cases c:0<ip hs ps f h o
  ·rw[aA c,PP W Q hh l _ Gr];unfold iz;rw[<- PY W Q hh ho];cases eb:rH hs ts ps f gd (ms.map (·.1)) h o with
   |none=>
    rw[Ml eb];dsimp only;rw[g_]
   |some n=>
    rw[SD eb];dsimp only;rw[xr,cu];rfl
  ·rw[aq c,PP W Q hh l ms Gr,Ml (iv_ W hh ho c)]
theorem kG_(W:Pw hs ts ps f)(Q:Qs ps qs)(hh:h∈hs.map (·.1)):kU hs ts ps f "below" gd h=AA hs ts qs f gd h:=by
 unfold kU AA;rw[aq Z0,<- Vd W Q,PP W Q hh _ [] λx hx=>Qg W.Gd hx];rfl
end Ev
namespace L2
open PySem PySem.Spec PyProof.Rows PySem.Builtin PySem.Builtin.Str
inductive pV (x:V) (vs:ai) (H:Hp) (Q:VK):Prop
 |mk:∀(z y:Str) (c:Nat),x=.str z->vs=[.str y]->y=⟨(List.toArray [c])⟩->z.length<=50000->(∀l,H l=none->Q (.ref l) (upd H l (.lst ((Txt.split z y).map V.str))))->pV x vs H Q
variable{X:Cx}
theorem hV_:Dp X "str.split" pV:=by
 intro pins s σ H x vs v us Q I rx rv h;let#[z,y,c,rfl,rfl,ey,hz,q]:=h;let#[t,rfl]:=rx;let#[u,rfl,t2,rfl]:=rv.one;let sz:=b_;have hy:(y.length == 0)=false:=by rw[ey];rfl
 have hn:(partsBetween z (occurrences z y 0 z.length (z.length+1)) y.length).length<=60000:=by
  rw[length_partsBetween];have:=StrLaws.occ_length_le z y 0 z.length (z.length+1);omega
 let sl:=PyProof.Rows.split_le z y
 have fin:∀(l:List (Str × Tok)) (k:Nat),l.map (·.1)=Txt.split z y->EP X pins σ Q (.ref s.heap.objs.size) { s with toks:=k,heap:=s.heap.push { cls:=.type "list",data:=.seq (strValues l).toArray } }:=λl k e=>by
  let vl:=X6 l;rw[e] at vl;apply#[.ref s.heap.objs.size,_,I.laid (t':=k) (o:=.lst ((Txt.split z y).map V.str)) (λb ob q=>cU _ q) (bp _) ?_,Z,q _ (I.aN.fresh (bp _))];apply#[?_,_,0,vl,fG _ Z];rw[ao];omega
 cases hA:(decide (z.length<y.length) || decide (strKind z<strKind y)) with
 |true=>
  apply call_meets PySem.F.slot_str_split (typeIs_str _ _ _) PySem.F.entry_str_split (PySem.F.args_str_split_2 _ _) (meets_str_split_cannot_occur z y t t2 hA) ?_;exact fin [(z,t)] _ (by unfold Txt.split;rw[aA hA];rfl)
 |false=>
  cases hB:(occurrences z y 0 z.length (z.length+1)).isEmpty with
  |true=>
   apply call_meets PySem.F.slot_str_split (typeIs_str _ _ _) PySem.F.entry_str_split (PySem.F.args_str_split_2 _ _) (meets_str_split_not_found z y t t2 hA hy hB) ?_;exact fin [(z,t)] _ (by unfold Txt.split;rw[aq (by rw[hA];decide),aA hB];rfl)
  |false=>
   apply call_meets PySem.F.slot_str_split (typeIs_str _ _ _) PySem.F.entry_str_split (PySem.F.args_str_split_2 _ _) (meets_str_split_sep z y t t2 hA hy hB Z1 Z1) ?_;show wants _ _ _ { s with toks:=_,heap:=s.heap.push { cls:=.type "list",data:=.seq (strsFrom s.toks (partsBetween z (occurrences z y 0 z.length (z.length+1)) y.length)).toArray } };rw[strsFrom_eq];exact fin (numbered s.toks _) _ ((numbered_texts _ _).trans (by unfold Txt.split;rw[aq (by rw[hA];decide),aq (by rw[hB];decide)]))
end L2
namespace Ev
open PySem L2
variable{p:Addr}{fp:ay}
theorem g9.yG{K:af}{C:Addr}{H:Hp}{hs:Xa}{ts:Xb}(W:g9 K C H p hs ts fp){b:Addr}(hb:b∈fp):∃o,H b=some o/\∀vs,o≠.tbl vs:=by
 let#[dx,d1,l2,d3,zs,as,rfl,h1,h2,h3,h4,h5,h6,h7]:=W.ex;simp only[bZ] at hb;rcases hb with rfl|rfl|rfl|rfl|hb
 ·exact#[_,h1,by intro vs z;cases z]
 ·exact#[_,h2,by intro vs z;cases z]
 ·exact#[_,h3,by intro vs z;cases z]
 ·exact#[_,h5,by intro vs z;cases z]
 ·let#[i,hi,e]:=rT hb;exact#[_,h7 i ((aI hs)[i]' Z1) b (dG Z1) (by rw[<- e];exact dG hi),by intro vs z;cases z]
variable{CG CW g:Addr}
theorem iC.yG{K:af}{H:Hp}{hs:Xa}{ts:Xb}{qs:aC}(G:iC K CG CW H g p hs ts qs fp):∃Hv,iC K CG CW H g p hs ts qs Hv/\(∀b∈Hv,b∈fp)/\∀b∈Hv,∃o,H b=some o/\∀vs,o≠.tbl vs:=by
 let#[dx,dw,dy,vs,cK,h1,h2,h3,h4,h5,m1,m2,m3,m4,m5]:=G.ex;apply#[g::dw::dy::(cK++vs.filterMap λv=>match v with | .ref a=>some a|_=>none),#[dx,dw,dy,vs,cK,h1,h2,h3,h4,h5,by simp,by simp,by simp,λb hb=>by simp[hb],λv hv a z=>?_],λb hb=>?_,λb hb=>?_]
 ·have:a∈vs.filterMap λv=>match v with | .ref a=>some a|_=>none:=yZ.mpr #[v,hv,by rw[z]];simp only[bZ,fQ];exact .inr (.inr (.inr (.inr this)))
 ·simp only[bZ,fQ] at hb;rcases hb with rfl|rfl|rfl|hb|hb
  ·exact m1
  ·exact m2
  ·exact m3
  ·exact m4 b hb
  ·let#[v,hv,e]:=yZ.mp hb;cases v with
   |ref a=>cases e;exact m5 _ hv _ Z
   |_=>cases e
 ·simp only[bZ,fQ] at hb;rcases hb with rfl|rfl|rfl|hb|hb
  ·exact#[_,h1,by intro vs z;cases z]
  ·exact#[_,h3,by intro vs z;cases z]
  ·exact#[_,h4,by intro vs z;cases z]
  ·exact h2.yG hb
  ·let#[v,hv,e]:=yZ.mp hb;let#[i,hi,ev]:=rT hv;let le:=bK h5;let w:=iw h5 i hi Z1;rw[ev] at w;cases o:(qs[i]' Z1).2.2 with
   |none=>
    rw[o] at w;rw[show v=.non from w] at e;cases e
   |some ws=>
    rw[o] at w;let#[a,ys,ea,ha,_]:=w;rw[ea] at e;cases e;exact#[_,ha,by intro vs z;cases z]
variable{H':Hp}
theorem lM_{K:af}{H:Hp}{a:Addr}{xs:ai}(s:NT H H')(h:eG K H a xs):eG K H' a xs:=by
 rcases h with (h|⟨o,h⟩)|h
 ·exact .inl (.inl (s.lst h))
 ·exact .inl (.inr #[o,s _ _ h nofun])
 ·exact .inr h
variable{l:Addr}
theorem aX.same{H H1 H2:Hp}(b:aX l H1 H2)(n:H l=none)(s:aa H H1):aa H H2:=λc o e=>b c o (s c o e) (bq e n)
variable{G:Hp}
theorem Tb.same{H:Hp}{T1 T2:Addr}(t:Tb H T1 T2)(s:aa H G):Tb G T1 T2:=#[t.a.same s,t.b.same s,t.ne]
variable{ys:ai}
theorem Vu{K:af}{H:Hp}{ks:List aM}(t:bg K H ys ks)(s:NT H G):bg K G ys ks:=Paired.bx t λy k ⟨b,z,q⟩=>#[b,z,s.tup q]
theorem ms_{hs:Xa}{ts:Xb}(G:Good hs ts)(h:Str):(dj ts h).length<=8:=by
 let e:=d8 List.length (LI G h);rw[(gq _).length_eq] at e;have:=AE hs ts h;have:=G.fM;have:=G.h8;omega
theorem jC.mv{K:af}{H:Hp}{wa:Addr}{hs:Xa}{ts:Xb}{ps:aC}(W:jC K H wa hs ts ps)(b:aX l H G)(st:dJ H l):jC K G wa hs ts ps:=by
 let#[ds,dn,lt,dh,dy,ad,gy,W]:=W;let#[xs,hl]:=st.some;have kd:∀{c:Addr} {kvs:List (Key × V)},H c=some (.dK kvs)->G c=some (.dK kvs):=λe=>b _ _ e (cj e hl nofun);apply#[ds,dn,lt,dh,dy,ad,gy,kd W.top,kd W.sg,kd W.nr,λh hh=>b _ _ (W.ls h hh) λz=>?_,kd W.hv,kd W.wy,λq hq=>(W.wv q hq).mv b st,let #[zs,e,t]:=W.tl;#[zs,b _ _ e (XM t e st),vU t b hl]];let#[x,y,w,e]:=st;let e2:=W.ls h hh;rw[z,e] at e2;let e2:=HO.lst.inj (eK e2);cases c:dj ts h with
 |nil=>rw[c] at e2;cases e2
 |cons a t=>
  rw[c] at e2;have:=(mB e2).1;cases this
theorem xy.mv{K:af}{d:Addr}{H:Hp}{hs:Xa}{ts:Xb}{qs:aC}{ns:ae}{f:ag}(S:xy K CG CW H g p d hs ts qs fp ns f)(b:aX l H G)(st:dJ H l)(n:l∉fp)(dl:d≠l):xy K CG CW G g p d hs ts qs fp ns f:=by
 let#[xs,hl]:=st.some;have kb:∀c∈fp,∀o,H c=some o->G c=some o:=λc hc o e=>b c o e (λz=>n (z▸hc));apply#[S.G.keep kb λc zs e=>b _ _ e (cj e hl nofun),S.qo,b _ _ S.hd dl,S.so,λc hc=>?_];let#[o,e,q]:=S.has c hc;exact#[o,kb c hc o e,q]
theorem LQ{wt:Str->Int}{p q:Str->Bool}:∀{ns:ae} {l:Int},(∀n∈ns,p n=q n)->fj wt p l ns=fj wt q l ns
 |[],_,_=>rfl
 |n::ns,l,h=>by
  rw[fj,fj,h n cZ,LQ λm hm=>h m (dI _ hm),LQ λm hm=>h m (dI _ hm)]
theorem WJ{wt:Str->Int}{p:Str->Bool}{l:Int}:∀{ns:ae},(∀n∈ns,l<wt n)->fj wt p l ns=[]
 |[],_=>rfl
 |n::ns,h=>by
  have:=h n cZ;rw[fj,dS Z1,qA,aq (by decide)];exact WJ λm hm=>h m (dI _ hm)
theorem XN{wt:Str->Int}{p:Str->Bool}{l:Int}:∀{ns:ae},(∀n∈ns,p n=false)->fj wt p l ns=[]
 |[],_=>rfl
 |n::ns,h=>by
  rw[fj,h n cZ,rP,aq (by decide)];exact XN λm hm=>h m (dI _ hm)
theorem WU{wt:Str->Int}{tr:ae}{m:Str}(nt:tr.Nodup):∀{ns:ae} {l:Int},ns.Nodup->ns.find? (λn=>decide (n∈tr))=some m->
  fj wt (λn=>decide (n∈tr)) l ns=if wt m<=l then m::fj wt (λn=>decide (n∈tr.erase m)) (l - wt m) ns else fj wt (λn=>decide (n∈tr.erase m)) l ns
 |[],_,_,h=>by cases h
 |n::ns,l,nd,h=>by
  let#[n1,n2]:=rQ.mp nd;by_cases c:n∈tr
  ·rw[List.find?_cons_of_pos (by exact cc c)] at h;obtain rfl:=eK h;have ne:¬n∈tr.erase n:=λz=>(nt.mem_erase_iff.mp z).1 Z
   have cg:∀{l:Int},fj wt (λx=>decide (x∈tr)) l ns=fj wt (λx=>decide (x∈tr.erase n)) l ns:=LQ λx hx=>by
    have:x≠n:=λz=>n1 (z▸hx);exact decide_eq_decide.mpr (by rw[nt.mem_erase_iff];simp[this])
   rw[fj,fj,fj];simp only[cc c,dS ne,Bool.true_and,rP,mC,cg];simp
  ·rw[List.find?_cons_of_neg (by simpa using c)] at h;have ne:¬n∈tr.erase m:=λz=>c (EH z);rw[fj,fj,fj];simp only[dS c,dS ne,rP];simp only[zf,if_false];exact WU nt n2 h
variable{n:Str}
variable{tr:ae}
variable{gv:ae}
variable{m:Str}
variable{o:Str}
section
variable{hs:Xa}{ts:Xb}{ps qs:aC}{f:ag}
theorem Io(Q:Qs ps qs){h:Str}:n∈bS qs f h ↔ n∈ps.map (·.1)/\f n=h:=by
 unfold bS;rw[rR,(C5 qs).mem_iff,Q.p_,(gq _).mem_iff,mC]
theorem l8_(W:Pw hs ts ps f)(Q:Qs ps qs)(h:Str):(bS qs f h).Nodup:=by
 have e:(jg qs).Nodup:=(C5 qs).nodup_iff.mpr (by rw[Q.p_];exact (gq _).nodup_iff.mpr W.nd);exact e.sublist List.filter_sublist
theorem jC_(W:Pw hs ts ps f)(Q:Qs ps qs){h:Str}(ht:∀x∈tr,x∈bS qs f h):rA ps tr=(bS qs f h).find? λn=>decide (n∈tr):=by
 have kq:∀{n:Str},n∈ps.map (·.1)->kN qs n=kN ps n:=λ{n} h=>by
  unfold kN;rw[sQ W Q h]
 have asc:o_ ((bS qs f h).map (kN qs)):=List.Pairwise.sublist (List.filter_sublist.map _) (WG qs);rcases Qp ps tr with⟨e,z⟩|⟨m,z,hm,mn⟩
 ·rw[z,e];symm;rw[AL];intro x hx r;simp at r
 ·rw[z];let m1:=ht m hm;cases e:(bS qs f h).find? λn=>decide (n∈tr) with
  |none=>
   have:=AL.mp e m m1;simp[hm] at this
  |some n=>
   let n1:=List.mem_of_find?_eq_some e;let n2:=List.find?_some e;have nS:n∈tr:=jB n2;let h1:=mn n nS;let h2:=Q5 asc e m m1 (cc hm);rw[kq ((Io Q).mp m1).1,kq ((Io Q).mp n1).1] at h2;have:=Ij h1 h2;have:gP (kN ps n)=gP (kN ps m):=by rw[this]
   exact d8 some this.symm
def dE(ps:aC)(f:ag)(h:Str)(gv:ae):ae:=(ps.map (·.1)).filter λn=>decide (f n=h)&&!decide (n∈gv)
theorem QH{h:Str}:n∈dE ps f h gv ↔ n∈ps.map (·.1)/\f n=h/\n∉gv:=by
 unfold dE;rw[rR];simp
theorem gy_(W:Pw hs ts ps f){h:Str}:(dE ps f h gv).erase m=dE ps f h (gv++[m]):=by
 have nd:(dE ps f h gv).Nodup:=W.nd.sublist List.filter_sublist;rw[nd.erase_eq_filter];unfold dE;rw[List.filter_filter];apply List.filter_congr λx _=>?_;by_cases c:x=m<;>simp[c]
def ja(ts:Xb)(ps:aC)(f:ag)(h o:Str)(gv:ae):ae:=(dE ps f h gv).filter λn=>fN ts ps n h o
theorem lu_(W:Pw hs ts ps f){h:Str}:(ja ts ps f h o gv).Nodup:=(W.nd.sublist List.filter_sublist).sublist List.filter_sublist
def dO(hs:Xa)(ts:Xb)(ps:aC)(f:ag)(a b:Str):Int:=(if ip hs ps f a b > 0 then ip hs ps f a b else 0) / ((strOf hs a+strOf hs b) * (1+iq hs ts))
theorem gK_(W:Pw hs ts ps f)(Q:Qs ps qs){h:Str}(hh:h∈hs.map (·.1))(ho:o∈hs.map (·.1))(ms:fS)(l:ae) :
  oP hs ts qs f h ms (o::l)=oP hs ts qs f h (ms++(fj (eF qs) (λn=>decide (n∈ja ts ps f h o (ms.map (·.1)))) (dO hs ts ps f h o) (bS qs f h)).map (to3 h o)) l:=by
 have cg:∀{x:Int},fj (eF qs) (λn=>decide (n∈ja ts ps f h o (ms.map (·.1)))) x (bS qs f h)=fj (eF qs) (iH hs ts qs (ms.map (·.1)) h o) x (bS qs f h):=LQ λn hn=>by
  let nm:=(Io Q).mp hn;unfold iH ja;rw[<- UZ W Q nm.1 hh ho]
  have:n∈(dE ps f h (ms.map (·.1))).filter (λn=>fN ts ps n h o) ↔ (n∉ms.map (·.1)/\fN ts ps n h o=true):=by
   rw[rR,QH];exact#[λz=>#[z.1.2.2,z.2],λz=>#[#[nm.1,nm.2,z.1],z.2]]
  by_cases c:n∈ms.map (·.1)<;>cases d:fN ts ps n h o<;>simp[this,c,d]
 rw[oP];let de:=Qj W Q h o;by_cases c:0<lH hs qs f h o
 ·rw[aA c,cg];congr 2;unfold xP Ft nj dO ka;rw[de,aA c,Int.add_comm 1]
 ·rw[aq c]
  have z:dO hs ts ps f h o=0:=by
   unfold dO;rw[de,aq c,Int.zero_ediv]
  rw[z,WJ (λn hn=>?_),xk,g_];let nm:=((Io Q).mp hn).1;rw[sQ W Q nm];let#[q,hq,rfl]:=bj.mp nm;rw[yK W.nd hq];have:=(W.gp q hq).w1;omega
end
theorem Qu{hs:Xa}{ts:Xb}(G:Good hs ts)(n:Str):(dj ts n).length=(nb hs ts n).length:=by
 rw[<- LI G n,(gq _).length_eq]
theorem kO_{hs:Xa}{ts:Xb}(G:Good hs ts):0<=iq hs ts/\iq hs ts<=8:=by
 unfold iq;cases e:(fO hs ts).max? with
 |none=>exact#[by decide,by decide]
 |some m=>exact Wb G (List.max?_eq_some_iff.mp e).1
theorem lS_{hs:Xa}{ts:Xb}{ps:aC}{f:ag}(W:Pw hs ts ps f){h:Str}:(dE ps f h gv).Nodup:=W.nd.sublist List.filter_sublist
theorem UB{H:Hp}{Q:VK}(hl:H l=some (.lst (tr.map V.str)))(hm:m∈tr)(q:Q .non (upd H l (.lst ((tr.erase m).map V.str)))):RV (.ref l) [.str m] H Q:=by
 let#[j,j1,j2,j3]:=RB hm;apply#[l,_,_,j,Z,Z,hl,Z,?_,#[.str m,by rw[dW,j1];rfl,by rw[Lo];simp],λi y hi e=>?_,?_]
 ·rw[List.all_eq_true];intro v hv;let#[_,_,rfl]:=bj.mp hv;rfl
 ·rw[dW,Dj] at e;let#[x,hx,rfl]:=e;rw[Lo];simpa using j2 i x hi hx
 ·rw[S0,j3];exact q
variable{hs:Xa}{ts:Xb}
variable{H:Hp}{ps:aC}{f:ag}{h:Str}{dd lf lh lx:Addr}{ms:fS}
section
variable{P:Ae}{w:Af}{K:af}{mg:Str->Option Aa}{base:Heap}
abbrev bsN:ae:=[f_,i6,"_law_hand","_law_held_by","_law_many",rG,"_law_held_here",lG,"_law_both","_law_left","_law_tried",qu]
theorem vS:bD bsN Eb (bb RC):=bJ
inductive Rw (K:af) (vs:ai) (H:Hp) (Q:VK) (E:XK):Prop
 |mk:∀(wa sd:Addr) (h:Str) (hs:Xa) (ts:Xb) (ps qs:aC) (f:ag),vs=[.ref wa,.ref sd,.str h]->jC K H wa hs ts ps->Pw hs ts ps f->Qs ps qs->Wd hs ts qs f->H sd=some (.dK (bN (ps.map (·.1)) f))->h∈hs.map (·.1)->(∀l ys H',aa H H'->H l=none->H' l=some (.lst ys)->bg K H' ys ((Dc hs ts qs f h).map kM)->Q (.ref l) H')->Rw K vs H Q E
theorem j1_(G:Good hs ts){m:Int}(h1:m∈(hs.map (·.1)).map λn=>((dj ts n).length:Int))(h2:∀a∈(hs.map (·.1)).map λn=>((dj ts n).length:Int),a<=m):m=iq hs ts:=by
 have e:∀a:Int,a∈(hs.map (·.1)).map (λn=>((dj ts n).length:Int)) ↔ a∈fO hs ts:=λa=>by
  unfold fO;rw[bj,bj];constructor
  ·rintro⟨n,hn,rfl⟩;exact#[n,(gn hs).mem_iff.mpr hn,by rw[Qu G n]]
  ·rintro⟨n,hn,rfl⟩;exact#[n,(gn hs).mem_iff.mp hn,by rw[Qu G n]]
 exact Vr ((e m).mp h1) λa ha=>h2 a ((e a).mpr ha)
structure zg (K:af) (H:Hp) (hs:Xa) (ts:Xb) (ps:aC) (f:ag) (h:Str) (dd lx lf lh:Addr) (H':Hp) (ys:ai) (ms:fS):Prop where
 sm:aa H H'
 hd:H' dd=some (.dK (bH (hs.map (·.1)) λn=>.int (wJ ps f n)))
 hx:H' lx=some (.lst ((nb hs ts h).map V.str))
 hf:H' lf=some (.lst ys)
 ht:bg K H' ys (ms.map kM)
 hg:H' lh=some (.lst ((dE ps f h (ms.map (·.1))).map V.str))
theorem zg.same{K:af}(I:zg K H hs ts ps f h dd lx lf lh H' ys ms)(s:aa H' G):zg K H hs ts ps f h dd lx lf lh G ys ms:=#[I.sm.trans s,s _ _ I.hd,s _ _ I.hx,s _ _ I.hf,I.ht.same s,s _ _ I.hg]
theorem zg.put{K:af}{D:Addr}{o:HO}{zs:ai}(I:zg K H hs ts ps f h dd lx lf lh H' ys ms)(n:H D=none)(hD:H' D=some (.lst zs))(n1:dd≠D)(n2:lx≠D)(n3:lf≠D)(n4:lh≠D):zg K H hs ts ps f h dd lx lf lh (upd H' D o) ys ms:=#[gf I.sm n,(au n1).trans I.hd,(au n2).trans I.hx,(au n3).trans I.hf,i9 I.ht hD,(au n4).trans I.hg]
theorem gH_{f0:Addr}{fd:Ad}(F:bo K "_law_by_share" "_law_by_share" RC f0 fd)(B:Bi mg)(cD:!br 1 "_law_drop" lU (HJ K))(cH:!br 1 "_law_held" lR (HL K))(cM:!br 1 "_law_may" qN (K_ K))(cV:!br 1 "_law_heaviest" qL (pM K)) :
  aj P w K mg base aZ 2 f0 fd Eb (Rw K):=by
 apply F.bI vS λaR A outer s H vs Q E hr h=>?_
 ·let#[wa,sd,h,hs,ts,ps,qs,f,rfl,WA,Pp,Qq,Wq,iy,hh,k]:=h;let#[ds,dn,lt,dh,dy,ad,gy,W]:=id WA;let hu:=eU hr;let sz:=b_;refine' #[_,?r0,?kk]
  case' r0=>refine' ak ?s1 ?r1
  case' r1=>refine' ak ?s2 ?r2
  case' r2=>refine' ak ?s3 ?r3
  case' r3=>refine' ak ?s4 (ak ?s5 (aF ?s6))
  case s1=>exact aQ 3 vS.nd (aY cH hr %[0,1|0])
  case s2=>exact aQ 4 vS.nd (bF iV aE (cX (XQ Z) (by rfl) B.max Eh %[VC (i8 ["_law_some"] 1 [] (Vs (Yi (cn hu (pv 0) cq))) (λfp s H=>fw (i:=0) (show (["_law_some"]:ae).Nodup by decide +kernel) Z (Or.inl Z)) (λfp s H=>iY)
   (λfp s H=>cX (IC (K:=K)) (by rfl) B.len jk %[0|0]))|0]))
  case s3=>exact aQ 5 vS.nd (cO aJ)
  case' s4=>refine' Ex (Lm (i:=6) [qu,"_law_hand",i6] 1 [2,1] vS.nd Z (Or.inl Z) (Ls (pv 1)) (λfp s H=>fw (i:=0) (show ([qu,"_law_hand",i6]:ae).Nodup by decide +kernel) Z (Or.inl Z)) ?d3 (λfp s H=>pv 0))
  case d3=>exact λfp s H=>Qe (cz ik (cn hu (pv 2) (pv 0)) (pv 1))
  case' s5=>refine' eM dX Z (dF (cX SO (by rfl) B.sorted yU %[cn hu (cn hu (pv 0) cq) (pv 2)|0])) (bU 7 vS.nd) ?b0
  case' b0=>refine' ak ?b1 (ak ?b2 (ak ?b3 (aF ?b4)))
  case b1=>exact aQ 8 vS.nd (bF iV (cn hu (cn hu (pv 0) cq) (pv 2)) (cn hu (cn hu (pv 0) cq) (pv 7)))
  case b2=>exact aQ 9 vS.nd (bF vL (cX (Rm Z) (by rfl) B.max Eh %[aE,aY cD hr %[0,3,2,7|0]|0]) (bF ji (pv 8) (pv 4)))
  case' b3=>refine' Lm (i:=10) [qu,"_law_hand",lG,f_] 1 [2,7,0] vS.nd Z (Or.inl Z) (dF (pv 6)) (λfp s H=>fw (i:=0) (show ([qu,"_law_hand",lG,f_]:ae).Nodup by decide +kernel) Z (Or.inl Z)) ?e3 (λfp s H=>pv 0)
  case e3=>exact λfp s H=>Qe (gg (aY cM hr %[3,0,1,2|0]))
  case' b4=>refine' L6 dX (cz (L8 (oN hr 0)) (pv 10) (cO aJ)) (ak ?w1 (ak ?w2 (aF ?w3)))
  case w1=>exact aQ 11 vS.nd (aY cV hr %[0,10|0])
  case w2=>exact hZ (gX il PySem.F.slot_list_remove PySem.F.type_list_remove SU (pv 10) %[11|0])
  case' w3=>refine' bQ (cz wU (cn hu (cn hu (pv 0) cq) (pv 11)) (pv 9)) (ak ?x1 (ak ?x2 (aF ?x3))) bR
  case x1=>exact aQ 9 vS.nd (bF Hy (pv 9) (cn hu (cn hu (pv 0) cq) (pv 11)))
  case x2=>exact hZ (gX il PySem.F.slot_list_remove PySem.F.type_list_remove SU (pv 6) %[11|0])
  case x3=>exact hZ (gX il mE mF lN (pv 5) %[eW %[11,2,7|0]|0])
  case s6=>exact bh (pv 5)
  let qe:=Pp.Gd.qe;have h8:(hs.map (·.1)).length<=8:=by rw[ao];exact Pp.Gd.h8
  have mq:1<=(hs.map (·.1)).length:=by rw[ao];exact Pp.Gd.h1
  let ib:=Pp.ib;apply#[_,Z,_,Z,wa,sd,hs,ts,ps,f,Z,WA,Pp,iy,λdd H1 s1 NU e1=>?_];lk
  let JF:ck:=λσ H'=>σ=[some (.ref wa),some (.ref sd),some (.str h),some (.ref dd),some (.int (1+iq hs ts)),none,none,none,none,none,none,none]/\aa H1 H'
  apply dB JF ?m2 ?m1
  case m1=>
   intro N1 ie;let W1:=W.same s1;let nr:=W1.nr
   have at_:∀{i:Nat} {kk:Key} {x:V},(bH (hs.map (·.1)) λh=>V.ref (ad h))[i]? = some (kk,x)->∃n,(hs.map (·.1))[i]? = some n/\x=.ref (ad n):=λhx=>by
    let#[n,hn,_,rfl]:=AI hx;exact#[n,hn,Z]
   have lk:(bH (hs.map (·.1)) λh=>V.ref (ad h)).length=(hs.map (·.1)).length:=by rw[gh]
   let gN:=W1.gN;let ls:=W1.ls;generalize (bH (hs.map (·.1)) λh=>V.ref (ad h))=KV at nr at_ lk;apply#[dn,_,nr,_,Z,wa,_,Z,gN,dn,_,Z,nr,λv hv=>?_];have Np:aa H1 (upd H1 v (vO v dn)):=aa.new hv;apply#[v,dn,_,Z,az,Np _ _ nr,λo D hD=>?_]
   have vN:∀{b:Addr} {xs:ai},H1 b=some (.lst xs)->upd (upd H1 v (vO v dn)) dn (.frz o (.dK KV)) b=some (.lst xs):=λe=>by
    rw[au (cj e nr nofun)];exact Np _ _ e
   have Xk:upd (upd H1 v (vO v dn)) dn (.frz o (.dK KV)) dn=some (.frz o (.dK KV)):=az;have lL:((hs.map (·.1)).map λn=>((dj ts n).length:Int)).length=(hs.map (·.1)).length:=ao ..;let ml:=λm h1 h2=>j1_ (m:=m) Pp.Gd h1 h2;have gL:∀{i:Nat} {n:Str},(hs.map (·.1))[i]? = some n->((hs.map (·.1)).map λn=>((dj ts n).length:Int))[i]? = some ((dj ts n).length:Int):=λhn=>by rw[dW,hn];rfl
   generalize ((hs.map (·.1)).map λn=>((dj ts n).length:Int))=LL at lL ml gL;apply AN (own:=1) (fv:=[]) Z d_ (hs.map (·.1)).length (λi out H'=>aa (upd (upd H1 v (vO v dn)) dn (.frz o (.dK KV))) H'/\H' D=some (.lst out)/\out=(LL.take i).map V.int) #[aa.new hD,az,Z] (λout H' ⟨sm,eQ,eo⟩=>?_) (λi out H' hi ⟨sm,eQ,eo⟩=>?_)
   ·let hf:=sm _ _ Xk;have Dd:D≠dn:=cj eQ hf nofun;rw[<- lL,dP] at eo;apply#[#[hf,by omega],o,hf,D,LL,Z,.of (by rw[au Dd,eQ,eo]),by omega,λm hm hle=>#[_,_,Z,Z,?_]];rw[ml m hm hle];apply ie _ _ #[Z,λb u e=>?_];by_cases z:b=dn
    ·rw[z] at e ⊢;rw[nr] at e;rw[az];exact e
    ·rw[au z];exact sm _ _ (by rw[au z];exact Np _ _ e)
   ·let hf:=sm _ _ Xk;apply#[#[hf,by omega],λx H2 y=>?_];let#[eH,kk,hk]:=y;subst eH;let#[n,hn,rfl]:=at_ hk;let BP:=ls n (cw hn);apply#[_,Z,Z,λNx hN=>d9 ?_];apply#[_,Z,_,_,Z,.inl (.of (sm _ _ (vN BP))),out,eQ,?_,hN _ _ #[gf sm hD,az,?_]]
    ·rw[eo,ao,dg];omega
    ·rw[AQ _ (gL hn),eo,ao]
  rintro σ H2 ⟨rfl,gz⟩;let s2:=s1.trans gz;apply#[zl,λlf nf=>?_];lk;let#[jK,e3]:=aB (o:=.lst []) nf;generalize upd H2 lf (.lst [])=H3 at jK e3 ⊢;let s3:=s2.trans jK
  let JE:ck:=λσ H'=>∃lh:Addr,σ=[some (.ref wa),some (.ref sd),some (.str h),some (.ref dd),some (.int (1+iq hs ts)),some (.ref lf),some (.ref lh),none,none,none,none,none]/\aa H3 H'/\H3 lh=none/\H' lh=some (.lst ((dE ps f h []).map V.str))
  apply dB JE ?m4 ?m3
  case m3=>
   intro N1 ie;let k4:=s3 _ _ iy;apply#[sd,_,k4,?_];apply#[_,Z,sd,_,Z,k4,λo D hD=>?_]
   have zi:D≠sd:=by
    intro z;rw[z,az] at hD;cases hD
   have Cc:H3 D=none:=by rw[au zi] at hD;exact hD
   let JD:dY:=λi out H'=>Fz sd o (bN (ps.map (·.1)) f) H3 H'/\H' D=some (.lst out)/\out=(((ps.map (·.1)).take i).filter λn=>decide (f n=h)).map V.str
   apply Yy (own:=1) (fv:=[some (.str h),some (.ref sd)]) Z d_ JD #[Fz.start.put Cc zi,az,Z] (λi out H' _ ⟨z,_,_⟩=>z.at_) (λout H4 ⟨fz,rD,eo⟩=>?_) (λi ky x out H' hx ⟨fz,eQ,eo⟩=>?_)
   ·rw[gh,dP] at eo;lk;apply#[o,fz.at_,ie _ _ #[D,Z,fz.ko k4,Cc,?_]];rw[au zi,rD,eo];apply d8 (λx=>some (HO.lst (List.map V.str x))) (List.filter_congr λn _=>?_);simp
   ·let#[n,hn,rfl,rfl]:=AI hx;let nm:=cw hn;apply#[_,Z,Z,λNx hN=>?_];apply#[_,Z,_,Z,sd,.str (f n),Z,PU (mu_ fz) nm,_,Z,Z,_,Z,?_]
    have lo:out.length<=64:=by
     rw[eo,ao];have:=xt (λn=>decide (f n=h)) ((ps.map (·.1)).take i);rw[dg,ao] at this;omega
    apply aP (λc=>?_) (λc=>?_)
    ·have c:f n=h:=by simpa using c
     apply#[_,Z,out,eQ,by omega,hN _ _ #[fz.put Cc zi,az,?_]];rw[fB hn,ze,cu,eo];simp[c];rfl
    ·have c:¬f n=h:=by simpa using c
     apply hN out _ #[fz,eQ,?_];rw[fB hn,ze,cu,eo];simp[c]
  rintro σ H4 ⟨lh,rfl,eY,Dz,ic⟩;let s4:=s3.trans eY;let W4:=W.same s4
  have n8:(nb hs ts h).length<=8:=by
   have:=AE hs ts h;have:=Pp.Gd.fM;have:=Pp.Gd.h8;omega
  have wG:(dj ts h).length<64:=by
   rw[Qu Pp.Gd];omega
  apply#[_,Z,wa,_,Z,W4.gN,_,Z,dn,_,Z,gM W4.nr hh,ad h,dj ts h,Z,.of (W4.ls h hh),wG,λlx nx=>?_];rw[LI Pp.Gd h];let#[md,e5]:=aB (o:=.lst ((nb hs ts h).map V.str)) nx;generalize upd H4 lx (.lst ((nb hs ts h).map V.str))=H5 at md e5 ⊢;have rh:H lf=none:=s2.free nf;have NL:H lh=none:=s3.free Dz;have Ur:H lx=none:=s4.free nx;have Ge:lf≠lh:=bq e3 Dz;have Of:lf≠lx:=bq (eY _ _ e3) nx;have Od:lh≠lx:=bq ic nx;let vz:=gz _ _ e1;have Rv:dd≠lf:=bq vz nf;have Ru:dd≠lh:=bq (jK _ _ vz) Dz;have ddlx:dd≠lx:=bq (eY _ _ (jK _ _ vz)) nx;let d5:=md _ _ (eY _ _ (jK _ _ vz));let f5:=md _ _ (eY _ _ e3);let g5:=md _ _ ic;let s5:=s4.trans md;clear md eY gz jK vz e1 e3 ic nf Dz nx s2 s3 s4 W4 s1 NU
  let JC:bL:=λi σ H'=>∃(v7 v8 v9 v10 v11:aK) (ys:ai) (ms:fS),σ=[some (.ref wa),some (.ref sd),some (.str h),some (.ref dd),some (.int (1+iq hs ts)),some (.ref lf),some (.ref lh),v7,v8,v9,v10,v11]/\zg K H hs ts ps f h dd lx lf lh H' ys ms/\ms.length<=63 * i/\oP hs ts qs f h ms ((nb hs ts h).drop i)=Dc hs ts qs f h
  apply#[lx,Z,#[_,.of e5],gc (K:=K) (a:=lx) (xs:=(nb hs ts h).map V.str) JC #[none,none,none,none,none,[],[],Z,#[s5,d5,e5,f5,.nil,g5],bp _,Z] (λi σ H' _ ⟨_,_,_,_,_,_,_,_,z,_⟩=>.of z.hx) ?_ ?_]
  ·rintro i x σ H6 hx ⟨v7,v8,v9,v10,v11,ys,ms,rfl,I6,Gb,Ar⟩;let#[o,ho,rfl]:=iX hx;have hi:i<(nb hs ts h).length:=(cy.mp ho).1;have om:o∈hs.map (·.1):=(gn hs).mem_iff.mp (Ci (cw ho));rw[PX ho,gK_ Pp Qq hh om] at Ar;let W6:=W.same I6.sm;let ZD:=WA.nt (NT.of I6.sm);let e1:=Pp.bP hh;let e2:=Pp.bP om;have mo:0<=iq hs ts/\iq hs ts<=8:=kO_ Pp.Gd;have pp:0<(strOf hs h+strOf hs o) * (1+iq hs ts):=Int.mul_pos Z1 Z1
   have pl:(strOf hs h+strOf hs o) * (1+iq hs ts)<1073741824:=by
    have:=Int.mul_le_mul (show strOf hs h+strOf hs o<=2000 by omega) (show 1+iq hs ts<=9 by omega) Z1 (by decide);omega
   lk;apply#[_,Z,wa,_,Z,W6.gS,_,Z,ds,_,Z,gM W6.sg hh,_,Z,wa,_,Z,W6.gS,_,Z,ds,_,Z,gM W6.sg om,_,_,Z,Z,?_];lk;apply#[_,Z,_,Z,_,Z,_,Z,wa,dd,h,o,hs,ts,ps,f,Z,ZD,Pp,I6.hd,hh,om,_,_,Z,_,Z,_,Z,_,_,Z,Z,.inl #[by omega,by omega],_,_,Z,Z,#[pp,pl],?_];lk;have qi:∀{gv:ae} {n:Str},n∈dE ps f h gv->n∈ps.map (·.1):=λhn=>(QH.mp hn).1
   have hlen:∀gv:ae,(dE ps f h gv).length<=30:=λgv=>by
    have:=xt (λn=>decide (f n=h)&&!decide (n∈gv)) (ps.map (·.1));rw[ao] at this;show ((ps.map (·.1)).filter _).length<=30;omega
   apply#[_,Z,lh,Z,#[_,.of I6.hg],λD hD=>?_];apply mJ (own:=1) (fv:=[some (.str h),some (.str o),some (.ref wa)]) (xs:=(dE ps f h (ms.map (·.1))).map V.str) Z d_ (λj out H'=>aa H6 H'/\H' D=some (.lst out)/\out=(((dE ps f h (ms.map (·.1))).take j).filter λn=>fN ts ps n h o).map V.str) #[aa.new hD,az,Z] (λj out H' _ ⟨sm,_⟩=>.of (sm _ _ I6.hg)) (λout H7 ⟨Bv,D7,eo⟩=>?_) (λj x out H' hx ⟨sm,hd,eo⟩=>?_);rotate_left
   ·let#[n,hn,rfl]:=iX hx;let nm:=qi (cw hn)
    have lo:out.length<=30:=by
     rw[eo,ao];have:=xt (λn=>fN ts ps n h o) ((dE ps f h (ms.map (·.1))).take j);rw[dg] at this;have:=hlen (ms.map (·.1));omega
    apply#[_,Z,Z,λNx hN=>?_];apply#[_,Z,_,Z,_,Z,_,Z,wa,n,h,o,hs,ts,ps,f,Z,ZD.nt (NT.of sm),Pp,nm,hh,λH7 s7=>#[_,Z,?_]];apply aP (λc=>?_) (λc=>?_)
    ·apply#[_,Z,out,s7 _ _ hd,by omega,hN _ _ #[gf (sm.trans s7) hD,az,?_]];rw[fB hn,ze,cu,eo,List.filter_cons_of_pos (by exact c)];rfl
    ·apply hN out _ #[sm.trans s7,s7 _ _ hd,?_];rw[fB hn,ze,cu,eo,List.filter_cons_of_neg (by exact c),List.filter_nil,xk,g_]
   rw[ao,dP] at eo;subst eo;lk;let I7:=I6.same Bv;have hD0:H D=none:=I6.sm.free hD;let ZN:=bq I6.hf hD;let ZM:=bq I6.hg hD;let Dlx:=bq I6.hx hD;let Ddd:=bq I6.hd hD;clear Bv hD I6;change H7 D=some (.lst ((ja ts ps f h o (ms.map (·.1))).map V.str)) at D7;have qS:∀x∈ja ts ps f h o (ms.map (·.1)),x∈dE ps f h (ms.map (·.1)):=λx hx=>(rR.mp hx).1;let A3:=lu_ (o:=o) (h:=h) (gv:=ms.map (·.1)) Pp
   have t0:∀l:Int,(fj (eF qs) (λn=>decide (n∈ja ts ps f h o (ms.map (·.1)))) l (bS qs f h)).length<=63:=λl=>by
    let h1:=(Ic (eF qs) (λn=>decide (n∈ja ts ps f h o (ms.map (·.1)))) l (bS qs f h)).length_le;let h2:=Q3 Wq h;omega
   let t0:=t0 (dO hs ts ps f h o);have l0:dO hs ts ps f h o=(if ip hs ps f h o > 0 then ip hs ps f h o else 0) / ((strOf hs h+strOf hs o) * (1+iq hs ts)):=rfl
   have tl:(ja ts ps f h o (ms.map (·.1))).length<=30:=by
    let h1:=xt (λn=>fN ts ps n h o) (dE ps f h (ms.map (·.1)));let h2:=hlen (ms.map (·.1));show ((dE ps f h (ms.map (·.1))).filter _).length<=30;omega
   generalize ja ts ps f h o (ms.map (·.1))=TR at D7 qS A3 t0 Ar tl;rw[<- l0];generalize dO hs ts ps f h o=zV at t0 Ar;generalize eT:ms++(fj (eF qs) (λn=>decide (n∈TR)) zV (bS qs f h)).map (to3 h o)=zo at Ar
   have lt0:zo.length<=63 * (i+1):=by
    rw[<- eT,eA,ao];omega
   apply#[λm σ H'=>∃(v11:aK) (left:Int) (tr:ae) (ms:fS) (ys:ai),σ=[some (.ref wa),some (.ref sd),some (.str h),some (.ref dd),some (.int (1+iq hs ts)),some (.ref lf),some (.ref lh),some (.str o),some (.int (strOf hs h+strOf hs o)),some (.int left),some (.ref D),v11]/\zg K H hs ts ps f h dd lx lf lh H' ys ms/\H' D=some (.lst (tr.map V.str))/\m=tr.length/\tr.length<=30/\tr.Nodup/\(∀x∈tr,x∈dE ps f h (ms.map (·.1)))/\ms++(fj (eF qs) (λn=>decide (n∈tr)) left (bS qs f h)).map (to3 h o)=zo,#[_,v11,zV,TR,ms,ys,Z,I7,D7,Z,tl,A3,qS,eT],?_];clear I7 D7 tl A3 qS eT t0;rintro m σ H8 ⟨v11,left,tr,ms,ys,rfl,I8,D8,rfl,l30,NR,BK,Aq⟩;apply#[_,Z,zl,λle ne=>?_];let#[qY,e9]:=aB (o:=.lst []) ne;generalize upd H8 le (.lst [])=H9 at qY e9 ⊢;apply#[D,le,tr.map V.str,Z,Z,.of (qY _ _ D8),.of e9,_,Z,?_];let I9:=I8.same qY;let D9:=qY _ _ D8
   have Oa:ms.length<=63 * (i+1):=by
    have:=d8 List.length Aq;rw[eA] at this;omega
   clear I8 D8 qY e9 ne;apply aP (λc=>?_) (λc=>?_)
   ·apply#[λσ H'=>∃(v11:aK) (left:Int) (xJ:ae) (ms:fS) (ys:ai),xJ.length<tr.length/\σ=[some (.ref wa),some (.ref sd),some (.str h),some (.ref dd),some (.int (1+iq hs ts)),some (.ref lf),some (.ref lh),some (.str o),some (.int (strOf hs h+strOf hs o)),some (.int left),some (.ref D),v11]/\zg K H hs ts ps f h dd lx lf lh H' ys ms/\H' D=some (.lst (xJ.map V.str))/\xJ.length<=30/\xJ.Nodup/\(∀x∈xJ,x∈dE ps f h (ms.map (·.1)))/\ms++(fj (eF qs) (λn=>decide (n∈xJ)) left (bS qs f h)).map (to3 h o)=zo,λbw H' ⟨v11,left,xJ,ms,ys,lt,e,q1,q2,q3⟩=>#[xJ.length,lt,v11,left,xJ,ms,ys,e,q1,q2,Z,q3],?_];apply#[_,Z,_,Z,wa,D,tr,hs,ts,ps,Z,WA.nt (NT.of I9.sm),D9,λn hn=>qi (BK n hn),by omega,λHA Nl=>?_];lk;have inv:∀x∈tr,x∈bS qs f h:=λx hx=>(Io Qq).mpr #[qi (BK x hx),(QH.mp (BK x hx)).2.1];rw[jC_ Pp Qq inv];let IA:=I9.same Nl;let DA:=Nl _ _ D9;clear I9 D9 Nl;cases em:(bS qs f h).find? (λn=>decide (n∈tr)) with
    |none=>
     cases tr with
     |nil=>simp at c
     |cons a l=>
      have:=AL.mp em a (inv a cZ);simp at this
    |some m=>
     rw[show fL (some m)=V.str m from Z];let mt:=List.find?_some em;have mt:m∈tr:=jB mt;let mp:=qi (BK m mt);rw[WU NR (l8_ Pp Qq h) em] at Aq;apply#[_,Z,.inl #[Z,_,.of DA],_,Z,yl ?_];apply UB DA mt ?_;have eD:upd HA D (.lst ((tr.erase m).map V.str)) D=some (.lst ((tr.erase m).map V.str)):=az;let IB:=IA.put (o:=.lst ((tr.erase m).map V.str)) hD0 DA Ddd Dlx ZN ZM;have KJ:(tr.erase m).length=tr.length - 1:=List.length_erase_of_mem mt;have lp:0<tr.length:=List.length_pos_of_mem mt;let Ux:=NR.erase m;generalize upd HA D (.lst ((tr.erase m).map V.str))=HB at eD IB ⊢;dsimp only;let WB:=W.same IB.sm;let wm:=sQ Pp Qq mp;apply#[_,Z,wa,_,Z,WB.gH,_,Z,dh,_,Z,gM WB.hv mp,_,Z,_,_,Z,Z,_,Z,?_];apply aP (λc2=>?_) (λc2=>?_)
     ·have c2:eF ps m<=left:=by simpa using c2
      rw[aA (by rw[wm];exact c2),wm,eL,List.append_cons] at Aq;apply#[_,Z,_,Z,wa,_,Z,WB.gH,_,Z,dh,_,Z,gM WB.hv mp,_,_,Z,Z,?_];lk;apply#[_,Z,.inl #[Z,_,.of IB.hg],_,Z,yl ?_];apply UB IB.hg (BK m mt) ?_;have eg:(dE ps f h (ms.map (·.1))).erase m=dE ps f h ((ms++[to3 h o m]).map (·.1)):=by rw[gy_ Pp,cu];rfl
      rw[eg];generalize eh:dE ps f h ((ms++[to3 h o m]).map (·.1))=sk at eg ⊢;have eC:upd HB lh (.lst (sk.map V.str)) lh=some (.lst (sk.map V.str)):=az;have sC:aa H (upd HB lh (.lst (sk.map V.str))):=gf IB.sm NL;let dC:=(au (o:=.lst (sk.map V.str)) Ru).trans IB.hd;let xC:=(au (o:=.lst (sk.map V.str)) Od.symm).trans IB.hx;let fC:=(au (o:=.lst (sk.map V.str)) Ge).trans IB.hf;let DC:=(au (o:=.lst (sk.map V.str)) ZM.symm).trans eD;let tC:=i9 (o:=.lst (sk.map V.str)) IB.ht IB.hg;generalize upd HB lh (.lst (sk.map V.str))=HC at eC sC dC xC fC DC tC ⊢;dsimp only;apply#[_,Z,.inl #[Z,_,.of fC],_,Z,_,Z,_,Z,zl,λt nt=>?_];let#[zH,et]:=aB (o:=.tup [.str m,.str h,.str o]) nt;generalize upd HC t (.tup [.str m,.str h,.str o])=HE at zH et ⊢;let ly:=bK tC;rw[ao] at ly;let fE:=zH _ _ fC;apply#[lf,_,_,Z,Z,fE,by omega,?_];apply#[_,_,tr.erase m,ms++[to3 h o m],ys++[.ref t],by omega,Z,#[gf (sC.trans zH) rh,(au Rv).trans (zH _ _ dC),(au Of.symm).trans (zH _ _ xC),az,?_,?_],(au ZN.symm).trans (zH _ _ DC),by omega,Ux,λx hx=>?_,Aq]
      ·rw[cu];exact i9 (vT (tC.same zH) et) fE
      ·rw[au Ge.symm,zH _ _ eC,eh]
      ·let DG:=NR.mem_erase_iff.mp hx;rw[eh,<- eg];exact (lS_ Pp).mem_erase_iff.mpr #[DG.1,BK x DG.2]
     ·have c2:¬eF ps m<=left:=by simpa using c2
      rw[aq (by rw[wm];exact c2)] at Aq;exact#[_,left,tr.erase m,ms,ys,by omega,Z,IB,eD,by omega,Ux,λx hx=>BK x (EH hx),Aq]
   ·have z:tr=[]:=by
     cases tr with
     |nil=>rfl
     |cons a l=>simp at c
    subst z;rw[XN (λn _=>by simp),xk,g_] at Aq;subst Aq;exact#[_,_,_,_,_,ys,_,Z,I9,Oa,Ar]
  ·rintro σ H6 ⟨v7,v8,v9,v10,v11,ys,ms,rfl,I6,Gb,Ar⟩;rw[ao,List.drop_length] at Ar;apply#[_,Z,k lf ys H6 I6.sm rh I6.hf ?_];rw[<- Ar];exact I6.ht
end
end Ev
namespace L2
open PySem PySem.Spec PyProof.Rows PySem.W
variable{x y:Str}{t u:Tok}{prog:Ae}{w:Af}{A:Ag}{E:Aa->Ab->Prop}{s:Ab}
theorem kJ_{Q:Aa->Ab->Prop}(h:Q (.bool (decide (y.cps.toList<x.cps.toList))) s):wpAny (model prog w) A (richCompare .Gt (.str x t) (.str y u)) Q E s:=
 richCompare_gives (op:=.Gt) (typeIs_str s x t) (typeIs_str s y u) PySem.F.slot_str_gt PySem.F.entry_str_gt (PySem.F.args_str_gt_2 _ _) (gives_str_gt x y t u) (λe=>nomatch e) h
theorem lq_{Q:Aa->Ab->Prop}(h:Q (.bool (decide (x.cps.toList<y.cps.toList))) s):wpAny (model prog w) A (richCompare .Lt (.str x t) (.str y u)) Q E s:=
 richCompare_gives (op:=.Lt) (typeIs_str s x t) (typeIs_str s y u) PySem.F.slot_str_lt PySem.F.entry_str_lt (PySem.F.args_str_lt_2 _ _) (gives_str_lt x y t u) (λe=>nomatch e) h
def fW(x y:Str)(i:Nat):Str:=if i=0 then x else y
theorem Ez{i:Nat}{v:Aa}(h:((List.toArray [Value.str x t,.str y u]):Array Aa)[i]? = some v):∃tk,v=.str (fW x y i) tk:=by
 match i,h with
 |0,h=>exact#[t,by simpa [fW] using h.symm]
 |1,h=>exact#[u,by simpa [fW] using h.symm]
 |_+2,h=>simp at h
variable{p:Addr}{a b:Str}
theorem kU_{Q:Aa->Ab->Prop}(hh:A.handled=none)(hT:s.heap.IsTuple p (List.toArray [.str a t,.str b u]))(h:∀h' tk wB,(∀c o,s.heap.get? c=some o->h'.get? c=some o)->Q (.str (if a.cps.toList<b.cps.toList then b else a) wB) { s with heap:=h',toks:=tk }):wpAny (model prog w) A (call (.builtin "max") [.ref p]) Q E s:=by
 have pl:p<s.heap.objs.size:=by
  let#[o,ho,_]:=id hT;exact cQ ho
 apply call_max_walk (wpAny_pyIter_tuple hT #[_,[_,p],[_],_,_,_,λi j=>decide ((fW a b j).cps.toList<(fW a b i).cps.toList),Z,Walks.tuple (A:=A.in1) hh s.heap.objs.size p (eV pl) (List.toArray [.str a t,.str b u]),#[#[_,fG _ Z,Z,Z],hT.push _],λc hc=>?_,by simp,λi j vi vj s' Q' E' hi hj h'=>?_,λv h' tk hP hk=>?_])
 ·show c<(s.heap.push _).objs.size;rw[Heap.size_push];rcases bZ.mp hc with e1|hc
  ·rw[e1];exact Nat.lt_succ_self _
  ·rw[jq.mp hc];exact Nat.lt_succ_of_lt pl
 ·let#[_,rfl]:=Ez hi;let#[_,rfl]:=Ez hj;exact kJ_ h'
 ·have hold:∀c o,s.heap.get? c=some o->h'.get? c=some o:=λc o e=>by
   apply hk c o (λhm=>?_) (cU _ e);let q:=cQ e;rw[jq.mp hm] at q;exact vM _ q
  let#[wB,rfl]:=Ez hP
  have e:fW a b (argBest (λi j=>decide ((fW a b j).cps.toList<(fW a b i).cps.toList)) (((List.toArray [Value.str a t,.str b u]):Array Aa).size - 1))=if a.cps.toList<b.cps.toList then b else a:=by
   show fW a b (if decide (a.cps.toList<b.cps.toList)=true then 1 else 0)=_;by_cases c:a.cps.toList<b.cps.toList
   ·rw[aA (cc c),aA c];rfl
   ·rw[aq (by simpa using c),aq c];rfl
  rw[e];exact h h' tk wB hold
theorem kX_{Q:Aa->Ab->Prop}(hh:A.handled=none)(hT:s.heap.IsTuple p (List.toArray [.str a t,.str b u]))(h:∀h' tk wB,(∀c o,s.heap.get? c=some o->h'.get? c=some o)->Q (.str (if b.cps.toList<a.cps.toList then b else a) wB) { s with heap:=h',toks:=tk }):wpAny (model prog w) A (call (.builtin "min") [.ref p]) Q E s:=by
 have pl:p<s.heap.objs.size:=by
  let#[o,ho,_]:=id hT;exact cQ ho
 apply call_min_walk (wpAny_pyIter_tuple hT #[_,[_,p],[_],_,_,_,λi j=>decide ((fW a b i).cps.toList<(fW a b j).cps.toList),Z,Walks.tuple (A:=A.in1) hh s.heap.objs.size p (eV pl) (List.toArray [.str a t,.str b u]),#[#[_,fG _ Z,Z,Z],hT.push _],λc hc=>?_,by simp,λi j vi vj s' Q' E' hi hj h'=>?_,λv h' tk hP hk=>?_])
 ·show c<(s.heap.push _).objs.size;rw[Heap.size_push];rcases bZ.mp hc with e1|hc
  ·rw[e1];exact Nat.lt_succ_self _
  ·rw[jq.mp hc];exact Nat.lt_succ_of_lt pl
 ·let#[_,rfl]:=Ez hi;let#[_,rfl]:=Ez hj;exact lq_ h'
 ·have hold:∀c o,s.heap.get? c=some o->h'.get? c=some o:=λc o e=>by
   apply hk c o (λhm=>?_) (cU _ e);let q:=cQ e;rw[jq.mp hm] at q;exact vM _ q
  let#[wB,rfl]:=Ez hP
  have e:fW a b (argBest (λi j=>decide ((fW a b i).cps.toList<(fW a b j).cps.toList)) (((List.toArray [Value.str a t,.str b u]):Array Aa).size - 1))=if b.cps.toList<a.cps.toList then b else a:=by
   show fW a b (if decide (b.cps.toList<a.cps.toList)=true then 1 else 0)=_;by_cases c:b.cps.toList<a.cps.toList
   ·rw[aA (cc c),aA c];rfl
   ·rw[aq (by simpa using c),aq c];rfl
  rw[e];exact h h' tk wB hold
inductive oB (K:af) (xs:ai) (H:Hp) (Q:VK):Prop
 |mk:∀p a b,xs=[.ref p]->iZ K H p [.str a,.str b]->Q (.str (if a.cps.toList<b.cps.toList then b else a)) H->oB K xs H Q
inductive oA (K:af) (xs:ai) (H:Hp) (Q:VK):Prop
 |mk:∀p a b,xs=[.ref p]->iZ K H p [.str a,.str b]->Q (.str (if b.cps.toList<a.cps.toList then b else a)) H->oA K xs H Q
theorem XE{its:ax}(r:Vals [.str a,.str b] its):∃t u,its=[.str a t,.str b u]:=by
 cases r with
 |cons h r=>
  let#[t,rfl]:=h;cases r with
  |cons h r=>
   let#[u,rfl]:=h;cases r;exact#[t,u,Z]
variable{X:Cx}
theorem gE_(hc:X.calm=true):gY X (.builtin "max") (oB X.K):=by
 intro pins s σ H xs us Q I r h;let#[p,a,b,rfl,hp,q]:=h;let#[v,rfl,rv]:=vals1 r;cases rv;let#[its,r',hT,_]:=I.tuple hp;let#[t,u,rfl]:=XE r';exact kU_ (I.ok.hd hc) hT λh' tk wB k=>#[V.str _,H,I.kept k,#[_,Z],q]
theorem gG_(hc:X.calm=true):gY X (.builtin "min") (oA X.K):=by
 intro pins s σ H xs us Q I r h;let#[p,a,b,rfl,hp,q]:=h;let#[v,rfl,rv]:=vals1 r;cases rv;let#[its,r',hT,_]:=I.tuple hp;let#[t,u,rfl]:=XE r';exact kX_ (I.ok.hd hc) hT λh' tk wB k=>#[V.str _,H,I.kept k,#[_,Z],q]
end L2
namespace Ev
open PySem L2
variable{lr:Addr}
theorem iJ_{K:af}{H H':Hp}{ln a:Addr}{as:ay}{rs:List Xb}{t:Str × Str}(R:mG K H lr as rs)(fa:∀b∈as,b≠lr)(e1:H' lr=some (.lst (as.map V.ref++[.ref ln])))(e2:H' ln=some (.lst [.ref a]))(e3:H' a=some (.tup [.str t.1,.str t.2]))(k:∀b o,H b=some o->b≠lr->H' b=some o):mG K H' lr (as++[ln]) (rs++[[t]]):=by
 let la:=bK R.2;have kt:∀b xs,H b=some (.tup xs)->H' b=some (.tup xs):=λb xs e=>k b _ e (cj e R.1 nofun);apply#[by rw[cu];exact e1,YM (LS la λj h1 h2=>?_) #[_,e2,.cons #[a,Z,e3] .nil]];let#[zz,e,tt]:=iw R.2 j h1 h2;exact#[zz,k _ _ e (fa _ (js h1)),Paired.bx tt λy q ⟨c,z,e⟩=>#[c,z,kt _ _ e]]
theorem jg_(a b:Str):(if gR b a=true then b else a,if gR a b=true then b else a)=aL a b∨a=b:=by
 unfold aL;by_cases c:gR a b=true
 ·have n:¬gR b a=true:=λz=>by
   have:=X1 c;rw[z] at this;cases this
  rw[aA c,aA c,aq n];exact .inl Z
 ·by_cases d:gR b a=true
  ·rw[aA d,aq c,aq c];exact .inl Z
  ·exact .inr (Vw (by simpa using c) (by simpa using d))
variable{f0:Addr}{fd:Ad}
section
variable{P:Ae}{w:Af}{K:af}{mg:Str->Option Aa}{base:Heap}
abbrev rwN:ae:=[f_,"_law_rows_here",rK,lG,"_law_at"]
theorem Eu:bD rwN [f_] (bb nX):=bJ
inductive LO (K:af) (vs:ai) (H:Hp) (Q:VK) (E:XK):Prop
 |mk:∀(wa:Addr) (hs:Xa) (ts:Xb) (ps:aC),vs=[.ref wa]->jC K H wa hs ts ps->Good hs ts->(∀(l:Addr) (as:ay) (H':Hp),aa H H'->H l=none->(∀a∈as,H a=none)->mG K H' l as (turnsOf (aD ts))->Q (.ref l) H')->LO K vs H Q E
theorem js_(F:bo K "_law_rows" "_law_rows" nX f0 fd)(B:Bi mg):!aj aZ 1 f0 fd [f_] (LO K):=by
 apply F.bI Eu λaR A outer s H vs Q E hr h=>?_
 ·let#[wa,hs,ts,ps,rfl,#[ds,dn,lt,dh,dy,ad,gy,W],Gd,k]:=h;let hu:=eU hr;let sz:=b_;refine' #[_,ak ?s1 (ak ?s2 (aF ?s3)),?kk]
  case s1=>exact aQ 1 Eu.nd (cO aJ)
  case' s2=>refine' eM dX Z (dF (cX gz_ (by rfl) B.sorted yU %[?c0|0])) (jm Z (di (bU 2 Eu.nd) (di (bU 3 Eu.nd) iF))) ?b0
  case' c0=>refine' i8 ["_law_pair"] 1 [] (dF (cn hu (pv 0) cq)) (λfp s H=>fw (i:=0) (show (["_law_pair"]:ae).Nodup by decide +kernel) Z (Or.inl Z)) (λfp s H=>iY) ?c1
  case c1=>exact λfp s H=>eW %[cX (vF (K:=K) oA (gG_ Z)) (by rfl) B.min PyProof.Rows.Boot.«min» %[0|0],cX (vF (K:=K) oB (gE_ Z)) (by rfl) B.max Eh %[0|0]|0]
  case' b0=>refine' ak ?b1 (ak ?b2 (ak ?b3 (aF ?b4)))
  case b1=>exact aQ 4 Eu.nd aE
  case' b2=>refine' L6 dX (PW.pt (yQ ?w1 (CZ ?w2))) (aF ?w3)
  case w1=>exact cz KO (pv 4) (cX lM (by rfl) B.len jk %[1|0])
  case' w2=>refine' gg (cX (Xw Z) (by rfl) B.any PyProof.Rows.Boot.«any» %[?w4|0])
  case' w4=>refine' i8 ["_law_row",rK,lG] 1 [2,3] (dF (bO fV (pv 1) (pv 4))) (λfp s H=>fw (i:=0) (show (["_law_row",rK,lG]:ae).Nodup by decide +kernel) Z (Or.inl Z)) (λfp s H=>iY) ?w5
  case w5=>exact λfp s H=>DW (iG (FV (K:=K) (λK=>Dv K false) LY) (pv 1) (pv 0) (by with_unfolding_all rfl)) (oU (iG (FV (K:=K) (λK=>Dv K false) LY) (pv 2) (pv 0) (by with_unfolding_all rfl)))
  case w3=>exact aQ 4 Eu.nd (bF iV (pv 4) aE)
  case b3=>exact bQ (cz ik (pv 4) (cX lM (by rfl) B.len jk %[1|0])) (aF (hZ (gX il mE mF lN (pv 1) %[cO aJ|0]))) bR
  case b4=>exact hZ (gX il mE mF lN (bO fV (pv 1) (pv 4)) %[eW %[2,3|0]|0])
  case s3=>exact bh (pv 1)
  let#[zt,dz,tt]:=W.tl;let pE:=Gd.pE;let UI:=bK tt;rw[ao] at UI;apply#[zl,λlr nr=>?_];lk;let#[s1,e1]:=aB (o:=.lst []) nr;generalize upd H lr (.lst [])=H1 at s1 e1 ⊢;let W1:=W.same s1;have gT:cE H1 wa (.str "ties") (some (.ref lt)):=cE.k (k:=Sum.inr "ties") W1.top;apply#[_,Z,wa,_,Z,gT,lt,Z,#[_,.of (s1 _ _ dz)],λD hD=>?_]
  let Jr:dY:=λj out H'=>aa H1 H'/\H' D=some (.lst out)/\bg K H' out ((ts.take j).map λt=>kT (aL t.1 t.2))
  apply mJ (own:=1) (fv:=[]) (xs:=zt) Z d_ Jr #[aa.new hD,az,.nil] (λj out H' _ ⟨sm,_⟩=>.of (sm _ _ (s1 _ _ dz))) (λout H2 ⟨gz,d2,t2⟩=>?_) (λj x out H' hx ⟨sm,hd,to⟩=>?_);rotate_left
  ·let#[t,ht,a,rfl,ha]:=jr tt hx;have hj:j<ts.length:=(cy.mp ht).1;let ne:=(Gd.tok t (cw ht)).2.2;have Hl:H' a=some (.tup [.str t.1,.str t.2]):=sm _ _ (s1 _ _ ha);let lo:=bK to;rw[ao,dg] at lo;apply#[_,Z,Z,λNx hN=>d9 ?_];apply#[_,Z,a,t.1,t.2,Z,.of Hl,_,Z,a,t.1,t.2,Z,.of Hl,zl,λu nu=>?_]
   have po:((if t.2.cps.toList<t.1.cps.toList then t.2 else t.1),(if t.1.cps.toList<t.2.cps.toList then t.2 else t.1))=aL t.1 t.2:=by
    rcases jg_ t.1 t.2 with h|h
    ·rw[<- h];unfold gR;simp only[mC]
    ·exact absurd h ne
   let o1:=d8 Prod.fst po;let o2:=d8 Prod.snd po;dsimp only at o1 o2;rw[o1,o2];let#[s3,e3]:=aB (o:=.tup [.str (aL t.1 t.2).1,.str (aL t.1 t.2).2]) nu;generalize upd H' u (.tup [.str (aL t.1 t.2).1,.str (aL t.1 t.2).2])=H3 at s3 e3 ⊢;apply#[out,s3 _ _ hd,by omega,hN _ _ #[gf (sm.trans s3) hD,az,?_]];rw[show ts.take (j+1)=ts.take j++[t] by rw[iE,ht];rfl,cu];exact i9 (vT (to.same s3) e3) (s3 _ _ hd)
  rw[UI,dP] at t2;let Oi:=bK t2;rw[ao] at Oi
  apply#[D,out,_,[true,true],Z,.of d2,t2,#[by decide,λk hk=>by
   let#[t,_,rfl]:=bj.mp hk;rfl],by rw[ao];exact pE,λls zs NK tz pz=>?_]
  rw[<- IR] at tz;let#[Ku,e3]:=aB (o:=.lst zs) NK;let t3:=bg.same tz Ku;have sls:lr≠ls:=bq (gz _ _ e1) NK;let r3:=Ku _ _ (gz _ _ e1);let s3:=(s1.trans gz).trans Ku;generalize upd H2 ls (.lst zs)=H3 at s3 e3 t3 r3 ⊢;clear s1 gz Ku d2 t2 e1 hD tz NK;let lz:=bK t3;rw[ao] at lz;let yq:=C8 ts
  let Jq:bL:=λi σ H'=>∃(v2 v3 v4:aK) (as:ay),σ=[some (.ref wa),some (.ref lr),v2,v3,v4]/\aX lr H3 H'/\(∀a∈as,H3 a=none/\a≠lr)/\as.Nodup/\mG K H' lr as (turnsOf ((aD ts).take i))/\(turnsOf ((aD ts).take i)).length<=i/\∀r∈turnsOf ((aD ts).take i),r.length<=i
  apply#[ls,Z,#[_,.of e3],gc (K:=K) (a:=ls) (xs:=zs) Jq #[none,none,none,[],Z,aX.refl _ _,by simp,.nil,#[r3,.nil],bp _,by intro r hr;simp[turnsOf] at hr] (λi σ H' _ ⟨_,_,_,_,_,b,_⟩=>.of (b _ _ e3 sls.symm)) ?_ ?_]
  ·rintro i x σ H4 hx ⟨v2,v3,v4,as,rfl,b4,fa,nd,R,l1,l2⟩;let#[t,ht,a,rfl,ha]:=jr t3 hx;have hi:i<(aD ts).length:=(cy.mp ht).1;have Pt:H4 a=some (.tup [.str t.1,.str t.2]):=b4 _ _ ha (cj ha r3 nofun);let la:=bK R.2
   have wR:turnsOf ((aD ts).take (i+1))=hX (turnsOf ((aD ts).take i)) t:=by
    unfold turnsOf;rw[iE,ht,List.foldl_append];rfl
   generalize turnsOf ((aD ts).take i)=rs at R l1 l2 la wR;apply#[a,_,Z,.of Pt,Z,_,_,Z,_,_,Z,Z,?_];dsimp only;apply setG (i:=4) (v:=.int 0) ?_;dsimp only
   let Jp:ck:=λσ H'=>σ=[some (.ref wa),some (.ref lr),some (.str t.1),some (.str t.2),some (.int (dc rs t))]/\aa H4 H'
   apply dB Jp ?q2 ?q1
   case q1=>
    intro N1 ie;apply#[λm σ H'=>∃j:Nat,σ=[some (.ref wa),some (.ref lr),some (.str t.1),some (.str t.2),some (.int j)]/\aa H4 H'/\j<=rs.length/\m=rs.length - j/\∀r∈rs.take j,r.any (hit t)=true,#[_,0,Z,aa.refl _,gG _,Z,by simp],?_];rintro m σ H5 ⟨j,rfl,s5,jl,rfl,past⟩;let R5:=R.same s5;apply#[_,Z,_,Z,lr,_,Z,.inl (.of R5.1),_,_,Z,Z,_,Z,?_];rw[ao,la];apply aP (λc=>?_) (λc=>?_)
    ·have c:j<rs.length:=by simpa using c
     have V_:j<as.length:=by omega
     let#[zr,hz,tz]:=iw R5.2 j V_ c;let UJ:=bK tz;rw[ao] at UJ;let lr1:=l2 rs[j] (js c);have yY:gF (as.map V.ref) (j:Int)=some (.ref as[j]):=L2.iT (by rw[dW,dG V_];rfl);apply#[_,Z,_,Z,lr,_,_,_,Z,Z,.of R5.1,yY,as[j],Z,#[_,.of hz],λD hD=>?_]
     let Jo:dY:=λq out H'=>aa H5 H'/\H' D=some (.lst out)/\out=((rs[j].take q).map (hit t)).map V.bl
     apply mJ (own:=1) (fv:=[some (.str t.1),some (.str t.2)]) (xs:=zr) Z d_ Jo #[aa.new hD,az,Z] (λq out H' _ ⟨sm,_,_⟩=>.of (sm _ _ hz)) (λout H6 ⟨s6,PD,eo⟩=>?_) (λq y out H' hy ⟨sm,eQ,eo⟩=>?_)
     ·rw[UJ,dP] at eo;subst eo;apply#[D,rs[j].map (hit t),Z,.of PD,#[_,Z,?_]];have vy:(rs[j].map (hit t)).any id=rs[j].any (hit t):=by rw[List.any_map];rfl
      apply aP (λc2=>?_) (λc2=>?_)
      ·have c2:rs[j].any (hit t)=true:=by rw[<- vy];exact c2
       apply#[λσ H'=>∃j':Nat,rs.length - j'<rs.length - j/\σ=[some (.ref wa),some (.ref lr),some (.str t.1),some (.str t.2),some (.int j')]/\aa H4 H'/\j'<=rs.length/\∀r∈rs.take j',r.any (hit t)=true,λbw H' ⟨j',q0,q1,q2,q3,q4⟩=>#[_,q0,j',q1,q2,q3,Z,q4],?_];apply#[_,Z,_,_,Z,Z,?_];lk;apply#[j+1,by omega,Z,s5.trans s6,c,λr hr=>?_];rw[iE,dG c] at hr;rcases fQ.mp hr with hr|hr
       ·exact past r hr
       ·obtain rfl:r=rs[j]:=by simpa using hr
        exact c2
      ·have c2:rs[j].any (hit t)=false:=by
        rw[<- vy];simpa using c2
       have e:dc rs t=j:=by
        unfold dc;rw[List.findIdx_eq c];apply#[by rw[c2];rfl,λj' hj=>?_];have:=past (rs[j']' Z1) (List.mem_iff_getElem?.mpr #[j',by rw[List.getElem?_take_of_lt hj,dG Z1]]);rw[this];rfl
       exact ie _ _ #[by rw[e],s5.trans s6]
     ·let#[u,VR,b,rfl,hb]:=jr tz hy;have vv:H' b=some (.tup [.str u.1,.str u.2]):=sm _ _ hb
      have lo:out.length<sizeLine:=by
       rw[eo,ao,ao,dg];omega
      apply#[_,Z,Z,λNx hN=>d9 ?_];have nx:Nx (upd H' D (.lst (out++[.bl (hit t u)]))):=hN _ _ #[gf sm hD,az,by rw[AQ _ VR,cu,eo];rfl];apply#[_,Z,_,Z,b,_,Z,.inr (.of vv),Z,Z,_,Z,?_];apply aP (λc=>?_) (λc=>?_)
      ·have c:(decide (u.1=t.1) || decide (u.2=t.1))=true:=by rw[<- Eg];exact c
       apply#[out,eQ,lo,?_];rwa [show hit t u=true by unfold hit;rw[c];rfl] at nx
      ·have c:(decide (u.1=t.1) || decide (u.2=t.1))=false:=by
        rw[<- Eg];simpa using c
       apply#[_,Z,_,Z,b,_,Z,.inr (.of vv),Z,Z,out,eQ,lo,?_];rw[show hit t u=DF (.str t.2) [.str u.1,.str u.2] by unfold hit;rw[c,Eg];rfl] at nx;exact nx
    ·have c:j=rs.length:=by
      have:¬j<rs.length:=by simpa using c
      omega
     have e:dc rs t=j:=by
      unfold dc;rw[c,List.findIdx_eq_length];intro r hr;rw[c,dP] at past;rw[past r hr];rfl
     exact ie _ _ #[by rw[e],s5]
   rintro σ H5 ⟨rfl,s5⟩;let R5:=R.same s5;have b5:aX lr H3 H5:=b4.trans (aX.of s5);let rle:=Xf rs t
   have fin:∀(H6:Hp) (iu:ay),aX lr H3 H6->(∀a∈iu,H3 a=none/\a≠lr)->iu.Nodup->mG K H6 lr iu (hX rs t)->∃(v2 v3 v4:aK) (as:ay),[some (V.ref wa),some (V.ref lr),some (V.str t.1),some (V.str t.2),some (V.int (dc rs t))]=[some (V.ref wa),some (V.ref lr),v2,v3,v4]/\aX lr H3 H6/\(∀a∈as,H3 a=none/\a≠lr)/\as.Nodup/\mG K H6 lr as (turnsOf ((aD ts).take (i+1)))/\(turnsOf ((aD ts).take (i+1))).length<=i+1/\∀r∈turnsOf ((aD ts).take (i+1)),r.length<=i+1:=λH6 iu b f n r=>by
    rw[wR];exact#[_,_,_,iu,Z,b,f,n,r,by have:=Mj rs t;omega,Mq l2]
   apply#[_,Z,_,Z,lr,_,Z,.inl (.of R5.1),Z,_,Z,?_];apply aP (λc=>?_) (λc=>?_)
   ·have c:dc rs t=rs.length:=by
     have:V.int (dc rs t)=V.int ((as.map V.ref).length:Nat):=by simpa using c
     rw[ao,la] at this;have:=V.int.inj this;omega
    apply#[_,Z,.inl #[Z,_,.of R5.1],zl,λln qh=>?_];let#[qZ,e6]:=aB (o:=.lst []) qh;generalize upd H5 ln (.lst [])=H6 at qZ e6 ⊢;have r_:ln≠lr:=(bq R5.1 qh).symm;apply#[lr,_,_,Z,Z,qZ _ _ R5.1,by rw[ao];omega,?_]
    have P3:H3 ln=none:=by
     cases z:H3 ln with
     |none=>rfl
     |some o=>
      have:=b5 _ _ z r_;rw[qh] at this;cases this
    have NM:ln∉as:=λm=>by
     let#[j,hj,e]:=rT m;let#[zz,e2,_]:=iw R5.2 j hj Z1;rw[e,qh] at e2;cases e2
    have yY:gF (as.map V.ref++[V.ref ln]) (dc rs t:Int)=some (.ref ln):=L2.iT (by rw[c,AR (by rw[ao];omega),ao,la,Nat.sub_self];rfl);have e7:upd H6 lr (.lst (as.map V.ref++[.ref ln])) lr=some (.lst (as.map V.ref++[.ref ln])):=az;have n7:upd H6 lr (.lst (as.map V.ref++[.ref ln])) ln=some (.lst []):=(au r_).trans e6;have k7:∀{b o},H5 b=some o->b≠lr->upd H6 lr (.lst (as.map V.ref++[.ref ln])) b=some o:=λe ne=>(au ne).trans (qZ _ _ e);generalize upd H6 lr (.lst (as.map V.ref++[.ref ln]))=H7 at e7 n7 k7 ⊢;dsimp only;apply#[_,Z,_,Z,lr,_,_,_,Z,Z,.of e7,yY,.inl #[Z,_,.of n7],_,Z,_,Z,zl,λu nu=>?_];let#[j6,e8]:=aB (o:=.tup [.str t.1,.str t.2]) nu;generalize upd H7 u (.tup [.str t.1,.str t.2])=H8 at j6 e8 ⊢;let n8:=j6 _ _ n7;apply#[ln,_,_,Z,Z,n8,by show 0<sizeLine;decide,?_];have _y:u≠ln:=λz=>by rw[z,n7] at nu;cases nu
    have k9:∀b o,H5 b=some o->b≠lr->upd H8 ln (.lst ([]++[.ref u])) b=some o:=λb o e ne=>(au (bq e qh)).trans (j6 _ _ (k7 e ne));apply fin _ (as++[ln]) (λb o e ne=>k9 b o (b5 _ _ e ne) ne) (λx hx=>?_) ?_ ?_
    ·rcases fQ.mp hx with m|m
     ·exact fa x m
     ·obtain rfl:x=ln:=by simpa using m
      exact#[P3,r_]
    ·rw[List.nodup_append]
     exact#[nd,by simp,λx hx z hz=>by
      obtain rfl:z=ln:=by simpa using hz
      exact λq=>NM (q▸hx)]
    ·have ep:hX rs t=rs++[[t]]:=by
      unfold hX;rw[dif_neg Z1]
     rw[ep];exact iJ_ R5 (λb hb=>(fa b hb).2) ((au r_.symm).trans (j6 _ _ e7)) az ((au _y).trans e8) k9
   ·have c:dc rs t<rs.length:=by
     have:¬dc rs t=rs.length:=λe=>c (by
      rw[ao,la,e];simp)
     omega
    have si:dc rs t<as.length:=by omega
    have nl:as[dc rs t]≠lr:=(fa _ (js si)).2;let#[zz,ez,E1]:=iw R5.2 (dc rs t) si c;let N7:=bK E1;rw[ao] at N7;let N9:=l2 _ (js c);have yY:gF (as.map V.ref) (dc rs t:Int)=some (.ref as[dc rs t]):=L2.iT (by rw[dW,dG si];rfl);apply#[_,Z,_,Z,lr,_,_,_,Z,Z,.of R5.1,yY,.inl #[Z,_,.of ez],_,Z,_,Z,zl,λu nu=>?_];let#[qZ,e6]:=aB (o:=.tup [.str t.1,.str t.2]) nu;generalize upd H5 u (.tup [.str t.1,.str t.2])=H6 at qZ e6 ⊢;let X0:=qZ _ _ ez;apply#[_,_,_,Z,Z,X0,by omega,?_];have k7:∀{b o},H5 b=some o->b≠as[dc rs t]->upd H6 as[dc rs t] (.lst (zz++[.ref u])) b=some o:=λe ne=>(au ne).trans (qZ _ _ e);have h7:upd H6 as[dc rs t] (.lst (zz++[.ref u])) as[dc rs t]=some (.lst (zz++[.ref u])):=az;have u7:upd H6 as[dc rs t] (.lst (zz++[.ref u])) u=some (.tup [.str t.1,.str t.2]):=(au (cj e6 X0 nofun)).trans e6;generalize upd H6 as[dc rs t] (.lst (zz++[.ref u]))=H7 at k7 h7 u7 ⊢;have kt:∀b xs,H5 b=some (.tup xs)->H7 b=some (.tup xs):=λb xs e=>k7 e (cj e ez nofun);apply fin _ as (λb o e ne=>k7 (b5 _ _ e ne) (bq e (fa _ (js si)).1)) fa nd ?_
    have ep:hX rs t=rs.set (dc rs t) (rs[dc rs t]++[t]):=by
     unfold hX;rw[dif_pos c]
    rw[ep];apply R5.add nd c (dG si) (k7 R5.1 nl.symm) h7 ?_ (λb o e _ ne=>k7 e ne) (λb hb=>(fa b hb).2) kt;rw[cu];exact vT (Paired.bx E1 λy q ⟨c,z,e⟩=>#[c,z,kt _ _ e]) u7
  ·rintro σ H4 ⟨v2,v3,v4,as,rfl,b4,fa,nd,R,_,_⟩;rw[lz,dP] at R;have s4:aa H H4:=λb o e=>b4 _ _ (s3 _ _ e) (bq e nr);exact#[_,Z,k lr as H4 s4 nr (λa ha=>s3.free (fa a ha).1) R]
end
variable{as:ay}
theorem l3_{K:af}{H:Hp}{le:Addr}{ts:Xb}{m:Int}(R:mG K H lr as (turnsOf (aD ts)))(he:H le=some (.lst [])):∃ar zs,gF (as.map V.ref++[V.ref le]) (m % (if ((as.map V.ref).length:Int) > 1 then ((as.map V.ref).length:Int) else 1))=some (.ref ar)/\H ar=some (.lst zs)/\bg K H zs ((gE ts m).map kT)/\(ar∈as∨ar=le):=by
 let la:=bK R.2;rw[ao];by_cases c:as.length=0
 ·have z:turnsOf (aD ts)=[]:=zc.mp Z1;have z2:as=[]:=zc.mp c;subst z2;rw[aq Z2,Int.emod_one];apply#[le,[],Z,he,?_,.inr Z];unfold gE;rw[z];exact .nil
 ·have e:(if ((as.length:Nat):Int) > 1 then ((as.length:Nat):Int) else 1)=((turnsOf (aD ts)).length:Int):=by
   by_cases d:((as.length:Nat):Int) > 1
   ·rw[aA d,la]
   ·rw[aq d];omega
  rw[e];let h0:=yW m (show (((turnsOf (aD ts)).length:Nat):Int)≠0 by omega);let h1:=AM m (show 0<(((turnsOf (aD ts)).length:Nat):Int) by omega);have lt:(m % ((turnsOf (aD ts)).length:Int)).toNat<as.length:=by omega
  have lt':(m % ((turnsOf (aD ts)).length:Int)).toNat<(turnsOf (aD ts)).length:=by omega
  let#[zs,hz,tz]:=iw R.2 _ lt lt'
  have er:gE ts m=(turnsOf (aD ts))[(m % ((turnsOf (aD ts)).length:Int)).toNat]:=by
   unfold gE;rw[dG lt'];rfl
  apply#[_,zs,?_,hz,by rw[er];exact tz,.inl (js lt)];rw[iT h0 (by rw[eA,ao];show _<((as.length+1:Nat):Int);omega),Dh (by rw[ao];exact lt),dW,dG lt];rfl
section
variable{P:Ae}{w:Af}{K:af}{mg:Str->Option Aa}{base:Heap}
abbrev byN:ae:=[f_,i6,"_law_moment","_law_guard","_law_rows_here",rG,rK,lG,"_law_pair",qu]
theorem Df:bD byN wg (bb Qm):=bJ
inductive RQ (K:af) (vs:ai) (H:Hp) (Q:VK) (E:XK):Prop
 |mk:∀(wa sd:Addr) (m:Int) (gd:Str) (hs:Xa) (ts:Xb) (ps qs:aC) (f:ag),vs=[.ref wa,.ref sd,.int m,.str gd]->jC K H wa hs ts ps->Pw hs ts ps f->Qs ps qs->H sd=some (.dK (bN (ps.map (·.1)) f))->gd∈(lO:ae)->(∀l ys H',aa H H'->H l=none->H' l=some (.lst ys)->bg K H' ys ((Et hs ts qs f gd m).map kM)->Q (.ref l) H')->RQ K vs H Q E
theorem lp_{hs:Xa}{ts:Xb}{ps qs:aC}{f:ag}(W:Pw hs ts ps f)(Q:Qs ps qs){gd a b:Str}(ha:a∈hs.map (·.1))(hb:b∈hs.map (·.1)):iz hs ts qs f gd [] a b=match rH hs ts ps f gd [] a b with
  |some n=>[(n,a,b)]
  |none=>[]:=by
 rw[PY W Q ha hb];rfl
theorem gZ_(F:bo K "_law_by_turn" "_law_by_turn" Qm f0 fd)(B:Bi mg)(cR:!br 1 "_law_rows" [f_] (LO K))(cB:!br 2 "_law_best" qO (Ld K)):!aj aZ 3 f0 fd wg (RQ K):=by
 apply F.bI Df λaR A outer s H vs Q E hr h=>?_
 ·let#[wa,sd,m,gd,hs,ts,ps,qs,f,rfl,WA,Pp,Qq,iy,B6,k]:=h;let sz:=b_;refine' #[_,ak ?s1 (ak ?s2 (ak ?s3 (aF ?s4))),?kk]
  case s1=>exact aQ 4 Df.nd (aY cR hr %[0|0])
  case s2=>exact aQ 5 Df.nd (cO aJ)
  case' s3=>refine' eM dX Z (dF (bO fV ?x1 ?x2)) (jm Z (di (bU 6 Df.nd) (di (bU 7 Df.nd) iF))) (aF ?b0)
  case x1=>exact bF CD (pv 4) (cO %[cO aJ|0])
  case x2=>exact bF vP (pv 2) (cX (Rm Z) (by rfl) B.max Eh %[aE,cX lM (by rfl) B.len jk %[4|0]|0])
  case' b0=>refine' eM dX Z (dF (cO %[eW %[6,7|0],eW %[7,6|0]|0])) (bU 8 Df.nd) (ak ?b1 (aF ?b2))
  case b1=>exact aQ 9 Df.nd (aY cB hr %[0,1,8,3,cO aJ|0])
  case b2=>exact bQ (cz WE (pv 9) CK) (aF (hZ (gX il mE mF lN (pv 5) %[eW %[9,bO eO (pv 8) aE,bO eO (pv 8) aE|0]|0]))) bR
  case s4=>exact bh (pv 5)
  apply#[_,Z,wa,hs,ts,ps,Z,WA,Pp.Gd,λlr as H1 s1 r_ _ R=>?_];lk;apply#[zl,λlf nf=>?_];lk;let#[gz,e2]:=aB (o:=.lst []) nf;generalize upd H1 lf (.lst [])=H2 at gz e2 ⊢;let s2:=s1.trans gz;have rh:H lf=none:=s1.free nf;apply#[_,Z,zl,λle ne=>?_];let#[jK,e3]:=aB (o:=.lst []) ne;generalize upd H2 le (.lst [])=H3 at jK e3 ⊢;apply#[zl,λlo no=>?_];let#[eY,e4]:=aB (o:=.lst [.ref le]) no;generalize upd H3 lo (.lst [.ref le])=H4 at eY e4 ⊢;let R4:=((R.same gz).same jK).same eY;let la:=bK R4.2;let tl:=Rj (aD ts) [];rw[C8] at tl;let pE:=Pp.Gd.pE
  have lr64:(turnsOf (aD ts)).length<64:=by
   show ((aD ts).foldl hX []).length<64;rw[sL] at tl;omega
  apply#[lr,lo,_,_,Z,Z,R4.1,e4,by rw[ao];show as.length+1<=_;omega,λlc nc=>?_];let#[md,e5]:=aB (o:=.lst (as.map V.ref++[.ref le])) nc;generalize upd H4 lc (.lst (as.map V.ref++[.ref le]))=H5 at md e5 ⊢;let uG:=(jK.trans eY).trans md;let R5:=R4.same md;let s5:=s2.trans uG;let f5:=uG _ _ e2;let#[ar,zs,Zz,hz,tz,wI]:=l3_ (m:=m) R5 ((eY.trans md) _ _ e3)
  have arf:lf≠ar:=by
   rcases wI with h|h
   ·let#[j,hj,e]:=rT h;let#[zz,YB,_]:=iw R.2 j hj Z1;rw[e] at YB;exact (bq YB nf).symm
   ·rw[h];exact bq e2 ne
  have mp:0<(if ((as.map V.ref).length:Int) > 1 then ((as.map V.ref).length:Int) else 1):=by split<;>omega
  apply#[_,Z,_,Z,lr,_,Z,.inl (.of R5.1),_,_,Z,_,_,Z,Z,mp,lc,_,_,_,Z,Z,.of e5,Zz,ar,Z,#[_,.of hz],?_];let lz:=bK tz;rw[ao] at lz;let r64:=YL Pp.Gd m;have Nt:∀u∈gE ts m,u.1∈hs.map (·.1)/\u.2∈hs.map (·.1):=λu hu=>#[(gn hs).mem_iff.mp (L7 Pp.Gd (Mo hu)).1,(gn hs).mem_iff.mp (L7 Pp.Gd (Mo hu)).2];clear e5 Zz R R4 R5 e3 e4 gz jK eY md uG wI e2;apply gc (K:=K) (a:=ar) (xs:=zs) (λi σ H'=>∃(v6 v7 v8 v9:aK) (ys:ai),σ=[some (.ref wa),some (.ref sd),some (.int m),some (.str gd),some (.ref lr),some (.ref lf),v6,v7,v8,v9]/\aa H H'/\aX lf H5 H'/\H' lf=some (.lst ys)/\bg K H' ys ((((gE ts m).take i).flatMap (vE hs ts qs f gd)).map kM)) #[none,none,none,none,[],Z,s5,aX.refl _ _,f5,.nil] (λi σ H' _ ⟨_,_,_,_,_,_,_,b,_⟩=>.of (b _ _ hz arf.symm)) ?_ ?_
  ·rintro i x σ H6 hx ⟨v6,v7,v8,v9,ys,rfl,s6,b6,f6,t6⟩;let#[u,hu,a,rfl,ha]:=jr tz hx;have hi:i<(gE ts m).length:=(cy.mp hu).1;let#[n1,n2]:=Nt u (cw hu);have Hk:H6 a=some (.tup [.str u.1,.str u.2]):=b6 _ _ ha (cj ha f5 nofun);apply#[a,_,Z,.of Hk,Z,_,_,Z,_,_,Z,Z,?_];dsimp only;let ly:=bK t6;rw[ao] at ly;let bl:=Rc (YZ hs ts qs f gd) ((gE ts m).take i);rw[dg] at bl;apply#[_,Z,_,Z,zl,λt1 m1=>?_];let#[Bv,e7]:=aB (o:=.tup [.str u.1,.str u.2]) m1;generalize upd H6 t1 (.tup [.str u.1,.str u.2])=H7 at Bv e7 ⊢;apply#[_,Z,_,Z,zl,λt2 m2=>?_];let#[j6,e8]:=aB (o:=.tup [.str u.2,.str u.1]) m2;generalize upd H7 t2 (.tup [.str u.2,.str u.1])=H8 at j6 e8 ⊢;apply#[zl,λlp np=>?_];let#[qY,e9]:=aB (o:=.lst [.ref t1,.ref t2]) np;generalize upd H8 lp (.lst [.ref t1,.ref t2])=H9 at qY e9 ⊢;let FE:=(Bv.trans j6).trans qY;let s9:=s6.trans FE;let f9:=FE _ _ f6;let t9:=t6.same FE;let a9:=(j6.trans qY) _ _ e7;let c9:=qY _ _ e8;have lpf:lp≠lf:=λz=>by rw[z,(Bv.trans j6) _ _ f6] at np;cases np
   have b9:aX lf H5 H9:=λb o e n=>FE _ _ (b6 _ _ e n);clear Bv j6 qY FE e7 e8 f6 t6;apply#[lp,Z,#[_,.of e9],gc (K:=K) (a:=lp) (xs:=[.ref t1,.ref t2]) (λj σ H'=>∃(v8 v9:aK) (ys:ai),σ=[some (.ref wa),some (.ref sd),some (.int m),some (.str gd),some (.ref lr),some (.ref lf),some (.str u.1),some (.str u.2),v8,v9]/\aa H H'/\aX lf H9 H'/\H' lf=some (.lst ys)/\bg K H' ys ((((gE ts m).take i).flatMap (vE hs ts qs f gd)++(([(u.1,u.2),(u.2,u.1)]:Xb).take j).flatMap λp=>iz hs ts qs f gd [] p.1 p.2).map kM)/\ys.length<=128+j) #[_,_,ys,Z,s9,aX.refl _ _,f9,by simpa using t9,by omega] (λj σ H' _ ⟨_,_,_,_,_,b,_⟩=>.of (b _ _ e9 lpf)) ?_ ?_]
   ·rintro j x σ HA hx ⟨v8,v9,ys,rfl,sA,bA,fA,tA,lA⟩
    obtain⟨p,tp,rfl,hp,VS,pj⟩:∃(p:Str × Str) (tp:Addr),x=.ref tp/\(p.1∈hs.map (·.1)/\p.2∈hs.map (·.1))/\H9 tp=some (.tup [.str p.1,.str p.2])/\([(u.1,u.2),(u.2,u.1)]:Xb)[j]? = some p:=by
     match j,hx with
     |0,hx=>exact#[(u.1,u.2),t1,(eK hx).symm,#[n1,n2],a9,Z]
     |1,hx=>exact#[(u.2,u.1),t2,(eK hx).symm,#[n2,n1],c9,Z]
     |_+2,hx=>cases hx
    have Wa:j<2:=(cy.mp pj).1;let VX:=bA _ _ VS (cj VS f9 nofun)
    have st:(([(u.1,u.2),(u.2,u.1)]:Xb).take (j+1)).flatMap (λp=>iz hs ts qs f gd [] p.1 p.2)=(([(u.1,u.2),(u.2,u.1)]:Xb).take j).flatMap (λp=>iz hs ts qs f gd [] p.1 p.2)++iz hs ts qs f gd [] p.1 p.2:=by
     rw[iE,pj,Option.toList_some,AS,xq,List.flatMap_nil,g_]
    rw[st,<- xr];let bm:=lp_ Pp Qq (gd:=gd) hp.1 hp.2;lk;apply#[_,Z,_,Z,_,Z,_,Z,zl,λlg ng=>?_];let#[Kr,eB]:=aB (o:=.lst []) ng;generalize upd HA lg (.lst [])=HB at Kr eB ⊢;let sB:=sA.trans Kr;apply#[wa,sd,tp,lg,p.1,p.2,gd,[],hs,ts,ps,f,Z,WA.nt (NT.of sB),Pp,sB _ _ iy,Kr _ _ VX,hp.1,hp.2,B6,eB,λHC sBC=>?_];lk;let Dt:=Kr.trans sBC;let fC:=Dt _ _ fA;let tC:=tA.same Dt;have bC:aX lf H9 HC:=λb o e n=>Dt _ _ (bA _ _ e n);apply#[_,Z,Z,_,Z,?_];cases eb:rH hs ts ps f gd [] p.1 p.2 with
    |none=>
     rw[eb] at bm;dsimp only at bm;apply aP (λc=>by simp[fL] at c) (λc=>?_);rw[bm,g_];exact#[_,_,ys,Z,sA.trans Dt,bC,fC,tC,by omega]
    |some n=>
     rw[eb] at bm;dsimp only at bm;apply aP (λc=>?_) (λc=>by simp[fL] at c);rw[bm,show fL (some n)=V.str n from Z];have VW:HC tp=some (.tup [.str p.1,.str p.2]):=Dt _ _ VX;apply#[_,Z,.inl #[Z,_,.of fC],_,Z,_,Z,tp,_,0,.str p.1,Z,Z,.of VW,L2.iT (j:=0) Z,_,Z,tp,_,1,.str p.2,Z,Z,.of VW,L2.iT (j:=1) Z,zl,λt nt=>?_];let#[FC,eD]:=aB (o:=.tup [.str n,.str p.1,.str p.2]) nt;generalize upd HC t (.tup [.str n,.str p.1,.str p.2])=HD at FC eD ⊢;let fD:=FC _ _ fC;apply#[lf,_,_,Z,Z,fD,by omega,?_];apply#[_,_,ys++[.ref t],Z,gf (sA.trans (Dt.trans FC)) rh,λb o e n=>(au n).trans (FC _ _ (bC _ _ e n)),az,?_,by rw[eA];show ys.length+1<=_;omega];rw[cu];exact i9 (vT (tC.same FC) eD) fD
   ·rintro σ HA ⟨v8,v9,ys,rfl,sA,bA,fA,tA,lA⟩;apply#[_,_,_,_,ys,Z,sA,λb o e n=>bA _ _ (b9 _ _ e n) n,fA,?_]
    have e:((gE ts m).take (i+1)).flatMap (vE hs ts qs f gd)=((gE ts m).take i).flatMap (vE hs ts qs f gd)++(([(u.1,u.2),(u.2,u.1)]:Xb).take 2).flatMap λp=>iz hs ts qs f gd [] p.1 p.2:=by
     rw[iE,hu,Option.toList_some,AS];simp[vE]
    rw[e];exact tA
  ·rintro σ H6 ⟨v6,v7,v8,v9,ys,rfl,s6,b6,f6,t6⟩;rw[lz,dP] at t6;exact#[_,Z,k lf ys H6 s6 rh f6 t6]
end
def wQ:ae:=lO
def rZ(i:Nat):ae:=(["shares one","shares all"]:ae)++(wQ.take i).flatMap λg=>[("turns ":Str)++g,("least one ":Str)++g,("least all ":Str)++g,("below one ":Str)++g,("below all ":Str)++g]
theorem mn_:∀x∈rZ 3,∃r∈rl,r.1=x:=by decide +kernel
theorem l4_:(rZ 3).length=17:=by decide +kernel
theorem m8_:∀g∈wQ,g.length<=10:=by decide +kernel
theorem kx_:("turns ":Str).length<=20/\("least one ":Str).length<=20/\("least all ":Str).length<=20/\("below one ":Str).length<=20/\("below all ":Str).length<=20:=by decide +kernel
theorem lP_(i:Nat)(h:i<=3):(rZ i).length<=17:=by
 have:i=0∨i=1∨i=2∨i=3:=by omega
 rcases this with rfl|rfl|rfl|rfl<;>decide +kernel
section
variable{P:Ae}{w:Af}{K:af}{mg:Str->Option Aa}{base:Heap}
theorem II:bD [rG,"_law_guard"] [] (bb QF):=bJ
def Xn:Sp:=λvs H Q _=>vs=[]/\∀l H',aa H H'->H l=none->H' l=some (.lst ((rZ 3).map V.str))->Q (.ref l) H'
theorem h6_(F:bo K "_law_rules" "_law_rules" QF f0 fd):!aj aZ 1 f0 fd [] Xn:=by
 apply F.bI II λaR A outer s H vs Q E hr h=>?_
 ·let#[rfl,k]:=h;let sz:=b_;refine' #[_,ak ?s1 (ak ?s2 (aF (bh (pv 0)))),?kk]
  case s1=>exact aQ 0 II.nd (cO %[cq,cq|0])
  case' s2=>refine' eM dX Z (dF (cO %[cq,cq,cq|0])) (bU 1 II.nd) (ak ?b1 (aF ?b2))
  case b1=>exact aQ 0 II.nd (bF CD (pv 0) (cO %[bF AK cq (pv 1),bF AK cq (pv 1),bF AK cq (pv 1)|0]))
  case b2=>exact aQ 0 II.nd (bF CD (pv 0) (cO %[bF AK cq (pv 1),bF AK cq (pv 1)|0]))
  apply#[zl,λl0 n0=>?_];let#[s0,e0]:=aB (o:=.lst [.str "shares one",.str "shares all"]) n0;generalize upd H l0 (.lst [.str "shares one",.str "shares all"])=H0 at s0 e0 ⊢;lk;apply#[zl,λlg ng=>?_];let#[s1,e1]:=aB (o:=.lst [.str "high",.str "fall",.str "calm"]) ng;generalize upd H0 lg (.lst [.str "high",.str "fall",.str "calm"])=H1 at s1 e1 ⊢;have e1:H1 lg=some (.lst (wQ.map V.str)):=e1;let Kx:=s0.trans s1;let n0':=n0
  let Jh:bL:=λi σ H'=>∃(l:Addr) (v1:aK),σ=[some (.ref l),v1]/\aa H H'/\aa H1 H'/\H l=none/\H' l=some (.lst ((rZ i).map V.str))
  apply#[lg,Z,#[_,.of e1],gc (K:=K) (a:=lg) (xs:=wQ.map V.str) Jh #[l0,none,Z,Kx,aa.refl _,n0,s1 _ _ e0] (λi σ H' _ ⟨_,_,_,_,z,_⟩=>.of (z _ _ e1)) ?_ ?_]
  ·rintro i x σ H2 hx ⟨l,v1,rfl,s2,gz,nl,e2⟩;let#[g,hg,rfl]:=iX hx;have hi:i<3:=(cy.mp hg).1;let gl:=m8_ g (cw hg);let pl:=kx_;let rl':=lP_ i Z1;lk;apply#[_,Z,_,Z,_,_,Z,Z,by omega,_,Z,_,_,Z,Z,by omega,_,Z,_,_,Z,Z,by omega,zl,λa na=>?_];let#[s3,e3]:=aB (o:=.lst [.str (("turns ":Str)++g),.str (("least one ":Str)++g),.str (("least all ":Str)++g)]) na;generalize upd H2 a (.lst [.str (("turns ":Str)++g),.str (("least one ":Str)++g),.str (("least all ":Str)++g)])=H3 at s3 e3 ⊢;apply#[l,a,_,_,Z,Z,s3 _ _ e2,e3,by rw[ao];show _+3<=sizeLine;omega,λb nb=>?_];let#[s4,e4]:=aB (o:=.lst ((rZ i).map V.str++[.str (("turns ":Str)++g),.str (("least one ":Str)++g),.str (("least all ":Str)++g)])) nb;generalize upd H3 b (.lst ((rZ i).map V.str++[.str (("turns ":Str)++g),.str (("least one ":Str)++g),.str (("least all ":Str)++g)]))=H4 at s4 e4 ⊢;lk;apply#[_,Z,_,Z,_,_,Z,Z,by omega,_,Z,_,_,Z,Z,by omega,zl,λc nc=>?_];let#[s5,e5]:=aB (o:=.lst [.str (("below one ":Str)++g),.str (("below all ":Str)++g)]) nc;generalize upd H4 c (.lst [.str (("below one ":Str)++g),.str (("below all ":Str)++g)])=H5 at s5 e5 ⊢;apply#[b,c,_,_,Z,Z,s5 _ _ e4,e5,by rw[eA,ao];show _+3+2<=sizeLine;omega,λe ne=>?_];let uG:=(s3.trans s4).trans s5;apply#[e,_,Z,(s2.trans uG).trans (aa.new ne),(gz.trans uG).trans (aa.new ne),(s2.trans uG).free ne,?_]
   rw[az,show rZ (i+1)=rZ i++[("turns ":Str)++g,("least one ":Str)++g,("least all ":Str)++g,("below one ":Str)++g,("below all ":Str)++g] by
    unfold rZ;rw[iE,hg,Option.toList_some,AS,xq,List.flatMap_nil,g_,xr],cu,xr]
   rfl
  ·rintro σ H2 ⟨l,v1,rfl,s2,_,nl,e2⟩;exact#[_,Z,k l H2 s2 nl e2]
end
def An(r:Rl):Bool:=match Txt.split r.1 " " with
 |[a,b]=>(decide (a="turns")&&(decide (r.2.1="turns")&&(decide (r.2.2.2=some b)&&decide (b∈wQ)))) || (decide (a="shares")&&(decide (r.2.1="shares")&&decide (b=r.2.2.1)))
 |[a,b,c]=>decide (a=r.2.1)&&((decide (r.2.1="least") || decide (r.2.1="below"))&&(decide (b=r.2.2.1)&&(decide (r.2.2.2=some c)&&decide (c∈wQ))))
 |_=>false
theorem iK_:rl.all An=true:=by decide +kernel
inductive RF (r:Rl) (ws:ae):Prop
 |t (gd:Str) (e:ws=([("turns":Str),gd]:ae)) (h:r.2.1="turns") (hg:r.2.2.2=some gd) (hm:gd∈wQ)
 |s (e:ws=([("shares":Str),r.2.2.1]:ae)) (h:r.2.1="shares")
 |l (gd:Str) (e:ws=[r.2.1,r.2.2.1,gd]) (h:r.2.1="least"∨r.2.1="below") (hg:r.2.2.2=some gd) (hm:gd∈wQ)
theorem kT_{r:Rl}(h:r∈rl):RF r (Txt.split r.1 " "):=by
 have:=List.all_eq_true.mp iK_ r h;unfold An at this;revert this;split
 ·rename_i a b e
  intro q;simp only[xx,Bool.or_eq_true,mC] at q;rcases q with⟨q1,q2,q3,q4⟩|⟨q1,q2,q3⟩
  ·exact .t b (by rw[e,q1]) q2 q3 q4
  ·exact .s (by rw[e,q1,q3]) q2
 ·rename_i a b c e
  intro q;simp only[xx,Bool.or_eq_true,mC] at q;let#[q1,q2,q3,q4,q5]:=q;exact .l c (by rw[e,q1,q3]) q2 q4 q5
 ·intro q;cases q
theorem Xd:∀r∈rl,r.1.length<=1000:=by decide +kernel
theorem PV(r:Rl)(hs:Xa)(ts:Xb)(qs:aC)(f:ag)(h:Str)(W:Wd hs ts qs f):(oO r hs ts qs f h).length<=1000:=by
 unfold oO;split
 ·exact qC (h8_ r hs ts qs f h) (by decide)
 ·split
  ·exact qC (io_ r hs ts qs f h W) (by decide)
  ·exact gO_ r hs ts qs f h W
theorem Vx{α β:Type}{g:α->List β}{k:Nat}:∀{l:List α},(∀x∈l,(g x).length<=k)->(l.flatMap g).length<=k * l.length
 |[],_=>by simp
 |x::l,h=>by
  rw[xq,eA,iW,Nat.mul_succ];let a:=h x cZ;let b:=Vx (l:=l) λy hy=>h y (dI _ hy);omega
theorem str0(a b:Str):decide (V.str a=V.str b)=decide (a=b):=by
 by_cases h:a=b
 ·rw[h];simp
 ·rw[dS h,dS λz=>h (V.str.inj z)]
section
variable{P:Ae}{w:Af}{K:af}{mg:Str->Option Aa}{base:Heap}
abbrev lmN:ae:=[f_,i6,"_law_rule","_law_moment","_law_words",rG,"_law_hand"]
theorem En:bD lmN Ea (bb Rg):=bJ
structure Dq (K:af) (H:Hp) (wa sd:Addr) (hs:Xa) (ts:Xb) (ps qs:aC) (f:ag):Prop where
 W:jC K H wa hs ts ps
 P:Pw hs ts ps f
 Q:Qs ps qs
 D:Wd hs ts qs f
 hs:H sd=some (.dK (bN (ps.map (·.1)) f))
inductive RY (K:af) (vs:ai) (H:Hp) (Q:VK) (E:XK):Prop
 |mk:∀(wa sd:Addr) (m:Int) (hs:Xa) (ts:Xb) (ps qs:aC) (f:ag),∀r∈rl,vs=[.ref wa,.ref sd,.str r.1,.int m]->Dq K H wa sd hs ts ps qs f->(∀l ys H',aa H H'->H l=none->H' l=some (.lst ys)->bg K H' ys ((i4 r hs ts qs f m).map kM)->Q (.ref l) H')->RY K vs H Q E
theorem ip_(F:bo K "_law_moves" "_law_moves" Rg f0 fd)(B:Bi mg)(cT:!br 3 "_law_by_turn" wg (RQ K))(cS:!br 2 "_law_by_share" Eb (Rw K))(cB:!br 3 "_law_by_low" wc (QR K)):!aj aZ 4 f0 fd Ea (RY K):=by
 apply F.bI En λaR A outer s H vs Q E hr h=>?_
 ·let#[wa,sd,m,hs,ts,ps,qs,f,r,mj,rfl,L,k]:=h;let hu:=eU hr;let sz:=b_;refine' #[_,ak ?s1 (ak ?s2 (ak ?s3 (ak ?s4 (aF ?s5)))),?kk]
  case s1=>exact aQ 4 En.nd (gX PySem.F.plainAttrs_str PySem.F.slot_str_split PySem.F.type_str_split hV_ (pv 2) %[cq|0])
  case s2=>exact aQ 5 En.nd (cO aJ)
  case s3=>exact bQ (cz ik (bO fV (pv 4) aE) cq) (aF (bh (aY cT hr %[0,1,3,bO fV (pv 4) aE|0]))) bR
  case' s4=>refine' eM dX Z (dF (cX (YU Z) (by rfl) B.sorted yU %[cn hu (pv 0) cq|0])) (bU 6 En.nd) (aF (bQ ?c1 (aF ?b1) (aF ?b2)))
  case c1=>exact cz ik (bO fV (pv 4) aE) cq
  case b1=>exact aQ 5 En.nd (bF CD (pv 5) (aY cS hr %[0,1,6|0]))
  case b2=>exact aQ 5 En.nd (bF CD (pv 5) (aY cB hr %[0,1,6,4|0]))
  case s5=>exact bh (RD (cz ik (bO fV (pv 4) aE) cq) (xi C0 (pv 5) xb (xc aE)) (pv 5))
  let rsl:=Xd r mj;let rf:=kT_ mj;let h8:=L.P.Gd.h8;let nl:=L.P.Gd.fM;apply#[_,Z,Z,r.1," ",32,Z,Z,Z,by omega,λlw nlw=>?_];have Qn:∃ws,ws=Txt.split r.1 " ":=#[_,Z];let#[ws,Qn]:=Qn;rw[<- Qn] at rf ⊢;let#[s1,e1]:=aB (o:=.lst (ws.map V.str)) nlw;generalize upd H lw (.lst (ws.map V.str))=H1 at s1 e1 ⊢;lk;apply#[zl,λlf nf=>?_];lk;let#[s2,f2]:=aB (o:=.lst []) nf;generalize upd H1 lf (.lst [])=H2 at s2 f2 ⊢;let hU:=s1.trans s2;let e2:=s2 _ _ e1;have rh:H lf=none:=s1.free nf
  obtain⟨w0,w1,wr,ew⟩:∃w0 w1 wr,ws=w0::w1::wr:=by
   rcases rf with⟨gd,e,_⟩|⟨e,_⟩|⟨gd,e,_⟩
   ·exact#[_,_,_,e]
   ·exact#[_,_,_,e]
   ·exact#[_,_,_,e]
  have ZA:gF (ws.map V.str) 0=some (.str w0):=by rw[ew];exact L2.iT (j:=0) Z
  have Mt:gF (ws.map V.str) 1=some (.str w1):=by rw[ew];exact L2.iT (j:=1) Z
  have e0:w0=r.2.1:=by
   rcases rf with⟨gd,e,h,_⟩|⟨e,h⟩|⟨gd,e,_⟩
   ·rw[ew] at e;rw[h];exact (mB e).1
   ·rw[ew] at e;rw[h];exact (mB e).1
   ·rw[ew] at e;exact (mB e).1
  have ha0:r.2.1≠"turns"->w1=r.2.2.1:=λnt=>by
   rcases rf with⟨gd,e,h,_⟩|⟨e,h⟩|⟨gd,e,_⟩
   ·exact absurd h nt
   ·rw[ew] at e;exact (mB (mB e).2).1
   ·rw[ew] at e;exact (mB (mB e).2).1
  subst e0
  let JY:ck:=λσ H'=>r.2.1≠"turns"/\H2=H'/\σ=[some (.ref wa),some (.ref sd),some (.str r.1),some (.int m),some (.ref lw),some (.ref lf),none]
  apply dB JY ?m2 (λN1 ie=>?m1)
  case m1=>
   apply#[_,Z,lw,_,_,_,Z,Z,.of e2,ZA,Z,_,Z,?_];rw[str0];apply aP (λc=>?_) (λc=>?_)
   ·have c:r.2.1="turns":=jB c
    obtain⟨gd,hg,hm,vz⟩:∃gd,r.2.2.2=some gd/\gd∈wQ/\w1=gd:=by
     rcases rf with⟨gd,e,h,hg,hm⟩|⟨e,h⟩|⟨gd,e,h,_⟩
     ·rw[ew] at e;exact#[gd,hg,hm,(mB (mB e).2).1]
     ·rw[h] at c;exact absurd c Z0
     ·rcases h with h|h
      ·rw[h] at c;exact absurd c Z0
      ·rw[h] at c;exact absurd c Z0
    subst vz;apply#[_,Z,_,Z,_,Z,_,Z,lw,_,_,_,Z,Z,.of e2,Mt,wa,sd,m,w1,hs,ts,ps,qs,f,Z,L.W.nt (NT.of hU),L.P,L.Q,hU _ _ L.hs,hm,λl ys H3 s3 nl3 l3 t3=>?_];apply k l ys H3 (hU.trans s3) (hU.free nl3) l3 ?_;unfold i4;rw[aA c,hg];exact t3
   ·have c:r.2.1≠"turns":=λz=>c (cc z);exact ie _ _ #[c,Z,Z]
  rintro σ _ ⟨nt,rfl,rfl⟩;let _s:=ha0 nt;subst _s;let#[ds,dn,lt,dh,dy,ad,gy,W]:=id (L.W.nt (NT.of hU));apply#[_,Z,wa,_,Z,W.gS,ds,_,hs.map (·.1),Z,W.sg,EA _ _,by rw[ao];omega,λln nn=>?_];rw[<- gA_];let#[s3,e3]:=aB (o:=.lst ((aI hs).map V.str)) nn;generalize upd H2 ln (.lst ((aI hs).map V.str))=H3 at s3 e3 ⊢;let je:=hU.trans s3
  let JX:bL:=λi σ H'=>∃(v6:aK) (lf:Addr) (ys:ai),σ=[some (.ref wa),some (.ref sd),some (.str r.1),some (.int m),some (.ref lw),some (.ref lf),v6]/\aa H3 H'/\H lf=none/\H' lf=some (.lst ys)/\bg K H' ys ((((aI hs).take i).flatMap (oO r hs ts qs f)).map kM)
  apply#[ln,Z,#[_,.of e3],gc (K:=K) (a:=ln) (xs:=(aI hs).map V.str) JX #[none,lf,[],Z,aa.refl _,rh,s3 _ _ f2,.nil] (λi σ H' _ ⟨_,_,_,_,z,_⟩=>.of (z _ _ e3)) ?_ ?_]
  ·rintro i x σ H4 hx ⟨v6,lf,ys,rfl,s4,nf,f4,t4⟩;let#[h,hh,rfl]:=iX hx;have hi:i<(aI hs).length:=(cy.mp hh).1;have hm:h∈hs.map (·.1):=(gn hs).mem_iff.mp (cw hh);let jd:=je.trans s4;let l3:=Vx (g:=oO r hs ts qs f) (l:=(aI hs).take i) (k:=1000) λx _=>PV r hs ts qs f x L.D;let l4:=PV r hs ts qs f h L.D;rw[dg] at l3;let l1:=bK t4;rw[ao] at l1
   have fin:∀lq zs H5,aa H4 H5->H5 lq=some (.lst zs)->bg K H5 zs ((oO r hs ts qs f h).map kM)->(lf:Addr)=lf->BA (.ref lf) (.ref lq) H5 (λv H'=>∃(v6:aK) (lf:Addr) (ys:ai),[some (V.ref wa),some (.ref sd),some (.str r.1),some (.int m),some (.ref lw),some v,some (.str h)]=[some (.ref wa),some (.ref sd),some (.str r.1),some (.int m),some (.ref lw),some (.ref lf),v6]/\aa H3 H'/\H lf=none/\H' lf=some (.lst ys)/\bg K H' ys ((((aI hs).take (i+1)).flatMap (oO r hs ts qs f)).map kM)):=λlq zs H5 s5 q5 t5 _=>by
    let l2:=bK t5;rw[ao] at l2;apply#[lf,lq,ys,zs,Z,Z,s5 _ _ f4,q5,by omega,λlz nz=>?_];let s6:=aa.new (o:=.lst (ys++zs)) nz;apply#[_,lz,ys++zs,Z,(s4.trans s5).trans s6,(jd.trans s5).free nz,az,?_];rw[fB hh,AS,cu,xq,List.flatMap_nil,g_];exact km (t4.same (s5.trans s6)) (t5.same s6)
   lk;let e4:=s4 _ _ (s3 _ _ e2);apply#[_,Z,lw,_,_,_,Z,Z,.of e4,ZA,Z,_,Z,?_];rw[str0];apply aP (λc=>?_) (λc=>?_)
   ·have c:r.2.1="shares":=jB c;apply#[_,Z,_,Z,_,Z,_,Z,wa,sd,h,hs,ts,ps,qs,f,Z,L.W.nt (NT.of jd),L.P,L.Q,L.D,jd _ _ L.hs,hm,λlq zs H5 s5 nq q5 t5=>?_];exact fin lq zs H5 s5 q5 (by rw[YX c];exact t5) Z
   ·have c:r.2.1≠"shares":=λz=>c (cc z)
    obtain⟨gd,hg,B6,vz,lb⟩:∃gd,r.2.2.2=some gd/\gd∈wQ/\ws=[r.2.1,r.2.2.1,gd]/\(r.2.1="least"∨r.2.1="below"):=by
     rcases rf with⟨gd,e,h,hg,hm⟩|⟨e,h⟩|⟨gd,e,h,hg,hm⟩
     ·exact absurd h nt
     ·exact absurd h c
     ·exact#[gd,hg,hm,e,h]
    rw[vz] at e4;have wG:(dj ts h).length<64:=by have:=ms_ L.P.Gd h;omega
    apply#[_,Z,_,Z,_,Z,_,Z,_,Z,wa,sd,lw,h,r.2.1,r.2.2.1,gd,hs,ts,ps,f,Z,L.W.nt (NT.of jd),L.P,jd _ _ L.hs,hm,wG,e4,B6,λlq zs H5 s5 nq q5 t5=>?_];apply fin lq zs H5 s5 q5 ?_ Z;rcases lb with lb|lb
    ·rw[X_ lb];rw[lb,m4_ L.P L.Q hm] at t5;unfold yT;rw[hg];exact t5
    ·rw[Ys lb];rw[lb,kG_ L.P L.Q hm] at t5;unfold AD;rw[hg];exact t5
  ·rintro σ H4 ⟨v6,lf,ys,rfl,s4,nf,f4,t4⟩;rw[ao,dP] at t4;let jd:=je.trans s4;apply#[_,Z,lw,_,_,_,Z,Z,.of (s4 _ _ (s3 _ _ e2)),Mt,Z,_,Z,?_];rw[str0];apply aP (λc=>?_) (λc=>?_)
   ·have c:r.2.2.1="one":=jB c;apply#[_,Z,_,Z,lf,_,Z,.of f4,λlq nq=>?_];rw[show gD ys none (some 1)=ys.take 1 from EE ys 1];let s5:=aa.new (o:=.lst (ys.take 1)) nq;apply k lq _ _ (jd.trans s5) (jd.free nq) az ?_;unfold i4 CC;rw[aq nt,aA c,List.map_take];exact IL 1 (t4.same s5)
   ·have c:¬r.2.2.1="one":=λz=>c (cc z);apply#[_,Z,k lf ys H4 jd nf f4 ?_];unfold i4 CC;rw[aq nt,aq c];exact t4
end
variable{i:Nat}
theorem Yt{α:Type}{xs:List α}{x:α}(h:xs[i]? = some x):xs.take (i+1)=xs.take i++[x]:=by rw[iE,h];rfl
def rg(f:ag)(m:Mv):ag:=λn=>if n=m.1 then m.2.2 else f n
def lj(f:ag)(ms:fS):ag:=ms.foldl rg f
theorem Yp(f:ag)(a:fS)(m:Mv):lj f (a++[m])=rg (lj f a) m:=by
 unfold lj;rw[List.foldl_append];rfl
theorem Xz{ns:ae}{f:ag}{m:Mv}(h:m.1∈ns):putK (bN ns f) (Sum.inr m.1) (.str m.2.2)=bN ns (rg f m):=by
 unfold bN;rw[Qk h];apply ED λn _=>?_;unfold rg;by_cases z:n=m.1
 ·rw[aA z,aA z]
 ·rw[aq z,aq z]
theorem V1{H:Hp}{p:Addr}{m:Mv}(h:H p=some (.tup ((kM m).map kV))):H p=some (.tup [.str m.1,.str m.2.1,.str m.2.2]):=h
theorem VA{A:ae}{n:Str}:∀{ms:fS} {f:ag},(∀x∈ms,x.2.2∈A)->f n∈A->lj f ms n∈A
 |[],_,_,h=>h
 |m::ms,f,a,h=>by
  show lj (rg f m) ms n∈A;apply VA (λx hx=>a x (by simp[hx])) ?_;unfold rg;split
  ·exact a m Z2
  ·exact h
section
variable{hs:Xa}{ts:Xb}{qs:aC}{f:ag}
def xA(hs:Xa)(qs:aC)(x:Mv):Prop:=x.1∈qs.map (·.1)/\x.2.2∈aI hs
theorem K5{gd a b:Str}{gv:ae}(hb:b∈aI hs):∀x∈iz hs ts qs f gd gv a b,xA hs qs x:=λx h=>by
 unfold iz at h;split at h
 ·rename_i n e
  let hm:=jq.mp h;subst hm;exact#[(Lz (List.mem_of_find?_eq_some e)).1,hb]
 ·cases h
theorem Py{ms ns:fS}(a:∀x∈ms,xA hs qs x)(b:∀x∈ns,xA hs qs x):∀x∈ms++ns,xA hs qs x:=λx h=>(fQ.mp h).elim (a x) (b x)
theorem OZ{gd h:Str}:∀{l:ae} {ms:fS},(∀o∈l,o∈aI hs)->(∀x∈ms,xA hs qs x)->∀x∈qt hs ts qs f gd h ms l,xA hs qs x
 |[],ms,_,a=>a
 |o::l,ms,hl,a=>by
  unfold qt;split
  ·exact OZ (λx hx=>hl x (by simp[hx])) (Py a (K5 (hl o Z2)))
  ·exact OZ (λx hx=>hl x (by simp[hx])) a
theorem O2{h:Str}:∀{l:ae} {ms:fS},(∀o∈l,o∈aI hs)->(∀x∈ms,xA hs qs x)->∀x∈oP hs ts qs f h ms l,xA hs qs x
 |[],ms,_,a=>a
 |o::l,ms,hl,a=>by
  unfold oP;split
  ·apply O2 (λx hx=>hl x (by simp[hx])) (Py a λx hx=>?_);let#[n,hn,rfl]:=bj.mp hx;exact#[(Lz ((Ic _ _ _ _).subset hn)).1,hl o Z2]
  ·exact O2 (λx hx=>hl x (by simp[hx])) a
theorem Oy(W:Wd hs ts qs f)(r:Rl)(m:Int):∀x∈i4 r hs ts qs f m,xA hs qs x:=by
 have Ug:∀h,∀o∈dN hs ts qs f h,o∈aI hs:=λh o ho=>Ci ((LV hs ts qs f h).mem_iff.mp ho);unfold i4;split
 ·intro x hx;let#[t,ht,hx]:=List.mem_flatMap.mp hx;let#[t1,t2]:=L7 W.Gd (Mo ht);exact Py (K5 t2) (K5 t1) x hx
 ·have full:∀x∈(aI hs).flatMap (oO r hs ts qs f),xA hs qs x:=λx hx=>by
   let#[h,hh,hx]:=List.mem_flatMap.mp hx;revert hx;unfold oO;split
   ·unfold yT yX;have:=Ug h;split
    ·intro z;cases z
    ·rename_i o _ e
     rw[e] at this;exact K5 (this o Z2) x
   ·split
    ·exact OZ (Ug h) (λx z=>by cases z) x
    ·exact O2 (λo ho=>Ci ho) (λx z=>by cases z) x
  unfold CC;split
  ·exact λx hx=>full x (List.mem_of_mem_take hx)
  ·exact full
def vB(r:Rl)(hs:Xa)(ts:Xb)(qs:aC)(m:Int)(f:ag):ag:=lj f (i4 r hs ts qs f m)
def runM(r:Rl)(hs:Xa)(ts:Xb)(qs:aC)(f:ag):Nat->Str->Str
 |0=>f
 |n+1=>vB r hs ts qs n (runM r hs ts qs f n)
theorem Wd.step(W:Wd hs ts qs f)(r:Rl)(m:Int):Wd hs ts qs (vB r hs ts qs m f):=#[W.Gd,W.nd,W.dk,λn hn=>VA (λx hx=>(gn hs).mem_iff.mp (Oy W r m x hx).2) (W.at_ n hn),W.wq]
theorem Wd.run(W:Wd hs ts qs f)(r:Rl):∀n,Wd hs ts qs (runM r hs ts qs f n)
 |0=>W
 |n+1=>(W.run r n).step r n
theorem Wi(r:Rl)(m:Int)(k:Nat):i4 r hs ts qs f (m+k * (eN r ts:Nat))=i4 r hs ts qs f m:=by
 unfold i4;split
 ·rename_i c
  unfold Et
  have:gE ts (m+k * (eN r ts:Nat))=gE ts m:=by
   unfold gE eN;rw[aA c];by_cases z:(turnsOf (aD ts)).length=0
   ·rw[zc.mp z];rfl
   ·rw[show max 1 (turnsOf (aD ts)).length=(turnsOf (aD ts)).length by omega,Int.add_mul_emod_self_right]
  rw[this]
 ·rfl
theorem WC(r:Rl)(k:Nat):∀n,runM r hs ts qs (runM r hs ts qs f (k * eN r ts)) n=runM r hs ts qs f (k * eN r ts+n)
 |0=>rfl
 |n+1=>by
  show vB r hs ts qs n (runM r hs ts qs (runM r hs ts qs f (k * eN r ts)) n)=vB r hs ts qs ((k * eN r ts+n:Nat):Int) (runM r hs ts qs f (k * eN r ts+n));rw[WC r k n];unfold vB;rw[show ((k * eN r ts+n:Nat):Int)=(n:Int)+(k:Nat) * (eN r ts:Nat) by rw[Int.natCast_add,Int.natCast_mul];omega,Wi]
theorem j3_{r:Rl}(h:∀j,i<=j->j<i+eN r ts->i4 r hs ts qs (runM r hs ts qs f j) j=[]):∀n,i<=n->runM r hs ts qs f n=runM r hs ts qs f i:=by
 have h1:∀k,k<=eN r ts->runM r hs ts qs f (i+k)=runM r hs ts qs f i:=λk=>by
  induction k with
  |zero=>intro _;rfl
  |succ k ih=>
   intro hk;let e:=ih Z1;show vB r hs ts qs ((i+k:Nat):Int) (runM r hs ts qs f (i+k))=_;unfold vB;rw[h (i+k) Z1 Z1,e];rfl
 have pos:0<eN r ts:=by unfold eN;split<;>omega
 have h2:∀m:Nat,i<=m->i4 r hs ts qs (runM r hs ts qs f i) m=[]:=λm hm=>by
  let e:=Nat.div_add_mod (m - i) (eN r ts);let l:=Nat.mod_lt (m - i) pos;let q:=h (i+(m - i) % eN r ts) Z1 Z1;rw[h1 _ Z1] at q
  have e3:(m:Int)=((i+(m - i) % eN r ts:Nat):Int)+((m - i) / eN r ts:Nat) * (eN r ts:Nat):=by
   rw[<- Int.natCast_mul,<- Int.natCast_add,Nat.mul_comm ((m - i) / eN r ts)];congr 1;omega
  rw[e3,Wi];exact q
 intro n hn;let#[k,rfl]:=Nat.le.dest hn
 induction k with
 |zero=>rfl
 |succ k ih=>
  show vB r hs ts qs ((i+k:Nat):Int) (runM r hs ts qs f (i+k))=_;unfold vB;rw[ih Z1,h2 (i+k) Z1];rfl
end
section
variable{P:Ae}{w:Af}{K:af}{mg:Str->Option Aa}{base:Heap}{CS CG CW T1 T2:Addr}
abbrev paN:ae:=["goods","placed","rule","moment","after","piece","one","other"]
theorem Ib:bD paN v_ (bb nZ):=bJ
inductive QV (K:af) (CG CW T1 T2:Addr) (vs:ai) (H:Hp) (Q:VK) (E:XK):Prop
 |mk:∀(g p d:Addr) (m:Int) (hs:Xa) (ts:Xb) (qs:aC) (fp:ay) (f:ag),∀r∈rl,vs=[.ref g,.ref d,.str r.1,.int m]->0<=m->Pld K CG CW T1 T2 H g p d hs ts qs fp f->(∀d' H',BT T1 T2 H H'->Tb H' T1 T2->H d'=none->H' d'=some (.dK (bN (qs.map (·.1)) (vB r hs ts qs m f)))->Q (.ref d') H')->QV K CG CW T1 T2 vs H Q E
theorem jq_(F:bo K "placed_after" "placed_after" nZ f0 fd)(B:Bi mg)(Sx:!o9 CS 7 "Sight" qG (QT K CS CG CW T1))(Su:!br 7 "moves_seen" Ao (QW K CS CG CW T2)):!aj aZ 9 f0 fd v_ (QV K CG CW T1 T2):=by
 apply F.bI Ib λaR A outer s H vs Q E hr h=>?_
 ·let#[g,p,d,m,hs,ts,qs,fp,f,r,iN,rfl,m0,D,k]:=h;let sz:=b_;let hu:=eU hr;refine' #[_,ak ?s1 (ak ?s2 (aF (bh (pv 4)))),?kk]
  case s1=>exact aQ 4 Ib.nd (iD SG (by rfl) B.dict oV %[1|0])
  case s2=>exact eM dX Z (dF (aY Su hr %[N_ Sx hr %[0,1|0],2,3|0])) (jm Z (di (bU 5 Ib.nd) (di (bU 6 Ib.nd) (di (bU 7 Ib.nd) iF)))) (aF (rN hu (pv 4) (pv 5) (pv 7) Z))
  let dk:=D.W.dk;apply#[_,Z,d,_,Z,.inl D.Pl.hd,λdl i0=>?_];let#[sd,ed]:=aB (o:=.dK (bN (qs.map (·.1)) f)) i0;show mP _ _ _ _ (upd H dl (.dK (bN (qs.map (·.1)) f)));generalize upd H dl (.dK (bN (qs.map (·.1)) f))=H1 at sd ed ⊢;apply#[_,Z,_,Z,λv dx hv Pi ne=>?_];have s2:aa H1 (upd (upd H1 dx (.own v)) v (.ins CS dx [])):=(aa.new Pi).trans (aa.new (by rw[au ne.symm];exact hv));have e2:upd (upd H1 dx (.own v)) v (.ins CS dx []) v=some (.ins CS dx []):=az;generalize upd (upd H1 dx (.own v)) v (.ins CS dx [])=H2 at s2 e2 ⊢;let hU:=sd.trans s2
  have Ki:v∉fp:=λhm=>by
   let#[o,e]:=D.has v hm;rw[sd _ _ e] at hv;cases hv
  have Pl2:AC K CG CW H2 g p d hs ts qs fp f:=#[D.Pl.G.same hU,D.W.Gd,D.Pl.qo,hU _ _ D.Pl.hd,D.W.at_,D.W.nd,D.W.dk];apply#[v,dx,g,p,d,hs,ts,qs,fp,f,Z,e2,Ki,Pl2,D.W,D.tb.a.same hU,λH3 k3 ku S3=>#[Z,?_]];let#[tv1,Wz]:=ki D.tb.a;have Oq:∀b o,H1 b=some o->b≠T1->H3 b=some o:=λb o e n=>k3 b o (s2 _ _ e) (bq e hv) n
  have zp:ee H3 T2 me:=by
   let#[es,a1,a2]:=D.tb.b;exact#[es,Oq _ _ (sd _ _ a1) D.tb.ne.symm,λx hx=>Oq _ _ (sd _ _ (a2 x hx)) (λz=>by have:=a2 x hx;rw[z,Wz] at this;cases this)]
  apply#[_,Z,_,Z,v,g,p,m,hs,ts,qs,fp,f,r,iN,Z,m0,S3,D.W,zp,λl ys H4 b4 h9 nl hl tu=>?_];let#[_I,Wy]:=ki zp;have oX:BT T1 T2 H1 H4:=λb o e n1 n2=>b4 _ _ (Oq b o e n1) n2;have TV:Tb H4 T1 T2:=#[ee.but ku b4 #[_,Wy] D.tb.ne,h9,D.tb.ne];have E8:∀{T tv},H T=some (.tbl tv)->dl≠T:=λe z=>by rw[<- z,i0] at e;cases e
  let#[tv3,hT3]:=ki D.tb.b;let HM:=oX _ _ ed (E8 Wz) (E8 hT3);have KL:l≠dl:=cj hl HM nofun;let ly:=bK tu;rw[ao] at ly
  let JW:bL:=λj σ H'=>∃v5 v6 v7:aK,σ=[some (.ref g),some (.ref d),some (.str r.1),some (.int m),some (.ref dl),v5,v6,v7]/\aX dl H4 H'/\H' dl=some (.dK (bN (qs.map (·.1)) (lj f ((i4 r hs ts qs f m).take j))))
  apply#[l,Z,#[_,.of hl],gc (K:=K) (a:=l) (xs:=ys) JW #[none,none,none,Z,aX.refl _ _,HM] (λj σ H' _ ⟨_,_,_,_,b,_⟩=>.of (b _ _ hl KL)) ?_ ?_]
  ·rintro j y σ H' hy ⟨v5,v6,v7,rfl,b',e'⟩;let#[x,hx,E7,rfl,yu]:=jr tu hy;let yu:=V1 yu;have MJ:E7≠dl:=cj yu HM nofun;apply#[E7,_,Z,.of (b' _ _ yu MJ),Z,_,_,Z,_,_,Z,_,_,Z,Z,?_];dsimp only;apply#[_,Z,_,Z,_,Z,dl,_,Z,.k (k:=Sum.inr x.1) e' (by rw[gh,ao];omega),?_];apply#[_,_,_,Z,b'.trans aX.upd,?_];rw[az,Xz (Oy D.W r m x (cw hx)).1,Yt hx,Yp]
  ·rintro σ H' ⟨v5,v6,v7,rfl,b',e'⟩;rw[ly,dP] at e';have kT:∀{T qn},ee H4 T qn->ee H' T qn:=λ⟨es,a1,a2⟩=>#[es,b' _ _ a1 (λz=>by rw[z,HM] at a1;cases a1),λx hx=>b' _ _ (a2 x hx) (λz=>by have:=a2 x hx;rw[z,HM] at this;cases this)];exact#[_,Z,k dl H' (λb o e n1 n2=>b' b o (oX b o (sd _ _ e) n1 n2) (bq e i0)) #[kT TV.a,kT TV.b,D.tb.ne] i0 e']
abbrev saN:ae:=["goods","stand","rule","moments","placed","moment"]
theorem Lp:bD saN vZ (bb nR):=bJ
inductive Qo (K:af) (CG CW T1 T2:Addr) (vs:ai) (H:Hp) (Q:VK) (E:XK):Prop
 |mk:∀(g p d:Addr) (n:Nat) (hs:Xa) (ts:Xb) (qs:aC) (fp:ay) (ns:ae) (f:ag),∀r∈rl,vs=[.ref g,.ref d,.str r.1,.int n]->n<=3001->xy K CG CW H g p d hs ts qs fp ns f->Wd hs ts qs f->Tb H T1 T2->(∀d' H',BT T1 T2 H H'->Tb H' T1 T2->H d'=none->H' d'=some (.dK (bN (qs.map (·.1)) (runM r hs ts qs f n)))->Q (.ref d') H')->Qo K CG CW T1 T2 vs H Q E
theorem iW_(F:bo K "stand_after" "stand_after" nR f0 fd)(B:Bi mg)(Sr:!br 3 "checked_start" qE (Xs K CG CW))(Sw:!br 3 "checked_moments" gZ Y4)(cPl:!br 9 "placed_after" v_ (QV K CG CW T1 T2)):!aj aZ 10 f0 fd vZ (Qo K CG CW T1 T2):=by
 apply F.bI Lp λaR A outer s H vs Q E hr h=>?_
 ·let#[g,p,d,n,hs,ts,qs,fp,ns,f,r,iN,rfl,n3,S,W,tb,k]:=h;let sz:=b_;refine' #[_,ak ?s1 (ak ?s2 (aF (bh (pv 4)))),?kk]
  case s1=>exact aQ 4 Lp.nd (aY Sr hr %[0,1,2|0])
  case s2=>exact eM dX Z (EB (by rfl) B.range %[aY Sw hr %[3|0]|0]) (bU 5 Lp.nd) (aF (aQ 4 Lp.nd (aY cPl hr %[0,4,2,5|0])))
  apply#[_,Z,_,Z,_,Z,_,_,r,iN,Z,#[g,p,d,hs,ts,qs,fp,ns,f,Z,S.G,S.qo,S.hd,S.so,W.nd,W.dk,λdp H1 s1 n1 e1=>?_]];lk;apply#[_,Z,(n:Int),Z,by omega,(n:Int),Z,by omega,by omega,?_]
  let JV:bL:=λi σ H'=>∃(v5:aK) (dp:Addr),σ=[some (.ref g),some (.ref d),some (.str r.1),some (.int n),some (.ref dp),v5]/\BT T1 T2 H H'/\Tb H' T1 T2/\H dp=none/\H' dp=some (.dK (bN (qs.map (·.1)) (runM r hs ts qs f i)))
  apply RT JV #[none,dp,Z,BT.of s1,#[tb.a.same s1,tb.b.same s1,tb.ne],n1,e1] ?_ ?_
  ·rintro i σ H2 hi ⟨v5,dp,rfl,b2,zp,n2,e2⟩;lk;let yi:=b2.nt tb;let W2:=W.run r i
   have qo:dp∉fp:=λhm=>by
    let#[o,e,_]:=S.has dp hm;rw[e] at n2;cases n2
   apply#[_,Z,_,Z,_,Z,_,Z,g,p,dp,0+(i:Int),hs,ts,qs,fp,_,r,iN,Z,by omega,#[#[S.G.nt yi,W.Gd,qo,e2,W2.at_,W.nd,W.dk],W2,zp,λb hb=>let #[o,e,q]:=S.has b hb;#[o,yi _ _ e q]],λdq H3 b3 _N n3 e3=>?_];apply setG ?_;rw[Int.zero_add] at e3;apply#[_,dq,Z,b2.trans b3,_N,?_,e3];cases z:H dq with
   |none=>rfl
   |some o=>
    by_cases y1:dq=T1
    ·let#[tv,hT]:=ki zp.a;rw[y1,hT] at n3;cases n3
    ·by_cases y2:dq=T2
     ·let#[tv,hT]:=ki zp.b;rw[y2,hT] at n3;cases n3
     ·rw[b2 _ _ z y1 y2] at n3;cases n3
  ·rintro σ H2 ⟨v5,dp,rfl,b2,zp,n2,e2⟩;rw[zd] at e2;exact#[_,Z,k dp H2 b2 zp n2 e2]
end
theorem lk_:∀r∈rl,decide (Txt.slice r.1 none (some 5)="turns")=decide (r.2.1="turns"):=by decide +kernel
theorem ly_{hs:Xa}{ts:Xb}(G:Good hs ts)(r:Rl):1<=eN r ts/\eN r ts<=64:=by
 let tl:=Rj (aD ts) [];rw[C8,sL] at tl;let pE:=G.pE
 have:(turnsOf (aD ts)).length<=64:=by
  show ((aD ts).foldl hX []).length<=64;omega
 unfold eN;split<;>omega
theorem Qs.Vv{ps qs:aC}(Q:Qs ps qs){n:Str}(h:n∈qs.map (·.1)):n∈ps.map (·.1):=by
 rw[Q.p_] at h;exact (gq _).mem_iff.mp h
theorem Pw.to{hs:Xa}{ts:Xb}{ps qs:aC}{f g:ag}(P:Pw hs ts ps f)(Q:Qs ps qs)(D:Wd hs ts qs g):Pw hs ts ps g:=#[P.Gd,P.gp,P.nd,P.ib,λn hn=>D.at_ n (by rw[Q.p_];exact (gq _).mem_iff.mpr hn)]
section
variable{P:Ae}{w:Af}{K:af}{mg:Str->Option Aa}{base:Heap}
theorem xS:bD lQ lQ (bb nM):=bJ
inductive LM (K:af) (vs:ai) (H:Hp) (Q:VK) (E:XK):Prop
 |mk:∀(wa:Addr) (hs:Xa) (ts:Xb) (ps:aC),∀r∈rl,vs=[.ref wa,.str r.1]->jC K H wa hs ts ps->Good hs ts->(∀H',aa H H'->Q (.int ((eN r ts:Nat):Int)) H')->LM K vs H Q E
theorem jL_(F:bo K "_law_turn" "_law_turn" nM f0 fd)(B:Bi mg)(cR:!br 1 "_law_rows" [f_] (LO K)):!aj aZ 2 f0 fd lQ (LM K):=by
 apply F.bI xS λaR A outer s H vs Q E hr h=>?_
 ·let#[wa,hs,ts,ps,r,mj,rfl,W,G,k]:=h;let sz:=b_;let rsl:=Xd r mj;refine' #[_,aF (bh (RD ?c1 ?c2 aE)),?kk]
  case c1=>exact cz ik (xi Pz (pv 1) xb (xc aE)) cq
  case c2=>exact cX (Rm Z) (by rfl) B.max Eh %[aE,cX lM (by rfl) B.len jk %[aY cR hr %[0|0]|0]|0]
  apply#[_,Z,_,Z,r.1,Z,by omega,Z,_,Z,?_];rw[str0,lk_ r mj];apply aP (λc=>?_) (λc=>?_)
  ·have c:r.2.1="turns":=jB c;apply#[_,Z,wa,hs,ts,ps,Z,W,G,λl as H1 s1 _ _ R=>?_];apply#[l,_,Z,.inl (.of R.1),_,_,Z,?_];let la:=bK R.2;have:=k H1 s1;unfold eN at this;rw[aA c,<- la] at this;rw[ao,show (if ((as.length:Nat):Int) > 1 then ((as.length:Nat):Int) else 1)=((max 1 as.length:Nat):Int) by split<;>omega]
   exact this
  ·have c:¬r.2.1="turns":=λz=>c (cc z);have:=k H (aa.refl _);unfold eN at this;rw[aq c] at this;exact this
abbrev puN:ae:=[f_,i6,"_law_rule","_law_moment","_law_moves_here",rG,qu,rK,lG]
theorem Em:bD puN Ea (bb uf):=bJ
inductive mV (K:af) (vs:ai) (H:Hp) (Q:VK) (E:XK):Prop
 |mk:∀(wa sd:Addr) (m:Int) (hs:Xa) (ts:Xb) (ps qs:aC) (f:ag),∀r∈rl,vs=[.ref wa,.ref sd,.str r.1,.int m]->Dq K H wa sd hs ts ps qs f->(∀t d' H',aa H H'->H d'=none->H' t=some (.tup [.ref d',.bl (!(i4 r hs ts qs f m).isEmpty)])->H' d'=some (.dK (bN (ps.map (·.1)) (vB r hs ts qs m f)))->Q (.ref t) H')->mV K vs H Q E
theorem ks_(F:bo K "_law_put" "_law_put" uf f0 fd)(B:Bi mg)(cM:!br 4 "_law_moves" Ea (RY K)):!aj aZ 5 f0 fd Ea (mV K):=by
 apply F.bI Em λaR A outer s H vs Q E hr h=>?_
 ·let#[wa,sd,m,hs,ts,ps,qs,f,r,mj,rfl,L,k]:=h;let sz:=b_;let hu:=eU hr;refine' #[_,ak ?s1 (ak ?s2 (ak ?s3 (aF ?s4))),?kk]
  case s1=>exact aQ 4 Em.nd (aY cM hr %[0,1,2,3|0])
  case s2=>exact aQ 5 Em.nd (iD SG (by rfl) B.dict oV %[1|0])
  case s3=>exact eM dX Z (dF (pv 4)) (jm Z (di (bU 6 Em.nd) (di (bU 7 Em.nd) (di (bU 8 Em.nd) iF)))) (aF (rN hu (pv 5) (pv 6) (pv 8) Z))
  case s4=>exact bh (eW %[5,iG (L8 (oN hr 0)) (pv 4) (cO aJ)|0])
  let ib:=L.P.ib;apply#[_,Z,_,Z,_,Z,_,Z,wa,sd,m,hs,ts,ps,qs,f,r,mj,Z,L,λl ys H1 s1 nl hl tu=>?_];lk;apply#[_,Z,sd,_,Z,.inl (s1 _ _ L.hs),λdl i0=>?_];let#[Ko,ed]:=aB (o:=.dK (bN (ps.map (·.1)) f)) i0;show mP _ _ _ _ (upd H1 dl (.dK (bN (ps.map (·.1)) f)));generalize upd H1 dl (.dK (bN (ps.map (·.1)) f))=H2 at Ko ed ⊢;have KL:l≠dl:=bq hl i0;let oH:=Ko _ _ hl;let _K:=tu.same Ko;let ly:=bK tu;rw[ao] at ly
  let JU:bL:=λj σ H'=>∃v6 v7 v8:aK,σ=[some (.ref wa),some (.ref sd),some (.str r.1),some (.int m),some (.ref l),some (.ref dl),v6,v7,v8]/\aX dl H2 H'/\H' dl=some (.dK (bN (ps.map (·.1)) (lj f ((i4 r hs ts qs f m).take j))))
  apply#[_,Z,l,Z,#[_,.of oH],gc (K:=K) (a:=l) (xs:=ys) JU #[none,none,none,Z,aX.refl _ _,ed] (λj σ H' _ ⟨_,_,_,_,b,_⟩=>.of (b _ _ oH KL)) ?_ ?_]
  ·rintro j y σ H' hy ⟨v6,v7,v8,rfl,b',e'⟩;let#[x,hx,E7,rfl,yu]:=jr _K hy;let yu:=V1 yu;have MJ:E7≠dl:=cj yu ed nofun;apply#[E7,_,Z,.of (b' _ _ yu MJ),Z,_,_,Z,_,_,Z,_,_,Z,Z,?_];dsimp only;apply#[_,Z,_,Z,_,Z,dl,_,Z,.k (k:=Sum.inr x.1) e' (by rw[gh,ao];omega),?_];apply#[_,_,_,Z,b'.trans aX.upd,?_];rw[az,Xz (L.Q.Vv (Oy L.D r m x (cw hx)).1),Yt hx,Yp]
  ·rintro σ H' ⟨v6,v7,v8,rfl,b',e'⟩;rw[ly,dP] at e';have sh:aa H H':=λb o e=>b' b o (Ko _ _ (s1 _ _ e)) (bq (s1 _ _ e) i0);apply#[_,Z,_,Z,zl,λle ne'=>?_];let#[s5,Yc]:=aB (o:=.lst []) ne';let vn:=s5 _ _ (b' _ _ oH KL);let e5:=s5 _ _ e';generalize upd H' le (.lst [])=H5 at s5 Yc vn e5 ⊢;apply#[l,le,ys,Z,Z,.of vn,.of Yc,zl,λt nt=>?_];let s6:=aa.new (o:=.tup [.ref dl,.bl (!ys.isEmpty)]) nt
   have e6:ys.isEmpty=(i4 r hs ts qs f m).isEmpty:=by
    rw[Bool.eq_iff_iff,List.isEmpty_iff,List.isEmpty_iff,<- zc,<- zc,ly]
   exact k t dl _ (sh.trans (s5.trans s6)) (s1.free i0) (by rw[az,e6]) (s6 _ _ e5)
abbrev afN:ae:=[f_,i6,"_law_rule","_law_moments","_law_still","_law_turn_here","_law_moment","_law_went"]
theorem De:bD afN we (bb QJ):=bJ
inductive RR (K:af) (vs:ai) (H:Hp) (Q:VK) (E:XK):Prop
 |mk:∀(wa sd:Addr) (n:Nat) (hs:Xa) (ts:Xb) (ps qs:aC) (f:ag),∀r∈rl,vs=[.ref wa,.ref sd,.str r.1,.int n]->n<=3001->Dq K H wa sd hs ts ps qs f->(∀d' H',aa H H'->H' d'=some (.dK (bN (ps.map (·.1)) (runM r hs ts qs f n)))->Q (.ref d') H')->RR K vs H Q E
theorem h1_(F:bo K "_law_after" "_law_after" QJ f0 fd)(B:Bi mg)(cT:!br 2 "_law_turn" lQ (LM K))(cP:!br 5 "_law_put" Ea (mV K)):!aj aZ 6 f0 fd we (RR K):=by
 apply F.bI De λaR A outer s H vs Q E hr h=>?_
 ·let#[wa,sd,n,hs,ts,ps,qs,f,r,mj,rfl,n3,L,k]:=h;let sz:=b_;refine' #[_,ak ?s1 (ak ?s2 (ak ?s3 (aF (bh (pv 1))))),?kk]
  case s1=>exact aQ 4 De.nd aE
  case s2=>exact aQ 5 De.nd (aY cT hr %[0,2|0])
  case' s3=>refine' eM dX Z (EB (by rfl) B.range %[3|0]) (bU 6 De.nd) (ak ?b1 (ak ?b2 (aF ?b3)))
  case b1=>exact CB (aY cP hr %[0,1,2,6|0]) (jm Z (di (bU 1 De.nd) (di (bU 7 De.nd) iF)))
  case b2=>exact aQ 4 De.nd (bF ji (bF iV (pv 4) aE) (iD EC (by rfl) B.int CL %[U6 (pv 7)|0]))
  case b3=>exact bQ (cz ik (pv 4) (pv 5)) (aF (bh (pv 1))) bR
  let rn:=ly_ L.P.Gd r;lk;apply#[_,Z,_,Z,wa,hs,ts,ps,r,mj,Z,L.W,L.P.Gd,λH1 s1=>?_];lk;apply#[_,Z,(n:Int),Z,by omega,by omega,?_]
  let JT:bL:=λi σ H'=>∃(v6 v7:aK) (Ds:Addr) (st:Nat),σ=[some (.ref wa),some (.ref Ds),some (.str r.1),some (.int n),some (.int st),some (.int ((eN r ts:Nat):Int)),v6,v7]/\aa H H'/\H' Ds=some (.dK (bN (ps.map (·.1)) (runM r hs ts qs f i)))/\st<=i/\st<eN r ts/\∀j,i - st<=j->j<i->i4 r hs ts qs (runM r hs ts qs f j) j=[]
  apply RT JT #[none,none,sd,0,Z,s1,s1 _ _ L.hs,by omega,by omega,λj a b=>by omega] ?_ ?_
  ·rintro i σ H2 hi ⟨v6,v7,Ds,st,rfl,s2,e2,sti,Km,em⟩;rw[zd] at hi;lk;let D2:=L.D.run r i;apply#[_,Z,_,Z,_,Z,_,Z,wa,Ds,0+(i:Int),hs,ts,ps,qs,_,r,mj,Z,#[L.W.nt (NT.of s2),L.P.to L.Q D2,L.Q,D2,e2],λt d' H3 s3 NS ht iA=>?_];rw[Int.zero_add] at ht iA;apply#[t,_,Z,.of ht,Z,_,_,Z,_,_,Z,Z,?_];dsimp only;apply#[_,Z,_,_,Z,Z,_,Z,_,Z,.inr #[_,Z,_,_,Z,Z,.inr (by split<;>constructor<;>decide),?_]]
   lk;apply#[_,Z,_,Z,Z,_,Z,?_];let je:=s2.trans s3;cases ce:(i4 r hs ts qs (runM r hs ts qs f i) i).isEmpty with
   |false=>
    have e5:(((st:Int)+1) * if (!!false)=true then 1 else 0)=((0:Nat):Int):=by
     rw[aq (by decide),Int.mul_zero];rfl
    rw[e5,show decide (V.int ((0:Nat):Int)=V.int ((eN r ts:Nat):Int))=false from dS λz=>by injection z with z;omega];exact bu #[_,_,d',0,Z,je,iA,by omega,by omega,λj a b=>by omega]
   |true=>
    have e5:(((st:Int)+1) * if (!!true)=true then 1 else 0)=((st+1:Nat):Int):=by
     rw[aA (by decide),Int.mul_one];rfl
    rw[e5]
    have Yb:∀j,i+1 - (st+1)<=j->j<i+1->i4 r hs ts qs (runM r hs ts qs f j) j=[]:=λj a b=>by
     by_cases z:j=i
     ·rw[z];exact List.isEmpty_iff.mp ce
     ·exact em j Z1 Z1
    apply aP (λc=>?_) (λc=>?_)
    ·have c:st+1=eN r ts:=by
      let c:=jB c
      injection c with c
      omega
     let rest:=j3_ (r:=r) (hs:=hs) (ts:=ts) (qs:=qs) (f:=f) (i:=i+1 - (st+1)) λj a b=>Yb j a Z1;let q:=k d' H3 je;rw[rest n Z1,<- rest (i+1) Z1] at q;exact#[_,Z,q iA]
    ·have c:st+1≠eN r ts:=λz=>c (cc (by rw[z]));exact#[_,_,d',st+1,Z,je,iA,by omega,by omega,Yb]
  ·rintro σ H2 ⟨v6,v7,Ds,st,rfl,s2,e2,_⟩;rw[zd] at e2;exact#[_,Z,k Ds H2 s2 e2]
end
variable{ts:Xb}{hs:Xa}{ps:aC}
theorem Pw.take{f:ag}(P:Pw hs ts ps f)(n:Nat):Pw hs ts (ps.take n) f:=#[P.Gd,λq hq=>P.gp q (List.mem_of_mem_take hq),P.nd.sublist ((List.take_sublist n ps).map _),by rw[dg];have:=P.ib;omega,λm hm=>P.at_ m (((List.take_sublist n ps).map _).subset hm)]
theorem U0{ns:ae}(h:ns.Nodup)(f:ag):oW [] (bN ns f)=bN ns f:=xp (by
 unfold bN bH;rw[cm];exact oZ.mpr (h.imp λq e=>q (ij e)))
theorem hN_{α β:Type}{F:α->β->Prop}{ys:List α}{ts:List β}(t:Paired F ys ts){y:α}(h:ys[i]? = some y):∃x,ts[i]? = some x/\F y x:=by
 rw[<- List.map_id ts] at t;exact jr t h
variable{K:af}{d lp:Addr}{yp:ai}
theorem Xg{D:Addr}{ns:ae}{f:ag}{te:TE}{H:Hp}{Q:VK}{mM:St}(ve:mM=[none,some (.ref d)])(hl:H lp=some (.lst yp))(pc:As K H yp ps)(hd:H d=some (.dK (bN ns f)))(sub:∀n∈ps.map (·.1),n∈ns)(ib:ps.length<=30)(hD:H D=none)(h:∀a n x y H' Q',H' a=some (.tup [.str n,x,y])->cE H' d (.str n) (some (.str (f n)))->(∀t,H' t=none->Q' (.ref t) (upd H' t (.tup [.str n,.str (f n)])))->te [some (.ref a),some (.ref d)] H' Q')(k:∀out H',aa H H'->H' D=some (.lst out)->jz K H' out (bN (ps.map (·.1)) f)->Q (.ref D) H'):Ct (AX K lp) (mz 0) sT te mM D H Q:=by
 let sz:=b_
 let JS:dY:=λi out H'=>aa H H'/\H' D=some (.lst out)/\jz K H' out (bN ((ps.map (·.1)).take i) f)
 apply mJ (own:=1) (fv:=[some (.ref d)]) (xs:=yp) ve d_ JS #[aa.new hD,az,.nil] (λi out H' _ ⟨sm,_⟩=>.of (sm _ _ hl)) (λout H2 ⟨s2,hd2,pa⟩=>?_) (λi x out H' hx ⟨sm,iA,pa⟩=>?_)
 ·rw[bK pc,show ps.length=(ps.map (·.1)).length by rw[ao],dP] at pa;exact k out H2 s2 hd2 pa
 ·let#[p,hp,t,v,rfl,ht,wy]:=hN_ pc hx;have hn:(ps.map (·.1))[i]? = some p.1:=by rw[dW,hp];rfl
  have gd:cE H' d (.str p.1) (some (.str (f p.1))):=by
   rw[<- Ey (g:=λn=>V.str (f n)) (sub p.1 (cw hn))];exact .k (k:=Sum.inr p.1) (sm _ _ hd)
  apply#[_,Z,Z,λNx hN=>d9 ?_];apply h t p.1 _ _ H' _ (sm _ _ ht) gd λa na=>?_;let#[s3,e3]:=aB (o:=.tup [.str p.1,.str (f p.1)]) na;generalize upd H' a (.tup [.str p.1,.str (f p.1)])=H3 at s3 e3 ⊢;let d3:=s3 _ _ iA;let lo:=bK pa
  have pD:∀{b:Addr} {zs:ai},H3 b=some (.tup zs)->b≠D:=λhb z=>by
   rw[z,d3] at hb;cases hb
  apply#[out,d3,?_,hN (out++[.ref a]) _ #[gf (sm.trans s3) hD,az,?_]]
  ·rw[lo,gh,dg,ao];omega
  ·rw[fB hn];unfold bN bH;rw[cu];exact km (Paired.bx pa λy kv ⟨b,z,hb⟩=>#[b,z,by rw[au (pD (s3 _ _ hb))];exact s3 _ _ hb]) (.cons #[a,Z,by rw[au (pD e3)];exact e3] .nil)
theorem nD:bD [j8,"_law_hands",vA,"_law_pieces",i6] Ee (bb uz):=bJ
variable{P:Ae}{w:Af}{mg:Str->Option Aa}{base:Heap}
theorem kq_(F:bo K "_law_few" "_law_few" uz f0 fd)(B:Bi mg)(cG:!br 4 "_law_goods" Ee (IE K)):!aj aZ 5 f0 fd Ee (IE K):=by
 apply F.bI nD λaR A outer s H vs Q E hr h=>?_
 ·let#[l,lh,lt,yh,zs,hs,ts,rfl,st,h1,nh,h2,h3,nt,h4,G,k]:=h;let sz:=b_;let hu:=eU hr;refine' #[_,ak ?s1 (aF ?s2),?kk]
  case s1=>exact CB (aY cG hr %[0,1,2|0]) (jm Z (di (bU 3 nD.nd) (di (bU 4 nD.nd) iF)))
  case' s2=>refine' bh (eW %[xi C0 (pv 3) xb (xc aE),iD (vX Z) (by rfl) B.dict oV %[i8 qH 1 [4] (dF (xi C0 (pv 3) xb (xc aE))) (λfp s H=>fw (i:=0) (show (qH:ae).Nodup by decide +kernel) Z (Or.inl Z)) (λfp s H=>iY) (λfp s H=>?te)|0]|0])
  case te=>exact eW %[bO (yt (K:=K) jf eO) (pv 0) aE,cn hu (pv 1) (bO (yt (K:=K) jf eO) (pv 0) aE)|0]
  apply#[_,Z,_,Z,_,Z,l,lh,lt,yh,zs,hs,ts,Z,st,h1,nh,h2,h3,nt,h4,G,λt lp d yp ps f H3 b3 hJ ht fp fd wD i0 h5 h6 h7 gp nd ib at_=>?_];apply#[t,_,Z,.of ht,Z,_,_,Z,_,_,Z,Z,?_];dsimp only;have Pp:Pw hs ts ps f:=#[G,gp,nd,ib,at_];apply#[_,Z,_,Z,lp,_,Z,.of h5,λlq nq=>?_];rw[show gD yp none (some 12)=yp.take 12 from EE yp 12];let#[s4,e4]:=aB (o:=.lst (yp.take 12)) nq;generalize upd H3 lq (.lst (yp.take 12))=H4 at s4 e4 ⊢;apply#[_,Z,_,Z,lp,_,Z,.of (s4 _ _ h5),λlr nr=>?_];rw[show gD yp none (some 12)=yp.take 12 from EE yp 12];let#[s5,e5]:=aB (o:=.lst (yp.take 12)) nr;generalize upd H4 lr (.lst (yp.take 12))=H5 at s5 e5 ⊢;let jw:=s4.trans s5;let P2:=Pp.take 12;have Uo:As K H5 (yp.take 12) (ps.take 12):=IL 12 (Paired.bx h6 λy q x=>x.same jw);apply#[lr,Z,#[_,.of e5],λD hD=>?_];apply Xg Z e5 Uo (jw _ _ h7) (λn hn=>((List.take_sublist 12 ps).map _).subset hn) P2.ib hD (λa n x y H' Q' ha gd k=>?_) (λout H6 s6 d6 pa=>?_)
  ·exact#[_,Z,a,_,0,_,Z,Z,.of ha,Z,_,Z,_,Z,a,_,0,_,Z,Z,.of ha,Z,d,_,Z,gd,zl,k]
  ·have lk:(bN ((ps.take 12).map (·.1)) f).length<=1000:=by
    have:=P2.ib;rw[gh,ao];omega
   apply#[D,out,_,Z,d6,pa,lk,λd2 F4=>?_];rw[U0 P2.nd];let#[s7,e7]:=aB (o:=.dK (bN ((ps.take 12).map (·.1)) f)) F4;generalize upd H6 d2 (.dK (bN ((ps.take 12).map (·.1)) f))=H7 at s7 e7 ⊢;apply#[zl,λt2 yi=>?_];let s8:=aa.new (o:=.tup [.ref lq,.ref d2]) yi;let Ua:=(jw.trans (s6.trans s7)).trans s8;let#[xs,el]:=hJ.some;let NS:=(jw.trans s6).free F4;exact k t2 lq d2 _ _ f _ (b3.trans (aX.of Ua)) (hJ.same Ua) az (b3.free hJ nq) (b3.free hJ NS) (bq el nq).symm (bq el NS).symm (((s5.trans (s6.trans s7)).trans s8) _ _ e4) (Paired.bx Uo λy q x=>x.same ((s6.trans s7).trans s8)) (s8 _ _ e7) P2.gp P2.nd P2.ib P2.at_
def Lc(ms ns:ae)(f g:ag):Prop:=ms.length=ns.length/\(∀m∈ms,m∈ns)/\∀m∈ms,f m=g m
theorem Lc.all{ms ns:ae}{f g:ag}(h:Lc ms ns f g):(ms.all λn=>decide (f n=g n))=true:=List.all_eq_true.mpr λm hm=>cc (h.2.2 m hm)
inductive zK (x:V) (y:V) (H:Hp) (Q:VK):Prop
 |mk:∀(a b:Addr) (ms ns:ae) (f g:ag),x=.ref a->y=.ref b->H a=some (.dK (bN ms f))->H b=some (.dK (bN ns g))->Lc ms ns f g->Q (.bl false) H->zK x y H Q
variable{X:Cx}
theorem P8(hu:X.A.units<cLine):eP X (compareOp .NotEq) zK:=by
 intro pins s σ H x y v u Q I rx ry h;let#[a,b,ms,ns,f,g,rfl,rfl,ha,hb,so,q]:=h;cases rx;cases ry;let#[za,na,va,ra,da]:=qp I.aN (.inl ha);let#[zb,nb,vb,rb,db]:=qp I.aN (.inl hb);let la:=ra.length;let lb:=rb.length;rw[gh] at la lb;apply PySem.W.keq_ne na nb da db hu (r:=ms.all λn=>decide (f n=g n)) (λ_=>Ww rb ms va ra so.2.1) ⟨.bl false,H,I,?_,q⟩;rw[show (va.length == vb.length)=true by rw[<- la,<- lb,so.1];simp,Bool.true_and,so.all];rfl
variable{k:Nat}{x:Str}{sp:Sp}
theorem mo_{n_:Nat}{p pos:Pos}(c:br X.prog X.w X.K X.mg X.base k x [] sp)(hr:ba n_ X.A)(hg:Gl X x:=by rfl)(oJ:(x == ("__debug__":Str))=false:=by decide)(hk:k<=n_:=by decide):PE X (.Call (.Name x p) [] [] pos) (pC sp [] E0 jI):=by
 let#[f,fd,F,m,kp,b]:=c.ex;exact jM_ F (hr.mono hk) hg m kp b .nil kK oJ
theorem mA_{r:Int}(h0:0<=r)(h1:r<17):∃q∈rl,gF ((rZ 3).map V.str) r=some (.str q.1):=by
 let len:=l4_;let#[k,rfl]:=qB h0;have hk:k<(rZ 3).length:=by omega
 let#[q,hq,e]:=mn_ _ (js hk);apply⟨q,hq,?_⟩;rw[e];exact L2.iT (by rw[dW,dG hk];rfl)
variable{qs:aC}
theorem VB(Q:Qs ps qs)(f:ag):Lc (qs.map (·.1)) (ps.map (·.1)) f f:=by
 apply⟨?_,λm hm=>?_,λ_ _=>rfl⟩
 ·rw[Q.p_];exact (gq _).length_eq
 ·rw[Q.p_] at hm;exact (gq _).mem_iff.mp hm
structure xB (K:af) (H:Hp) (lh lt lp d:Addr) (yh zt yp:ai) (hs:Xa) (ts:Xb) (ps:aC) (f:ag):Prop where
 hh:H lh=some (.lst yh)
 th:bg K H yh (hs.map kH)
 ht:H lt=some (.lst zt)
 tt:bg K H zt (ts.map kT)
 hp:H lp=some (.lst yp)
 pc:As K H yp ps
 hd:H d=some (.dK (bN (ps.map (·.1)) f))
variable{G H:Hp}{f:ag}{lh lt:Addr}{yh zt:ai}
theorem xB.nt(W:xB K H lh lt lp d yh zt yp hs ts ps f)(s:NT H G):xB K G lh lt lp d yh zt yp hs ts ps f:=
 ⟨s.lst W.hh,Vu W.th s,s.lst W.ht,Vu W.tt s,s.lst W.hp,Paired.bx W.pc λy q ⟨t,v,e,ht,wy⟩=>⟨t,v,e,s.tup ht,wy.nt s⟩,s.dK W.hd⟩
variable{l:Addr}
theorem xB.mv(W:xB K H lh lt lp d yh zt yp hs ts ps f)(b:aX l H G)(st:dJ H l)(n1:lh≠l)(n2:lt≠l)(n3:lp≠l)(n4:d≠l):xB K G lh lt lp d yh zt yp hs ts ps f:=by
 let#[xs,hl]:=st.some;exact⟨b _ _ W.hh n1,vU W.th b hl,b _ _ W.ht n2,vU W.tt b hl,b _ _ W.hp n3,Paired.bx W.pc λy q ⟨t,v,e,ht,wy⟩=>⟨t,v,e,b _ _ ht (cj ht hl nofun),wy.mv b st⟩,b _ _ W.hd n4⟩
variable{T a:Addr}{q:Str}
theorem VM(t:ee H T q)(b:aX a H G)(h:∀vs,H a≠some (.tbl vs))(h2:∀c q,H a≠some (yP c q)):ee G T q:=by
 let#[es,e,z]:=t;exact⟨es,b _ _ e (λy=>h _ (y▸e)),λx hx=>b _ _ (z x hx) (λy=>h2 x.2 q (y▸z x hx))⟩
variable{T1 T2:Addr}
theorem Vk{o:HO}(t:Tb H T1 T2)(b:aX a H G)(e:H a=some o)(h:∀vs,o≠.tbl vs)(h2:∀c q,o≠yP c q):Tb G T1 T2:=⟨VM t.a b (λvs z=>h vs (eK (e.symm.trans z))) (λc q z=>h2 c q (eK (e.symm.trans z))),VM t.b b (λvs z=>h vs (eK (e.symm.trans z))) (λc q z=>h2 c q (eK (e.symm.trans z))),t.ne⟩
structure Sq (K:af) (CG CW T1 T2:Addr) (H0 H:Hp) (l g p d wa dh dd:Addr) (hs:Xa) (ts:Xb) (ps qs:aC) (fp:ay) (f h:ag):Prop where
 n0:NT H0 H
 tb:Tb H T1 T2
 st:dJ H l
 S:xy K CG CW H g p d hs ts qs fp (ps.map (·.1)) f
 W:jC K H wa hs ts ps
 hh:H dh=some (.dK (bN (ps.map (·.1)) f))
 hq:H dd=some (.dK (bN (ps.map (·.1)) h))
variable{CG CW dd dh g p wa:Addr}{H0:Hp}{fp:ay}{h:ag}
theorem Sq.bt(Q:Sq K CG CW T1 T2 H0 H l g p d wa dh dd hs ts ps qs fp f h)(b:BT T1 T2 H G)(t:Tb G T1 T2):Sq K CG CW T1 T2 H0 G l g p d wa dh dd hs ts ps qs fp f h:=
 let s:=b.nt Q.tb
 ⟨Q.n0.trans s,t,Q.st.nt s,Q.S.nt s,Q.W.nt s,s.dK Q.hh,s.dK Q.hq⟩
theorem Sq.same(Q:Sq K CG CW T1 T2 H0 H l g p d wa dh dd hs ts ps qs fp f h)(s:aa H G):Sq K CG CW T1 T2 H0 G l g p d wa dh dd hs ts ps qs fp f h:=Q.bt (BT.of s) (Q.tb.same s)
theorem Sq.mv(Q:Sq K CG CW T1 T2 H0 H l g p d wa dh dd hs ts ps qs fp f h)(b:aX l H G)(s:dJ G l)(nl:H0 l=none)(lfp:l∉fp):Sq K CG CW T1 T2 H0 G l g p d wa dh dd hs ts ps qs fp f h:=by
 let#[xs,hl]:=Q.st.some;have kd:∀{c:Addr} {kvs:List (Key × V)},H c=some (.dK kvs)->G c=some (.dK kvs):=λe=>b _ _ e (cj e hl nofun);exact#[λc o e n=>b c o (Q.n0 c o e n) (bq e nl),Vk Q.tb b hl nofun (by intro c q z;cases z),s,Q.S.mv b Q.st lfp (cj Q.S.hd hl nofun),Q.W.mv b Q.st,kd Q.hh,kd Q.hq]
theorem Sq.Km(Q:Sq K CG CW T1 T2 H0 H l g p d wa dh dd hs ts ps qs fp f h){ns:ae}{f':ag}(fr:a∉fp)(e:H a=some (.dK (bN ns f')))(so:QN hs qs ns f'):xy K CG CW H g p a hs ts qs fp ns f':=#[Q.S.G,fr,e,so,Q.S.has]
abbrev lwN:ae:=[yO,"_law_k",j8,"_law_hands",vA,"_law_pieces",i6,"_law_rule","_law_great","_law_moments",f_,"_law_goods_here","_law_handed","_law_due",rG,"_law_ahead","_law_half"]
theorem j0:bD lwN [yO] (bb iI):=bJ
def pI(K:af)(T1 T2:Addr):Sp:=λvs H Q _=>∃(a:Addr) (ns:List Int),vs=[.ref a]/\Tb H T1 T2/\eG K H a (ns.map V.int)/\ns.length<=63/\∀H',Q (.bl true) H'
theorem lK_(F:bo K "law" "law" iI f0 fd)(B:Bi mg)(cC:!br 1 "_law_cell_at" qD (tO K))(Sr:!br 1 "_law_state" ["_law_cell","_law_k"] pG)(cD:!br 2 yN Ap CO)(cL:!br 4 "_law_web" [j8] (tK K))(SJ:!br 5 "_law_few" Ee (IE K))(Sm:!br 1 "_law_world" wb (P9 K))(Sv:!br 1 "_law_rules" [] Xn)(cTu:!br 2 "_law_turn" lQ (LM K))(SW:!br 6 "_law_after" we (RR K))(Sx:!o9 CW 5 "Web" ["self","hands","ties"] (m_ K CW))(SK:!o9 CG 7 "Goods" ["self","web","pieces"] (QP K CG CW))(Iw:!br 10 "stand_after" vZ (Qo K CG CW T1 T2)):!aj aZ 11 f0 fd [yO] (pI K T1 T2):=by
 apply F.bI j0 λaR A outer s H vs Q E hr h=>?_
 ·let#[ls,ns,rfl,tb,yy,h63,k]:=h;let sz:=b_;let hu:=eU hr;let OE:=hr.A1;refine' #[_,ak ?s1 (aF (bh Cm)),?kk]
  case' s1=>refine' eM dX Z ?i3 (bU 1 j0.nd) ?b0
  case i3=>exact EB (by rfl) B.range %[bF iV aE (cX (i1_ Z) (by rfl) B.min PyProof.Rows.Boot.«min» %[cX lM (by rfl) B.len jk %[0|0],aE|0])|0]
  case' b0=>refine' ak ?b1 ?c1
  case' c1=>refine' ak ?b2 ?c2
  case' c2=>refine' ak ?b3 ?c3
  case' c3=>refine' ak ?b4 ?c4
  case' c4=>refine' ak ?b5 ?c5
  case' c5=>refine' ak ?b6 ?c6
  case' c6=>refine' ak ?b7 ?c7
  case' c7=>refine' ak ?b8 ?c8
  case' c8=>refine' ak ?b9 ?c9
  case' c9=>refine' ak ?lJ ?c10
  case' c10=>refine' ak ?EO ?c11
  case' c11=>refine' ak ?EN ?c12
  case' c12=>refine' ak ?EM ?c13
  case' c13=>refine' ak ?oX ?c14
  case' c14=>refine' ak ?vV ?c15
  case' c15=>refine' aF ?EL
  case b1=>exact aQ 2 j0.nd (aY Sr hr %[aY cC hr %[0,1|0],1|0])
  case b2=>exact CB (aY cL hr %[2|0]) (jm Z (di (bU 3 j0.nd) (di (bU 4 j0.nd) iF)))
  case b3=>exact CB (aY SJ hr %[2,3,4|0]) (jm Z (di (bU 5 j0.nd) (di (bU 6 j0.nd) iF)))
  case b4=>exact aQ 7 j0.nd (bO fV (mo_ Sv hr) (aY cD hr %[2,aE|0]))
  case b5=>exact aQ 8 j0.nd (bO fV (cO %[aE,aE|0]) (iD EC (by rfl) B.int CL %[iG KO (cX lM (by rfl) B.len jk %[3|0]) aE|0]))
  case b6=>exact aQ 9 j0.nd (bO fV (cO %[aY cD hr %[2,aE|0],aY cD hr %[2,aE|0],8|0]) (bF vL (aY cD hr %[2,aE|0]) aE))
  case' b7=>refine' bQ (cz rF (pv 9) aE) (ak ?d1 (aF ?d2)) bR
  case d1=>exact aQ 5 j0.nd (xi C0 (pv 5) xb (xc aE))
  case' d2=>refine' aQ 6 j0.nd (iD (vX Z) (by rfl) B.dict oV %[i8 qH 1 [6] (dF (pv 5)) (λfp s H=>fw (i:=0) (show (qH:ae).Nodup by decide +kernel) Z (Or.inl Z)) (λfp s H=>iY) (λfp s H=>?te)|0])
  case te=>exact eW %[bO (yt (K:=K) jf eO) (pv 0) aE,cn hu (pv 1) (bO (yt (K:=K) jf eO) (pv 0) aE)|0]
  case b8=>exact aQ 10 j0.nd (aY Sm hr %[3,4,5|0])
  case b9=>exact aQ 11 j0.nd (N_ SK hr %[N_ Sx hr %[3,4|0],5|0])
  case lJ=>exact aQ 12 j0.nd (iD SG (by rfl) B.dict oV %[6|0])
  case EO=>exact aQ 13 j0.nd (aY SW hr %[10,6,7,9|0])
  case EN=>exact aQ 14 j0.nd (aY Iw hr %[11,12,7,9|0])
  case EM=>exact bQ (Ax (cz (P8 OE) (pv 14) (pv 13)) (AH (cz (P8 OE) (pv 12) (pv 6)))).pt fF bR
  case oX=>exact hZ (ml_ PySem.F.plainAttrs_dict PySem.F.slot_dict_clear PySem.F.type_dict_clear h9_ (pv 14))
  case vV=>exact aQ 15 j0.nd (bF ji (aY cD hr %[2,aE|0]) (aY cTu hr %[10,7|0]))
  case' EL=>refine' bQ (cz wU (pv 15) (pv 9)) (ak ?e1 (aF ?e2)) bR
  case e1=>exact aQ 16 j0.nd (aY Iw hr %[11,12,7,15|0])
  case e2=>exact bQ (cz (P8 OE) (aY Iw hr %[11,16,7,bF Hy (pv 9) (pv 15)|0]) (pv 13)) fF bR
  have qh:(ns.map V.int).length<=63:=by rw[ao];exact h63
  apply dB (λσ H'=>True) (λσ H' _=>k _) (λN hN=>?_)
  obtain⟨cnt,c4,ec⟩:∃c:Nat,c<=4/\(1+(if (2:Int)<((ns.map V.int).length:Int) then (2:Int) else ((ns.map V.int).length:Int)))=(c:Int):=by
   by_cases c:(2:Int)<((ns.map V.int).length:Int)
   ·rw[aA c];exact#[3,by decide,Z]
   ·rw[aq c];exact#[1+(ns.map V.int).length,by omega,by omega]
  apply#[_,Z,ls,_,Z,.inl yy,_,_,Z,_,_,Z,Z,(cnt:Int),d8 (λz=>[V.int z]) ec,by omega,by omega,?_]
  let JR:bL:=λi σ H'=>NT H H'/\Tb H' T1 T2/\∃v1 v2 v3 v4 v5 v6 v7 v8 v9 v10 v11 wz wx rX qR qQ:aK,σ=[some (.ref ls),v1,v2,v3,v4,v5,v6,v7,v8,v9,v10,v11,wz,wx,rX,qR,qQ]
  apply RT JR #[NT.refl H,tb,none,none,none,none,none,none,none,none,none,none,none,none,none,none,none,none,Z] ?_ (λσ H' _=>hN _ _ trivial);rintro i σ H0 hi ⟨NG,_O,v1,v2,v3,v4,v5,v6,v7,v8,v9,v10,v11,wz,wx,rX,qR,qQ,rfl⟩;lk;rw[zd] at hi
  let JQ:ck:=λσ H'=>∃l,aa H0 H'/\H0 l=none/\dJ H' l/\σ=[some (.ref ls),some (.int i),some (.ref l),v3,v4,v5,v6,v7,v8,v9,v10,v11,wz,wx,rX,qR,qQ]
  apply dB JQ ?m2 (λN1 ie=>?m1)
  case m1=>
   apply#[_,Z,_,Z,ls,ns,_,Z,by omega,lM_ NG yy,λc=>?_];apply#[_,Z,c,i,by rw[Int.zero_add];rfl,by omega,λl H1 s1 nl st=>ie _ _ #[l,s1,nl,st,?_]];show [some (V.ref ls),some (V.int (0+(i:Int))),some (V.ref l),v3,v4,v5,v6,v7,v8,v9,v10,v11,wz,wx,rX,qR,qQ]=_;rw[Int.zero_add]
  rintro σ H1 ⟨l,s1,nl,ma,rfl⟩
  let JP:ck:=λσ H'=>∃(lh lt:Addr) (ys zs:ai) (hs:Xa) (ts:Xb),aa H0 H'/\dJ H' l/\lh≠l/\lt≠l/\H' lh=some (.lst ys)/\bg K H' ys (hs.map kH)/\H' lt=some (.lst zs)/\bg K H' zs (ts.map kT)/\Good hs ts/\σ=[some (.ref ls),some (.int i),some (.ref l),some (.ref lh),some (.ref lt),v5,v6,v7,v8,v9,v10,v11,wz,wx,rX,qR,qQ]
  apply dB JP ?m4 (λN1 ie=>?m3)
  case m3=>
   apply#[_,Z,l,Z,ma,λt lh lt ys zs hs ts H2 b2 fI ht fh ft nht zQ zP h1 h2 h3 h4 G=>?_];exact#[t,_,Z,.of ht,Z,_,_,Z,_,_,Z,Z,ie _ _ #[lh,lt,ys,zs,hs,ts,b2.same nl s1,fI,zQ,zP,h1,h2,h3,h4,G,Z]]
  rintro σ H2 ⟨lh,lt,yh,zt,hs,ts,s2,fI,zQ,zP,h1,h2,h3,h4,G,rfl⟩
  let JO:ck:=λσ H'=>∃(lp d:Addr) (yp:ai) (ps:aC) (f:ag),aa H0 H'/\dJ H' l/\lp≠l/\d≠l/\xB K H' lh lt lp d yh zt yp hs ts ps f/\Pw hs ts ps f/\σ=[some (.ref ls),some (.int i),some (.ref l),some (.ref lh),some (.ref lt),some (.ref lp),some (.ref d),v7,v8,v9,v10,v11,wz,wx,rX,qR,qQ]
  apply dB JO ?m6 (λN1 ie=>?m5)
  case m5=>
   apply#[_,Z,_,Z,_,Z,l,lh,lt,yh,zt,hs,ts,Z,fI,h1,zQ,h2,h3,zP,h4,G,λt lp d yp ps f H3 b3 hJ ht fp fd wD i0 h5 h6 h7 gp nd ib at_=>?_];let#[Kg,wK]:=fI.some;exact#[t,_,Z,.of ht,Z,_,_,Z,_,_,Z,Z,ie _ _ #[lp,d,yp,ps,f,b3.same nl s2,hJ,wD,i0,#[b3 _ _ h1 zQ,vU h2 b3 wK,b3 _ _ h3 zP,vU h4 b3 wK,h5,h6,h7],#[G,gp,nd,ib,at_],Z]]
  clear h1 h2 h3 h4 ma fI s1 s2;rintro σ Ha ⟨lp,d,yp,ps,f,sa,M5,wD,i0,Da,Pp,rfl⟩
  let JN:ck:=λσ H'=>∃r∈rl,aa H0 H'/\dJ H' l/\xB K H' lh lt lp d yh zt yp hs ts ps f/\σ=[some (.ref ls),some (.int i),some (.ref l),some (.ref lh),some (.ref lt),some (.ref lp),some (.ref d),some (.str r.1),v8,v9,v10,v11,wz,wx,rX,qR,qQ]
  apply dB JN ?m8 (λN1 ie=>?m7)
  case m7=>
   apply#[Z,λlr Hb sb r_ er=>?_];let T7:=M5.same sb;let#[Kg,wK]:=M5.some;apply#[_,Z,l,17,Z,by decide,by decide,T7,λz Hc z0 z1 bc _V=>?_];let#[r,iN,er']:=mA_ z0 z1;exact#[lr,_,_,_,Z,Z,.of (bc _ _ er (bq wK r_).symm),er',ie _ _ #[r,iN,bc.same nl (sa.trans sb),_V,(Da.nt (NT.of sb)).mv bc T7 zQ zP wD i0,Z]]
  clear Da M5 sa;rintro σ H3 ⟨r,mj,s3,hJ,D3,rfl⟩;apply#[zl,λlx nx=>?_];let#[sx,ex]:=aB (o:=.lst [.int 60,.int 400]) nx;generalize upd H3 lx (.lst [.int 60,.int 400])=H4 at sx ex ⊢;let D4:=D3.nt (NT.of sx);apply#[_,Z,lh,_,Z,.inl (.of D4.hh),_,_,Z,Z,.inr #[_,Z,?_]]
  obtain⟨gr,hgr,g4⟩:∃gr:Nat,gF [V.int 60,.int 400] (if decide ((yh.length:Int)<4)=true then 1 else 0)=some (.int (gr:Int))/\gr<=400:=by
   split
   ·exact#[400,Z,by decide]
   ·exact#[60,Z,by decide]
  apply#[lx,_,_,_,Z,Z,.of ex,hgr,?_];lk;let s4:=s3.trans sx;let h_:=hJ.same sx
  let JM:ck:=λσ H'=>∃n:Nat,n<=400/\aa H0 H'/\dJ H' l/\xB K H' lh lt lp d yh zt yp hs ts ps f/\σ=[some (.ref ls),some (.int i),some (.ref l),some (.ref lh),some (.ref lt),some (.ref lp),some (.ref d),some (.str r.1),some (.int (gr:Int)),some (.int (n:Int)),v10,v11,wz,wx,rX,qR,qQ]
  apply dB JM ?UH (λN1 ie=>?m9)
  case m9=>
   apply#[_,Z,l,9,Z,by decide,by decide,h_,λa1 H5 p0 p1 b5 fX=>?_];apply#[_,Z,l,41,Z,by decide,by decide,fX,λa2 H6 p2 p3 b6 jv=>?_];apply#[_,Z,zl,λlz nz=>?_];let s6:=b6.same nl (b5.same nl s4);let D6:=(D4.mv b5 h_ zQ zP wD i0).mv b6 fX zQ zP wD i0;let#[s7,e7]:=aB (o:=.lst [.int a1,.int a2,.int gr]) nz;let#[xs6,V6]:=jv.some;have lzl:lz≠l:=(bq V6 nz).symm;generalize upd H6 lz (.lst [.int a1,.int a2,.int gr])=H7 at s7 e7 ⊢;apply#[_,Z,l,8,Z,by decide,by decide,jv.same s7,λa3 H8 p4 p5 b8 xO=>?_]
   obtain⟨n,hn,n4⟩:∃n:Nat,gF [V.int a1,.int a2,.int gr] (a3 / 3)=some (.int n)/\n<=400:=by
    have:a3 / 3=0∨a3 / 3=1∨a3 / 3=2:=by omega
    let#[a1,rfl]:=qB p0;let#[a2,rfl]:=qB p2;rcases this with e|e|e
    ·rw[e];exact#[a1,Z,by omega]
    ·rw[e];exact#[a2,Z,by omega]
    ·rw[e];exact#[gr,Z,g4]
   apply#[_,_,Z,Z,by constructor<;>decide,lz,_,_,_,Z,Z,.of (b8 _ _ e7 lzl),hn,?_]
   apply setG ?_;exact ie _ _ #[n,n4,b8.same nl (s6.trans s7),xO,(D6.nt (NT.of s7)).mv b8 (jv.same s7) zQ zP wD i0,Z]
  clear D3 D4 s3 s4 hJ h_ sx ex;rintro σ H5 ⟨n,n4,s5,fX,D5,rfl⟩
  let JL:ck:=λσ H'=>∃(lp d:Addr) (yp:ai) (ps:aC),aa H0 H'/\dJ H' l/\lp≠l/\d≠l/\xB K H' lh lt lp d yh zt yp hs ts ps f/\Pw hs ts ps f/\σ=[some (.ref ls),some (.int i),some (.ref l),some (.ref lh),some (.ref lt),some (.ref lp),some (.ref d),some (.str r.1),some (.int (gr:Int)),some (.int (n:Int)),v10,v11,wz,wx,rX,qR,qQ]
  apply dB JL ?yo (λN1 ie=>?N4)
  case N4=>
   apply#[_,Z,_,_,Z,Z,_,Z,?_];apply aP (λc=>?_) (λc=>?_)
   ·apply#[_,Z,_,Z,lp,_,Z,.of D5.hp,λlq nq=>?_];rw[show gD yp none (some 2)=yp.take 2 from EE yp 2];let#[s6,e6]:=aB (o:=.lst (yp.take 2)) nq;generalize upd H5 lq (.lst (yp.take 2))=H6 at s6 e6 ⊢;lk;let D6:=D5.nt (NT.of s6);let P2:=Pp.take 2;have Um:As K H6 (yp.take 2) (ps.take 2):=IL 2 D6.pc;let#[Z6,vn]:=fX.some;apply#[_,Z,lq,Z,#[_,.of e6],λD hD=>?_];apply Xg Z e6 Um D6.hd (λn hn=>((List.take_sublist 2 ps).map _).subset hn) P2.ib hD (λa n x y H' Q' ha gd k=>?_) (λout H7 s7 d7 pa=>?_)
    ·exact#[_,Z,a,_,0,_,Z,Z,.of ha,Z,_,Z,_,Z,a,_,0,_,Z,Z,.of ha,Z,d,_,Z,gd,zl,k]
    ·have lk:(bN ((ps.take 2).map (·.1)) f).length<=1000:=by
      have:=P2.ib;rw[gh,ao];omega
     apply#[D,out,_,Z,d7,pa,lk,λd2 F4=>?_];rw[U0 P2.nd];let#[s8,e8]:=aB (o:=.dK (bN ((ps.take 2).map (·.1)) f)) F4;generalize upd H7 d2 (.dK (bN ((ps.take 2).map (·.1)) f))=H8 at s8 e8 ⊢;apply setG ?_;let j6:=s7.trans s8;let Nn:=s6.trans j6;let D8:=D5.nt (NT.of Nn);exact ie _ _ #[lq,d2,_,_,s5.trans Nn,fX.same Nn,(bq vn nq).symm,(bq vn ((s6.trans s7).free F4)).symm,#[D8.hh,D8.th,D8.ht,D8.tt,j6 _ _ e6,Paired.bx Um λy q x=>x.same j6,e8],P2,Z]
   ·exact ie _ _ #[lp,d,yp,ps,s5,fX,wD,i0,D5,Pp,Z]
  clear D5 s5 fX wD i0 Pp;rintro σ H6 ⟨lp,d,yp,ps,s6,jv,wD,i0,D6,Pp,rfl⟩;apply#[_,Z,_,Z,_,Z,lh,lt,lp,yh,zt,yp,hs,ts,ps,Z,D6.hh,D6.th,D6.ht,D6.tt,D6.hp,D6.pc,G,Pp.nd,Pp.ib,λwa H3 Kt nwa WA=>?_];lk;let D3:=D6.nt (NT.of Kt);let hJ:=jv.same Kt;let s3:=s6.trans Kt;clear D6 jv s6 Kt nwa
  let JK:ck:=λσ H'=>∃(g p:Addr) (qs:aC) (fp:ay),aa H3 H'/\xy K CG CW H' g p d hs ts qs fp (ps.map (·.1)) f/\Qs ps qs/\l∉fp/\σ=[some (.ref ls),some (.int i),some (.ref l),some (.ref lh),some (.ref lt),some (.ref lp),some (.ref d),some (.str r.1),some (.int (gr:Int)),some (.int (n:Int)),some (.ref wa),some (.ref g),wz,wx,rX,qR,qQ]
  apply dB JK ?UG (λN1 ie=>?NZ)
  case NZ=>
   let h7:=D3.hd;apply#[_,Z,_,Z,λp dx hp Pi ne=>?_];have s4:aa H3 (upd (upd H3 dx (.own p)) p (.ins CW dx [])):=(aa.new Pi).trans (aa.new (by rw[au ne.symm];exact hp));apply#[p,dx,lh,lt,yh,zt,hs,ts,Z,az,s4 _ _ D3.hh,D3.th.same s4,s4 _ _ D3.ht,D3.tt.same s4,G,λcK H5 kp W fr=>#[Z,?_]];have jw:aa H3 H5:=λb o e=>kp b o (s4 _ _ e) (bq e hp)
   have dfw:d∉cK:=λm=>by
    rcases fr d m with z|z
    ·rw[z] at h7;rw[h7] at hp;cases hp
    ·rw[s4 _ _ h7] at z;cases z
   apply#[_,Z,λg Ay hg Ph ne2=>?_];have s6:aa H5 (upd (upd H5 Ay (.own g)) g (.ins CG Ay [])):=(aa.new Ph).trans (aa.new (by rw[au ne2.symm];exact hg));let Du:=jw.trans s6;have e6:upd (upd H5 Ay (.own g)) g (.ins CG Ay []) g=some (.ins CG Ay []):=az
   have gfw:g∉cK:=λm=>by
    let#[o,e,_]:=W.yG m;rw[e] at hg;cases hg
   generalize upd (upd H5 Ay (.own g)) g (.ins CG Ay [])=H6 at s6 e6 Du ⊢;apply#[g,Ay,p,lp,yp,ps,hs,ts,cK,Z,e6,W.same s6,gfw,G,Du _ _ D3.hp,Paired.bx D3.pc λy q x=>x.same Du,Pp.gp,Pp.nd,by have:=Pp.ib;omega,λqs fp H7 kg GA Qq fg=>#[Z,?_]];have Ub:aa H3 H7:=λb o e=>kg b o (Du _ _ e) (λz=>by rw[z] at e;rw[jw _ _ e] at hg;cases hg)
   have qo:d∉fp:=λm=>by
    rcases fg d m with z|z|z
    ·rw[z] at h7;rw[jw _ _ h7] at hg;cases hg
    ·exact dfw z
    ·rw[Du _ _ h7] at z;cases z
   let#[xs3,rC]:=hJ.some
   have lfp:l∉fp:=λm=>by
    rcases fg l m with z|z|z
    ·rw[z] at rC;rw[jw _ _ rC] at hg;cases hg
    ·rcases fr l z with z|z
     ·rw[z] at rC;rw[rC] at hp;cases hp
     ·rw[s4 _ _ rC] at z;cases z
    ·rw[Du _ _ rC] at z;cases z
   let#[Hv,GA',sub,has]:=GA.yG;apply ie _ _ #[g,p,qs,Hv,Ub,#[GA',λm=>qo (sub d m),Ub _ _ h7,#[?_,λn hn=>Pp.at_ n hn],has],Qq,λm=>lfp (sub l m),Z];rw[Qq.p_];exact (gq _).symm
  rintro σ H4 ⟨g,p,qs,fp,eY,S,Qq,lfp,rfl⟩
  have wd:Wd hs ts qs f:=#[G,Qq.nd Pp.nd,by rw[Qq.len];have:=Pp.ib;omega,λn hn=>Pp.at_ n (Qq.Vv hn),λq hq=>by
   let#[p,hp,e]:=Qq.mem q hq;have:=Pp.gp p hp;rw[e];exact#[by have:=this.w1;show 0<=p.2.1;omega,this.w2]]
  let jd:=s3.trans eY;let h_:=hJ.same eY;let W4:=WA.nt (NT.of eY);clear D3 WA hJ;apply#[_,Z,d,_,Z,.inl S.hd,λdh Uw=>?_];let#[s5,e5]:=aB (o:=.dK (bN (ps.map (·.1)) f)) Uw;show mP _ _ _ _ (upd H4 dh (.dK (bN (ps.map (·.1)) f)));generalize upd H4 dh (.dK (bN (ps.map (·.1)) f))=H5 at s5 e5 ⊢;apply setG (i:=12) (v:=.ref dh) ?_;dsimp only
  have NN:∀{a:Addr},H4 a=none->a∉fp:=λna m=>by
   let#[o,e,_]:=S.has _ m;rw[e] at na;cases na
  apply#[_,Z,_,Z,_,Z,_,Z,wa,d,n,hs,ts,ps,qs,f,r,mj,Z,by omega,#[W4.nt (NT.of s5),Pp,Qq,wd,s5 _ _ S.hd],λdd H6 s6 B9=>?_];lk;let uF:=s5.trans s6;have Q6:Sq K CG CW T1 T2 H0 H6 l g p d wa dh dd hs ts ps qs fp f (runM r hs ts qs f n):=#[NT.of (jd.trans uF),_O.same (jd.trans uF),h_.same uF,S.nt (NT.of uF),W4.nt (NT.of uF),s6 _ _ e5,B9];have nfp6:∀{a:Addr},H6 a=none->a∉fp:=λna=>NN (uF.free na);let YR:=NN Uw;clear W4 h_ jd eY s3 NN;apply#[_,Z,_,Z,_,Z,_,Z,g,p,dh,n,hs,ts,qs,fp,_,f,r,mj,Z,by omega,Q6.Km YR Q6.hh Q6.S.so,wd,Q6.tb,λff H7 b7 MK nff He=>?_];lk;let Q7:=Q6.bt b7 MK
  let JJ:ck:=λσ H'=>H7=H'/\σ=[some (.ref ls),some (.int i),some (.ref l),some (.ref lh),some (.ref lt),some (.ref lp),some (.ref d),some (.str r.1),some (.int (gr:Int)),some (.int (n:Int)),some (.ref wa),some (.ref g),some (.ref dh),some (.ref dd),some (.ref ff),qR,qQ]
  apply dB JJ ?UF (λN1 ie=>?NY)
  case NY=>
   apply#[_,Z,_,Z,ff,dd,_,_,_,_,Z,Z,He,Q7.hq,VB Qq _,_,Z,bu ?_];apply#[_,Z,_,Z,dh,d,_,_,_,_,Z,Z,Q7.hh,Q7.S.hd,#[Z,λ_ h=>h,λ_ _=>rfl],_,Z,bu ?_];exact ie _ _ #[Z,Z]
  rintro σ _ ⟨rfl,rfl⟩;apply#[_,Z,.inr (.inr (.inl #[Z,.inl #[_,He]])),ff,_,Z,Z,He,?_];have b8:aX ff H7 (upd H7 ff (.dK [])):=aX.upd;let TU:=Vk MK b8 He nofun (by intro c q z;cases z);generalize upd H7 ff (.dK [])=H8 at b8 TU ⊢;let Q8:=Q6.bt (λb o e n1 n2=>b8 b o (b7 b o e n1 n2) (bq e nff)) TU;clear Q7 b7 b8 He MK;apply#[_,Z,l,3,Z,by decide,by decide,Q8.st,λa1 H9 p0 p1 b9 tF=>?_];let Q9:=Q8.mv b9 tF nl lfp;let#[j,rfl]:=qB p0;apply#[_,Z,_,Z,wa,hs,ts,ps,r,mj,Z,Q9.W,G,λHA sA=>?_];let QA:=Q9.same sA;apply#[_,_,Z,Z,.inl #[by omega,by omega],?_];lk;rw[<- Int.natCast_mul];clear Q8 Q9 tF b9 sA;apply#[_,Z,_,Z,_,_,Z,Z,_,Z,?_];apply aP (λc=>?_) (λc=>?_)
  ·have c:j * eN r ts<=n:=by
    have c:((j * eN r ts:Nat):Int)<=(n:Int):=jB c;omega
   apply#[_,Z,_,Z,_,Z,_,Z,g,p,dh,j * eN r ts,hs,ts,qs,fp,_,f,r,mj,Z,by omega,QA.Km YR QA.hh QA.S.so,wd,QA.tb,λhf HB bB _M Ut hhf=>?_];lk;let QB:=QA.bt bB _M
   have DM:hf∉fp:=λm=>by
    let#[o,e,_]:=QA.S.has _ m;rw[e] at Ut;cases Ut
   let TK:=wd.run r (j * eN r ts);apply#[_,Z,_,Z,_,Z,_,Z,_,Z,_,_,Z,Z,g,p,hf,n - j * eN r ts,hs,ts,qs,fp,_,_,r,mj,?_,by omega,QB.Km DM hhf #[List.Perm.refl _,TK.at_],TK,QB.tb,λhz HC bC _L nhz Wc=>?_]
   ·rw[show (n:Int) - ((j * eN r ts:Nat):Int)=((n - j * eN r ts:Nat):Int) by omega];rfl
   let QC:=QB.bt bC _L;rw[WC,show j * eN r ts+(n - j * eN r ts)=n by omega] at Wc;apply#[_,Z,hz,dd,_,_,_,_,Z,Z,Wc,QC.hq,VB Qq _,_,Z,bu ?_];exact#[NG.trans QC.n0,QC.tb,_,_,_,_,_,_,_,_,_,_,_,_,_,_,_,_,Z]
  ·exact#[NG.trans QA.n0,QA.tb,_,_,_,_,_,_,_,_,_,_,_,_,_,_,_,_,Z]
structure Fd (K:af) (mg:Str->Option Aa) (x:Str) (st:Stmt):Prop where
 ex:∃f fd,bo K x x st f fd/\mg x=some (.ref f)/\PySem.W.keepIn K (.ref f)=true
variable{f:Addr}{h:Heap}{st:Stmt}{aR ct doc oc pm:Aa}{an od:Option Addr}{mh:Array (Option Aa)}
theorem Hw(X:K.In h)(G:h.Ns mainGlobals mg){kV:Aa}(a:PySem.W.nsIn K mainGlobals x=some (some (.ref f)))(l:K.lookup f=some #[oc,od,.func (PySem.W.fnOf x x (j_ st) (i5 st) (bb st) .none kV doc pm an aR ct),mh])(c:PySem.W.codeIn K aR x=true)(k:PySem.W.keepIn K (.ref f)=true):Fd K mg x st:=#[_,_,Ov l c k,PySem.W.mg_of X G a,k]
structure Md (K:af) (C:Addr) (m qual:Str) (st:Stmt):Prop where
 ex:∃f fd,bo K m qual st f fd/\Meth K C m f
variable{m qual:Str}{C:Addr}
theorem F6{kV:Aa}(a:PySem.W.findIn K (.ref C) m=some (some (.ref f)))(i:PySem.W.isFn K (.ref f)=true)(l:K.lookup f=some #[oc,od,.func (PySem.W.fnOf m qual (j_ st) (i5 st) (bb st) .none kV doc pm an aR ct),mh])(c:PySem.W.codeIn K aR qual=true)(k:PySem.W.keepIn K (.ref f)=true):Md K C m qual st:=#[_,_,Ov l c k,a,i,k]
variable{ps:ae}
theorem cal(d:Fd K mg x st)(ok:∀f fd,bo K x x st f fd->!aj aZ k f fd ps sp)(h:∀(kV doc pm:Aa) (an:Option Addr) (aR ct:Aa) (us:ax),us.length=ps.length->bindArgs (PySem.W.fnOf x x (j_ st) (i5 st) (bb st) .none kV doc pm an aR ct) #[us,[]]=pure (ps.zip us)):!br k x ps sp:=by
 let#[f,fd,F,m,kp]:=d.ex;exact#[f,fd,ok f fd F,m,kp,F.binds h]
theorem Sf(d:Md K C m qual st)(ok:∀f fd,bo K m qual st f fd->!aj aZ k f fd ps sp)(h:∀(kV doc pm:Aa) (an:Option Addr) (aR ct:Aa) (us:ax),us.length=ps.length->bindArgs (PySem.W.fnOf m qual (j_ st) (i5 st) (bb st) .none kV doc pm an aR ct) #[us,[]]=pure (ps.zip us)):!bG C k m ps sp:=by
 let#[f,fd,F,m]:=d.ex;exact#[f,fd,ok f fd F,m,F.binds h]
theorem Sg(d:Md K C "__init__" qual st)(hx:mg x=some (.ref C))(mk:PySem.W.makesIn K C=true)(kc:PySem.W.keepIn K (.ref C)=true)(ok:∀f fd,bo K "__init__" qual st f fd->!aj aZ k f fd ps sp)(h:∀(kV doc pm:Aa) (an:Option Addr) (aR ct:Aa) (us:ax),us.length=ps.length->bindArgs (PySem.W.fnOf "__init__" qual (j_ st) (i5 st) (bb st) .none kV doc pm an aR ct) #[us,[]]=pure (ps.zip us)):!o9 C k x ps sp:=by
 let#[f,fd,F,m]:=d.ex;exact#[f,fd,ok f fd F,#[mk,m.1,m.2,kc],hx,F.binds h]
theorem fb{p:Str}{x y:Tok}{z:Aa}{u:V}{n:Nat}{sl:Array (Option Aa)}(h:K.lookup a=some #[.type "tuple",od,.seq (List.toArray [.str p x,.str q y,z]) n,sl])(r:RelV u z):∀H,iZ K H a [.str p,.str q,u]:=λH=>
 .inr #[_,_,_,h,Z,Z,(show 3<=sizeLine by decide),.cons #[x,Z] (.cons #[y,Z] (.cons r .nil))]
variable{M0 MZ t8 t9:Tok}
theorem rules_at{es:Array DictEntry}{ep:Nat}{t0 t1 t2 t3 t4 t5 t6 t7 T6 T5 T4 T3 TZ:Tok}{b0 b1 b2 b3 b4 b5 b6 b7 b8 b9 lJ EO EN EM oX vV EL:Addr}{od0 od1 od2 od3 od4 od5 od6 od7 od8 od9 NC NB NA Nz Ny Nw Nv:Option Addr}{x0 y0 n0 v0 x1 y1 n1 v1 x2 y2 n2 v2 x3 y3 n3 v3 x4 y4 n4 v4 x5 y5 n5 v5 x6 y6 n6 v6 x7 y7 n7 v7 x8 y8 n8 v8 x9 y9 n9 v9 _e Z5 n10 v10 _d Z4 n11 v11 _c Z3 NW _b ZZ NV _a ZY n14 rX Z_ ZX n15 qR Z9 ZW n16 qQ:Nat}{sl0 sl1 sl2 sl3 sl4 sl5 sl6 sl7 sl8 sl9 Nf Nd Nc Nb Na M_ M9:Array (Option Aa)}(m:mg "RULES"=some (.ref d))(hs:(d == sysModules)=false)(hl:K.lookup d=some #[.type "dict",none,.dict es ep,#[]])(he:es.toList=La w [("least one high",t0,.ref b0),("least one fall",t1,.ref b1),("least one calm",t2,.ref b2),("least all high",t3,.ref b3),("least all fall",t4,.ref b4),("least all calm",t5,.ref b5),("below one high",t6,.ref b6),("below one fall",t7,.ref b7),("below one calm",t8,.ref b8),("below all high",t9,.ref b9),("below all fall",M0,.ref lJ),("below all calm",MZ,.ref EO),("shares one",T6,.ref EN),("shares all",T5,.ref EM),("turns high",T4,.ref oX),("turns fall",T3,.ref vV),("turns calm",TZ,.ref EL)])(u0:K.lookup b0=some #[.type "tuple",od0,.seq (List.toArray [.str "least" x0,.str "one" y0,.str "high" v0]) n0,sl0])(u1:K.lookup b1=some #[.type "tuple",od1,.seq (List.toArray [.str "least" x1,.str "one" y1,.str "fall" v1]) n1,sl1])(u2:K.lookup b2=some #[.type "tuple",od2,.seq (List.toArray [.str "least" x2,.str "one" y2,.str "calm" v2]) n2,sl2])(u3:K.lookup b3=some #[.type "tuple",od3,.seq (List.toArray [.str "least" x3,.str "all" y3,.str "high" v3]) n3,sl3])(u4:K.lookup b4=some #[.type "tuple",od4,.seq (List.toArray [.str "least" x4,.str "all" y4,.str "fall" v4]) n4,sl4])(u5:K.lookup b5=some #[.type "tuple",od5,.seq (List.toArray [.str "least" x5,.str "all" y5,.str "calm" v5]) n5,sl5])(u6:K.lookup b6=some #[.type "tuple",od6,.seq (List.toArray [.str "below" x6,.str "one" y6,.str "high" v6]) n6,sl6])(u7:K.lookup b7=some #[.type "tuple",od7,.seq (List.toArray [.str "below" x7,.str "one" y7,.str "fall" v7]) n7,sl7])(u8:K.lookup b8=some #[.type "tuple",od8,.seq (List.toArray [.str "below" x8,.str "one" y8,.str "calm" v8]) n8,sl8])(u9:K.lookup b9=some #[.type "tuple",od9,.seq (List.toArray [.str "below" x9,.str "all" y9,.str "high" v9]) n9,sl9])(_F:K.lookup lJ=some #[.type "tuple",NC,.seq (List.toArray [.str "below" _e,.str "all" Z5,.str "fall" v10]) n10,Nf])(_E:K.lookup EO=some #[.type "tuple",NB,.seq (List.toArray [.str "below" _d,.str "all" Z4,.str "calm" v11]) n11,Nd])(_D:K.lookup EN=some #[.type "tuple",NA,.seq (List.toArray [.str "shares" _c,.str "one" Z3,.none]) NW,Nc])(_C:K.lookup EM=some #[.type "tuple",Nz,.seq (List.toArray [.str "shares" _b,.str "all" ZZ,.none]) NV,Nb])(_B:K.lookup oX=some #[.type "tuple",Ny,.seq (List.toArray [.str "turns" _a,.str "all" ZY,.str "high" rX]) n14,Na])(_A:K.lookup vV=some #[.type "tuple",Nw,.seq (List.toArray [.str "turns" Z_,.str "all" ZX,.str "fall" qR]) n15,M_])(_z:K.lookup EL=some #[.type "tuple",Nv,.seq (List.toArray [.str "turns" Z9,.str "all" ZW,.str "calm" qQ]) n16,M9]) :
  LN K w mg d [b0,b1,b2,b3,b4,b5,b6,b7,b8,b9,lJ,EO,EN,EM,oX,vV,EL]:=by
 apply#[m,Z,#[hs,?_,[("least one high",t0,.ref b0),("least one fall",t1,.ref b1),("least one calm",t2,.ref b2),("least all high",t3,.ref b3),("least all fall",t4,.ref b4),("least all calm",t5,.ref b5),("below one high",t6,.ref b6),("below one fall",t7,.ref b7),("below one calm",t8,.ref b8),("below all high",t9,.ref b9),("below all fall",M0,.ref lJ),("below all calm",MZ,.ref EO),("shares one",T6,.ref EN),("shares all",T5,.ref EM),("turns high",T4,.ref oX),("turns fall",T3,.ref vV),("turns calm",TZ,.ref EL)],_,es,ep,hl,#[Z,Z,Z],Z,he,?_],?_]
 ·rw[Ym Z];exact h2_
 ·exact .cons #[Z,Z] (.cons #[Z,Z] (.cons #[Z,Z] (.cons #[Z,Z] (.cons #[Z,Z] (.cons #[Z,Z] (.cons #[Z,Z] (.cons #[Z,Z] (.cons #[Z,Z] (.cons #[Z,Z] (.cons #[Z,Z] (.cons #[Z,Z] (.cons #[Z,Z] (.cons #[Z,Z] (.cons #[Z,Z] (.cons #[Z,Z] (.cons #[Z,Z] (.nil)))))))))))))))))
 ·exact .cons (fb u0 #[_,Z]) (.cons (fb u1 #[_,Z]) (.cons (fb u2 #[_,Z]) (.cons (fb u3 #[_,Z]) (.cons (fb u4 #[_,Z]) (.cons (fb u5 #[_,Z]) (.cons (fb u6 #[_,Z]) (.cons (fb u7 #[_,Z]) (.cons (fb u8 #[_,Z]) (.cons (fb u9 #[_,Z]) (.cons (fb _F #[_,Z]) (.cons (fb _E #[_,Z]) (.cons (fb _D Z) (.cons (fb _C Z) (.cons (fb _B #[_,Z]) (.cons (fb _A #[_,Z]) (.cons (fb _z #[_,Z]) (.nil)))))))))))))))))
structure Tg (P:Ae) (w:Af) (b:Heap):Prop where
theorem bX(q:Tg P w base)(d:Fd K mg x st)(ok:∀f fd,bo K x x st f fd->!aj aZ k f fd ps sp)(h:∀(kV doc pm:Aa) (an:Option Addr) (aR ct:Aa) (us:ax),us.length=ps.length->bindArgs (PySem.W.fnOf x x (j_ st) (i5 st) (bb st) .none kV doc pm an aR ct) #[us,[]]=pure (ps.zip us):=by first|(exact λ_ _ _ _ _ _ us (hl:us.length=1)=>match us,hl with | [_],_=>rfl)|(exact λ_ _ _ _ _ _ us (hl:us.length=2)=>match us,hl with | [_,_],_=>rfl)|(exact λ_ _ _ _ _ _ us (hl:us.length=3)=>match us,hl with | [_,_,_],_=>rfl)|(exact λ_ _ _ _ _ _ us (hl:us.length=4)=>match us,hl with | [_,_,_,_],_=>rfl)|(exact λ_ _ _ _ _ _ us (hl:us.length=5)=>match us,hl with | [_,_,_,_,_],_=>rfl)|(exact λ_ _ _ _ _ _ us (hl:us.length=0)=>match us,hl with | [],_=>rfl)):!br k x ps sp:=cal d ok h
theorem oT(q:Tg P w base)(d:Md K C m qual st)(ok:∀f fd,bo K m qual st f fd->!aj aZ k f fd ps sp)(h:∀(kV doc pm:Aa) (an:Option Addr) (aR ct:Aa) (us:ax),us.length=ps.length->bindArgs (PySem.W.fnOf m qual (j_ st) (i5 st) (bb st) .none kV doc pm an aR ct) #[us,[]]=pure (ps.zip us):=by first|(exact λ_ _ _ _ _ _ us (hl:us.length=1)=>match us,hl with | [_],_=>rfl)|(exact λ_ _ _ _ _ _ us (hl:us.length=2)=>match us,hl with | [_,_],_=>rfl)|(exact λ_ _ _ _ _ _ us (hl:us.length=3)=>match us,hl with | [_,_,_],_=>rfl)|(exact λ_ _ _ _ _ _ us (hl:us.length=4)=>match us,hl with | [_,_,_,_],_=>rfl)|(exact λ_ _ _ _ _ _ us (hl:us.length=5)=>match us,hl with | [_,_,_,_,_],_=>rfl)|(exact λ_ _ _ _ _ _ us (hl:us.length=0)=>match us,hl with | [],_=>rfl)):!bG C k m ps sp:=Sf d ok h
theorem Si(q:Tg P w base)(d:Md K C "__init__" qual st)(hx:mg x=some (.ref C))(mk:PySem.W.makesIn K C=true)(kc:PySem.W.keepIn K (.ref C)=true)(ok:∀f fd,bo K "__init__" qual st f fd->!aj aZ k f fd ps sp)(h:∀(kV doc pm:Aa) (an:Option Addr) (aR ct:Aa) (us:ax),us.length=ps.length->bindArgs (PySem.W.fnOf "__init__" qual (j_ st) (i5 st) (bb st) .none kV doc pm an aR ct) #[us,[]]=pure (ps.zip us):=by first|(exact λ_ _ _ _ _ _ us (hl:us.length=1)=>match us,hl with | [_],_=>rfl)|(exact λ_ _ _ _ _ _ us (hl:us.length=2)=>match us,hl with | [_,_],_=>rfl)|(exact λ_ _ _ _ _ _ us (hl:us.length=3)=>match us,hl with | [_,_,_],_=>rfl)|(exact λ_ _ _ _ _ _ us (hl:us.length=4)=>match us,hl with | [_,_,_,_],_=>rfl)|(exact λ_ _ _ _ _ _ us (hl:us.length=5)=>match us,hl with | [_,_,_,_,_],_=>rfl)|(exact λ_ _ _ _ _ _ us (hl:us.length=0)=>match us,hl with | [],_=>rfl)):!o9 C k x ps sp:=Sg d hx mk kc ok h
variable{l:PySem.W.OpenLaw}
theorem all_mk{fa CS fl fh fr c1 c2:Addr}{Sd:Aa}(X:K.In h)(G:h.Ns mainGlobals mg)(hfa:mg "law"=some (.ref fa))(f0:Fd K mg "is_whole" Br)(f1:Fd K mg "is_whole_from" Re)(f2:Fd K mg "is_whole_within" nI)(f3:Fd K mg "is_name" ui)(f4:Fd K mg "lesser_first" Qd)(f5:Fd K mg "is_pair_of_names" ug)(f6:Fd K mg "sorted_ties" QO)(f7:Fd K mg "greatest_divisor" Nj)(f8:Fd K mg "least_multiple" Ni)(f9:Fd K mg "is_hand_with_strength" uv)(f10:Fd K mg "checked_strengths" Bp)(f11:Fd K mg "checked_ties" ud)(f12:Fd K mg "neighbours_of_all" uh)(f13:Fd K mg "checked_ways" ow)(f14:Fd K mg "checked_piece" QX)(f15:Fd K mg "checked_pieces" RN)(f16:Fd K mg "checked_stand" Qf)(f17:Fd K mg "loads_at" RM)(f18:Fd K mg "multiple_of_strengths" uj)(f19:Fd K mg "levels_at" QS)(f20:Fd K mg "is_rule" Ql)(f21:Fd K mg "checked_words" nF)(f22:Fd K mg "fits" uy)(f23:Fd K mg "heaviest_move" Bs)(f24:Fd K mg "moves_by_least" Qx)(f25:Fd K mg "moves_by_below" RW)(f26:Fd K mg "share_moves" Bq)(f27:Fd K mg "moves_by_shares" Rx)(f28:Fd K mg "moves_from" HX)(f29:Fd K mg "ties_anew" uE)(f30:Fd K mg "first_row_without" Ry)(f31:Fd K mg "moves_by_turns" RO)(f32:Fd K mg "moves_seen" kF)(f33:Fd K mg "checked_start" Q0)(f34:Fd K mg "checked_moments" Rt)(f35:Fd K mg "placed_after" nZ)(f36:Fd K mg "stand_after" nR)(f37:Fd K mg "_law_cell_at" uC)(f38:Fd K mg "_law_mixed" oh)(f39:Fd K mg "_law_state" nQ)(f40:Fd K mg yN ou)(f41:Fd K mg "_law_named" og)(f42:Fd K mg "_law_web" uq)(f43:Fd K mg "_law_weight" RH)(f44:Fd K mg "_law_ways" nJ)(f45:Fd K mg "_law_goods" QM)(f46:Fd K mg "_law_world" nE)(f47:Fd K mg "_law_held" uu)(f48:Fd K mg "_law_drop" uA)(f49:Fd K mg "_law_may" um)(f50:Fd K mg "_law_is_fit" oj)(f51:Fd K mg "_law_heaviest" Bt)(f52:Fd K mg "_law_best" uD)(f53:Fd K mg "_law_rising" Rb)(f54:Fd K mg "_law_by_low" oy)(f55:Fd K mg "_law_by_share" RC)(f56:Fd K mg "_law_rows" nX)(f57:Fd K mg "_law_by_turn" Qm)(f58:Fd K mg "_law_moves" Rg)(f59:Fd K mg "_law_few" uz)(f60:Fd K mg "_law_turn" nM)(f61:Fd K mg "_law_put" uf)(f62:Fd K mg "_law_rules" QF)(f63:Fd K mg "_law_after" QJ)(m0:Md K CW "__init__" "Web.__init__" ur)(m1:Md K CW "has_hand" "Web.has_hand" ya)(m2:Md K CW "hands" "Web.hands" oo)(m3:Md K CW "strength" "Web.strength" Rr)(m4:Md K CW "neighbours" "Web.neighbours" oe)(m5:Md K CW "are_tied" "Web.are_tied" ue)(m6:Md K CW "ties" "Web.ties" nO)(m7:Md K CW "most_neighbours" "Web.most_neighbours" uk)(m8:Md K CW "turns" "Web.turns" nK)(m9:Md K CG "__init__" "Goods.__init__" oq)(UH:Md K CG "has_piece" "Goods.has_piece" ux)(N4:Md K CG "names" "Goods.names" QE)(yo:Md K CG "weight" "Goods.weight" QD)(NZ:Md K CG "may_go" "Goods.may_go" uw)(UG:Md K CS "__init__" "Sight.__init__" nU)(NY:Md K CS "lead" "Sight.lead" uo)(UF:Md K CS "joint_strength" "Sight.joint_strength" oi){ocl Va YW Uj Ze:Aa}{odl ZC:Option Addr}{sll:Array (Option Aa)}{och kVh dch pmh cth:Aa}{odh anh:Option Addr}{slh:Array (Option Aa)}{ocr kVr dcr pmr ctr:Aa}{odr anr:Option Addr}{slr:Array (Option Aa)}(al:W.nsIn K mainGlobals "law"=some (some (.ref fl)))(ll:K.lookup fl=some #[ocl,odl,.func (W.fnOf "law" "law" (j_ iI) (i5 iI) (bb iI) .none Va YW Uj ZC Sd Ze),sll])(cl:W.codeIn K Sd "law"=true)(kl:W.keepIn K (.ref fl)=true)(ah:W.nsIn K mainGlobals sH=some (some (.ref fh)))(lh:K.lookup fh=some #[och,odh,.func (W.fnOf sH sH (j_ jc) (i5 jc) (bb jc) .none kVh dch pmh anh (.ref c1) cth),slh])(iQ:W.codeIn K (.ref c1) sH=true)(kh:W.keepIn K (.ref fh)=true)(h1:W.codeHdIn K c1 T1=true)(aW:W.nsIn K mainGlobals "Web"=some (some (.ref CW)))(aG:W.nsIn K mainGlobals "Goods"=some (some (.ref CG)))(aS:W.nsIn K mainGlobals "Sight"=some (some (.ref CS)))(ar:W.findIn K (.ref CS) Cz=some (some (.ref fr)))(ir:W.isFn K (.ref fr)=true)(lr:K.lookup fr=some #[ocr,odr,.func (W.fnOf Cz "Sight.rising_neighbours" (j_ wY) (i5 wY) (bb wY) .none kVr dcr pmr anr (.ref c2) ctr),slr])(rcd:W.codeIn K (.ref c2) "Sight.rising_neighbours"=true)(kr:W.keepIn K (.ref fr)=true)(h2:W.codeHdIn K c2 T2=true)(c8_:W.nsIn K mainGlobals "MOST_LETTERS"=some (some (.int 8 t8)))(c9_:W.nsIn K mainGlobals "MOST_HANDS"=some (some (.int 8 t9)))(SZ:W.nsIn K mainGlobals "MOST_STRENGTH"=some (some (.int 1000 M0)))(SY:W.nsIn K mainGlobals "MOST_WEIGHT"=some (some (.int 1000000000 MZ)))(_l:W.plainGet K CW Str.empty=true)(_r:W.hasDictIn K CW=true)(_k:W.plainOver K CW=true)(_j:W.findIn K (.ref CW) "__setattr__"=some (some (.builtin "object.__setattr__")))(_p:W.makesIn K CW=true)(_q:W.keepIn K (.ref CW)=true)(_o:W.findIn K (.ref CW) wX=some none)(_n:W.findIn K (.ref CW) "sorted_pairs"=some none)(_m:W.findIn K (.ref CW) Cv=some none)(gpg:W.plainGet K CG Str.empty=true)(ghd:W.hasDictIn K CG=true)(gpo:W.plainOver K CG=true)(gsa:W.findIn K (.ref CG) "__setattr__"=some (some (.builtin "object.__setattr__")))(gmk:W.makesIn K CG=true)(gkc:W.keepIn K (.ref CG)=true)(gn0:W.findIn K (.ref CG) "web"=some none)(gn1:W.findIn K (.ref CG) sI=some none)(gn2:W.findIn K (.ref CG) Cu=some none)(_Y:W.plainGet K CS Str.empty=true)(shd:W.hasDictIn K CS=true)(_X:W.plainOver K CS=true)(_W:W.findIn K (.ref CS) "__setattr__"=some (some (.builtin "object.__setattr__")))(smk:W.makesIn K CS=true)(skc:W.keepIn K (.ref CS)=true)(sn0:W.findIn K (.ref CS) "wares"=some none)(sn1:W.findIn K (.ref CS) jE=some none)(sn2:W.findIn K (.ref CS) qr=some none)(_Z:W.findIn K (.ref CS) Cw=some none)(iha:W.findIn K (.ref CW) "__class__"=some (some (.builtin "object.__class__")))(ihn:W.specialIn K (.builtin "object.__class__") "__get__"=some (some (.builtin "getset_descriptor.__get__")))(itk:W.takesIn K (.builtin "object.__class__")=some true)(imo:W.mroIn K CW (.type "object")=some true)(z0:W.nsIn K mainGlobals "isinstance"=some none)(z1:W.nsIn K mainGlobals "int"=some none)(z2:W.nsIn K mainGlobals "bool"=some none)(z3:W.nsIn K mainGlobals "str"=some none)(z4:W.nsIn K mainGlobals "tuple"=some none)(z5:W.nsIn K mainGlobals "list"=some none)(z6:W.nsIn K mainGlobals "dict"=some none)(z7:W.nsIn K mainGlobals "len"=some none)(z8:W.nsIn K mainGlobals "all"=some none)(z9:W.nsIn K mainGlobals "sorted"=some none)(ZV:W.nsIn K mainGlobals "max"=some none)(ZU:W.nsIn K mainGlobals "range"=some none)(ZT:W.nsIn K mainGlobals "any"=some none)(ZS:W.nsIn K mainGlobals "enumerate"=some none)(ZR:W.nsIn K mainGlobals "min"=some none)(ZQ:W.nsIn K mainGlobals "abs"=some none)(R:LN K w mg d as) :
  ∃fd:Ad,(∀(s:Ab) (v:Aa),BindsTo s fd #[[v],[]] [(yO,v)])/\(∀T'∈[T2,T1],isCodeTable h T')/\∀base:Heap,K.In base->base.Ns mainGlobals mg->(∀T'∈[T2,T1],base.BuiltinsAt mg T')->aj l.prog w K mg base aZ 11 fa fd [yO] (pI K T1 T2):=by
 let e:=hfa.symm.trans (W.mg_of X G al);cases e;have B:Bi mg:=#[mD X G z0,mD X G z1,mD X G z2,mD X G z3,mD X G z4,mD X G z5,mD X G z6,mD X G z7,mD X G z8,mD X G z9,mD X G ZV,mD X G ZU,mD X G ZT,mD X G ZS,mD X G ZR,mD X G ZQ];have TW:Txt K mg CW:=#[#[_l,_r,_k,_j],_o,_n,_m];have TG:eR K CG:=#[#[gpg,ghd,gpo,gsa],gn0,gn1,gn2];have TS:hG K CS:=#[#[_Y,shd,_X,_W],sn0,sn1,sn2,_Z];have IW:Kd K CW:=#[iha,ihn,itk,imo];let FL:=Ov (st:=iI) ll cl kl;have FH:lY K sH sH jc fh c1 _:=#[#[_,_,_,_,_,_,_,_,Z,lh,iQ],kh];have FR:lY K Cz "Sight.rising_neighbours" wY fr c2 _:=#[#[_,_,_,_,_,_,_,_,Z,lr,rcd],kr];apply#[W.fnOf "law" "law" (j_ iI) (i5 iI) (bb iI) .none Va YW Uj ZC Sd Ze,λs v=>.of_eq Z,λT' DQ=>?_,λbase KB _ vt=>?_]
 ·have cd:∀{c T0:Addr},W.codeHdIn K c T0=true->isCodeTable h T0:=λ{c _} z=>by
   let#[o,Kh,file,tf,flags,tg,inF,text,tt,q1,q2,q3,q4,_]:=W.codeHd_of_K X z;exact#[c,o,Kh,q1,q2,q3,q4]
  have DQ:T'=T2∨T'=T1:=by simpa using DQ
  rcases DQ with rfl|rfl
  ·exact cd h2
  ·exact cd h1
 have q:Tg l.prog w base:=⟨⟩;let IF:=bX q f0 λ_ _ F=>lH_ F B;let vI:=bX q f2 λ_ _ F=>jy_ F IF;let Sk:=bX q f1 λ_ _ F=>hb_ F IF;let vJ:=bX q f3 λ_ _ F=>l7_ F B (W.mg_of X G c8_);let CV:=bX q f4 λ_ _ F=>hy_ F;let Iy:=bX q f5 λ_ _ F=>kW_ F B vJ;let AG:=bX q f6 λ_ _ F=>it_ F B Iy CV;let IG:=bX q f9 λ_ _ F=>l2_ F B vJ vI (W.mg_of X G SZ);let cStr:=bX q f10 λ_ _ F=>m6_ F B IG (W.mg_of X G c9_);let Iv:=bX q f11 λ_ _ F=>lg_ F B AG;let Iz:=bX q f12 λ_ _ F=>kF_ F CV;let Sl:=Si q m0 (W.mg_of X G aW) _p _q λ_ _ F=>lj_ F TW B cStr Iv Iz;let BG:=oT q m1 λ_ _ F=>lV_ F TW B;let F8:=oT q m1 λ_ _ F=>kA_ F TW B;let jM:=oT q m2 λ_ _ F=>iX_ F TW B;let yn:=oT q m3 λ_ _ F=>fu_ F TW BG;let F7:=oT q m4 λ_ _ F=>iL_ F TW B BG;let zU:=oT q m5 λ_ _ F=>iM_ F TW F8;let SQ:=bX q f13 λ_ _ F=>iT_ F TW AG zU;let cCP:=bX q f14 λ_ _ F=>h0_ F B vJ vI SQ (W.mg_of X G SY);let SR:=bX q f15 λ_ _ F=>gJ_ F B cCP;let CY:=Si q m9 (W.mg_of X G aG) gmk gkc λ_ _ F=>jb_ F TG TW IW B (W.mg_of X G aW) SR;let Cf:=oT q UH λ_ _ F=>kV_ (CW:=CW) F TG B;let Ce:=oT q N4 λ_ _ F=>hT_ (CW:=CW) F TG B;let iB:=oT q yo λ_ _ F=>gj_ (CP:=CW) F TG Cf;let Hq:=oT q NZ λ_ _ F=>l6_ (CP:=CW) F TG TW Cf zU CV;let SK:=bX q f7 λ_ _ F=>mv_ F;let cLM:=bX q f8 λ_ _ F=>mt_ F SK;let cCS:=bX q f16 λ_ _ F=>hL_ F B TG TW Cf BG Ce;let L9:=bX q f17 λ_ _ F=>gl_ F B TG TW jM iB;let cMu:=bX q f18 λ_ _ F=>kZ_ F TW cLM jM yn;let Sy:=bX q f19 λ_ _ F=>i6_ F TG TW L9 cMu yn;have SI:br l.prog w K mg base 6 sH vC (pN K CG CW T1):=#[_,_,mg_ FH B TG TW (W.codeHd_of_K KB h1) (vt T1 Z2) jM iB,W.mg_of X G ah,kh,FH.fn.binds (λ_ _ _ _ _ _ us (hl:us.length=2)=>match us,hl with | [_,_],_=>rfl)];let CU:=Si q UG (W.mg_of X G aS) smk skc λ_ _ F=>jz_ F TS L9 Sy SI;let Kq:=oT q NY λ_ _ F=>kr_ F TS TG TW yn;let T_:=oT q UF λ_ _ F=>jV_ F TS TG TW yn;have T9:bG l.prog w K mg base CS 4 Cz j9 (HF K CS CG CW T2):=#[_,_,lt_ FR B TS TG TW (W.codeHd_of_K KB h2) (vt T2 Z2) F7,#[ar,ir,kr],FR.fn.binds (λ_ _ _ _ _ _ us (hl:us.length=2)=>match us,hl with | [_,_],_=>rfl)];let cIR:=bX q f20 λ_ _ F=>hF_ F B R;let Sj:=bX q f21 λ_ _ F=>iS_ F R cIR;let cFi:=bX q f22 λ_ _ F=>ll_ F;let SH:=bX q f23 λ_ _ F=>lO_ F TS TG Kq T_ cFi iB Hq;let cBL:=bX q f24 λ_ _ F=>gm_ F TS T9 SH;let cBB:=bX q f25 λ_ _ F=>gn_ F TS T9 Kq SH;let mMo:=oT q m7 λ_ _ F=>kE_ F TW B;let Ss:=bX q f26 λ_ _ F=>mj_ F TS TG TW Kq T_ mMo iB Hq;let cBS:=bX q f27 λ_ _ F=>fr_ F TS TG TW F7 Kq Ss;let cMF:=bX q f28 λ_ _ F=>gD_ (gP_ F cBL) (gN_ F cBB) (gw_ F cBS);let cAn:=bX q f29 λ_ _ F=>lB_ F;let mTi:=oT q m6 λ_ _ F=>jE_ F TW cAn;let cRo:=bX q f30 λ_ _ F=>m2_ F B;let mTu:=oT q m8 λ_ _ F=>jO_ F B TW mTi cRo;let cBT:=bX q f31 λ_ _ F=>gp_ F B TS TG TW mTu SH;let Su:=bX q f32 λ_ _ F=>jl_ (lc_ F TS TG TW (λr z=>z) PV Sj jM cMF) (ji_ F Sj cBT);let So:=bX q f33 λ_ _ F=>hY_ F Sj cCS;let Sw:=bX q f34 λ_ _ F=>f9_ F Sk;let cPA:=bX q f35 λ_ _ F=>jq_ F B CU Su;let Iw:=bX q f36 λ_ _ F=>iW_ F B So Sw cPA;let IH:=bX q f37 λ_ _ F=>lC_ F B;let cMx:=bX q f38 λ_ _ F=>jN_ F;let Sn:=bX q f39 λ_ _ F=>jj_ F;let rM:=bX q f40 λ_ _ F=>jm_ F cMx;let Zn:=bX q f41 λ_ _ F=>j7_ F B rM;let cLW:=bX q f42 λ_ _ F=>kt_ F B rM Zn;let cWt:=bX q f43 λ_ _ F=>gM_ F rM;let cWy:=bX q f44 λ_ _ F=>ja_ F B rM;let SJ:=bX q f45 λ_ _ F=>im_ F B rM Zn cWt cWy;let Sm:=bX q f46 λ_ _ F=>jo_ F B;let SF:=bX q f47 λ_ _ F=>lD_ F B;let SN:=bX q f48 λ_ _ F=>ls_ F;let Zo:=bX q f49 λ_ _ F=>ky_ F;let cIF:=bX q f50 λ_ _ F=>jP_ F;let Zp:=bX q f51 λ_ _ F=>mf_ F B;let Zr:=bX q f52 λ_ _ F=>lv_ F SN SF Zo cIF Zp;let cRi:=bX q f53 λ_ _ F=>hp_ F B SN SF;let cBy:=bX q f54 λ_ _ F=>ju_ F cRi Zr;let SV:=bX q f55 λ_ _ F=>gH_ F B SN SF Zo Zp;let Zj:=bX q f56 λ_ _ F=>js_ F B;let SS:=bX q f57 λ_ _ F=>gZ_ F B Zj Zr;let SA:=bX q f58 λ_ _ F=>ip_ F B SS SV cBy;let cFe:=bX q f59 λ_ _ F=>kq_ F B SJ;let Zg:=bX q f60 λ_ _ F=>jL_ F B Zj;let cPt:=bX q f61 λ_ _ F=>ks_ F B SA;let Sv:=bX q f62 λ_ _ F=>h6_ F;let SW:=bX q f63 λ_ _ F=>h1_ F B Zg cPt;exact lK_ FL B IH Sn rM cLW cFe Sm Sv Zg SW Sl CY Iw
theorem WY(h:H T=some (.tbl #[])):ee H T q:=#[[],h,λe he=>by cases he]
theorem walk{q:Ae}{loose:ae}{XP:(Str->Option Aa)->Heap->Prop}{d:DefRec}{K:Params->af}{Lq:∀P:Params,as=(K P).map (·.1)}(hn:l.most=some 63)(k_:d.params.defaults=[])(OI:([T2,T1].all λT=>!as.contains T)=true)(ne:T1≠T2)(F:∀(w:Af) (mg:Str->Option Aa) (fa:Addr) (h:Heap),(K w.params).In h->h.Ns mainGlobals mg->mg d.name=some (.ref fa)->
   ∃fd:Ad,(∀(s:Ab) (u:Aa),BindsTo s fd #[[u],[]] [(yO,u)])/\(∀T'∈[T2,T1],isCodeTable h T')/\∀base:Heap,(K w.params).In base->base.Ns mainGlobals mg->(∀T'∈[T2,T1],base.BuiltinsAt mg T')->aj l.prog w (K w.params) mg base aZ 11 fa fd [yO] (pI (K w.params) T1 T2)) :
  PySem.W.WalkO q loose XP (PySem.W.kmHook K as Lq [T2,T1]).says l.row.toRowW d [] (λf vs=>PySem.call f vs):=
 L2.sS (n:=63) (k:=11) (x:=yO) (CX:=λ_=>aZ) (sp:=λw=>pI (K w.params) T1 T2) hn (by decide) k_ #[Z,by decide,by decide] OI F (λ_ _ a ns hl hT hS=>#[a,ns,Z,#[WY (hT T1 Z2),WY (hT T2 Z2),ne],hS,hl,λ_=>rfl]) λ_ _ _ _ _ z=>z
end Ev
namespace PySem.W.Fast
universe tw6297244550552516960 tw14873101330388968384 tw13516237323526907042 tw4677113949666048194 tw6324364538616523074 tw16498739005628514883 tw9182883748523214086 tw16145381829716673382 tw16637318203884439430 tw6803394649038420999 tw8572800500332612935 tw1444195513745135399 tw18096409653052594824 tw3692452564618061768 tw18286873497934192234 tw5075400716852024234 tw2510165083750794315 tw15077354782105271308 tw16855505834472013069 tw4806971408447191469 tw16259958392282159378 tw561739365118878163 tw8716871710407983252 tw15503978583717272980 tw7476779151824485430 tw13002349581054080278 tw4473364436346420566 tw12503976265715547670 tw17165017191099619735 tw4012757702774833625 tw11610461324341624186 tw17033254530592803899 tw15298886345604526395 tw580139897478109531 tw1370597276191741085 tw2750535874443510077 tw16642055701217497565 tw14615683624203612254 tw15871357083772189598 tw5685474515985801311 tw18045383131549751711 tw2271494516677402303 tw6517930049962755903 tw14847275322592983050 tw6499084134706512668 tw9507405994052151154 tw5245731134694052482 tw1766798228547435233 tw14691290360571694283 tw7133105644555875806 tw15211973591854779064 tw18383364258389962612 tw7225969577808266476 tw15122296042383710004 tw11836268076303588709 tw12277526776059044895 tw16526100243607072258 tw267950409782340424 tw610246398417302087 tw18307424115350158008 tw11584733714756438396 tw10111403849440663583 tw7026399787645793086 tw292796393379276561 tw4596483668002329218 tw13580805509929885913 tw11244587378346740333 tw5411050838638999637 tw16313308725590307024 tw1940962790385707959 tw10245881302971001314 tw17157886987452776977 tw6337651290060168419 tw8454571087945117308 tw8747937275961946510 tw16676109317667334530 tw17691369440031885451 tw14773108867082786442 tw390158482444850820 tw429297676974355710 tw126889162636468083 tw5961352973508796206 tw5030089544085609065 tw2432377546838993271 tw11429809028872632014 tw7040428395786382436 tw1635349676462761829 tw2088115140536816939 tw3791890002477402817 tw11848749452725627813 tw8531809124089952043 tw1209831667462526323 tw15462506449352369555 tw7287033592607210725 tw9336129086288288041 tw9612232146111340868 tw14100829882478429048 tw3712001229143095763 tw7195400014546024015 tw5741279630872626776 tw10571921432373624908 tw9685225165895073819 tw16841745088868836584 tw7274534434195556229 tw26820185843157366 tw16013593945778633474 tw5239347154355115803 tw8876970975325791086 tw5834598218344976911 tw2190781225889321296 tw9151964015430161930 tw4604774332490318914 tw14022527543549269437 tw10780655042914026634 tw11212921632878109969 tw7365967047675685889 tw5341330070687445626 tw12757983139213747834 tw9249758229572326389 tw12803700435071451623 tw13583383440938065749 tw7840495505905498847 tw15915739683144158450 tw15123182933839218471 tw12357555811205583044 tw15599075130054091556 tw9743670147754665490 tw9376094318635945373 tw6313525323413081915 tw13235628128573780636 tw671290722843321507 tw3021103221828399807 tw3386692647853043941 tw6249370901434984236 tw10234421745437025731 tw11592951693081890055 tw2737704099281498137 tw14669493239537828307 tw13285758059375497867 tw15725246254012469903 tw1132891211066788910 tw2075016326561652226 tw3287946641598289713 tw8064222236760009776 tw14354446954349559573 tw14063760306484848722 tw7368168640546681165 tw18099600743531377787 tw14260223007738175363 tw1723872831702685407 tw14129775527150813057 tw18225803682045742215 tw1238011661423592003 tw12910603481658534858 tw2832987145382766554 tw17548718928864886977 tw4438617458569391800 tw7528029760760337540 tw3188390735249581441 tw5753017228055171724 tw14856580195301641478 tw11126319520612452098 tw15975202736726988837 tw9284941126368067027 tw18417614096792159872 tw1478311892321029071 tw12338425601778849562 tw11469291695008925910 tw8869237170012832200 tw17846407679980539353 tw5390245255140984716 tw6430101094378192185 tw7307176512642169939 tw83622249486745423 tw5628052829242418901 tw5436580515293818626 tw16393818404437478860 tw4678415567045652700 tw8453821097440412546 tw15983136629214396681 tw12178794535952175937 tw18081593628852032253 tw6533840415993599043 tw15872855473765721128 tw16693454962345699767 tw3198418704265138979 tw6517215021346068218 tw1604993130348416021 tw14839193627169014052 tw10243500346258402326 tw9165733530903580738 tw4992140863615030874 tw4128772490201393723 tw272059794300349330 tw14373997417928115338 tw1011943733186962564 tw6904128958545477197 tw11439930190667687729 tw10291741809120060972 tw1537963944324062680 tw6501686561498328502 tw10785039923152732297 tw4765945864053171509 tw980355018361109654 tw14944540721863169303 tw18291776470328902729 tw147188840074793263 tw13781976295786699964 tw14350313168115247411 tw4095332180939189791 tw954095733991541245 tw16227202687547129995 tw17233180070627472917 tw13615181733933460721 tw8535014483851562347 tw9301020029005058847 tw18109596386594383107 tw2293641130830764709 tw8839372171209783980 tw9644656175745507444 tw12191706660864088725 tw10859473125242693040 tw8737198522196727569 tw8388231899532218859 tw9385632118273609337 tw17926431867595992345 tw12226127931552560935 tw7777421533338077800 tw3431962330136044699 tw6697891544826336104 tw8936218672849425682 tw14734401767498056876 tw21938427959955448 tw14168096521547899218 tw10805708573533783682 tw12871989025504103414 tw5860891580359570156 tw15272867192898931116 tw9055790978095935894 tw1424664948047226052 tw8277255498490195848 tw1058277651818865453 tw11462979809945992119 tw1024138353072996838 tw2189782977856626085 tw12098794419898925263 tw5596785043872021019 tw15248050592431328765 tw12428895248730577143 tw6041540318074458723 tw12315492997489072167 tw12802638495192345377 tw2178677277807829425 tw18274230509914180398 tw17865848136357141977 tw5853508991004498929 tw8747251327394005941 tw16655418009638641479 tw1877563345912139146 tw18269914874232572267 tw3144554538522699545 tw7449071917687524192 tw10961355086006128320 tw7431538293905474833 tw10475628486756935498 tw2638818388785558369 tw16238276725341611221 tw10084312740154527006 tw12764584428237101842 tw15581733142760283025 tw4296232450790144407 tw10264871321147343516 tw880027421053685131 tw5398419105457055086 tw5152662411787456561 tw9295018420758635616 tw2007706061783009727 tw16450967754922062150 tw6291269155849983258 tw4924814532484274551 tw9348238731089171638 tw14623440476804785842 tw12700854565918030914 tw1111191329669928482 tw11416725523712959312 tw3714969457221011642 tw15020292383207085274 tw16006591970513745069 tw7419992108642699350 tw1518850526171401833 tw9324425803724913524 tw9973736379166255667 tw3138696714131345668 tw8509434134921647755 tw16104242297995061785 tw671798264911476732 tw3453894243249737668 tw11093796435239901871 tw9919601561588029653 tw12738721828037659741 tw10659948730079658441 tw569152074516287242 tw8924564880179256796 tw4177482597120923406 tw6225269741704460112 tw10643084040235192682 tw6684910002768933376 tw911726040879395872 tw8676327455712558266 tw10779915764689493745 tw12934616753500989895 tw7873205242623334399 tw12986193363174224897 tw2280514479802400928 tw5358955935006892517 tw8086461902716038629 tw6711494280417086731 tw11001038184932993738 tw10693784124394205461 tw8099751109181145551 tw6174210864854079107 tw4760753354683236288 tw137443055487522600 tw13136670451194851201 tw7281013566023947953 tw6372911706189200604 tw14169472631659256770 tw13996634355972268263 tw1588252424788444957 tw3558288814064548254 tw14461656469198793696 tw4835995335012864866 tw7300033256611242162 tw18215914992598764309 tw11611281799862668915 tw13906917064977293389 tw1982820847768083838 tw1505949162672396853 tw4731513581925125176 tw576856101350979549 tw393418329017811563 tw18445552519553978013 tw13518540894108317217 tw10381305071758167535 tw7073777216728707618 tw13973553587140745948 tw7932174923360578084 tw10468160561711348087 tw18216762770451569239 tw14015936579531322667 tw2646319862176107002 tw4331014449348404072 tw15616722819382792632 tw13500025917996414009 tw8210494928219223117 tw6013857286551212192 tw2188090945351885616 tw15775616220221596717 tw2117343448163635768 tw11961126311622981583 tw11379035132101505088 tw4389625897596374770 tw6744511745214082222 tw8421449562786211426 tw11616178421905626195 tw1222041394389414968 tw8049584945063683688 tw15680428585142976741 tw11560582359861786059 tw12855176144448051869 tw16404979957812603427 tw8632512375201067683 tw12370437293738153349 tw10025772022244715670 tw5308155369297070368 tw6401943978406191325 tw2034490624189199138 tw7683942754192281340 tw7458698435077859724 tw14414262212128328938 tw9878010344814993363 tw12312031283870789814 tw9829747384804673617 tw10192419285373101755 tw17876955291577977536 tw10419094045047314356 tw9107112455395923901 tw15803049011134990213 tw2415097640306823138 tw16536957263721744810 tw7238168777299903085 tw1053909347641796023 tw4050894977667745548 tw13575193088792655513 tw8124179259133394295 tw4366787642350145527 tw6675714990682256661 tw1676441801796737558 tw2550396679863287840 tw8419368285367857057 tw5548679612460637897 tw15423235159706518324 tw15551053716176111075 tw13884632119032446675 tw1414903111750783266 tw6068005404948694852 tw18123373156297271424 tw5539055955108200001 tw4646438958265655796 tw870716846286165863 tw11321229643376529885 tw3906166782192671109 tw4494071241275280957 tw6412310563900830506 tw14779595990314744441 tw6336840072460696007 tw2559786382191795680 tw13272002441076403423 tw7088508128913496239 tw12058307675689620163 tw1524609656585096586 tw3180763051526352800 tw8704297370452580660 tw4227518973853495749 tw2820818914761326159 tw4122570201788006918 tw12543230541157202011 tw2875817415692972066 tw13381730898313788968 tw17161128726865379172 tw12299384295318227990 tw15434458409598095347 tw13537485606205143641 tw2217533918750342573 tw1005265053412427711 tw12791283768248376667 tw13850139023198751767 tw17408168819673948005 tw16910074162874475854 tw869021518139804455 tw10097699662434549746 tw10735433783840411636 tw6885271304924108554
end PySem.W.Fast
open PySem PySem.W PyProof.Rows
set_option maxRecDepth 100000 in
local macro_rules|`(%[|$k:num])=>let i:=Lean.mkIdent;if k.getNat==1 then`(Ev.Hw $(i `KX) $(i `G) ?_ ?_ ?_ ?_)else`(Ev.F6 ?_ ?_ ?_ ?_ ?_)
theorem PySem.Challenge.cw_evenpieces_k41_stands_behind_moments_holds : PySem.Challenge.rw_evenpieces_k41_stands_behind_moments.Holds := by
 w_on;o_law;k_head;(case hw=>w_witness2)
 k_fill
 apply Ev.walk (l:=PySem.Challenge.rw_evenpieces_k41_stands_behind_moments) rfl rfl (by rfl) (by decide) ?F
 case F=>
  intro w mg fa h KX G hmg;refine' Ev.all_mk KX G hmg %[|1] %[|1] %[|1] %[|1] %[|1] %[|1] %[|1] %[|1] %[|1] %[|1] %[|1] %[|1] %[|1] %[|1] %[|1] %[|1] %[|1] %[|1] %[|1] %[|1] %[|1] %[|1] %[|1] %[|1] %[|1] %[|1] %[|1] %[|1] %[|1] %[|1] %[|1] %[|1] %[|1] %[|1] %[|1] %[|1] %[|1] %[|1] %[|1] %[|1] %[|1] %[|1] %[|1] %[|1] %[|1] %[|1] %[|1] %[|1] %[|1] %[|1] %[|1] %[|1] %[|1] %[|1] %[|1] %[|1] %[|1] %[|1] %[|1] %[|1] %[|1] %[|1] %[|1] %[|1] %[|2] %[|2] %[|2] %[|2] %[|2] %[|2] %[|2] %[|2] %[|2] %[|2] %[|2] %[|2] %[|2] %[|2] %[|2] %[|2] %[|2] ?_ ?_ ?_ ?_ ?_ ?_ ?_ ?_ ?h1 ?aW ?aG ?aS ?_ ?_ ?_ ?_ ?_ ?h2 ?_ ?_ ?_ ?_ ?_ ?_ ?_ ?_ ?_ ?_ ?_ ?_ ?_ ?_ ?_ ?_ ?_ ?_ ?_ ?_ ?_ ?_ ?_ ?_ ?_ ?_ ?_ ?_ ?_ ?_ ?_ ?_ ?_ ?_ ?_ ?_ ?_ ?_ ?_ ?_ ?_ ?_ ?_ ?_ ?_ ?_ ?_ ?_ ?_ ?_ ?_ ?_ (Ev.rules_at ?rm ?rs ?rl ?re ?_ ?_ ?_ ?_ ?_ ?_ ?_ ?_ ?_ ?_ ?_ ?_ ?_ ?_ ?_ ?_ ?_)
  (case aW=>k_is);(case aG=>k_is);(case aS=>k_is)
  any_goals k_is
  (case h1=>kernel_rfl);(case h2=>kernel_rfl)
  case' rm=>refine' PySem.W.mg_of KX G ?rmn
  (first|(case rmn=>k_is)|(case rm=>k_is))
  (try (case rl=>k_is))
  (case rs=>rfl)
  (case re=>rfl)
  any_goals k_is

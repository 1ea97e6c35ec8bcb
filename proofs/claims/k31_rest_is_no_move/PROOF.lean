import PyProof.Rows.All
import Wide.All
import OpenK.AllK
import Wide.FinOn
import Lean
import PyProof.EqAt
import PyProof.EqKinds
import PyProof.TupleCall
import PyProof.FitsReplace
import KE.KLam
import KE.KSortTup
import PyProof.StrCalls6
import PySem.Challenge.RW_evenpieces_k31_rest_is_no_move
set_option maxHeartbeats 0
set_option Elab.async false
set_option linter.all false
noncomputable section
local macro_rules|`(def $x:declId $s:optDeclSig $v:declVal)=>`(noncomputable def $x:declId $s:optDeclSig $v:declVal)
local macro_rules|`(abbrev $x:declId $s:optDeclSig $v:declVal)=>`(noncomputable abbrev $x:declId $s:optDeclSig $v:declVal)
local macro_rules|`(universe $x*)=>return Lean.mkNullNode (←x.mapM λa=>do return(←`(theorem $a:ident:True:=⟨⟩)).raw)
abbrev Xa:=List (PySem.Str × Int)
abbrev Xb:=List (PySem.Str × PySem.Str)
set_option compiler.extract_closed false
set_option maxRecDepth 100000
theorem cO:type_of% @PySem.Heap.get?_push_of_some:=@PySem.Heap.get?_push_of_some
abbrev Aa:=PySem.Value
theorem aP:type_of% @PySem.wpAny_bind:=@PySem.wpAny_bind
abbrev Ab:=PySem.Shared
theorem bG:type_of% @PySem.Paired.length:=@PySem.Paired.length
theorem ao:type_of% @if_neg:=@if_neg
theorem cw:type_of% @decide_eq_true:=@decide_eq_true
theorem aA:type_of% @if_pos:=@if_pos
abbrev Ad:=PySem.Program
theorem e_:type_of% @PySem.Heap.get?_push_size:=@PySem.Heap.get?_push_size
abbrev Ae:=PySem.FuncData
theorem dR:type_of% @decide_eq_false:=@decide_eq_false
theorem dX:type_of% @PySem.PassesOwn.never:=@PySem.PassesOwn.never
theorem cE:type_of% @PySem.Heap.lt_size:=@PySem.Heap.lt_size
theorem h9:type_of% @PySem.F.plainAttrs_list:=@PySem.F.plainAttrs_list
theorem ee:type_of% @Option.some.inj:=@Option.some.inj
theorem ck:type_of% @PySem.sizeLine_eq:=@PySem.sizeLine_eq
theorem bR:type_of% @PySem.wpAny_pure:=@PySem.wpAny_pure
theorem xZ:type_of% @PySem.F.type_list_append:=@PySem.F.type_list_append
theorem xY:type_of% @PySem.F.slot_list_append:=@PySem.F.slot_list_append
abbrev Af:=PySem.World
theorem vJ:type_of% @of_decide_eq_true:=@of_decide_eq_true
abbrev Ag:=PySem.Around
theorem xX:type_of% @PySem.W.mg_none_of:=@PySem.W.mg_none_of
theorem i4:type_of% @PySem.boot_len:=@PySem.boot_len
theorem xW:type_of% @decide_eq_true_eq:=@decide_eq_true_eq
theorem dU:type_of% @congrArg:=@congrArg
theorem Bx:type_of% @PySem.mem_of_lookup:=@PySem.mem_of_lookup
theorem hU:type_of% @Sum.inr.inj:=@Sum.inr.inj
theorem E5:type_of% @PySem.Heap.get?_update_other:=@PySem.Heap.get?_update_other
theorem BO:type_of% @PySem.wpAny_truthy_bool:=@PySem.wpAny_truthy_bool
theorem BN:type_of% @PySem.wpAny_loadPart':=@PySem.wpAny_loadPart'
theorem zv:type_of% @List.cons.inj:=@List.cons.inj
theorem Ee:type_of% @PySem.W.kia_one:=@PySem.W.kia_one
theorem R8:type_of% @Int.mul_nonpos_of_nonpos_of_nonneg:=@Int.mul_nonpos_of_nonpos_of_nonneg
theorem Z0{p:Prop}[Decidable p](h:decide p=true:=by decide +kernel):p:=of_decide_eq_true h
theorem Z1{p:Prop}(h:p:=by omega):p:=h
theorem Z2{p:Prop}(h:p:=by simp):p:=h
local macro_rules|`(tactic|let $x:ident:=$e)=>`(tactic|have $x:ident:=$e)
local macro_rules|`(tactic|apply $e)=>`(tactic|refine $e)
local macro_rules|`(#[$x,$xs,*])=>`(⟨$x,$xs,*⟩)
local macro_rules|`(tactic|let $p:term:=$e)=>let g:=λ(x:Lean.Syntax)=>(if x.isIdent then`(rcasesPat|$(⟨x⟩):ident) else if x.isOfKind ``Lean.Parser.Term.hole then`(rcasesPat|_) else pure ⟨x⟩:Lean.MacroM (Lean.TSyntax `rcasesPat));p.raw.rewriteBottomUpM (λn=>if n.isOfKind `«term#[_,]» then n[1].getSepArgs.mapM (λx=>g x>>=λy=>`(Lean.Parser.Tactic.rcasesPatLo|$y:rcasesPat))>>=λs=>`(rcasesPat|⟨$s,*⟩)>>=λt=>pure t.raw else pure n)>>=λq=>`(tactic|obtain $(⟨q⟩):rcasesPat:=$e)
theorem Z{α:Sort _}{a:α}:a=a:=rfl
abbrev af:=PySem.W.Frag
theorem ak:type_of% @List.length_map:=@List.length_map
theorem cc:type_of% @List.getElem?_eq_some_iff:=@List.getElem?_eq_some_iff
theorem dq:type_of% @List.getElem?_eq_getElem:=@List.getElem?_eq_getElem
theorem cu:type_of% @List.mem_of_getElem?:=@List.mem_of_getElem?
theorem bh:type_of% @List.mem_map:=@List.mem_map
theorem dF:type_of% @List.mem_cons_of_mem:=@List.mem_cons_of_mem
theorem c8:type_of% @List.mem_cons_self:=@List.mem_cons_self
theorem bo:type_of% @Nat.le_refl:=@Nat.le_refl
theorem b_:type_of% @List.map_append:=@List.map_append
theorem cQ:type_of% @List.length_take:=@List.length_take
theorem dD:type_of% @List.size_toArray:=@List.size_toArray
theorem dY:type_of% @List.length_append:=@List.length_append
theorem bW:type_of% @List.mem_cons:=@List.mem_cons
theorem dQ:type_of% @List.getElem?_map:=@List.getElem?_map
theorem dJ:type_of% @List.take_length:=@List.take_length
theorem cm:type_of% @List.map_map:=@List.map_map
theorem el:type_of% @List.map_cons:=@List.map_cons
theorem gM:type_of% @Bool.false_ne_true:=@Bool.false_ne_true
theorem fM:type_of% @List.mem_append:=@List.mem_append
theorem eM:type_of% @Nat.ne_of_lt:=@Nat.ne_of_lt
theorem gK:type_of% @List.append_nil:=@List.append_nil
theorem iF:type_of% @List.take_add_one:=@List.take_add_one
theorem jd:type_of% @List.mem_singleton:=@List.mem_singleton
theorem iE:type_of% @List.length_cons:=@List.length_cons
theorem vN:type_of% @Nat.lt_of_lt_of_le:=@Nat.lt_of_lt_of_le
theorem zF:type_of% @List.mem_append_right:=@List.mem_append_right
theorem jg:type_of% @List.getElem_mem:=@List.getElem_mem
theorem Fq:type_of% @List.nodup_iff_pairwise_ne:=@List.nodup_iff_pairwise_ne
theorem gx:type_of% @Nat.zero_le:=@Nat.zero_le
theorem zE:type_of% @List.pairwise_map:=@List.pairwise_map
theorem BC:type_of% @List.map_congr_left:=@List.map_congr_left
theorem BB:type_of% @List.getElem_of_mem:=@List.getElem_of_mem
theorem Fp:type_of% @Int.eq_ofNat_of_zero_le:=@Int.eq_ofNat_of_zero_le
theorem Fo:type_of% @List.length_eq_zero_iff:=@List.length_eq_zero_iff
theorem B7:type_of% @Array.length_toList:=@Array.length_toList
theorem IC:type_of% @List.getElem?_append_right:=@List.getElem?_append_right
theorem Fn:type_of% @List.length_replicate:=@List.length_replicate
theorem zD:type_of% @List.length_nil:=@List.length_nil
theorem Fm:type_of% @List.length_filter_le:=@List.length_filter_le
theorem GM:type_of% @List.take_of_length_le:=@List.take_of_length_le
theorem Eu:type_of% @List.pairwise_cons:=@List.pairwise_cons
theorem BA:type_of% @List.mem_filter:=@List.mem_filter
theorem Bz:type_of% @List.nodup_cons:=@List.nodup_cons
theorem K1:type_of% @List.getElem?_append_left:=@List.getElem?_append_left
theorem AQ:type_of% @Bool.and_false:=@Bool.and_false
theorem Iy:type_of% @Option.map_eq_some_iff:=@Option.map_eq_some_iff
theorem By:type_of% @Bool.false_and:=@Bool.false_and
theorem Et:type_of% @List.lookup_cons:=@List.lookup_cons
theorem Fk:type_of% @List.append_assoc:=@List.append_assoc
theorem Fj:type_of% @List.flatMap_cons:=@List.flatMap_cons
theorem GP:type_of% @List.mem_filterMap:=@List.mem_filterMap
theorem GO:type_of% @Bool.false_eq_true:=@Bool.false_eq_true
theorem GN:type_of% @List.filter_append:=@List.filter_append
theorem Ft:type_of% @Bool.and_eq_true:=@Bool.and_eq_true
theorem Fs:type_of% @List.not_mem_nil:=@List.not_mem_nil
theorem IE:type_of% @List.flatMap_append:=@List.flatMap_append
theorem AR:type_of% @Nat.le_trans:=@Nat.le_trans
theorem Ma:type_of% @Option.isSome_iff_exists:=@Option.isSome_iff_exists
theorem K2:type_of% @List.length_singleton:=@List.length_singleton
theorem ID:type_of% @Int.emod_lt_of_pos:=@Int.emod_lt_of_pos
theorem Ip:type_of% @List.find?_eq_none:=@List.find?_eq_none
theorem Io:type_of% @Int.toNat_natCast:=@Int.toNat_natCast
theorem Ei:type_of% @Nat.lt_irrefl:=@Nat.lt_irrefl
theorem GJ:type_of% @Int.emod_nonneg:=@Int.emod_nonneg
theorem L6:type_of% @List.mem_of_mem_erase:=@List.mem_of_mem_erase
theorem Fc:type_of% @Nat.ne_of_gt:=@Nat.ne_of_gt
theorem Fb:type_of% @List.map_nil:=@List.map_nil
theorem E_:type_of% @Int.le_of_lt:=@Int.le_of_lt
abbrev ax:=List PySem.Value
abbrev ai:=PySem.Str->PySem.Str
abbrev ay:=List PySem.Addr
abbrev ae:=List PySem.Str
namespace L2
open PySem PySem.Spec PyProof.Rows
abbrev Key:=Sum Int Str
def Gz:Key->Aa->Bool
 |.inl k,v=>Value.isInt k v
 |.inr x,v=>Value.isStrOf x v
def UG(w:Af):Key->Int
 |.inl k=>hashInt k
 |.inr x=>hashStr w x
theorem B6:∀{k:Key} {v:Aa},Gz k v=true->(∃i t,k=Sum.inl i/\v=Value.int i t)∨(∃x t,k=Sum.inr x/\v=Value.str x t)
 |.inl i,v,h=>by
  let#[t,e]:=Value.isInt_shape (k:=i) (v:=v) h;exact .inl #[i,t,Z,e]
 |.inr x,v,h=>by
  let#[t,e]:=Value.isStrOf_shape (x:=x) (v:=v) h;exact .inr #[x,t,Z,e]
theorem hm_(i:Int)(t:Tok):Gz (.inl i) (.int i t)=true:=by simp[Gz,Value.isInt]
theorem gQ_(x:Str)(t:Tok):Gz (.inr x) (.str x t)=true:=by simp[Gz,Value.isStrOf]
theorem lR_(a b:Int):decide ((Sum.inl a:Key)=Sum.inl b)=(a == b):=by
 by_cases e:a=b
 ·subst e;simp
 ·have h:¬(Sum.inl a:Key)=Sum.inl b:=λq=>e (Sum.inl.inj q);rw[dR h];exact (beq_eq_false_iff_ne.mpr e).symm
theorem lt_(a b:Str):decide ((Sum.inr a:Key)=Sum.inr b)=decide (a=b):=by
 by_cases e:a=b
 ·subst e;simp
 ·have h:¬(Sum.inr a:Key)=Sum.inr b:=λq=>e (hU q);rw[dR h,dR e]
theorem mc_(a:Int)(b:Str):decide ((Sum.inl a:Key)=Sum.inr b)=false:=dR (λq=>nomatch q)
theorem m5_(a:Str)(b:Int):decide ((Sum.inr a:Key)=Sum.inl b)=false:=dR (λq=>nomatch q)
def fI(prog:Ad)(w:Af):PySem.KeyKind prog w Key where
 is:=Gz
 hash:=UG w
 inj:=λv a b ha hb=>by
  rcases B6 ha with⟨i,t,rfl,rfl⟩|⟨x,t,rfl,rfl⟩
  ·rcases B6 hb with⟨j,u,rfl,e⟩|⟨y,u,rfl,e⟩
   ·injection e with e1 _;rw[e1]
   ·exact nomatch e
  ·rcases B6 hb with⟨j,u,rfl,e⟩|⟨y,u,rfl,e⟩
   ·exact nomatch e
   ·injection e with e1 _;rw[e1]
 byValue:=λk v h=>by
  rcases B6 h with⟨i,t,rfl,rfl⟩|⟨x,t,rfl,rfl⟩<;>rfl
 pyHash:=λhv h=>by
  rcases B6 hv with⟨i,t,rfl,rfl⟩|⟨x,t,rfl,rfl⟩
  ·exact wpAny_pyHash_int h
  ·exact wpAny_pyHash_str h
 eqBool:=λhu hv h=>by
  rcases B6 hu with⟨i,t,rfl,rfl⟩|⟨x,t,rfl,rfl⟩
  ·rcases B6 hv with⟨j,u,rfl,rfl⟩|⟨y,u,rfl,rfl⟩
   ·rw[lR_] at h;exact wpAny_eqBool_int h
   ·rw[mc_] at h;exact SeqAt.EqAt.int_str i t y u _ _ _ _ h
  ·rcases B6 hv with⟨j,u,rfl,rfl⟩|⟨y,u,rfl,rfl⟩
   ·rw[m5_] at h;exact SeqAt.EqAt.str_int x t j u _ _ _ _ h
   ·rw[lt_] at h;exact wpAny_eqBool_str h
 «strs»:=λk x t v h=>by
  rcases B6 h with⟨i,u,rfl,e⟩|⟨y,u,rfl,e⟩
  ·exact nomatch e
  ·injection e with e1 _
   subst e1;cases v<;>rfl
theorem fo_(prog:Ad)(w:Af)(i:Int)(t:Tok):(fI prog w).is (.inl i) (.int i t)=true:=hm_ i t
theorem X2(prog:Ad)(w:Af)(x:Str)(t:Tok):(fI prog w).is (.inr x) (.str x t)=true:=gQ_ x t
end L2
abbrev aN:=List L2.Key
namespace L2
open PySem PySem.Spec PyProof.Rows
inductive V where
 |non|bl (b:Bool)|int (i:Int)|str (x:Str)|byt (b:Array UInt8)|flt (b:UInt64)|ref (a:Addr)|ty (n:String)
 deriving DecidableEq
def RelV:V->Aa->Prop
 |.non,u=>u=Value.none
 |.bl b,u=>u=Value.bool b
 |.int i,u=>∃t,u=Value.int i t
 |.str x,u=>∃t,u=Value.str x t
 |.byt b,u=>∃t,u=Value.bytes b t
 |.flt b,u=>∃t,u=Value.float b t
 |.ref a,u=>u=Value.ref a
 |.ty n,u=>u=Value.type n
abbrev Vals:List V->ax->Prop:=Paired RelV
theorem Vals.length{xs:List V}{us:ax}(r:Vals xs us):xs.length=us.length:=bG r
theorem Vals.get:∀{xs:List V} {us:ax} {i:Nat} {x:V},Vals xs us->xs[i]? = some x->∃u,us[i]? = some u/\RelV x u
 |_,_,_,_,.nil,e=>by simp at e
 |_,_,0,_,.cons r _,e=>by simp at e;subst e;exact#[_,Z,r]
 |_,_,i+1,x,.cons _ t,e=>by
  let#[u,h1,h2]:=Vals.get (i:=i) (x:=x) t (by simpa using e);exact#[u,by simpa using h1,h2]
theorem Vals.set{x:V}{u:Aa}(r:RelV x u):∀{xs:List V} {us:ax} (i:Nat),Vals xs us->Vals (xs.set i x) (us.set i u)
 |_,_,_,.nil=>.nil
 |_,_,0,.cons _ t=>.cons r t
 |_,_,i+1,.cons q t=>.cons q (Vals.set r i t)
theorem Vals.append:∀{xs ys:List V} {us ws:ax},Vals xs us->Vals ys ws->Vals (xs++ys) (us++ws)
 |_,_,_,_,.nil,s=>s
 |_,_,_,_,.cons r t,s=>.cons r (Vals.append t s)
theorem Vals.take:∀{xs:List V} {us:ax} (n:Nat),Vals xs us->Vals (xs.take n) (us.take n)
 |_,_,0,_=>.nil
 |_,_,_+1,.nil=>.nil
 |_,_,n+1,.cons r t=>.cons r (Vals.take n t)
theorem Vals.drop:∀{xs:List V} {us:ax} (n:Nat),Vals xs us->Vals (xs.drop n) (us.drop n)
 |_,_,0,r=>r
 |_,_,_+1,.nil=>.nil
 |_,_,n+1,.cons _ t=>Vals.drop n t
def eW:Option V->Option Aa->Prop
 |some v,some u=>RelV v u
 |none,none=>True
 |_,_=>False
def KV{κ:Type}:List (κ × V)->List (κ × Aa)->Prop:=Paired λ(p:κ × V) (q:κ × Aa)=>p.1=q.1/\RelV p.2 q.2
def kV:Key->V
 |.inl i=>.int i
 |.inr x=>.str x
inductive HO where
  |lst (xs:List V)
  |tup (xs:List V)
  |dK (kvs:List (Key × V))|dT (kvs:List (aN × V))
  |set (S:Int->Bool) (n:Nat)
  |ins (C dx:Addr) (fs:List (Str × V))
  |own (x:Addr)
  |xd (fs:List (Str × V))
  |met (f x:Addr)
  |rng (lo hi:Int)
  |frz (o:Obj) (u:HO)
  |tbl (ps:Array Aa)
  |ext (φ:Heap->Prop)
abbrev Hp:=Addr->Option HO
def upd(H:Hp)(a:Addr)(o:HO):Hp:=λb=>if b=a then some o else H b
variable{H:Hp}{a:Addr}
theorem az{o:HO}:upd H a o a=some o:=by unfold upd;rw[aA Z]
variable{b:Addr}
theorem au{o:HO}(h:b≠a):upd H a o b=H b:=by unfold upd;rw[ao h]
variable{u:HO}
theorem ld_{o:HO}:upd (upd H a o) a u=upd H a u:=by
 funext b;unfold upd;split<;>rfl
theorem cU{o:HO}(h:H a=some o)(h':H b=some u)(d:o≠u):a≠b:=by
 intro e;subst e;rw[h] at h';exact d (ee h')
theorem bx{o:HO}(h:H a=some o)(h':H b=none):a≠b:=by
 intro e;subst e;rw[h] at h';cases h'
section
variable(P:Ad)(w:Af)
def fV(H:Hp)(h:Heap)(a:Addr):HO->Prop
 |.lst xs=>xs.length<=sizeLine/\∃(its:ax) (n:Nat),Vals xs its/\h.get? a=some { cls:=.type "list",data:=.seq its.toArray n }
 |.tup xs=>xs.length<=sizeLine/\∃its:ax,Vals xs its/\IsTup h a its.toArray/\∃o,h.get? a=some o/\o.dict=none
 |.dK kvs=>kvs.length<=sizeLine/\(a == sysModules)=false/\∃vs,KV kvs vs/\h.DictOf (fI P w) a vs
 |.dT kvs=>kvs.length<=sizeLine/\(a == sysModules)=false/\∃xs:List (aN × Addr × Aa),
   Paired (λ(p:aN × V) (q:aN × Addr × Aa)=>p.1=q.1/\H q.2.1=some (.tup (p.1.map kV))/\RelV p.2 q.2.2) kvs xs /\
   ∃o es ep,h.get? a=some o/\o.ExactDict/\o.data=.dict es ep/\es.toList=xs.map (entryOfKey (tupleKind (fI P w)))/\(xs.map (·.1)).Nodup
 |.set S n=>h.SetOf (intKind P w) a S n
 |.ins C dx fs=>H dx=some (.own a)/\fs.length<=1000/\dx≠a/\h.get? a=some (PySem.W.instObj C dx) /\
   ∃mA,h.Ns1 dx mA/\(∀f,eW (fs.lookup f) (mA f))/\PySem.Within mA (fs.map (·.1))
 |.own _=>∃o,h.get? a=some o
 |.xd fs=>∃mA,h.Ns1 a mA/\∀f,eW (fs.lookup f) (mA f)
 |.rng lo hi=>∃t u v,h.get? a=some { cls:=.type "range",data:=.fields (List.toArray [.int lo t,.int hi u,.int 1 v]) }
 |.frz o u=>h.get? a=some o/\fV H h a u
 |.tbl ps=>h.get? a=some { cls:=.none,data:=.fields ps }
 |.met f x=>h.get? a=some (PySem.W.methodObj (.ref f) (.ref x))
 |.ext φ=>φ h/\(∃o,h.get? a=some o)/\∀h1 h2:Heap,φ h1->(∀o,h1.get? a=some o->h2.get? a=some o)->φ h2
def fX(H:Hp)(h:Heap):Prop:=∀a o,H a=some o->fV P w H h a o
end
section
variable{P:Ad}{w:Af}{H H':Hp}{h h':Heap}{a:Addr}{o:HO}
theorem fV.lt(x:fV P w H h a o):a<h.objs.size:=by
 cases o with
 |lst xs=>let#[_,_,_,_,e]:=x;exact cE e
 |tup xs=>let#[_,_,_,p,_]:=x;exact p.lt
 |dK kvs=>let#[_,_,_,_,o,_,_,e,_]:=x;exact cE e
 |dT kvs=>let#[_,_,_,_,o,_,_,e,_]:=x;exact cE e
 |set S n=>let#[o,_,_,_,e,_]:=x;exact cE e
 |ins C dx fs=>let#[_,_,_,e,_]:=x;exact cE e
 |own y=>let#[_,e]:=x;exact cE e
 |xd fs=>let#[_,#[_,_,_,e,_],_]:=x;exact cE e
 |rng lo hi=>let#[_,_,_,e]:=x;exact cE e
 |frz ob u=>let#[e,_]:=x;exact cE e
 |tbl ps=>exact cE (show h.get? a=some _ from x)
 |met f y=>exact cE (show h.get? a=some _ from x)
 |ext φ=>let#[_,#[_,e],_]:=x;exact cE e
theorem Paired.bu{α β:Type}{F G:α->β->Prop}:∀{Nz:List α} {Ny:List β},Paired F Nz Ny->(∀a b,F a b->G a b)->Paired G Nz Ny
 |_,_,.nil,_=>.nil
 |_,_,.cons r t,f=>.cons (f _ _ r) (Paired.bu t f)
theorem fV.eS(x:fV P w H h a o)(k:∀b u,(b=a∨H b=some (.own a))->h.get? b=some u->h'.get? b=some u)
  (ho:∀b,H b=some (.own a)->H' b=some (.own a)) (ht:∀b xs,H b=some (.tup xs)->H' b=some (.tup xs)):fV P w H' h' a o:=by
 induction o with
 |lst xs=>let#[z,its,n,r,e]:=x;exact#[z,its,n,r,k _ _ (.inl Z) e]
 |tup xs=>let#[z,its,r,#[ob,e,c],o2,e2,c2]:=x;exact#[z,its,r,#[ob,k _ _ (.inl Z) e,c],o2,k _ _ (.inl Z) e2,c2]
 |dK kvs=>let#[z,y,vs,r,ob,es,ep,e,c]:=x;exact#[z,y,vs,r,ob,es,ep,k _ _ (.inl Z) e,c]
 |dT kvs=>
  let#[z,y,xs,r,ob,es,ep,e,c]:=x;exact#[z,y,xs,Paired.bu r λp q z=>#[z.1,ht _ _ z.2.1,z.2.2],ob,es,ep,k _ _ (.inl Z) e,c]
 |set S n=>let#[ob,es,ep,t,e,c]:=x;exact#[ob,es,ep,t,k _ _ (.inl Z) e,c]
 |ins C dx fs=>
  let#[d,z,ne,e,mA,#[od,es,ep,e2,c],r]:=x;exact#[ho _ d,z,ne,k _ _ (.inl Z) e,mA,#[od,es,ep,k _ _ (.inr d) e2,c],r]
 |own y=>let#[ob,e]:=x;exact#[ob,k _ _ (.inl Z) e]
 |xd fs=>let#[mA,#[od,es,ep,e,c],r]:=x;exact#[mA,#[od,es,ep,k _ _ (.inl Z) e,c],r]
 |rng lo hi=>let#[t,u,v,e]:=x;exact#[t,u,v,k _ _ (.inl Z) e]
 |frz ob u ih=>let#[e,q]:=x;exact#[k _ _ (.inl Z) e,ih q]
 |tbl ps=>
  have e:h.get? a=some { cls:=.none,data:=.fields ps }:=x;show h'.get? a=some { cls:=.none,data:=.fields ps };exact k a _ (.inl Z) e
 |met f y=>
  have e:h.get? a=some (PySem.W.methodObj (.ref f) (.ref y)):=x;show h'.get? a=some (PySem.W.methodObj (.ref f) (.ref y));exact k a _ (.inl Z) e
 |ext φ=>let#[p,#[o,e],st]:=x;exact#[st _ _ p λo q=>k _ _ (.inl Z) q,#[o,k _ _ (.inl Z) e],st]
theorem fX.lt(x:fX P w H h)(e:H a=some o):a<h.objs.size:=(x a o e).lt
theorem fX.fresh(x:fX P w H h)(e:h.objs.size<=a):H a=none:=by
 cases q:H a with
 |none=>rfl
 |some u=>exact absurd (vN (x.lt q) e) (Ei _)
theorem fX.kept(x:fX P w H h)(k:∀b u,h.get? b=some u->h'.get? b=some u):fX P w H h':=λa o e=>
 (x a o e).eS (λb u _ q=>k b u q) (λ_ q=>q) λ_ _ q=>q
theorem fX.laid(x:fX P w H h)(k:∀b u,h.get? b=some u->h'.get? b=some u)(hp:h.objs.size<=a)(new:fV P w (upd H a o) h' a o):fX P w (upd H a o) h':=λb u e=>by
 let hn:=x.fresh hp;by_cases hb:b=a
 ·subst hb;rw[az] at e;cases e;exact new
 ·rw[au hb] at e;exact (x b u e).eS (λc v _ q=>k c v q) (λc q=>by rw[au (bx q hn)];exact q) λc xs q=>by rw[au (bx q hn)];exact q
end
def Rd(H:Hp)(a:Addr)(u:HO):Prop:=H a=some u∨∃o,H a=some (.frz o u)
variable{P:Ad}{w:Af}{h:Heap}
theorem Rd.ok(r:Rd H a u)(x:fX P w H h):fV P w H h a u:=by
 rcases r with r|⟨o,r⟩
 ·exact x a u r
 ·let#[_,q]:=x a _ r;exact q
def Qf:Option HO->Prop
 |some (.lst _)=>True
 |some (.dK _)=>True
 |some (.dT _)=>True
 |some (.set _ _)=>True
 |some (.ins _ _ _)=>True
 |some (.ext _)=>True
 |_=>False
variable{h':Heap}{e x:Addr}{o':HO}
theorem fX.write(ok:fX P w H h)(mu:Qf (H x))(he:e=x∨H e=some (.own x))(k:∀b u,b≠e->h.get? b=some u->h'.get? b=some u)(Ls:∃u,h'.get? e=some u)
  (new:fV P w (upd H x o') h' x o'):fX P w (upd H x o') h':=λb u q=>by
 have Nl:∀c y,H c=some (.own y)->c≠x:=λc y r z=>by subst z;rw[r] at mu;exact mu
 have T4:∀c xs,H c=some (.tup xs)->c≠x:=λc xs r z=>by subst z;rw[r] at mu;exact mu
 by_cases hb:b=x
 ·subst hb;rw[az] at q;cases q;exact new
 ·rw[au hb] at q;by_cases J7:b=e
  ·have q':H b=some (.own x):=by
    rcases he with z|z
    ·exact absurd (J7.trans z) hb
    ·rw[J7];exact z
   rw[q] at q';cases q';let#[v,hv]:=Ls;exact#[v,by rw[J7];exact hv]
  ·apply (ok b u q).eS (λc v hc r=>k c v ?_ r) (λc r=>by rw[au (Nl c b r)];exact r) λc xs r=>by rw[au (T4 c xs r)];exact r
   rcases hc with rfl|hc
   ·exact J7
   ·rintro rfl;rcases he with z|z
    ·exact Nl c b hc z
    ·rw[hc] at z;cases z;exact hb Z
structure Un (fs ex:ay) (H H':Hp) (h h':Heap):Prop where
 keep:∀b o,h.get? b=some o->H b=none->b∉fs->b∉ex->h'.get? b=some o
 slot:∀b o,h.get? b=some o->H b=none->b∈fs->b∉ex->∃sl,h'.get? b=some { o with slots:=sl }
 free:∀b o,h.get? b=some o->H b=none->b∉ex->H' b=none
 there:∀b o,h.get? b=some o->b∉ex->∃o',h'.get? b=some o'
 pF:∀b xs,H b=some (.tup xs)->H' b=some (.tup xs)
 hG:∀b o u,H b=some (.frz o u)->H' b=some (.frz o u)
 iW:∀b ps,H b=some (.tbl ps)->∃more,H' b=some (.tbl (ps++more))
variable{ex fs:ay}{H1:Hp}{h1:Heap}
theorem Un.any(u:Un fs ex H H1 h h1){ob:Obj}(q:h.get? b=some ob)(n:H b=none)(hx:b∉ex):∃sl,h1.get? b=some { ob with slots:=sl }:=by
 by_cases hb:b∈fs
 ·exact u.slot b ob q n hb hx
 ·exact#[ob.slots,u.keep b ob q n hb hx]
theorem Un.kept(k:∀b u,h.get? b=some u->h'.get? b=some u):Un fs ex H H h h':=
 #[λb ob q _ _ _=>k b ob q,λb ob q _ _ _=>#[ob.slots,k b ob q],λ_ _ _ n _=>n,λb ob q _=>#[ob,k b ob q],λ_ _ q=>q,λ_ _ _ q=>q,λ_ ps q=>#[#[],by rw[q];simp]]
theorem Un.refl:Un fs ex H H h h:=Un.kept λ_ _ q=>q
variable{o:HO}
theorem Un.laid(k:∀b u,h.get? b=some u->h'.get? b=some u)(hp:h.objs.size<=a)(hn:H a=none):Un fs ex H (upd H a o) h h' where
 keep:=λb u q _ _ _=>k b u q
 slot:=λb u q _ _ _=>#[u.slots,k b u q]
 free:=λb u q n _=>by rw[au (eM (vN (cE q) hp))];exact n
 there:=λb u q _=>#[u,k b u q]
 pF:=λb xs q=>by rw[au (bx q hn)];exact q
 hG:=λb u xs q=>by rw[au (bx q hn)];exact q
 iW:=λb ps q=>#[#[],by rw[au (bx q hn),q];simp]
theorem Un.write(mu:Qf (H x))(he:e=x∨H e=some (.own x))(k:∀b u,b≠e->h.get? b=some u->h'.get? b=some u)(Ls:∃u,h'.get? e=some u):Un fs ex H (upd H x o) h h':=by
 have hx:∀b,H b=none->b≠x:=λb n z=>by subst z;rw[n] at mu;exact mu
 have hb:∀b,H b=none->b≠e:=λb n z=>by
  subst z;rcases he with r|r
  ·exact hx b n r
  ·rw[n] at r;cases r
 have hm:∀b u,H b=some u->¬Qf (some u)->b≠x:=λb u q nm z=>by subst z;rw[q] at mu;exact nm mu
 apply#[λb u q n _ _=>k b u (hb b n) q,λb u q n _ _=>#[u.slots,k b u (hb b n) q],λb u q n _=>by rw[au (hx b n)];exact n,λb u q _=>?_,
  λb xs q=>by rw[au (hm b _ q λz=>z)];exact q,λb u xs q=>by rw[au (hm b _ q λz=>z)];exact q,λb ps q=>#[#[],by rw[au (hm b _ q λz=>z),q];simp]]
 by_cases J7:b=e
 ·subst J7;exact Ls
 ·exact#[u,k b u J7 q]
def Qm(h:Heap)(H:Hp):ay:=(List.range h.objs.size).filter λa=>(H a).isSome
def i0(h:Heap)(H:Hp):Heap:=PySem.W.hideAll h (Qm h H)
theorem i1_(h:Heap)(H:Hp):(i0 h H).objs.size=h.objs.size:=PySem.W.hideAll_size _ _
variable{o:Obj}
theorem iL_(e:h.get? b=some o)(n:H b=none):(i0 h H).get? b=some o:=
 PySem.W.hideAll_get _ e λhm=>by
  have q:(H b).isSome=true:=(BA.mp hm).2;rw[n] at q;simp at q
theorem l9_(e:(i0 h H).get? b=some o):h.get? b=some o/\H b=none:=by
 have e':h.get? b=some o:=PySem.W.of_hideAll (Qm h H) e;apply#[e',?_];cases q:H b with
 |none=>rfl
 |some x=>
  have hm:b∈Qm h H:=BA.mpr #[List.mem_range.mpr (cE e'),by simp[q]];have z:(i0 h H).get? b=none:=PySem.W.hideAll_none (Qm h H) hm;rw[z] at e;cases e
end L2
abbrev ag:=List L2.V
abbrev aJ:=Option L2.V
namespace L2
open PySem PySem.Spec PyProof.Rows
structure Mod (K:af) (mg:Str->Option Aa) (base:Heap):Prop where
 NK:K.In base
 glob:base.Ns mainGlobals mg
 blt:∃mb,base.Ns builtinsNs mb/\∀x:Str,x≠"__name__"->mb x=bootBuiltins x
 nolimit:base.NoLimit
structure Cx where
 prog:Ad
 w:Af
 K:af
 mg:Str->Option Aa
 base:Heap
 A:Ag
 N:ae
 dg:Ab
 xy:Hp
 env:Env
 outer:List Env
 stack:List Env
 ex:ay
 fn:Str->Bool
 calm:Bool
 pn:List (Addr × Obj)
 xe:Aa->Ab->Prop
def Bp(l:List Env):ay:=l.filterMap (·.frame)
abbrev Cx.fs(X:Cx):ay:=Bp X.outer
def Mc(sc:Scope)(x:Str):Prop:=sc.names.lookup x=some .local∨sc.names.lookup x=some .cell∨sc.names.lookup x=some .free
def Loc(sc:Scope)(x:Str):Prop:=sc.names.lookup x=some .local∨sc.names.lookup x=some .cell
def Look(env:Env)(h:Heap)(m:Str->Option Aa)(x:Str)(u:Aa):Prop:=
 (env.kindOf x=some .local/\m x=some u)∨((env.kindOf x=some .cell∨env.kindOf x=some .free)/\∃c,env.cells.lookup x=some c/\h.IsCell c (some u))
structure Cx.Ok (X:Cx):Prop where
 mod:Mod X.K X.mg X.base
 kind:X.env.scope.kind=.function
 glob:X.env.globals=mainGlobals
 blt:X.env.builtins=builtinsNs
 above:X.dg.heap.objs.size<=X.env.locals
 inj:∀x y c,X.env.cells.lookup x=some c->X.env.cells.lookup y=some c->x=y
 has:∀x,(X.env.kindOf x=some .cell∨X.env.kindOf x=some .free)->∃c,X.env.cells.lookup x=some c
 LU:∀x c,X.fn x=true->X.env.cells.lookup x=some c->X.dg.heap.objs.size<=c
 hd:X.calm=true->X.A.handled=none
 frames:X.A.frames=some X.stack
 Qp:X.stack=X.outer∨(X.stack=X.env::X.outer/\X.env.frame=some X.env.locals)
 Rj:∀b∈X.ex,b≠X.env.locals/\∀x c,X.env.cells.lookup x=some c->c≠b
 bs:∀b o,X.base.get? b=some o->X.dg.heap.get? b=some o/\X.xy b=none
 Eh:X.base.objs.size<=X.dg.heap.objs.size
 Dw:∀b o,X.base.get? b=some o->b∉X.ex
 D0:∀b∈X.ex,b∉X.fs
 gc:X.dg.heap.FunFrames X.base X.outer
 Gm:∀b∈X.fs,X.xy b=none
structure Inv (X:Cx) (pins:List (Addr × Obj)) (σ:List aJ) (H:Hp) (s:Ab):Prop where
 ok:X.Ok
 os:s.os=X.dg.os
 bare:AllBare s.gens
 base:Un X.fs X.ex X.xy H X.dg.heap s.heap
 loc:∃m,s.heap.Ns X.env.locals m/\∀(i:Nat) (x:Str) (v:V),X.N[i]? = some x->σ[i]? = some (some v)->Mc X.env.scope x->∃u,RelV v u/\Look X.env s.heap m x u
 cell:∀x c,X.env.cells.lookup x=some c->∃v,s.heap.IsCell c v
 free:H X.env.locals=none
 eL:∀x c,X.env.cells.lookup x=some c->H c=none
 pin:∀p∈X.pn++pins,s.heap.get? p.1=some p.2/\H p.1=none/\p.1≠X.env.locals/\p.1∉X.fs/\∀v,p.2.data≠.cell v
 aO:fX X.prog X.w H s.heap
 len:σ.length=X.N.length
variable{X:Cx}
theorem Cx.Ok.T6(ok:X.Ok){b:Addr}{o:Obj}(e:X.base.get? b=some o):b∉X.fs:=λhb=>by
 have:=(ok.gc.mem hb).1;rw[e] at this;cases this
variable{pins:List (Addr × Obj)}{σ:List aJ}{H:Hp}{s:Ab}
theorem Inv.bs(I:Inv X pins σ H s):∀b o,X.base.get? b=some o->s.heap.get? b=some o/\H b=none:=λb o e=>
 #[I.base.keep b o (I.ok.bs b o e).1 (I.ok.bs b o e).2 (I.ok.T6 e) (I.ok.Dw b o e),I.base.free b o (I.ok.bs b o e).1 (I.ok.bs b o e).2 (I.ok.Dw b o e)]
theorem Inv.bk(I:Inv X pins σ H s):∀b o,X.base.get? b=some o->s.heap.get? b=some o:=λb o e=>(I.bs b o e).1
theorem Inv.mod(I:Inv X pins σ H s):Mod X.K X.mg X.base:=I.ok.mod
theorem Inv.gj(I:Inv X pins σ H s):X.K.In s.heap:=I.ok.mod.NK.keeps I.bk
theorem Inv.lt(I:Inv X pins σ H s):X.env.locals<s.heap.objs.size:=let #[_,hn,_]:=I.loc;hn.lt
theorem Inv.sz(I:Inv X pins σ H s):X.dg.heap.objs.size<=s.heap.objs.size:=AR I.ok.above (Nat.le_of_lt I.lt)
variable{a:Addr}
theorem Inv.T5(I:Inv X pins σ H s)(h:s.heap.objs.size<=a):a∉X.fs:=λhb=>by
 let#[_,o,ho,_]:=I.ok.gc.mem hb;exact absurd (vN (cE ho) (AR I.sz h)) (Ei _)
theorem Inv.E2(I:Inv X pins σ H s):∀x c,X.env.cells.lookup x=some c->c≠X.env.locals:=λx c e z=>by
 let#[v,o,ho,hd]:=I.cell x c e;let#[m,#[o',es,ep,i8,pS,_],_]:=I.loc;rw[z,i8] at ho;cases ho;rw[pS] at hd;cases hd
theorem Inv.gc(I:Inv X pins σ H s):s.heap.FunFrames X.base X.outer:=by
 have all:∀(l:List Env),(∀b∈Bp l,b∈X.fs)->X.dg.heap.FunFrames X.base l->s.heap.FunFrames X.base l:=by
  intro l
  induction l with
  |nil=>intro _ _;trivial
  |cons env r ih=>
   intro hs hl;let#[hk,#[L,o,hf,hn,ho,hd],hr]:=hl;have hL:L∈X.fs:=hs L (by unfold Bp;rw[List.filterMap_cons,hf];exact c8);let#[sl,e]:=I.base.slot L o ho (I.ok.Gm L hL) hL λz=>I.ok.D0 L z hL;exact#[hk,#[L,_,hf,hn,e,hd],ih (λb hb=>hs b (by unfold Bp;rw[List.filterMap_cons,hf];exact dF _ hb)) hr]
 exact all X.outer (λ_ hb=>hb) I.ok.gc
theorem Inv.stack(I:Inv X pins σ H s):s.heap.FunFrames X.base X.stack:=by
 rcases I.ok.Qp with e|⟨e,hf⟩
 ·rw[e];exact I.gc
 ·rw[e];let#[m,hn,_]:=I.loc;apply .cons (by rw[I.ok.kind];decide) hf hn ?_ I.gc;exact Heap.get?_none_of_le (AR I.ok.Eh I.ok.above)
theorem Inv.yl(I:Inv X pins σ H s):∀b∈Bp X.stack,b∈X.env.locals::X.fs:=λb hb=>by
 rcases I.ok.Qp with e|⟨e,hf⟩
 ·rw[e] at hb;exact dF _ hb
 ·rw[e] at hb;unfold Bp at hb;rw[List.filterMap_cons,hf] at hb;exact hb
theorem Inv.zS(I:Inv X pins σ H s):∀b∈Bp X.stack,H b=none:=λb hb=>by
 rcases bW.mp (I.yl b hb) with e|hb
 ·rw[e];exact I.free
 ·let#[_,o,ho,_]:=I.ok.gc.mem hb;exact I.base.free b o ho (I.ok.Gm b hb) λz=>I.ok.D0 b z hb
variable{g':Array GenState}{t':Nat}{d':Drawn}{ch:ay}{H':Hp}{h':Heap}
theorem Inv.step(I:Inv X pins σ H s)(ER:∀b∈ch,(b∈X.ex∨X.dg.heap.objs.size<=b)/\b≠X.env.locals/\(∀x c,X.env.cells.lookup x=some c->c≠b)/\∀p∈X.pn++pins,p.1≠b)(keep:∀b o,b≠X.env.locals->b∉X.fs->b∉ch->s.heap.get? b=some o->H b=none->h'.get? b=some o)(slot:∀b o,b≠X.env.locals->b∈X.fs->b∉ch->s.heap.get? b=some o->H b=none->∃sl,h'.get? b=some { o with slots:=sl })(free:∀b o,b∉ch->s.heap.get? b=some o->H b=none->H' b=none)(there:∀b o,b∉ch->s.heap.get? b=some o->∃o',h'.get? b=some o')(pF:∀b xs,H b=some (.tup xs)->H' b=some (.tup xs))(hG:∀b o u,H b=some (.frz o u)->H' b=some (.frz o u))(iW:∀b ps,H b=some (.tbl ps)->∃more,H' b=some (.tbl (ps++more)))(ns:∀m,s.heap.Ns X.env.locals m->h'.Ns X.env.locals m)(aO:fX X.prog X.w H' h')(hg:AllBare g') :
  Inv X pins σ H' { s with heap:=h',gens:=g',drawn:=d',toks:=t' }:=by
 have ZI:∀b o,X.dg.heap.get? b=some o->b≠X.env.locals:=λb o e=>eM (vN (cE e) I.ok.above)
 have QH:∀b o,X.dg.heap.get? b=some o->b∉X.ex->b∉ch:=λb o e hx hb=>by
  rcases (ER b hb).1 with z|z
  ·exact hx z
  ·exact absurd (vN (cE e) z) (Ei _)
 have cellK:∀x c,X.env.cells.lookup x=some c->∀v,s.heap.IsCell c v->h'.IsCell c v:=λx c e v ⟨o,ho,hd⟩=>by
  have Nt:c∉ch:=λz=>(ER c z).2.2.1 x c e Z;by_cases hc:c∈X.fs
  ·let#[sl,q]:=slot c o (I.E2 x c e) hc Nt ho (I.eL x c e);exact#[_,q,hd]
  ·exact#[o,keep c o (I.E2 x c e) hc Nt ho (I.eL x c e),hd]
 apply#[I.ok,I.os,hg,#[λb o e n hb hx=>?_,λb o e n hb hx=>?_,λb o e n hx=>?_,λb o e hx=>?_,λb xs e=>pF b xs (I.base.pF b xs e),λb o xs e=>hG b o xs (I.base.hG b o xs e),λb ps e=>?_],?_,λx c e=>?_,?_,λx c e=>?_,λp hp=>?_,aO,I.len]
 ·exact keep b o (ZI b o e) hb (QH b o e hx) (I.base.keep b o e n hb hx) (I.base.free b o e n hx)
 ·let#[sl,e1]:=I.base.slot b o e n hb hx;let#[sl',e2]:=slot b _ (ZI b o e) hb (QH b o e hx) e1 (I.base.free b o e n hx);exact#[sl',e2]
 ·let#[o',e1]:=I.base.there b o e hx;exact free b o' (QH b o e hx) e1 (I.base.free b o e n hx)
 ·let#[o',e1]:=I.base.there b o e hx;exact there b o' (QH b o e hx) e1
 ·let#[m1,e1]:=I.base.iW b ps e;let#[m2,e2]:=iW b _ e1;exact#[m1++m2,by rw[e2,Array.append_assoc]]
 ·let#[m,hn,hl]:=I.loc;apply#[m,ns m hn,λi x v e1 e2 e3=>?_];let#[u,r,l]:=hl i x v e1 e2 e3;apply#[u,r,?_];rcases l with l|⟨k,c,e,z⟩
  ·exact .inl l
  ·exact .inr #[k,c,e,cellK x c e _ z]
 ·let#[v,z]:=I.cell x c e;exact#[v,cellK x c e v z]
 ·let#[m,#[o,_,_,ho,_],_]:=I.loc;exact free _ o (λz=>(ER _ z).2.1 Z) ho I.free
 ·let#[v,o,ho,hd]:=I.cell x c e;exact free c o (λz=>(ER c z).2.2.1 x c e Z) ho (I.eL x c e)
 ·let#[e,n,ne,nf,d]:=I.pin p hp;have Nt:p.1∉ch:=λz=>(ER p.1 z).2.2.2 p hp Z;exact#[keep p.1 p.2 ne nf Nt e n,free p.1 p.2 Nt e n,ne,nf,d]
theorem Inv.un(I:Inv X pins σ H s)(u:Un X.fs [] H H' s.heap h')(aO:fX X.prog X.w H' h'):Inv X pins σ H' { s with heap:=h',toks:=t' }:=by
 let#[m,#[o,es,ep,ho,r],_]:=id I.loc;let#[sl,hL]:=u.any ho I.free Z2
 exact I.step (g':=s.gens) (d':=s.drawn) (ch:=[]) (λ_ z=>nomatch z) (λb o _ hb _ e n=>u.keep b o e n hb Z2) (λb o _ hb _ e n=>u.slot b o e n hb Z2) (λb o _ e n=>u.free b o e n Z2) (λb o _ e=>u.there b o e Z2) u.pF u.hG u.iW (λm' hm=>by
  let#[o',Rk,Rm,i8,r']:=hm;rw[ho] at i8;cases i8;exact#[_,Rk,Rm,hL,r']) aO I.bare
theorem Inv.call(I:Inv X pins σ H s)(u:Un (Bp X.stack) ch H H' s.heap h')(aO:fX X.prog X.w H' h')(hg:AllBare g')(ER:∀b∈ch,(b∈X.ex∨X.dg.heap.objs.size<=b)/\b≠X.env.locals/\(∀x c,X.env.cells.lookup x=some c->c≠b)/\∀p∈X.pn++pins,p.1≠b) :
  Inv X pins σ H' { s with heap:=h',gens:=g',drawn:=d',toks:=t' }:=by
 let#[m,#[o,es,ep,ho,r],_]:=id I.loc;let#[sl,hL]:=u.any ho I.free λz=>(ER _ z).2.1 Z
 exact I.step (ch:=ch) ER (λb o hL hb hc e n=>u.keep b o e n (λz=>(bW.mp (I.yl b z)).elim hL hb) hc) (λb o _ _ hc e n=>u.any e n hc) (λb o hc e n=>u.free b o e n hc) (λb o hc e=>u.there b o e hc) u.pF u.hG u.iW (λm' hm=>by
  let#[o',Rk,Rm,i8,r']:=hm;rw[ho] at i8;cases i8;exact#[_,Rk,Rm,hL,r']) aO hg
theorem Inv.turned{it:Addr}(I:Inv X pins σ H s)(k:∀b o,b≠it->s.heap.get? b=some o->h'.get? b=some o)(hn:H it=none)(hL:it≠X.env.locals)(h1:it∈X.ex∨X.dg.heap.objs.size<=it)(h2:∀x c,X.env.cells.lookup x=some c->c≠it)(h3:∀p∈X.pn++pins,p.1≠it):Inv X pins σ H { s with heap:=h',toks:=t' }:=by
 have ZH:∀b u,H b=some u->b≠it:=λb u e z=>by rw[z,hn] at e;cases e
 apply I.step (g':=s.gens) (d':=s.drawn) (ch:=[it]) (λb hb=>?_) (λb o _ _ hc e _=>k b o (λz=>hc (by simp[z])) e) (λb o _ _ hc e _=>#[o.slots,k b o (λz=>hc (by simp[z])) e]) (λ_ _ _ _ n=>n)
  (λb o hc e=>#[o,k b o (λz=>hc (by simp[z])) e]) (λ_ _ e=>e) (λ_ _ _ e=>e) (λb ps e=>#[#[],by rw[e];simp]) (λm hm=>?_) (λb u e=>?_) I.bare
 ·have e:b=it:=by simpa using hb
  subst e;exact#[h1,hL,h2,h3]
 ·let#[o,es,ep,ho,r]:=hm;exact#[o,es,ep,k _ o (Ne.symm hL) ho,r]
 ·apply (I.aO b u e).eS (λc v hc q=>k c v ?_ q) (λ_ q=>q) λ_ _ q=>q;rcases hc with z|z
  ·rw[z];exact ZH b u e
  ·exact ZH c _ z
theorem Inv.tok(I:Inv X pins σ H s)(t:Nat):Inv X pins σ H { s with toks:=t }:=I.un (h':=s.heap) (t':=t) Un.refl I.aO
theorem Inv.kept(I:Inv X pins σ H s)(k:∀b u,s.heap.get? b=some u->h'.get? b=some u):Inv X pins σ H { s with heap:=h',toks:=t' }:=I.un (Un.kept k) (I.aO.kept k)
variable{o:HO}
theorem Inv.laid(I:Inv X pins σ H s)(k:∀b u,s.heap.get? b=some u->h'.get? b=some u)(hp:s.heap.objs.size<=a)(new:fV X.prog X.w (upd H a o) h' a o) :
  Inv X pins σ (upd H a o) { s with heap:=h',toks:=t' }:=I.un (Un.laid k hp (I.aO.fresh hp)) (I.aO.laid k hp new)
theorem Inv.write{x e:Addr}(I:Inv X pins σ H s)(mu:Qf (H x))(he:e=x∨H e=some (.own x))(k:∀b u,b≠e->s.heap.get? b=some u->h'.get? b=some u)(Ls:∃u,h'.get? e=some u)(new:fV X.prog X.w (upd H x o) h' x o):Inv X pins σ (upd H x o) { s with heap:=h',toks:=t' }:=I.un (Un.write mu he k Ls) (I.aO.write mu he k Ls new)
theorem Inv.Aw{Hl:List (Addr × Obj)}(I:Inv X pins σ H s)(h:∀p∈Hl,s.heap.get? p.1=some p.2/\H p.1=none/\p.1≠X.env.locals/\p.1∉X.fs/\∀v,p.2.data≠.cell v):Inv X Hl σ H s:=
 #[I.ok,I.os,I.bare,I.base,I.loc,I.cell,I.free,I.eL,λp hp=>(fM.mp hp).elim (λz=>I.pin p (List.mem_append_left _ z)) (h p),I.aO,I.len]
variable{x:Str}{i:Nat}
theorem g4_{N:ae}(hN:N.Nodup){j:Nat}(a:N[i]? = some x)(b:N[j]? = some x):i=j:=by
 let#[h1,e1]:=cc.mp a;let#[h2,e2]:=cc.mp b;exact (List.getElem_inj hN).mp (e1.trans e2.symm)
variable{M:Model}{A:Ag}{E:Aa->Ab->Prop}{v:V}{u:Aa}{Q:Unit->Ab->Prop}
theorem f0_(I:Inv X pins σ H s)(hN:X.N.Nodup)(hi:X.N[i]? = some x)(hx:Loc X.env.scope x)(r:RelV v u)(h:∀s',Inv X pins (σ.set i (some v)) H s'->(∃a,Heap.SameBut a s.heap s'.heap/\(a=X.env.locals∨X.env.cells.lookup x=some a))->Q () s')(hf:X.fn x=true∨X.env.scope.names.lookup x=some .local:=by first|exact .inl Z|exact .inr Z|assumption):wpAny M A (storeName X.env x u) Q E s:=by
 let#[m,hn,hl]:=id I.loc;have Vw:(X.env.scope.kind == .class || (X.env.scope.kind == .module&&X.env.locals != X.env.globals))=false:=by rw[I.ok.kind];rfl
 have Oz:i<σ.length:=by rw[I.len];exact (cc.mp hi).1
 let E2:=I.E2
 have tracked:∀{a:Addr} {h':Heap},(∃o,s.heap.get? a=some o/\H a=none)->Heap.SameBut a s.heap h'->fX X.prog X.w H h':=λ{a h'} ha hs b ob e=>by
  let#[_,_,HF]:=ha;apply (I.aO b ob e).eS (λc w' hc q=>(hs.2 c ?_).trans q) (λ_ q=>q) λ_ _ q=>q;rintro rfl;rcases hc with rfl|hc
  ·rw[HF] at e;cases e
  ·rw[HF] at hc;cases hc
 rcases hx with hk|hk
 ·apply wpAny_storeName_local hk hn (λh' Oi hs=>?_) Vw;let#[oL,_,_,QU,_]:=id hn;apply h _ #[I.ok,I.os,I.bare,#[λb o e n hb hx=>?_,λb o e n hb hx=>?_,I.base.free,λb o e hx=>?_,I.base.pF,I.base.hG,I.base.iW],#[_,Oi,λj y v' e1 e2 e3=>?_],λy c e=>?_,I.free,I.eL,λp hp=>?_,tracked #[oL,QU,I.free] hs,by simpa using I.len] #[_,hs,.inl Z]
  ·exact (hs.2 b (eM (vN (cE e) I.ok.above))).trans (I.base.keep b o e n hb hx)
  ·let#[sl,e1]:=I.base.slot b o e n hb hx;exact#[sl,(hs.2 b (eM (vN (cE e) I.ok.above))).trans e1]
  ·let#[o',e1]:=I.base.there b o e hx;exact#[o',(hs.2 b (eM (vN (cE e) I.ok.above))).trans e1]
  ·by_cases hj:j=i
   ·subst hj;rw[hi] at e1;cases e1;rw[List.getElem?_set_self Oz] at e2;cases e2;exact#[u,r,.inl #[hk,by simp]]
   ·rw[List.getElem?_set_ne (Ne.symm hj)] at e2;let#[u',r',q]:=hl j y v' e1 e2 e3;apply#[u',r',?_];rcases q with⟨k,e⟩|⟨k,c,e,z⟩
    ·apply .inl #[k,?_];have:y≠x:=λe=>hj (g4_ hN e1 (e▸hi));simp[this,e]
    ·exact .inr #[k,c,e,z.sameBut hs (E2 y c e)]
  ·let#[w',z]:=I.cell y c e;exact#[w',z.sameBut hs (E2 y c e)]
  ·let#[e,n,ne,nf,d]:=I.pin p hp;exact#[(hs.2 p.1 ne).trans e,n,ne,nf,d]
 ·have Vl:X.fn x=true:=by
   rcases hf with z|z
   ·exact z
   ·rw[z] at hk;cases hk
  let#[c,hc]:=I.ok.has x (.inl hk);let#[w',z]:=I.cell x c hc;apply wpAny_storeName_cell I.ok.kind hk hc z (λh' Lu hs=>?_);let#[oc,Oh,U6]:=id z;apply h { s with heap:=h' } #[I.ok,I.os,I.bare,#[λb o e n hb hx=>?_,λb o e n hb hx=>?_,I.base.free,λb o e hx=>?_,I.base.pF,I.base.hG,I.base.iW],#[m,hn.sameBut hs (Ne.symm (E2 x c hc)),λj y v' e1 e2 e3=>?_],λy c' e=>?_,I.free,I.eL,λp hp=>?_,tracked #[oc,Oh,I.eL x c hc] hs,by simpa using I.len] #[c,hs,.inr hc]
  ·exact (hs.2 b (eM (vN (cE e) (I.ok.LU x c Vl hc)))).trans (I.base.keep b o e n hb hx)
  ·let#[sl,e1]:=I.base.slot b o e n hb hx;exact#[sl,(hs.2 b (eM (vN (cE e) (I.ok.LU x c Vl hc)))).trans e1]
  ·let#[o',e1]:=I.base.there b o e hx;exact#[o',(hs.2 b (eM (vN (cE e) (I.ok.LU x c Vl hc)))).trans e1]
  ·by_cases hj:j=i
   ·subst hj;rw[hi] at e1;cases e1;rw[List.getElem?_set_self Oz] at e2;cases e2;exact#[u,r,.inr #[.inl hk,c,hc,Lu]]
   ·rw[List.getElem?_set_ne (Ne.symm hj)] at e2;let#[u',r',q]:=hl j y v' e1 e2 e3;apply#[u',r',?_];rcases q with q|⟨k,c',e,z'⟩
    ·exact .inl q
    ·apply .inr #[k,c',e,z'.sameBut hs ?_];rintro rfl;exact hj (g4_ hN e1 (I.ok.inj _ _ _ e hc▸hi))
  ·by_cases hcc:c'=c
   ·subst hcc;exact#[_,Lu]
   ·let#[w2,z2]:=I.cell y c' e;exact#[w2,z2.sameBut hs hcc]
  ·let#[e,n,ne,nf,d]:=I.pin p hp;apply#[(hs.2 p.1 ?_).trans e,n,ne,nf,d];intro q;rw[q,Oh] at e;have q':oc=p.2:=ee e;exact d w' (by rw[<- q'];exact U6)
theorem fT_(I:Inv X pins σ H s)(hN:X.N.Nodup)(hi:X.N[i]? = some x)(hx:Loc X.env.scope x)(r:RelV v u)(h:∀s',Inv X pins (σ.set i (some v)) H s'->Q () s')(hf:X.fn x=true∨X.env.scope.names.lookup x=some .local:=by first|exact .inl Z|exact .inr Z|assumption):wpAny M A (storeName X.env x u) Q E s:=
 f0_ I hN hi hx r (λs' I' _=>h s' I') hf
theorem Inv.PM{s':Ab}(I:Inv X pins σ H s)(ho:s'.os=s.os)(u:Un (Bp X.stack) ch H H' s.heap s'.heap)(aO:fX X.prog X.w H' s'.heap)(hg:AllBare s'.gens)(ER:∀b∈ch,(b∈X.ex∨X.dg.heap.objs.size<=b)/\b≠X.env.locals/\(∀x c,X.env.cells.lookup x=some c->c≠b)/\∀p∈X.pn++pins,p.1≠b):Inv X pins σ H' s':=by
 let#[h',g',d',t',o']:=s';have e:o'=s.os:=ho;subst e;exact I.call (g':=g') (t':=t') (d':=d') u aO hg ER
abbrev XK:=Aa->Option Addr->Hp->Prop
abbrev St:=List aJ
abbrev VK:=V->Hp->Prop
abbrev TE:=St->Hp->VK->Prop
abbrev TT:=St->Hp->(Bool->Hp->Prop)->Prop
abbrev TA:=St->Hp->(ag->Hp->Prop)->Prop
structure Ends where
 nx:St->Hp->Prop
 rt:VK
 bk:St->Hp->Prop:=λ_ _=>False
 ct:St->Hp->Prop:=λ_ _=>False
abbrev TS:=Ends->St->Hp->Prop
def EP(X:Cx)(pins:List (Addr × Obj))(σ:St)(Q:VK)(u:Aa)(s':Ab):Prop:=∃v H',Inv X pins σ H' s'/\RelV v u/\Q v H'
def TP(X:Cx)(pins:List (Addr × Obj))(σ:St)(Q:Bool->Hp->Prop)(b:Bool)(s':Ab):Prop:=∃H',Inv X pins σ H' s'/\Q b H'
def AP(X:Cx)(pins:List (Addr × Obj))(σ:St)(Q:ag->Hp->Prop)(us:ax)(s':Ab):Prop:=∃vs H',Inv X pins σ H' s'/\Vals vs us/\Q vs H'
def SP(X:Cx)(pins:List (Addr × Obj))(D:Ends)(f:Flow)(s':Ab):Prop:=
 match f with
 |.next=>∃bq H',Inv X pins bq H' s'/\D.nx bq H'
 |.brk=>∃bq H',Inv X pins bq H' s'/\D.bk bq H'
 |.cont=>∃bq H',Inv X pins bq H' s'/\D.ct bq H'
 |.ret u=>∃v bq H',Inv X pins bq H' s'/\RelV v u/\D.rt v H'
def PE(X:Cx)(e:Expr)(t:TE):Prop:=
 ∀(pins:List (Addr × Obj)) (s:Ab) (σ:St) (H:Hp) (Q:VK),Inv X pins σ H s->t σ H Q->wpAny (model X.prog X.w) X.A (eval e X.env) (EP X pins σ Q) X.xe s
def PT(X:Cx)(e:Expr)(t:TT):Prop:=
 ∀(pins:List (Addr × Obj)) (s:Ab) (σ:St) (H:Hp) (Q:Bool->Hp->Prop),Inv X pins σ H s->t σ H Q->wpAny (model X.prog X.w) X.A (isTrue e X.env (eval e X.env)) (TP X pins σ Q) X.xe s
def PW(X:Cx)(e:Expr)(t:TT):Prop:=
 ∀(whole:Sem Aa) (pins:List (Addr × Obj)) (s:Ab) (σ:St) (H:Hp) (Q:Bool->Hp->Prop),Inv X pins σ H s->t σ H Q->wpAny (model X.prog X.w) X.A (isTrue e X.env whole) (TP X pins σ Q) X.xe s
theorem PW.pt{e:Expr}{t:TT}(h:PW X e t):PT X e t:=h _
def PA(X:Cx)(es:List Expr)(t:TA):Prop:=
 ∀(pos:Pos) (pins:List (Addr × Obj)) (s:Ab) (σ:St) (H:Hp) (Q:ag->Hp->Prop),Inv X pins σ H s->t σ H Q->wpAny (model X.prog X.w) X.A (spliced (backTo pos (starEach es X.env))) (AP X pins σ Q) X.xe s
def PS(X:Cx)(st:Stmt)(t:TS):Prop:=
 ∀(pins:List (Addr × Obj)) (s:Ab) (σ:St) (H:Hp) (D:Ends),Inv X pins σ H s->t D σ H->wpAny (model X.prog X.w) X.A (exec st X.env) (SP X pins D) X.xe s
def yf(X:Cx)(st:List Stmt)(t:TS):Prop:=
 ∀(pins:List (Addr × Obj)) (s:Ab) (σ:St) (H:Hp) (D:Ends),Inv X pins σ H s->t D σ H->wpAny (model X.prog X.w) X.A (execs st X.env) (SP X pins D) X.xe s
theorem aZ{α:Type}{t:Sem α}{Q Q':α->Ab->Prop}(h:wpAny M A t Q E s)(hQ:∀a s,Q a s->Q' a s):wpAny M A t Q' E s:=wpAny_mono h hQ λ_ _ x=>x
end L2
abbrev cn:=L2.St->L2.Hp->Prop
abbrev bL:=Nat->L2.St->L2.Hp->Prop
abbrev dG:=Nat->List L2.V->L2.Hp->Prop
namespace L2
open PySem PySem.Spec PyProof.Rows
variable{pos:Pos}
variable{σ:St}
variable{op:CmpOp}
variable{c:Expr}
section
variable{X:Cx}
inductive Cf (i:Nat) (σ:St) (H:Hp) (Q:VK):Prop
 |mk:∀v,σ[i]? = some (some v)->Q v H->Cf i σ H Q
def tC(v:V):TE:=λ_ H Q=>Q v H
theorem lz_{i:Nat}{x:Str}(hN:X.N[i]? = some x)(hv:Mc X.env.scope x)(hd:(x == ("__debug__":Str))=false:=by decide)(hE:(x == ("__classdict__":Str))=false:=by decide):PE X (.Name x pos) (Cf i):=by
 intro pins s σ H Q I h;let#[v,e,h]:=h;let#[m,hn,hl]:=I.loc;let#[u,r,l]:=hl i x v hN e hv;have fin:EP X pins σ Q u s:=#[v,H,I,r,h];rcases l with⟨hk,hm⟩|⟨hk,c,hc,iB⟩
 ·exact wpAny_Name (wpAny_loadName_local I.ok.kind hk hn hm fin) hd
 ·rcases hk with hk|hk
  ·exact wpAny_Name (wpAny_loadName_cell I.ok.kind hk hc iB fin) hd
  ·exact wpAny_Name (wpAny_loadName_free I.ok.kind hk hc iB fin hE) hd
theorem aK{i j pos}:PE X (.Constant (.int i) j pos) (tC (.int i)):=λ_ _ _ H _ I h=>wpAny_Constant_int #[.int i,H,I.tok _,#[_,Z],h]
theorem Gq{b j pos}:PE X (.Constant (.bool b) j pos) (tC (.bl b)):=λ_ _ _ H _ I h=>Constant_bool #[.bl b,H,I,Z,h]
theorem Kv{j pos}:PE X (.Constant .none j pos) (tC .non):=λ_ _ _ H _ I h=>Constant_none #[.non,H,I,Z,h]
theorem bZ{x j pos}:PE X (.Constant (.str x) j pos) (tC (.str x)):=λ_ _ _ H _ I h=>Calls.Constant_str #[.str x,H,I.tok _,#[_,Z],h]
def Gl(X:Cx)(x:Str):Prop:=X.env.kindOf x=some .globalImplicit
theorem Ru{E:Aa->Ab->Prop}{pins:List (Addr × Obj)}{s:Ab}{H:Hp}{x:Str}{u:Aa}{Q:Aa->Ab->Prop}(I:Inv X pins σ H s)(hg:Gl X x)(hm:X.mg x=some u)(h:Q u s)(hd:(x == ("__debug__":Str))=false:=by decide):wpAny (model X.prog X.w) X.A (eval (.Name x pos) X.env) Q E s:=
 Calls.Name_function_global I.ok.kind hg (Calls.loadGlobal_global (by rw[I.ok.glob];exact I.mod.glob.keeps I.bk) hm h) hd
theorem LM{E:Aa->Ab->Prop}{pins:List (Addr × Obj)}{s:Ab}{H:Hp}{x:Str}{u:Aa}{Q:Aa->Ab->Prop}(I:Inv X pins σ H s)(hg:Gl X x)(hm:X.mg x=none)(hv:bootBuiltins x=some u)(h:Q u s)(hn:x≠"__name__":=by decide)(hd:(x == ("__debug__":Str))=false:=by decide):wpAny (model X.prog X.w) X.A (eval (.Name x pos) X.env) Q E s:=by
 let#[mb,h1,h2]:=I.mod.blt;exact Calls.Name_function_global I.ok.kind hg (Calls.loadGlobal_builtin (by rw[I.ok.glob];exact I.mod.glob.keeps I.bk) hm (by rw[I.ok.blt];exact h1.keeps I.bk) ((h2 x hn).trans hv) h) hd
theorem KH{x:Str}{v:V}{u:Aa}(hg:Gl X x)(hm:X.mg x=some u)(r:RelV v u)(hd:(x == ("__debug__":Str))=false:=by decide):PE X (.Name x pos) (tC v):=
 λ_ _ _ H _ I h=>Ru I hg hm #[v,H,I,r,h] hd
theorem zw{x:Str}{v:V}{u:Aa}(hg:Gl X x)(hm:X.mg x=none)(hv:bootBuiltins x=some u)(r:RelV v u)(hn:x≠"__name__":=by decide)(hd:(x == ("__debug__":Str))=false:=by decide):PE X (.Name x pos) (tC v):=
 λ_ _ _ H _ I h=>LM I hg hm hv #[v,H,I,r,h] hn hd
variable{a b:Expr}{ta tb:TE}{pos:Pos}
def PC(X:Cx)(op:CmpOp)(a b:Expr)(t:TE):Prop:=
 ∀(pins:List (Addr × Obj)) (s:Ab) (σ:St) (H:Hp) (Q:VK),Inv X pins σ H s->t σ H Q->
  wpAny (model X.prog X.w) X.A (eval a X.env) (λv a_=>wpAny (model X.prog X.w) X.A (eval b X.env) (λu wD=>wpAny (model X.prog X.w) X.A (compareOp op v u) (EP X pins σ Q) X.xe wD) X.xe a_) X.xe s
theorem wV(b:Expr)(h:op≠.In)(h2:op≠.NotIn):behindInMarks op b=false:=by
 have e1:(op == CmpOp.In)=false:=by cases op<;>first|rfl|exact absurd Z h
 have e2:(op == CmpOp.NotIn)=false:=by cases op<;>first|rfl|exact absurd Z h2
 cases b<;>simp[behindInMarks,e1,e2]
def S7(ta:TE):TE:=λσ H Q=>ta σ H λx H1=>Q (.bl (decide (x=.non))) H1
theorem RelV.Dv{x:V}{v:Aa}(r:RelV x v):(v == Value.none)=decide (x=.non):=by
 cases x with
 |non=>cases r;rfl
 |bl _=>cases r;rfl
 |int _=>let#[t,rfl]:=r;rfl
 |str _=>let#[t,rfl]:=r;rfl
 |byt _=>let#[t,rfl]:=r;rfl
 |flt _=>let#[t,rfl]:=r;rfl
 |ref _=>cases r;rfl
 |ty _=>cases r;rfl
theorem Rf{j pos'}(ha:PE X a ta):PC X .Is a (.Constant .none j pos') (S7 ta):=by
 intro pins s σ H Q I h;apply aZ (ha pins s σ H _ I h) λv s1 ⟨x,H1,I1,r1,q1⟩=>?_;exact Constant_none (is_none_gen #[.bl _,H1,I1,by rw[r1.Dv];rfl,q1])
inductive Zi (Q:Bool->Hp->Prop) (x:V) (H1:Hp):Prop
 |mk:∀c,x=.bl c->Q c H1->Zi Q x H1
def tB(t:TE):TT:=λσ H Q=>t σ H λx H1=>Zi Q x H1
theorem O_{t:TE}(h:PC X op a b t)(h1:behindInMarks op b=false:=by first|exact wV _ (by decide) (by decide)|rfl):PE X (.Compare a [op] [b] pos) t:=λpins s σ H Q I hw=>wpAny_Compare1 (h pins s σ H Q I hw) h1
theorem Ih{t:TE}(h:PC X op a b t)(h1:behindInMarks op b=false:=by first|exact wV _ (by decide) (by decide)|rfl):PT X (.Compare a [op] [b] pos) (tB t):=by
 intro pins s σ H Q I hw;apply wpAny_isTrue_Compare1 (aZ (h pins s σ H _ I hw) λv s1 h1=>aZ h1 λu s2 h2=>aZ h2 λc s3 ⟨x,H1,I1,r1,q1⟩=>?_) h1;let#[d,rfl,q]:=q1;cases r1;exact BO #[H1,I1,q]
theorem fR{e:Expr}{t:TE}(h:PE X e t)(he:∀whole,isTrue e X.env whole=(do let v <- whole;standAt e.pos;holding [v] (truthy v)):=by intro _;rfl):PT X e (tB t):=by
 intro pins s σ H Q I hw;apply isTrue_plain (aZ (h pins s σ H _ I hw) λv s1 ⟨x,H1,I1,r1,q1⟩=>?_) (he _);let#[d,rfl,q]:=q1;cases r1;exact BO #[H1,I1,q]
variable{tA Qo:TT}{rest:List Expr}
def Tc(t u:TT):TT:=λσ H Q=>t σ H λc H1=>if c=true then u σ H1 Q else Q false H1
def tOr(t u:TT):TT:=λσ H Q=>t σ H λc H1=>if c=true then Q true H1 else u σ H1 Q
def S0(t:TT):TT:=λσ H Q=>t σ H λc H1=>Q (!c) H1
theorem Ir(ha:PT X a tA):PW X (.BoolOp .And [a] pos) tA:=by
 intro wh pins s σ H Q I h;apply isTrue_and (aZ (ha pins s σ H Q I h) λc s1 e=>?_);cases c with
 |true=>exact isTrue_and_nil e
 |false=>exact e
theorem Ig(ha:PT X a tA):PW X (.BoolOp .Or [a] pos) tA:=by
 intro wh pins s σ H Q I h;apply isTrue_or (aZ (ha pins s σ H Q I h) λc s1 e=>?_);cases c with
 |false=>exact isTrue_or_nil e
 |true=>exact e
theorem E7(ha:PT X a tA)(hb:PW X (.BoolOp .And (b::rest) pos) Qo):PW X (.BoolOp .And (a::b::rest) pos) (Tc tA Qo):=by
 intro wh pins s σ H Q I h;apply isTrue_and (aZ (ha pins s σ H _ I h) λc s1 ⟨H1,I1,q1⟩=>?_);cases c with
 |true=>exact hb wh pins s1 σ H1 Q I1 q1
 |false=>exact#[H1,I1,q1]
theorem Gw(ha:PT X a tA)(hb:PW X (.BoolOp .Or (b::rest) pos) Qo):PW X (.BoolOp .Or (a::b::rest) pos) (tOr tA Qo):=by
 intro wh pins s σ H Q I h;apply isTrue_or (aZ (ha pins s σ H _ I h) λc s1 ⟨H1,I1,q1⟩=>?_);cases c with
 |true=>exact#[H1,I1,q1]
 |false=>exact hb wh pins s1 σ H1 Q I1 q1
theorem gZ(ha:PT X a tA):PT X (.UnaryOp .Not a pos) (S0 tA):=by
 intro pins s σ H Q I h;exact isTrue_not (ha pins s σ H (λc H1=>Q (!c) H1) I h)
inductive Cr (tb:TE) (σ:St) (Q:VK) (x:V) (H1:Hp):Prop
 |mk:∀c,x=.bl c->(if c=true then tb σ H1 Q else Q (.bl false) H1)->Cr tb σ Q x H1
def MI(ta tb:TE):TE:=λσ H Q=>ta σ H λx H1=>Cr tb σ Q x H1
inductive GZ (tb:TE) (σ:St) (Q:VK) (x:V) (H1:Hp):Prop
 |mk:∀c,x=.bl c->(if c=true then Q (.bl true) H1 else tb σ H1 Q)->GZ tb σ Q x H1
def SZ(ta tb:TE):TE:=λσ H Q=>ta σ H λx H1=>GZ tb σ Q x H1
inductive Ck (Q:VK) (x:V) (H1:Hp):Prop
 |mk:∀c,x=.bl c->Q (.bl (!c)) H1->Ck Q x H1
def MA(ta:TE):TE:=λσ H Q=>ta σ H λx H1=>Ck Q x H1
theorem AO{op}{t:TE}(h:PE X a t):PE X (.BoolOp op [a] pos) t:=λpins s σ H Q I hw=>BoolOp_one (h pins s σ H Q I hw)
theorem En(ha:PE X a ta)(hb:PE X (.BoolOp .And (b::rest) pos) tb):PE X (.BoolOp .And (a::b::rest) pos) (MI ta tb):=by
 intro pins s σ H Q I h;apply BoolOp_and (aZ (ha pins s σ H _ I h) λv s1 ⟨x,H1,I1,r1,q1⟩=>?_);let#[c,rfl,q1]:=q1;cases r1;apply BO ?_;cases c with
 |true=>exact hb pins s1 σ H1 Q I1 q1
 |false=>exact#[.bl false,H1,I1,Z,q1]
theorem Lz(ha:PE X a ta)(hb:PE X (.BoolOp .Or (b::rest) pos) tb):PE X (.BoolOp .Or (a::b::rest) pos) (SZ ta tb):=by
 intro pins s σ H Q I h;apply BoolOp_or (aZ (ha pins s σ H _ I h) λv s1 ⟨x,H1,I1,r1,q1⟩=>?_);let#[c,rfl,q1]:=q1;cases r1;apply BO ?_;cases c with
 |false=>exact hb pins s1 σ H1 Q I1 q1
 |true=>exact#[.bl true,H1,I1,Z,q1]
theorem lG_(ha:PE X a ta):PE X (.UnaryOp .Not a pos) (MA ta):=by
 intro pins s σ H Q I h;apply UnaryOp_ (aZ (ha pins s σ H _ I h) λv s1 ⟨x,H1,I1,r1,q1⟩=>?_);let#[c,rfl,q1]:=q1;cases r1;exact not_of (BO #[.bl (!c),H1,I1,Z,q1])
def tIf(t:TT)(ta tb:TE):TE:=λσ H Q=>t σ H λc H1=>if c=true then ta σ H1 Q else tb σ H1 Q
theorem g8_(hc:PT X c tA)(ha:PE X a ta)(hb:PE X b tb):PE X (.IfExp c a b pos) (tIf tA ta tb):=by
 intro pins s σ H Q I h;apply wpAny_IfExp (aZ (hc pins s σ H _ I h) λd s1 ⟨H1,I1,q1⟩=>?_);cases d with
 |true=>exact ha pins s1 σ H1 Q I1 q1
 |false=>exact hb pins s1 σ H1 Q I1 q1
end
def d9(K:af)(H:Hp)(a:Addr)(xs:ag):Prop:=
 Rd H a (.lst xs) ∨
  ∃(o:Obj) (its:Array Aa) (n:Nat),K.lookup a=some o/\o.cls=.type "list"/\o.dict=none/\o.data=.seq its n/\its.size<=sizeLine/\Vals xs its.toList
def iI(K:af)(H:Hp)(a:Addr)(xs:ag):Prop:=
 Rd H a (.tup xs) ∨
  ∃(o:Obj) (its:Array Aa) (n:Nat),K.lookup a=some o/\o.cls=.type "tuple"/\o.data=.seq its n/\its.size<=sizeLine/\Vals xs its.toList
def YX:Aa->aJ
 |.none=>some .non
 |.bool b=>some (.bl b)
 |.int i _=>some (.int i)
 |.str x _=>some (.str x)
 |.bytes b _=>some (.byt b)
 |.float b _=>some (.flt b)
 |.ref a=>some (.ref a)
 |.type n=>some (.ty n)
 |_=>none
theorem RelV.abs{x:V}{u:Aa}(r:RelV x u):YX u=some x:=by
 cases x with
 |non=>cases r;rfl
 |bl _=>cases r;rfl
 |int _=>let#[t,rfl]:=r;rfl
 |str _=>let#[t,rfl]:=r;rfl
 |byt _=>let#[t,rfl]:=r;rfl
 |flt _=>let#[t,rfl]:=r;rfl
 |ref _=>cases r;rfl
 |ty _=>cases r;rfl
theorem RelV.inj{x y:V}{u:Aa}(r:RelV x u)(q:RelV y u):x=y:=ee (r.abs.symm.trans q.abs)
theorem Vals.inj:∀{xs ys:ag} {us:ax},Vals xs us->Vals ys us->xs=ys
 |_,_,_,.nil,.nil=>rfl
 |_,_,_,.cons r t,.cons r' t'=>by rw[r.inj r',Vals.inj t t']
section
variable{X:Cx}{pins:List (Addr × Obj)}{σ:St}{H:Hp}{s:Ab}{a:Addr}{xs ys:ag}
theorem d9.of{K:af}(h:H a=some (.lst xs)):d9 K H a xs:=.inl (.inl h)
theorem iI.of{K:af}(h:H a=some (.tup xs)):iI K H a xs:=.inl (.inl h)
theorem Inv.list(I:Inv X pins σ H s)(h:d9 X.K H a xs):∃its:ax,Vals xs its/\PlainL s.heap a its.toArray/\xs.length<=sizeLine:=by
 rcases h with h|⟨o,its,n,hk,hc,hd,hs,hz,r⟩
 ·let#[z,its,n,r,e]:=h.ok I.aO;exact#[its,r,#[_,n,e,Z,Z,Z],z]
 ·apply#[its.toList,r,#[o,n,I.gj a o hk,hc,hd,by simpa using hs],?_];let e:=r.length;simp only[B7] at e;omega
theorem Inv.tuple(I:Inv X pins σ H s)(h:iI X.K H a xs):∃its:ax,Vals xs its/\IsTup s.heap a its.toArray/\xs.length<=sizeLine:=by
 rcases h with h|⟨o,its,n,hk,hc,hs,hz,r⟩
 ·let#[z,its,r,p,_]:=h.ok I.aO;exact#[its,r,p,z]
 ·apply#[its.toList,r,#[o,I.gj a o hk,hc,n,by simpa using hs],?_];let e:=r.length;simp only[B7] at e;omega
theorem Inv.wY(I:Inv X pins σ H s)(h:d9 X.K H a xs)(h':d9 X.K H a ys):xs=ys:=by
 let#[its,r,#[o,n,e,_,_,d],_]:=I.list h;let#[its',r',#[o',n',e',_,_,d'],_]:=I.list h';rw[e] at e';cases e';rw[d] at d'
 injection d' with d1 _
 have:its=its':=by simpa using dU Array.toList d1
 subst this;exact r.inj r'
theorem Inv.i6(I:Inv X pins σ H s)(h:iI X.K H a xs)(h':iI X.K H a ys):xs=ys:=by
 let#[its,r,#[o,e,_,n,d],_]:=I.tuple h;let#[its',r',#[o',e',_,n',d'],_]:=I.tuple h';rw[e] at e';cases e';rw[d] at d'
 injection d' with d1 _
 have:its=its':=by simpa using dU Array.toList d1
 subst this;exact r.inj r'
end
abbrev Cx.iU(X:Cx)(E:Aa->Ab->Prop):Cx:={ X with xe:=E }
abbrev Cx.JB(X:Cx):Cx:=X.iU λ_ _=>False
theorem Cx.Ok.iU{X:Cx}(ok:X.Ok)(E:Aa->Ab->Prop):(X.iU E).Ok:=
 #[ok.mod,ok.kind,ok.glob,ok.blt,ok.above,ok.inj,ok.has,ok.LU,ok.hd,ok.frames,ok.Qp,ok.Rj,ok.bs,ok.Eh,ok.Dw,ok.D0,ok.gc,ok.Gm]
theorem Cx.Ok.eP{X:Cx}{E:Aa->Ab->Prop}(ok:(X.iU E).Ok):X.Ok:=
 #[ok.mod,ok.kind,ok.glob,ok.blt,ok.above,ok.inj,ok.has,ok.LU,ok.hd,ok.frames,ok.Qp,ok.Rj,ok.bs,ok.Eh,ok.Dw,ok.D0,ok.gc,ok.Gm]
section
variable{X:Cx}{pins:List (Addr × Obj)}{σ:St}{H:Hp}{s:Ab}{E:Aa->Ab->Prop}
theorem Inv.iU(I:Inv X pins σ H s)(E:Aa->Ab->Prop):Inv (X.iU E) pins σ H s:=#[I.ok.iU E,I.os,I.bare,I.base,I.loc,I.cell,I.free,I.eL,I.pin,I.aO,I.len]
theorem Inv.eP(I:Inv (X.iU E) pins σ H s):Inv X pins σ H s:=#[I.ok.eP,I.os,I.bare,I.base,I.loc,I.cell,I.free,I.eL,I.pin,I.aO,I.len]
theorem SP.eP{D:Ends}{f:Flow}{s':Ab}(h:SP (X.iU E) pins D f s'):SP X pins D f s':=by
 cases f with
 |next=>let#[bq,H',I,q]:=h;exact#[bq,H',I.eP,q]
 |brk=>let#[bq,H',I,q]:=h;exact#[bq,H',I.eP,q]
 |cont=>let#[bq,H',I,q]:=h;exact#[bq,H',I.eP,q]
 |ret u=>let#[v,bq,H',I,r,q]:=h;exact#[v,bq,H',I.eP,r,q]
theorem yf.JB{st:List Stmt}{t:TS}(h:yf X.JB st t):yf X st t:=λpins s σ H D I hw=>
 wpAny_mono (h pins s σ H D (I.iU _) hw) (λ_ _ q=>q.eP) λ_ _ z=>False.elim z
end
section
variable{X:Cx}{st:Stmt}{rest:List Stmt}{t u:TS}{e:Expr}{te:TE}{pos:Pos}
def MB:TS:=λD σ H=>D.nx σ H
def FE(t u:TS):TS:=λD σ H=>t { D with nx:=u D } σ H
theorem bP:yf X [] MB:=λ_ _ σ H _ I h=>wpAny_execs_nil #[σ,H,I,h]
theorem aq(h1:PS X st t)(h2:yf X rest u):yf X (st::rest) (FE t u):=by
 intro pins s σ H D I h;apply wpAny_execs_cons (aZ (h1 pins s σ H { D with nx:=u D } I h) λf s1 q=>?_);cases f with
 |next=>
  let#[bq,H',I',q]:=q;exact h2 pins s1 bq H' D I' q
 |ret v=>exact q
 |brk=>exact q
 |cont=>exact q
theorem aH(h1:PS X st t):yf X [st] t:=by
 intro pins s σ H D I h;apply wpAny_execs_cons (aZ (h1 pins s σ H D I h) λf s1 q=>?_);cases f with
 |next=>exact wpAny_execs_nil q
 |ret v=>exact q
 |brk=>exact q
 |cont=>exact q
theorem Inv.quiet{pins:List (Addr × Obj)}{H:Hp}{s:Ab}(I:Inv X pins σ H s):interactive X.env=false:=by simp[interactive,I.ok.kind]
def ME(te:TE):TS:=λD σ H=>te σ H λ_ H1=>D.nx σ H1
theorem h_(he:PE X e te)(hs:swapsWith e none pos.line X.env=pure false:=by rfl):PS X (.Expr e pos) (ME te):=by
 intro pins s σ H D I h;exact wpAny_Expr_any (aZ (he pins s σ H _ I h) λv s1 ⟨x,H1,I1,r1,q1⟩=>#[σ,H1,I1,q1]) I.quiet hs
def SY(te:TE):TS:=λD σ H=>te σ H D.rt
theorem bj(he:PE X e te):PS X (.Return (some e) pos) (SY te):=by
 intro pins s σ H D I h;exact wpAny_Return_some (aZ (he pins s σ H _ I h) λv s1 ⟨x,H1,I1,r1,q1⟩=>#[x,σ,H1,I1,r1,q1])
def S8(c:TT)(t u:TS):TS:=λD σ H=>c σ H λb H1=>if b=true then t D σ H1 else u D σ H1
theorem bN{a b:List Stmt}{tc:TT}(hc:PT X c tc)(ha:yf X a t)(hb:yf X b u):PS X (.If c a b pos) (S8 tc t u):=by
 intro pins s σ H D I h;apply wpAny_If (aZ (hc pins s σ H _ I h) λd s1 ⟨H1,I1,q1⟩=>?_);cases d with
 |true=>exact ha pins s1 σ H1 D I1 q1
 |false=>exact hb pins s1 σ H1 D I1 q1
def Cm:TS:=λ_ _ _=>False
theorem jG_:PS X st Cm:=λ_ _ _ _ _ _ h=>h.elim
theorem fJ{sts:List Stmt}:yf X sts Cm:=λ_ _ _ _ _ _ h=>h.elim
end
abbrev TG:=V->St->Hp->(St->Hp->Prop)->Prop
abbrev K5:=ag->St->Hp->(St->Hp->Prop)->Prop
def PG(X:Cx)(target:Expr)(t:TG):Prop:=
 ∀(pins:List (Addr × Obj)) (s:Ab) (σ:St) (H:Hp) (v:V) (u:Aa) (Q:cn),Inv X pins σ H s->RelV v u->t v σ H Q->
  wpAny (model X.prog X.w) X.A (assign target X.env u) (λ_ s'=>∃bq H',Inv X pins bq H' s'/\Q bq H') X.xe s
def Qe(X:Cx)(ts:List Expr)(t:K5):Prop:=
 ∀(pins:List (Addr × Obj)) (s:Ab) (σ:St) (H:Hp) (vs:ag) (us:ax) (Q:cn),Inv X pins σ H s->Vals vs us->t vs σ H Q->
  wpAny (model X.prog X.w) X.A (assignInOrder ((assignEach ts X.env).map (·.2)) us) (λ_ s'=>∃bq H',Inv X pins bq H' s'/\Q bq H') X.xe s
abbrev K4:=V->V->V->Hp->(Hp->Prop)->Prop
def Qd(X:Cx)(t:K4):Prop:=
 ∀(pins:List (Addr × Obj)) (s:Ab) (σ:St) (H:Hp) (o i v:V) (ov iv u:Aa) (Q:Hp->Prop),Inv X pins σ H s->RelV o ov->RelV i iv->RelV v u->t o i v H Q->
  wpAny (model X.prog X.w) X.A (setItem ov iv u) (λ_ s'=>∃H',Inv X pins σ H' s'/\Q H') X.xe s
variable{es:List Expr}
variable{k n:Nat}
variable{tg:Expr}{te:TE}
variable{pos':Pos}
section
variable{X:Cx}{pos:Pos}
def xT(i:Nat):TG:=λv σ H Q=>Q (σ.set i (some v)) H
theorem eZ{i:Nat}{x:Str}(hN:X.N.Nodup)(hi:X.N[i]? = some x)(hx:Loc X.env.scope x)(hf:X.fn x=true∨X.env.scope.names.lookup x=some .local:=by first|exact .inl Z|exact .inr Z|assumption):PG X (.Name x pos) (xT i):=by
 intro pins s σ H v u Q I r h;exact wpAny_assign_Name (fT_ I hN hi hx r (λs' I'=>#[_,H,I',h]) hf)
theorem yc:type_of% PyProof.Rows.Boot.«isinstance»:=PyProof.Rows.Boot.«isinstance»
theorem O2:type_of% PyProof.Rows.Boot.«int»:=PyProof.Rows.Boot.«int»
theorem O9:type_of% PyProof.Rows.Boot.«str»:=PyProof.Rows.Boot.«str»
theorem Wi:type_of% PyProof.Rows.Boot.«tuple»:=PyProof.Rows.Boot.«tuple»
theorem KM:type_of% PyProof.Rows.Boot.«list»:=PyProof.Rows.Boot.«list»
theorem GH:type_of% PyProof.Rows.Boot.«sorted»:=PyProof.Rows.Boot.«sorted»
theorem BZ:type_of% PyProof.Rows.Boot.«dict»:=PyProof.Rows.Boot.«dict»
theorem KC:type_of% PyProof.Rows.Boot.«max»:=PyProof.Rows.Boot.«max»
theorem ZA(i:Nat){x:Str}(hN:X.N.Nodup:=by first|(show ([_]:List Str).Nodup;decide +kernel)|(show ([_,_]:List Str).Nodup;decide +kernel)|(show ([_,_,_]:List Str).Nodup;decide +kernel)|(show ([_,_,_,_]:List Str).Nodup;decide +kernel))(hi:X.N[i]? = some x:=by rfl)(hx:Loc X.env.scope x:=by first|exact Or.inl Z|exact Or.inr Z)(hf:X.fn x=true∨X.env.scope.names.lookup x=some .local:=by first|exact .inl Z|exact .inr Z|assumption):PG X (.Name x pos) (xT i):=eZ hN hi hx hf
theorem cj(i:Nat){x:Str}(hN:X.N.Nodup)(hi:X.N[i]? = some x:=by rfl)(hx:Loc X.env.scope x:=by first|exact Or.inl Z|exact Or.inr Z)(hf:X.fn x=true∨X.env.scope.names.lookup x=some .local:=by first|exact .inl Z|exact .inr Z|assumption):PG X (.Name x pos) (xT i):=eZ hN hi hx hf
def Gk:K5:=λvs σ H Q=>vs=[]/\Q σ H
inductive EZ (t:TG) (u:K5) (vs:ag) (σ:St) (H:Hp) (Q:cn):Prop
 |mk:∀v r,vs=v::r->(t v σ H λbq H'=>u r bq H' Q)->EZ t u vs σ H Q
theorem jf:Qe X [] Gk:=by
 intro pins s σ H vs us Q I r h;let#[e,h]:=h;subst e;cases r;exact assignInOrder_nil ⟨σ,H,I,h⟩
theorem dZ{e:Expr}{t:TG}{u:K5}(h1:PG X e t)(h2:Qe X es u)(hs:(assignEach (e::es) X.env).map (·.2)=assign e X.env::(assignEach es X.env).map (·.2):=by rfl):Qe X (e::es) (EZ t u):=by
 intro pins s σ H vs us Q I r h;let#[v,vr,e1,h]:=h;subst e1;cases r with
 |cons r rr=>
  rw[hs];apply assignInOrder_cons (aZ (h1 pins s σ H _ _ _ I r h) λ_ s1 ⟨zL,H1,I1,q1⟩=>?_);exact h2 pins s1 zL H1 _ _ Q I1 rr q1
inductive pT (K:af) (n:Nat) (t:K5) (v:V) (σ:St) (H:Hp) (Q:cn):Prop
 |mk:∀a xs,v=.ref a->iI K H a xs->xs.length=n->t xs σ H Q->pT K n t v σ H Q
theorem xk{t:K5}(hc:X.calm=true)(h:Qe X es t)(hn:(assignEach es X.env).length=n:=by rfl)(F9:(assignEach es X.env).findIdx? (·.1)=none:=by rfl):PG X (.Tuple es k pos) (pT X.K n t):=by
 intro pins s σ H v u Q I r hw;let#[a,xs,e1,hq,hl,hw]:=hw;subst e1;cases r;let#[its,rv,ht,hz]:=I.tuple hq;apply assign_Tuple_tuple (I.ok.hd hc) ht (by simp[hn,<- hl,rv.length]) F9 λh' hx=>?_;have I1:Inv X pins σ H { s with heap:=h' }:=I.kept (t':=s.toks) λb o e=>hx b o (eM (cE e)) e;exact h pins _ σ H xs _ Q I1 (by simpa using rv) hw
def VL(to ti:TE)(t:K4):TG:=λv σ H Q=>to σ H λo H1=>ti σ H1 λi H2=>t o i v H2 λH3=>Q σ H3
theorem _n{o i:Expr}{to ti:TE}{t:K4}(ho:PE X o to)(hi:PE X i ti)(hs:Qd X t)
  (ha:∀v,assign (.Subscript o i pos) X.env v=(do
   let ov <- holding [v] (eval o X.env)
   let iv <- holding [v,ov] (eval i X.env)
   standAt pos
   holding [v,ov,iv] (setItem ov iv v)
   release [v,ov,iv] []):=by intro _;rfl):PG X (.Subscript o i pos) (VL to ti t):=by
 intro pins s σ H v u Q I r h;rw[ha];apply aP (wpAny_holding (aZ (ho pins s σ H _ I h) λov s1 ⟨x,H1,I1,r1,q1⟩=>?_));apply aP (wpAny_holding (aZ (hi pins s1 σ H1 _ I1 q1) λiv s2 ⟨y,H2,I2,r2,q2⟩=>?_));apply aP (wpAny_standAt (aP (wpAny_holding (aZ (hs pins s2 σ H2 x y v ov iv u _ I2 r1 r2 r q2) λ_ s3 ⟨H3,I3,q3⟩=>?_))));exact wpAny_release #[σ,H3,I3,q3]
def IV(te:TE)(g:TG):TS:=λD σ H=>te σ H λx H1=>g x σ H1 D.nx
theorem O7{e:Expr}{g:TG}(he:PE X e te)(hg:PG X tg g)(hs:swapsWithSole [tg] e pos.line X.env=pure false:=by rfl)(hw:swappedStores [tg] e X.env=pure none:=by rfl)(h1:(assignEach [tg] X.env).map (·.2)=[assign tg X.env]:=by rfl):PS X (.Assign [tg] e pos) (IV te g):=by
 intro pins s σ H D I h;apply wpAny_Assign_stores (aZ (he pins s σ H _ I h) λv s1 ⟨x,H1,I1,r1,q1⟩=>?_) hs hw;rw[h1];exact aZ (hg pins s1 σ H1 x v _ I1 r1 q1) λ_ s2 q=>q
theorem _d{i:Nat}{x:Str}{e:Expr}(hN:X.N.Nodup)(hi:X.N[i]? = some x)(hx:Loc X.env.scope x)(he:PE X e te)(hs:swapsWith e (some (.Name x pos')) pos.line X.env=pure false:=by rfl)(hf:X.fn x=true∨X.env.scope.names.lookup x=some .local:=by first|exact .inl Z|exact .inr Z|assumption) :
  PS X (.Assign [.Name x pos'] e pos) (IV te (xT i)):=by
 intro pins s σ H D I h;apply wpAny_Assign_Name (aZ (he pins s σ H _ I h) λv s1 ⟨y,H1,I1,r1,q1⟩=>?_) hs;exact fT_ I1 hN hi hx r1 (λs2 I2=>#[_,H1,I2,q1]) hf
theorem aX(i:Nat){x:Str}{e:Expr}(hN:X.N.Nodup)(he:PE X e te)(hi:X.N[i]? = some x:=by rfl)(hx:Loc X.env.scope x:=by first|exact Or.inl Z|exact Or.inr Z)(hs:swapsWith e (some (.Name x pos')) pos.line X.env=pure false:=by rfl)(hf:X.fn x=true∨X.env.scope.names.lookup x=some .local:=by first|exact .inl Z|exact .inr Z|assumption):PS X (.Assign [.Name x pos'] e pos) (IV te (xT i)):=_d hN hi hx he hs hf
end
variable{body:List Stmt}{tb:TS}
section
variable{X:Cx}{pos:Pos}
def Cd(c:TT)(tb:TS):TS:=λD σ H=>∃W:Nat->St->Hp->Prop,(∃m,W m σ H)/\∀m σ H,W m σ H->
 c σ H λb H1=>if b=true then ∃N:St->Hp->Prop,(∀bq H',N bq H'->∃m',m'<m/\W m' bq H')/\tb { D with nx:=N,ct:=N,bk:=D.nx } σ H1 else D.nx σ H1
theorem R_{tc:TT}(hp:PassesOwn (model X.prog X.w) X.A X.env X.xe)(hc:PT X c tc)(hb:yf X body tb):PS X (.While c body [] pos) (Cd tc tb):=by
 intro pins s σ H D I h;let#[W,#[m0,w0],turn]:=h;apply wpAny_While (codeAny_whileLoop (λn s'=>∃bq H',Inv X pins bq H' s'/\W n bq H') ?_ m0 #[σ,H,I,w0]);rintro n s1 ⟨zL,H1,I1,w1⟩;apply wpAny_passesOwn hp (aZ (hc pins s1 zL H1 _ I1 (turn n zL H1 w1)) λb s2 ⟨H2,I2,q2⟩=>?_);cases b with
 |true=>
  let#[N,hN,q2]:=q2;rw[aA Z];apply wpAny_passesOwn hp (aZ (hb pins s2 zL H2 _ I2 q2) λf s3 q3=>?_);cases f with
  |next=>
   let#[xD,H3,I3,n3]:=q3;let#[m',hm,w3]:=hN xD H3 n3;exact#[m',hm,xD,H3,I3,w3]
  |cont=>
   let#[xD,H3,I3,n3]:=q3;let#[m',hm,w3]:=hN xD H3 n3;exact#[m',hm,xD,H3,I3,w3]
  |brk=>exact q3
  |ret v=>exact q3
 |false=>
  rw[ao gM];exact wpAny_execs_nil #[zL,H2,I2,q2]
end
structure It where
 go:Nat->Hp->Prop
 Fw:Nat->Hp->V->Hp->Prop
 stop:Nat->Hp->Prop
def dk(X:Cx)(pins:List (Addr × Obj))(H:Hp)(b:Addr):Prop:=
 H b=none/\b≠X.env.locals/\b∉X.fs/\(b∈X.ex∨X.dg.heap.objs.size<=b)/\(∀x c,X.env.cells.lookup x=some c->c≠b)/\∀p∈X.pn++pins,p.1≠b
variable{b:Addr}
theorem Inv.pU{X:Cx}{pins:List (Addr × Obj)}{H H':Hp}{s:Ab}(I:Inv X pins σ H s)(hb:s.heap.objs.size<=b)(hn:H' b=none):dk X pins H' b:=by
 apply#[hn,Fc (vN I.lt hb),I.T5 hb,.inr (AR I.sz hb),λx c e z=>?_,λp hp z=>?_]
 ·let#[v,q]:=I.cell x c e;exact absurd (vN q.lt (by rw[z];exact hb)) (Ei _)
 ·exact absurd (vN (cE (I.pin p hp).1) (by rw[z];exact hb)) (Ei _)
structure Turn (P:Ad) (w:Af) (K:af) (tg:Expr) (J:It) (fp:ay) (it:Addr) (tn:Nat->Heap->Prop):Prop where
 mem:it∈fp
 obj:∀i h,tn i h->∀b∈fp,∃o,h.get? b=some o/\∀v,o.data≠.cell v
 keep:∀i h h',tn i h->(∀b∈fp,∀o,h.get? b=some o->h'.get? b=some o)->tn i h'
 item:∀(X:Cx),X.prog=P->X.w=w->X.K=K->X.calm=true->∀(i:Nat) (pins:List (Addr × Obj)) (s:Ab) (σ:St) (H:Hp) (E:Aa->Ab->Prop),Inv X pins σ H s->(∀b∈fp,dk X pins H b)->tn i s.heap->J.go i H->
  wpAny (model P w) X.A (pyNext (.ref it)) (λr s1=>∃u,r=some u /\
   wpAny (model P w) X.A (letOwnedTupleGo tg (.ref it) u) (λ_ s2=>∃x H',Inv X pins σ H' s2/\RelV x u/\J.Fw i H x H'/\tn (i+1) s2.heap/\∀b∈fp,H' b=none) E s1) E s
 done:∀(X:Cx),X.prog=P->X.w=w->X.K=K->X.calm=true->∀(i:Nat) (pins:List (Addr × Obj)) (s:Ab) (σ:St) (H:Hp) (E:Aa->Ab->Prop),Inv X pins σ H s->(∀b∈fp,dk X pins H b)->tn i s.heap->J.stop i H->
  wpAny (model P w) X.A (pyNext (.ref it)) (λr s1=>r=none/\Inv X pins σ H s1) E s
 self:∀(A:Ag) (i:Nat) (s:Ab) (Q:Aa->Ab->Prop) (E:Aa->Ab->Prop),tn i s.heap->Q (.ref it) s->wpAny (model P w) A (pyIter (.ref it)) Q E s
abbrev TI:=St->Hp->(It->Hp->Prop)->Prop
def PIE(X:Cx)(pins:List (Addr × Obj))(σ:St)(tg:Expr)(R:It->Hp->Prop)(QO:Aa)(s2:Ab):Prop:=
 ∃(it:Addr) (fp:ay) (tn:Nat->Heap->Prop) (J:It) (H':Hp),QO=.ref it/\Inv X pins σ H' s2/\Turn X.prog X.w X.K tg J fp it tn/\tn 0 s2.heap/\(∀b∈fp,dk X pins H' b)/\R J H'
def PI(X:Cx)(tg iter:Expr)(wi:TI):Prop:=
 ∀(pins:List (Addr × Obj)) (s:Ab) (σ:St) (H:Hp) (R:It->Hp->Prop),Inv X pins σ H s->wi σ H R->
  wpAny (model X.prog X.w) X.A (eval iter X.env) (λv s1=>wpAny (model X.prog X.w) X.A (pyIter v) (PIE X pins σ tg R) X.xe s1) X.xe s
variable{u:Aa}{o:Obj}
theorem Ly{M:Model}{A:Ag}{E:Aa->Ab->Prop}{s:Ab}{it:Addr}{n:String}{vs:Array Aa}{Q:Unit->Ab->Prop}(ho:s.heap.get? it=some o)(hc:o.cls=.type n)(hd:o.data=.fields vs)(hn:["enumerate","zip","dict_itemiterator","dict_reverseitemiterator","odict_iterator","itertools.zip_longest","itertools.pairwise"].contains n=false)(hQ:Q () s):wpAny M A (letOwnedTupleGo tg (.ref it) u) Q E s:=by
 unfold letOwnedTupleGo
 cases tg<;>first
  |exact bR hQ
  |(cases u<;>first
    |exact bR hQ
    |(apply aP (wpAny_load ho ?_)
      rw[hc,hd];show wpAny M A (if (["enumerate","zip","dict_itemiterator","dict_reverseitemiterator","odict_iterator","itertools.zip_longest","itertools.pairwise"].contains n&&vs[0]? == some (rawInt _))=true then _ else _) Q E s;rw[ao (by intro h;rw[hn,By] at h;cases h)];exact bR hQ))
def II(K:af)(a:Addr):It:=
 ⟨λi H=>∃xs x,d9 K H a xs/\xs[i]? = some x,λi H x H'=>H'=H/\∀xs,d9 K H a xs->xs[i]? = some x,λi H=>∃xs,d9 K H a xs/\xs.length<=i⟩
def Mg(lo:Int)(n:Nat):It:=⟨λi _=>i<n,λi H x H'=>H'=H/\x=.int (lo+i),λi _=>n<=i⟩
variable{P:Ad}{w:Af}
theorem i5_{K:af}(a it:Addr):Turn P w K tg (II K a) [it] it (λi h=>h.IsListIter it a i) where
 mem:=by simp
 obj:=λi h st b hb=>by
  have e:b=it:=by simpa using hb
  subst e;let#[o,e,c,d]:=st;exact#[o,e,λv z=>by rw[d] at z;cases z]
 keep:=λi h h' st k=>st.at λo e=>k it Z2 o e
 item:=by
  intro X hP hw hK hc i pins s σ H E I hf st hg;subst hP hw hK;let#[xs,x,hq,hx]:=hg;let#[its,rv,p,hz]:=I.list hq;let#[u,hu,ru]:=rv.get hx;let#[f0,f1,f2,f3,f4,f5]:=hf it Z2;apply wpAny_pyNext_list_item st p.isList (x:=u) (by simpa using hu) λh' fo sb=>?_;have I1:Inv X pins σ H { s with heap:=h' }:=I.turned (t':=s.toks) (λb o hb e=>(sb.2 b hb).trans e) f0 f1 f3 f4 f5;let#[o,e,c,d]:=id fo;exact#[u,Z,Ly (s:={ s with heap:=h' }) e c d (by decide) #[x,H,I1,ru,#[Z,λys hy=>by rw[I.wY hy hq];exact hx],fo,λb hb=>(hf b hb).1]]
 done:=by
  intro X hP hw hK hc i pins s σ H E I hf st hg;subst hP hw hK;let#[xs,hq,hx]:=hg;let#[its,rv,p,hz]:=I.list hq;let#[f0,f1,f2,f3,f4,f5]:=hf it Z2;let hl:=rv.length;exact wpAny_pyNext_list_end (I.ok.hd hc) st p.isList (by simp;omega) λh' eb=>#[Z,I.turned (t':=s.toks) (λb o hb e=>eb b o hb e) f0 f1 f3 f4 f5]
 self:=λ_ _ _ _ _ st h=>wpAny_pyIter_listiter st h
theorem gK_{K:af}(it:Addr)(lo:Int)(n:Nat):Turn P w K tg (Mg lo n) [it] it (λi h=>IsRangeIter h it (lo+(i:Nat) * 1) ((n:Int) - (i:Nat)) 1) where
 mem:=by simp
 obj:=λi h st b hb=>by
  have e:b=it:=by simpa using hb
  subst e
  exact#[_,st,λv z=>by
   have z':Data.fields _=Data.cell v:=z;cases z']
 keep:=λi h h' st k=>k it Z2 _ st
 item:=by
  intro X hP hw hK hc i pins s σ H E I hf st hg;subst hP hw hK;let#[f0,f1,f2,f3,f4,f5]:=hf it Z2;let W:=Walks.range (prog:=X.prog) (w:=X.w) (I.ok.hd hc) it lo 1 n;apply W.item i s _ _ hg st λv h' tk hv fo kk=>?_;let#[t,rfl]:=hv;have I1:Inv X pins σ H { s with heap:=h',toks:=tk }:=I.turned (λb o hb e=>kk b o (by simpa using hb) e) f0 f1 f3 f4 f5;apply#[_,Z,Ly (s:={ s with heap:=h',toks:=tk }) (n:="range_iterator") fo Z Z (by decide) #[.int (lo+i),H,I1,#[t,?_],#[Z,Z],fo,λb hb=>(hf b hb).1]];rw[Int.mul_one]
 done:=by
  intro X hP hw hK hc i pins s σ H E I hf st hg;subst hP hw hK;let#[f0,f1,f2,f3,f4,f5]:=hf it Z2;exact wpAny_pyNext_range_end (I.ok.hd hc) st (by have:n<=i:=hg;omega) λh' eb=>#[Z,I.turned (t':=s.toks) (λb o hb e=>eb b o hb e) f0 f1 f3 f4 f5]
 self:=λ_ _ _ _ _ st h=>wpAny_pyIter_rangeiter st h
inductive DJ (K:af) (R:It->Hp->Prop) (x:V) (H1:Hp):Prop
 |mk:∀a,x=.ref a->(∃xs,d9 K H1 a xs)->R (II K a) H1->DJ K R x H1
def NU(K:af)(tl:TE):TI:=λσ H R=>tl σ H λx H1=>DJ K R x H1
variable{X:Cx}
theorem dE{l:Expr}{tl:TE}(hl:PE X l tl):PI X tg l (NU X.K tl):=by
 intro pins s σ H R I h;apply aZ (hl pins s σ H _ I h) λv s1 ⟨x,H1,I1,r1,q1⟩=>?_;let#[a,e,#[xs,hq],q]:=q1;subst e;cases r1;let#[its,rv,p,hz]:=I1.list hq;apply wpAny_pyIter_list p.isList ?_;apply#[s1.heap.objs.size,[s1.heap.objs.size],_,_,H1,Z,I1.kept (t':=s1.toks) λb o e=>cO _ e,i5_ a _,#[_,e_ _ Z,Z,Z],λb hb=>?_,q];have e:b=s1.heap.objs.size:=by simpa using hb
 subst e;exact I1.pU (bo _) (I1.aO.fresh (bo _))
variable{pins:List (Addr × Obj)}
theorem iV_{H:Hp}{s:Ab}{R:It->Hp->Prop}{E:Aa->Ab->Prop}{lo hi:Int}{t u v:Tok}{tk:Nat}(I:Inv X pins σ H s)(h1:-(2 ^ 62)<=lo)(h2:lo<2 ^ 62)(h3:-(2 ^ 62)<=hi)(h4:hi<2 ^ 62)(q:R (Mg lo (hi - lo).toNat) H):wpAny (model X.prog X.w) X.A (pyIter (.ref s.heap.objs.size)) (PIE X pins σ tg R) E { s with heap:=s.heap.push { cls:=.type "range",data:=.fields (List.toArray [.int lo t,.int hi u,.int 1 v]) },toks:=tk }:=by
 apply wpAny_pyIter_range (IsRange.new ..) (small_one h1 h2 h3 h4) ?_;have I1:Inv X pins σ H { s with heap:=s.heap.push { cls:=.type "range",data:=.fields (List.toArray [.int lo t,.int hi u,.int 1 v]) },toks:=tk }:=I.kept λb o e=>cO _ e
 apply#[(s.heap.push { cls:=.type "range",data:=.fields (List.toArray [.int lo t,.int hi u,.int 1 v]) }).objs.size,[(s.heap.push { cls:=.type "range",data:=.fields (List.toArray [.int lo t,.int hi u,.int 1 v]) }).objs.size],_,_,H,Z,
  I1.kept (t':=tk) λb o e=>cO _ e,gK_ _ lo (hi - lo).toNat,?_,λb hb=>?_,q]
 ·have e1:lo+((0:Nat):Int) * 1=lo:=by simp
  have e2:(((hi - lo).toNat:Nat):Int) - ((0:Nat):Int)=Builtin.Range.rangeSize lo hi 1:=by rw[rangeSize_one];split<;>omega
  show IsRangeIter _ _ (lo+((0:Nat):Int) * 1) ((((hi - lo).toNat:Nat):Int) - ((0:Nat):Int)) 1;rw[e1,e2];exact e_ _ Z
 ·have e:b=(s.heap.push { cls:=.type "range",data:=.fields (List.toArray [.int lo t,.int hi u,.int 1 v]) }).objs.size:=by simpa using hb
  subst e;exact I1.pU (bo _) (I1.aO.fresh (bo _))
inductive DI (R:It->Hp->Prop) (vs:ag) (H1:Hp):Prop
 |mk:∀j:Int,vs=[.int j]->-(2 ^ 62)<=j->j<2 ^ 62->R (Mg 0 j.toNat) H1->DI R vs H1
def NS(ta:TA):TI:=λσ H R=>ta σ H λvs H1=>DI R vs H1
variable{p:Pos}
theorem L3{a:Expr}{ta:TA}(hg:Gl X "range")(hm:X.mg "range"=none)(ha:PA X [a] ta)(hs:starEach [a] X.env=[(false,eval a X.env)]:=by rfl):PI X tg (.Call (.Name "range" p) [a] [] pos) (NS ta):=by
 intro pins s σ H R I h;apply Call_ (LM I hg hm boot_range (PyProof.Rows.callWith_type1 (aZ (ha pos pins s σ H _ I h) λus s1 ⟨vs,H1,I1,r1,q1⟩=>?_) hs Z));let#[j,e,q1,q2,q]:=q1;subst e;cases r1 with
 |cons r rr=>
  cases rr;let#[t,rfl]:=r;exact call_range_1 (iV_ I1 Z1 Z1 q1 q2 (by simpa using q))
def S9(wi:TI)(g:TG)(tb:TS):TS:=λD σ H=>wi σ H λJ H1=>∃W:Nat->Nat->St->Hp->Prop,(∃m,W 0 m σ H1)/\∀i m σ H,W i m σ H->
 (J.stop i H/\D.nx σ H)∨(J.go i H/\∃N:St->Hp->Prop,(∀bq H',N bq H'->∃m',m'<m/\W (i+1) m' bq H')/\∀x H',J.Fw i H x H'->g x σ H' λgz H2=>tb { D with nx:=N,ct:=N,bk:=D.nx } gz H2)
def GB(fp:ay)(h:Heap):List (Addr × Obj):=fp.filterMap λb=>(h.get? b).map λo=>(b,o)
variable{fp:ay}{h:Heap}
theorem Su(hb:b∈fp)(e:h.get? b=some o):(b,o)∈GB fp h:=GP.mpr #[b,hb,by rw[e];rfl]
theorem gX_{p:Addr × Obj}(hp:p∈GB fp h):p.1∈fp/\h.get? p.1=some p.2:=by
 let#[b,hb,e]:=GP.mp hp;cases q:h.get? b with
 |none=>rw[q] at e;cases e
 |some o=>
  rw[q] at e;have e':(b,o)=p:=ee e;subst e';exact#[hb,q]
theorem Inv.pinned{H:Hp}{s:Ab}(I:Inv X pins σ H s)(hf:∀b∈fp,dk X pins H b)(ho:∀b∈fp,∃o,s.heap.get? b=some o/\∀v,o.data≠.cell v):Inv X (pins++GB fp s.heap) σ H s:=
 I.Aw λp hp=>(fM.mp hp).elim (λz=>I.pin p (zF _ z)) λz=>by
  let#[hb,e]:=gX_ z;let#[f0,f1,f2,_]:=hf p.1 hb;let#[o,e',d]:=ho p.1 hb;rw[e] at e';cases e';exact#[e,f0,f1,f2,d]
theorem Inv.eQ{pl:List (Addr × Obj)}{H:Hp}{s:Ab}(I:Inv X (pins++pl) σ H s):Inv X pins σ H s:=I.Aw λp hp=>I.pin p (zF _ (List.mem_append_left _ hp))
theorem eF{iter:Expr}{wi:TI}{g:TG}(hp:PassesOwn (model X.prog X.w) X.A X.env X.xe)(hc:X.calm=true)(hi:PI X tg iter wi)(hg:PG X tg g)(hb:yf X body tb)(hs:∀x,foldedSetIterable iter X.env x=pure x:=by intro _;rfl):PS X (.For tg iter body [] pos) (S9 wi g tb):=by
 intro pins s σ H D I h;apply wpAny_For (aZ (hi pins s σ H _ I h) λv s1 h1=>aZ h1 λQO s2 h2=>?_) hs;let#[it,fp,tn,J,H2,e,I2,T,fj,f2,W,#[m0,w0],turn]:=h2;subst e;have IX:∀{H':Hp},(∀b∈fp,H' b=none)->∀b∈fp,dk X pins H' b:=λhn b hb=>#[hn b hb,(f2 b hb).2];apply codeAny_forLoop_any (λn s'=>∃i bq H',Inv X pins bq H' s'/\tn i s'.heap/\(∀b∈fp,H' b=none)/\W i n bq H') ?_ m0 #[0,σ,H2,I2,fj,λb hb=>(f2 b hb).1,w0];rintro n s3 ⟨i,xD,H3,I3,wF,OV,w3⟩;rcases turn i n xD H3 w3 with⟨stop,qn⟩|⟨go,N,hN,step⟩
 ·apply wpAny_passesOwn hp (aZ (T.done X Z Z Z hc i pins s3 xD H3 X.xe I3 (IX OV) wF stop) λr s4 ⟨hr,I4⟩=>?_);subst hr;exact wpAny_execs_nil #[xD,H3,I4,qn]
 ·apply wpAny_passesOwn hp (aZ (T.item X Z Z Z hc i pins s3 xD H3 X.xe I3 (IX OV) wF go) λr s4 ⟨u,hr,h4⟩=>?_);subst hr;apply wpAny_passesOwn hp (aZ h4 λ_ s5 ⟨x,H5,I5,r5,y5,gB,AJ⟩=>?_);let I5':=I5.pinned (IX AJ) (T.obj _ _ gB);apply wpAny_passesOwn hp (aZ (hg _ s5 xD H5 x u _ I5' r5 (step x H5 y5)) λ_ s6 ⟨σ6,H6,I6,q6⟩=>?_);apply wpAny_passesOwn hp (aZ (hb _ s6 σ6 H6 _ I6 q6) λf s7 q7=>?_)
  have again:∀{B9:St} {H7:Hp},Inv X (pins++GB fp s5.heap) B9 H7 s7->N B9 H7->∃m,m<n/\∃i bq H',Inv X pins bq H' s7/\tn i s7.heap/\(∀b∈fp,H' b=none)/\W i m bq H':=λ{B9 H7} I7 n7=>by
   let#[m',hm,w7]:=hN B9 H7 n7;apply#[m',hm,i+1,B9,H7,I7.eQ,T.keep _ _ _ gB λb hb o e=>(I7.pin (b,o) (zF _ (zF _ (Su hb e)))).1,λb hb=>?_,w7];let#[o,e,d]:=T.obj _ _ gB b hb;exact (I7.pin (b,o) (zF _ (zF _ (Su hb e)))).2.1
  cases f with
  |next=>let#[B9,H7,I7,n7]:=q7;exact again I7 n7
  |cont=>let#[B9,H7,I7,n7]:=q7;exact again I7 n7
  |brk=>let#[B9,H7,I7,q7]:=q7;exact#[B9,H7,I7.eQ,q7]
  |ret v=>let#[x7,B9,H7,I7,r7,q7]:=q7;exact#[x7,B9,H7,I7.eQ,r7,q7]
theorem fW{K:af}{a:Addr}{xs:ag}{g:TG}{D:Ends}{H:Hp}(Pv:bL)(h0:Pv 0 σ H)(hl:∀i σ H,i<=xs.length->Pv i σ H->d9 K H a xs)(hs:∀i x σ H,xs[i]? = some x->Pv i σ H->g x σ H λgz H2=>tb { D with nx:=Pv (i+1),ct:=Pv (i+1),bk:=D.nx } gz H2)(hd:∀σ H,Pv xs.length σ H->D.nx σ H) :
  ∃W:Nat->Nat->St->Hp->Prop,(∃m,W 0 m σ H)/\∀i m σ H,W i m σ H->
   ((II K a).stop i H/\D.nx σ H)∨((II K a).go i H/\∃N:St->Hp->Prop,(∀bq H',N bq H'->∃m',m'<m/\W (i+1) m' bq H')/\∀x H',(II K a).Fw i H x H'->g x σ H' λgz H2=>tb { D with nx:=N,ct:=N,bk:=D.nx } gz H2):=by
 apply#[λi m σ H=>m=xs.length - i/\i<=xs.length/\Pv i σ H,#[xs.length,by simp,gx _,h0],?_];rintro i m σ H ⟨rfl,hi,p⟩;let q:=hl i σ H hi p;by_cases dc:i<xs.length
 ·apply .inr #[#[xs,xs[i],q,by simp[dc]],Pv (i+1),λbq H' p'=>#[xs.length - (i+1),by omega,Z,dc,p'],λx H' y=>?_];let#[e,y]:=y;subst e;exact hs i x σ _ (y xs q) p
 ·have e:i=xs.length:=by omega
  subst e;exact .inl #[#[xs,q,bo _],hd σ H p]
theorem eG_{lo:Int}{g:TG}{D:Ends}{H:Hp}(Pv:bL)(h0:Pv 0 σ H)(hs:∀i σ H,i<n->Pv i σ H->g (.int (lo+i)) σ H λgz H2=>tb { D with nx:=Pv (i+1),ct:=Pv (i+1),bk:=D.nx } gz H2)(hd:∀σ H,Pv n σ H->D.nx σ H) :
  ∃W:Nat->Nat->St->Hp->Prop,(∃m,W 0 m σ H)/\∀i m σ H,W i m σ H->
   ((Mg lo n).stop i H/\D.nx σ H)∨((Mg lo n).go i H/\∃N:St->Hp->Prop,(∀bq H',N bq H'->∃m',m'<m/\W (i+1) m' bq H')/\∀x H',(Mg lo n).Fw i H x H'->g x σ H' λgz H2=>tb { D with nx:=N,ct:=N,bk:=D.nx } gz H2):=by
 apply#[λi m σ H=>m=n - i/\i<=n/\Pv i σ H,#[n,by simp,gx _,h0],?_];rintro i m σ H ⟨rfl,hi,p⟩;by_cases dc:i<n
 ·apply .inr #[dc,Pv (i+1),λbq H' p'=>#[n - (i+1),by omega,Z,dc,p'],λx H' y=>?_];let#[e,y]:=y;subst e y;exact hs i σ _ dc p
 ·have e:i=n:=by omega
  subst e;exact .inl #[bo _,hd σ H p]
theorem jE_{c:TT}{D:Ends}{H:Hp}(Pv:cn)(μ:St->Hp->Nat)(h0:Pv σ H)(hs:∀σ H,Pv σ H->c σ H λb H1=>if b=true then tb { D with nx:=λbq H'=>Pv bq H'/\μ bq H'<μ σ H,ct:=λbq H'=>Pv bq H'/\μ bq H'<μ σ H,bk:=D.nx } σ H1 else D.nx σ H1)(mono:∀σ H Q Q',(∀b H1,Q b H1->Q' b H1)->c σ H Q->c σ H Q'):Cd c tb D σ H:=by
 apply#[λm σ H=>m=μ σ H/\Pv σ H,#[_,Z,h0],?_];rintro m σ H ⟨rfl,p⟩;apply mono σ H _ _ (λb H1 q=>?_) (hs σ H p);cases b with
 |true=>exact#[_,λbq H' ⟨p',l⟩=>#[_,l,Z,p'],q]
 |false=>exact q
abbrev R2:=V->V->Hp->VK->Prop
def eG(X:Cx)(f:Aa->Aa->Sem Aa)(r:R2):Prop:=
 ∀(pins:List (Addr × Obj)) (s:Ab) (σ:St) (H:Hp) (x y:V) (v u:Aa) (Q:VK),Inv X pins σ H s->RelV x v->RelV y u->r x y H Q->
  wpAny (model X.prog X.w) X.A (f v u) (EP X pins σ Q) X.xe s
def YY(X:Cx)(f:Aa->Sem Aa)(r:V->Hp->VK->Prop):Prop:=
 ∀(pins:List (Addr × Obj)) (s:Ab) (σ:St) (H:Hp) (x:V) (v:Aa) (Q:VK),Inv X pins σ H s->RelV x v->r x H Q->
  wpAny (model X.prog X.w) X.A (f v) (EP X pins σ Q) X.xe s
def gJ(X:Cx)(f:Aa)(r:ag->Hp->VK->Prop):Prop:=
 ∀(pins:List (Addr × Obj)) (s:Ab) (σ:St) (H:Hp) (xs:ag) (us:ax) (Q:VK),Inv X pins σ H s->Vals xs us->r xs H Q->
  wpAny (model X.prog X.w) X.A (call f us) (EP X pins σ Q) X.xe s
def Qn(r:R2)(ta tb:TE):TE:=λσ H Q=>ta σ H λx H1=>tb σ H1 λy H2=>r x y H2 Q
def tUn(r:V->Hp->VK->Prop)(ta:TE):TE:=λσ H Q=>ta σ H λx H1=>r x H1 Q
inductive rI (C:Int->Int->Prop) (g:Int->Int->V) (x:V) (y:V) (H:Hp) (Q:VK):Prop
 |mk:∀i j,x=.int i->y=.int j->C i j->Q (g i j) H->rI C g x y H Q
inductive FW (g:Int->Int->V) (x:V) (y:V) (H:Hp) (Q:VK):Prop
 |mk:∀i j,x=.int i->y=.int j->Q (g i j) H->FW g x y H Q
inductive rU (g:Int->V) (x:V) (H:Hp) (Q:VK):Prop
 |mk:∀i,x=.int i->Q (g i) H->rU g x H Q
variable{r:R2}
variable{g:Int->Int->Int}
variable{j:Int}
section
variable{X:Cx}{a b c:Expr}{ta tb tc:TE}{pos:Pos}
theorem KQ(ha:PE X a ta)(hb:PE X b tb){s:Ab}{H:Hp}{R:V->V->Hp->Prop}(I:Inv X pins σ H s)(h:ta σ H λx H1=>tb σ H1 λy H2=>R x y H2){Q:Aa->Ab->Prop}{f:Aa->Aa->Sem Aa}(hf:∀v u s2 x y H2,Inv X pins σ H2 s2->RelV x v->RelV y u->R x y H2->wpAny (model X.prog X.w) X.A (f v u) Q X.xe s2) :
  wpAny (model X.prog X.w) X.A (eval a X.env) (λv a_=>wpAny (model X.prog X.w) X.A (eval b X.env) (λu wD=>wpAny (model X.prog X.w) X.A (f v u) Q X.xe wD) X.xe a_) X.xe s:=by
 apply aZ (ha pins s σ H _ I h) λv s1 ⟨x,H1,I1,r1,q1⟩=>?_;apply aZ (hb pins s1 σ H1 _ I1 q1) λu s2 ⟨y,H2,I2,r2,q2⟩=>?_;exact hf v u s2 x y H2 I2 r1 r2 q2
theorem bF{op:Operator}(ho:eG X (binaryOp op) r)(ha:PE X a ta)(hb:PE X b tb):PE X (.BinOp a op b pos) (Qn r ta tb):=by
 intro pins s σ H Q I h;exact wpAny_BinOp (KQ ha hb I h λv u s2 x y H2 I2 rx ry q=>ho pins s2 σ H2 x y v u Q I2 rx ry q)
theorem mn_{op:UnaryOp}{r:V->Hp->VK->Prop}(ho:YY X (unaryOp op) r)(ha:PE X a ta):PE X (.UnaryOp op a pos) (tUn r ta):=by
 intro pins s σ H Q I h;exact UnaryOp_ (aZ (ha pins s σ H _ I h) λv s1 ⟨x,H1,I1,r1,q1⟩=>ho pins s1 σ H1 x v Q I1 r1 q1)
theorem QD{f:Aa->Aa->Sem Aa}{C:Int->Int->Prop}(rule:∀(i j:Int) (t u:Tok) (s:Ab) (Q:Aa->Ab->Prop) (E:Aa->Ab->Prop),C i j->Q (.int (g i j) s.toks) { s with toks:=s.toks+1 }->wpAny (model X.prog X.w) X.A (f (.int i t) (.int j u)) Q E s) :
  eG X f (rI C λi j=>.int (g i j)):=by
 intro pins s σ H x y v u Q I rx ry h;let#[i,j,rfl,rfl,hc,q]:=h;let#[t,rfl]:=rx;let#[t',rfl]:=ry;exact rule i j t t' s _ _ hc #[.int (g i j),H,I.tok _,#[_,Z],q]
theorem Nd{f:Aa->Aa->Sem Aa}(rule:∀(i j:Int) (t u:Tok) (s:Ab) (Q:Aa->Ab->Prop) (E:Aa->Ab->Prop),Q (.int (g i j) s.toks) { s with toks:=s.toks+1 }->wpAny (model X.prog X.w) X.A (f (.int i t) (.int j u)) Q E s) :
  eG X f (FW λi j=>.int (g i j)):=by
 intro pins s σ H x y v u Q I rx ry h;let#[i,j,rfl,rfl,q]:=h;let#[t,rfl]:=rx;let#[t',rfl]:=ry;exact rule i j t t' s _ _ #[.int (g i j),H,I.tok _,#[_,Z],q]
theorem F0{f:Aa->Aa->Sem Aa}{g:Int->Int->Bool}
  (rule:∀(i j:Int) (t u:Tok) (s:Ab) (Q:Aa->Ab->Prop) (E:Aa->Ab->Prop),Q (.bool (g i j)) s->wpAny (model X.prog X.w) X.A (f (.int i t) (.int j u)) Q E s) :
  eG X f (FW λi j=>.bl (g i j)):=by
 intro pins s σ H x y v u Q I rx ry h;let#[i,j,rfl,rfl,q]:=h;let#[t,rfl]:=rx;let#[t',rfl]:=ry;exact rule i j t t' s _ _ #[.bl (g i j),H,I,Z,q]
def Y7(i j:Int):Prop:=0<j/\j<1073741824
def Y6(i j:Int):Prop:=0<=j/\j<=1000000/\i.natAbs<2 ^ 64
def K8(i j:Int):Prop:=(-(2 ^ 64)<i/\i<2 ^ 64)∨(-(2 ^ 64)<j/\j<2 ^ 64)
theorem K8.ok{i:Int}(h:K8 i j):IntMulOk i j:=by
 rcases h with⟨h1,h2⟩|⟨h1,h2⟩
 ·exact .of_left (intBits_le_64 h1 h2)
 ·exact .of_right (intBits_le_64 h1 h2)
theorem iQ:eG X (binaryOp .Add) (FW λi j=>.int (i+j)):=Nd λ_ _ _ _ _ _ _ q=>add_int q
theorem Re:eG X (binaryOp .Sub) (FW λi j=>.int (i - j)):=Nd λ_ _ _ _ _ _ _ q=>sub_int q
theorem pY:eG X (binaryOp .Mult) (rI K8 λi j=>.int (i * j)):=QD λ_ _ _ _ _ _ _ hc q=>mul_int q hc.ok
theorem E8:eG X (binaryOp .FloorDiv) (rI Y7 λi j=>.int (i / j)):=QD λi j _ _ _ _ _ hc q=>by
 have h1:(0:Int)<j:=hc.1;have h2:j<1073741824:=hc.2;exact floordiv_int Z1 (by rw[Int.fdiv_eq_ediv_of_nonneg i Z1];exact q) (.inl (PyProof.noPylong_small Z1))
theorem El:eG X (binaryOp .Mod) (rI (λ_ j=>0<j) λi j=>.int (i % j)):=QD λi j _ _ _ _ _ hc q=>by
 have h1:(0:Int)<j:=hc;exact mod_int' Z1 (by rw[Int.fmod_eq_emod_of_nonneg i Z1];exact q)
theorem _D:eG X (binaryOp .Pow) (rI Y6 λi j=>.int (i ^ j.toNat)):=QD λ_ _ _ _ _ _ _ hc q=>pow_int_small hc.1 hc.2.1 hc.2.2 q
theorem unI{f:Aa->Sem Aa}{g:Int->Int}
  (rule:∀(i:Int) (t:Tok) (s:Ab) (Q:Aa->Ab->Prop) (E:Aa->Ab->Prop),Q (.int (g i) s.toks) { s with toks:=s.toks+1 }->wpAny (model X.prog X.w) X.A (f (.int i t)) Q E s) :
  YY X f (rU λi=>.int (g i)):=by
 intro pins s σ H x v Q I rx h;let#[i,rfl,q]:=h;let#[t,rfl]:=rx;exact rule i t s _ _ #[.int (g i),H,I.tok _,#[_,Z],q]
theorem lF_:YY X (unaryOp .USub) (rU λi=>.int (-i)):=unI λ_ _ _ _ _ q=>neg_int q
end
def MS:V->V->Bool
 |.non,.non=>true | .non,.int _=>true | .int _,.non=>true | .non,.bl _=>true | .bl _,.non=>true | .non,.str _=>true | .str _,.non=>true
 |.int _,.int _=>true | .bl _,.bl _=>true | .str _,.str _=>true | .byt _,.byt _=>true
 |.int _,.str _=>true | .str _,.int _=>true | .bl _,.str _=>true | .str _,.bl _=>true
 |_,_=>false
def rEq:R2:=λx y H Q=>MS x y=true/\Q (.bl (decide (x=y))) H
def rNe:R2:=λx y H Q=>MS x y=true/\Q (.bl (!decide (x=y))) H
theorem _I{i:Int}:decide (V.int i=V.int j)=(i == j):=by
 rw[Bool.eq_iff_iff];simp
theorem _j{i j:Bool}:decide (V.bl i=V.bl j)=(i == j):=by
 rw[Bool.eq_iff_iff];simp
theorem gY_{i j:Str}:decide (V.str i=V.str j)=(i == j):=by
 rw[Bool.eq_iff_iff];simp
theorem hb_{i j:Array UInt8}:decide (V.byt i=V.byt j)=(i.toList == j.toList):=by
 rw[Bool.eq_iff_iff];cases i;cases j;simp
variable{Ld:CmpOp}{r':R2}
section
variable{X:Cx}{a b c:Expr}{ta tb tc:TE}{pos:Pos}
theorem fb{H:Hp}{s:Ab}{Q:VK}{k k':Bool}(I:Inv X pins σ H s)(q:Q (.bl k) H)(e:k=k'):EP X pins σ Q (.bool k') s:=by
 subst e;exact#[.bl k,H,I,Z,q]
theorem hV:eG X (compareOp .Eq) rEq:=by
 intro pins s σ H x y v u Q I rx ry h;let#[hs,q]:=h;cases x with
 |non=>
  cases rx;cases y with
  |non=>cases ry;exact PySem.EqNone.eq_none_none (fb I q Z2)
  |bl j=>cases ry;exact PySem.EqNone.eq_none_bool (fb I q Z2)
  |int j=>let#[t',rfl]:=ry;exact PySem.EqNone.eq_none_int (fb I q Z2)
  |str j=>let#[t',rfl]:=ry;exact PySem.EqNone.eq_none_str (fb I q Z2)
  |_=>exact absurd (show false=true from hs) gM
 |bl i=>
  cases rx;cases y with
  |non=>cases ry;exact PySem.EqNone.eq_bool_none (fb I q Z2)
  |bl j=>cases ry;exact eq_bool (fb I q _j)
  |str j=>let#[t',rfl]:=ry;exact PySem.EqMixed.eq_bool_str (fb I q Z2)
  |_=>exact absurd (show false=true from hs) gM
 |int i=>
  let#[t,rfl]:=rx;cases y with
  |non=>cases ry;exact PySem.EqNone.eq_int_none (fb I q Z2)
  |int j=>let#[t',rfl]:=ry;exact eq_int (fb I q _I)
  |str j=>let#[t',rfl]:=ry;exact PySem.EqMixed.eq_int_str (fb I q Z2)
  |_=>exact absurd (show false=true from hs) gM
 |str i=>
  let#[t,rfl]:=rx;cases y with
  |non=>cases ry;exact PySem.EqNone.eq_str_none (fb I q Z2)
  |bl j=>cases ry;exact PySem.EqMixed.eq_str_bool (fb I q Z2)
  |int j=>let#[t',rfl]:=ry;exact PySem.EqMixed.eq_str_int (fb I q Z2)
  |str j=>let#[t',rfl]:=ry;exact eq_str (fb I q gY_)
  |_=>exact absurd (show false=true from hs) gM
 |byt i=>
  let#[t,rfl]:=rx;cases y with
  |byt j=>let#[t',rfl]:=ry;exact PySem.W.eq_bytes (fb I q hb_)
  |_=>exact absurd (show false=true from hs) gM
 |_=>cases y<;>exact absurd (show false=true from hs) gM
theorem EW:eG X (compareOp .NotEq) rNe:=by
 intro pins s σ H x y v u Q I rx ry h;let#[hs,q]:=h;cases x with
 |non=>
  cases rx;cases y with
  |non=>cases ry;exact PySem.EqNone.ne_none_none (fb I q Z2)
  |bl j=>cases ry;exact PySem.EqNone.ne_none_bool (fb I q Z2)
  |int j=>let#[t',rfl]:=ry;exact PySem.EqNone.ne_none_int (fb I q Z2)
  |str j=>let#[t',rfl]:=ry;exact PySem.EqNone.ne_none_str (fb I q Z2)
  |_=>exact absurd (show false=true from hs) gM
 |bl i=>
  cases rx;cases y with
  |non=>cases ry;exact PySem.EqNone.ne_bool_none (fb I q Z2)
  |bl j=>cases ry;exact ne_bool (fb I q (dU not _j))
  |str j=>let#[t',rfl]:=ry;exact PySem.EqMixed.ne_bool_str (fb I q Z2)
  |_=>exact absurd (show false=true from hs) gM
 |int i=>
  let#[t,rfl]:=rx;cases y with
  |non=>cases ry;exact PySem.EqNone.ne_int_none (fb I q Z2)
  |int j=>let#[t',rfl]:=ry;exact ne_int (fb I q (dU not _I))
  |str j=>let#[t',rfl]:=ry;exact PySem.EqMixed.ne_int_str (fb I q Z2)
  |_=>exact absurd (show false=true from hs) gM
 |str i=>
  let#[t,rfl]:=rx;cases y with
  |non=>cases ry;exact PySem.EqNone.ne_str_none (fb I q Z2)
  |bl j=>cases ry;exact PySem.EqMixed.ne_str_bool (fb I q Z2)
  |int j=>let#[t',rfl]:=ry;exact PySem.EqMixed.ne_str_int (fb I q Z2)
  |str j=>let#[t',rfl]:=ry;exact ne_str (fb I q (dU not gY_))
  |_=>exact absurd (show false=true from hs) gM
 |byt i=>
  let#[t,rfl]:=rx;cases y with
  |byt j=>let#[t',rfl]:=ry;exact PySem.W.ne_bytes (fb I q (dU not hb_))
  |_=>exact absurd (show false=true from hs) gM
 |_=>cases y<;>exact absurd (show false=true from hs) gM
theorem UE:eG X (compareOp .Lt) (FW λi j=>.bl (decide (i<j))):=F0 λ_ _ _ _ _ _ _ q=>lt_int q
theorem HP:eG X (compareOp .LtE) (FW λi j=>.bl (decide (i<=j))):=F0 λ_ _ _ _ _ _ _ q=>le_int q
theorem BU:eG X (compareOp .Gt) (FW λi j=>.bl (decide (j<i))):=F0 λ_ _ _ _ _ _ _ q=>gt_int q
theorem ZQ:eG X (compareOp .GtE) (FW λi j=>.bl (decide (j<=i))):=F0 λ_ _ _ _ _ _ _ q=>ge_int q
inductive dA' (x:V) (y:V) (H:Hp) (Q:VK):Prop
 |mk:∀i j,x=.str i->y=.str j->Q (.bl (decide (i.cps.toList<j.cps.toList))) H->dA' x y H Q
theorem hy_:eG X (compareOp .Lt) dA':=by
 intro pins s σ H x y v u Q I rx ry h;let#[i,j,rfl,rfl,q]:=h;let#[t,rfl]:=rx;let#[t',rfl]:=ry;exact lt_str (fb I q rfl)
inductive dx' (x:V) (y:V) (H:Hp) (Q:VK):Prop
 |mk:∀i j,x=.str i->y=.str j->Q (.bl (!(Builtin.Str.occurrences j i 0 j.length 1).isEmpty)) H->dx' x y H Q
theorem gT_:eG X (compareOp .In) dx':=by
 intro pins s σ H x y v u Q I rx ry h;let#[i,j,rfl,rfl,q]:=h;let#[t,rfl]:=rx;let#[t',rfl]:=ry;exact in_str (fb I q rfl)
theorem _z:eG X (compareOp .Is) (λx y H Q=>y=.non/\Q (.bl (decide (x=.non))) H):=by
 intro pins s σ H x y v u Q I rx ry h;let#[rfl,q]:=h;cases ry;apply is_none_gen (fb I q ?_)
 cases x<;>first
  |(cases rx;rfl)
  |(let#[t,rfl]:=rx;rfl)
theorem hp_:eG X (compareOp .IsNot) (λx y H Q=>y=.non/\Q (.bl (!decide (x=.non))) H):=by
 intro pins s σ H x y v u Q I rx ry h;let#[rfl,q]:=h;cases ry;apply isnot_none_gen (fb I q ?_)
 cases x<;>first
  |(cases rx;rfl)
  |(let#[t,rfl]:=rx;rfl)
theorem zd(b:Expr)(h:op≠.In:=by decide)(h2:op≠.NotIn:=by decide):behindInMarks op b=false:=by
 have e1:(op == CmpOp.In)=false:=by cases op<;>first|rfl|exact absurd rfl h
 have e2:(op == CmpOp.NotIn)=false:=by cases op<;>first|rfl|exact absurd rfl h2
 cases b<;>simp[behindInMarks,e1,e2]
theorem iR(ho:eG X (compareOp op) r)(ha:PE X a ta)(hb:PE X b tb)(hm:behindInMarks op b=false:=by exact zd _):PE X (.Compare a [op] [b] pos) (Qn r ta tb):=by
 intro pins s σ H Q I h;exact wpAny_Compare1 (KQ ha hb I h λv u s2 x y H2 I2 rx ry q=>ho pins s2 σ H2 x y v u Q I2 rx ry q) hm
inductive Ci (Q:Bool->Hp->Prop) (x:V) (H':Hp):Prop
 |mk:∀k,x=.bl k->Q k H'->Ci Q x H'
def GY(t:TE):TT:=λσ H Q=>t σ H λx H'=>Ci Q x H'
theorem cz(ho:eG X (compareOp op) r)(ha:PE X a ta)(hb:PE X b tb)(hm:behindInMarks op b=false:=by exact zd _):PT X (.Compare a [op] [b] pos) (GY (Qn r ta tb)):=by
 intro pins s σ H Q I h
 apply wpAny_isTrue_Compare1 (aZ (ha pins s σ H _ I h) λv s1 ⟨x,H1,I1,r1,q1⟩=>aZ (hb pins s1 σ H1 _ I1 q1) λu s2 ⟨y,H2,I2,r2,q2⟩=>
  aZ (ho pins s2 σ H2 x y v u _ I2 r1 r2 q2) λc s3 ⟨z,H3,I3,r3,k,e,q3⟩=>?_) hm
 subst e;cases r3;exact BO #[H3,I3,q3]
inductive zQ (r':R2) (tc:TE) (σ:St) (Q:VK) (y:V) (z:V) (H3:Hp):Prop
 |mk:∀k,z=.bl k->(if k=true then tc σ H3 λw' H4=>r' y w' H4 Q else Q (.bl false) H3)->zQ r' tc σ Q y z H3
def Cq(r r':R2)(ta tb tc:TE):TE:=λσ H Q=>ta σ H λx H1=>tb σ H1 λy H2=>r x y H2 λz H3=>zQ r' tc σ Q y z H3
theorem fC_(ho:eG X (compareOp op) r)(i8:eG X (compareOp Ld) r')(ha:PE X a ta)(hb:PE X b tb)(hc:PE X c tc)(hm:lastMarks [op,Ld] [b,c]=false:=by with_unfolding_all rfl):PE X (.Compare a [op,Ld] [b,c] pos) (Cq r r' ta tb tc):=by
 intro pins s σ H Q I h
 apply Compare_chain (aZ (ha pins s σ H _ I h) λv s1 ⟨x,H1,I1,r1,q1⟩=>chain_link (aZ (hb pins s1 σ H1 _ I1 q1) λu s2 ⟨y,H2,I2,r2,q2⟩=>
  aZ (ho pins s2 σ H2 x y v u _ I2 r1 r2 q2) λd s3 ⟨z,H3,I3,r3,k,e,q3⟩=>?_)) hm
 subst e;cases r3;apply BO ?_;cases k with
 |false=>exact ite_ff #[.bl false,H3,I3,Z,q3]
 |true=>exact ite_tt (chain_last (aZ (hc pins s3 σ H3 _ I3 q3) λw' s4 ⟨z',H4,I4,r4,q4⟩=>i8 pins s4 σ H4 y z' u w' Q I4 r2 r4 q4))
theorem fN_(ho:eG X (compareOp op) r)(i8:eG X (compareOp Ld) r')(ha:PE X a ta)(hb:PE X b tb)(hc:PE X c tc)(hm:lastMarks [op,Ld] [b,c]=false:=by with_unfolding_all rfl):PT X (.Compare a [op,Ld] [b,c] pos) (GY (Cq r r' ta tb tc)):=by
 intro pins s σ H Q I h
 apply isTrue_chain (aZ (ha pins s σ H _ I h) λv s1 ⟨x,H1,I1,r1,q1⟩=>test_link (aZ (hb pins s1 σ H1 _ I1 q1) λu s2 ⟨y,H2,I2,r2,q2⟩=>
  aZ (ho pins s2 σ H2 x y v u _ I2 r1 r2 q2) λd s3 ⟨z,H3,I3,r3,k,e,q3⟩=>?_)) hm
 subst e;cases r3;apply BO ?_;cases k with
 |false=>
  let#[k',e',q']:=q3;cases e';exact ite_ff #[H3,I3,q']
 |true=>
  apply ite_tt (test_last (aZ (hc pins s3 σ H3 _ I3 q3) λw' s4 ⟨z',H4,I4,r4,q4⟩=>aZ (i8 pins s4 σ H4 y z' u w' _ I4 r2 r4 q4) λd' s5 ⟨z2,H5,I5,r5,k2,e2,q5⟩=>?_));subst e2;cases r5;exact BO #[H5,I5,q5]
theorem gF:(sizeLine:Nat)<2 ^ 63:=by rw[ck];decide
inductive di' (x:V) (y:V) (H:Hp) (Q:VK):Prop
 |mk:∀i j,x=.str i->y=.str j->i.length+j.length<=sizeLine->Q (.str (i++j)) H->di' x y H Q
theorem Im:eG X (binaryOp .Add) di':=by
 intro pins s σ H x y v u Q I rx ry h;let#[i,j,rfl,rfl,hz,q]:=h;let#[t,rfl]:=rx;let#[t',rfl]:=ry;exact add_str (λt' tk=>⟨.str (i++j),H,I.tok _,⟨_,rfl⟩,q⟩) hz
theorem vals1{x:V}{us:ax}(r:Vals [x] us):∃u,us=[u]/\RelV x u:=by
 cases r with
 |cons r1 r2=>cases r2;exact#[_,Z,r1]
theorem vals2{x y:V}{us:ax}(r:Vals [x,y] us):∃u w',us=[u,w']/\RelV x u/\RelV y w':=by
 cases r with
 |cons r1 r2=>
  cases r2 with
  |cons r3 r4=>cases r4;exact#[_,_,Z,r1,r3]
inductive du' (xs:ag) (H:Hp) (Q:VK):Prop
 |mk:∀i j,xs=[.int i,.int j]->Q (.int (if j > i then j else i)) H->du' xs H Q
theorem RR(hc:X.calm=true):gJ X (.builtin "max") du':=by
 intro pins s σ H xs us Q I r h;let#[i,j,rfl,q]:=h;let#[u,w',rfl,#[t,rfl],#[t',rfl]]:=vals2 r;apply max_two_ints (I.ok.hd hc) λh' tk k=>#[_,H,I.kept k,?_,q];by_cases hj:j > i
 ·rw[aA hj,aA hj];exact#[_,Z]
 ·rw[ao hj,ao hj];exact#[_,Z]
inductive dt' (xs:ag) (H:Hp) (Q:VK):Prop
 |mk:∀i j,xs=[.int i,.int j]->Q (.int (if j<i then j else i)) H->dt' xs H Q
theorem h5_(hc:X.calm=true):gJ X (.builtin "min") dt':=by
 intro pins s σ H xs us Q I r h;let#[i,j,rfl,q]:=h;let#[u,w',rfl,#[t,rfl],#[t',rfl]]:=vals2 r;apply min_two_ints (I.ok.hd hc) λh' tk k=>#[_,H,I.kept k,?_,q];by_cases hj:j<i
 ·rw[aA hj,aA hj];exact#[_,Z]
 ·rw[ao hj,ao hj];exact#[_,Z]
theorem RY:gJ X (.type "int") (λxs H Q=>(∃i,xs=[.int i]/\Q (.int i) H)∨∃k,xs=[.bl k]/\Q (.int (if k then 1 else 0)) H):=by
 intro pins s σ H xs us Q I r h;rcases h with⟨i,rfl,q⟩|⟨k,rfl,q⟩
 ·let#[u,rfl,t,rfl]:=vals1 r;exact call_int_int #[.int i,H,I,#[_,Z],q]
 ·let#[u,rfl,r1]:=vals1 r;cases r1;exact call_int_bool #[.int (if k then 1 else 0),H,I.tok _,#[_,Z],q]
end
structure zG (h:Heap) (x dx C:Addr) (mA:Str->Option Aa):Prop where
 obj:h.get? x=some (PySem.W.instObj C dx)
 ns:h.Ns1 dx mA
 ne:dx≠x
variable{mA:Str->Option Aa}
theorem is_{dx:Addr}(n:h.Ns1 dx mA):∃od,h.get? dx=some od/\∀name,PySem.W.lookIn name od=some (mA name):=by
 let#[o,es,ep,ho,hd,hk,_,hm]:=n;apply#[o,ho,λname=>?_];let e:=hm name;unfold nsFind findBy at e;rw[<- Array.find?_toList] at e;unfold PySem.W.lookIn;rw[hd];dsimp only;split
 ·rename_i y q
  rw[q] at e;exact dU some e
 ·rename_i q
  rw[q] at e
  have a:es.toList.any (·.refKey)=false:=by
   rw[List.any_eq_false];intro y hy;let#[z,t,Ve]:=hk y (Array.mem_toList_iff.mp hy);simp[DictEntry.refKey,Ve]
  have a':¬es.toList.any (·.refKey)=true:=by rw[a];exact gM
  rw[ao a'];exact dU some e
theorem zG.look{x dx C:Addr}(I:zG h x dx C mA):∃od,PySem.W.InstAt h x (PySem.W.instObj C dx) C (some od)/\∀name,PySem.W.lookIn name od=some (mA name):=
 let #[od,ho,hl]:=is_ I.ns
 #[od,#[I.obj,Z,Z,ho],hl]
variable{pl:Sem Bool}
variable{kw:List (Str × Aa)}
section
variable{prog:Ad}{w:Af}{A:Ag}{E:Aa->Ab->Prop}{s:Ab}{K:af}{x dx C f:Addr}{mA:Str->Option Aa}{name:Str}{v:Aa}
theorem l3_{expr:Bool}{Q:Aa->Ab->Prop}(X:K.In s.heap)(I:zG s.heap x dx C mA)(hg:PySem.W.plainGet K C name=true)(hh:PySem.W.hasDictIn K C=true)
  (ha:PySem.W.findIn K (.ref C) name=some none) (hv:mA name=some v) (hv':PySem.W.handedIn v=true) (h:Q v { s with toks:=s.toks+1 }) :
  wpAny (model prog w) A (getAttr (.ref x) name expr) Q E s:=by
 let#[od,J,hl]:=I.look;exact PySem.W.get_value X J (PySem.W.plainGet_of hg).1 (PySem.W.findObj_own hh ha Z (by rw[hl,hv])) hv' h
theorem iW_{Q:Aa × ax->Ab->Prop}(X:K.In s.heap)(I:zG s.heap x dx C mA)(hg:PySem.W.plainGet K C name=true)(hf:PySem.W.findIn K (.ref C) name=some (some (.ref f)))(ht:PySem.W.isFn K (.ref f)=true)(hv:mA name=none)(h:Q (.ref f,[.ref x]) s) :
  wpAny (model prog w) A (getMethod (.ref x) name pl) Q E s:=by
 let#[od,J,hl]:=I.look;exact PySem.W.method_fn X J (PySem.W.plainGet_of hg).1 (PySem.W.plainGet_of hg).2 hf (beq_iff_eq.mp ht) (by show (PySem.W.lookIn name od).map (·.isSome)=some false;rw[hl,hv];rfl) h
theorem kv_{ns:ae}{Q:Unit->Ab->Prop}(X:K.In s.heap)(I:zG s.heap x dx C mA)
  (hs:PySem.W.findIn K (.ref C) "__setattr__"=some (some (.builtin "object.__setattr__"))) (hp:PySem.W.plainOver K C=true) (ht:PySem.W.takerIn K C name=some none) (hh:PySem.W.hasDictIn K C=true)
  (hw:PySem.Within mA ns) (hsz:ns.length<=sizeLine)
  (h:∀h',zG h' x dx C (λy=>if y=name then some v else mA y)->Heap.SameBut dx s.heap h'->Q () { s with heap:=h',toks:=s.toks+2 }) :
  wpAny (model prog w) A (setAttr (.ref x) name v) Q E s:=by
 let#[od,J,hl]:=I.look;apply PySem.W.set_plain X J hs (PySem.W.osa_open (s:={ s with toks:=s.toks+1 }) (r:=none) X J hp ht λb=>?_);let#[cd,hc,pS]:=PySem.W.any_some hh;have hx:s.heap.get? x=some #[.ref C,some dx,.plain,#[]]:=I.obj;apply aP (bR (aP (aP (wpAny_loadPart hx (aP (PySem.W.Looks.here (s:={ s with toks:=s.toks+1 }) (PySem.W.looks_clsIn X hc) ?_))))));rw[pS];apply bR (a:=some dx) (aP (bR (aP ?_)));apply wpAny_nsSet1 (s:={ s with toks:=s.toks+1 }) I.ns λh' JV JN=>?_;let#[oD,esD,epD,hoD,hdD,hcD]:=JV.count (PySem.Within.cons name v hw);apply aP (wpAny_lookBehind hoD (by rw[hdD];exact pastItsLine_dict (AR hcD (by rw[iE];omega))) ?_);exact bR (h _ #[(JN.2 _ (Ne.symm I.ne)).trans I.obj,JV,I.ne] JN)
theorem iI_{R:Result->Ab->Prop}{vs:ax}(X:K.In s.heap)(hm:PySem.W.makesIn K C=true)(hi:PySem.W.findIn K (.ref C) "__init__"=some (some (.ref f)))(hf:PySem.W.typeIn K (.ref f)=some (.type "function"))(h:codeAny (model prog w) (A.under (.builtin "type.__call__" #[.ref C::vs,kw])) (.call (.ref f) #[.ref (s.heap.objs.size+1)::vs,kw]) (PySem.W.InitBack (s.heap.objs.size+1) R)
   { s with heap:=(s.heap.push PySem.W.emptyDict).push (PySem.W.instObj C s.heap.objs.size) }) :
  codeAny (model prog w) A (.call (.ref C) #[vs,kw]) R s:=by
 let#[hh,g,d,t,os]:=s;exact PySem.W.make_core (PySem.W.makes_of X hm) (PySem.W.looks_findIn X hi) (λself=>PySem.W.bind_fn X self hf) (.inl Z) h
end
def aF(f:Str)(v:V):List (Str × V)->List (Str × V)
 |[]=>[(f,v)]
 |(g,x)::r=>if g=f then (g,v)::r else (g,x)::aF f v r
theorem ff(f g:Str)(v:V):∀fs:List (Str × V),(aF f v fs).lookup g=if g=f then some v else fs.lookup g
 |[]=>by
  show List.lookup g [(f,v)]=_;by_cases h:g=f
  ·have hb:(g == f)=true:=beq_iff_eq.mpr h;simp only[List.lookup,hb,aA h]
  ·have hb:(g == f)=false:=beq_eq_false_iff_ne.mpr h;simp only[List.lookup,hb,ao h]
 |(k,x)::r=>by
  let ih:=ff f g v r;rw[show aF f v ((k,x)::r)=(if k=f then (k,v)::r else (k,x)::aF f v r) from Z];by_cases hk:k=f
  ·rw[aA hk];by_cases h:g=k
   ·have hb:(g == k)=true:=beq_iff_eq.mpr h;simp only[List.lookup,hb,aA (h.trans hk)]
   ·have hb:(g == k)=false:=beq_eq_false_iff_ne.mpr h;simp only[List.lookup,hb,ao (λe:g=f=>h (e.trans hk.symm))]
  ·rw[ao hk];by_cases h:g=k
   ·have hb:(g == k)=true:=beq_iff_eq.mpr h;simp only[List.lookup,hb,ao (λe:g=f=>hk (h.symm.trans e))]
   ·have hb:(g == k)=false:=beq_eq_false_iff_ne.mpr h;simp only[List.lookup,hb];exact ih
theorem W_(f:Str)(v:V):∀fs:List (Str × V),f∈(aF f v fs).map (·.1)/\∀g,g∈fs.map (·.1)->g∈(aF f v fs).map (·.1)
 |[]=>#[by simp[aF],λg h=>by simp at h]
 |(k,x)::r=>by
  let#[i1,i2]:=W_ f v r;rw[show aF f v ((k,x)::r)=(if k=f then (k,v)::r else (k,x)::aF f v r) from Z];by_cases hk:k=f
  ·rw[aA hk];subst hk;exact#[by simp,λg h=>by simpa using h]
  ·rw[ao hk];apply#[?_,λg h=>?_]
   ·rw[el];exact dF _ i1
   ·rw[el] at h ⊢;rcases bW.mp h with e|e
    ·exact bW.mpr (.inl e)
    ·exact dF _ (i2 g e)
theorem di_(f:Str)(v:V):∀fs:List (Str × V),(aF f v fs).length<=fs.length+1
 |[]=>by simp[aF]
 |(k,x)::r=>by
  let ih:=di_ f v r;rw[show aF f v ((k,x)::r)=(if k=f then (k,v)::r else (k,x)::aF f v r) from Z];by_cases hk:k=f
  ·rw[aA hk,iE,iE];omega
  ·rw[ao hk,iE,iE];omega
variable{v:V}{o:Option Aa}
theorem eW.some_of(r:eW (some v) o):∃u,o=some u/\RelV v u:=by
 cases o with
 |none=>exact (show False from r).elim
 |some u=>exact#[u,Z,r]
theorem eW.none_of(r:eW none o):o=none:=by
 cases o with
 |none=>rfl
 |some u=>exact (show False from r).elim
theorem ii_(r:RelV v u):PySem.W.handedIn u=true:=by
 cases v with
 |non=>cases (show u=Value.none from r);rfl
 |bl b=>cases (show u=Value.bool b from r);rfl
 |int i=>let#[t,e]:=(show ∃t,u=Value.int i t from r);cases e;rfl
 |str x=>let#[t,e]:=(show ∃t,u=Value.str x t from r);cases e;rfl
 |byt b=>let#[t,e]:=(show ∃t,u=Value.bytes b t from r);cases e;rfl
 |flt b=>let#[t,e]:=(show ∃t,u=Value.float b t from r);cases e;rfl
 |ref a=>cases (show u=Value.ref a from r);rfl
 |ty n=>cases (show u=Value.type n from r);rfl
section
variable{P:Ad}{w:Af}{H H':Hp}{h h':Heap}{a C dx:Addr}{fs fs':List (Str × V)}
theorem Rw(aO:fX P w H h)(e:H a=some (.ins C dx fs)):∃mA,zG h a dx C mA/\(∀f,eW (fs.lookup f) (mA f))/\PySem.Within mA (fs.map (·.1))/\fs.length<=1000/\H dx=some (.own a):=by
 let#[d,z,ne,ob,mA,n,r,q]:=(show fV P w H h a (.ins C dx fs) from aO a _ e);exact#[mA,#[ob,n,ne],r,q,z,d]
end
structure zI (K:af) (C:Addr):Prop where
 pg:PySem.W.plainGet K C Str.empty=true
 hd:PySem.W.hasDictIn K C=true
 po:PySem.W.plainOver K C=true
 sa:PySem.W.findIn K (.ref C) "__setattr__"=some (some (.builtin "object.__setattr__"))
theorem zI.get{K:af}{C:Addr}(c:zI K C)(f:Str):PySem.W.plainGet K C f=true:=c.pg
def ya(K:af)(C:Addr)(f:Str):Prop:=PySem.W.findIn K (.ref C) f=some none
theorem ya.Mw{K:af}{C:Addr}{f:Str}(n:ya K C f):PySem.W.takerIn K C f=some none:=by
 unfold PySem.W.takerIn;rw[show PySem.W.findIn K (.ref C) f=some none from n];rfl
structure Con (K:af) (C:Addr) (f:Str) (v:V) (u:Aa):Prop where
 at_:PySem.W.findIn K (.ref C) f=some (some u)
 rel:RelV v u
 get:PySem.W.specialIn K u "__get__"=some none
 cp:PySem.W.copiedNames.contains f=false
structure Meth (K:af) (C:Addr) (m:Str) (f:Addr):Prop where
 at_:PySem.W.findIn K (.ref C) m=some (some (.ref f))
 fn:PySem.W.isFn K (.ref f)=true
 kp:PySem.W.keepIn K (.ref f)=true
section
variable{X:Cx}{pins:List (Addr × Obj)}{σ:St}{H:Hp}{s:Ab}{a C dx:Addr}{fs:List (Str × V)}{f:Str}{v:V}{A:Ag}{E:Aa->Ab->Prop}
theorem gp_{b:Bool}{Q:Aa->Ab->Prop}(I:Inv X pins σ H s)(e:H a=some (.ins C dx fs))(c:zI X.K C)(n:ya X.K C f)(l:fs.lookup f=some v)
  (h:∀u s',Inv X pins σ H s'->RelV v u->Q u s'):wpAny (model X.prog X.w) A (getAttr (.ref a) f b) Q E s:=by
 let#[mA,O,r,_,_,_]:=Rw I.aO e;let#[u,hu,ru]:=eW.some_of (v:=v) (o:=mA f) (by rw[<- l];exact r f);exact l3_ I.gj O (c.get f) c.hd n hu (ii_ ru) (h u _ (I.tok _) ru)
theorem dJ_{m:Str}{g:Addr}{Q:Aa × ax->Ab->Prop}(I:Inv X pins σ H s)(e:H a=some (.ins C dx fs))(c:zI X.K C)(k:Meth X.K C m g)(l:fs.lookup m=none)(h:Q (.ref g,[.ref a]) s):wpAny (model X.prog X.w) A (getMethod (.ref a) m pl) Q E s:=by
 let#[mA,O,r,_,_,_]:=Rw I.aO e;have hn:mA m=none:=eW.none_of (by rw[<- l];exact r m);exact iW_ I.gj O (c.get m) k.at_ k.fn hn h
theorem gf_{y:V}{Q:Unit->Ab->Prop}(I:Inv X pins σ H s)(e:H a=some (.ins C dx fs))(c:zI X.K C)(n:ya X.K C f)(hl:fs.length<1000)(ry:RelV y u)(h:∀s',Inv X pins σ (upd H a (.ins C dx (aF f y fs))) s'->Q () s'):wpAny (model X.prog X.w) A (setAttr (.ref a) f u) Q E s:=by
 let#[mA,O,r,wi,_,ho]:=Rw I.aO e;have hz:(fs.map (·.1)).length<=sizeLine:=by rw[ak,ck];omega
 apply kv_ I.gj O c.sa c.po n.Mw c.hd wi hz λh' O' sb=>h _ ?_;have hd:∃o,h'.get? dx=some o:=let #[o,_,_,e',_]:=O'.ns;#[o,e'];apply I.write (x:=a) (e:=dx) (by rw[e];exact True.intro) (.inr ho) (λb q hb z=>(sb.2 b hb).trans z) hd ?_;apply#[by rw[au O.ne];exact ho,?_,O.ne,O'.obj,_,O'.ns,λg=>?_,λg hg=>?_]
 ·have:=di_ f y fs;omega
 ·show eW ((aF f y fs).lookup g) (if g=f then some u else mA g);rw[ff];by_cases q:g=f
  ·rw[aA q,aA q];exact ry
  ·rw[ao q,ao q];exact r g
 ·by_cases q:g=f
  ·rw[q];exact (W_ f y fs).1
  ·apply (W_ f y fs).2 g (wi g λz=>hg ?_);show (if g=f then some u else mA g)=none;rw[ao q];exact z
theorem Inv.made(I:Inv X pins σ H s):Inv X pins σ (upd (upd H s.heap.objs.size (.own (s.heap.objs.size+1))) (s.heap.objs.size+1) (.ins C s.heap.objs.size []))
  { s with heap:=(s.heap.push PySem.W.emptyDict).push (PySem.W.instObj C s.heap.objs.size) }:=by
 have e1:(s.heap.push PySem.W.emptyDict).get? s.heap.objs.size=some PySem.W.emptyDict:=e_ s.heap Z
 have e2:((s.heap.push PySem.W.emptyDict).push (PySem.W.instObj C s.heap.objs.size)).get? (s.heap.objs.size+1)=some (PySem.W.instObj C s.heap.objs.size):=by
  have:=e_ (s.heap.push PySem.W.emptyDict) (o:=PySem.W.instObj C s.heap.objs.size) Z;rwa [Heap.size_push] at this
 have e3:(s.heap.push PySem.W.emptyDict).Ns s.heap.objs.size (λ_=>none):=#[PySem.W.emptyDict,#[],_,e1,Z,(λe he=>absurd he Z2),λ_=>rfl];let I1:=I.laid (a:=s.heap.objs.size) (o:=.own (s.heap.objs.size+1)) (h':=s.heap.push PySem.W.emptyDict) (t':=s.toks) (λb u q=>cO _ q) (bo _) #[_,e1];apply I1.laid (a:=s.heap.objs.size+1) (o:=.ins C s.heap.objs.size []) (t':=s.toks) (λb u q=>cO _ q) (Nat.le_of_eq (Heap.size_push _ _)) ?_;have ne:s.heap.objs.size≠s.heap.objs.size+1:=eM (Nat.lt_succ_self _);apply#[by rw[au ne,az],gx _,ne,e2,λ_=>none,(Heap.Ns1.of_empty e3).at λo q=>cO _ q,λ_=>True.intro,λy hy=>absurd Z hy]
theorem lp_{prog:Ad}{env:Env}{e:Expr}{f:Str}{s:Ab}{Q:Aa->Ab->Prop}(hb:attributeBase e f env (eval e env)=eval e env)(h:wpAny (model prog w) A (eval e env) (λo a_=>wpAny (model prog w) A (getAttr o f true) Q E a_) E s):wpAny (model prog w) A (eval (.Attribute e f pos) env) Q E s:=
 Attribute_any_ h (by rw[arm_eval_Attribute,hb])
end
inductive G5 (K:af) (f:Str) (Q:VK) (x:V) (H1:Hp):Prop
 |mk:∀a C dx fs v,x=.ref a->H1 a=some (.ins C dx fs)->zI K C->ya K C f->fs.lookup f=some v->Q v H1->G5 K f Q x H1
def S_(K:af)(ta:TE)(f:Str):TE:=λσ H Q=>ta σ H λx H1=>G5 K f Q x H1
inductive He (K:af) (f:Str) (D:Ends) (σ:St) (y:V) (x:V) (H2:Hp):Prop
 |mk:∀a C dx fs,x=.ref a->H2 a=some (.ins C dx fs)->zI K C->ya K C f->fs.length<1000->D.nx σ (upd H2 a (.ins C dx (aF f y fs)))->He K f D σ y x H2
def TF(K:af)(ta tv:TE)(f:Str):TS:=λD σ H=>tv σ H λy H1=>ta σ H1 λx H2=>He K f D σ y x H2
def Qi(X:Cx)(op:Operator)(rd:V->V->Hp->VK->Prop):Prop:=
 ∀(pins:List (Addr × Obj)) (s:Ab) (σ:St) (H:Hp) (x y:V) (u v:Aa) (Q:VK),Inv X pins σ H s->RelV x u->RelV y v->rd x y H Q->wpAny (model X.prog X.w) X.A (inplaceOp op u v) (EP X pins σ Q) X.xe s
section
variable{X:Cx}{o e value:Expr}{f:Str}{pos pos' Mt:Pos}{ta tv:TE}
theorem dW(he:PE X e ta)(hb:attributeBase e f X.env (eval e X.env)=eval e X.env):PE X (.Attribute e f pos) (S_ X.K ta f):=by
 intro pins s σ H Q I h;apply lp_ hb (aZ (he pins s σ H _ I h) λu s1 ⟨x,H1,I1,rx,a,C,dx,fs,v,ex,ea,c,n,l,q⟩=>?_);subst ex;obtain rfl:u=Value.ref a:=rx;exact gp_ I1 ea c n l λu' s2 I2 ru=>#[v,H1,I2,ru,q]
theorem E6(ha:PE X o ta)(hv:PE X value tv)(hs:swapsWith value (some (.Attribute o f pos')) pos.line X.env=pure false):PS X (.Assign [.Attribute o f pos'] value pos) (TF X.K ta tv f):=by
 intro pins s σ H D I h;apply plainObj_wpAny_Assign_Attribute (aZ (hv pins s σ H _ I h) λu s1 ⟨y,H1,I1,ry,q⟩=>aZ (ha pins s1 σ H1 _ I1 q) λov s2 ⟨x,H2,I2,rx,a,C,dx,fs,ex,ea,c,n,l,q2⟩=>?_) hs;subst ex;obtain rfl:ov=Value.ref a:=rx;exact gf_ I2 ea c n l ry λs3 I3=>#[σ,_,I3,q2]
inductive M9 (x:V) (y:V) (H:Hp) (Q:VK):Prop
 |mk:∀i j,x=.int i->y=.int j->Q (.int (i+j)) H->M9 x y H Q
theorem lS_:Qi X .Add M9:=by
 rintro pins s σ H x y u v Q I rx ry ⟨i,j,rfl,rfl,q⟩;let#[t,rfl]:=(show ∃t,u=Value.int i t from rx);let#[t',rfl]:=(show ∃t',v=Value.int j t' from ry);exact PyProof.Rows.iadd_int ⟨.int (i+j),H,I.tok _,⟨_,rfl⟩,q⟩
end
section
variable{X:Cx}{pins:List (Addr × Obj)}{σ:St}{H:Hp}{s:Ab}{A:Ag}{E:Aa->Ab->Prop}{Q:Aa->Ab->Prop}{c:Aa}{b:Bool}
inductive fS (K:af) (H:Hp):V->Aa->Prop where
 |non:fS K H .non (.type "NoneType")
 |bl (x:Bool):fS K H (.bl x) (.type "bool")
 |int (i:Int):fS K H (.int i) (.type "int")
 |str (x:Str):fS K H (.str x) (.type "str")
 |flt (x:UInt64):fS K H (.flt x) (.type "float")
 |lst {a:Addr} {xs:ag} (e:H a=some (.lst xs)):fS K H (.ref a) (.type "list")
 |frz {a:Addr} {o:Obj} {xs:ag} (e:H a=some (.frz o (.lst xs))):fS K H (.ref a) (.type "list")
 |tup {a:Addr} {xs:ag} (e:H a=some (.tup xs)):fS K H (.ref a) (.type "tuple")
 |dK {a:Addr} {kvs:List (Key × V)} (e:H a=some (.dK kvs)):fS K H (.ref a) (.type "dict")
 |dT {a:Addr} {kvs:List (aN × V)} (e:H a=some (.dT kvs)):fS K H (.ref a) (.type "dict")
 |ins {a C dx:Addr} {fs:List (Str × V)} (e:H a=some (.ins C dx fs)) (cl:zI K C) (ha:PySem.W.findIn K (.ref C) "__class__"=some (some (.builtin "object.__class__")))
   (hn:PySem.W.specialIn K (.builtin "object.__class__") "__get__"=some (some (.builtin "getset_descriptor.__get__"))) (QQ:PySem.W.takesIn K (.builtin "object.__class__")=some true)
   (hm:PySem.W.mroIn K C (.type "object")=some true):fS K H (.ref a) (.ref C)
theorem eQ_{x:V}{t:Aa}(I:Inv X pins σ H s)(rx:RelV x u)(ty:fS X.K H x t)(e:PySem.W.kitOne X.K t c=some b)(h:∀tk,Q (.bool b) { s with toks:=tk }) :
  wpAny (model X.prog X.w) A (call (.builtin "isinstance") [u,c]) Q E s:=by
 cases ty with
 |non=>cases (show u=Value.none from rx);exact Ee PySem.W.kitx_none I.gj True.intro e nofun h
 |bl y=>cases (show u=Value.bool y from rx);exact Ee PySem.W.kitx_bool I.gj True.intro e nofun h
 |int i=>let#[t,q]:=(show ∃t,u=Value.int i t from rx);cases q;exact Ee PySem.W.kitx_int I.gj True.intro e nofun h
 |str y=>let#[t,q]:=(show ∃t,u=Value.str y t from rx);cases q;exact Ee PySem.W.kitx_str I.gj True.intro e nofun h
 |flt y=>let#[t,q]:=(show ∃t,u=Value.float y t from rx);cases q;exact Ee PySem.W.kitx_float I.gj True.intro e nofun h
 |@lst a xs ea=>
  cases (show u=Value.ref a from rx);let#[_,_,n,_,h1]:=(show fV X.prog X.w H s.heap a (.lst xs) from I.aO a _ ea);exact Ee PySem.W.kitx_list I.gj #[_,h1,Z] e nofun h
 |@frz a ob xs ea=>
  cases (show u=Value.ref a from rx);let#[_,_,_,n,_,h1]:=(show fV X.prog X.w H s.heap a (.frz ob (.lst xs)) from I.aO a _ ea);exact Ee PySem.W.kitx_list I.gj #[_,h1,Z] e nofun h
 |@tup a xs ea=>
  cases (show u=Value.ref a from rx);let#[_,_,_,p,_]:=(show fV X.prog X.w H s.heap a (.tup xs) from I.aO a _ ea);let#[o,h1,h2,_]:=p;exact Ee PySem.W.kitx_tuple I.gj #[o,h1,h2] e nofun h
 |@dK a kvs ea=>
  cases (show u=Value.ref a from rx);let#[_,_,vs,_,p]:=(show fV X.prog X.w H s.heap a (.dK kvs) from I.aO a _ ea);let#[o,es,ep,h1,h2,_]:=p;exact Ee PySem.W.kitx_dict I.gj #[o,h1,h2.1] e nofun h
 |@dT a kvs ea=>
  cases (show u=Value.ref a from rx);let#[_,_,xs,_,o,es,ep,h1,h2,_]:=(show fV X.prog X.w H s.heap a (.dT kvs) from I.aO a _ ea);exact Ee PySem.W.kitx_dict I.gj #[o,h1,h2.1] e nofun h
 |@ins a C dx fs ea cl ha hn QQ hm=>
  cases (show u=Value.ref a from rx);let#[mA,O,_]:=Rw I.aO ea;let#[od,J,_]:=O.look;exact Ee (PySem.W.kitx_own (cl.get _) cl.hd ha hn QQ hm) I.gj J e nofun h
end
structure aY (k:Nat) (A:Ag):Prop where
 hd:A.handled=none
 dp:A.depth+3 * k+5<recursionLimit
 un:A.units+16 * k+200<cLine
variable{j:Nat}
theorem aY.mono{A:Ag}(r:aY k A)(h:j<=k):aY j A:=#[r.hd,by have:=r.dp;omega,by have:=r.un;omega]
theorem aY.deeper{A:Ag}(r:aY (k+1) A)(env:Env):aY k (A.deeper env):=
 #[r.hd,by have:=r.dp;show A.depth+1+3 * k+5<_;omega,by have:=r.un;show A.units+3+16 * k+200<_;omega]
theorem aY.in1{A:Ag}(r:aY (k+1) A):aY k A.in1:=
 #[r.hd,by have:=r.dp;show A.depth+3 * k+5<_;omega,by have:=r.un;show A.units+1+16 * k+200<_;omega]
theorem gj_{A:Ag}{C:Addr}{us:ax}:(A.under (.builtin "type.__call__" #[.ref C::us,kw])).depth=A.depth+1:=by
 first|rfl|simp[Around.under,Code.weight,Code.isCreation,Code.isGuard,Code.isCaller,Code.frames,Code.isFrame,guardIds]
theorem gy_{A:Ag}{C:Addr}{us:ax}:(A.under (.builtin "type.__call__" #[.ref C::us,kw])).units=A.units+1:=by
 first|rfl|simp[Around.under,Code.cUnits,Code.frames,Code.isFrame]
theorem aY.make{A:Ag}(r:aY (k+1) A)(C:Addr)(us:ax)(kw:List (Str × Aa)):aY k (A.under (.builtin "type.__call__" #[.ref C::us,kw])):=
 #[r.hd,by have:=r.dp;rw[gj_];omega,by have:=r.un;rw[gy_];omega]
theorem aY.depth{A:Ag}(r:aY k A):A.depth<recursionLimit:=by have:=r.dp;omega
theorem aY.units{A:Ag}(r:aY k A):A.units+64<cLine:=by have:=r.un;omega
theorem aY.IM{A:Ag}(r:aY k A):A.units<cLine:=by have:=r.un;omega
def pH:TA:=λ_ H Q=>Q [] H
def wB(ta:TE)(tr:TA):TA:=λσ H Q=>ta σ H λx H1=>tr σ H1 λxs H2=>Q (x::xs) H2
section
variable{X:Cx}{e:Expr}{es:List Expr}{te:TE}{t:TA}{pos:Pos}
theorem aE:PA X [] pH:=λ_ _ _ _ H Q I h=>Calls.spliced_nil #[[],H,I,.nil,h]
theorem di(ha:PE X e te)(hr:PA X es t)(hs:starEach (e::es) X.env=(false,eval e X.env)::starEach es X.env:=by rfl):PA X (e::es) (wB te t):=by
 intro pos pins s σ H Q I h;rw[hs];show wpAny _ _ (spliced ((false,eval e X.env)::backTo pos (starEach es X.env))) _ _ s;apply Calls.spliced_cons (aZ (ha pins s σ H _ I h) λu s1 ⟨x,H1,I1,r1,q1⟩=>?_);exact aZ (hr pos pins s1 σ H1 _ I1 q1) λus s2 ⟨xs,H2,I2,r2,q2⟩=>#[x::xs,H2,I2,.cons r1 r2,q2]
def Mx(t:TA):TE:=λσ H Q=>t σ H λxs H1=>xs.length<=sizeLine/\∀p,H1 p=none->Q (.ref p) (upd H1 p (.tup xs))
def S5(t:TA):TE:=λσ H Q=>t σ H λxs H1=>xs.length<=sizeLine/\∀p,H1 p=none->Q (.ref p) (upd H1 p (.lst xs))
theorem fe{x1}(h:PA X es t):PE X (.Tuple es x1 pos) (Mx t):=by
 intro pins s σ H Q I hq;apply wpAny_Tuple_spliced (aZ (h pos pins s σ H _ I hq) λus s1 ⟨xs,H1,I1,r,z,q⟩=>#[by rw[<- r.length];exact z,?_]);have hf:H1 s1.heap.objs.size=none:=I1.aO.fresh (bo _);apply#[.ref s1.heap.objs.size,upd H1 s1.heap.objs.size (.tup xs),I1.laid (t':=s1.toks) (λb u e=>cO _ e) (bo _) ?_,Z,q _ hf];exact#[z,us,r,#[_,e_ _ Z,Z,_,Z],_,e_ _ Z,Z]
theorem cK(h:PA X es t):PE X (.List es pos) (S5 t):=by
 intro pins s σ H Q I hq;apply wpAny_List_spliced (aZ (h pos pins s σ H _ I hq) λus s1 ⟨xs,H1,I1,r,z,q⟩=>#[by rw[<- r.length];exact z,?_]);have hf:H1 s1.heap.objs.size=none:=I1.aO.fresh (bo _);apply#[.ref s1.heap.objs.size,upd H1 s1.heap.objs.size (.lst xs),I1.laid (t':=s1.toks) (λb u e=>cO _ e) (bo _) ?_,Z,q _ hf];exact#[z,us,0,r,e_ _ Z]
end
abbrev Sp:=ag->Hp->VK->XK->Prop
abbrev Fv:=List Env->Hp->Ab->XK->Aa->Ab->Prop
structure i5 (P:Ad) (w:Af) (K:af) (mg:Str->Option Aa) (base:Heap) (A:Ag) (outer:List Env) (s:Ab) (H:Hp):Prop where
 frames:A.frames=some outer
 mod:Mod K mg base
 bs:∀b o,base.get? b=some o->s.heap.get? b=some o/\H b=none
 Eh:base.objs.size<=s.heap.objs.size
 gc:s.heap.FunFrames base outer
 Gm:∀b∈Bp outer,H b=none
 aO:fX P w H s.heap
 bare:AllBare s.gens
def CE(outer:List Env)(P:Ad)(w:Af)(H:Hp)(s:Ab)(Q:VK)(u:Aa)(s':Ab):Prop:=
 ∃v H',s'.os=s.os/\AllBare s'.gens/\Un (Bp outer) [] H H' s.heap s'.heap/\fX P w H' s'.heap/\RelV v u/\Q v H'
def CR(CX:Fv)(outer:List Env)(P:Ad)(w:Af)(H:Hp)(s:Ab)(Q:VK)(E:XK)(r:Result)(s':Ab):Prop:=
 match r with
 |.ok (.ret u)=>CE outer P w H s Q u s'
 |.ok _=>False
 |.error e=>CX outer H s E e s'
structure aj (P:Ad) (w:Af) (K:af) (mg:Str->Option Aa) (base:Heap) (CX:Fv) (k:Nat) (f:Addr) (fd:Ae) (ps:ae) (sp:Sp):Prop where
 len:∀vs H Q E,sp vs H Q E->vs.length=ps.length
 run:∀(A:Ag) (outer:List Env) (s:Ab) (H:Hp) (args:Args) (us:ax) (vs:ag) (Q:VK) (E:XK),aY k A->i5 P w K mg base A outer s H->BindsTo s fd args (ps.zip us)->Vals vs us->sp vs H Q E->
  codeAny (model P w) A (.call (.ref f) args) (CR CX outer P w H s Q E) s
variable{K:af}{f:Addr}{mg:Str->Option Aa}{base:Heap}{CX:Fv}{fd:Ae}{ps:ae}
theorem aj.mono{sp:Sp}(F:aj P w K mg base CX j f fd ps sp)(h:j<=k) :
  aj P w K mg base CX k f fd ps sp:=#[F.len,λA outer s H args us vs Q E hr=>F.run A outer s H args us vs Q E (hr.mono h)]
variable{H:Hp}{A:Ag}{outer:List Env}
theorem i5.make{s:Ab}(e:i5 P w K mg base A outer s H)(C:Addr)(us:ax)(kw:List (Str × Aa)) :
  i5 P w K mg base (A.under (.builtin "type.__call__" #[.ref C::us,kw])) outer s H:=#[by first|exact e.frames|(simpa [Around.under,Code.envs,Code.isFrame,pushEnvs] using e.frames),e.mod,e.bs,e.Eh,e.gc,e.Gm,e.aO,e.bare]
section
variable{X:Cx}{pins:List (Addr × Obj)}{σ:St}{H:Hp}{s s':Ab}
theorem Inv.Kk(I:Inv X pins σ H s):i5 X.prog X.w X.K X.mg X.base X.A X.stack s H:=
 #[I.ok.frames,I.ok.mod,I.bs,AR I.ok.Eh I.sz,I.stack,I.zS,I.aO,I.bare]
theorem Inv.after{Q:VK}(I:Inv X pins σ H s)(h:CE X.stack X.prog X.w H s Q u s'):EP X pins σ Q u s':=by
 let#[v,H',os,bare,un,aO,r,q]:=h;let#[hh,g,d,t,os']:=s';obtain rfl:os'=s.os:=os;exact#[v,H',I.call (h':=hh) (g':=g) (d':=d) (t':=t) (ch:=[]) un aO bare (λb z=>absurd z Z2),r,q]
end
def zR(sp:Sp)(gR:ag)(E:XK)(t:TA):TE:=λσ H Q=>t σ H λvs H1=>sp (vs++gR) H1 Q E
inductive Cn (C:Addr) (m:Str) (sp:Sp) (gR:ag) (E:XK) (t:TA) (σ:St) (Q:VK) (x:V) (H1:Hp):Prop
 |mk:∀a dx fs,x=.ref a->H1 a=some (.ins C dx fs)->fs.lookup m=none->(t σ H1 λvs H2=>sp (x::(vs++gR)) H2 Q E)->Cn C m sp gR E t σ Q x H1
def zP(C:Addr)(m:Str)(sp:Sp)(gR:ag)(E:XK)(ta:TE)(t:TA):TE:=λσ H Q=>ta σ H λx H1=>Cn C m sp gR E t σ Q x H1
def G0(C:Addr)(sp:Sp)(gR:ag)(E:XK)(t:TA):TE:=λσ H Q=>t σ H λvs H1=>∀x dx,H1 x=none->H1 dx=none->dx≠x->
 sp (.ref x::(vs++gR)) (upd (upd H1 dx (.own x)) x (.ins C dx [])) (λv H2=>v=.non/\Q (.ref x) H2) E
def Bt(K:af)(fd:Ae)(ps:ae)(ds:ax):Prop:=
 ∀(s:Ab) (us:ax),K.In s.heap->(us++ds).length=ps.length->BindsTo s fd #[us,[]] (ps.zip (us++ds))
theorem Bt.all(h:∀us:ax,us.length=ps.length->bindArgs fd #[us,[]]=pure (ps.zip us)):Bt K fd ps []:=λs us _ hl=>by
 rw[gK] at hl ⊢;exact .of_eq (h us hl)
def E4(CX:Fv)(X:Cx)(E:XK):Prop:=∀(pins:List (Addr × Obj)) (σ:St) (H:Hp) (s:Ab) (e:Aa) (s':Ab),Inv X pins σ H s->CX X.stack H s E e s'->X.xe e s'
variable{E:XK}{Q:VK}{gR vs:ag}{sp:Sp}{ds:ax}
theorem Q4{s:Ab}{us:ax}(F:aj X.prog X.w X.K X.mg X.base CX k f fd ps sp)(hr:aY k X.A)(hb:Bt X.K fd ps ds)(hd:Vals gR ds)(hx:E4 CX X E)(I:Inv X pins σ H s)(r:Vals vs us)(h:sp (vs++gR) H Q E):wpAny (model X.prog X.w) X.A (call (.ref f) us) (EP X pins σ Q) X.xe s:=by
 have r2:Vals (vs++gR) (us++ds):=r.append hd;have hl:(us++ds).length=ps.length:=by rw[<- r2.length];exact F.len _ _ _ _ h
 apply wpAny_call (codeAny_mono (F.run X.A X.stack s H #[us,[]] (us++ds) (vs++gR) Q E hr I.Kk (hb s us I.gj hl) r2 h) λr s' hq=>?_);cases r with
 |error e=>exact hx pins σ H s e s' I hq
 |ok fl=>
  cases fl with
  |ret u=>exact I.after hq
  |next=>exact False.elim hq
  |brk=>exact False.elim hq
  |cont=>exact False.elim hq
variable{x:Str}{t:TA}{e:Expr}
theorem kr_(F:aj X.prog X.w X.K X.mg X.base CX k f fd ps sp)(hr:aY k X.A)(hg:Gl X x)(hm:X.mg x=some (.ref f))(hk:PySem.W.keepIn X.K (.ref f)=true)(hb:Bt X.K fd ps ds)(hd:Vals gR ds)(hx:E4 CX X E)
  (ha:PA X (e::es) t) (zh:(x == ("__debug__":Str))=false:=by decide) (he:starEach (e::es) X.env=(false,eval e X.env)::starEach es X.env:=by rfl) (xO:(backTo pos (starEach es X.env)).any (·.1)=false:=by rfl) :
  PE X (.Call (.Name x p) (e::es) [] pos) (zR sp gR E t):=by
 intro pins s σ H Q I h;apply wpAny_Call_Name_kw (Ru I hg hm ?_ zh);apply PySem.W.callWith_K (h₀:=X.base) I.ok.mod.NK hk (aZ (ha pos pins s σ H _ I h) λus s1 ⟨vs,H1,I1,r,q⟩=>#[I1.gj,?_]) he xO;exact Q4 F hr hb hd hx I1 r q
theorem j0_(F:aj X.prog X.w X.K X.mg X.base CX k f fd ps sp)(hr:aY k X.A)(hg:Gl X x)(hm:X.mg x=some (.ref f))(hk:PySem.W.keepIn X.K (.ref f)=true)(hb:Bt X.K fd ps ds)(hd:Vals gR ds)(hx:E4 CX X E)
  (zh:(x == ("__debug__":Str))=false:=by decide):PE X (.Call (.Name x p) [] [] pos) (zR sp gR E pH):=by
 intro pins s σ H Q I h;apply wpAny_Call_Name_kw (Ru I hg hm ?_ zh);exact PySem.W.callWith_K0 I.gj hk (Q4 (us:=[]) F hr hb hd hx I .nil h)
variable{o:Expr}{ta:TE}{C:Addr}{m:Str}{apos:Pos}
theorem kh_(he:PE X o ta)(c:zI X.K C)(hm:Meth X.K C m f)(F:aj X.prog X.w X.K X.mg X.base CX k f fd ps sp)(hr:aY k X.A)(hb:Bt X.K fd ps ds)(hd:Vals gR ds)(hx:E4 CX X E)(ha:PA X (e::es) t)(F9:starEach (e::es) X.env=(false,eval e X.env)::starEach es X.env:=by rfl)(xO:(backTo pos (starEach es X.env)).any (·.1)=false:=by rfl)(ht:eval (.Call (.Attribute o m apos) (e::es) [] pos) X.env=(do
   let ov <- eval o X.env
   standAt apos.atName
   let (f,first) <- holding [ov] (getMethod ov m pl)
   callWith pos f first (backTo pos (starEach (e::es) X.env)) (backToKw pos (keywordEach [] X.env))):=by rfl) :
  PE X (.Call (.Attribute o m apos) (e::es) [] pos) (zP C m sp gR E ta t):=by
 intro pins s σ H Q I h;apply PySem.W.methodCall_KW (pl:=pl) (aZ (he pins s σ H _ I h) λu s1 ⟨x,H1,I1,rx,a,dx,fs,ex,ea,l,q⟩=>?_) ht;subst ex;obtain rfl:u=Value.ref a:=rx;apply dJ_ I1 ea c hm l ?_;apply PySem.W.callWith_K (first:=[.ref a]) (h₀:=X.base) I.ok.mod.NK hm.kp (aZ (ha pos pins s1 σ H1 _ I1 q) λus s2 ⟨vs,H2,I2,r,q2⟩=>#[I2.gj,?_]) F9 xO;exact Q4 (us:=.ref a::us) (vs:=.ref a::vs) F hr hb hd hx I2 (.cons Z r) q2
theorem j8_(he:PE X o ta)(c:zI X.K C)(hm:Meth X.K C m f)(F:aj X.prog X.w X.K X.mg X.base CX k f fd ps sp)(hr:aY k X.A)(hb:Bt X.K fd ps ds)(hd:Vals gR ds)(hx:E4 CX X E)(ht:eval (.Call (.Attribute o m apos) [] [] pos) X.env=(do
   let ov <- eval o X.env
   standAt apos.atName
   let (f,first) <- holding [ov] (getMethod ov m pl)
   callWith pos f first (backTo pos (starEach [] X.env)) (backToKw pos (keywordEach [] X.env))):=by rfl) :
  PE X (.Call (.Attribute o m apos) [] [] pos) (zP C m sp gR E ta pH):=by
 intro pins s σ H Q I h;apply PySem.W.methodCall_KW (pl:=pl) (aZ (he pins s σ H _ I h) λu s1 ⟨x,H1,I1,rx,a,dx,fs,ex,ea,l,q⟩=>?_) ht;subst ex;obtain rfl:u=Value.ref a:=rx;apply dJ_ I1 ea c hm l ?_;exact PySem.W.callWith_K0 (first:=[.ref a]) I1.gj hm.kp (Q4 (us:=[.ref a]) (vs:=[.ref a]) F hr hb hd hx I1 (.cons Z .nil) q)
structure Mk (K:af) (C f:Addr):Prop where
 makes:PySem.W.makesIn K C=true
 init:PySem.W.findIn K (.ref C) "__init__"=some (some (.ref f))
 fn:PySem.W.isFn K (.ref f)=true
 kp:PySem.W.keepIn K (.ref C)=true
theorem iB_{s:Ab}{us:ax}(M:Mk X.K C f)(F:aj X.prog X.w X.K X.mg X.base CX k f fd ps sp)(hr:aY (k+1) X.A)(hb:Bt X.K fd ps ds)(hd:Vals gR ds)(hx:E4 CX X E)(I:Inv X pins σ H s)(r:Vals vs us)(h:∀x dx,H x=none->H dx=none->dx≠x->sp (.ref x::(vs++gR)) (upd (upd H dx (.own x)) x (.ins C dx [])) (λv H2=>v=.non/\Q (.ref x) H2) E) :
  wpAny (model X.prog X.w) X.A (call (.ref C) us) (EP X pins σ Q) X.xe s:=by
 let hq:=h (s.heap.objs.size+1) s.heap.objs.size (I.aO.fresh (Nat.le_succ _)) (I.aO.fresh (bo _)) (eM (Nat.lt_succ_self _));let I2:=Inv.made (C:=C) I;have r2:Vals (V.ref (s.heap.objs.size+1)::(vs++gR)) (Value.ref (s.heap.objs.size+1)::(us++ds)):=.cons Z (r.append hd)
 have hl:(Value.ref (s.heap.objs.size+1)::us++ds).length=ps.length:=by
  let e:=r2.length;rw[F.len _ _ _ _ hq] at e;exact e.symm
 apply wpAny_call (iI_ (f:=f) I.gj M.makes M.init (beq_iff_eq.mp M.fn) (codeAny_mono (F.run _ X.stack _ _ #[Value.ref (s.heap.objs.size+1)::us,[]] (Value.ref (s.heap.objs.size+1)::(us++ds)) _ _ E (hr.make C us [])
  (I2.Kk.make C us []) (hb _ (Value.ref (s.heap.objs.size+1)::us) I2.gj hl) r2 hq) λr s' hq'=>?_))
 cases r with
 |error e=>exact hx pins σ _ _ e s' I2 hq'
 |ok fl=>
  cases fl with
  |ret u=>
   let#[v,H',I3,rv,ev,q3]:=I2.after hq';subst ev;exact#[rv,#[V.ref (s.heap.objs.size+1),H',I3,Z,q3]]
  |next=>exact False.elim hq'
  |brk=>exact False.elim hq'
  |cont=>exact False.elim hq'
theorem l4_(M:Mk X.K C f)(F:aj X.prog X.w X.K X.mg X.base CX k f fd ps sp)(hr:aY (k+1) X.A)(hg:Gl X x)(hm:X.mg x=some (.ref C))(hb:Bt X.K fd ps ds)(hd:Vals gR ds)(hx:E4 CX X E)
  (ha:PA X (e::es) t) (zh:(x == ("__debug__":Str))=false:=by decide) (he:starEach (e::es) X.env=(false,eval e X.env)::starEach es X.env:=by rfl) (xO:(backTo pos (starEach es X.env)).any (·.1)=false:=by rfl) :
  PE X (.Call (.Name x p) (e::es) [] pos) (G0 C sp gR E t):=by
 intro pins s σ H Q I h;apply wpAny_Call_Name_kw (Ru I hg hm ?_ zh);apply PySem.W.callWith_K (h₀:=X.base) I.ok.mod.NK M.kp (aZ (ha pos pins s σ H _ I h) λus s1 ⟨vs,H1,I1,r,q⟩=>#[I1.gj,?_]) he xO;exact iB_ M F hr hb hd hx I1 r q
def PK(X:Cx)(NJ:List Keyword)(t:TA):Prop:=
 ∀(pos:Pos) (pins:List (Addr × Obj)) (s:Ab) (σ:St) (H:Hp) (Q:ag->Hp->Prop),Inv X pins σ H s->t σ H Q->wpAny (model X.prog X.w) X.A (evalAll ((backToKw pos (keywordEach NJ X.env)).map (·.2))) (AP X pins σ Q) X.xe s
theorem _y:PK X [] pH:=λ_ _ _ _ H Q I h=>wpAny_evalAll_nil #[[],H,I,.nil,h]
variable{UD:Pos}{NJ:List Keyword}{nm:Option Str}
theorem hF_(ha:PE X e te)(hr:PK X NJ t):PK X (#[nm,e,UD]::NJ) (wB te t):=by
 intro pos pins s σ H Q I h;show wpAny _ _ (evalAll ((do let v <- eval e X.env;standAt pos;pure v)::(backToKw pos (keywordEach NJ X.env)).map (·.2))) _ _ s;apply wpAny_evalAll_cons (aP (aZ (ha pins s σ H _ I h) λu s1 ⟨x,H1,I1,r1,q1⟩=>aP (wpAny_standAt (bR ?_))));exact aZ (hr pos pins s1 σ H1 _ I1 q1) λus s2 ⟨xs,H2,I2,r2,q2⟩=>#[x::xs,H2,I2,.cons r1 r2,q2]
structure Y2 (K:af) (fd:Ae) (ps ks:ae) (g:ax->ax->ax) (gV:ag->ag->ag):Prop where
 to:∀(s:Ab) (us ws:ax),K.In s.heap->(g us ws).length=ps.length->BindsTo s fd #[us,ks.zip ws] (ps.zip (g us ws))
 rel:∀{vs:ag} {us:ax} {zs:ag} {ws:ax},Vals vs us->Vals zs ws->Vals (gV vs zs) (g us ws)
structure bD (N P:ae) (sc:Scope):Prop where
 kind:sc.kind=.function
 co:sc.isCoroutine=false
 gen:sc.isGenerator=false
 nd:N.Nodup
 pre:N.take P.length=P
 par:∀x∈P,sc.names.lookup x=some .local∨sc.names.lookup x=some .cell
 JC:∀y∈sc.names,y.2≠.free
theorem eD_{kindOf:Str->Option NameKind}{x:Str}:∀{binds:List (Str × Aa)} {m:Str->Option Aa},(∀v,(x,v)∉binds)->bindL kindOf binds m x=m x
 |[],_,_=>rfl
 |(n,v)::r,m,h=>by
  unfold bindL;rw[eD_ λw hw=>h w (dF _ hw)];split
  ·have:x≠n:=by rintro rfl;exact h v c8
   simp[this]
  ·rfl
theorem eo_{kindOf:Str->Option NameKind}{x:Str}:∀{binds:List (Str × Aa)} {m:Str->Option Aa},(∀v,(x,v)∉binds)->bindC kindOf binds m x=m x
 |[],_,_=>rfl
 |(n,v)::r,m,h=>by
  unfold bindC;rw[eo_ λw hw=>h w (dF _ hw)];split
  ·rfl
  ·have:x≠n:=by rintro rfl;exact h v c8
   simp[this]
theorem eA_{kindOf:Str->Option NameKind}{x:Str}{v:Aa}:∀{P:ae} {vs:ax} {i:Nat} {m:Str->Option Aa},P.Nodup->P[i]? = some x->vs[i]? = some v->kindOf x=some .local->
  bindL kindOf (P.zip vs) m x=some v
 |[],_,_,_,_,h,_,_=>by simp at h
 |_::_,[],_,_,_,_,h,_=>by simp at h
 |p::P,w::vs,0,m,nd,h1,h2,hk=>by
  simp at h1 h2;subst h1;subst h2;show bindL kindOf ((p,w)::P.zip vs) m p=_;unfold bindL;rw[eD_ λv hv=>(Bz.mp nd).1 (List.of_mem_zip hv).1,aA hk];simp
 |p::P,w::vs,i+1,m,nd,h1,h2,hk=>by
  show bindL kindOf ((p,w)::P.zip vs) m x=_;unfold bindL;exact eA_ (i:=i) (Bz.mp nd).2 (by simpa using h1) (by simpa using h2) hk
theorem eV_{kindOf:Str->Option NameKind}{x:Str}{v:Aa}:∀{P:ae} {vs:ax} {i:Nat} {m:Str->Option Aa},P.Nodup->P[i]? = some x->vs[i]? = some v->kindOf x≠some .local->
  bindC kindOf (P.zip vs) m x=some v
 |[],_,_,_,_,h,_,_=>by simp at h
 |_::_,[],_,_,_,_,h,_=>by simp at h
 |p::P,w::vs,0,m,nd,h1,h2,hk=>by
  simp at h1 h2;subst h1;subst h2;show bindC kindOf ((p,w)::P.zip vs) m p=_;unfold bindC;rw[eo_ λv hv=>(Bz.mp nd).1 (List.of_mem_zip hv).1,ao hk];simp
 |p::P,w::vs,i+1,m,nd,h1,h2,hk=>by
  show bindC kindOf ((p,w)::P.zip vs) m x=_;unfold bindC;exact eV_ (i:=i) (Bz.mp nd).2 (by simpa using h1) (by simpa using h2) hk
def start(N:ae)(vs:ag):St:=vs.map some++List.replicate (N.length - vs.length) none
def xc(CX:Fv)(P:Ad)(w:Af)(K:af)(mg:Str->Option Aa)(base:Heap)(N:ae)(qual:Str)(scope:Scope)(f:Addr)(cd:Aa)(A:Ag)(outer:List Env)(s:Ab)(H:Hp)(E:XK):Cx where
 prog:=P
 w:=w
 K:=K
 mg:=mg
 base:=base
 A:=A.deeper (envOfC qual scope s.heap.objs.size f cd)
 N:=N
 dg:=s
 xy:=H
 env:=envOfC qual scope s.heap.objs.size f cd
 outer:=outer
 stack:=envOfC qual scope s.heap.objs.size f cd::outer
 ex:=[]
 calm:=true
 fn:=λ_=>true
 pn:=[]
 xe:=λe s'=>wpAny (model P w) (A.deeper (envOfC qual scope s.heap.objs.size f cd)) (leaving (envOfC qual scope s.heap.objs.size f cd) e) (λ_ BE=>CX outer H s E e BE) (λe' BE=>CX outer H s E e' BE) s'
theorem fB_{sc:Scope}(h:sc.names.lookup x=some .cell):∃c,(cellsFrom n sc.names []).lookup x=some c:=by
 let q:=PySem.W.cellsFrom_some sc.names n [] (.inl h);exact Ma.mp q
variable{N:ae}{qual:Str}{scope:Scope}
theorem il_{cd:Aa}{s s1:Ab}{us:ax}(S:bD N ps scope)(hd:A.handled=none)(e0:i5 P w K mg base A outer s H)(hl:vs.length=ps.length)(r:Vals vs us)(x:InCallC s s.heap.objs.size (bindL (envOfC qual scope s.heap.objs.size f cd).kindOf (ps.zip us) λ_=>none) (cellsFrom (s.heap.objs.size+1) scope.names []) (bindC (envOfC qual scope s.heap.objs.size f cd).kindOf (ps.zip us) λ_=>none) s1) :
  Inv (xc CX P w K mg base N qual scope f cd A outer s H E) [] (start N vs) H s1:=by
 have xO:ps.length<=N.length:=by have:=dU List.length S.pre;rw[cQ] at this;omega
 let#[h1,tk,rfl,hk]:=x.done;have F2:∀b:Addr,b∉(xc CX P w K mg base N qual scope f cd A outer s H E).ex:=λb z=>absurd (show b∈([]:ay) from z) Z2
 apply#[#[e0.mod,S.kind,Z,Z,bo _,λy z c h1 h2=>?_,λy hy=>?_,λy c _ h=>?_,λ_=>hd,Around.frames_deeper e0.frames,.inr #[Z,Z],λb z=>absurd z (F2 b),e0.bs,e0.Eh,λb _ _=>F2 b,λb z=>absurd z (F2 b),e0.gc,e0.Gm],
  rfl,e0.bare,Un.kept hk,#[_,x.toInCall.ns,λi y v h1 h2 h3=>?_],λy c h=>#[_,x.cell y c h],e0.aO.fresh (bo _),λy c h=>?_,λp hp=>absurd (show p∈([]:List (Addr × Obj)) from hp) Z2,e0.aO.kept hk,?_]
 ·exact name_of_addr x.apart (Bx h1) (Bx h2)
 ·have hy:scope.names.lookup y=some .cell∨scope.names.lookup y=some .free:=hy;rcases hy with hy|hy
  ·exact fB_ hy
  ·exact absurd Z (S.JC _ (Bx hy))
 ·exact Nat.le_of_lt (x.above y c (Bx h))
 ·have hi:i<vs.length:=by
   unfold start at h2;by_cases hi:i<vs.length
   ·exact hi
   ·rw[IC (by simpa using hi)] at h2;rw[List.getElem?_replicate] at h2;split at h2<;>cases h2
  have ha:vs[i]? = some v:=by
   unfold start at h2;rw[K1 (by simpa using hi),dQ] at h2;cases e:vs[i]? with
   |none=>rw[e] at h2;cases h2
   |some a=>rw[e] at h2;cases h2;rfl
  let#[u,hu,rv]:=r.get ha
  have hp:ps[i]? = some y:=by
   rw[<- S.pre,List.getElem?_take_of_lt Z1];exact h1
  have QI:ps.Nodup:=by rw[<- S.pre];exact S.nd.sublist (List.take_sublist _ _)
  apply#[u,rv,?_];rcases S.par y (cu hp) with k|k
  ·exact .inl #[k,eA_ QI hp hu k]
  ·let#[c,e]:=fB_ (n:=s.heap.objs.size+1) k;apply .inr #[.inl k,c,e,?_];let q:=x.cell y c e;rw[eV_ QI hp hu (by show scope.names.lookup y≠_;rw[k];decide)] at q;exact q
 ·exact e0.aO.fresh (Nat.le_of_lt (x.above y c (Bx h)))
 ·unfold start;show _=N.length;rw[dY,ak,Fn];omega
theorem ZX{name:Str}{params:Arguments}{dV kV doc pm aR ct oc:Aa}{an od:Option Addr}{xJ:Array (Option Aa)}(lk:K.lookup f=some #[oc,od,.func (PySem.W.fnOf name qual params body scope dV kV doc pm an aR ct),xJ])(hE:PySem.W.codeIn K aR qual=true)(S:bD N ps scope)(len:∀vs H Q E,sp vs H Q E->vs.length=ps.length)(f_:∀(A:Ag) (outer:List Env) (s:Ab) (H:Hp) (vs:ag) (Q:VK) (E:XK),aY k (A.deeper (envOfC qual scope s.heap.objs.size f aR))->sp vs H Q E->
   ∃t,yf (xc CX P w K mg base N qual scope f aR A outer s H E) body t/\t { nx:=λ_ H'=>Q .non H',rt:=Q } (start N vs) H) :
  aj P w K mg base CX (k+1) f (PySem.W.fnOf name qual params body scope dV kV doc pm an aR ct) ps sp:=by
 apply#[len,λA outer s H args us vs Q E hr e0 hb r xM=>?_];let hl:=len _ _ _ _ xM;have KX:K.In s.heap:=e0.mod.NK.keeps λb o e=>(e0.bs b o e).1;have lim:s.heap.NoLimit:=e0.mod.nolimit.keeps λb o e=>(e0.bs b o e).1
 have Ox:∀y∈ps.zip us,scope.names.lookup y.1=some .local∨(scope.names.lookup y.1=some .cell/\((cellsFrom (s.heap.objs.size+1) scope.names []).lookup y.1).isSome=true):=λ⟨n,v⟩ hy=>by
  rcases S.par n (List.of_mem_zip hy).1 with q|q
  ·exact .inl q
  ·exact .inr #[q,PySem.W.cellsFrom_some _ _ _ (.inl q)]
 apply codeAny_call_function hr.depth (KX _ _ lk) Z S.co S.gen Z (PySem.W.codeRec_of KX hE) (hb _ _ _ _ ?_);apply wpAny_newFunctionEnv_cells S.kind Ox λenv he s1 x=>?_;subst he;apply#[lim.keeps x.toInCall.keep,codeAny_func ?_];let#[t,ht,hq]:=f_ A outer s H vs Q E (hr.deeper _) xM;have I:Inv (xc CX P w K mg base N qual scope f aR A outer s H E) [] (start N vs) H s1:=il_ S hr.hd e0 hl r x;apply wpAny_mono (ht [] s1 (start N vs) H _ I hq) (λfl s' hs=>?_) λe s' hs=>hs
 have fin:∀{bq:St} {H':Hp} {v:V} {u:Aa},Inv (xc CX P w K mg base N qual scope f aR A outer s H E) [] bq H' s'->RelV v u->Q v H'->CE outer P w H s Q u s':=
  λ{bq H' v u} J rv q=>#[v,H',J.os,J.bare,J.base,J.aO,rv,q]
 cases fl with
 |ret u=>
  let#[v,bq,H',J,rv,q]:=hs;exact fin J rv q
 |next=>
  let#[bq,H',J,q]:=hs;exact fin (v:=V.non) (u:=Value.none) J Z q
 |brk=>
  let#[_,_,_,q]:=hs;exact False.elim q
 |cont=>
  let#[_,_,_,q]:=hs;exact False.elim q
def Zh(r:ag->Hp->VK->Prop)(t:TA):TE:=λσ H Q=>t σ H λvs H1=>r vs H1 Q
variable{r:ag->Hp->VK->Prop}{id:String}
theorem cy(hc:gJ X (.builtin id) r)(hg:Gl X x)(hm:X.mg x=none)(hv:bootBuiltins x=some (.builtin id))(ha:PA X (e::es) t)(hn:x≠"__name__":=by decide)(zh:(x == ("__debug__":Str))=false:=by decide)
  (he:starEach (e::es) X.env=(false,eval e X.env)::starEach es X.env:=by rfl) (xO:(backTo pos (starEach es X.env)).any (·.1)=false:=by rfl):PE X (.Call (.Name x p) (e::es) [] pos) (Zh r t):=by
 intro pins s σ H Q I h;apply wpAny_Call_Name_kw (LM I hg hm hv ?_ hn zh);exact PyProof.Rows.callWith_builtin1 (aZ (ha pos pins s σ H _ I h) λus s1 ⟨vs,H1,I1,r1,q1⟩=>hc pins s1 σ H1 vs us Q I1 r1 q1) he xO
variable{T:String}
theorem qe(hc:gJ X (.type T) r)(hg:Gl X x)(hm:X.mg x=none)(hv:bootBuiltins x=some (.type T))(ha:PA X (e::es) t)(hn:x≠"__name__":=by decide)(zh:(x == ("__debug__":Str))=false:=by decide)
  (he:starEach (e::es) X.env=(false,eval e X.env)::starEach es X.env:=by rfl) (xO:(backTo pos (starEach es X.env)).any (·.1)=false:=by rfl):PE X (.Call (.Name x p) (e::es) [] pos) (Zh r t):=by
 intro pins s σ H Q I h;apply wpAny_Call_Name_kw (LM I hg hm hv ?_ hn zh);exact PyProof.Rows.callWith_type1 (aZ (ha pos pins s σ H _ I h) λus s1 ⟨vs,H1,I1,r1,q1⟩=>hc pins s1 σ H1 vs us Q I1 r1 q1) he xO
end L2
local macro_rules|`(!$f:ident $a*)=>if [`bt,`zJ,`bB,`aj,`jh].contains f.getId then let i:=Lean.mkIdent;`($f $(i `P) $(i `w) $(i `K) $(i `mg) $(i `base) $a*)else Lean.Macro.throwUnsupported
namespace HT
open PySem PyProof.Rows
section
open PySem.SeqAt
open PySem.AutoSeq1 (wpAny_loadPart')
open PySem.MeetsSeq PySem.MeetsSeq2 PySem.MeetsSeq3
end
def wL(n d:Nat):Option Int->Nat
 |none=>d
 |some v=>if v<0 then (v+(n:Int)).toNat else min v.toNat n
theorem wK(n d:Nat):wL n d none=d:=rfl
theorem Am(n d k:Nat):wL n d (some (k:Int))=min k n:=by
 show (if (k:Int)<0 then ((k:Int)+(n:Int)).toNat else min (k:Int).toNat n)=min k n;rw[ao Z1,Io]
end HT
namespace L2
open PySem PySem.Spec PyProof.Rows
abbrev TO:=St->Hp->(Option Int->Hp->Prop)->Prop
def PO(X:Cx)(e:Option Expr)(t:TO):Prop:=
 ∀(pins:List (Addr × Obj)) (s:Ab) (σ:St) (H:Hp) (Q:Option Int->Hp->Prop),Inv X pins σ H s->t σ H Q->
  wpAny (model X.prog X.w) X.A (evalPart e X.env) (λu s'=>∃o H',Inv X pins σ H' s'/\IsPart u o/\Q o H') X.xe s
def FF:TO:=λ_ H Q=>Q none H
inductive Cj (Q:Option Int->Hp->Prop) (x:V) (H1:Hp):Prop
 |mk:∀i,x=.int i->Q (some i) H1->Cj Q x H1
def Mz(t:TE):TO:=λσ H Q=>t σ H λx H1=>Cj Q x H1
section
variable{X:Cx}{e:Expr}{te:TE}{lo hi:Option Expr}{tl th:TO}{pos p2:Pos}
theorem Iq:PO X none FF:=by
 intro pins s σ H Q I h;rw[evalPart_none];exact bR #[none,H,I,.none,h]
theorem Iu(h:PE X e te):PO X (some e) (Mz te):=by
 intro pins s σ H Q I hw;rw[evalPart_some];apply aZ (h pins s σ H _ I hw) λu s1 ⟨x,H1,I1,r1,q1⟩=>?_;let#[i,rfl,q]:=q1;let#[t,rfl]:=r1;exact#[some i,H1,I1,.int i t,q]
def Y0(X:Cx)(r:V->Option Int->Option Int->Hp->VK->Prop):Prop:=
 ∀(pins:List (Addr × Obj)) (s:Ab) (σ:St) (H:Hp) (x:V) (v vl vu:Aa) (lo hi:Option Int) (sl:Addr) (Q:VK),Inv X pins σ H s->RelV x v->s.heap.IsSliceOf sl vl vu .none->IsPart vl lo->IsPart vu hi->r x lo hi H Q->
  ∃T id,typeLookup (.type T) "__getitem__"=pure (some (.builtin id))/\s.TypeIs v T/\wpAny (model X.prog X.w) X.A (getItem v (.ref sl)) (EP X pins σ Q) X.xe s
def tSl(r:V->Option Int->Option Int->Hp->VK->Prop)(te:TE)(tl th:TO):TE:=λσ H Q=>te σ H λx H1=>tl σ H1 λl H2=>th σ H2 λu H3=>r x l u H3 Q
theorem Ik{r:V->Option Int->Option Int->Hp->VK->Prop}(hr:Y0 X r)(he:PE X e te)(hl:PO X lo tl)(hu:PO X hi th):PE X (.Subscript e (.Slice lo hi none p2) pos) (tSl r te tl th):=by
 intro pins s σ H Q I h;apply Subscript_ (aZ (he pins s σ H _ I h) λv s1 ⟨x,H1,I1,r1,q1⟩=>?_);apply wpAny_Slice (aZ (hl pins s1 σ H1 _ I1 q1) λvl s2 ⟨l,H2,I2,pl,q2⟩=>aZ (hu pins s2 σ H2 _ I2 q2) λvu s3 ⟨u,H3,I3,pu,q3⟩=>?_);rw[evalPart_none];apply bR ?_;have I4:Inv X pins σ H3 { s3 with heap:=s3.heap.push { cls:=.type "slice",data:=.fields (List.toArray [vl,vu,.none]) } }:=I3.kept (t':=s3.toks) λb ob q=>cO _ q;let#[T,id,hT,ht,hg]:=hr pins { s3 with heap:=s3.heap.push { cls:=.type "slice",data:=.fields (List.toArray [vl,vu,.none]) } } σ H3 x v vl vu l u s3.heap.objs.size Q I4 r1 (Heap.IsSliceOf.new ..) pl pu q3;show wpAny (model X.prog X.w) X.A (subscriptTail e (.Slice lo hi none p2) v (.ref s3.heap.objs.size)) (EP X pins σ Q) X.xe { s3 with heap:=s3.heap.push { cls:=.type "slice",data:=.fields (List.toArray [vl,vu,.none]) } };exact tail_any (ops:=[.ref s3.heap.objs.size,v]) ht hT hg (by with_unfolding_all rfl)
def hJ(xs:ag)(lo hi:Option Int):ag:=(xs.drop (HT.wL xs.length 0 lo)).take (HT.wL xs.length xs.length hi - HT.wL xs.length 0 lo)
theorem fa_(xs:ag)(lo hi:Option Int):(hJ xs lo hi).length<=xs.length:=by
 unfold hJ;rw[cQ,List.length_drop];omega
end
def Ht(n:Nat)(i:Int):Option Nat:=if 0<=i then (if i<n then some i.toNat else none) else if -(n:Int)<=i then some (i+n).toNat else none
def gY{α:Type}(xs:List α)(i:Int):Option α:=(Ht xs.length i).bind λj=>xs[j]?
variable{j n:Nat}
theorem hK_{i:Int}(h:Ht n i=some j):seqIndex? i n=some j/\j<n/\-(n:Int)<=i/\i<n:=by
 unfold Ht at h;by_cases h0:0<=i
 ·rw[aA h0] at h;by_cases h1:i<n
  ·rw[aA h1] at h;have e:i.toNat=j:=ee h;exact#[by rw[seqIndex_of h0 h1,e],by omega,by omega,h1]
  ·rw[ao h1] at h;cases h
 ·rw[ao h0] at h;by_cases h1:-(n:Int)<=i
  ·rw[aA h1] at h;have e:(i+n).toNat=j:=ee h;exact#[by rw[seqIndex_neg Z1 h1,e],by omega,h1,by omega]
  ·rw[ao h1] at h;cases h
theorem VP{α:Type}{xs:List α}{i:Int}{v:α}(h:gY xs i=some v):∃j,seqIndex? i xs.length=some j/\xs[j]? = some v/\j<xs.length/\-(xs.length:Int)<=i/\i<xs.length:=by
 unfold gY at h;cases e:Ht xs.length i with
 |none=>rw[e] at h;cases h
 |some j=>
  rw[e] at h;let#[h1,h2,h3,h4]:=hK_ e;exact#[j,h1,h,h2,h3,h4]
theorem iL{α:Type}{xs:List α}{v:α}(h:xs[j]? = some v):gY xs (j:Int)=some v:=by
 have hj:j<xs.length:=(cc.mp h).1
 have e:Ht xs.length (j:Int)=some j:=by
  unfold Ht;rw[aA Z1,aA Z1];simp
 unfold gY;rw[e];exact h
def GR(b:Expr):Prop:=∀o i,subscripted b false o i=operate [o,i] (getItem o i)
def Mf(X:Cx)(r:R2):Prop:=
 ∀(value slice:Expr) (pins:List (Addr × Obj)) (s:Ab) (σ:St) (H:Hp) (x y:V) (v u:Aa) (Q:VK),Inv X pins σ H s->RelV x v->RelV y u->r x y H Q->
  subscripted slice false v u=operate [v,u] (getItem v u)->wpAny (model X.prog X.w) X.A (subscriptTail value slice v u) (EP X pins σ Q) X.xe s
def MtR(X:Cx)(id:String)(r:V->ag->Hp->VK->Prop):Prop:=
 ∀(pins:List (Addr × Obj)) (s:Ab) (σ:St) (H:Hp) (x:V) (xs:ag) (v:Aa) (us:ax) (Q:VK),Inv X pins σ H s->RelV x v->Vals xs us->r x xs H Q->
  wpAny (model X.prog X.w) X.A (call (.builtin id) (v::us)) (EP X pins σ Q) X.xe s
variable{pins:List (Addr × Obj)}{σ:St}{s:Ab}{its its':ax}
variable{A:Ag}{u:Aa}
variable{T:String}
section
variable{X:Cx}{a b:Expr}{ta tb:TE}{pos:Pos}
theorem bO{r:R2}(hr:Mf X r)(ha:PE X a ta)(hb:PE X b tb)(hs:GR b:=by exact λ_ _=>rfl):PE X (.Subscript a b pos) (Qn r ta tb):=by
 intro pins s σ H Q I h;exact Subscript_ (KQ ha hb I h λv u s2 x y H2 I2 rx ry q=>hr a b pins s2 σ H2 x y v u Q I2 rx ry q (hs _ _))
inductive Jx (K:af) (x:V) (y:V) (H:Hp) (Q:VK):Prop
 |mk:∀p xs i v,x=.ref p->y=.int i->d9 K H p xs->gY xs i=some v->Q v H->Jx K x y H Q
inductive wO (K:af) (x:V) (y:V) (H:Hp) (Q:VK):Prop
 |mk:∀p xs i v,x=.ref p->y=.int i->iI K H p xs->gY xs i=some v->Q v H->wO K x y H Q
inductive M6 (x:V) (y:V) (H:Hp) (Q:VK):Prop
 |mk:∀z i c,x=.str z->y=.int i->z.length<=sizeLine->gY z.cps.toList i=some c->Q (.str ⟨(List.toArray [c])⟩) H->M6 x y H Q
theorem gg:Mf X (Jx X.K):=by
 intro value slice pins s σ H x y v u Q I rx ry h hs;let#[p,xs,i,z,rfl,rfl,hq,he,q]:=h;cases rx;let#[t,rfl]:=ry;let#[its,r,pl,hz]:=I.list hq;let#[j,h1,h2,h3,h4,h5]:=VP he;let#[w,ew,pK]:=r.get h2;let hl:=r.length;let hn:=gF;have fin:EP X pins σ Q w s:=⟨z,H,I,pK,q⟩;by_cases h0:0<=i
 ·have hj:i.toNat=j:=by
   rw[seqIndex_of h0 h5] at h1;exact ee h1
  exact item_listR pl.isList h0 Z1 (by rw[hj];simpa using ew) fin hs
 ·have hj:(i+(its.toArray.size:Int)).toNat=j:=by
   rw[seqIndex_neg Z1 h4] at h1;rw[dD,<- hl];exact ee h1
  exact subscriptTail_builtinR (x:=w) pl.isList.typeIs slot_list_getitem.lookup
   (wpAny_getItem_list_neg (Q:=λr s'=>r=w/\EP X pins σ Q r s') pl.isList Z1 (by rw[dD]<;>omega) Z1 (by rw[hj];simpa using ew) ⟨rfl,fin⟩) hs
theorem eJ:Mf X (wO X.K):=by
 intro value slice pins s σ H x y v u Q I rx ry h hs;let#[p,xs,i,z,rfl,rfl,hq,he,q]:=h;cases rx;let#[t,rfl]:=ry;let#[its,r,pl,hz]:=I.tuple hq;let#[j,h1,h2,h3,h4,h5]:=VP he;let#[w,ew,pK]:=r.get h2;let hl:=r.length;let hn:=gF;have fin:EP X pins σ Q w s:=⟨z,H,I,pK,q⟩
 exact subscriptTail_builtinR (x:=w) pl.typeIs slot_tuple_getitem.lookup
  (getItem_tuple (j:=j) (Q:=λr s'=>r=w/\EP X pins σ Q r s') pl Z1 Z1 (by rw[dD,<- hl];exact h1) (by simpa using ew) ⟨rfl,fin⟩) hs
theorem _q:Mf X M6:=by
 intro value slice pins s σ H x y v u Q I rx ry h hs;let#[z,i,c,rfl,rfl,hz,he,q]:=h;let#[t,rfl]:=rx;let#[t',rfl]:=ry;let#[j,h1,h2,h3,h4,h5]:=VP he;have hl:z.cps.toList.length=z.length:=by simp[Str.length]
 rw[hl] at h1 h4 h5;let hn:=gF
 exact tail_any (typeIs_str s z t) slot_str_getitem.lookup (getItem_str (c:=c) (by
  have e1:decide (i < -(2 ^ 63:Int))=false:=dR Z1;have e2:decide (i ≥ 2 ^ 63)=false:=dR Z1;rw[e1,e2,Bool.or_false]) (by rw[h1];simpa using h2) ⟨.str ⟨(List.toArray [c])⟩,H,I.tok _,⟨_,rfl⟩,q⟩) hs
theorem gH_(its:ax)(n j:Nat)(u:Aa):Obj.mapSeq (·.setIfInBounds j u) { cls:=.type "list",data:=.seq its.toArray n }={ cls:=.type "list",data:=.seq (its.set j u).toArray n }:=by
 simp[Obj.mapSeq]
theorem Inv.lst{pins:List (Addr × Obj)}{σ:St}{H:Hp}{s:Ab}{p:Addr}{xs:ag}(I:Inv X pins σ H s)(h:H p=some (.lst xs)) :
  ∃(its:ax) (n:Nat),Vals xs its/\s.heap.get? p=some { cls:=.type "list",data:=.seq its.toArray n }/\xs.length<=sizeLine:=by
 let#[z,its,n,r,e]:=I.aO p _ h;exact⟨its,n,r,e,z⟩
theorem Inv.JG{H:Hp}{p:Addr}{xs ys:ag}{n':Nat}{f:Obj->Obj}(I:Inv X pins σ H s)(h:H p=some (.lst xs))(ho:s.heap.get? p=some { cls:=.type "list",data:=.seq its.toArray n })(hf:f { cls:=.type "list",data:=.seq its.toArray n }={ cls:=.type "list",data:=.seq its'.toArray n' })(r:Vals ys its')(hz:ys.length<=sizeLine)(t:Nat) :
  Inv X pins σ (upd H p (.lst ys)) { s with heap:=s.heap.update p f,toks:=t }:=by
 have e:(s.heap.update p f).get? p=some { cls:=.type "list",data:=.seq its'.toArray n' }:=by
  rw[Heap.get?_update_self f ho (by rw[hf]<;>rfl),hf]
 apply I.write (x:=p) (e:=p) (by rw[h];trivial) (.inl rfl) (λb u hb q=>(E5 _ _ (Ne.symm hb)).trans q) ⟨_,e⟩ ?_;exact⟨hz,its',n',r,e⟩
inductive Hh (o:V) (i:V) (v:V) (H:Hp) (Q:Hp->Prop):Prop
 |mk:∀p xs k j,o=.ref p->i=.int k->H p=some (.lst xs)->Ht xs.length k=some j->Q (upd H p (.lst (xs.set j v)))->Hh o i v H Q
theorem fA_:Qd X Hh:=by
 intro pins s σ H o i v ov iv u Q I ro ri rv h;let#[p,xs,k,j,rfl,rfl,hp,hj,q]:=h;cases ro;let#[t,rfl]:=ri;let#[its,n,r,ho,hz]:=I.lst hp;let#[h1,h2,h3,h4]:=hK_ hj;let hl:=r.length;let hn:=gF
 have I':Inv X pins σ (upd H p (.lst (xs.set j v))) { s with heap:=s.heap.update p (Obj.mapSeq (·.setIfInBounds j u)) }:=
  I.JG hp ho (gH_ its n j u) (r.set rv j) (by rw[List.length_set];exact hz) s.toks
 by_cases h0:0<=k
 ·have hk:k.toNat=j:=by
   rw[seqIndex_of h0 h4] at h1;exact ee h1
  exact PySem.W.ki_setAt ho h0 Z1 (by rw[dD,<- hl];exact h4) (by rw[hk];exact⟨_,I',q⟩)
 ·have hk:(k+(its.toArray.size:Int)).toNat=j:=by
   rw[seqIndex_neg Z1 h3] at h1;rw[dD,<- hl];exact ee h1
  exact PySem.W.ki_setBack ho Z1 (by rw[dD,<- hl];exact h3) Z1 (by rw[hk];exact⟨_,I',q⟩)
theorem eJ_(lo hi:Option Int)(n:Nat):(sliceBounds lo hi none n).1=((HT.wL n 0 lo:Nat):Int)/\(sliceBounds lo hi none n).2.1=((HT.wL n n hi:Nat):Int)/\(sliceBounds lo hi none n).2.2=1:=by
 apply⟨?_,?_,rfl⟩
 ·cases lo with
  |none=>simp[sliceBounds,HT.wL]
  |some i=>
   simp only[sliceBounds,HT.wL,Option.getD_none,show (1:Int) > 0 by decide,if_true];by_cases h:i<0
   ·simp only[h,if_true]<;>omega
   ·simp only[h,if_false]<;>omega
 ·cases hi with
  |none=>simp[sliceBounds,HT.wL]
  |some i=>
   simp only[sliceBounds,HT.wL,Option.getD_none,show (1:Int) > 0 by decide,if_true];by_cases h:i<0
   ·simp only[h,if_true]<;>omega
   ·simp only[h,if_false]<;>omega
theorem ee_(its:ax)(lo hi:Option Int):slicePick its.toArray lo hi none=((its.drop (HT.wL its.length 0 lo)).take (HT.wL its.length its.length hi - HT.wL its.length 0 lo)).toArray:=by
 let#[h1,h2,h3]:=eJ_ lo hi its.toArray.size;unfold slicePick;rw[h1,h2,h3];simp only[sliceRange_one,pick_run,dD]<;>rfl
inductive M0 (K:af) (x:V) (lo:Option Int) (hi:Option Int) (H:Hp) (Q:VK):Prop
 |mk:∀a xs,x=.ref a->d9 K H a xs->(∀p,H p=none->Q (.ref p) (upd H p (.lst (hJ xs lo hi))))->M0 K x lo hi H Q
theorem Pt:Y0 X (M0 X.K):=by
 intro pins s σ H x v vl vu lo hi sl Q I rx hs pl pu h;let#[a,xs,rfl,hx,q]:=h;cases rx;let#[its,r,ht,hz]:=I.list hx;let hlen:=r.length;apply⟨"list",_,slot_list_getitem.lookup,ht.isList.typeIs,?_⟩;apply wpAny_getItem_list_slice ht.isList hs pl pu .none Z2 ?_ (by rw[dD]<;>omega)
 rw[ee_,<- hlen];apply⟨.ref s.heap.objs.size,_,I.laid (t':=s.toks) (o:=.lst (hJ xs lo hi)) (λb ob q=>cO _ q) (bo _) ?_,rfl,q _ (I.aO.fresh (bo _))⟩;exact⟨AR (fa_ xs lo hi) hz,_,0,(r.drop (HT.wL xs.length 0 lo)).take (HT.wL xs.length xs.length hi - HT.wL xs.length 0 lo),e_ _ rfl⟩
def AM:V->Bool
 |.non=>true
 |.bl _=>true
 |.int _=>true
 |.str _=>true
 |_=>false
def pW:V->V->Bool
 |.non,.non=>true
 |.bl a,.bl b=>a == b
 |.bl a,.int b=>(if a then 1 else 0) == b
 |.int a,.bl b=>a == (if b then 1 else 0)
 |.int a,.int b=>a == b
 |.str a,.str b=>a == b
 |_,_=>false
theorem U7{y x:V}{v:Aa}(ry:RelV y u)(rx:RelV x v)(fy:AM y=true)(fx:AM x=true):SeqAt.EqAt A s u v (pW y x):=by
 cases y with
 |non=>
  cases ry;cases x with
  |non=>cases rx;exact SeqAt.EqAt.same _
  |bl b=>cases rx;exact SeqAt.EqAt.none_bool b
  |int b=>let#[t,rfl]:=rx;exact SeqAt.EqAt.none_int b t
  |str b=>let#[t,rfl]:=rx;exact SeqAt.EqAt.none_str b t
  |_=>exact absurd (show false=true from fx) gM
 |bl a=>
  cases ry;cases x with
  |non=>cases rx;exact SeqAt.EqAt.bool_none a
  |bl b=>cases rx;exact SeqAt.EqAt.bool_bool a b
  |int b=>let#[t,rfl]:=rx;exact SeqAt.EqAt.bool_int a b t
  |str b=>let#[t,rfl]:=rx;exact SeqAt.EqAt.bool_str a b t
  |_=>exact absurd (show false=true from fx) gM
 |int a=>
  let#[t',rfl]:=ry;cases x with
  |non=>cases rx;exact SeqAt.EqAt.int_none a t'
  |bl b=>cases rx;exact SeqAt.EqAt.int_bool a t' b
  |int b=>let#[t,rfl]:=rx;exact SeqAt.EqAt.int_int a t' b t
  |str b=>let#[t,rfl]:=rx;exact SeqAt.EqAt.int_str a t' b t
  |_=>exact absurd (show false=true from fx) gM
 |str a=>
  let#[t',rfl]:=ry;cases x with
  |non=>cases rx;exact SeqAt.EqAt.str_none a t'
  |bl b=>cases rx;exact SeqAt.EqAt.str_bool a t' b
  |int b=>let#[t,rfl]:=rx;exact SeqAt.EqAt.str_int a t' b t
  |str b=>let#[t,rfl]:=rx;exact SeqAt.EqAt.str_str a t' b t
  |_=>exact absurd (show false=true from fx) gM
 |_=>exact absurd (show false=true from fy) gM
def xQ(x:V)(u:Aa):Bool:=match u with
 |.none=>pW .non x
 |.bool b=>pW (.bl b) x
 |.int i _=>pW (.int i) x
 |.str z _=>pW (.str z) x
 |_=>false
theorem UN{x y:V}(r:RelV y u)(f:AM y=true):xQ x u=pW y x:=by
 cases y with
 |non=>cases r;rfl
 |bl b=>cases r;rfl
 |int i=>let#[t,rfl]:=r;rfl
 |str z=>let#[t,rfl]:=r;rfl
 |_=>exact absurd (show false=true from f) gM
theorem VU{x:V}:∀{xs:ag} {us:ax},Vals xs us->xs.all AM=true->us.any (xQ x)=xs.any λy=>pW y x
 |_,_,.nil,_=>rfl
 |y::xs,u::us,.cons r t,f=>by
  rw[List.all_cons,Ft] at f;rw[List.any_cons,List.any_cons,UN r f.1,VU t f.2]
theorem PB{A:Ag}{s:Ab}{x:V}{v:Aa}(rx:RelV x v)(fx:AM x=true):∀{xs:ag} {us:ax},Vals xs us->xs.all AM=true->∀u∈us,SeqAt.EqAt A s u v (xQ x u)
 |_,_,.nil,_=>λu hu=>by cases hu
 |y::xs,u::us,.cons r t,f=>λu' hu=>by
  rw[List.all_cons,Ft] at f;rcases bW.mp hu with rfl|hu
  ·rw[UN r f.1];exact U7 r rx f.1 fx
  ·exact PB rx fx t f.2 u' hu
def Ll(x:V)(xs:ag):Bool:=xs.any λy=>pW y x
inductive La (K:af) (neg:Bool) (x:V) (y:V) (H:Hp) (Q:VK):Prop
 |mk:∀p xs,y=.ref p->(d9 K H p xs∨iI K H p xs)->AM x=true->xs.all AM=true->Q (.bl (if neg then !Ll x xs else Ll x xs)) H->La K neg x y H Q
theorem RQ:eG X (compareOp .In) (La X.K false):=by
 intro pins s σ H x y v u Q I rx ry h;let#[p,xs,rfl,hq,fx,fs,q]:=h;cases ry;rcases hq with hq|hq
 ·let#[its,r,pl,hz]:=I.list hq;apply SeqAt.in_listAt (xQ x) pl.isList (λw hw=>PB rx fx r fs w (by simpa using hw)) ⟨.bl _,H,I,rfl,?_⟩;rw[show its.toArray.any (xQ x)=its.any (xQ x) by simp,VU r fs];exact q
 ·let#[its,r,pl,hz]:=I.tuple hq;apply SeqAt.in_tupleAt (xQ x) pl (λw hw=>PB rx fx r fs w (by simpa using hw)) ⟨.bl _,H,I,rfl,?_⟩;rw[show its.toArray.any (xQ x)=its.any (xQ x) by simp,VU r fs];exact q
inductive YT (K:af) (xs:ag) (H:Hp) (Q:VK):Prop
 |mk:∀p ys,xs=[.ref p]->(d9 K H p ys∨iI K H p ys)->Q (.int ys.length) H->YT K xs H Q
theorem xo:gJ X (.builtin "len") (YT X.K):=by
 intro pins s σ H xs us Q I r h;let#[p,ys,rfl,hq,q]:=h;let#[u,rfl,rx]:=vals1 r;cases rx;let hn:=gF;rcases hq with hq|hq
 ·let#[its,r',pl,hz]:=I.list hq;let hlen:=r'.length;exact Calls.call_len_list pl.isList (by simp only[dD]<;>omega) ⟨.int ys.length,H,I.tok _,⟨s.toks+1,by rw[dD,hlen]⟩,q⟩
 ·let#[its,r',pl,hz]:=I.tuple hq;let hlen:=r'.length;exact len_tuple pl (by simp only[dD]<;>omega) ⟨.int ys.length,H,I.tok _,⟨s.toks+1,by rw[dD,hlen]⟩,q⟩
inductive cG' (xs:ag) (H:Hp) (Q:VK):Prop
 |mk:∀z,xs=[.str z]->z.length<=sizeLine->Q (.int z.length) H->cG' xs H Q
theorem cN_:gJ X (.builtin "len") cG':=by
 intro pins s σ H xs us Q I r h;let#[z,rfl,hz,q]:=h;let#[u,rfl,t,rfl]:=vals1 r;let hn:=gF;exact len_str Z1 ⟨.int z.length,H,I.tok _,⟨_,rfl⟩,q⟩
inductive cy' (K:af) (xs:ag) (H:Hp) (Q:VK):Prop
 |mk:∀p ys,xs=[.ref p]->(d9 K H p ys∨iI K H p ys)->(∀l,H l=none->Q (.ref l) (upd H l (.lst ys)))->cy' K xs H Q
theorem eK_:gJ X (.type "list") (cy' X.K):=by
 intro pins s σ H xs us Q I r h;let#[p,ys,rfl,hq,q]:=h;let#[u,rfl,rx]:=vals1 r;cases rx
 have fin:∀(its:ax),Vals ys its->ys.length<=sizeLine->∀(h':Heap) (c':Nat),(∀b o',s.heap.get? b=some o'->h'.get? b=some o')->
   h'.get? s.heap.objs.size=some { cls:=.type "list",dict:=none,data:=.seq its.toArray c',slots:=#[] }->EP X pins σ Q (.ref s.heap.objs.size) { s with heap:=h' }:=λits r' hz h' c' kp e=>
  #[.ref s.heap.objs.size,_,I.laid (t':=s.toks) kp (bo _) (show fV X.prog X.w _ h' _ (.lst ys) from #[hz,its,c',r',e]),Z,q _ (I.aO.fresh (bo _))]
 rcases hq with hq|hq
 ·let#[its,r',pl,hz]:=I.list hq;let hlen:=r'.length;let#[o,ho,hc,n,hd]:=pl.isList;exact call_list_seq p (.inl Z) ho hc hd (λh' c' kp e=>fin its r' hz h' c' kp e) (by simp only[dD]<;>omega)
 ·let#[its,r',pl,hz]:=I.tuple hq;let hlen:=r'.length;let#[o,ho,hc,n,hd]:=pl;exact call_list_seq p (.inr Z) ho hc hd (λh' c' kp e=>fin its r' hz h' c' kp e) (by simp only[dD]<;>omega)
def Za(K:af)(T:String)(x:V)(H:Hp):Prop:=match x with
 |.str _=>T="str"
 |.int _=>T="int"
 |.ref p=>(T="list"/\∃xs,d9 K H p xs)∨(T="tuple"/\∃o,K.lookup p=some o/\o.cls=.type "tuple"/\o.dict=none) ∨
   (T="dict"/\((∃kvs,H p=some (.dK kvs))∨∃kvs,H p=some (.dT kvs)))∨(T="set"/\∃S n,H p=some (.set S n))
 |_=>False
theorem lw_{H:Hp}{x:V}{v:Aa}(I:Inv X pins σ H s)(r:RelV x v)(ty:Za X.K T x H) :
  s.TypeIs v T/\∀a,v=.ref a->∃ob,s.heap.get? a=some ob/\ob.dict=none:=by
 cases x with
 |str z=>
  let#[t,rfl]:=r;cases (show T="str" from ty);exact#[typeIs_str s z t,λ_ e=>nomatch e]
 |int i=>
  let#[t,rfl]:=r;cases (show T="int" from ty);exact#[typeIs_int s i t,λ_ e=>nomatch e]
 |ref p=>
  cases r;rcases ty with⟨rfl,xs,hq⟩|⟨rfl,o,hk,hc,hd⟩|⟨rfl,hk⟩|⟨rfl,S,n,hk⟩
  ·let#[its,_,pl,_]:=I.list hq;apply#[pl.isList.typeIs,λa e=>?_];cases e;let#[o,n,e,c,hd,_]:=pl;exact#[o,e,hd]
  ·apply#[#[o,I.gj p o hk,hc],λa e=>?_];cases e;exact#[o,I.gj _ o hk,hd]
  ·have z:∃o,s.heap.get? p=some o/\o.ExactDict:=by
    rcases hk with⟨kvs,hk⟩|⟨kvs,hk⟩
    ·let#[_,_,_,_,o,_,_,e,ex,_]:=I.aO p _ hk;exact#[o,e,ex]
    ·let#[_,_,_,_,o,_,_,e,ex,_]:=I.aO p _ hk;exact#[o,e,ex]
   let#[o,e,ex]:=z;apply#[#[o,e,ex.1],λa e2=>?_];cases e2;exact#[o,e,ex.2.1]
  ·let#[o,_,_,_,e,ex,_]:=I.aO p _ hk;apply#[#[o,e,ex.1],λa e2=>?_];cases e2;exact#[o,e,ex.2.1]
 |_=>exact False.elim ty
def tBM(K:af)(T:String)(r:V->ag->Hp->VK->Prop)(to:TE)(t:TA):TE:=λσ H Q=>to σ H λx H1=>Za K T x H1/\t σ H1 λxs H2=>r x xs H2 Q
variable{o e:Expr}{es:List Expr}{to:TE}{t:TA}{name:Str}{apos dB:Pos}{T id:String}{r:V->ag->Hp->VK->Prop}
theorem gI(pa:PlainAttrs T)(slot:Slot T name id)(hty:typeOf (.builtin id)=pure (.type "method_descriptor"))(hm:MtR X id r)(ho:PE X o to)(ha:PA X (e::es) t)
  (iC:attributeBase o name X.env (eval o X.env)=eval o X.env:=by rfl)
  (J3:((backTo dB (starEach (e::es) X.env)).all (λx=>!x.1)&&(backToKw dB (keywordEach [] X.env)).all (λx=>x.1.isSome)
   && decide ((e::es).length+([]:List Keyword).length+(if ([]:List Keyword).isEmpty then 0 else 1)<30))=true:=by rfl)
  (iA:(apos.endLine == dB.line)=true:=by rfl) (hs:starEach (e::es) X.env=(false,eval e X.env)::starEach es X.env:=by rfl) (JP:(backTo dB (starEach es X.env)).any (·.1)=false:=by rfl) :
  PE X (.Call (.Attribute o name apos) (e::es) [] dB) (tBM X.K T r to t):=by
 intro pins s σ H Q I h;apply wpAny_Call_method_late iC J3 iA Z (aZ (ho pins s σ H _ I h) λv s1 ⟨x,H1,I1,r1,ty,q1⟩=>?_);let#[h1,h2]:=lw_ I1 r1 ty;apply#[T,id,pa,slot,hty,h1,h2,?_];let hA:=ha dB pins s1 σ H1 _ I1 q1;rw[hs] at hA ⊢;apply Calls.callWith_builtin (by show (false || (backTo dB (starEach es X.env)).any (·.1))=false;rw[JP]<;>rfl) (Calls.evalArgs_plain ?_)
 exact aZ hA λus s2 ⟨vs,H2,I2,r2,q2⟩=>hm pins s2 σ H2 x vs v us Q I2 r1 r2 q2
end
def Me(X:Cx)(id:String)(r:V->ag->Hp->VK->Prop):Prop:=
 ∀(pins:List (Addr × Obj)) (s:Ab) (σ:St) (H:Hp) (x:V) (xs:ag) (v:Aa) (us:ax) (Q:VK),Inv X pins σ H s->RelV x v->Vals xs us->r x xs H Q->
  wpAny (model X.prog X.w) X.A (call (.builtin id) (v::us)) (EP X pins σ Q) X.xe s
theorem Vals.one:∀{x:V} {us:ax},Vals [x] us->∃u,us=[u]/\RelV x u
 |_,_,.cons r .nil=>#[_,Z,r]
theorem Vals.eraseIdx:∀{xs:ag} {us:ax} (i:Nat),Vals xs us->Vals (xs.eraseIdx i) (us.eraseIdx i)
 |_,_,_,.nil=>.nil
 |_,_,0,.cons _ t=>t
 |_,_,i+1,.cons r t=>.cons r (Vals.eraseIdx i t)
theorem Vals.rep{xs:ag}{us:ax}(h:Vals xs us):∀k:Nat,Vals (List.replicate k xs).flatten (List.replicate k us).flatten
 |0=>.nil
 |k+1=>by
  rw[List.replicate_succ,List.replicate_succ,List.flatten_cons,List.flatten_cons];exact Vals.append h (Vals.rep h k)
theorem eW_{α:Type}:∀(l:List α) (i:Nat),(l.eraseIdx i).length<=l.length
 |[],_=>bo _
 |_::_,0=>Nat.le_succ _
 |_::r,i+1=>Nat.succ_le_succ (eW_ r i)
theorem en_(its:ax):∀(k:Nat) (acc:ax),
  List.foldl (λx1 x2=>x1++x2) acc.toArray (List.replicate k its.toArray)=(acc++(List.replicate k its).flatten).toArray
 |0,acc=>by simp
 |k+1,acc=>by
  have e:acc.toArray++its.toArray=(acc++its).toArray:=by simp
  have e2:(acc++its)++(List.replicate k its).flatten=acc++(List.replicate (k+1) its).flatten:=by
   rw[List.replicate_succ,List.flatten_cons,Fk]
  rw[<- e2,<- en_ its k (acc++its),<- e,List.replicate_succ,List.foldl_cons]
variable{t':Nat}
section
variable{X:Cx}{pins:List (Addr × Obj)}{σ:St}{H:Hp}{s:Ab}{l b:Addr}{xs ys zs:ag}
theorem Inv.JH{f:Array Aa->Array Aa}(I:Inv X pins σ H s)(hH:H l=some (.lst xs))(e:s.heap.get? l=some { cls:=.type "list",data:=.seq its.toArray n })(hf:f its.toArray=its'.toArray)(hv:Vals ys its')(hz:ys.length<=sizeLine) :
  Inv X pins σ (upd H l (.lst ys)) { s with heap:=s.heap.update l (Obj.mapSeq f),toks:=t' }:=by
 let q:=PySem.IsL.update e f;rw[hf] at q;apply I.write (x:=l) (e:=l) (by rw[hH];exact trivial) (.inl Z) (λb' u hb hu=>(E5 s.heap (Obj.mapSeq f) (Ne.symm hb)).trans hu) #[_,q] ?_;exact#[hz,its',_,hv,q]
theorem Inv.F8(I:Inv X pins σ H s)(hv:Vals ys its)(hz:ys.length<=sizeLine) :
  Inv X pins σ (upd H s.heap.objs.size (.lst ys)) { s with heap:=s.heap.push { cls:=.type "list",data:=.seq its.toArray },toks:=t' }:=
 I.laid (λ_ _ q=>cO _ q) (bo _) #[hz,its,0,hv,e_ _ Z]
theorem Inv.fresh(I:Inv X pins σ H s):H s.heap.objs.size=none:=I.aO.fresh (bo _)
theorem Inv.pN(I:Inv X pins σ H s)(hH:H l=some (.lst xs)):xs.length<=sizeLine/\∃(its:ax) (n:Nat),Vals xs its/\xs.length=its.length/\s.heap.get? l=some { cls:=.type "list",data:=.seq its.toArray n }:=by
 let#[z,its,n,r,e]:=I.aO l _ hH;exact#[z,its,n,r,r.length,e]
theorem fi'(h:n<=sizeLine):Builtin.List.listTooLong n=false:=by
 unfold Builtin.List.listTooLong;exact dR Z1
end
inductive Av (x:V) (vs:ag) (H:Hp) (Q:VK):Prop
 |mk:∀l xs y,x=.ref l->vs=[y]->H l=some (.lst xs)->xs.length<sizeLine->Q .non (upd H l (.lst (xs++[y])))->Av x vs H Q
variable{X:Cx}
theorem xp:Me X "list.append" Av:=by
 intro pins s σ H x vs v us Q I rx rv h;let#[l,xs,y,rfl,rfl,hH,hz,q]:=h;cases rx;let#[u,rfl,ru]:=rv.one;let#[z,its,n,r,hl,e]:=I.pN hH;apply call_meets F.slot_list_append ⟨_,e,rfl⟩ F.entry_list_append (F.args_list_append_2 _ _) (PySem.list_append l its.toArray n u (by rw[dD];omega)) ⟨e,?_⟩;apply⟨.non,_,I.JH (its':=its++[u]) hH e Z2 (r.append (.cons ru .nil)) ?_,rfl,q⟩;rw[dY,K2];omega
inductive As (x:V) (vs:ag) (H:Hp) (Q:VK):Prop
 |mk:∀l b xs zs,x=.ref l->vs=[.ref b]->H l=some (.lst xs)->H b=some (.lst zs)->xs.length+zs.length<=sizeLine->Q .non (upd H l (.lst (xs++zs)))->As x vs H Q
theorem P6:Me X "list.extend" As:=by
 intro pins s σ H x vs v us Q I rx rv h;let#[l,b,xs,zs,rfl,rfl,hH,hB,hz,q]:=h;cases rx;let#[u,rfl,ru]:=rv.one;cases ru;let#[z,its,n,r,hl,e]:=I.pN hH;let#[z2,pP,n2,r2,DT,e2]:=I.pN hB;have hsz:its.toArray.size+pP.toArray.size<=sizeLine:=by rw[dD,dD];omega
 have DQ:¬(!its.toArray.isEmpty&&Builtin.List.listTooLong (its.toArray.size+pP.toArray.size))=true:=by
  rw[fi' hsz,AQ];exact gM
 apply call_meets F.slot_list_extend ⟨_,e,rfl⟩ F.entry_list_extend (F.args_list_extend_2 _ _)
  (AutoSeq1.list_extend_list_list_0 l its.toArray n b pP.toArray n2 DQ (by rw[dD];omega) Z1) ⟨e,e2,?_⟩
 apply⟨.non,_,I.JH (its':=its++pP) hH e Z2 (r.append r2) ?_,rfl,q⟩;rw[dY];omega
inductive Jz (x:V) (y:V) (H:Hp) (Q:VK):Prop
 |mk:∀l b xs zs,x=.ref l->y=.ref b->H l=some (.lst xs)->H b=some (.lst zs)->xs.length+zs.length<=sizeLine->(∀p,H p=none->Q (.ref p) (upd H p (.lst (xs++zs))))->Jz x y H Q
theorem Kz:eG X (binaryOp .Add) Jz:=by
 intro pins s σ H x y v u Q I rx ry h;let#[l,b,xs,zs,rfl,rfl,hH,hB,hz,q]:=h;cases rx;cases ry;let#[z,its,n,r,hl,e]:=I.pN hH;let#[z2,pP,n2,r2,DT,e2]:=I.pN hB;apply PySem.P.add_list e e2 ?_ (by rw[dD,dD];omega);have ea:its.toArray++pP.toArray=(its++pP).toArray:=by simp
 rw[ea];exact⟨.ref _,_,I.F8 (t':=s.toks) (r.append r2) (by rw[dY];omega),rfl,q _ I.fresh⟩
inductive M3 (x:V) (y:V) (H:Hp) (Q:VK):Prop
 |mk:∀l k xs,x=.ref l->y=.int k->H l=some (.lst xs)->-(2 ^ 63)<=k->k<2 ^ 63->xs.length * k.toNat<=sizeLine->(∀p,H p=none->Q (.ref p) (upd H p (.lst (List.replicate k.toNat xs).flatten)))->M3 x y H Q
theorem la_{α:Type}(xs:List α)(k:Nat):(List.replicate k xs).flatten.length=k * xs.length:=by
 induction k with
 |zero=>simp
 |succ k ih=>rw[List.replicate_succ,List.flatten_cons,dY,ih,Nat.succ_mul,Nat.add_comm]
theorem _E:eG X (binaryOp .Mult) M3:=by
 intro pins s σ H x y v u Q I rx ry h;let#[l,k,xs,rfl,rfl,hH,h1,h2,hz,q]:=h;cases rx;let#[t,rfl]:=ry;let#[z,its,n,r,hl,e]:=I.pN hH;have hlen:its.toArray.size * k.toNat<=sizeLine:=by rw[dD,<- hl];exact hz
 have Vx:¬its.toArray.size * k.toNat > (2 ^ 63 - 1) / 8:=by
  have:(sizeLine:Nat)<=(2 ^ 63 - 1) / 8:=by decide
  omega
 have Vm:¬(!Builtin.List.listFitsIndex k)=true:=by
  rw[fitsIndex_both h1 h2];exact gM
 have DQ:¬Builtin.List.listTooLong (its.toArray.size * k.toNat)=true:=by
  rw[fi' hlen];exact gM
 have zf:List.foldl (λx1 x2=>x1++x2) #[] (List.replicate (if its.toArray.isEmpty=true then 0 else k.toNat) its.toArray)=(List.replicate k.toNat its).flatten.toArray:=by
  have f0:∀m:Nat,List.foldl (λx1 x2=>x1++x2) #[] (List.replicate m its.toArray)=(List.replicate m its).flatten.toArray:=λm=>by
   have:=en_ its m [];rw[List.nil_append] at this;exact this
  rw[f0];cases its with
  |nil=>simp
  |cons a r'=>rw[ao Z2]
 apply wpAny_binaryOp_repeat_ref (T:="list") (U:="int") (by decide) #[_,e,Z] (λs'=>typeIs_int s' k t) noFill_list_mul F.fills_int_mul F.slot_int_rmul repeat_list F.slot_int_index.lookup
  (call_meets F.slot_int_rmul (typeIs_int s k t) F.entry_int_rmul (F.args_int_rmul_2 _ _) (int___rmul___int_list k t l its.toArray n)
   #[e,Z,#[_,e,Z],call_meets F.slot_list_mul #[_,e,Z] F.entry_list_mul (F.args_list_mul_2 _ _) (AutoListH.list___mul___list_int_3 l its.toArray n k t Vm Vx DQ) #[e,?_]])
 rw[zf];exact#[.ref _,_,I.F8 (t':=s.toks) (r.rep k.toNat) (by rw[la_,Nat.mul_comm];exact hz),Z,q _ I.fresh]
variable{o:aJ}
section
variable{κ:Type}[DecidableEq κ]
def bK(kvs:List (κ × V))(k:κ):aJ:=(kvs.find? λkv=>decide (kv.1=k)).map (·.2)
def putK(kvs:List (κ × V))(k:κ)(v:V):List (κ × V):=
 if (kvs.any λkv=>decide (kv.1=k))=true then kvs.map (λkv=>if kv.1=k then (kv.1,v) else kv) else kvs++[(k,v)]
theorem KU{p:κ × V}{r:List (κ × V)}{k:κ}(e:p.1=k):bK (p::r) k=some p.2:=by simp[bK,List.find?_cons,e]
theorem KP{p:κ × V}{r:List (κ × V)}{k:κ}(e:¬p.1=k):bK (p::r) k=bK r k:=by simp[bK,List.find?_cons,e]
theorem PH(k:κ):∀kvs:List (κ × V),(kvs.any λkv=>decide (kv.1=k))=(bK kvs k).isSome
 |[]=>rfl
 |p::r=>by
  rw[List.any_cons];by_cases e:p.1=k
  ·simp only[KU e,cw e,Bool.true_or,Option.isSome_some]
  ·rw[KP e,dR e,Bool.false_or];exact PH k r
theorem X5(kvs:List (κ × V))(k:κ)(v:V):(putK kvs k v).length<=kvs.length+1:=by
 unfold putK;split
 ·rw[ak];omega
 ·rw[dY,iE,zD];omega
theorem L1{kvs:List (κ × V)}{k:κ}(v:V)(h:bK kvs k=none):putK kvs k v=kvs++[(k,v)]:=by
 unfold putK;rw[PH,h];exact ao (by decide)
theorem eW.ed{u:Option Aa}(r:eW o u):o.isSome=u.isSome:=by
 cases o with
 |none=>cases u with
  |none=>rfl
  |some _=>exact (show False from r).elim
 |some _=>cases u with
  |none=>exact (show False from r).elim
  |some _=>rfl
theorem KV.val{kvs:List (κ × V)}{vs:List (κ × Aa)}(r:KV kvs vs)(k:κ):eW (bK kvs k) (valueAt vs k):=by
 unfold KV at r
 induction r with
 |nil=>exact True.intro
 |@cons p q ps qs h t ih=>
  let#[h1,h2]:=h;by_cases e:p.1=k
  ·have e':q.1=k:=h1.symm.trans e;have b:valueAt (q::qs) k=some q.2:=by simp[valueAt,List.find?_cons,e']
   rw[KU e,b];exact h2
  ·have e':¬q.1=k:=λz=>e (h1.trans z);have b:valueAt (q::qs) k=valueAt qs k:=by simp[valueAt,List.find?_cons,e']
   rw[KP e,b];exact ih
theorem KV.any{kvs:List (κ × V)}{vs:List (κ × Aa)}(r:KV kvs vs)(k:κ):(kvs.any λkv=>decide (kv.1=k))=vs.any λkv=>decide (kv.1=k):=by
 unfold KV at r
 induction r with
 |nil=>rfl
 |cons h t ih=>rw[List.any_cons,List.any_cons,ih,h.1]
theorem KV.Jw{kvs:List (κ × V)}{vs:List (κ × Aa)}(r:KV kvs vs)(k:κ){y:V}(ry:RelV y u) :
  KV (kvs.map λkv=>if kv.1=k then (kv.1,y) else kv) (vs.map λkv=>if kv.1=k then (kv.1,u) else kv):=by
 unfold KV at r ⊢
 induction r with
 |nil=>exact .nil
 |@cons p q ps qs h t ih=>
  rw[el,el];apply .cons ?_ ih;let#[h1,h2]:=h;by_cases e:p.1=k
  ·rw[aA e,aA (h1.symm.trans e)];exact#[h1,ry]
  ·rw[ao e,ao (λz=>e (h1.trans z))];exact#[h1,h2]
theorem KV.put{kvs:List (κ × V)}{vs:List (κ × Aa)}(r:KV kvs vs)(k:κ){y:V}(ry:RelV y u):KV (putK kvs k y) (stored vs k u):=by
 unfold putK stored;rw[r.any k];by_cases e:(vs.any λkv=>decide (kv.1=k))=true
 ·rw[aA e,aA e];exact r.Jw k ry
 ·rw[ao e,ao e];exact Paired.snoc r #[Z,ry]
theorem KV.keys{kvs:List (κ × V)}{vs:List (κ × Aa)}(r:KV kvs vs):kvs.map (·.1)=vs.map (·.1):=by
 unfold KV at r
 induction r with
 |nil=>rfl
 |cons h t ih=>rw[el,el,ih,h.1]
theorem KV.length{kvs:List (κ × V)}{vs:List (κ × Aa)}(r:KV kvs vs):kvs.length=vs.length:=bG r
end
variable{P:Ad}{w:Af}
theorem EV{k:Key}(r:RelV (kV k) u):(fI P w).is k u=true:=by
 cases k with
 |inl i=>let#[t,e]:=(show ∃t,u=Value.int i t from r);subst e;exact fo_ P w i t
 |inr x=>let#[t,e]:=(show ∃t,u=Value.str x t from r);subst e;exact X2 P w x t
theorem er_{P:Ad}{w:Af}:∀{ks:aN} {us:ax},Vals (ks.map kV) us->ItemsAre (fI P w) ks us
 |[],_,r=>by rw[Fb] at r;cases r;exact .nil
 |k::ks,_,r=>by
  rw[el] at r;cases r with
  |cons h t=>exact .cons (EV h) (er_ t)
abbrev KT(H:Hp):List (aN × V)->List (aN × Addr × Aa)->Prop:=Paired λp q=>p.1=q.1/\H q.2.1=some (.tup (p.1.map kV))/\RelV p.2 q.2.2
variable{H:Hp}{xs:List (aN × Addr × Aa)}{kvs:List (aN × V)}
theorem KT.val(r:KT H kvs xs)(k:aN):eW (bK kvs k) ((atKey xs k).map (·.2)):=by
 induction r with
 |nil=>exact True.intro
 |@cons p q ps qs h t ih=>
  let#[h1,_,h2]:=h;by_cases e:p.1=k
  ·have e':q.1=k:=h1.symm.trans e;have b:atKey (q::qs) k=some q.2:=by simp[atKey,List.find?_cons,e']
   rw[KU e,b];exact h2
  ·have e':¬q.1=k:=λz=>e (h1.trans z);have b:atKey (q::qs) k=atKey qs k:=by simp[atKey,List.find?_cons,e']
   rw[KP e,b];exact ih
theorem KT.Jw(r:KT H kvs xs)(k:aN){y:V}(ry:RelV y u) :
  KT H (kvs.map λkv=>if kv.1=k then (kv.1,y) else kv) (xs.map (putAt k u)):=by
 induction r with
 |nil=>exact .nil
 |@cons p q ps qs h t ih=>
  rw[el,el];apply .cons ?_ ih;let#[h1,h2,h3]:=h;unfold putAt;by_cases e:p.1=k
  ·rw[aA e,aA (h1.symm.trans e)];exact#[h1,h2,ry]
  ·rw[ao e,ao (λz=>e (h1.trans z))];exact#[h1,h2,h3]
variable{b:Addr}
theorem KT.put(r:KT H kvs xs)(k:aN){y:V}(hb:H b=some (.tup (k.map kV)))(ry:RelV y u) :
  KT H (putK kvs k y) (storedH xs k b u):=by
 have e:(kvs.any λkv=>decide (kv.1=k))=(atKey xs k).isSome:=by
  rw[PH,(r.val k).ed,Option.isSome_map]
 unfold putK storedH;rw[e];by_cases q:(atKey xs k).isSome=true
 ·rw[aA q,aA q];exact r.Jw k ry
 ·rw[ao q,ao q];exact Paired.snoc r #[Z,hb,ry]
variable{H':Hp}
theorem KT.keeps(r:KT H kvs xs)(ht:∀b ys,H b=some (.tup ys)->H' b=some (.tup ys)):KT H' kvs xs:=
 Paired.bu r λ_ _ z=>#[z.1,ht _ _ z.2.1,z.2.2]
variable{h:Heap}{a:Addr}
theorem _a{u:HO}(ok:fX P w H h)(e:Rd H a u):fV P w H h a u:=e.ok ok
theorem Bv{kvs:List (Key × V)}(ok:fX P w H h)(e:Rd H a (.dK kvs)):kvs.length<=sizeLine/\(a == sysModules)=false/\∃vs,KV kvs vs/\h.DictOf (fI P w) a vs:=
 show fV P w H h a (.dK kvs) from _a ok e
theorem HX{kvs:List (Key × V)}(ok:fX P w H h)(e:H a=some (.dK kvs)):kvs.length<=sizeLine/\(a == sysModules)=false/\∃vs,KV kvs vs/\h.DictOf (fI P w) a vs:=Bv ok (.inl e)
theorem OY{ks:aN}(ok:fX P w H h)(e:H a=some (.tup (ks.map kV))):(tupleKind (fI P w)).is h ks a:=by
 let#[_,its,r,#[o,h1,h2,n,h3],_]:=(show fV P w H h a (.tup (ks.map kV)) from ok a _ e);exact#[o,its.toArray,n,h1,h2,h3,by simpa using er_ r]
theorem LB(ok:fX P w H h)(e:Rd H a (.dT kvs)):kvs.length<=sizeLine/\(a == sysModules)=false /\
  ∃xs,KT H kvs xs/\h.DictOfH (tupleKind (fI P w)) a xs:=by
 let#[z,y,xs,r,o,es,ep,h1,h2,h3,h4,h5]:=(show fV P w H h a (.dT kvs) from _a ok e);apply#[z,y,xs,r,o,es,ep,h1,h2,h3,h4,λx hx=>?_,h5]
 have all:∀{l:List (aN × V)} {m:List (aN × Addr × Aa)},KT H l m->∀x∈m,(tupleKind (fI P w)).is h x.1 x.2.1:=by
  intro l m q
  induction q with
  |nil=>intro x hx;exact nomatch hx
  |@cons p q ps qs hq t ih=>
   intro x hx;rcases bW.mp hx with e|hx
   ·subst e;exact OY ok (by rw[<- hq.1];exact hq.2.1)
   ·exact ih x hx
 exact all r x hx
theorem mj_(ok:fX P w H h)(e:H a=some (.dT kvs)):kvs.length<=sizeLine/\(a == sysModules)=false /\
  ∃xs,KT H kvs xs/\h.DictOfH (tupleKind (fI P w)) a xs:=LB ok (.inl e)
def bU(H:Hp)(a:Addr)(y:V)(r:aJ):Prop:=
 (∃kvs k,Rd H a (.dK kvs)/\y=kV k/\r=bK kvs k)∨∃kvs k b,Rd H a (.dT kvs)/\y=.ref b/\H b=some (.tup (k.map kV))/\r=bK kvs k
def xB(H:Hp)(a:Addr)(y v:V)(H':Hp):Prop:=
 (∃kvs k,H a=some (.dK kvs)/\y=kV k/\kvs.length<sizeLine/\H'=upd H a (.dK (putK kvs k v))) ∨
 ∃kvs k b,H a=some (.dT kvs)/\y=.ref b/\H b=some (.tup (k.map kV))/\kvs.length<sizeLine/\H'=upd H a (.dT (putK kvs k v))
theorem bU.k{kvs:List (Key × V)}{k:Key}(e:H a=some (.dK kvs)):bU H a (kV k) (bK kvs k):=.inl #[kvs,k,.inl e,Z,Z]
theorem bU.t{k:aN}(e:H a=some (.dT kvs))(eb:H b=some (.tup (k.map kV))):bU H a (.ref b) (bK kvs k):=.inr #[kvs,k,b,.inl e,Z,eb,Z]
theorem xB.k{kvs:List (Key × V)}{k:Key}{v:V}(e:H a=some (.dK kvs))(hl:kvs.length<sizeLine):xB H a (kV k) v (upd H a (.dK (putK kvs k v))):=.inl #[kvs,k,e,Z,hl,Z]
theorem xB.t{k:aN}{v:V}(e:H a=some (.dT kvs))(eb:H b=some (.tup (k.map kV)))(hl:kvs.length<sizeLine) :
  xB H a (.ref b) v (upd H a (.dT (putK kvs k v))):=.inr #[kvs,k,b,e,Z,eb,hl,Z]
variable{h':Heap}
variable{kvs:List (Key × V)}
section
variable{X:Cx}{pins:List (Addr × Obj)}{σ:St}{H:Hp}{s:Ab}{a:Addr}{y v:V}{u r:Aa}{o:aJ}{A:Ag}{E:Aa->Ab->Prop}
theorem Inv.big(I:Inv X pins σ H s):sysModules<s.heap.objs.size:=by
 have h:mainGlobals<s.heap.objs.size:=(I.mod.glob.keeps I.bk).lt;exact Nat.lt_trans (by decide) h
theorem eS_{Q:Aa->Ab->Prop}(hu:A.units+1<cLine)(I:Inv X pins σ H s)(g:bU H a y (some v))(ry:RelV y u)(h:∀w' s',Inv X pins σ H s'->RelV v w'->Q w' s') :
  wpAny (model X.prog X.w) A (getItem (.ref a) u) Q E s:=by
 rcases g with⟨kvs,k,e,ey,l⟩|⟨kvs,k,b,e,ey,eb,l⟩
 ·subst ey;let#[z,hd,vs,rel,dd]:=Bv I.aO e;let#[w',hw,pK]:=eW.some_of (v:=v) (o:=valueAt vs k) (by rw[l];exact rel.val k);exact wpAny_getItem_of (EV ry) dd.mapOf hw (h w' _ (I.tok _) pK)
 ·subst ey;cases (show u=Value.ref b from ry);let#[z,hd,xs,rel,dd]:=LB I.aO e;let#[w',hw,pK]:=eW.some_of (v:=v) (o:=(atKey xs k).map (·.2)) (by rw[l];exact rel.val k);let#[p,hp,Az]:=Iy.mp hw;apply wpAny_getItem_heap (tupleKind_room_in1 hu) (OY I.aO eb) dd hp ?_;rw[Az];exact h w' _ (I.tok _) pK
theorem Xl{Q:Aa->Ab->Prop}(hu:A.units+1<cLine)(I:Inv X pins σ H s)(g:bU H a y o)(ry:RelV y u)(h:∀s',Inv X pins σ H s'->Q (.bool o.isSome) s') :
  wpAny (model X.prog X.w) A (compareOp .In u (.ref a)) Q E s:=by
 rcases g with⟨kvs,k,e,ey,l⟩|⟨kvs,k,b,e,ey,eb,l⟩
 ·subst ey;let#[z,hd,vs,rel,dd]:=Bv I.aO e;apply wpAny_in_of (EV ry) hd dd.mapOf ?_;rw[<- (rel.val k).ed,<- l];exact h _ (I.tok _)
 ·subst ey;cases (show u=Value.ref b from ry);let#[z,hd,xs,rel,dd]:=LB I.aO e;apply wpAny_in_heap (tupleKind_room_in1 hu) (OY I.aO eb) hd dd ?_;let q:=(rel.val k).ed;rw[Option.isSome_map] at q;rw[<- q,<- l];exact h _ (I.tok _)
theorem l7_{Q:Aa->Ab->Prop}(hu:A.units+1<cLine)(I:Inv X pins σ H s)(g:bU H a y o)(ry:RelV y u)(h:∀s',Inv X pins σ H s'->Q (.bool (!o.isSome)) s') :
  wpAny (model X.prog X.w) A (compareOp .NotIn u (.ref a)) Q E s:=by
 rcases g with⟨kvs,k,e,ey,l⟩|⟨kvs,k,b,e,ey,eb,l⟩
 ·subst ey;let#[z,hd,vs,rel,dd]:=Bv I.aO e;apply wpAny_notIn_of (EV ry) hd dd.mapOf ?_;rw[<- (rel.val k).ed,<- l];exact h _ (I.tok _)
 ·subst ey;cases (show u=Value.ref b from ry);let#[z,hd,xs,rel,dd]:=LB I.aO e;apply wpAny_notIn_heap (tupleKind_room_in1 hu) (OY I.aO eb) hd dd ?_;let q:=(rel.val k).ed;rw[Option.isSome_map] at q;rw[<- q,<- l];exact h _ (I.tok _)
theorem V0{ob:HO}(I:Inv X pins σ H s)(mu:Qf (H a))(hs:Heap.SameBut a s.heap h')(he:∃q,h'.get? a=some q)(new:fV X.prog X.w (upd H a ob) h' a ob) :
  Inv X pins σ (upd H a ob) { s with heap:=h',toks:=t' }:=
 I.write (x:=a) (e:=a) mu (.inl Z) (λb q hb z=>(hs.2 b hb).trans z) he new
theorem Rh{vs:List (Key × Aa)}(z:kvs.length<=sizeLine)(hd:(a == sysModules)=false)(rel:KV kvs vs)(dd:h'.DictOf (fI P w) a vs) :
  fV P w H' h' a (.dK kvs):=#[z,hd,vs,rel,dd]
theorem eB_{Q:Unit->Ab->Prop}(hu:A.units+1<cLine)(I:Inv X pins σ H s)(g:xB H a y v H')(ry:RelV y u)(rv:RelV v r)(h:∀s',Inv X pins σ H' s'->Q () s') :
  wpAny (model X.prog X.w) A (setItem (.ref a) u r) Q E s:=by
 rcases g with⟨kvs,k,e,ey,l,eH⟩|⟨kvs,k,b,e,ey,eb,l,eH⟩
 ·subst ey eH;let#[z,hd,vs,rel,dd]:=HX I.aO e;have hz:vs.length<=sizeLine:=by rw[<- rel.length];exact z
  have hl:(putK kvs k v).length<=sizeLine:=by have:=X5 kvs k v;omega
  apply wpAny_setItem_pairs (hsz:=hz) (EV ry) dd λh' Gs hs=>h _ ?_;have he:∃q,h'.get? a=some q:=let #[q,_,_,hq,_]:=Gs;#[q,hq];exact V0 I (by rw[e];exact True.intro) hs he (Rh hl hd (rel.put k rv) Gs)
 ·subst ey eH;cases (show u=Value.ref b from ry);let#[z,hd,xs,rel,dd]:=mj_ I.aO e;have hz:xs.length<=sizeLine:=by rw[<- bG rel];exact z
  have hl:(putK kvs k v).length<=sizeLine:=by have:=X5 kvs k v;omega
  apply wpAny_setItem_heap (hsz:=hz) (tupleKind_room_in1 hu) (OY I.aO eb) dd λh' Gs hs=>h _ ?_;let#[q,es,ep,hq,h2,h3,h4,_,h5]:=Gs;apply V0 I (by rw[e];exact True.intro) hs #[q,hq] #[hl,hd,_,(rel.put k eb rv).keeps λc ys ec=>?_,q,es,ep,hq,h2,h3,h4,h5];rw[au (cU ec e nofun)];exact ec
end
variable{E:Aa->Ab->Prop}
theorem mh_{Q:Aa->Ab->Prop}(I:Inv X pins σ H s)(e:Rd H a (.dK kvs))(h:∀t s',Inv X pins σ H s'->Q (.int kvs.length t) s'):wpAny (model X.prog X.w) A (call (.builtin "len") [.ref a]) Q E s:=by
 let#[z,hd,vs,rel,dd]:=Bv I.aO e;apply call_len_dict hd dd (by rw[<- rel.length];rw[ck] at z;omega) ?_;rw[<- rel.length];exact h _ _ (I.tok _)
def K7(i:Expr):Prop:=∀ov iv,subscripted i false ov iv=operate [ov,iv] (getItem ov iv)
variable{value:Expr}{pos:Pos}
theorem Rn{prog:Ad}{env:Env}{slice:Expr}{id:String}{Q:Aa->Ab->Prop}(hl:typeLookup (.type T) "__getitem__"=pure (some (.builtin id)))(hs:K7 slice)(h:wpAny (model prog w) A (eval value env) (λo a_=>wpAny (model prog w) A (eval slice env) (λi wD=>wD.TypeIs o T/\wpAny (model prog w) A (getItem o i) Q E wD) E a_) E s) :
  wpAny (model prog w) A (eval (.Subscript value slice pos) env) Q E s:=by
 apply Subscript_ (wpAny_mono h (λo a_ UR=>wpAny_mono UR (λi wD JM=>?_) λ_ _ x=>x) λ_ _ x=>x);let#[hT,JM]:=JM;unfold subscriptTail;apply aP ?_;rw[getitemInPython_of_ne hT.not_modules];apply aP (wpAny_specialOf hT hl ?_)
 have fin:wpAny (model prog w) A (subscripted slice false o i) (λr MJ=>wpAny (model prog w) A (letTemporaryGo value o r >>= λ_=>pure r) Q E MJ) E wD:=by
  rw[hs o i];exact wpAny_operating (wpAny_mono JM (λr MJ UQ=>aP (wpAny_letTemporaryGo (bR UQ))) λ_ _ x=>x)
 first
  |exact bR (aP fin)
  |exact aP (bR (aP fin))
  |exact aP fin
theorem YI{y:V}(I:Inv X pins σ H s)(g:bU H a y o):s.TypeIs (.ref a) "dict":=by
 rcases g with⟨kvs,k,e,_,_⟩|⟨kvs,k,b,e,_,_,_⟩
 ·let#[_,_,vs,_,dd]:=Bv I.aO e;exact dd.typeIs
 ·let#[_,_,xs,_,dd]:=LB I.aO e;exact dd.typeIs
inductive Cp (Q:VK) (x:V) (y:V) (H2:Hp):Prop
 |mk:∀a v,x=.ref a->bU H2 a y (some v)->Q v H2->Cp Q x y H2
def MG(td ty:TE):TE:=λσ H Q=>td σ H λx H1=>ty σ H1 λy H2=>Cp Q x y H2
inductive G6 (Q:VK) (y:V) (x:V) (H2:Hp):Prop
 |mk:∀a o,x=.ref a->bU H2 a y o->Q (.bl o.isSome) H2->G6 Q y x H2
def Ta(ty td:TE):TE:=λσ H Q=>ty σ H λy H1=>td σ H1 λx H2=>G6 Q y x H2
inductive fb' (Q:VK) (y:V) (x:V) (H2:Hp):Prop
 |mk:∀a o,x=.ref a->bU H2 a y o->Q (.bl (!o.isSome)) H2->fb' Q y x H2
def FG(ty td:TE):TE:=λσ H Q=>ty σ H λy H1=>td σ H1 λx H2=>fb' Q y x H2
inductive Dj (D:Ends) (σ:St) (v:V) (x:V) (y:V) (H3:Hp):Prop
 |mk:∀a H4,x=.ref a->xB H3 a y v H4->D.nx σ H4->Dj D σ v x y H3
def MU(td ty tv:TE):TS:=λD σ H=>tv σ H λv H1=>td σ H1 λx H2=>ty σ H2 λy H3=>Dj D σ v x y H3
def MV(td ty tv:TE)(rd:V->V->Hp->VK->Prop):TS:=λD σ H=>td σ H λx H1=>ty σ H1 λy H2=>∃a v,x=.ref a/\bU H2 a y (some v) /\
 tv σ H2 λy2 H3=>rd v y2 H3 λz H4=>∃H5,xB H4 a y z H5/\D.nx σ H5
variable{i o:Expr}{td ty:TE}
theorem cb(hu:X.A.units+1<cLine)(ho:PE X o td)(hi:PE X i ty)(hs:K7 i:=by exact λ_ _=>rfl):PE X (.Subscript o i pos) (MG td ty):=by
 intro pins s σ H Q I h;apply Rn PySem.F.slot_dict_getitem.lookup hs (aZ (ho pins s σ H _ I h) λu s1 ⟨x,H1,I1,rx,q1⟩=>aZ (hi pins s1 σ H1 _ I1 q1) λiv s2 ⟨y,H2,I2,ry,a,v,ex,g,q2⟩=>?_);subst ex;obtain rfl:u=Value.ref a:=rx;exact#[YI I2 g,eS_ hu I2 g ry λw' s3 I3 pK=>#[v,H2,I3,pK,q2]]
theorem LP(hu:X.A.units+1<cLine)(hi:PE X i ty)(ho:PE X o td):PC X .In i o (Ta ty td):=by
 intro pins s σ H Q I h;apply aZ (hi pins s σ H _ I h) λiv s1 ⟨y,H1,I1,ry,q1⟩=>aZ (ho pins s1 σ H1 _ I1 q1) λu s2 ⟨x,H2,I2,rx,a,ov,ex,g,q2⟩=>?_;subst ex;obtain rfl:u=Value.ref a:=rx;exact Xl hu I2 g ry λs3 I3=>#[.bl ov.isSome,H2,I3,Z,q2]
theorem eO_(hu:X.A.units+1<cLine)(hi:PE X i ty)(ho:PE X o td):PC X .NotIn i o (FG ty td):=by
 intro pins s σ H Q I h;apply aZ (hi pins s σ H _ I h) λiv s1 ⟨y,H1,I1,ry,q1⟩=>aZ (ho pins s1 σ H1 _ I1 q1) λu s2 ⟨x,H2,I2,rx,a,ov,ex,g,q2⟩=>?_;subst ex;obtain rfl:u=Value.ref a:=rx;exact l7_ hu I2 g ry λs3 I3=>#[.bl (!ov.isSome),H2,I3,Z,q2]
variable{pos':Pos}{tv:TE}
theorem B1(hu:X.A.units+1<cLine)(ho:PE X o td)(hi:PE X i ty)(hv:PE X value tv)(hs:swapsWith value (some (.Subscript o i pos')) pos.line X.env=pure false) :
  PS X (.Assign [.Subscript o i pos'] value pos) (MU td ty tv):=by
 intro pins s σ H D I h;apply wpAny_Assign_Subscript (aZ (hv pins s σ H _ I h) λr s1 ⟨v,H1,I1,rv,q1⟩=>aZ (ho pins s1 σ H1 _ I1 q1) λu s2 ⟨x,H2,I2,rx,q2⟩=>aZ (hi pins s2 σ H2 _ I2 q2) λiv s3 ⟨y,H3,I3,ry,a,H4,ex,g,q3⟩=>?_) hs;subst ex;obtain rfl:u=Value.ref a:=rx;exact eB_ hu I3 g ry rv λs4 I4=>#[σ,H4,I4,q3]
variable{Mt:Pos}
theorem kO_{op:Operator}{rd:V->V->Hp->VK->Prop}(hu:X.A.units+1<cLine)(ho:PE X o td)(hi:PE X i ty)(hv:PE X value tv)(hop:Qi X op rd)
  (ha:∀ov iv new,augStore i ov iv new=(do holding [new,ov,iv] (setItem ov iv new);release [new,ov,iv] [];pure .next)):PS X (.AugAssign (.Subscript o i Mt) op value pos) (MV td ty tv rd):=by
 intro pins s σ H D I h;apply wpAny_AugAssign_SubscriptAny (aZ (ho pins s σ H _ I h) λu s1 ⟨x,H1,I1,rx,q1⟩=>aZ (hi pins s1 σ H1 _ I1 q1) λiv s2 ⟨y,H2,I2,ry,a,v,ex,g,q2⟩=>?_) ha;subst ex;obtain rfl:u=Value.ref a:=rx;apply eS_ hu I2 g ry λw' s3 I3 pK=>aZ (hv pins s3 σ H2 _ I3 q2) λw2 s4 ⟨y2,H3,I4,ry2,q3⟩=>aZ (hop pins s4 σ H3 v y2 w' w2 _ I4 pK ry2 q3) λw3 s5 ⟨z,H4,I5,rz,H5,g5,q4⟩=>?_;exact eB_ hu I5 g5 ry rz λs6 I6=>#[σ,H5,I6,q4]
theorem fD_(h:Heap)(hb:sysModules<h.objs.size):fV P w H (h.push { cls:=.type "dict",data:=.dict #[] }) h.objs.size (.dK []):=
 #[gx _,beq_eq_false_iff_ne.mpr (Ne.symm (eM hb)),[],.nil,Heap.DictOf.new h]
theorem jr_(h:Heap)(hb:sysModules<h.objs.size):fV P w H (h.push { cls:=.type "dict",data:=.dict #[] }) h.objs.size (.dT []):=
 #[gx _,beq_eq_false_iff_ne.mpr (Ne.symm (eM hb)),[],.nil,_,#[],0,e_ _ Z,#[Z,Z,Z],Z,Z,List.nodup_nil]
def IU:TE:=λ_ H Q=>∀p,H p=none->Q (.ref p) (upd H p (.dK []))
def IT:TE:=λ_ H Q=>∀p,H p=none->Q (.ref p) (upd H p (.dT []))
theorem Ij:PE X (.Dict [] [] pos) IU:=λpins s σ H Q I h=>
 wpAny_Dict_empty #[.ref s.heap.objs.size,_,I.laid (a:=s.heap.objs.size) (o:=.dK []) (t':=s.toks) (λ_ _ q=>cO _ q) (bo _) (fD_ s.heap I.big),Z,h _ (I.aO.fresh (bo _))]
theorem je_:PE X (.Dict [] [] pos) IT:=λpins s σ H Q I h=>
 wpAny_Dict_empty #[.ref s.heap.objs.size,_,I.laid (a:=s.heap.objs.size) (o:=.dT []) (t':=s.toks) (λ_ _ q=>cO _ q) (bo _) (jr_ s.heap I.big),Z,h _ (I.aO.fresh (bo _))]
def yk:List (TE × TE)->St->Hp->(List (V × V)->Hp->Prop)->Prop
 |[],_,H,Q=>Q [] H
 |(tk,tv)::r,σ,H,Q=>tk σ H λx H1=>tv σ H1 λy H2=>yk r σ H2 λps H3=>Q ((x,y)::ps) H3
abbrev VV:List (V × V)->List (Aa × Aa)->Prop:=Paired λp q=>RelV p.1 q.1/\RelV p.2 q.2
def SJ(X:Cx)(pos:Pos)(keys:List (Option Expr))(values:List Expr)(GV:List (TE × TE)):Prop:=
 ∀(pins:List (Addr × Obj)) (s:Ab) (σ:St) (H:Hp) (Q:List (V × V)->Hp->Prop),Inv X pins σ H s->yk GV σ H Q->
  wpAny (model X.prog X.w) X.A (evalPairs (pairTrees keys values X.env pos)) (λvs s'=>∃ps H',Inv X pins σ H' s'/\VV ps vs/\Q ps H') X.xe s
theorem kV_:SJ X pos [] [] []:=λpins s σ H Q I h=>pairTrees_nil_walk #[[],H,I,.nil,h]
variable{GV:List (TE × TE)}
theorem Xz{k v:Expr}{ks:List (Option Expr)}{vs:List Expr}{tk:TE}(hk:PE X k tk)(hv:PE X v tv)(hr:SJ X pos ks vs GV) :
  SJ X pos (some k::ks) (v::vs) ((tk,tv)::GV):=λpins s σ H Q I h=>
 pairTrees_cons_walk (aZ (hk pins s σ H _ I h) λu s1 ⟨x,H1,I1,rx,q1⟩=>aZ (hv pins s1 σ H1 _ I1 q1) λw2 s2 ⟨y,H2,I2,ry,q2⟩=>
  aZ (hr pins s2 σ H2 _ I2 q2) λws s3 ⟨ps,H3,I3,rel,q3⟩=>#[(x,y)::ps,H3,I3,.cons #[rx,ry] rel,q3])
def zy(kvs more:List (Key × V)):List (Key × V):=more.foldl (λacc kv=>putK acc kv.1 kv.2) kvs
theorem KV.merge:∀{more:List (Key × V)} {rs:List (Key × Aa)} {kvs:List (Key × V)} {vs:List (Key × Aa)},KV more rs->KV kvs vs->KV (zy kvs more) (merged vs rs):=by
 intro more rs kvs vs r;unfold KV at r
 induction r generalizing kvs vs with
 |nil=>intro q;exact q
 |@cons p q ps qs h t ih=>
  intro r0
  have e:KV (putK kvs p.1 p.2) (stored vs q.1 q.2):=by
   have:=r0.put p.1 h.2;rw[<- h.1];exact this
  exact ih e
theorem YR:∀(more kvs:List (Key × V)),(zy kvs more).length<=kvs.length+more.length
 |[],kvs=>by show kvs.length<=kvs.length+0;omega
 |p::r,kvs=>by
  let h1:=YR r (putK kvs p.1 p.2);let h2:=X5 kvs p.1 p.2;show (zy (putK kvs p.1 p.2) r).length<=_;rw[iE];omega
theorem dy_{P:Ad}{w:Af}:∀{kvs:List (Key × V)} {ws:List (Aa × Aa)},VV (kvs.map λkv=>(kV kv.1,kv.2)) ws->∃rs,Carries (fI P w) ws rs/\KV kvs rs
 |[],_,r=>by rw[Fb] at r;cases r;exact#[[],True.intro,.nil]
 |p::kvs,_,r=>by
  rw[el] at r;cases r with
  |@cons a b as bs h t=>
   let#[rs,c,q]:=dy_ (P:=P) (w:=w) t;let#[b1,b2]:=b;exact#[(p.1,b2)::rs,#[EV h.1,Z,c],.cons #[Z,h.2] q]
def MF(GV:List (TE × TE)):TE:=λσ H Q=>∀p,H p=none->yk GV σ (upd H p (.dK [])) λps H2=>H2 p=some (.dK [])/\∃kvs:List (Key × V),ps=kvs.map (λkv=>(kV kv.1,kv.2))/\kvs.length<=15/\Q (.ref p) (upd H2 p (.dK (zy [] kvs)))
theorem kZ_{keys:List (Option Expr)}{values:List Expr}(h:SJ X pos keys values GV)(DZ:keys.all (·.isSome)=true)(hl:keys.length=values.length)(h0:keys≠[])(h15:keys.length<=15):PE X (.Dict keys values pos) (MF GV):=by
 intro pins s σ H Q I q;let hn:=I.aO.fresh (bo s.heap.objs.size);let I1:=I.laid (a:=s.heap.objs.size) (o:=.dK []) (h':=s.heap.push { cls:=.type "dict",data:=.dict #[] }) (t':=s.toks) (λ_ _ q=>cO _ q) (bo _) (fD_ s.heap I.big);apply wpAny_Dict_walk (knd:=fI X.prog X.w) DZ hl h0 h15 (aZ (h pins _ σ _ _ I1 (q _ hn)) λws s2 ⟨ps,H2,I2,rel,e,kvs,ep,lk,q2⟩=>?_);subst ep;let#[rs,c,rk]:=dy_ (P:=X.prog) (w:=X.w) rel;let#[z,hd,vs0,r0,dd]:=HX I2.aO e;cases r0;apply#[rs,c,dd,λh' Gs hs=>#[.ref s.heap.objs.size,_,?_,Z,q2]]
 have hz:(zy [] kvs).length<=sizeLine:=by
  let h1:=YR kvs [];rw[zD] at h1;rw[ck];omega
 have he:∃q,h'.get? s.heap.objs.size=some q:=let #[q,_,_,hq,_]:=Gs;#[q,hq];exact V0 I2 (by rw[e];exact True.intro) hs he (Rh hz hd (rk.merge .nil) Gs)
structure M1 (X:Cx) (o:Expr) (m:Str) (apos:Pos) (e:Expr) (dB:Pos):Prop where
 base:attributeBase o m X.env (eval o X.env)=eval o X.env
 few:((backTo dB (starEach [e] X.env)).all (λx=>!x.1)&&(backToKw dB (keywordEach [] X.env)).all (λx=>x.1.isSome)
  && decide (([e]:List Expr).length+([]:List Keyword).length+(if ([]:List Keyword).isEmpty then 0 else 1)<30))=true
 line:(apos.endLine == dB.line)=true
 trees:backTo dB (starEach [e] X.env)=[(false,eval e X.env)]
structure M2 (X:Cx) (o:Expr) (m:Str) (apos:Pos) (e f:Expr) (dB:Pos):Prop where
 base:attributeBase o m X.env (eval o X.env)=eval o X.env
 few:((backTo dB (starEach [e,f] X.env)).all (λx=>!x.1)&&(backToKw dB (keywordEach [] X.env)).all (λx=>x.1.isSome)
  && decide (([e,f]:List Expr).length+([]:List Keyword).length+(if ([]:List Keyword).isEmpty then 0 else 1)<30))=true
 line:(apos.endLine == dB.line)=true
 trees:backTo dB (starEach [e,f] X.env)=[(false,eval e X.env),(false,eval f X.env)]
def IsD(H:Hp)(a:Addr):Prop:=(∃kvs,Rd H a (.dK kvs))∨∃kvs,Rd H a (.dT kvs)
theorem _e(I:Inv X pins σ H s)(d:IsD H a) :
  s.TypeIs (.ref a) "dict"/\(∀b,Value.ref a=.ref b->∃ob,s.heap.get? b=some ob/\ob.dict=none)/\(a == sysModules)=false:=by
 rcases d with⟨kvs,e⟩|⟨kvs,e⟩
 ·let#[_,hd,vs,_,dd]:=Bv I.aO e;apply#[dd.typeIs,λb q=>?_,hd];cases q;let#[ob,_,_,h1,h2,_]:=dd;exact#[ob,h1,h2.2.1]
 ·let#[_,hd,xs,_,dd]:=LB I.aO e;apply#[dd.typeIs,λb q=>?_,hd];cases q;let#[ob,_,_,h1,h2,_]:=dd;exact#[ob,h1,h2.2.1]
theorem jg_{Q:Aa->Ab->Prop}(I:Inv X pins σ H s)(e:Rd H a (.dK kvs))(h:∀p s',H p=none->Inv X pins σ (upd H p (.dK kvs)) s'->Q (.ref p) s'):wpAny (model X.prog X.w) A (call (.type "dict") [.ref a]) Q E s:=by
 let#[z,hd,vs,rel,dd]:=Bv I.aO e;apply kt_call_dict hd dd (by rw[<- rel.length];exact z) λh' Gs hs=>?_;apply h _ _ (I.aO.fresh (bo _)) (I.laid (a:=s.heap.objs.size) (o:=.dK kvs) (t':=s.toks) (λb q hq=>?_) (bo _) (Rh z (beq_eq_false_iff_ne.mpr (Ne.symm (eM I.big))) rel Gs));exact (hs.2 b (eM (cE hq))).trans (cO _ hq)
end L2
namespace Att
open PySem PySem.W PySem.Calls PyProof.Rows
variable{P:Params}{h:Heap}
theorem ds_:∀(ns:List Int) (vs:ax),WellAll P h vs (ns.map WData.int)->IntsAre vs ns:=by
 intro ns
 induction ns with
 |nil=>
  intro vs w;rw[Fb] at w;cases w;exact .nil
 |cons n ns ih=>
  intro vs w;rw[el] at w;cases w with
  |cons a b=>
   cases a;exact .cons _ _ (ih _ b)
variable{l:OpenLaw}{n:Nat}
theorem hk_(hn:l.most=some n){args:List WData}{vals:ax}(F_:l.row.toRowW.claim.pre args=true)(UT:WellAll P h vals args) :
  ∃a vs ns,vals=[Value.ref a]/\args=[WData.list (ns.map WData.int)]/\h.get? a=some { cls:=.type "list",data:=.seq vs.toArray }/\IntsAre vs ns/\ns.length<=n:=by
 have hsh:WShape.hasAll [] args [.list .int]=true:=(pre_splitW F_).1;have hc:l.pre.holds [] { args:=args }=true:=(pre_splitW F_).2;let#[d,r,rfl,h1,h2]:=hasAllW_cons hsh;obtain rfl:=hasAllW_nil h2;let#[xs,rfl,h3]:=hasW_list h1;let#[ns,rfl]:=items_int h3
 have hlen:ns.length<=n:=by
  unfold OpenLaw.pre at hc
  have h4:(WTm.not (.lt (.lit (.int (n:Int))) (.len (.arg 0)))).holds [] { args:=[.list (ns.map .int)] }=true:=by
   let h4:=(holds_andW hc).1;rw[hn] at h4;exact h4
  let h5:=condW_of h4 (w_not (w_lt w_lit (w_len_list (w_arg Z))));rw[ak] at h5;apply Nat.le_of_not_lt λq=>?_;have q':(n:Int)<((ns.length:Nat):Int):=by omega
  first
   |(rw[cw q'] at h5;exact absurd h5 (by decide))
   |(simp at h5;omega)
 cases UT with
 |cons w1 w2=>
  cases w2;cases w1 with
  |list ho DZ=>exact#[_,_,ns,Z,Z,ho,ds_ ns _ DZ,hlen]
theorem ih_(l:OpenLaw)(args:List WData):l.row.toRowW.claim.post args (.bool true) args=true:=
 postW_of (r:=l.row.toRowW) (X:=(true == true))
  (show WShape.has [] (.bool true) .bool=true by first|rfl|decide|simp[WShape.has,WShape.arms,WShape.armsAll])
  (show (WTm.eq .res (.lit (.bool true))).value [] { args:=args,res:=some (.bool true),after:=args }=some (.bool (true == true)) from w_eq_bool (w_res Z) w_lit) Z
theorem xn{q:Ad}{loose:ae}{XP:(Str->Option Aa)->Heap->Prop}{YP:Af->Heap->Prop}{d:DefRec}(hn:l.most=some n)(xb:d.params.defaults=[])(call:∀(w:Af) (dg a_:Ab) (mg mb:Str->Option Aa) (fa:Addr) (o:Obj) (pm cd doc:Aa) (a:Addr) (vs:ax) (ns:List Int),
   Ground q loose [] XP w dg mg mb a_.heap->YP w a_.heap->
   a_.heap.get? fa=some o->o.data=.func (docDef d.name d.params d.body d.scope pm cd doc)->a_.heap.CodeRec cd d.name->mg d.name=some (.ref fa)->
   a_.heap.get? a=some { cls:=.type "list",data:=.seq vs.toArray }->IntsAre vs ns->ns.length<=n->a_.gens=#[]->
   codeAny (model l.prog w) callerA (.call (.ref fa) #[[.ref a],[]]) (λr s'=>r=.ok (.ret (.bool true))/\OldK a_.heap s'.heap/\s'.os=a_.os/\AllBare s'.gens) a_) :
  WalkO q loose XP YP l.row.toRowW d [] (λf vs=>PySem.call f vs):=by
 intro w dg a_ mg mb G Y fa o pm cd doc dV kV ho hd hE hD hmg hg args vals as F_ hlay hrd UT hlo;obtain rfl:dV=.none:=Dflts.none hD xb;obtain rfl:kV=.none:=Dflts.noKw hD;let#[a,vs,ns,rfl,rfl,JS,hints,hlen]:=hk_ hn F_ UT;apply enter_call (codeAny_mono (call w dg a_ mg mb fa o pm cd doc a vs ns G Y ho (fd_plain hd) hE hmg JS hints hlen hg) λr s' hq=>?_);let#[rfl,h2,h3,h4]:=hq;exact#[.inl #[.bool true,.bool true,[],Z,λ_=>rfl,.bool true,ih_ l _,λ_=>#[List.Pairwise.nil,λ_ hm=>(nomatch hm)]],h2,h3,h4]
end Att
namespace L2
open PySem PySem.Spec PyProof.Rows
theorem f5_:∀{vs:ax} {ns:List Int},IntsAre vs ns->Vals (ns.map V.int) vs
 |_,_,.nil=>.nil
 |_,_,.cons n t h=>.cons #[t,Z] (f5_ h)
def vH(s:Stmt)(j:Nat):Stmt:=match s with
 |.ClassDef _ _ _ body _ _ _ _ _ _ _=>body.getD j (.Pass #[0,0,0,0])
 |_=>.Pass #[0,0,0,0]
def vI(s:Stmt):Arguments:=match s with
 |.FunctionDef _ a _ _ _ _ _ _ _ _=>a
 |_=>{ posonlyargs:=[],args:=[],vararg:=none,kwonlyargs:=[],kw_defaults:=[],kwarg:=none,defaults:=[] }
def iM(s:Stmt):List Stmt:=match s with
 |.FunctionDef _ _ b _ _ _ _ _ _ _=>b
 |_=>[]
def bb(s:Stmt):Scope:=match s with
 |.FunctionDef _ _ _ _ _ _ sc _ _ _=>sc
 |_=>{ kind:=.function,names:=[],isGenerator:=false,isCoroutine:=false }
abbrev ba:Fv:=λ_ _ _ _ _ _=>False
abbrev E0:XK:=λ_ _ _=>False
variable{X:Cx}
theorem wQ:E4 ba X E0:=λ_ _ _ _ _ _ _ h=>h.elim
structure bp (K:af) (x qual:Str) (st:Stmt) (f:Addr) (fd:Ae):Prop where
 ex:∃(oc:Aa) (od:Option Addr) (kV doc pm:Aa) (an:Option Addr) (aR ct:Aa) (xJ:Array (Option Aa)),
  fd=PySem.W.fnOf x qual (vI st) (iM st) (bb st) .none kV doc pm an aR ct/\K.lookup f=some #[oc,od,.func fd,xJ]/\PySem.W.codeIn K aR qual=true
 kp:PySem.W.keepIn K (.ref f)=true
variable{qual x:Str}{st:Stmt}{f:Addr}{fd:Ae}{N ps:ae}{k:Nat}{sp:Sp}{P:Ad}{w:Af}{K:af}{mg:Str->Option Aa}{base:Heap}
theorem bp.ok(F:bp K x qual st f fd)(S:bD N ps (bb st))(len:∀vs H Q E,sp vs H Q E->vs.length=ps.length)(f_:∀(aR:Aa) (A:Ag) (outer:List Env) (s:Ab) (H:Hp) (vs:ag) (Q:VK) (E:XK),aY k (A.deeper (envOfC qual (bb st) s.heap.objs.size f aR))->sp vs H Q E->
   ∃t,yf (xc ba P w K mg base N qual (bb st) f aR A outer s H E).JB (iM st) t/\t { nx:=λ_ H'=>Q .non H',rt:=Q } (start N vs) H):!aj ba (k+1) f fd ps sp:=by
 let#[oc,od,kV,doc,pm,an,aR,ct,xJ,rfl,lk,hE]:=F.ex;apply ZX lk hE S len λA outer s H vs Q E hr xM=>?_;let#[t,h,q]:=f_ aR A outer s H vs Q E hr xM;exact#[t,h.JB,q]
theorem bp.bI(F:bp K x qual st f fd)(S:bD N ps (bb st))(f_:∀(aR:Aa) (A:Ag) (outer:List Env) (s:Ab) (H:Hp) (vs:ag) (Q:VK) (E:XK),aY k (A.deeper (envOfC qual (bb st) s.heap.objs.size f aR))->sp vs H Q E->
   ∃t,yf (xc ba P w K mg base N qual (bb st) f aR A outer s H E).JB (iM st) t/\t { nx:=λ_ H'=>Q .non H',rt:=Q } (start N vs) H)(len:∀vs H Q E,sp vs H Q E->vs.length=ps.length:=by intro vs H Q E h;first|(cases h;subst_vars;rfl)|(let#[rfl,_]:=h;rfl)|(let#[_,rfl,_]:=h;rfl)|(let#[_,_,rfl,_]:=h;rfl)|(let#[_,_,_,rfl,_]:=h;rfl)|(let#[_,_,_,_,rfl,_]:=h;rfl)):!aj ba (k+1) f fd ps sp:=F.ok S len f_
theorem bp.binds(F:bp K x qual st f fd)(h:∀(kV doc pm:Aa) (an:Option Addr) (aR ct:Aa) (us:ax),us.length=ps.length->bindArgs (PySem.W.fnOf x qual (vI st) (iM st) (bb st) .none kV doc pm an aR ct) #[us,[]]=pure (ps.zip us)):Bt K fd ps []:=by
 let#[oc,od,kV,doc,pm,an,aR,ct,xJ,rfl,lk,hE]:=F.ex;exact .all (h kV doc pm an aR ct)
theorem VC{oc:Aa}{od an:Option Addr}{xJ:Array (Option Aa)}{kV doc pm aR ct:Aa}(l:K.lookup f=some #[oc,od,.func (PySem.W.fnOf x qual (vI st) (iM st) (bb st) .none kV doc pm an aR ct),xJ])(c:PySem.W.codeIn K aR qual=true)(k:PySem.W.keepIn K (.ref f)=true):bp K x qual st f (PySem.W.fnOf x qual (vI st) (iM st) (bb st) .none kV doc pm an aR ct):=#[#[oc,od,kV,doc,pm,an,aR,ct,xJ,Z,l,c],k]
theorem eV{A:Ag}(hr:aY k A):A.units+1<cLine:=Nat.lt_of_le_of_lt (Nat.add_le_add_left (by decide:1<=64) _) hr.units
theorem pv(i:Nat){pos:Pos}(hN:X.N[i]? = some x:=by rfl)(hv:Mc X.env.scope x:=by first|exact Or.inl Z|exact Or.inr (Or.inl Z)|exact Or.inr (Or.inr Z))(hd:(x == ("__debug__":Str))=false:=by decide)(hE:(x == ("__classdict__":Str))=false:=by decide):PE X (.Name x pos) (Cf i):=lz_ hN hv hd hE
inductive dz' (xs:ag) (H:Hp) (Q:VK):Prop
 |mk:∀a kvs,xs=[V.ref a]->H a=some (.dK kvs)->Q (.int kvs.length) H->dz' xs H Q
theorem id_:gJ X (.builtin "len") dz':=by
 intro pins s σ H xs us Q I r h;let#[a,kvs,rfl,ha,q]:=h;let#[u,rfl,ru]:=vals1 r;cases ru;exact mh_ I (.inl ha) λt s' I'=>#[.int kvs.length,H,I',#[t,Z],q]
variable{A B:Prop}
theorem bE(h:B):if false=true then A else B:=by
 rw[ao gM];exact h
theorem fG(h:A):if true=true then A else B:=by
 rw[aA Z];exact h
variable{c:Prop}
theorem aM[Decidable c](h1:c->A)(h2:¬c->B):if c then A else B:=by
 by_cases h:c
 ·rw[aA h];exact h1 h
 ·rw[ao h];exact h2 h
theorem DG[Decidable c](hc:c)(h:B):if (!decide c)=true then A else B:=by
 rw[cw hc];exact bE h
def aa(H H':Hp):Prop:=∀b o,H b=some o->H' b=some o
theorem aa.refl(H:Hp):aa H H:=λ_ _ h=>h
variable{H:Hp}
theorem aa.trans{H1 H2:Hp}(a:aa H H1)(b:aa H1 H2):aa H H2:=λc o h=>b c o (a c o h)
theorem aa.free{H':Hp}(e:aa H H'){l:Addr}(h:H' l=Option.none):H l=Option.none:=by
 cases q:H l with
 |none=>rfl
 |some o=>
  rw[e l o q] at h;cases h
section
variable{κ:Type}[DecidableEq κ]
theorem kp_{kvs:List (κ × V)}{k:κ}{v:V}(h:bK kvs k=some v):k∈kvs.map (·.1):=by
 have q:(kvs.any λkv=>decide (kv.1=k))=true:=by
  rw[PH,h]
  all_goals rfl
 let#[p,hp,e]:=List.any_eq_true.mp q;exact bh.mpr #[p,hp,vJ e]
end
end L2
local macro_rules|`(%[$x,*|$_])=>do return (<-x.getElems.foldrM (λe (a:Lean.Term)=>if e.raw.isNatLit?.isSome then`(L2.di (L2.pv $e) $a)else`(L2.di $e $a)) (<-`(L2.aE)))
namespace L2
open PySem PySem.Spec PyProof.Rows
def qa(env:Env):List (Str × NameKind)->List (Str × Addr)->List (Str × Addr)
 |[],cs=>cs
 |(n,k)::r,cs=>qa env r (if k == .free then (n,(env.cells.lookup n).getD 0)::cs else cs)
theorem YM{env:Env}(f:Str × NameKind->List (Str × Addr)->Sem (ForInStep (List (Str × Addr))))
  (hf:∀n k cs,f (n,k) cs=if (k == .free)=true then (do let a <- cellOf env n;pure (.yield ((n,a)::cs))) else pure (.yield cs)) :
  ∀(names:List (Str × NameKind)) (cs:List (Str × Addr)),(∀x∈names,x.2=.free->∃c,env.cells.lookup x.1=some c)->forIn names cs f=(pure (qa env names cs):Sem _)
 |[],cs,_=>by rw[List.forIn_nil];rfl
 |(n,k)::r,cs,h=>by
  rw[List.forIn_cons,hf];have hr:∀x∈r,x.2=.free->∃c,env.cells.lookup x.1=some c:=λx hx=>h x (dF _ hx);unfold qa;by_cases hk:(k == NameKind.free)=true
  ·let#[c,hc]:=h (n,k) c8 (by simpa using hk);have hc:env.cells.lookup n=some c:=hc;rw[aA hk,aA hk];have e:cellOf env n=pure c:=by unfold cellOf;rw[hc]
   rw[e];simp only[pure_bind];rw[YM f hf r _ hr,hc];rfl
  ·rw[ao hk,ao hk];simp only[pure_bind];exact YM f hf r _ hr
variable{scope:Scope}{env:Env}
theorem cg_(h:∀x∈scope.names,x.2=.free->∃c,env.cells.lookup x.1=some c):closureFor scope env=pure (qa env scope.names []):=by
 simp only[closureFor];rw[YM (env:=env) _ (λn k cs=>by by_cases hk:(k == NameKind.free)=true<;>simp[hk]) scope.names [] h]
 simp only[pure_bind]
theorem dA_{env:Env}:∀{names:List (Str × NameKind)} {cs:List (Str × Addr)} {x:Str} {c:Addr},(x,c)∈qa env names cs->(x,c)∈cs∨((x,NameKind.free)∈names/\c=(env.cells.lookup x).getD 0)
 |[],cs,x,c,h=>.inl h
 |(n,k)::r,cs,x,c,h=>by
  unfold qa at h;rcases dA_ h with h|⟨h,e⟩
  ·by_cases hk:(k == NameKind.free)=true
   ·rw[aA hk] at h;rcases bW.mp h with q|q
    ·cases q;have:k=.free:=by simpa using hk
     subst this;exact .inr #[c8,Z]
    ·exact .inl q
   ·rw[ao hk] at h;exact .inl h
  ·exact .inr #[dF _ h,e]
theorem Yv{env:Env}:∀{names:List (Str × NameKind)} {cs:List (Str × Addr)} {x:Str},(x,NameKind.free)∈names∨(∃c,(x,c)∈cs)->∃c,(x,c)∈qa env names cs
 |[],cs,x,h=>by
  rcases h with h|h
  ·cases h
  ·exact h
 |(n,k)::r,cs,x,h=>by
  unfold qa;apply Yv ?_;rcases h with h|⟨c,h⟩
  ·rcases bW.mp h with e|h
   ·cases e;exact .inr #[(env.cells.lookup n).getD 0,by rw[aA (by decide)];exact c8]
   ·exact .inl h
  ·apply .inr #[c,?_];split
   ·exact dF _ h
   ·exact h
theorem YS:∀(names:List (Str × NameKind)) (n:Nat) (acc cl:List (Str × Addr)),cellsFrom n names (acc++cl)=cellsFrom n names acc++cl
 |[],_,_,_=>rfl
 |(x,k)::r,n,acc,cl=>by
  unfold cellsFrom;split
  ·exact YS r (n+1) ((x,n)::acc) cl
  ·exact YS r n acc cl
theorem YL:∀{names:List (Str × NameKind)} {n:Nat} {acc:List (Str × Addr)} {x:Str} {c:Addr},(x,c)∈cellsFrom n names acc->(x,c)∈acc∨(x,NameKind.cell)∈names
 |[],_,_,_,_,h=>.inl h
 |(y,k)::r,n,acc,x,c,h=>by
  unfold cellsFrom at h;by_cases hk:(k == NameKind.cell)=true
  ·rw[aA hk] at h;rcases YL h with h|h
   ·rcases bW.mp h with e|h
    ·cases e;have:k=.cell:=by simpa using hk
     subst this;exact .inr c8
    ·exact .inl h
   ·exact .inr (dF _ h)
  ·rw[ao hk] at h;rcases YL h with h|h
   ·exact .inl h
   ·exact .inr (dF _ h)
theorem YQ{α:Type}:∀{l:List (Str × α)} {x:Str} {c:α},(x,c)∈l->∃c',l.lookup x=some c'
 |(k,v)::r,x,c,h=>by
  rw[Et];cases hb:x == k with
  |true=>exact#[v,Z]
  |false=>
   rcases bW.mp h with e|h
   ·cases e;simp at hb
   ·exact YQ h
def xh(scope:Scope)(C:Addr)(env:Env):Env:=
 { scope:=relabel scope env,locals:=C,globals:=env.globals,cells:=cellsFrom (C+1) scope.names (qa env scope.names []),qual:=env.qual,func:=none,code:=env.code,frame:=env.frame,builtins:=env.builtins }
theorem d3_{M:Model}{A:Ag}{E:Aa->Ab->Prop}{s:Ab}{cl:List (Str × Addr)}{Q:Env->Ab->Prop}(h:Q { scope:=scope,locals:=s.heap.objs.size,globals:=env.globals,cells:=cellsFrom (s.heap.objs.size+1) scope.names cl,qual:=env.qual,func:=none,code:=env.code,frame:=env.frame,builtins:=env.builtins }
   { s with heap:=pushCells (s.heap.push { cls:=.type "dict",data:=.dict #[] }) scope.names }) :
  wpAny M A (newFunctionEnv scope env.globals cl [] env.qual none .none (some env)) Q E s:=by
 simp only[newFunctionEnv,Option.isSome_some,if_true];apply aP (wpAny_alloc ?_);apply aP (wpAny_layCells _ (λname kind cells=>by cases hkc:kind == NameKind.cell<;>simp[hkc]) _ _ _ _ ?_)
 rw[show ({ s with heap:=s.heap.push { cls:=.type "dict",data:=.dict #[] } }:Ab).heap.objs.size=s.heap.objs.size+1 from Heap.size_push ..];rw[List.forIn_nil];exact aP (bR (bR h))
def RM(PN:ae)(ps:Scope)(N:ae)(own:Nat)(fr:List Nat)(scope:Scope):Bool:=
 decide (scope.kind=.function)&&decide N.Nodup&&decide (own+fr.length=N.length)
 && (scope.names.all λy=>decide (scope.names.lookup y.1=some y.2))
 && (scope.names.all λy=>if y.2=.free then decide (ps.names.lookup y.1=some .cell) || decide (ps.names.lookup y.1=some .free) else true)
 && ((fr.map λj=>PN[j]?) == (N.drop own).map some)
 && ((N.drop own).all λx=>decide (scope.names.lookup x=some .free))
structure zH (PN:ae) (ps:Scope) (N:ae) (own:Nat) (fr:List Nat) (scope:Scope):Prop where
 kind:scope.kind=.function
 nd:N.Nodup
 len:own+fr.length=N.length
 look:∀y∈scope.names,scope.names.lookup y.1=some y.2
 par:∀y∈scope.names,y.2=.free->ps.names.lookup y.1=some .cell∨ps.names.lookup y.1=some .free
 Bp:(fr.map λj=>PN[j]?)=(N.drop own).map some
 frk:∀x∈N.drop own,scope.names.lookup x=some .free
variable{N:ae}{own:Nat}{fr:List Nat}
theorem zH.of{PN:ae}{ps:Scope}(h:RM PN ps N own fr scope=true):zH PN ps N own fr scope:=by
 unfold RM at h;simp only[Ft,xW,List.all_eq_true,beq_iff_eq] at h;let#[#[#[#[#[#[h1,h2],h3],h4],h5],h6],h7]:=h;apply#[h1,h2,h3,h4,λy hy e=>?_,h6,h7];let q:=h5 y hy;rw[aA e] at q;simpa using q
def KF(own:Nat)(fr:List Nat)(σ:St):St:=List.replicate own none++fr.map λj=>(σ[j]?).join
def iP(X:Cx)(N:ae)(scope:Scope)(fp:ay)(s:Ab)(H:Hp):Cx where
 prog:=X.prog
 w:=X.w
 K:=X.K
 mg:=X.mg
 base:=X.base
 A:=X.A
 N:=N
 dg:=s
 xy:=H
 env:=xh scope s.heap.objs.size X.env
 outer:=X.stack
 stack:=X.stack
 ex:=fp
 fn:=λx=>decide (scope.names.lookup x=some .local) || decide (scope.names.lookup x=some .cell)
 calm:=X.calm
 pn:=[]
 xe:=λ_ _=>False
theorem cS_{ps:Scope}{env:Env}(he:env.scope=ps){x:Str}:∀{names:List (Str × NameKind)} {k:NameKind},names.lookup x=some k->
  (names.map λ(n,k)=>if (k == NameKind.free&&env.scope.kind == .function&&env.kindOf n == some .cell) then (n,NameKind.cell) else (n,k)).lookup x =
   some (if (k == NameKind.free&&env.scope.kind == .function&&env.kindOf x == some .cell) then .cell else k)
 |(n,k')::r,k,h=>by
  rw[Et] at h;rw[el];cases hb:x == n with
  |true=>
   rw[hb] at h;cases h;have e:x=n:=by simpa using hb
   subst e;dsimp only;split<;>simp[Et]
  |false=>
   rw[hb] at h;let ih:=cS_ he (env:=env) h;dsimp only;split<;>(rw[Et,hb];exact ih)
theorem Yo{env:Env}{x:Str}:∀{names:List (Str × NameKind)} {k:NameKind},(names.map λ(n,k)=>if (k == NameKind.free&&env.scope.kind == .function&&env.kindOf n == some .cell) then (n,NameKind.cell) else (n,k)).lookup x=some k->∃k',names.lookup x=some k'/\(k'=k∨(k'=.free/\k=.cell))
 |(n,k')::r,k,h=>by
  rw[el] at h;rw[Et];dsimp only at h;cases hb:x == n with
  |true=>
   apply#[k',Z,?_];by_cases hc:(k' == NameKind.free&&env.scope.kind == .function&&env.kindOf n == some .cell)=true
   ·rw[aA hc,Et,hb] at h;cases h;simp only[Ft,beq_iff_eq] at hc;exact .inr #[hc.1.1,Z]
   ·rw[ao hc,Et,hb] at h;cases h;exact .inl Z
  |false=>
   have h':(r.map λ(n,k)=>if (k == NameKind.free&&env.scope.kind == .function&&env.kindOf n == some .cell) then (n,NameKind.cell) else (n,k)).lookup x=some k:=by
    split at h<;>(rw[Et,hb] at h;exact h)
   exact Yo h'
theorem dP_{α:Type}{x:Str}{c:α}:∀{l r:List (Str × α)},(l++r).lookup x=some c->(x,c)∈l∨(x,c)∈r:=λh=>fM.mp (Bx h)
section
variable{X:Cx}{pins:List (Addr × Obj)}{σ:St}{H:Hp}{s:Ab}{N:ae}{own:Nat}{fr:List Nat}{scope:Scope}{fp:ay}
theorem fa'(I:Inv X pins σ H s)(S:zH X.N X.env.scope N own fr scope){x:Str}{c:Addr}(h:(x,c)∈qa X.env scope.names []):X.env.cells.lookup x=some c/\(x,NameKind.free)∈scope.names:=by
 rcases dA_ h with h|⟨h,e⟩
 ·cases h
 ·let#[c',hc]:=I.ok.has x (S.par _ h Z);apply#[?_,h];rw[e,hc];rfl
theorem Inv.block(I:Inv X pins σ H s)(S:zH X.N X.env.scope N own fr scope)(QX:∀b∈fp,dk X pins H b)(hfo:∀b∈fp,∃o,s.heap.get? b=some o) :
  Inv (iP X N scope fp s H) [] (KF own fr σ) H { s with heap:=pushCells (s.heap.push { cls:=.type "dict",data:=.dict #[] }) scope.names }:=by
 have kept:∀b o,s.heap.get? b=some o->(pushCells (s.heap.push { cls:=.type "dict",data:=.dict #[] }) scope.names).get? b=some o:=λb o e=>pushCells_keeps _ _ b o (cO _ e);let RU:=cellsFrom_ok scope.names (s.heap.push { cls:=.type "dict",data:=.dict #[] }) (s.heap.objs.size+1) [] #[λ_ _ hm=>(nomatch hm),List.Pairwise.nil] (by rw[Heap.size_push];exact bo _);rw[Heap.size_push] at RU;have ecs:cellsFrom (s.heap.objs.size+1) scope.names (qa X.env scope.names [])=cellsFrom (s.heap.objs.size+1) scope.names []++qa X.env scope.names []:=YS _ _ [] _
 have iy:∀{x c},(cellsFrom (s.heap.objs.size+1) scope.names (qa X.env scope.names [])).lookup x=some c->((x,c)∈cellsFrom (s.heap.objs.size+1) scope.names []/\(x,NameKind.cell)∈scope.names/\s.heap.objs.size+1<=c)∨(X.env.cells.lookup x=some c/\(x,NameKind.free)∈scope.names):=λ{x c} h=>by
  rw[ecs] at h;rcases dP_ h with h|h
  ·apply .inl #[h,?_,(RU.empty _ _ h).2];rcases YL h with q|q
   ·cases q
   ·exact q
  ·exact .inr (fa' I S h)
 have Nf:∀{x c},X.env.cells.lookup x=some c->c<s.heap.objs.size:=λ{x c} h=>by
  let#[v,hv]:=I.cell x c h;exact hv.lt
 have hb:∀b∈fp,b<s.heap.objs.size:=λb hb=>let #[o,e]:=hfo b hb;cE e
 apply#[#[I.ok.mod,S.kind,I.ok.glob,I.ok.blt,bo _,λx y c h1 h2=>?_,λx hx=>?_,λx c hf h=>?_,I.ok.hd,I.ok.frames,.inl Z,λb DY=>#[eM (hb b DY),λx c h=>?_],I.bs,?_,λb o e DY=>?_,λb DY hs=>?_,I.stack,I.zS],
  rfl,I.bare,Un.kept kept,#[_,(Heap.Ns.new s.heap (.type "dict")).keeps (pushCells_keeps _ _),λi x v h1 h2 h3=>?_],λx c h=>?_,I.aO.fresh (bo _),λx c h=>?_,λp hp=>absurd (show p∈([]:List (Addr × Obj)) from hp) Z2,I.aO.kept kept,?_]
 ·-- inj
  rcases iy h1 with⟨m1,k1,l1⟩|⟨m1,k1⟩<;>rcases iy h2 with⟨m2,k2,l2⟩|⟨m2,k2⟩
  ·exact name_of_addr RU.apart m1 m2
  ·exact absurd (Nf m2) (Nat.not_lt.mpr (Nat.le_of_succ_le l1))
  ·exact absurd (Nf m1) (Nat.not_lt.mpr (Nat.le_of_succ_le l2))
  ·exact I.ok.inj x y c m1 m2
 ·-- has
  have key:(x,NameKind.cell)∈scope.names∨(x,NameKind.free)∈scope.names:=by
   rcases hx with hx|hx
   ·let#[k',e,q]:=Yo (env:=X.env) (show _=some NameKind.cell from hx);let m:=Bx e;rcases q with q|⟨q,_⟩
    ·exact .inl (q▸m)
    ·exact .inr (q▸m)
   ·let#[k',e,q]:=Yo (env:=X.env) (show _=some NameKind.free from hx);let m:=Bx e;rcases q with q|⟨_,q⟩
    ·exact .inr (q▸m)
    ·cases q
  show ∃c,(cellsFrom (s.heap.objs.size+1) scope.names (qa X.env scope.names [])).lookup x=some c
  have:((cellsFrom (s.heap.objs.size+1) scope.names (qa X.env scope.names [])).lookup x).isSome=true:=by
   apply PySem.W.cellsFrom_some _ _ _ ?_;rcases key with q|q
   ·exact .inl (S.look _ q)
   ·let#[c,m]:=Yv (env:=X.env) (names:=scope.names) (cs:=[]) (x:=x) (.inl q);let#[c',e]:=YQ m;exact .inr (by rw[e];rfl)
  exact Ma.mp this
 ·-- LU
  rcases iy h with⟨_,_,l⟩|⟨_,k⟩
  ·exact Nat.le_of_succ_le l
  ·let e:=S.look _ k;have hf:(decide (scope.names.lookup x=some .local) || decide (scope.names.lookup x=some .cell))=true:=hf;rw[show scope.names.lookup x=some .free from e] at hf;exact absurd hf (by decide)
 ·rcases iy h with⟨_,_,l⟩|⟨q,_⟩
  ·exact Fc (vN (hb b DY) (Nat.le_of_succ_le l))
  ·exact (QX b DY).2.2.2.2.1 x c q
 ·exact AR I.ok.Eh I.sz
 ·rcases (QX b DY).2.2.2.1 with q|q
  ·exact I.ok.Dw b o e q
  ·exact absurd (vN (cE e) I.ok.Eh) Z1
 ·rcases bW.mp (I.yl b hs) with q|q
  ·exact (QX b DY).2.1 q
  ·exact (QX b DY).2.2.1 q
 ·-- names
  have hi:own<=i:=by
   apply Nat.le_of_not_lt λdc=>?_;unfold KF at h2;rw[K1 (by rw[Fn];exact dc),List.getElem?_replicate,aA dc] at h2;cases h2
  have vG:(fr.map λj=>(σ[j]?).join)[i - own]? = some (some v):=by
   unfold KF at h2;rw[IC (by rw[Fn];exact hi),Fn] at h2;exact h2
  have h1:N[i]? = some x:=h1;have hx:(N.drop own)[i - own]? = some x:=by rw[List.getElem?_drop,show own+(i - own)=i by omega];exact h1
  rw[dQ] at vG;cases ej:fr[i - own]? with
  |none=>rw[ej] at vG;cases vG
  |some j=>
   rw[ej] at vG;have vG:(σ[j]?).join=some v:=ee vG
   have DM:σ[j]? = some (some v):=by
    cases q:σ[j]? with
    |none=>rw[q] at vG;cases vG
    |some o=>rw[q] at vG;exact dU some vG
   have hN:X.N[j]? = some x:=by
    let q:=dU (λl=>l[i - own]?) S.Bp;simp only[dQ,ej,hx,Option.map_some] at q;exact ee q
   let kf:=S.frk x (cu hx);let mf:=Bx kf;let#[m,hm,hv]:=I.loc;let pk:=S.par _ mf Z;let#[u,ru,lk]:=hv j x v hN DM (pk.elim (λq=>.inr (.inl q)) λq=>.inr (.inr q));apply#[u,ru,?_];have Zz:X.env.kindOf x=some .cell∨X.env.kindOf x=some .free:=pk;rcases lk with⟨k,_⟩|⟨_,c,hc,iB⟩
   ·rw[k] at Zz;rcases Zz with q|q<;>cases q
   ·let#[c',m1]:=Yv (env:=X.env) (names:=scope.names) (cs:=[]) (x:=x) (.inl mf);let e1:=(fa' I S m1).1;rw[hc] at e1;cases e1;apply .inr #[?_,c,?_,iB.keeps kept]
    ·let q:=cS_ (env:=X.env) Z kf;show (relabel scope X.env).names.lookup x=some .cell∨(relabel scope X.env).names.lookup x=some .free;unfold relabel;rw[q];split
     ·exact .inl Z
     ·exact .inr Z
    ·let#[c2,e2]:=Ma.mp (PySem.W.cellsFrom_some (x:=x) scope.names (s.heap.objs.size+1) (qa X.env scope.names []) (.inr (by let#[c',e]:=YQ m1;rw[e];rfl)));show (cellsFrom (s.heap.objs.size+1) scope.names (qa X.env scope.names [])).lookup x=some c;rcases iy e2 with⟨_,q,_⟩|⟨q,_⟩
     ·have:=S.look _ q;rw[show scope.names.lookup x=some .free from kf] at this;cases this
     ·rw[hc] at q;cases q;exact e2
 ·-- cells
  rcases iy h with⟨q,_,_⟩|⟨q,_⟩
  ·exact#[_,(RU.empty _ _ q).1]
  ·let#[v,hv]:=I.cell x c q;exact#[v,hv.keeps kept]
 ·rcases iy h with⟨q,_,l⟩|⟨q,_⟩
  ·exact I.aO.fresh Z1
  ·exact I.eL x c q
 ·show (KF own fr σ).length=N.length;unfold KF;rw[dY,Fn,ak];exact S.len
end
def Qc(X:Cx)(ifs:List Expr)(t:TT):Prop:=
 ∀(pins:List (Addr × Obj)) (s:Ab) (σ:St) (H:Hp) (Q:Bool->Hp->Prop),Inv X pins σ H s->t σ H Q->
  wpAny (model X.prog X.w) X.A (forIn ifs true λc r=>if r=true then do let ok <- isTrue c X.env (eval c X.env);pure (ForInStep.yield ok) else pure (ForInStep.yield r)) (TP X pins σ Q) X.xe s
def Cc:TT:=λ_ H Q=>Q true H
variable{σ:St}
theorem dM{H:Hp}{A B:Hp->Prop}(h:A H):Cc σ H λb H4=>if b=true then A H4 else B H4:=by
 unfold Cc;exact fG h
variable{X:Cx}
theorem iH:Qc X [] Cc:=λ_ _ _ H _ I h=>wpAny_tests_nil #[H,I,h]
theorem VN{c:Expr}{t:TT}(h:PT X c t):Qc X [c] t:=λpins s σ H Q I q=>wpAny_tests_one (h pins s σ H Q I q)
def Ki(J:It)(g:TG)(tc:TT)(te:TE)(yg:St)(D:Addr)(H1:Hp)(Q:VK):Prop:=∃W:Nat->Nat->St->Hp->Prop,
 (∃m,W 0 m yg (upd H1 D (.lst [])))/\∀i m bq H',W i m bq H'->(J.stop i H'/\Q (.ref D) H') ∨
  (J.go i H'/\∃Nx:St->Hp->Prop,(∀gz H2,Nx gz H2->∃m',m'<m/\W (i+1) m' gz H2) /\
   ∀x H2,J.Fw i H' x H2->g x bq H2 λxD H3=>tc xD H3 λb H4=>if b=true then te xD H4 λy H5=>∃out,H5 D=some (.lst out)/\out.length<sizeLine/\Nx xD (upd H5 D (.lst (out++[y]))) else Nx xD H4)
def G7(wi:TI)(own:Nat)(fr:List Nat)(g:TG)(tc:TT)(te:TE):TE:=λσ H Q=>wi σ H λJ H1=>∀D,H1 D=none->Ki J g tc te (KF own fr σ) D H1 Q
variable{Q:VK}{J:It}{D:Addr}{elt iter tg:Expr}{ifs:List Expr}{pos:Pos}{g:TG}{tc:TT}{te:TE}
theorem h0_{R:Result->Ab->Prop}{pins:List (Addr × Obj)}{H1:Hp}{s2:Ab}{it:Addr}{fp:ay}{tn:Nat->Heap->Prop}(S:zH X.N X.env.scope N own fr scope)(hc:X.calm=true)(hg:∀fp s H,PG (iP X N scope fp s H) tg g)(ht:∀fp s H,Qc (iP X N scope fp s H) ifs tc)(he:∀fp s H,PE (iP X N scope fp s H) elt te)(I3:Inv X pins σ (upd H1 D (.lst [])) s2)(T:Turn X.prog X.w X.K tg J fp it tn)(st:tn 0 s2.heap)(f2:∀b∈fp,dk X pins (upd H1 D (.lst [])) b)(k:Ki J g tc te (KF own fr σ) D H1 Q)(hR:∀H' s',Inv X pins σ H' s'->(∃m,s'.heap.Ns s2.heap.objs.size m)->H' s2.heap.objs.size=none->Q (.ref D) H'->R (.ok .next) s') :
  codeAny (model X.prog X.w) X.A (.compStart (.ListComp elt [#[tg,iter,ifs,0]] scope pos) 0 (.ref it) (.ref D) (xh scope s2.heap.objs.size X.env)) R
   { s2 with heap:=pushCells (s2.heap.push { cls:=.type "dict",data:=.dict #[] }) scope.names }:=by
 let#[W,#[m0,w0],turn]:=k;let I4:=I3.block (N:=N) S f2 (λb hb=>let #[o,e,_]:=T.obj _ _ st b hb;#[o,e]);have kept:∀b o,s2.heap.get? b=some o->(pushCells (s2.heap.push { cls:=.type "dict",data:=.dict #[] }) scope.names).get? b=some o:=λb o e=>pushCells_keeps _ _ b o (cO _ e);have vE:tn 0 (pushCells (s2.heap.push { cls:=.type "dict",data:=.dict #[] }) scope.names):=T.keep _ _ _ st λb hb o e=>kept b o e
 have fx:∀{H':Hp},(∀b∈fp,H' b=none)->∀b∈fp,dk (iP X N scope fp s2 (upd H1 D (.lst []))) [] H' b:=λhn b hb=>
  #[hn b hb,(I4.ok.Rj b hb).1,I4.ok.D0 b hb,.inl hb,(I4.ok.Rj b hb).2,λp hp=>absurd (show p∈([]:List (Addr × Obj)) from hp) Z2]
 have loop:codeAny (model X.prog X.w) X.A (.compLoop (.ListComp elt [#[tg,iter,ifs,0]] scope pos) 0 (.ref it) (.ref D) (xh scope s2.heap.objs.size X.env)) R
   { s2 with heap:=pushCells (s2.heap.push { cls:=.type "dict",data:=.dict #[] }) scope.names }:=by
  apply codeAny_loop Z (λn s'=>∃i bq H',Inv (iP X N scope fp s2 (upd H1 D (.lst []))) [] bq H' s'/\tn i s'.heap/\(∀b∈fp,H' b=none)/\W i n bq H') (λn s' hI=>?_) m0 #[0,_,_,I4,vE,λb hb=>(f2 b hb).1,w0];let#[i,bq,H',I5,gB,AJ,w5]:=hI;show wpAny _ X.A ((compTurn (.ListComp elt [#[tg,iter,ifs,0]] scope pos) 0 (.ref it) (.ref D) (xh scope s2.heap.objs.size X.env)).onRaise (λx=>do noteFrame x (xh scope s2.heap.objs.size X.env);theTreesLotGoes x)) _ _ s';apply wpAny_noted (wpAny_mono (E:=λ_ _=>False) ?_ (λ_ _ q=>q) λ_ _ q=>q.elim);rw[compTurn_list];apply aP (wpAny_standAt (aP ?_));rcases turn i n bq H' w5 with⟨stop,q⟩|⟨go,Nx,hN,step⟩
  ·apply aZ (T.done (iP X N scope fp s2 (upd H1 D (.lst []))) Z Z Z hc i [] s' bq H' _ I5 (fx AJ) gB stop) λr s6 ⟨hr,I6⟩=>?_;subst hr;apply bR (hR H' s6 (I3.PM I6.os I6.base I6.aO I6.bare λb hb=>?_) ?_ I6.free q)
   ·exact#[(f2 b hb).2.2.2.1,(f2 b hb).2.1,(f2 b hb).2.2.2.2.1,(f2 b hb).2.2.2.2.2]
   ·let#[m,hm,_]:=I6.loc;exact#[m,hm]
  ·apply aZ (T.item (iP X N scope fp s2 (upd H1 D (.lst []))) Z Z Z hc i [] s' bq H' _ I5 (fx AJ) gB go) λr s6 ⟨u,hr,h6⟩=>?_;subst hr;apply aP (aZ h6 λ_ s7 ⟨x,H7,I7,r7,y7,Cs,fr7⟩=>?_);let I7':=I7.pinned (fx fr7) (T.obj _ _ Cs)
   have back:∀{EG:St} {H8:Hp} {s8:Ab},Inv (iP X N scope fp s2 (upd H1 D (.lst []))) ([]++GB fp s7.heap) EG H8 s8->Nx EG H8->∃m,m<n/\∃i bq H',Inv (iP X N scope fp s2 (upd H1 D (.lst []))) [] bq H' s8/\tn i s8.heap/\(∀b∈fp,H' b=none)/\W i m bq H':=λ{EG H8 s8} I8 n8=>by
    let#[m',hm,w8]:=hN EG H8 n8;apply#[m',hm,i+1,EG,H8,I8.eQ,T.keep _ _ _ Cs λb hb o e=>(I8.pin (b,o) (zF _ (zF _ (Su hb e)))).1,λb hb=>?_,w8];let#[o,e,d]:=T.obj _ _ Cs b hb;exact (I8.pin (b,o) (zF _ (zF _ (Su hb e)))).2.1
   apply aP (aZ (hg fp s2 (upd H1 D (.lst [])) _ s7 bq H7 x u _ I7' r7 (step x H7 y7)) λ_ s8 ⟨EG,H8,I8,q8⟩=>?_);apply aP (aZ (ht fp s2 (upd H1 D (.lst [])) _ s8 EG H8 _ I8 q8) λb s9 ⟨H9,I9,q9⟩=>?_);cases b with
   |false=>
    simp only[GO,if_false] at q9 ⊢;exact bR #[Z,back I9 q9]
   |true=>
    simp only[if_true] at q9 ⊢;apply aP (aP (aZ (he fp s2 (upd H1 D (.lst [])) _ s9 EG H9 _ I9 q9) λy TL ⟨yv,IJ,I10,r10,out,hD,hz,q10⟩=>?_));apply aP (aZ (xp (X:=iP X N scope fp s2 (upd H1 D (.lst []))) _ TL EG IJ (.ref D) [yv] (.ref D) [y] (λ_ H'=>Nx EG H') I10 Z (.cons r10 .nil) #[D,out,yv,Z,Z,hD,hz,q10]) λ_ Hg ⟨_,H11,I11,_,q11⟩=>?_);exact bR (bR #[Z,back I11 q11])
 exact codeAny_compStart_list loop (T.self _ 0 _ _ _ vE loop)
variable{wi:TI}
theorem iS(N:ae)(own:Nat)(fr:List Nat)(hi:PI X tg iter wi)(hg:∀fp s H,PG (iP X N scope fp s H) tg g)(ht:∀fp s H,Qc (iP X N scope fp s H) ifs tc)(he:∀fp s H,PE (iP X N scope fp s H) elt te)
  (S:RM X.N X.env.scope N own fr scope=true:=by kernel_rfl) (hc:X.calm=true:=by rfl) (hs:∀x,foldedSetIterable iter X.env x=pure x:=by intro _;rfl) :
  PE X (.ListComp elt [#[tg,iter,ifs,0]] scope pos) (G7 wi own fr g tc te):=by
 intro pins s σ H Q I h;let S':=zH.of S;rw[eval_ListComp];have DW:closureFor scope X.env=pure (qa X.env scope.names []):=cg_ λx hx e=>I.ok.has x.1 (S'.par x hx e);apply wpAny_comprehension_free (use:=none) Z hs DW S'.kind (λx hx e=>by rw[S'.look x hx,e]) (aZ (hi pins s σ H _ I h) λv s1 h1=>aZ h1 λQO s2 h2=>?_);let#[it,fp,tn,J,H1,rfl,I2,T,fj,f2,k]:=h2;apply wpAny_newObj_type (d3_ ?_);have hD:H1 s2.heap.objs.size=none:=I2.fresh;let I3:=I2.F8 (ys:=[]) (its:=[]) (t':=s2.toks) .nil (gx _);have kept:∀b o,s2.heap.get? b=some o->(s2.heap.push { cls:=.type "list",data:=.seq ([]:ax).toArray }).get? b=some o:=λb o e=>cO _ e;apply h0_ (own:=own) (fr:=fr) (Q:=Q) S' hc hg ht he I3 T (T.keep _ _ _ fj λb hb o e=>kept b o e) (λb hb=>?_) (k _ hD) ?_
 ·apply#[?_,(f2 b hb).2];let#[o,e,_]:=T.obj _ _ fj b hb;rw[au (eM (cE e))];exact (f2 b hb).1
 ·rintro H' s' I' ⟨m,hm⟩ hn q;apply#[m,hm,λh' BI=>#[.ref s2.heap.objs.size,H',?_,Z,q]]
  exact I'.turned (t':=s'.toks) (λb o hb e=>BI.extBut b o hb e) hn (Fc I3.lt) (.inr I3.sz) (λx c Vv e=>by
   let#[v,hv]:=I3.cell x c Vv
   exact absurd hv.lt (by rw[e];exact Ei _)) λp hp e=>by
    have:=(I3.pin p hp).1;rw[e] at this;exact absurd (cE this) (Ei _)
def MH(i:Nat)(te:TE):TS:=λD σ H=>te σ H λx H1=>D.nx (σ.set i (some x)) H1
theorem RG{i:Nat}{x:Str}{px:Pos}(N:ae)(own:Nat)(fr:List Nat)(hN:X.N.Nodup)(hi':X.N[i]? = some x)(hx:Loc X.env.scope x)
  (hi:PI X tg iter wi) (hg:∀fp s H,PG (iP X N scope fp s H) tg g) (ht:∀fp s H,Qc (iP X N scope fp s H) ifs tc) (he:∀fp s H,PE (iP X N scope fp s H) elt te) {pos':Pos}
  (S:RM X.N X.env.scope N own fr scope=true:=by kernel_rfl) (hc:X.calm=true:=by rfl) (hs:∀x,foldedSetIterable iter X.env x=pure x:=by intro _;rfl)
  (hf:X.fn x=true∨X.env.scope.names.lookup x=some .local:=by first|exact .inl Z|exact .inr Z|assumption)
  (hsw:swapsWith (.ListComp elt [#[tg,iter,ifs,0]] scope pos) (some (.Name x px)) pos'.line X.env=pure true:=by rfl) :
  PS X (.Assign [.Name x px] (.ListComp elt [#[tg,iter,ifs,0]] scope pos) pos') (MH i (G7 wi own fr g tc te)):=by
 intro pins s σ H E I h;let S':=zH.of S;rw[exec_Assign_Name_used _ _ _ _ hsw];apply aP (wpAny_standAt (aP ?_));show wpAny _ X.A (do let _ <- comprehension (.ListComp elt [#[tg,iter,ifs,0]] scope pos) scope X.env _ (newList []) false (eval iter X.env) (some (assign (.Name x px) X.env))) _ _ s;have DW:closureFor scope X.env=pure (qa X.env scope.names []):=cg_ λx hx e=>I.ok.has x.1 (S'.par x hx e)
 apply aP (wpAny_mono (wpAny_comprehension_free (use:=some (assign (.Name x px) X.env)) (Q:=λ_ s'=>SP X pins E .next s') Z hs DW S'.kind (λx hx e=>by rw[S'.look x hx,e]) (aZ (hi pins s σ H _ I h) λv s1 h1=>aZ h1 λQO s2 h2=>?_))
  (λ_ s' hq=>bR (bR hq)) λ_ _ e=>e)
 let#[it,fp,tn,J,H1,rfl,I2,T,fj,f2,k]:=h2;apply wpAny_newObj_type (d3_ ?_);have hD:H1 s2.heap.objs.size=none:=I2.fresh;let I3:=I2.F8 (ys:=[]) (its:=[]) (t':=s2.toks) .nil (gx _);have kept:∀b o,s2.heap.get? b=some o->(s2.heap.push { cls:=.type "list",data:=.seq ([]:ax).toArray }).get? b=some o:=λb o e=>cO _ e;apply h0_ (own:=own) (fr:=fr) (Q:=λx H1=>E.nx (σ.set i (some x)) H1) S' hc hg ht he I3 T (T.keep _ _ _ fj λb hb o e=>kept b o e) (λb hb=>?_) (k _ hD) ?_
 ·apply#[?_,(f2 b hb).2];let#[o,e,_]:=T.obj _ _ fj b hb;rw[au (eM (cE e))];exact (f2 b hb).1
 ·rintro H' s' I' ⟨m,hm⟩ hn q
  have E2:∀y c,X.env.cells.lookup y=some c->c≠(s2.heap.push { cls:=.type "list",data:=.seq ([]:ax).toArray }).objs.size:=λy c Vv e=>by
   let#[v,hv]:=I3.cell y c Vv;exact absurd hv.lt (by rw[e];exact Ei _)
  show wpAny _ X.A (assign (.Name x px) X.env (.ref s2.heap.objs.size)) _ _ s';apply wpAny_assign_Name (f0_ (v:=V.ref s2.heap.objs.size) I' hN hi' hx Z (λBE I'' ⟨a,JN,ha⟩=>?_) hf)
  have hCa:(s2.heap.push { cls:=.type "list",data:=.seq ([]:ax).toArray }).objs.size≠a:=by
   rcases ha with e|e
   ·rw[e];exact Fc I3.lt
   ·exact (E2 x a e).symm
  apply#[m,hm.sameBut JN hCa,λh' BI=>#[_,H',?_,q]]
  exact I''.turned (t':=BE.toks) (λb o hb e=>BI.extBut b o hb e) hn (Fc I3.lt) (.inr I3.sz) E2 λp hp e=>by
    have:=(I3.pin p hp).1;rw[e] at this;exact absurd (cE this) (Ei _)
def Mi(g:TG)(own:Nat)(fv:List aJ)(dec:V->Hp->List aJ->Prop):Prop:=
 ∀(x:V) (o:List aJ) (H:Hp) (k:cn) (o3:List aJ),o.length=own->dec x H o3->k (o3++fv) H->g x (o++fv) H k
variable{fv:List aJ}
theorem dP:Mi (xT 0) 1 fv (λx _ o3=>o3=[some x]):=λx o H k o3 hl e h=>by
 subst e
 match o,hl with
 |[a],_=>exact h
inductive Pn (K:af) (x:V) (H:Hp) (o3:List aJ):Prop
 |mk:∀p u v,x=.ref p->iI K H p [u,v]->o3=[some u,some v]->Pn K x H o3
inductive Pm (K:af) (x:V) (H:Hp) (o3:List aJ):Prop
 |mk:∀p u v w,x=.ref p->iI K H p [u,v,w]->o3=[some u,some v,some w]->Pm K x H o3
variable{K:af}
theorem OQ:Mi (pT K 2 (EZ (xT 0) (EZ (xT 1) Gk))) 2 fv (Pn K):=λx o H k o3 hl e h=>by
 let#[p,u,v,rfl,hp,rfl]:=e
 match o,hl with
 |[a,b],_=>exact#[p,[u,v],Z,hp,Z,u,[v],Z,v,[],Z,Z,h]
theorem VI:Mi (pT K 3 (EZ (xT 0) (EZ (xT 1) (EZ (xT 2) Gk)))) 3 fv (Pm K):=λx o H k o3 hl e h=>by
 let#[p,u,v,w,rfl,hp,rfl]:=e
 match o,hl with
 |[a,b,c],_=>exact#[p,[u,v,w],Z,hp,Z,u,[v,w],Z,v,[w],Z,w,[],Z,Z,h]
variable{H:Hp}{dec:V->Hp->List aJ->Prop}{yg:St}
theorem GF(DM:yg=List.replicate own none++fv)(G:Mi g own fv dec)(n:Nat)(Pv:dG)(h0:Pv 0 [] (upd H D (.lst [])))(N_:∀out H',Pv n out H'->J.stop n H'/\Q (.ref D) H')(OB:∀i out H',i<n->Pv i out H'->J.go i H'/\∀x H2,J.Fw i H' x H2->∃o3,dec x H2 o3/\o3.length=own/\∀Nx:Hp->Prop,(∀zc H2,Pv (i+1) zc H2->Nx H2)->
   tc (o3++fv) H2 λb H4=>if b=true then te (o3++fv) H4 λy H5=>∃gD,H5 D=some (.lst gD)/\gD.length<sizeLine/\Nx (upd H5 D (.lst (gD++[y]))) else Nx H4) :
  Ki J g tc te yg D H Q:=by
 subst DM;apply#[λi m bq H'=>m=n - i/\i<=n/\(∃o:List aJ,bq=o++fv/\o.length=own)/\∃out,Pv i out H',#[n,by simp,gx _,#[_,Z,Fn],_,h0],?_];rintro i m bq H' ⟨rfl,hi,⟨o,rfl,ho⟩,out,p⟩;by_cases dc:i<n
 ·let#[go,k]:=OB i out H' dc p;apply .inr #[go,λgz H2=>(∃o:List aJ,gz=o++fv/\o.length=own)/\∃out,Pv (i+1) out H2,λgz H2 q=>#[n - (i+1),by omega,Z,dc,q],λx H2 y=>?_];let#[o3,d,l3,q]:=k x H2 y;exact G x o H2 _ o3 ho d (q (λH2=>(∃o:List aJ,o3++fv=o++fv/\o.length=own)/\∃out,Pv (i+1) out H2) λzc H2 z=>#[#[o3,Z,l3],zc,z])
 ·have e:i=n:=by omega
  subst e;exact .inl (N_ out H' p)
theorem yd{a:Addr}{xs:ag}(DM:yg=List.replicate own none++fv)(G:Mi g own fv dec)(Pv:dG)(h0:Pv 0 [] (upd H D (.lst [])))(hl:∀i out H',i<=xs.length->Pv i out H'->d9 K H' a xs)(hd:∀out H',Pv xs.length out H'->Q (.ref D) H')(OB:∀i x out H',xs[i]? = some x->Pv i out H'->∃o3,dec x H' o3/\o3.length=own/\∀Nx:Hp->Prop,(∀zc H2,Pv (i+1) zc H2->Nx H2)->
   tc (o3++fv) H' λb H4=>if b=true then te (o3++fv) H4 λy H5=>∃gD,H5 D=some (.lst gD)/\gD.length<sizeLine/\Nx (upd H5 D (.lst (gD++[y]))) else Nx H4) :
  Ki (II K a) g tc te yg D H Q:=by
 apply GF DM G xs.length Pv h0 (λout H' p=>#[#[xs,hl _ _ _ (bo _) p,bo _],hd out H' p]) λi out H' hi p=>?_;let q:=hl i out H' (Nat.le_of_lt hi) p;apply#[#[xs,xs[i],q,by simp[hi]],λx H2 y=>?_];let#[e,y]:=y;subst e;exact OB i x out _ (y xs q) p
end L2
namespace Qj
open PySem PySem.W PyProof.Rows
def Ok{α:Type}(f:Nat->Nat->Bool)(n:Nat):KasT α->(α->Prop)->Prop
 |.ret a,Q=>Q a
 |.ask i j k,Q=>i<n/\j<n/\Ok f n (k (f i j)) Q
theorem Ok.bind{α β:Type}{f:Nat->Nat->Bool}{n:Nat}{g:α->KasT β}{Q:β->Prop}:∀{t:KasT α} {R:α->Prop},Ok f n t R->(∀a,R a->Ok f n (g a) Q)->Ok f n (t.bind g) Q
 |.ret a,R,h,k=>k a h
 |.ask i j t,R,h,k=>#[h.1,h.2.1,Ok.bind h.2.2 k]
theorem Ok.imp{α:Type}{f:Nat->Nat->Bool}{n:Nat}{Q R:α->Prop}(k:∀a,Q a->R a):∀{t:KasT α},Ok f n t Q->Ok f n t R
 |.ret a,h=>k a h
 |.ask i j t,h=>#[h.1,h.2.1,Ok.imp k h.2.2]
theorem Ok.wp{α:Type}{f:Nat->Nat->Bool}{n:Nat}{cmp:Nat->Nat->(Bool->Ab->Prop)->Ab->Prop}{s:Ab}(hc:∀i j C,i<n->j<n->C (f i j) s->cmp i j C s){Q:α->Prop}{G:α->Ab->Prop}(k:∀a,Q a->G a s) :
  ∀{t:KasT α},Ok f n t Q->t.kasWp cmp G s
 |.ret a,h=>k a h
 |.ask i j t,h=>hc i j _ h.1 h.2.1 (Ok.wp hc k h.2.2)
structure Ord (f:Nat->Nat->Bool):Prop where
 fP:∀i,f i i=false
 trans:∀{i j k},f j i=false->f k j=false->f k i=false
 GW:∀{i j},f i j=true->f j i=false
variable{p:Array Nat}
variable{i j:Nat}
variable{k:Nat}
variable{n:Nat}
variable{dO:Nat}
section
variable{f:Nat->Nat->Bool}(O:Ord f){N:Nat}
abbrev at'(p:Array Nat)(i:Nat):Nat:=p.getD i 0
def Up(f:Nat->Nat->Bool)(p:Array Nat)(k:Nat):Prop:=∀i j,i<=j->j<k->f (at' p j) (at' p i)=false
def Down(f:Nat->Nat->Bool)(p:Array Nat)(k:Nat):Prop:=∀i j,i<=j->j<k->f (at' p i) (at' p j)=false
def BD(f:Nat->Nat->Bool)(p:Array Nat)(lo k:Nat):Prop:=∀i,lo<=i->i<k->f (at' p i) (at' p (k - 1))=false/\f (at' p (k - 1)) (at' p i)=false
def Good(N:Nat)(p:Array Nat):Prop:=p.Perm (List.range N).toArray
theorem Good.size(h:Good N p):p.size=N:=by
 have:=h.size_eq;simpa using this
theorem Good.lt(h:Good N p)(hN:0<N)(i:Nat):at' p i<N:=by
 unfold at';by_cases hi:i<p.size
 ·have e:p.getD i 0=p[i]:=by simp[Array.getD,hi]
  rw[e];have m:p[i]∈(List.range N).toArray:=h.mem_iff.mp (Array.getElem_mem hi);simpa using m
 ·have e:p.getD i 0=0:=by simp[Array.getD,hi]
  rw[e];exact hN
theorem Good.rev(h:Good N p)(i j:Nat):Good N (kas_rev p i j):=(mirror_perm _ _ _ _).trans h
theorem Good.bub(h:Good N p)(i j:Nat):Good N (bubble p i j):=(bubble_perm _ _ _).trans h
theorem Pb{q:Array Nat}(h:p[i]? = q[j]?):at' p i=at' q j:=by
 unfold at';rw[Array.getD_eq_getD_getElem?,Array.getD_eq_getD_getElem?,h]
theorem Ku(hj:j<=p.size)(k:Nat):at' (kas_rev p i j) k=if i<=k/\k<j then at' p (i+j - 1 - k) else at' p k:=by
 let e:=getElem?_mirror_all (i:=i) hj k;unfold kas_rev;split
 ·rename_i c
  rw[aA c] at e;exact Pb e
 ·rename_i c
  rw[ao c] at e;exact Pb e
theorem _F{l:Nat}(hk:k<p.size)(hl:l<=k)(i:Nat):at' (bubble p k (k - l)) i=if i=l then at' p k else if l<i/\i<=k then at' p (i - 1) else at' p i:=by
 let e:=getElem?_bubble hk (k - l) Z1 i;rw[show k - (k - l)=l by omega] at e;by_cases c:i=l
 ·rw[aA c] at e ⊢;exact Pb e
 ·rw[ao c] at e ⊢;split
  ·rename_i d
   rw[aA d] at e;exact Pb e
  ·rename_i d
   rw[ao d] at e;exact Pb e
include O
theorem Up.more(h:Up f p n)(h1:1<=n)(c:f (at' p n) (at' p (n - 1))=false):Up f p (n+1):=λi j zg hj=>by
 by_cases e:j<n
 ·exact h i j zg e
 ·have e:j=n:=by omega
  subst e;by_cases e2:i=j
  ·subst e2;exact O.fP _
  ·exact O.trans (h i (j - 1) Z1 Z1) c
theorem Down.more(h:Down f p n)(h1:1<=n)(c:f (at' p (n - 1)) (at' p n)=false):Down f p (n+1):=λi j zg hj=>by
 by_cases e:j<n
 ·exact h i j zg e
 ·have e:j=n:=by omega
  subst e;by_cases e2:i=j
  ·subst e2;exact O.fP _
  ·exact O.trans c (h i (j - 1) Z1 Z1)
theorem VH{p:Array Nat}(g:Good N p)(hN:0<N):∀(m n:Nat),1<=n->Up f p n->Ok f N (kas_asc p m n) λr=>n<=r/\r<=n+m/\Up f p r/\(r<n+m->f (at' p r) (at' p (r - 1))=true)
 |0,n,_,h=>#[bo _,bo _,h,λq=>absurd q Z1]
 |m+1,n,h1,h=>by
  apply#[g.lt hN _,g.lt hN _,?_];dsimp only;by_cases c:f (at' p n) (at' p (n - 1))=true
  ·rw[aA c];exact#[bo _,by omega,h,λ_=>c]
  ·rw[ao c];apply (VH g hN m (n+1) Z1 (h.more O h1 (by simpa using c))).imp λr ⟨a,b,u,z⟩=>#[by omega,by omega,u,λq=>z Z1]
theorem BD.rev{lo:Nat}(h:BD f p lo k)(hk:k<=p.size)(i:Nat):f (at' (kas_rev p lo k) i) (at' p i)=false/\f (at' p i) (at' (kas_rev p lo k) i)=false:=by
 rw[Ku hk];split
 ·rename_i c
  let#[a1,a2]:=h i c.1 c.2;let#[b1,b2]:=h (lo+k - 1 - i) Z1 Z1;exact#[O.trans a2 b1,O.trans b2 a1]
 ·exact#[O.fP _,O.fP _]
theorem Down.rev{lo:Nat}(h:Down f p n)(l:BD f p lo k)(hk:k<=p.size):Down f (kas_rev p lo k) n:=λi j zg hj=>by
 let#[a1,_]:=l.rev O hk i;let#[_,b2]:=l.rev O hk j;exact O.trans (O.trans b2 (h i j zg hj)) a1
theorem Rv(hN:0<N):∀(m:Nat) (p:Array Nat) (n q:Nat),Good N p->1<=n->q+1<=n->n+m<=N->Down f p n->BD f p (n - (q+1)) n->
  Ok f N (kas_desc m p n q) λr=>Good N r.1/\n<=r.2.1/\r.2.1<=n+m/\Down f r.1 r.2.1/\r.2.2+1<=r.2.1/\BD f r.1 (r.2.1 - (r.2.2+1)) r.2.1
 |0,p,n,q,g,h1,hq,hn,d,l=>#[g,bo _,bo _,d,hq,l]
 |m+1,p,n,q,g,h1,hq,hn,d,l=>by
  apply#[g.lt hN _,g.lt hN _,?_];dsimp only;by_cases c:f (at' p n) (at' p (n - 1))=true
  ·rw[aA c];have d2:Down f p (n+1):=d.more O h1 (O.GW c)
   have one:∀p':Array Nat,BD f p' (n+1 - (0+1)) (n+1):=λp' i h2 h3=>by
    have e:i=n+1 - 1:=by omega
    subst e;exact#[O.fP _,O.fP _]
   by_cases hq0:q > 0
   ·rw[aA hq0];have hk:n<=p.size:=by rw[g.size];omega
    exact (Rv hN m _ (n+1) 0 (g.rev _ _) Z1 Z1 Z1 (d2.rev O l hk) (one _)).imp λr ⟨a,b,b2,z⟩=>#[a,by omega,by omega,z]
   ·rw[ao hq0];exact (Rv hN m _ (n+1) 0 g Z1 Z1 Z1 d2 (one _)).imp λr ⟨a,b,b2,z⟩=>#[a,by omega,by omega,z]
  ·rw[ao c];apply#[g.lt hN _,g.lt hN _,?_];dsimp only;have c:f (at' p n) (at' p (n - 1))=false:=by simpa using c
   by_cases e:f (at' p (n - 1)) (at' p n)=true
   ·rw[aA e];exact#[g,bo _,by show n<=n+(m+1);omega,d,hq,l]
   ·rw[ao e];have e:f (at' p (n - 1)) (at' p n)=false:=by simpa using e
    apply (Rv hN m p (n+1) (q+1) g Z1 Z1 Z1 (d.more O h1 e) λi h2 h3=>?_).imp λr ⟨a,b,b2,z⟩=>#[a,by omega,by omega,z];show f (at' p i) (at' p n)=false/\f (at' p n) (at' p i)=false;by_cases ei:i=n
    ·subst ei;exact#[O.fP _,O.fP _]
    ·let#[a1,a2]:=l i Z1 Z1;exact#[O.trans e a1,O.trans a2 c]
def Wx(f:Nat->Nat->Bool)(N dO:Nat)(r:Nat × Array Nat):Prop:=Good N r.2/\1<=r.1/\r.1<=dO/\Up f r.2 r.1
theorem hL_(hN:0<N)(g:Good N p)(h1:1<=n)(hn:n<=dO)(hr:dO<=N)(d:Down f p n):Ok f N (kas_tail3 n dO p) (Wx f N dO):=by
 unfold kas_tail3
 have u:Up f (kas_rev p 0 n) n:=λi j zg hj=>by
  rw[Ku (by rw[g.size];omega),Ku (by rw[g.size];omega),aA Z1,aA Z1];exact d _ _ Z1 Z1
 exact (VH O (g.rev _ _) hN (dO - n) n h1 u).bind λm ⟨a,b,u,_⟩=>#[g.rev _ _,by show 1<=m;omega,by show m<=dO;omega,u]
theorem do_(hN:0<N)(g:Good N p)(hn:n+1<=dO)(hr:dO<=N)(d:Down f p (n+1)):Ok f N (kas_descPart n dO p) (Wx f N dO):=by
 unfold kas_descPart;apply (Rv O hN (dO - (n+1)) p (n+1) 0 g Z1 Z1 Z1 d λi h2 h3=>?_).bind λr ⟨g',a,b,d',hq,l⟩=>?_
 ·have e:i=n+1 - 1:=by omega
  subst e;exact#[O.fP _,O.fP _]
 ·split
  ·exact hL_ O hN (g'.rev _ _) Z1 Z1 hr (d'.rev O l (by rw[g'.size];omega))
  ·exact hL_ O hN g' Z1 Z1 hr d'
theorem iG_(hN:0<N)(g:Good N p)(h1:1<=dO)(hr:dO<=N):Ok f N (kas_count dO p) (Wx f N dO):=by
 unfold kas_count;apply (VH O g hN (dO - 1) 1 (bo _) λi j zg hj=>?_).bind λn ⟨a,b,u,st⟩=>?_
 ·have e:i=j:=by omega
  subst e;exact O.fP _
 ·by_cases e:(n == dO)=true
  ·rw[aA e];exact#[g,a,by show n<=dO;omega,u]
  ·rw[ao e];have e:n≠dO:=by simpa using e
   let c:=st Z1;by_cases h2:n > 1
   ·rw[aA h2];apply#[g.lt hN _,g.lt hN _,?_];dsimp only;by_cases c2:f (at' p 0) (at' p (n - 1))=true
    ·rw[aA c2];exact#[g,a,by show n<=dO;omega,u]
    ·rw[ao c2];have c2:f (at' p 0) (at' p (n - 1))=false:=by simpa using c2
     apply do_ O hN (g.rev _ _) Z1 hr λi j zg hj=>?_;by_cases ej:j<n
     ·rw[Ku (by rw[g.size];omega),Ku (by rw[g.size];omega),aA Z1,aA Z1];exact u _ _ Z1 Z1
     ·have ej:j=n:=by omega
      subst ej;by_cases ei:i=j
      ·subst ei;exact O.fP _
      ·rw[Ku (by rw[g.size];omega),Ku (by rw[g.size];omega),aA Z1,ao Z1];exact O.trans (O.trans (O.GW c) c2) (u 0 _ Z1 Z1)
   ·rw[ao h2];have e1:n=1:=by omega
    subst e1;apply do_ O hN g Z1 hr λi j zg hj=>?_;by_cases ei:i=j
    ·subst ei;exact O.fP _
    ·have q1:i=0:=by omega
     have q2:j=1:=by omega
     subst q1;subst q2;exact O.GW c
theorem WO(hN:0<N){p:Array Nat}{k:Nat}(g:Good N p)(u:Up f p k):∀(m l r:Nat),r - l<=m->l<=r->r<=k->(∀i,i<l->f (at' p k) (at' p i)=false)->(∀i,r<=i->i<k->f (at' p k) (at' p i)=true)->
  Ok f N (kas_place p k m l r) λx=>x<=k/\(∀i,i<x->f (at' p k) (at' p i)=false)/\∀i,x<=i->i<k->f (at' p k) (at' p i)=true
 |0,l,r,hm,hl,hr,h1,h2=>by
  have e:l=r:=by omega
  subst e;exact#[hr,h1,h2]
 |m+1,l,r,hm,hl,hr,h1,h2=>by
  unfold kas_place;by_cases e:l ≥ r
  ·rw[aA e];have e:l=r:=by omega
   subst e;exact#[hr,h1,h2]
  ·rw[ao e];apply#[g.lt hN _,g.lt hN _,?_];dsimp only;by_cases c:f (at' p k) (at' p ((l+r) / 2))=true
   ·rw[aA c];apply WO hN g u m l _ Z1 Z1 Z1 h1 λi h3 h4=>?_;by_cases ei:f (at' p k) (at' p i)=true
    ·exact ei
    ·have ei:f (at' p k) (at' p i)=false:=by simpa using ei
     have:=O.trans (u _ i h3 h4) ei;rw[c] at this;cases this
   ·rw[ao c];have c:f (at' p k) (at' p ((l+r) / 2))=false:=by simpa using c
    exact WO hN g u m _ r Z1 Z1 hr (λi h3=>O.trans (u i _ Z1 Z1) c) h2
theorem _A(hN:0<N):∀(m:Nat) (p:Array Nat) (k:Nat),Good N p->k+m=N->Up f p k->Ok f N (kas_bin m p k) λr=>Good N r/\Up f r N
 |0,p,k,g,e,u=>by
  have e:k=N:=by omega
  subst e;exact#[g,u]
 |m+1,p,k,g,e,u=>by
  unfold kas_bin;apply (WO O hN g u k 0 k Z1 Z1 (bo _) (λi h=>absurd h Z1) λi h1 h2=>absurd h2 Z1).bind λl ⟨hl,h1,h2⟩=>?_;have hk:k<p.size:=by rw[g.size];omega
  apply _A hN m _ (k+1) (g.bub _ _) Z1 λi j zg hj=>?_;rw[_F hk hl,_F hk hl];by_cases ej:j=l
  ·rw[aA ej];by_cases ei:i=l
   ·rw[aA ei];exact O.fP _
   ·rw[ao ei,ao Z1];exact h1 i Z1
  ·rw[ao ej];by_cases ej2:l<j/\j<=k
   ·rw[aA ej2];by_cases ei:i=l
    ·rw[aA ei];exact O.GW (h2 (j - 1) Z1 Z1)
    ·rw[ao ei];by_cases ei2:l<i/\i<=k
     ·rw[aA ei2];exact u _ _ Z1 Z1
     ·rw[ao ei2];exact u _ _ Z1 Z1
   ·rw[ao ej2];rw[ao (show ¬i=l by omega),ao (show ¬(l<i/\i<=k) by omega)];exact u _ _ Z1 Z1
theorem hf_(hN:0<N):Ok f N (kas_sort N) λp=>Good N p/\Up f p N:=by
 unfold kas_sort;apply (iG_ O hN (p:=(List.range N).toArray) (Array.Perm.refl _) hN (bo _)).bind λr ⟨g,h1,h2,u⟩=>?_;split
 ·rename_i c
  rw[show max r.1 1=r.1 by omega];exact _A O hN _ _ _ g Z1 u
 ·rename_i c
  have e:r.1=N:=by omega
  exact#[g,e▸u]
end
def GT(prog:Ad)(w:Af)(A:Ag)(f:Nat->Nat->Bool)(vs:ax)(s:Ab):Prop:=
 ∃κ,(∀Q:SortKind->Ab->Prop,Q κ s->wpAny (model prog w) A (keyKind' vs.toArray) Q (λ_ _=>False) s)/\∀i j C,i<vs.length->j<vs.length->C (f i j) s->kas_ask prog w A κ vs i j C s
def Ph(a:Addr)(h h':Heap):Prop:=∀b o,b≠a->h.get? b=some o->h'.get? b=some o
def zk(p:Array Nat)(vs:ax):ax:=p.toList.map λi=>vs.getD i Value.none
theorem da_(vs:ax):zk (List.range vs.length).toArray vs=vs:=by
 unfold zk;apply List.ext_getElem? ?_;intro i;simp only[dQ];by_cases h:i<vs.length
 ·simp[h]
 ·simp[Nat.le_of_not_lt h]
variable{f:Nat->Nat->Bool}{prog:Ad}{w:Af}{A:Ag}{E:Aa->Ab->Prop}{s:Ab}
theorem iS_{a:Addr}{vs:ax}{P:Fin->Ab->Prop}(O:Ord f)(ho:s.heap.get? a=some (seqObj "list" vs.toArray n))(dm:vs.length<64)(J8:2<=vs.length->∀h',Ph a s.heap h'->GT prog w A f vs { s with heap:=h' })(h:∀(p:Array Nat) (h':Heap) (e:Nat),Good vs.length p->Up f p vs.length->h'.get? a=some (seqObj "list" (zk p vs).toArray e)->Ph a s.heap h'->P (.done (.ret .none)) { s with heap:=h' }) :
  wpAny (model prog w) A (Builtin.«list.sort» #[[.ref a],[]]) P E s:=by
 have haz:a<s.heap.objs.size:=cE ho;obtain⟨e1,Lp⟩:∃e1,(s.heap.update a (Obj.mapSeq λ_=>(#[]:Array Aa))).get? a=some (seqObj "list" #[] e1):=#[_,get?_update_seq ho (λ_=>#[])]
 have Lj:vs.length<=sizeLine:=by
  have:=ck;omega
 rw[list_sort_plain];apply aP (listItems_at ho Z (aP (listUpdate_at ho Z (aP (seqEpoch_at Lp Z (aP (wpAny_newTuple (aP (wpAny_newList (wpAny_holding ?_) (gx _))) Lj)))) (by simpa using Lj) (gx _))))
 have keep:∀g:Array Aa->Array Aa,Ph a s.heap ((((s.heap.update a (Obj.mapSeq λ_=>(#[]:Array Aa))).push (seqObj "tuple" vs.toArray 0)).push (seqObj "list" #[] 0)).update a (Obj.mapSeq g)):=λg b o hb e=>by
  apply (E5 _ _ (Ne.symm hb)).trans (cO _ (cO _ ?_));exact (E5 _ _ (Ne.symm hb)).trans e
 have NO:Ph a s.heap (((s.heap.update a (Obj.mapSeq λ_=>(#[]:Array Aa))).push (seqObj "tuple" vs.toArray 0)).push (seqObj "list" #[] 0)):=λb o hb e=>
  cO _ (cO _ ((E5 _ _ (Ne.symm hb)).trans e))
 have Lo:(((s.heap.update a (Obj.mapSeq λ_=>(#[]:Array Aa))).push (seqObj "tuple" vs.toArray 0)).push (seqObj "list" #[] 0)).get? a=some (seqObj "list" #[] e1):=cO _ (cO _ Lp);show wpAny (model prog w) A _ P E { s with heap:=((s.heap.update a (Obj.mapSeq λ_=>(#[]:Array Aa))).push (seqObj "tuple" vs.toArray 0)).push (seqObj "list" #[] 0) };dsimp only;by_cases h2:vs.toArray.size<2
 ·rw[aA h2,aA h2];apply aP (bR ?_);rw[StateT.run_pure]
  have Gp:((vs.toArray.zip vs.toArray).map λx:Keyed=>x.2)=(zk (List.range vs.length).toArray vs).toArray:=by
   rw[da_];apply Array.ext' ?_;simp[List.map_snd_zip]
  apply aP (bR (aP (seqEpoch_at Lo Z (aP (listUpdate_at Lo Z ?_ (gx _) ?_)))))
  ·simp only[bne_self_eq_false,GO,if_false];apply bR (h (List.range vs.length).toArray _ _ (Array.Perm.refl _) (λi j zg hj=>?_) ((get?_update_seq Lo _).trans (dU (λz=>some (seqObj "list" z _)) Gp)) (keep _))
   ·have e:i=j:=by
     simp only[dD] at h2;omega
    subst e;exact O.fP _
  ·have e:((vs.toArray.zip vs.toArray).map λx:Keyed=>x.2).size<=sizeLine+1:=by
    simp only[Array.size_map,Array.size_zip,dD];omega
   exact e
 ·rw[ao h2,ao h2]
  have vG:2<=vs.length:=by
   simp only[dD] at h2;omega
  let#[κ,hk,hc]:=J8 vG _ NO;apply aP (wpAny_mono (hk (λk s'=>k=κ/\s'=_) #[Z,Z]) (λk s' Ow=>?_) λ_ _ x=>x.elim);let#[rfl,rfl]:=Ow
  apply aP (wpAny_mono (kat_run (ks:=vs) (vs:=vs) (G:=λp s'=>s'={ s with heap:=((s.heap.update a (Obj.mapSeq λ_=>(#[]:Array Aa))).push (seqObj "tuple" vs.toArray 0)).push (seqObj "list" #[] 0) }/\Good vs.length p/\Up f p vs.length)
   (Q:=λfo s'=>∃p:Array Nat,arrOf fo=p.map (kas_item (vs.toArray.zip vs.toArray))/\failedOf fo=none/\s'={ s with heap:=((s.heap.update a (Obj.mapSeq λ_=>(#[]:Array Aa))).push (seqObj "tuple" vs.toArray 0)).push (seqObj "list" #[] 0) }/\Good vs.length p/\Up f p vs.length)
   rfl vG dm (λp fo s' _ q1 q2 q3=>#[p,q1,q2,q3]) (Ok.wp hc (λp q=>#[Z,q]) (hf_ O Z1))) ?_ λ_ _ x=>x)
  rintro⟨⟨⟩,fo⟩ s' ⟨p,Vy,hf,BI,g,u⟩;have BI:s'={ s with heap:=((s.heap.update a (Obj.mapSeq λ_=>(#[]:Array Aa))).push (seqObj "tuple" vs.toArray 0)).push (seqObj "list" #[] 0) }:=BI;subst BI
  have Gp:((arrOf fo).map λx:Keyed=>x.2)=(zk p vs).toArray:=by
   rw[Vy];apply Array.ext' ?_;unfold zk;simp only[Array.map_map,Array.toList_map,List.toList_toArray];apply BC λi _=>?_;show (kas_item (vs.toArray.zip vs.toArray) i).2=_;unfold kas_item;by_cases hi:i<vs.length
   ·simp[Array.getD,hi]
   ·simp[Array.getD,hi,Nat.le_of_not_lt hi]
  have esz:((arrOf fo).map λx:Keyed=>x.2).size=vs.length:=by
   rw[Gp];unfold zk;simp only[dD,ak,B7];exact g.size
  apply aP (seqEpoch_at Lo Z (aP (listUpdate_at Lo Z ?_ (gx _) (by rw[esz];omega))));rw[hf];simp only[bne_self_eq_false,GO,if_false];exact bR (h p _ _ g u ((get?_update_seq Lo _).trans (dU (λz=>some (seqObj "list" z _)) Gp)) (keep _))
theorem dH_{x:Aa}{Q:Aa->Ab->Prop}(O:Ord f)(zj:wpAny (model prog w) A.in1 (collect x) (λvs s1=>vs.length<64/\(2<=vs.length->∀h':Heap,(∀b o,s1.heap.get? b=some o->h'.get? b=some o)->GT prog w A.in1.in1 f vs { s1 with heap:=h' }) /\
   ∀(p:Array Nat) (h':Heap) (e:Nat),Good vs.length p->Up f p vs.length->h'.get? s1.heap.objs.size=some (seqObj "list" (zk p vs).toArray e)->(∀b o,s1.heap.get? b=some o->h'.get? b=some o)->Q (.ref s1.heap.objs.size) { s1 with heap:=h' }) E s) :
  wpAny (model prog w) A (call (.builtin "sorted") [x]) Q E s:=by
 apply Calls.call_function_entry kind_sorted plain_sorted entry_sorted (args_sorted1 _) ?_;unfold Builtin.«sorted»;apply aP (m:=checkCount "sorted" 1 1 _) (bR (aP (wpAny_mono zj (λvs s1 q=>?_) λ_ _ z=>z)));let#[dm,J8,hQ]:=q;apply aP (wpAny_newList ?_ (by have:=ck;omega));have hn:(s1.heap.push (seqObj "list" vs.toArray 0)).get? s1.heap.objs.size=some (seqObj "list" vs.toArray 0):=e_ _ Z
 have old:∀h',Ph s1.heap.objs.size (s1.heap.push (seqObj "list" vs.toArray 0)) h'->∀b o,s1.heap.get? b=some o->h'.get? b=some o:=λh' k b o e=>
  k b o (eM (cE e)) (cO _ e)
 apply aP (wpAny_holding (wpAny_call_entry slot_list_sort #[_,hn,Z] entry_list_sort (iS_ O hn dm (λh2 h' k=>J8 h2 h' (old h' k)) λp h' e g u q k=>#[_,Z,?_]) (args_list_sort _)));exact bR #[_,Z,hQ p h' e g u q (old h' k)]
end Qj
namespace L2
open PySem PySem.Spec PyProof.Rows PySem.W Qj
def pO:Key->Key->Bool
 |.inl i,.inl j=>decide (i<j)
 |.inl _,.inr _=>true
 |.inr _,.inl _=>false
 |.inr x,.inr y=>decide (x.cps.toList<y.cps.toList)
def bw:aN->aN->Bool
 |[],[]=>false
 |[],_::_=>true
 |_::_,[]=>false
 |a::r,b::q=>if a=b then bw r q else pO a b
theorem hI_:∀a:Key,pO a a=false
 |.inl i=>by simp[pO]
 |.inr x=>by simp[pO,List.lt_irrefl]
theorem eX_:∀{a b:Key},pO a b=true->pO b a=false
 |.inl i,.inl j,h=>by
  simp only[pO,xW,decide_eq_false_iff_not] at *;omega
 |.inl _,.inr _,_=>rfl
 |.inr _,.inl _,h=>by cases h
 |.inr x,.inr y,h=>by
  simp only[pO,xW,decide_eq_false_iff_not] at *;exact λq=>List.lt_irrefl _ (List.lt_trans h q)
theorem gV_:∀{a b:Key},pO a b=false->pO b a=false->a=b
 |.inl i,.inl j,h,h2=>by
  simp only[pO,decide_eq_false_iff_not] at *;rw[show i=j by omega]
 |.inl _,.inr _,h,_=>by cases h
 |.inr _,.inl _,_,h=>by cases h
 |.inr x,.inr y,h,h2=>by
  simp only[pO,decide_eq_false_iff_not] at *;rw[ext_toList (List.le_antisymm (List.not_lt.mp h2) (List.not_lt.mp h))]
theorem gR_:∀{a b c:Key},pO a b=true->pO b c=true->pO a c=true
 |.inl i,.inl j,.inl k,h,h2=>by
  simp only[pO,xW] at *;omega
 |.inl _,.inl _,.inr _,_,_=>rfl
 |.inl _,.inr _,.inr _,_,_=>rfl
 |.inl _,.inr _,.inl _,_,h=>by cases h
 |.inr _,.inl _,_,h,_=>by cases h
 |.inr _,.inr _,.inl _,_,h=>by cases h
 |.inr x,.inr y,.inr z,h,h2=>by
  simp only[pO,xW] at *;exact List.lt_trans h h2
theorem L8:∀a:aN,bw a a=false
 |[]=>rfl
 |a::r=>by
  unfold bw;rw[aA Z];exact L8 r
theorem Yu:∀{a b:aN},bw a b=true->bw b a=false
 |[],[],h=>by cases h
 |[],_::_,_=>rfl
 |_::_,[],h=>by cases h
 |a::r,b::q,h=>by
  unfold bw at h ⊢;by_cases e:a=b
  ·rw[aA e] at h;rw[aA e.symm];exact Yu h
  ·rw[ao e] at h;rw[ao (Ne.symm e)];exact eX_ h
theorem Pu:∀{a b:aN},bw a b=false->bw b a=false->a=b
 |[],[],_,_=>rfl
 |[],_::_,h,_=>by cases h
 |_::_,[],_,h=>by cases h
 |a::r,b::q,h,h2=>by
  unfold bw at h h2;by_cases e:a=b
  ·rw[aA e] at h;rw[aA e.symm] at h2;rw[e,Pu h h2]
  ·rw[ao e] at h;rw[ao (Ne.symm e)] at h2;exact absurd (gV_ h h2) e
theorem cU_:∀{a b c:aN},bw a b=true->bw b c=true->bw a c=true
 |[],_,[],h,h2=>by
  rename_i b
  cases b with
  |nil=>cases h
  |cons _ _=>cases h2
 |[],_,_::_,_,_=>rfl
 |_::_,[],_,h,_=>by cases h
 |_::_,_::_,[],_,h=>by cases h
 |a::r,b::q,c::t,h,h2=>by
  unfold bw at h h2 ⊢;by_cases e:a=b
  ·subst e;rw[aA Z] at h;by_cases e2:a=c
   ·rw[aA e2] at h2 ⊢;exact cU_ h h2
   ·rw[ao e2] at h2 ⊢;exact h2
  ·rw[ao e] at h;by_cases e2:b=c
   ·subst e2;rw[ao e];exact h
   ·rw[ao e2] at h2;let h3:=gR_ h h2;rw[ao (λq=>by rw[q,hI_] at h3;cases h3)];exact h3
theorem L4{a b c:aN}(h:bw b a=false)(h2:bw c b=false):bw c a=false:=by
 cases e:bw c a with
 |false=>rfl
 |true=>
  by_cases e1:bw a b=true
  ·have:=cU_ e e1;rw[h2] at this;cases this
  ·have e1:bw a b=false:=by simpa using e1
   have:=Pu e1 h;subst this;rw[h2] at e;cases e
def zK(ks:List aN):Prop:=ks.Pairwise λa b=>bw b a=false
theorem YF:∀{a b:List aN},a.Perm b->zK a->zK b->a=b
 |[],b,p,_,_=>by
  have:=p.length_eq;cases b with
  |nil=>rfl
  |cons _ _=>cases this
 |x::r,[],p,_,_=>by
  have:=p.length_eq;cases this
 |x::r,y::q,p,h1,h2=>by
  let#[a1,a2]:=Eu.mp h1;let#[b1,b2]:=Eu.mp h2
  have e:x=y:=by
   rcases bW.mp (p.mem_iff.mp c8) with m|m
   ·exact m
   ·rcases bW.mp (p.mem_iff.mpr c8) with m2|m2
    ·exact m2.symm
    ·exact Pu (b1 _ m) (a1 _ m2)
  subst e;rw[YF ((List.perm_cons _).mp p) a2 b2]
def aU(ks:List aN):List aN:=ks.mergeSort λa b=>!bw b a
theorem yb(ks:List aN):(aU ks).Perm ks:=List.mergeSort_perm _ _
theorem Ss(ks:List aN):zK (aU ks):=by
 have:=List.pairwise_mergeSort (le:=λa b=>!bw b a) (λa b c h1 h2=>by
  simp only[Bool.not_eq_true'] at *;exact L4 h1 h2) (λa b=>by
  simp only[Bool.or_eq_true,Bool.not_eq_true'];by_cases e:bw b a=true
  ·exact .inr (Yu e)
  ·exact .inl (by simpa using e)) ks
 exact this.imp λh=>by simpa using h
variable{ks:List aN}
theorem RN{DE:List aN}(p:DE.Perm ks)(h:zK DE):DE=aU ks:=YF (p.trans (yb ks).symm) h (Ss ks)
variable{p:Array Nat}
theorem P4{α:Type}{n:Nat}(g:Good n p)(F:Nat->α):(p.toList.map F).Perm ((List.range n).map F):=by
 have e:p.toList.Perm (List.range n):=by
  have:=Array.perm_iff_toList_perm.mp g;simpa using this
 exact e.map F
theorem VT{f:Nat->Nat->Bool}(hf:∀i j,i<ks.length->j<ks.length->f i j=bw (ks.getD i []) (ks.getD j []))(g:Good ks.length p)(u:Up f p ks.length):zK (p.toList.map λi=>ks.getD i []):=by
 unfold zK;rw[zE,List.pairwise_iff_getElem];intro i j hi hj zg;let hs:=g.size;rw[B7] at hi hj;have hj':j<ks.length:=by omega
 let q:=u i j (Nat.le_of_lt zg) hj';have hN:0<ks.length:=by omega
 rw[hf _ _ (g.lt hN _) (g.lt hN _)] at q;have e1:at' p i=p.toList[i]:=by simp[at',Array.getD,hi]
 have e2:at' p j=p.toList[j]:=by simp[at',Array.getD,hj]
 rw[e1,e2] at q;exact q
theorem Xn(ks:List aN):Ord λi j=>bw (ks.getD i []) (ks.getD j []):=#[λ_=>L8 _,λh h2=>L4 h h2,λh=>Yu h]
theorem P9{α:Type}(d:α)(l:List α):((List.range l.length).map λi=>l.getD i d)=l:=by
 apply List.ext_getElem? ?_;intro i;simp only[dQ];by_cases h:i<l.length
 ·simp[h]
 ·simp[Nat.le_of_not_lt h]
variable{ys:ag}{vs:ax}
theorem Wk(r:Vals ys vs)(g:Good vs.length p):Vals (p.toList.map λi=>ys.getD i .non) (zk p vs):=by
 unfold zk
 have key:∀l:List Nat,(∀i∈l,i<vs.length)->Vals (l.map λi=>ys.getD i .non) (l.map λi=>vs.getD i Value.none):=λl=>by
  induction l with
  |nil=>exact λ_=>.nil
  |cons i l ih=>
   intro h;apply .cons ?_ (ih λj hj=>h j (dF _ hj));let hi:=h i c8;have hy:i<ys.length:=by rw[r.length];exact hi
   let#[u,hu,ru]:=r.get (dq hy);have e1:ys.getD i .non=ys[i]:=by simp[hy]
   have e2:vs.getD i Value.none=u:=by simp[hu]
   show RelV (ys.getD i .non) (vs.getD i Value.none);rw[e1,e2];exact ru
 apply key p.toList λi hi=>?_;have m:i∈(List.range vs.length).toArray:=g.mem_iff.mp (by simpa using hi);simpa using m
theorem hM_:∀{ss:ae} {vs:ax},Vals (ss.map V.str) vs->StrsAre vs ss
 |[],_,.nil=>.nil
 |x::r,_,.cons h t=>by
  let#[tk,rfl]:=h;exact .cons x tk (hM_ t)
def aV(ss:ae):ae:=(aU (ss.map λx=>[Sum.inr x])).map λk=>match k with
 |[.inr x]=>x
 |_=>⟨#[]⟩
def cX(x:Str):aN:=[Sum.inr x]
variable{prog:Ad}{w:Af}{A:Ag}{s:Ab}
theorem hs_{ss:ae}(r:StrsAre vs ss)(h2:2<=vs.length):GT prog w A (λi j=>bw ((ss.map cX).getD i []) ((ss.map cX).getD j [])) vs s:=by
 apply#[oneType',λQ q=>?_,λi j C hi hj hC=>?_]
 ·match vs,h2 with
  |v₁::v₂::t,_=>
   rw[keyKind_strs r];exact bR q
 ·unfold kas_ask;rw[keyLt'_oneType]
  have look:∀k,k<vs.length->∃x t,vs.getD k Value.none=.str x t/\(ss.map cX).getD k []=[Sum.inr x]:=λk hk=>by
   let e:=r.strs;let#[x,t,q]:=r.all vs[k] (jg hk);apply#[x,t,by simp[hk,q],?_]
   have hk':k<ss.length:=by
    rw[<- e,ak];exact hk
   have e2:ss[k]=x:=by
    have e3:(vs.map strOf)[k]? = ss[k]?:=by rw[e]
    rw[dQ,dq hk,dq hk',q] at e3;exact (ee e3).symm
   simp[hk',e2,cX]
  let#[x,t,e1,e2]:=look i hi;let#[y,u,e3,e4]:=look j hj;rw[e1,e3];dsimp only at hC;rw[e2,e4] at hC;apply oneLt_str ?_;unfold bw at hC;by_cases e:x=y
  ·subst e;rw[aA Z] at hC;have:decide (x.cps.toList<x.cps.toList)=false:=by simp[List.lt_irrefl]
   rw[this];exact hC
  ·rw[ao (λq=>e (hU q))] at hC;exact hC
def Hu:Key->Bool
 |.inl _=>false
 |.inr _=>true
variable{a b:Key}
theorem in_{E:Aa->Ab->Prop}{c:Bool}{p q:Aa}{Q:Bool->Ab->Prop}(ra:RelV (kV a) p)(rb:RelV (kV b) q)(hk:Hu a=Hu b)(h:Q (pO a b) s) :
  wpAny (model prog w) A (oneLt' c p q) Q E s:=by
 cases a with
 |inl i=>
  cases b with
  |inr y=>cases hk
  |inl j=>
   let#[t,rfl]:=ra;let#[u,rfl]:=rb;cases c with
   |true=>exact oneLt_int h
   |false=>exact kat_one _ _ (lt_int (show PySem.W.BoolBack Q (.bool _) s from h))
 |inr x=>
  cases b with
  |inl j=>cases hk
  |inr y=>
   let#[t,rfl]:=ra;let#[u,rfl]:=rb;cases c with
   |true=>exact oneLt_str h
   |false=>exact kat_one _ _ (PyProof.Rows.lt_str (show PySem.W.BoolBack Q (.bool _) s from h))
theorem hR_(hk:Hu a=Hu b):pW (kV a) (kV b)=decide (a=b):=by
 cases a with
 |inl i=>
  cases b with
  |inr y=>cases hk
  |inl j=>
   show (i == j)=_;by_cases e:i=j
   ·subst e;simp
   ·rw[dR (λq=>e (Sum.inl.inj q))];simpa using e
 |inr x=>
  cases b with
  |inl j=>cases hk
  |inr y=>
   show (x == y)=_;by_cases e:x=y
   ·subst e;simp
   ·rw[dR (λq=>e (hU q))];simpa using e
theorem fG_(a:Key):AM (kV a)=true:=by cases a<;>rfl
theorem d6_{prog:Ad}{w:Af}{A:Ag}{s:Ab}{Q:Bool->Ab->Prop}:∀{k1 k2:aN} {us vs:ax} (i:Nat),Vals (k1.map kV) us->Vals (k2.map kV) vs->k1.map Hu=k2.map Hu->Q (bw k1 k2) s->KatLex prog w A true false Q (us.zip vs) i s
 |[],[],_,_,i,.nil,.nil,_,h=>h
 |[],_::_,_,_,_,_,_,h,_=>by cases h
 |_::_,[],_,_,_,_,_,h,_=>by cases h
 |a::k1,b::k2,u::us,v::vs,i,.cons ra r1,.cons rb r2,hk,h=>by
  let#[e1,e2]:=zv hk;apply kat_cons ?_;apply U7 ra rb (fG_ a) (fG_ b) prog w _ _ ?_;rw[hR_ e1];unfold bw at h;by_cases e:a=b
  ·rw[aA e] at h;rw[cw e];exact kat_yes (d6_ (i+1) r1 r2 e2 h)
  ·rw[ao e] at h;rw[dR e];exact kat_no (in_ ra rb e1 h)
def bg(K:af)(H:Hp):ag->List aN->Prop:=Paired λy k=>∃a,y=V.ref a/\H a=some (.tup (k.map kV))
def HU(ks:List aN)(sh:List Bool):Prop:=sh≠[]/\∀k∈ks,k.map Hu=sh
theorem eT_{X:Cx}{pins:List (Addr × Obj)}{σ:St}{H:Hp}{s':Ab}{sh:List Bool}(I:Inv X pins σ H s)(r:Vals ys vs)(t:bg X.K H ys ks)(al:HU ks sh)(h2:2<=vs.length)(kp:∀b o,s.heap.get? b=some o->s'.heap.get? b=some o):GT X.prog X.w A (λi j=>bw (ks.getD i []) (ks.getD j [])) vs s':=by
 have look:∀k,k<vs.length->∃a its,vs.getD k Value.none=.ref a/\Vals ((ks.getD k []).map kV) its/\IsTup s'.heap a its.toArray/\ks.getD k []∈ks:=λk hk=>by
  have hy:k<ys.length:=by rw[r.length];exact hk
  have Lq:k<ks.length:=by rw[<- bG t];exact hy
  let#[u,hu,ru]:=r.get (dq hy)
  have gen:∀{ys:ag} {ks:List aN} (k:Nat) (hy:k<ys.length) (Lq:k<ks.length),bg X.K H ys ks->∃a,ys[k]=V.ref a/\H a=some (.tup (ks[k].map kV)):=λ{ys ks} k hy Lq t=>by
   induction t generalizing k with
   |nil=>exact absurd hy Z2
   |cons h t ih=>
    cases k with
    |zero=>exact h
    |succ k=>exact ih k (by simpa using hy) (by simpa using Lq)
  let#[a,e,sq]:=gen k hy Lq t;let#[its,ri,ti,_]:=I.tuple (iI.of sq);rw[e] at ru;cases ru;have e2:ks.getD k []=ks[k]:=by simp[Lq]
  apply#[a,its,by simp[hu],by rw[e2];exact ri,ti.keeps kp,?_];rw[e2];exact jg Lq
 let#[Bl,OL]:=al
 obtain⟨c,MP,rfl⟩:∃c MP,sh=c::MP:=by
  cases sh with
  |nil=>exact absurd Z Bl
  |cons c MP=>exact#[c,MP,Z]
 apply#[tuples' true,λQ q=>?_,λi j C hi hj hC=>?_]
 ·have Kf:∀l:ax,(∀v∈l,∃(a:Addr) (its:ax) (k:aN),v=.ref a/\Vals (k.map kV) its/\IsTup s'.heap a its.toArray/\k.map Hu=c::MP)->∃fs,KatTups s'.heap l fs/\fs.length=l.length/\∀v∈fs,Looks (model X.prog X.w) s'.heap (typeOf v) (.type (if c then "str" else "int")):=λl=>by
   induction l with
   |nil=>exact λ_=>#[[],.nil,Z,λ_ h=>nomatch h]
   |cons v l ih=>
    intro h;let#[fs,h1,h2,h3]:=ih λv hv=>h v (dF _ hv);let#[a,its,k,rfl,rv,#[o,ho,hc,n,hd],hk]:=h v c8
    match k,its,rv,hk with
    |k0::k,u::its,.cons r0 _,hk=>
     apply#[u::fs,.cons ho hc hd Z2 h1,by simp[h2],λv hv=>?_];rcases bW.mp hv with e|hv
     ·subst e;let e0:=(zv hk).1;cases k0 with
      |inl i=>
       let#[t,rfl]:=r0;rw[<- e0];exact .now
      |inr x=>
       let#[t,rfl]:=r0;rw[<- e0];exact .now
     ·exact h3 v hv
  let#[fs,h1,h3,h4]:=Kf vs λv hv=>by
   let#[k,hk,rfl]:=BB hv;let#[a,its,e,rv,ti,m]:=look k hk;apply#[a,its,_,?_,rv,ti,OL _ m];rw[<- e];simp[hk]
  apply kat_kind h1 Z1 h4 (by cases c<;>decide) ?_
  have e:((Value.type (if c then "str" else "int")) != Value.type "tuple")=true:=by cases c<;>decide
  rw[e];exact q
 ·unfold kas_ask;let#[a,its,e1,r1,#[o,ho,_,n,hd],m1]:=look i hi;let#[b,pP,e2,r2,#[o2,JT,_,n2,hd2],m2]:=look j hj;rw[e1,e2];apply kat_lt ho hd JT hd2 ?_;let l1:=r1.length;let l2:=r2.length;let l3:=dU List.length ((OL _ m1).trans (OL _ m2).symm);simp only[ak] at l1 l2 l3;rw[show decide (its.toArray.size<pP.toArray.size)=false by simp;omega];exact d6_ 0 r1 r2 ((OL _ m1).trans (OL _ m2).symm) hC
end L2
namespace SM
open PySem PySem.W PyProof.Rows
def Raw(h:Heap)(d:Addr)(es:Array DictEntry)(ep:Nat):Prop:=∃o,h.get? d=some o/\o.ExactDict/\o.data=.dict es ep
variable{h h':Heap}{d:Addr}{es:Array DictEntry}{ep:Nat}
theorem Raw.eS(x:Raw h d es ep)(k:∀o,h.get? d=some o->h'.get? d=some o):Raw h' d es ep:=let #[o,e,r]:=x;#[o,k o e,r]
variable{s:Ab}
theorem Raw.ty(x:Raw s.heap d es ep):s.TypeIs (.ref d) "dict":=let #[o,e,c,_]:=x;#[o,e,c.1]
variable{prog:Ad}{w:Af}{A:Ag}{E:Aa->Ab->Prop}
theorem iQ_{Q:Aa->Ab->Prop}(hd:(d == sysModules)=false)(x:Raw s.heap d es ep)(q:Q (.ref s.heap.objs.size) { s with heap:=s.heap.push { cls:=.type "dict_keyiterator",data:=.fields (List.toArray [.ref d,.int 0 0,.int es.size 0,.int ep 0]) } }) :
  wpAny (model prog w) A (pyIter (.ref d)) Q E s:=by
 let#[o,ho,hc,Gh]:=id x;apply wpAny_pyIter_slot x.ty F.slot_dict_iter (wpAny_call_entry F.slot_dict_iter x.ty F.entry_dict_iter ?_ (F.args_dict_iter_1 _));unfold Builtin.«dict.__iter__» Builtin.Dict.dictSlotNone;apply aP (aP (wpAny_notOrdered_dict x.ty (show wpAny _ _ (pure (Value.ref d)) _ _ s from bR (show wpAny _ _ (Builtin.Dict.showsAll d >>= _) _ _ s from ?_))));unfold Builtin.Dict.showsAll;rw[ao (by rw[hd];decide)];apply aP (bR (aP (wpAny_dictEntries ho Gh (aP (wpAny_dictEpoch ho Gh (aP (wpAny_newObj_type (bR #[_,Z,"dict_keyiterator",_,#[_,e_ _ Z,Z],F.slot_dict_keyiterator_next.lookup,?_]))))))));exact q
variable{Q:Option Aa->Ab->Prop}{it:Addr}{i:Nat}
theorem jd_(hit:s.heap.IsKeyIter it d i es.size ep)(x:Raw s.heap d es ep)(hi:i<es.size)(q:∀h',h'.IsKeyIter it d (i+1) es.size ep->Heap.SameBut it s.heap h'->Q (some es[i].key) { s with heap:=h' }):wpAny (model prog w) A (pyNext (.ref it)) Q E s:=by
 let#[o,ho,hc,hd]:=id hit;let#[od,Og,hE,OG]:=id x;unfold pyNext;apply aP (wpAny_attempt (wpAny_callSpecial?_slot (name:=Str.ofString "__next__") hit.typeIs F.slot_dict_keyiterator_next (wpAny_call_entry F.slot_dict_keyiterator_next hit.typeIs F.entry_dict_keyiterator_next ?_ (F.args_dict_keyiterator_next_1 _))));apply aP (bR (aP (aP ?_)))
 first|refine aP (wpAny_typeNameOfWhole_keyiter hit.typeIs (bR (aP (wpAny_fieldsOf ho hd ?_))))|refine aP (wpAny_typeNameOf_keyiter hit.typeIs (bR (aP (wpAny_fieldsOf ho hd ?_))))
 simp only[show Builtin.Dict_items.ownsTuple "dict_keyiterator"=false by decide,GO,if_false];apply (show wpAny _ _ (if (Value.ref d == Value.none)=true then _ else _) _ _ s from ?_);rw[ao (λz=>by cases z)];apply aP (bR (aP (wpAny_dictEntries Og OG ?_)));rw[ao Z2];apply aP (bR (aP (wpAny_dictEpoch Og OG ?_)));rw[ao Z2];apply bR ?_;simp only[show ¬((i:Int)<0) from by omega,if_false,Io,Array.getElem?_eq_getElem hi];apply aP ?_
 first|refine aP (wpAny_typeNameOfWhole_keyiter hit.typeIs (bR (aP (wpAny_isOneOf_keyiter hit.typeIs ?_))))|refine aP (wpAny_typeNameOf_keyiter hit.typeIs (bR (aP (wpAny_isOneOf_keyiter hit.typeIs ?_))))
 apply (show wpAny _ _ (setField (.ref it) 1 (rawInt ((i:Int)+1)) >>= _) _ _ s from aP (wpAny_setField ho hd Z2 ?_))
 have turned:(s.heap.update it (Obj.mapFields (·.setIfInBounds 1 (rawInt ((i:Int)+1))))).IsKeyIter it d (i+1) es.size ep:=
  #[_,Heap.get?_update_self _ ho (Obj.isFreed_of_fields (Obj.data_mapFields hd _)),(Obj.cls_mapFields ..).trans hc,by rw[Obj.data_mapFields hd];simp[rawInt]]
 apply aP (wpAny_holding (aP (wpAny_isOneOf_keyiter (s:={ s with heap:=s.heap.update it (Obj.mapFields (·.setIfInBounds 1 (rawInt ((i:Int)+1)))) }) turned.typeIs ?_)));exact (show wpAny _ _ (pure es[i].key) _ _ _ from bR (bR #[_,Z,bR (q _ turned (Heap.SameBut.update ..))]))
theorem ji_(hh:A.handled=none)(hit:s.heap.IsKeyIter it d es.size es.size ep)(x:Raw s.heap d es ep)(q:∀h',Heap.ExtBut it s.heap h'->Q none { s with heap:=h' }):wpAny (model prog w) A (pyNext (.ref it)) Q E s:=by
 let#[o,ho,hc,hd]:=id hit;let#[od,Og,hE,OG]:=id x;unfold pyNext;apply aP (wpAny_attempt (wpAny_callSpecial?_slot (name:=Str.ofString "__next__") hit.typeIs F.slot_dict_keyiterator_next (wpAny_call_entry F.slot_dict_keyiterator_next hit.typeIs F.entry_dict_keyiterator_next ?_ (F.args_dict_keyiterator_next_1 _))));apply aP (bR (aP (aP ?_)))
 first|refine aP (wpAny_typeNameOfWhole_keyiter hit.typeIs (bR (aP (wpAny_fieldsOf ho hd ?_))))|refine aP (wpAny_typeNameOf_keyiter hit.typeIs (bR (aP (wpAny_fieldsOf ho hd ?_))))
 simp only[show Builtin.Dict_items.ownsTuple "dict_keyiterator"=false by decide,GO,if_false];apply (show wpAny _ _ (if (Value.ref d == Value.none)=true then _ else _) _ _ s from ?_);rw[ao (λz=>by cases z)];apply aP (bR (aP (wpAny_dictEntries Og OG ?_)));rw[ao Z2];apply aP (bR (aP (wpAny_dictEpoch Og OG ?_)));rw[ao Z2];apply bR ?_;simp only[show ¬((es.size:Int)<0) from by omega,if_false,Io,Array.getElem?_eq_none (bo _)];apply aP ?_
 first|refine aP (wpAny_typeNameOfWhole_keyiter hit.typeIs (bR ?g))|refine aP (wpAny_typeNameOf_keyiter hit.typeIs (bR ?g))
 apply (show wpAny _ _ (setField (.ref it) 0 .none >>= _) _ _ s from aP (wpAny_setField ho hd Z2 (show wpAny _ _ (newExc (.type "StopIteration") [] >>= _) _ _ _ from aP ?_)));simp only[newExc,newTuple];apply aP (wpAny_newObj_type (aP (m:=firstArgMember _ _) (wpAny_of_eq (a:=Value.none) (by first|rfl|(simp only[firstArgMember];rfl)) (wpAny_newObj_type ?_ (by size_fits)))) (by size_fits));simp only[raiseNew];apply aP (wpAny_handled ?_);rw[show A.in1.handled=none from hh];apply aP (bR (wpAny_throw ?_));exact aP (wpAny_isInstance (T:="StopIteration") (b:=true) #[_,e_ _ Z,Z] isSubtype_stop (bR (q _ (((Heap.SameBut.update ..).extBut.push _).push _))))
theorem i3_(hh:A.handled=none)(I d:Addr)(Bl:d≠I)(es:Array DictEntry)(ep:Nat) :
  Walks prog w A I [I,d] [I] es.size (λi v=>∃h:i<es.size,v=es[i].key) (λi h=>h.IsKeyIter I d i es.size ep/\Raw h d es ep) where
 sub:=λb hb=>by simp only[jd] at hb;simp[hb]
 frame:=λ_ _ _ st k=>#[st.1.at λo e=>k I Z2 o e,st.2.eS λo e=>k d Z2 o e]
 item:=λi s Q E hi st hQ=>jd_ st.1 st.2 hi λh' J1 BI=>hQ _ h' s.toks #[hi,Z] #[J1,st.2.eS λo e=>BI.extBut d o Bl e] λb o hb e=>BI.extBut b o (λh=>hb (by simp[h])) e
 done:=λs Q E st hQ=>ji_ hh st.1 st.2 λh' he'=>hQ h' s.toks λb o hb e=>he' b o (λh=>hb (by simp[h])) e
 self:=λ_ _ _ _ st hQ=>wpAny_pyIter_keyiter st.1 hQ
theorem kB_(lo:(d == sysModules)=false):KdlSrc prog w "dict" d d es.size (λi v=>∃h:i<es.size,v=es[i].key) (λh=>Raw h d es ep) where
 type:=λs x=>x.ty
 there:=λh x=>let #[o,e,_]:=x;#[cE e,cE e]
 keep:=λh h' x k=>x.eS λo e=>k d (.inl Z) o e
 notList:=by decide
 notTuple:=by decide
 hint:=λ_ _ s _ x q=>kdl_hint_dict x.ty q
 iter:=λA s hh x=>#[_,_,λE Q q=>iQ_ lo x q,i3_ hh _ d (let #[o,e,_]:=x;eM (cE e)) es ep,#[#[_,e_ _ Z,Z,Z],x.eS λo e=>cO _ e]]
theorem dx_:typeLookup (.type "list") "keys"=pure none:=by rw[typeLookup_type,builtinLookup_eq_fast];kernel_rfl
variable{a:Addr}{xs:Array Aa}{k:Nat}{tk:Tok}{R:Result->Ab->Prop}
theorem i7_(hx:s.heap.get? a=some (seqObj "list" xs k))(h:raisesAttr (.ref a) "keys" A R s) :
  codeAny (model prog w) A (.call (.builtin "list.__getattribute__") #[[.ref a,.str "keys" tk],[]]) R s:=by
 apply codeAny_call_builtin F.slot_list_getattribute.plain am_entry_list_getattribute (F.slot_list_getattribute.check _ _ _ _ _ _ _ _ #[_,hx,Z] (F.args_list_getattribute_2 _ _) ?_);exact meets_getattribute_miss_list a xs k #[] "keys" tk dx_ (by decide) (by size_fits) prog w A R s #[hx,h]
theorem JD(hx:s.heap.get? a=some (seqObj "list" xs k))(hA:A.handled=none)(h:∀h' tk,(∀b o,s.heap.get? b=some o->h'.get? b=some o)->Q none { s with heap:=h',toks:=tk }):wpAny (model prog w) A (getAttr? (.ref a) "keys") Q E s:=by
 let#[hp,g,d,tk,os]:=s;have ty:∀EJ,(#[hp,g,d,EJ,os]:Ab).TypeIs (.ref a) "list":=λ_=>#[_,hx,Z];let f1:=sub_AttributeError;let f2:=F.slot_list_getattribute.lookup;let f3:=F.slot_list_getattribute.bind (.ref a);let f4:=am_list_getattr_none;unfold getAttr? getAttrBy? getAttrBy
 repeat (any_goals (first|assumption|exact ty _|wp_step))
 apply i7_ hx #[hA,λh' EJ e Lm=>?_];let#[t',u',he]:=Lm.there;show wpAny _ _ (getattributeRaised _ _ _ _ _ _ _) _ _ _;unfold getattributeRaised
 repeat (any_goals (first|assumption|wp_step))
 exact h _ _ Lm.keeps
theorem eq_:entryFor table "dict.update.loop"=some Builtin.«dict.update.loop»:=entryFor_of_tree (by kernel_rfl)
theorem RV:plainId "dict.update.loop"=true:=by decide +kernel
theorem _m(d it:Addr)(i:Int)(tk:Tok):Builtin.«dict.update.loop» #[[.ref d,.ref it,.int i tk,.none],[]]=(do
  let r <- pyNext (.ref it)
  match r with
  |none=>do Builtin.Dict.addKeywords d [];ret .none
  |some item=>do
   holding [item] (do
    let pair <- (Builtin.Dict.pairItems item).tryCatch λe=>do
     if !(<- isInstance e (.type "TypeError")) then throw e
     rule "dict.update.element-no-sequence"
     raiseError "TypeError" s!"cannot convert dictionary update sequence element #{i} to a sequence"
    match pair with
    |[k,v]=>holding [k,v] (dictSet d k v)
    |l=>do
     rule "dict.update.element-length"
     raiseError "ValueError" s!"dictionary update sequence element #{i} has length {l.length}; 2 is required")
   again (.builtin "dict.update.loop" #[[.ref d,.ref it,rawInt (i+1),.none],[]])):=by
 unfold Builtin.«dict.update.loop»;apply dU (λf=>pyNext (.ref it) >>= f) (funext λr=>?_);cases r<;>rfl
variable{b l:Addr}{ys:Array Aa}
variable{its:ax}
section
variable{prog:Ad}{w:Af}{K:Type}[DecidableEq K]{knd:PySem.KeyKind prog w K}{A:Ag}
def V8(knd:PySem.KeyKind prog w K)(h:Heap):ax->List (K × Aa)->Prop:=Paired λv p=>∃a key,v=.ref a/\IsTup h a (List.toArray [key,p.2])/\knd.is p.1 key=true
def iw(kvs:List (K × Aa))(ps:List (K × Aa)):List (K × Aa):=ps.foldl (λacc p=>stored acc p.1 p.2) kvs
theorem gk_(kvs:List (K × Aa))(k:K)(v:Aa):(stored kvs k v).length<=kvs.length+1:=by
 unfold stored;split
 ·simp
 ·simp
theorem d4_(t:IsTup h b ys)(q:h.IsListIter it l i):b≠it:=λz=>by
 let#[o,ho,hc,_]:=t;let#[o2,JT,Gj,_]:=q;subst z;rw[ho] at JT;cases JT;rw[hc] at Gj;exact absurd Gj (by decide)
theorem fh_{kvs:List (K × Aa)}(t:IsTup h b ys)(q:h.DictOf knd d kvs):b≠d:=λz=>by
 let#[o,ho,hc,_]:=t;let#[o2,es,ep,JT,Gj,_]:=q;subst z;rw[ho] at JT;cases JT;let hc3:=Gj.1;rw[hc] at hc3;exact absurd hc3 (by decide)
theorem eN_{kvs:List (K × Aa)}(q:h.DictOf knd d kvs)(k:∀o,h.get? d=some o->h'.get? d=some o):h'.DictOf knd d kvs:=by
 let#[o,es,ep,ho,r]:=q;exact#[o,es,ep,k _ ho,r]
theorem iY_{key x:Aa}{k:K}{kvs:List (K × Aa)}(J5:d≠it)(hi:its.toArray[i]? = some (.ref a))(ht:IsTup s.heap a (List.toArray [key,x]))(hk:knd.is k key=true)(hit:s.heap.IsListIter it l i)(hl:s.heap.IsList l its.toArray)(hd:s.heap.DictOf knd d kvs)(hz:kvs.length<=1000)(hR:∀h2,h2.DictOf knd d (stored kvs k x)->(∀b o,b≠d->b≠it->s.heap.get? b=some o->h2.get? b=some o)->h2.IsListIter it l (i+1)->codeAny (model prog w) A (.builtin "dict.update.loop" #[[.ref d,.ref it,rawInt ((i:Int)+1),.none],[]]) R { s with heap:=h2,toks:=s.toks+1 }) :
  codeAny (model prog w) A (.builtin "dict.update.loop" #[[.ref d,.ref it,.int i tk,.none],[]]) R s:=by
 apply codeAny_builtin eq_ ?_;rw[Around.under_plainId RV _,_m];apply aP (wpAny_pyNext_list_item hit hl hi λh1 Vg UZ=>?_);let#[ot,hot,OH,nt,hdt]:=id ht;have Oe:h1.get? a=some ot:=UZ.extBut _ _ (d4_ ht hit) hot;apply aP (wpAny_holding (aP (wpAny_tryCatch ?_)));unfold Builtin.Dict.pairItems;apply aP (wpAny_typeOf (T:="tuple") #[ot,Oe,OH] ?_);rw[aA (by decide)];unfold seqItems?;apply aP (aP (wpAny_load Oe ?_));rw[hdt];apply bR (bR ?_);apply (show wpAny _ _ (holding [key,x] (dictSet d key x)) _ _ _ from wpAny_holding (wpAny_dictSet_pairs hk (eN_ hd λo q=>UZ.extBut _ _ J5 q) (λh2 hd2 JN=>?_) (by have:=ck;omega)));exact bR #[plainId_quiet RV _,hR h2 hd2 (λb o h3 h4 q=>JN.extBut _ _ h3 (UZ.extBut _ _ h4 q)) (Vg.extBut JN.extBut (Ne.symm J5))]
theorem lk_{kvs:List (K × Aa)}(J5:d≠it)(hh:A.handled=none)(hi:its.toArray[i]? = none)(hit:s.heap.IsListIter it l i)(hl:s.heap.IsList l its.toArray)(hd:s.heap.DictOf knd d kvs)(hR:∀h',h'.DictOf knd d kvs->(∀b o,b≠it->s.heap.get? b=some o->h'.get? b=some o)->R (.ok (.ret .none)) { s with heap:=h' }) :
  codeAny (model prog w) A (.builtin "dict.update.loop" #[[.ref d,.ref it,.int i tk,.none],[]]) R s:=by
 apply codeAny_builtin eq_ ?_;rw[Around.under_plainId RV _,_m];apply aP (wpAny_pyNext_list_end hh hit hl hi λh' he=>?_);exact aP (m:=Builtin.Dict.addKeywords d []) (bR (bR (hR h' (eN_ hd λo q=>he _ _ J5 q) λb o hb q=>he b o hb q)))
theorem lZ_(hil:l≠it)(J5:d≠it)(QY:d≠l)(hh:A.handled=none)(rest:ax):∀(ps:List (K × Aa)) (i:Nat) (kvs:List (K × Aa)) (s:Ab) (R:Result->Ab->Prop) (tk:Tok),its.drop i=rest->V8 knd s.heap rest ps->
  s.heap.IsListIter it l i->s.heap.IsList l its.toArray->s.heap.DictOf knd d kvs->kvs.length+ps.length<=1000->
  (∀h' EJ,h'.DictOf knd d (iw kvs ps)->(∀b o,b≠d->b≠it->s.heap.get? b=some o->h'.get? b=some o)->R (.ok (.ret .none)) { s with heap:=h',toks:=EJ })->
  codeAny (model prog w) A (.builtin "dict.update.loop" #[[.ref d,.ref it,.int i tk,.none],[]]) R s:=by
 induction rest with
 |nil=>
  intro ps i kvs s R tk e hp hit hl hd hz hR;cases hp
  have hi:its.toArray[i]? = none:=by
   have:=dU List.length e;simp only[List.length_drop,zD] at this;simp;omega
  exact lk_ J5 hh hi hit hl hd λh' pS kp=>hR h' s.toks pS λb o _ hb q=>kp b o hb q
 |cons v rest ih=>
  intro ps i kvs s R tk e hp hit hl hd hz hR;cases hp with
  |@cons _ p _ ps h0 hr=>
  let#[a,key,hv,ht,hk]:=h0;let#[k,x]:=p;subst hv
  have hi:its.toArray[i]? = some (.ref a):=by
   have q:(its.drop i)[0]? = some (.ref a):=by rw[e];rfl
   rw[List.getElem?_drop] at q;simpa using q
  have e':its.drop (i+1)=rest:=by
   rw[<- List.drop_drop,e];rfl
  simp only[iE] at hz;apply iY_ J5 hi ht hk hit hl hd Z1 λh2 hd2 kp Gf=>?_;have c1:((i:Int)+1)=((i+1:Nat):Int):=by omega
  rw[c1];apply ih ps (i+1) (stored kvs k x) _ R 0 e' (L2.Paired.bu hr λv p ⟨b,ky,e1,t1,k1⟩=>#[b,ky,e1,?_,k1]) Gf (hl.at λo q=>kp _ _ (Ne.symm QY) hil q) hd2 (by have:=gk_ kvs k x;omega) λh' EJ pS kp'=>hR h' EJ pS λb o h3 h4 q=>kp' b o h3 h4 (kp b o h3 h4 q);let#[o,ho,r]:=id t1;exact#[o,kp _ _ (fh_ t1 hd) (d4_ t1 hit) ho,r]
theorem eY_{n:Nat}{ps:List (K × Aa)}{Q:Aa->Ab->Prop}(hh:A.handled=none)(ho:s.heap.get? l=some (seqObj "list" its.toArray n))(hp:V8 knd s.heap its ps)(hz:ps.length<=1000)(h:∀h' EJ,h'.DictOf knd s.heap.objs.size (iw [] ps)->(∀b o,s.heap.get? b=some o->h'.get? b=some o)->Q (.ref s.heap.objs.size) { s with heap:=h',toks:=EJ }) :
  wpAny (model prog w) A (call (.type "dict") [.ref l]) Q E s:=by
 apply callType_codes (Q₁:=λobj a_=>obj=.ref s.heap.objs.size/\a_={ s with heap:=s.heap.push { cls:=.type "dict",data:=.dict #[] } }) F.kt_called_dict (F.kt_typeCall_dict_1 _) F.entry_dict_init (kt_code_dict_new _ #[Z,Z]) ?_;rintro obj a_ ⟨rfl,rfl⟩;have zf:(s.heap.push { cls:=.type "dict",data:=.dict #[] }).DictOf knd s.heap.objs.size []:=Heap.DictOf.new s.heap;have pR:(s.heap.push { cls:=.type "dict",data:=.dict #[] }).get? l=some (seqObj "list" its.toArray n):=cO _ ho;apply#[zf.typeIs,F.args_dict_init_2 _ _,?_];unfold Builtin.«dict.__init__» Builtin.Dict.selfAndRest;apply aP (aP (wpAny_notOrdered_dict zf.typeIs ?_));apply (show wpAny _ _ (pure (s.heap.objs.size,[Value.ref l])) _ _ _ from bR ?_);apply (show wpAny _ _ (Builtin.Dict.updateFrom "dict.__init__" s.heap.objs.size (.ref l) [] .none) _ _ _ from ?_);unfold Builtin.Dict.updateFrom;apply aP (wpAny_typeOf (T:="list") #[_,pR,Z] ?_);rw[aA (by decide)];apply aP (JD pR hh λh2 EI k2=>?_);simp only[Option.isNone_none,if_true];have DT:h2.get? l=some (seqObj "list" its.toArray n):=k2 _ _ pR;apply aP (wpAny_rule (aP (wpAny_pyIter_list #[_,DT,Z,_,Z] ?_)));apply bR #[plainId_quiet RV _,?_];have all:∀{b o},s.heap.get? b=some o->(h2.push { cls:=.type "list_iterator",data:=.fields (List.toArray [.ref l,.int 0 0]) }).get? b=some o:=λq=>cO _ (k2 _ _ (cO _ q))
 have hd2:h2.DictOf knd s.heap.objs.size []:=by
  let#[o,es,ep,ho,r]:=zf;exact#[o,es,ep,k2 _ _ ho,r]
 have Tf:s.heap.objs.size<h2.objs.size:=by
  let#[o,es,ep,ho,r]:=hd2;exact cE ho
 have lz:l<s.heap.objs.size:=cE ho
 apply lZ_ (A:=A.in1) (knd:=knd) (its:=its) (it:=h2.objs.size) (l:=l) (d:=s.heap.objs.size) (eM (Nat.lt_trans lz Tf)) (eM Tf) (Fc lz) hh its ps 0 [] _ _ 0 Z (L2.Paired.bu hp λv p ⟨b,ky,e1,t1,k1⟩=>#[b,ky,e1,t1.keeps λb o q=>all q,k1])
  #[_,e_ _ Z,Z,Z] #[_,cO _ DT,Z,_,Z] (by
   let#[o,es,ep,ho,r]:=hd2;exact#[o,es,ep,cO _ ho,r]) (by simpa using hz) λh' EJ pS kp=>#[Z,h h' EJ pS λb o q=>?_]
 have bl:b<s.heap.objs.size:=cE q;exact kp b o (eM bl) (eM (Nat.lt_trans bl Tf)) (all q)
end
end SM
theorem zl{n:Nat}(h:decide (n<=16777216)=true:=by rfl):n<=PySem.sizeLine:=by
 rw[PySem.sizeLine_eq];exact vJ h
namespace L2
open PySem PySem.Spec PyProof.Rows PySem.W Qj SM
variable{ys:ag}
theorem bg.same{K:af}{H H':Hp}{ks:List aN}(t:bg K H ys ks)(e:aa H H'):bg K H' ys ks:=Paired.bu t λy k ⟨a,z,q⟩=>#[a,z,e _ _ q]
theorem aa.new{H:Hp}{l:Addr}{o:HO}(h:H l=none):aa H (upd H l o):=λb u e=>by rw[au (bx e h)];exact e
section
variable{X:Cx}{pins:List (Addr × Obj)}{σ:St}{H H':Hp}{s:Ab}{h':Heap}{t':Nat}
theorem Inv.many(I:Inv X pins σ H s)(k:∀b o,s.heap.get? b=some o->h'.get? b=some o)(hold:aa H H')(zf:∀b,H b=none->b<s.heap.objs.size->H' b=none)
  (hob:∀b o,H' b=some o->H b=none->∃xs its,o=.tup xs/\xs.length<=sizeLine/\Vals xs its/\IsTup h' b its.toArray/\∃o,h'.get? b=some o/\o.dict=none):Inv X pins σ H' { s with heap:=h',toks:=t' }:=by
 apply I.un #[λb o q _ _ _=>k b o q,λb o q _ _ _=>#[o.slots,k b o q],λb o q n _=>zf b n (cE q),λb o q _=>#[o,k b o q],λb xs q=>hold b _ q,λb o u q=>hold b _ q,λb ps q=>#[#[],by rw[Array.append_empty];exact hold b _ q]] λb o q=>?_;cases e:H b with
 |some u=>
  let e2:=hold b u e;rw[q] at e2;cases e2;exact (I.aO b o e).eS (λc v _ z=>k c v z) (λc z=>hold c _ z) λc xs z=>hold c _ z
 |none=>
  let#[xs,its,rfl,z,r,t]:=hob b o q e;exact#[z,its,r,t]
end
variable{R:ax->Ab->Prop}
section
variable{X:Cx}{pins:List (Addr × Obj)}{σ:St}{H:Hp}{s:Ab}{A:Ag}{E:Aa->Ab->Prop}
theorem Xv{p:Addr}(I:Inv X pins σ H s)(h:d9 X.K H p ys)(hz:ys.length<=100000)(q:∀vs s1,Inv X pins σ H s1->Vals ys vs->R vs s1):wpAny (model X.prog X.w) A (collect (.ref p)) R E s:=by
 let#[its,r,pl,_]:=I.list h;let hl:=r.length;apply collect_list pl.isList (q its _ ?_ r) (by have:=ck;omega);apply I.kept (t':=s.toks) λb u e=>?_;have lt:b<s.heap.objs.size:=cE e;rw[Heap.get?_update_ne _ _ _ _ (eM lt)];exact cO _ e
theorem Yj{P:Nat->Aa->Prop}{acc:Array Aa}(h:ItemsOf P acc ys.length)(hp:∀(j:Nat) v,P j v->∀y,ys[j]? = some y->RelV y v):Vals ys acc.toList:=by
 have gen:∀(ys:ag) (vs:ax),ys.length=vs.length->(∀(j:Nat) y v,ys[j]? = some y->vs[j]? = some v->RelV y v)->Vals ys vs:=λys=>by
  induction ys with
  |nil=>
   intro vs hl _;cases vs with
   |nil=>exact .nil
   |cons _ _=>cases hl
  |cons y ys ih=>
   intro vs hl h;cases vs with
   |nil=>cases hl
   |cons v vs=>exact .cons (h 0 y v Z Z) (ih vs (by simpa using hl) λj y v a b=>h (j+1) y v (by simpa using a) (by simpa using b))
 apply gen ys acc.toList (by rw[B7];exact h.1.symm) λj y v a b=>hp j v (h.2 j v ?_) y a;rw[<- Array.getElem?_toList];exact b
theorem _i{d:Addr}{kvs:List (Key × V)}(I:Inv X pins σ H s)(h:Rd H d (.dK kvs)):∃(P:Nat->Aa->Prop) (OK:Heap->Prop),KdlSrc X.prog X.w "dict" d d (kvs.map λkv=>kV kv.1).length P OK/\OK s.heap/\∀(j:Nat) v,P j v->∀y,(kvs.map λkv=>kV kv.1)[j]? = some y->RelV y v:=by
 let#[z,hd,vs,rel,dd]:=Bv I.aO h;let#[ep,dat]:=dd.dictAt;let hl:=rel.length;apply#[λi v=>∃k x,vs[i]? = some (k,x)/\(fI X.prog X.w).is k v=true,λh=>h.DictAt (fI X.prog X.w) d vs ep,(by rw[ak,hl];exact kdl_dict (knd:=fI X.prog X.w) (kvs:=vs) (ep:=ep) hd),dat,λj v ⟨k,x,e,hk⟩ y hy=>?_];rw[dQ] at hy;have ek:kvs.map (·.1)=vs.map (·.1):=rel.keys;have e2:(kvs.map (·.1))[j]? = (vs.map (·.1))[j]?:=by rw[ek]
 rw[dQ,dQ,e] at e2;cases e3:kvs[j]? with
 |none=>rw[e3] at e2;cases e2
 |some kv=>
  rw[e3] at e2 hy;have e4:kv.1=k:=ee e2;have e5:kV kv.1=y:=ee hy;rw[<- e5,e4];have hk:Gz k v=true:=hk;rcases B6 hk with⟨i,t,rfl,rfl⟩|⟨x,t,rfl,rfl⟩
  ·exact#[t,Z]
  ·exact#[t,Z]
theorem _s{d:Addr}{kvs:List (Key × V)}(hh:A.handled=none)(I:Inv X pins σ H s)(h:Rd H d (.dK kvs))(q:∀vs s1,Inv X pins σ H s1->Vals (kvs.map λkv=>kV kv.1) vs->R vs s1):wpAny (model X.prog X.w) A (collect (.ref d)) R E s:=by
 let#[P,OK,S,ok,hp]:=_i I h;apply kdu_collect S hh ok ?_ λh' tk acc k a=>q _ _ (I.kept k) (Yj a hp);rw[ak];exact (Bv I.aO h).1
theorem lI_{d:Addr}{kvs:List (aN × V)}(I:Inv X pins σ H s)(h:Rd H d (.dT kvs)):∃(ys:ag) (P:Nat->Aa->Prop) (OK:Heap->Prop),bg X.K H ys (kvs.map (·.1))/\ys.length<=sizeLine/\KdlSrc X.prog X.w "dict" d d ys.length P OK/\OK s.heap/\∀(j:Nat) v,P j v->∀y,ys[j]? = some y->RelV y v:=by
 let#[z,hd,xs,rel,o,es,ep,ho,hc,Gh,J4,nd]:=h.ok I.aO
 have l1:es.size=xs.length:=by
  have:=dU List.length J4;simpa using this
 let l2:=bG rel;apply#[xs.map λx=>V.ref x.2.1,λi v=>∃h:i<es.size,v=es[i].key,λh=>Raw h d es ep,?_,by rw[ak];omega,(by rw[ak,<- l1];exact kB_ (es:=es) (ep:=ep) hd),#[o,ho,hc,Gh],λj v ⟨hj,e⟩ y hy=>?_]
 ·have gen:∀{kvs:List (aN × V)} {xs:List (aN × Addr × Aa)},KT H kvs xs->bg X.K H (xs.map λx=>V.ref x.2.1) (kvs.map (·.1)):=λ{kvs xs} r=>by
   induction r with
   |nil=>exact .nil
   |cons h _ ih=>exact .cons #[_,Z,h.2.1] ih
  exact gen rel
 ·rw[dQ] at hy;have hx:j<xs.length:=by omega
  rw[dq hx] at hy;have e1:V.ref xs[j].2.1=y:=ee hy
  have e2:es[j]=entryOfKey (tupleKind (fI X.prog X.w)) xs[j]:=by
   have e3:es.toList[j]? = (xs.map (entryOfKey (tupleKind (fI X.prog X.w))))[j]?:=by rw[J4]
   rw[dQ,dq hx,Array.getElem?_toList,Array.getElem?_eq_getElem hj] at e3;exact ee e3
  rw[<- e1,e,e2];rfl
theorem lQ_{d:Addr}{kvs:List (aN × V)}(hh:A.handled=none)(I:Inv X pins σ H s)(h:Rd H d (.dT kvs))(q:∀ys vs s1,Inv X pins σ H s1->Vals ys vs->bg X.K H ys (kvs.map (·.1))->R vs s1):wpAny (model X.prog X.w) A (collect (.ref d)) R E s:=by
 let#[ys,P,OK,t,z,S,ok,hp]:=lI_ I h;exact kdu_collect S hh ok z λh' tk acc k a=>q ys _ _ (I.kept k) (Yj a hp) t
def Em(v d:Addr):HO:=.ext λh=>h.IsItemsView v d
def Ek(v d:Addr):HO:=.ext λh=>h.IsValuesView v d
def i_(K:af)(H:Hp):ag->List (Key × V)->Prop:=Paired λy p=>∃a,y=V.ref a/\H a=some (.tup [kV p.1,p.2])
theorem im_{v d:Addr}{kvs:List (Key × V)}(hh:A.handled=none)(I:Inv X pins σ H s)(hv:H v=some (Em v d))(h:Rd H d (.dK kvs))(q:∀H1 ys vs s1,Inv X pins σ H1 s1->aa H H1->Vals ys vs->i_ X.K H1 ys kvs->R vs s1) :
  wpAny (model X.prog X.w) A (collect (.ref v)) R E s:=by
 let#[z,hd,vs,rel,dd]:=Bv I.aO h;let#[ep,dat]:=dd.dictAt;let#[iv,_,_]:=I.aO v _ hv;let hl:=rel.length;apply kdx_collect (knd:=fI X.prog X.w) (kvs:=vs) (ep:=ep) hh iv dat Z1 λh' tk as k la G=>?_;have up:∀b,b∈as->s.heap.objs.size<b:=G.above
 have SG:∀(j:Nat) b p,as[j]? = some b->kvs[j]? = some p->∃its,Vals [kV p.1,p.2] its/\IsTup h' b its.toArray/\∃o,h'.get? b=some o/\o.dict=none:=λj b p hj hp=>by
  let#[key,kk,x,e1,e2,e3]:=G.pairs j b hj
  have gen:∀{kvs:List (Key × V)} {vs:List (Key × Aa)},KV kvs vs->∀(j:Nat),vs[j]? = some (kk,x)->kvs[j]? = some p->p.1=kk/\RelV p.2 x:=λ{kvs vs} r=>by
   induction r with
   |nil=>intro j e;simp at e
   |@cons p' q _ _ h _ ih=>
    intro j e e';cases j with
    |zero=>
     have e:q=(kk,x):=by simpa using e
     have e':p'=p:=by simpa using e'
     subst e';rw[e] at h;exact h
    |succ j=>exact ih j (by simpa using e) (by simpa using e')
  let#[g1,g2]:=gen rel j e1 hp;apply#[[key,x],.cons ?_ (.cons g2 .nil),#[_,e3,Z,_,Z],_,e3,Z];rw[g1];have e2:Gz kk key=true:=e2;rcases B6 e2 with⟨i,t,rfl,rfl⟩|⟨x,t,rfl,rfl⟩
  ·exact#[t,Z]
  ·exact#[t,Z]
 have look:∀{as:ay} {kvs:List (Key × V)},as.Pairwise (· < ·)->∀(j:Nat) b p,as[j]? = some b->kvs[j]? = some p->(as.zip kvs).lookup b=some p:=λ{as}=>by
  induction as with
  |nil=>intro kvs _ j b p e;simp at e
  |cons a as ih=>
   intro kvs pw j b p e e';cases kvs with
   |nil=>simp at e'
   |cons q kvs=>
    let#[p1,p2]:=Eu.mp pw;show ((a,q)::as.zip kvs).lookup b=some p;cases j with
    |zero=>
     have e:a=b:=by simpa using e
     have e':q=p:=by simpa using e'
     subst e;subst e';rw[List.lookup_cons_self]
    |succ j=>
     have e:as[j]? = some b:=by simpa using e
     have e':kvs[j]? = some p:=by simpa using e'
     let lt:=p1 b (cu e);rw[Et,show (b == a)=false by simp only[beq_eq_false_iff_ne];exact Fc lt];exact ih p2 j b p e e'
 have lk:as.length=kvs.length:=by omega
 let H1:Hp:=λb=>if b∈as then ((as.zip kvs).lookup b).map λp=>HO.tup [kV p.1,p.2] else H b
 have OP:∀(j:Nat) b p,as[j]? = some b->kvs[j]? = some p->H1 b=some (.tup [kV p.1,p.2]):=λj b p e e'=>by
  show (if b∈as then _ else _)=_;rw[aA (cu e),look G.rise j b p e e'];rfl
 have AI:∀b,b∉as->H1 b=H b:=λb hb=>ao hb;have old:∀b,b<s.heap.objs.size->b∉as:=λb hb m=>absurd (up b m) Z1;apply q H1 (as.map V.ref) _ _ (I.many (t':=tk) k (λb o e=>by rw[AI b (old b (I.aO.lt e))];exact e) (λb e hb=>by rw[AI b (old b hb)];exact e) λb o e e0=>?_) (λb o e=>by rw[AI b (old b (I.aO.lt e))];exact e) ?_ ?_
 ·by_cases m:b∈as
  ·let#[j,hj]:=List.mem_iff_getElem?.mp m
   have jl:j<kvs.length:=by
    have:=(cc.mp hj).1;omega
   let e':=OP j b kvs[j] hj (dq jl);rw[e] at e';cases e';let#[its,r,t]:=SG j b _ hj (dq jl);exact#[_,its,Z,zl,r,t]
  ·rw[AI b m,e0] at e;cases e
 ·have gen:∀as:ay,Vals (as.map V.ref) (as.map Value.ref):=λas=>by
   induction as with
   |nil=>exact .nil
   |cons a as ih=>exact .cons Z ih
  exact gen as
 ·have gen:∀(hY:ay) (fQ:List (Key × V)),hY.length=fQ.length->(∀(j:Nat) b p,hY[j]? = some b->fQ[j]? = some p->H1 b=some (.tup [kV p.1,p.2]))->i_ X.K H1 (hY.map V.ref) fQ:=λhY=>by
   induction hY with
   |nil=>
    intro fQ hl _;cases fQ with
    |nil=>exact .nil
    |cons _ _=>cases hl
   |cons a hY ih=>
    intro fQ hl h;cases fQ with
    |nil=>cases hl
    |cons p fQ=>exact .cons #[a,Z,h 0 a p Z Z] (ih fQ (by simpa using hl) λj b p e e'=>h (j+1) b p (by simpa using e) (by simpa using e'))
  exact gen as kvs lk OP
end
theorem fP_{a b:ae}(h:a.map cX=b.map cX):a=b:=by
 induction a generalizing b with
 |nil=>
  cases b with
  |nil=>rfl
  |cons _ _=>cases h
 |cons x a ih=>
  cases b with
  |nil=>cases h
  |cons y b=>
   let#[h1,h2]:=zv h;have h1:[(Sum.inr x:Key)]=[Sum.inr y]:=h1;cases h1;rw[ih h2]
theorem Yl(ss:ae):(aV ss).map cX=aU (ss.map cX):=by
 have all:∀k∈aU (ss.map cX),∃x,k=cX x:=λk hk=>by
  let#[x,_,e]:=bh.mp ((yb _).mem_iff.mp hk);exact#[x,e.symm]
 have gen:∀l:List aN,(∀k∈l,∃x,k=cX x)->(l.map λk=>match k with | [.inr x]=>x|_=>(⟨#[]⟩:Str)).map cX=l:=λl=>by
  induction l with
  |nil=>exact λ_=>rfl
  |cons k l ih=>
   intro h;let#[x,rfl]:=h k c8;rw[el,el,ih λk hk=>h k (dF _ hk)];rfl
 exact gen _ all
theorem gO(ss:ae):(aV ss).Perm ss:=by
 have p:((aV ss).map cX).Perm (ss.map cX):=by rw[Yl];exact yb _
 have back:∀l:ae,(l.map cX).map (λk=>match k with | [.inr x]=>x|_=>(⟨#[]⟩:Str))=l:=λl=>by
  rw[cm]
  induction l with
  |nil=>rfl
  |cons x l ih=>rw[el,ih];rfl
 let q:=p.map (λk=>match k with | [.inr x]=>x|_=>(⟨#[]⟩:Str));rwa [back,back] at q
variable{u:Aa}
section
variable{X:Cx}{pins:List (Addr × Obj)}{σ:St}{H:Hp}{s:Ab}
theorem cT_{ss:ae}{Q:VK}(dm:ss.length<64)(zj:wpAny (model X.prog X.w) X.A.in1 (collect u) (λvs s1=>∃H1,Inv X pins σ H1 s1/\Vals (ss.map V.str) vs/\∀l,H1 l=none->Q (.ref l) (upd H1 l (.lst ((aV ss).map V.str)))) X.xe s) :
  wpAny (model X.prog X.w) X.A (call (.builtin "sorted") [u]) (EP X pins σ Q) X.xe s:=by
 apply dH_ (Xn (ss.map cX)) (aZ zj λvs s1 ⟨H1,I1,r,q⟩=>?_);have hl:vs.length=ss.length:=by rw[<- r.length,ak]
 apply#[by omega,λh2 h' _=>hs_ (hM_ r) h2,λp h' e g up hD kp=>?_];have g':Good (ss.map cX).length p:=by rw[ak,<- hl];exact g
 let asc:=VT (ks:=ss.map cX) (λi j _ _=>rfl) g' (by rw[ak,<- hl];exact up)
 have perm:(p.toList.map λi=>(ss.map cX).getD i []).Perm (ss.map cX):=by
  have:=P4 g' λi=>(ss.map cX).getD i [];rwa [P9] at this
 let es:=RN perm asc
 have inr:∀i∈p.toList,i<ss.length:=λi hi=>by
  have m:i∈(List.range vs.length).toArray:=g.mem_iff.mp (by simpa using hi);rw[hl] at m;simpa using m
 have e1:(p.toList.map λi=>ss.getD i ⟨#[]⟩)=aV ss:=by
  apply fP_ ?_;rw[Yl,<- es,cm];apply BC λi hi=>?_;have:=inr i hi;simp[this]
 let rv:=Wk r g
 have e2:(p.toList.map λi=>(ss.map V.str).getD i .non)=(aV ss).map V.str:=by
  rw[<- e1,cm];apply BC λi hi=>?_;have:=inr i hi;simp[this]
 rw[e2] at rv;apply#[.ref s1.heap.objs.size,_,I1.laid (t':=s1.toks) kp (bo _) (show fV X.prog X.w _ h' _ (.lst ((aV ss).map V.str)) from #[?_,zk p vs,e,rv,hD]),Z,q _ (I1.aO.fresh (bo _))];rw[ak,(gO ss).length_eq];have:=ck;omega
theorem j4_{K:af}{H:Hp}{ks:List aN}(t:bg K H ys ks):∀l:List Nat,(∀i∈l,i<ys.length)->bg K H (l.map λi=>ys.getD i .non) (l.map λi=>ks.getD i []):=λl=>by
 induction l with
 |nil=>exact λ_=>.nil
 |cons i l ih=>
  intro h;apply .cons ?_ (ih λj hj=>h j (dF _ hj));let hi:=h i c8
  have gen:∀{ys:ag} {ks:List aN} (i:Nat),i<ys.length->bg K H ys ks->∃a,ys.getD i .non=V.ref a/\H a=some (.tup ((ks.getD i []).map kV)):=λ{ys ks} i hy t=>by
   induction t generalizing i with
   |nil=>exact absurd hy Z2
   |cons h t ih=>
    cases i with
    |zero=>exact h
    |succ i=>exact ih i (by simpa using hy)
  exact gen i hi t
theorem YN{ks:List aN}{sh:List Bool}{Q:VK}(dm:ks.length<64)(al:HU ks sh)(zj:wpAny (model X.prog X.w) X.A.in1 (collect u) (λvs s1=>∃H1 ys,Inv X pins σ H1 s1/\Vals ys vs/\bg X.K H1 ys ks/\∀l zs,H1 l=none->bg X.K H1 zs (aU ks)->zs.Perm ys->Q (.ref l) (upd H1 l (.lst zs))) X.xe s) :
  wpAny (model X.prog X.w) X.A (call (.builtin "sorted") [u]) (EP X pins σ Q) X.xe s:=by
 apply dH_ (Xn ks) (aZ zj λvs s1 ⟨H1,ys,I1,r,t,q⟩=>?_);let l1:=r.length;let l2:=bG t;have hl:vs.length=ks.length:=by omega
 apply#[by omega,λh2 h' k=>eT_ I1 r t al h2 k,λp h' e g up hD kp=>?_];have g':Good ks.length p:=by rw[<- hl];exact g
 let asc:=VT (ks:=ks) (λi j _ _=>rfl) g' (by rw[<- hl];exact up)
 have perm:(p.toList.map λi=>ks.getD i []).Perm ks:=by
  have:=P4 g' λi=>ks.getD i [];rwa [P9] at this
 let es:=RN perm asc
 have inr:∀i∈p.toList,i<ys.length:=λi hi=>by
  have m:i∈(List.range vs.length).toArray:=g.mem_iff.mp (by simpa using hi);rw[<- l1] at m;simpa using m
 let tz:=j4_ t p.toList inr;rw[es] at tz;let rv:=Wk r g
 have pz:(p.toList.map λi=>ys.getD i .non).Perm ys:=by
  have:=P4 (n:=ys.length) (by rw[l1];exact g) λi=>ys.getD i .non;rwa [P9] at this
 apply#[.ref s1.heap.objs.size,_,I1.laid (t':=s1.toks) kp (bo _) (show fV X.prog X.w _ h' _ (.lst (p.toList.map λi=>ys.getD i .non)) from #[?_,zk p vs,e,rv,hD]),Z,q _ _ (I1.aO.fresh (bo _)) tz pz];rw[pz.length_eq];have:=ck;omega
end
inductive Dp (K:af) (xs:ag) (H:Hp) (Q:VK):Prop
 |mk:∀p ss,xs=[.ref p]->d9 K H p (ss.map V.str)->ss.length<64->(∀l,H l=none->Q (.ref l) (upd H l (.lst ((aV ss).map V.str))))->Dp K xs H Q
variable{X:Cx}
theorem Yy:gJ X (.builtin "sorted") (Dp X.K):=by
 intro pins s σ H xs us Q I r h;let#[p,ss,rfl,hp,dm,q]:=h;let#[u,rfl,ru]:=vals1 r;cases ru;exact cT_ dm (Xv I hp (by rw[ak];omega) λvs s1 I1 r1=>⟨H,I1,r1,q⟩)
inductive Do (K:af) (xs:ag) (H:Hp) (Q:VK):Prop
 |mk:∀p ys ks sh,xs=[.ref p]->d9 K H p ys->bg K H ys ks->HU ks sh->ks.length<64->(∀l zs,H l=none->bg K H zs (aU ks)->zs.Perm ys->Q (.ref l) (upd H l (.lst zs)))->Do K xs H Q
theorem gt_:gJ X (.builtin "sorted") (Do X.K):=by
 intro pins s σ H xs us Q I r h;let#[p,ys,ks,sh,rfl,hp,t,al,dm,q]:=h;let#[u,rfl,ru]:=vals1 r;cases ru;let l:=bG t;exact YN dm al (Xv I hp Z1 λvs s1 I1 r1=>⟨H,ys,I1,r1,t,q⟩)
inductive Ap (K:af) (xs:ag) (H:Hp) (Q:VK):Prop
 |mk:∀d kvs sh,xs=[.ref d]->H d=some (.dT kvs)->HU (kvs.map (·.1)) sh->kvs.length<64->(∀l zs,H l=none->bg K H zs (aU (kvs.map (·.1)))->Q (.ref l) (upd H l (.lst zs)))->Ap K xs H Q
theorem fd_(hc:X.calm=true):gJ X (.builtin "sorted") (Ap X.K):=by
 intro pins s σ H xs us Q I r h;let#[d,kvs,sh,rfl,hd,al,dm,q]:=h;let#[u,rfl,ru]:=vals1 r;cases ru;exact YN (by rw[ak];exact dm) al (lQ_ (I.ok.hd hc) I (.inl hd) λys vs s1 I1 r1 t=>⟨H,ys,I1,r1,t,λl zs n t' _=>q l zs n t'⟩)
inductive Aq (xs:ag) (H:Hp) (Q:VK):Prop
 |mk:∀d kvs ss,xs=[.ref d]->H d=some (.dK kvs)->kvs.map (·.1)=ss.map Sum.inr->ss.length<64->(∀l,H l=none->Q (.ref l) (upd H l (.lst ((aV ss).map V.str))))->Aq xs H Q
theorem d7_(hc:X.calm=true):gJ X (.builtin "sorted") Aq:=by
 intro pins s σ H xs us Q I r h;let#[d,kvs,ss,rfl,hd,ek,dm,q]:=h;let#[u,rfl,ru]:=vals1 r;cases ru;apply cT_ dm (_s (I.ok.hd hc) I (.inl hd) λvs s1 I1 r1=>⟨H,I1,?_,q⟩)
 have e:(kvs.map λkv=>kV kv.1)=ss.map V.str:=by
  rw[show (kvs.map λkv=>kV kv.1)=(kvs.map (·.1)).map kV by rw[cm];rfl,ek,cm];rfl
 rwa [e] at r1
inductive Dq (K:af) (xs:ag) (H:Hp) (Q:VK):Prop
 |mk:∀(v d:Addr) (kvs:List (Key × V)) (ks:List (Key × Key)) (sh:List Bool),xs=[.ref v]->H v=some (Em v d)->H d=some (.dK kvs)->kvs=ks.map (λk:Key × Key=>(k.1,kV k.2))->HU (ks.map λk=>[k.1,k.2]) sh->ks.length<64->(∀l H1 zs,aa H H1->H1 l=none->bg K H1 zs (aU (ks.map λk=>[k.1,k.2]))->Q (.ref l) (upd H1 l (.lst zs)))->Dq K xs H Q
theorem gq_(hc:X.calm=true):gJ X (.builtin "sorted") (Dq X.K):=by
 intro pins s σ H xs us Q I r h;let#[v,d,kvs,ks,sh,rfl,hv,hd,ek,al,dm,q]:=h;let#[u,rfl,ru]:=vals1 r;cases ru;apply YN (by rw[ak];exact dm) al (im_ (I.ok.hd hc) I hv (.inl hd) λH1 ys vs s1 I1 sm r1 t=>⟨H1,ys,I1,r1,?_,λl zs n t' _=>q l H1 zs sm n t'⟩);subst ek
 have gen:∀(ks:List (Key × Key)) (ys:ag),i_ X.K H1 ys (ks.map (λk:Key × Key=>(k.1,kV k.2)))->bg X.K H1 ys (ks.map λk=>[k.1,k.2]):=λks=>by
  induction ks with
  |nil=>
   intro ys t;cases t;exact .nil
  |cons k ks ih=>
   intro ys t;cases t with
   |cons h t=>exact .cons h (ih _ t)
 exact gen ks ys t
inductive Ds (xs:ag) (H:Hp) (Q:VK):Prop
 |mk:∀d kvs,xs=[.ref d]->Rd H d (.dK kvs)->(∀l,H l=none->Q (.ref l) (upd H l (.lst (kvs.map λkv=>kV kv.1))))->Ds xs H Q
theorem YD(hc:X.calm=true):gJ X (.type "list") Ds:=by
 intro pins s σ H xs us Q I r h;let#[d,kvs,rfl,hd,q]:=h;let#[u,rfl,ru]:=vals1 r;cases ru;let#[P,OK,S,ok,hp]:=_i I hd;let z:=(Bv I.aO hd).1;apply kdl_call S (I.ok.hd hc) ok (by rw[ak];exact z) λh' tk acc c k hD a=>?_;apply#[.ref s.heap.objs.size,_,I.laid (t':=tk) k (bo _) (show fV X.prog X.w _ h' _ (.lst (kvs.map λkv=>kV kv.1)) from #[by rw[ak];exact z,acc.toList,c,Yj a hp,by rw[Array.toArray_toList];exact hD]),Z,q _ I.fresh]
theorem KV.iw{κ:Type}[DecidableEq κ]:∀{more:List (κ × V)} {rs:List (κ × Aa)} {kvs:List (κ × V)} {vs:List (κ × Aa)},KV more rs->KV kvs vs->KV (more.foldl (λacc kv=>putK acc kv.1 kv.2) kvs) (SM.iw vs rs):=λ{more rs kvs vs} h=>by
 induction h generalizing kvs vs with
 |nil=>exact λh=>h
 |@cons p q _ _ h _ ih=>
  intro h2;let#[k,y]:=p;let#[k',u]:=q;let#[h1,h3]:=h;have h1:k=k':=h1;subst h1;exact ih (h2.put k h3)
inductive Au (K:af) (xs:ag) (H:Hp) (Q:VK):Prop
 |mk:∀p ys kvs,xs=[.ref p]->H p=some (.lst ys)->i_ K H ys kvs->kvs.length<=1000->(∀l,H l=none->Q (.ref l) (upd H l (.dK (zy [] kvs))))->Au K xs H Q
theorem Fl(hc:X.calm=true):gJ X (.type "dict") (Au X.K):=by
 intro pins s σ H xs us Q I r h;let#[p,ys,kvs,rfl,hp,t,hz,q]:=h;let#[u,rfl,ru]:=vals1 r;cases ru;let#[z,its,n,rv,hl,ho]:=I.pN hp
 have gen:∀{ys:ag} {its:ax} {kvs:List (Key × V)},Vals ys its->i_ X.K H ys kvs->∃ps,KV kvs ps/\V8 (fI X.prog X.w) s.heap its ps:=λ{ys its kvs} rv t=>by
  induction t generalizing its with
  |nil=>
   cases rv;exact#[[],.nil,.nil]
  |@cons y p ys kvs h t ih=>
   cases rv with
   |cons r0 rv=>
    let#[ps,h1,h2]:=ih rv;let#[a,e,sq]:=h;subst e;cases r0;let#[tv,rt,it,_]:=I.tuple (iI.of sq);let#[key,x,e2,rk,rx]:=vals2 rt;subst e2;apply#[(p.1,x)::ps,Paired.cons (show p.1=p.1/\RelV p.2 x from #[Z,rx]) h1,Paired.cons (show ∃a' NN,Value.ref a=.ref a'/\IsTup s.heap a' (List.toArray [NN,x])/\(fI X.prog X.w).is p.1 NN=true from #[a,key,Z,it,EV rk]) h2]
 let#[ps,h1,h2]:=gen rv t;let lp:=KV.length h1;apply eY_ (knd:=fI X.prog X.w) (I.ok.hd hc) ho h2 Z1 λh' tk hd kp=>?_;apply#[.ref s.heap.objs.size,_,I.laid (t':=tk) kp (bo _) (Rh ?_ (beq_eq_false_iff_ne.mpr (Ne.symm (eM I.big))) (KV.iw h1 .nil) hd),Z,q _ I.fresh];have:=YR kvs [];have:=ck;simp only[zD] at *;show (zy [] kvs).length<=sizeLine;omega
theorem Wf:∀{bs:List Bool} {vs:ax},Vals (bs.map V.bl) vs->vs=bs.map Value.bool
 |[],_,.nil=>rfl
 |b::bs,_,.cons h t=>by
  cases h;rw[Wf t];rfl
inductive JA (K:af) (g:List Bool->Bool) (xs:ag) (H:Hp) (Q:VK):Prop
 |mk:∀p bs,xs=[.ref p]->d9 K H p (bs.map V.bl)->Q (.bl (g bs)) H->JA K g xs H Q
theorem fR_(hc:X.calm=true):gJ X (.builtin "all") (JA X.K λbs=>bs.all id):=by
 intro pins s σ H xs us Q I r h;let#[p,bs,rfl,hp,q]:=h;let#[u,rfl,ru]:=vals1 r;cases ru;let#[its,rv,pl,z]:=I.list hp;obtain rfl:=Wf rv;let hl:=pl.isList;have lt:p<s.heap.objs.size:=by let#[_,e,_]:=hl;exact cE e
 apply call_all_walk (wpAny_pyIter_list hl ⟨s.heap.objs.size,[s.heap.objs.size,p],[s.heap.objs.size],(bs.map Value.bool).toArray.size,_,_,λi=>(bs[i]?).getD true,rfl,Walks.list (A:=X.A.in1) (I.ok.hd hc) _ p (eM lt) _,⟨⟨_,e_ _ rfl,rfl,rfl⟩,hl.push _⟩,λi v s' Q' E' hP hQ=>?_,λh' tk hk=>?_⟩)
 ·have hP:(bs.map Value.bool).toArray[i]? = some v:=hP;simp only[List.getElem?_toArray,dQ] at hP;cases e:bs[i]? with
  |none=>rw[e] at hP;cases hP
  |some b=>
   have hQ:Q' ((bs[i]?).getD true) s':=hQ;rw[e] at hP hQ;cases hP;exact BO hQ
 ·have e:((List.range (bs.map Value.bool).toArray.size).all λi=>(bs[i]?).getD true)=bs.all id:=by
   rw[dD,ak];exact LSm.range_all bs
  rw[e];exact#[.bl _,H,I.kept (LSm.kept_iter hk),Z,q]
theorem fK_(hc:X.calm=true):gJ X (.builtin "any") (JA X.K λbs=>bs.any id):=by
 intro pins s σ H xs us Q I r h;let#[p,bs,rfl,hp,q]:=h;let#[u,rfl,ru]:=vals1 r;cases ru;let#[its,rv,pl,z]:=I.list hp;obtain rfl:=Wf rv;let hl:=pl.isList;have lt:p<s.heap.objs.size:=by let#[_,e,_]:=hl;exact cE e
 apply call_any_walk (wpAny_pyIter_list hl #[s.heap.objs.size,[s.heap.objs.size,p],[s.heap.objs.size],(bs.map Value.bool).toArray.size,_,_,λi=>(bs[i]?).getD false,Z,Walks.list (A:=X.A.in1) (I.ok.hd hc) _ p (eM lt) _,#[#[_,e_ _ Z,Z,Z],hl.push _],λi v s' Q' E' hP hQ=>?_,λh' tk hk=>?_])
 ·have hP:(bs.map Value.bool).toArray[i]? = some v:=hP;simp only[List.getElem?_toArray,dQ] at hP;cases e:bs[i]? with
  |none=>rw[e] at hP;cases hP
  |some b=>
   have hQ:Q' ((bs[i]?).getD false) s':=hQ;rw[e] at hP hQ;cases hP;exact BO hQ
 ·have e:((List.range (bs.map Value.bool).toArray.size).any λi=>(bs[i]?).getD false)=bs.any id:=by
   rw[dD,ak];exact LSm.range_any bs
  rw[e];exact#[.bl _,H,I.kept (LSm.kept_iter hk),Z,q]
theorem hj_:∀{ns:List Int} {vs:ax},Vals (ns.map V.int) vs->IntsAre vs ns
 |[],_,.nil=>.nil
 |n::ns,_,.cons h t=>by
  let#[tk,rfl]:=h;exact .cons _ _ (hj_ t)
inductive M4 (K:af) (xs:ag) (H:Hp) (Q:VK):Prop
 |mk:∀(p:Addr) (ns:List Int),xs=[.ref p]->d9 K H p (ns.map V.int)->0<ns.length->(∀m,m∈ns->(∀a∈ns,a<=m)->Q (.int m) H)->M4 K xs H Q
theorem fx_(hc:X.calm=true):gJ X (.builtin "max") (M4 X.K):=by
 intro pins s σ H xs us Q I r h;let#[p,ns,rfl,hp,hn,q]:=h;let#[u,rfl,ru]:=vals1 r;cases ru;let#[its,rv,pl,z]:=I.list hp;let hi:=hj_ rv;let#[xs,e]:=hi.allInts.items;let hl:=pl.isList;have JU:ns=xs.toList.map (·.1):=by rw[<- hi.numsOf,<- nums_intItems,<- e]
 have hsz:0<xs.size:=by
  let h3:=hn;rw[JU] at h3;simpa using h3
 rw[e] at hl;apply max_intList (I.ok.hd hc) hl hsz λv h' tk hv hk=>?_;let#[t,rfl]:=intItems_at hv;let#[h1,h2]:=argBest_gt (numAt xs) (xs.size - 1);apply#[.int _,H,I.kept hk,#[t,Z],q _ ?_ λa ha=>?_]
 ·rw[JU,numAt_eq];exact getD_mem (by rw[ak,B7];omega)
 ·rw[JU] at ha;let#[j,hj,rfl]:=mem_getD ha;rw[ak,B7] at hj;rw[<- numAt_eq];exact h2 j Z1
end L2
namespace SL
open PySem PySem.SeqAt PyProof.Rows
open AutoSeq1 (wpAny_loadPart')
open MeetsSeq MeetsSeq2 MeetsSeq3 SeqRoads2
theorem mg_(l b:Addr)(xs ys:Array Aa)(n m:Nat)(dl db:Option Addr)(sl sb:Array (Option Aa))(hs:xs.size=ys.size)(e:Nat->Bool)(k:Nat) :
  ∀i:Nat,xs.size - i=k->Meets (Builtin.«list.__eq__.loop» #[[.ref l,.ref b,rawInt i,rawInt 3],[]])
   (λA R s=>(s.heap.get? l=some { cls:=.type "list",dict:=dl,data:=.seq xs n,slots:=sl }/\s.heap.get? b=some { cls:=.type "list",dict:=db,data:=.seq ys m,slots:=sb }) /\
    (∀j (h1:j<xs.size) (h2:j<ys.size),EqAt A.in1 s xs[j] ys[j] (e j))/\R (.ok (.ret (.bool (!((List.range xs.size).drop i).all e)))) s):=by
 induction k with
 |zero=>
  intro i hk prog w A R s ⟨⟨gl,gb⟩,he,h⟩;let#[hp,g,d,tk,os]:=s
  wp_walk using BN gl,BN gb
  rw[show xs[((i:Nat):Int).toNat]? = none by simp;omega,show ys[((i:Nat):Int).toNat]? = none by simp;omega];rw[show (List.range xs.size).drop i=[] by simp;omega] at h
  wp_walk using BN gl,BN gb
  apply (show R (.ok (.ret (.bool (xs.size != ys.size)))) _ from ?_);rw[show (xs.size != ys.size)=false by simp[hs]];exact h
 |succ k ih=>
  intro i hk prog w A R s ⟨⟨gl,gb⟩,he,h⟩;let#[hp,g,d,tk,os]:=s
  wp_walk using BN gl,BN gb
  have z1:i<xs.size:=by omega
  have z2:i<ys.size:=by omega
  have q1:xs[((i:Nat):Int).toNat]? = some xs[i]:=by simp[z1]
  have q2:ys[((i:Nat):Int).toNat]? = some ys[i]:=by simp[z2]
  rw[show (List.range xs.size).drop i=i::(List.range xs.size).drop (i+1) by simp[List.drop_eq_getElem_cons,z1],List.all_cons] at h;rw[q1,q2];apply aP (he i z1 z2 prog w _ _ ?_);cases c:e i with
  |true=>
   rw[c] at h
   wp_walk
   rw[show ((i:Int)+1)=((i+1:Nat):Int) by omega];apply#[plainId_quiet plain_eq_loop _,codeAny_builtin entry_eq_loop ?_];rw[Around.under_plainId plain_eq_loop _];exact ih (i+1) Z1 prog w A R _ #[#[gl,gb],he,by simpa using h]
  |false=>
   rw[c] at h
   wp_walk using BN gl,BN gb
   rw[q1,q2]
   wp_walk
   simpa using h
theorem jj_(l b:Addr)(xs ys:Array Aa)(n m:Nat)(dl db:Option Addr)(sl sb:Array (Option Aa))(hs:xs.size=ys.size)(e:Nat->Bool) :
  Meets (Builtin.«list.__ne__» #[[.ref l,.ref b],[]])
   (λA R s=>(s.heap.get? l=some { cls:=.type "list",dict:=dl,data:=.seq xs n,slots:=sl }/\s.heap.get? b=some { cls:=.type "list",dict:=db,data:=.seq ys m,slots:=sb }) /\
    (∀j (h1:j<xs.size) (h2:j<ys.size),EqAt A.in1 s xs[j] ys[j] (e j))/\R (.ok (.ret (.bool (!(List.range xs.size).all e)))) s):=by
 intro prog w A R s ⟨⟨gl,gb⟩,he,h⟩;let#[hp,g,d,tk,os]:=s;let f3:=AutoSeq1.sub_list_list;have no:¬(xs.size != ys.size)=true:=by simp[hs]
 wp_walk using BN gl,BN gb
 apply#[plainId_quiet plain_eq_loop _,codeAny_builtin entry_eq_loop ?_];rw[Around.under_plainId plain_eq_loop _];exact mg_ l b xs ys n m dl db sl sb hs e _ 0 Z prog w A R _ #[#[gl,gb],he,by simpa using h]
theorem jb_(l b:Addr)(xs ys:Array Aa)(n m:Nat)(dl db:Option Addr)(sl sb:Array (Option Aa))(hs:(xs.size != ys.size)=true) :
  Meets (Builtin.«list.__ne__» #[[.ref l,.ref b],[]])
   (λA R s=>(s.heap.get? l=some { cls:=.type "list",dict:=dl,data:=.seq xs n,slots:=sl }/\s.heap.get? b=some { cls:=.type "list",dict:=db,data:=.seq ys m,slots:=sb })/\R (.ok (.ret (.bool true))) s):=
 .of_wp λprog w A R s ⟨⟨gl,gb⟩,h⟩=>by
  let#[hp,g,d,tk,os]:=s;let f3:=AutoSeq1.sub_list_list
  wp_walk using BN gl,BN gb
  exact#[_,Z,h]
variable{b l:Addr}{xs ys:Array Aa}{E Q:Aa->Ab->Prop}{prog:Ad}{w:Af}{A:Ag}{s:Ab}
theorem Bf{e:Nat->Bool}(hl:s.heap.IsList l xs)(hb:s.heap.IsList b ys)(hs:xs.size=ys.size)(hu:A.units<cLine)(he:∀j (h1:j<xs.size) (h2:j<ys.size),EqAt A.in1 s xs[j] ys[j] (e j))(h:Q (.bool (!(List.range xs.size).all e)) s):wpAny (model prog w) A (compareOp .NotEq (.ref l) (.ref b)) Q E s:=by
 let#[#[c1,d1,t1,l1],o1,k1,n1,z1]:=id hl;let#[#[c2,d2,t2,l2],o2,k2,n2,z2]:=id hb;simp only at k1 z1 k2 z2;subst k1 z1 k2 z2;exact richCompare_meets_room (op:=.NotEq) #[_,o1,Z] #[_,o2,Z] F.slot_list_ne F.entry_list_ne (F.args_list_ne_2 _ _) (jj_ l b xs ys n1 n2 d1 d2 l1 l2 hs e) #[#[o1,o2],he,show Value.bool (!(List.range xs.size).all e)≠Value.notImplemented/\Q (.bool (!(List.range xs.size).all e)) s from #[(λx=>nomatch x),h]] hu
theorem iu(hl:s.heap.IsList l xs)(hb:s.heap.IsList b ys)(hs:(xs.size != ys.size)=true)(hu:A.units<cLine)(h:Q (.bool true) s):wpAny (model prog w) A (compareOp .NotEq (.ref l) (.ref b)) Q E s:=by
 let#[#[c1,d1,t1,l1],o1,k1,n1,z1]:=id hl;let#[#[c2,d2,t2,l2],o2,k2,n2,z2]:=id hb;simp only at k1 z1 k2 z2;subst k1 z1 k2 z2;exact richCompare_meets_room (op:=.NotEq) #[_,o1,Z] #[_,o2,Z] F.slot_list_ne F.entry_list_ne (F.args_list_ne_2 _ _) (jb_ l b xs ys n1 n2 d1 d2 l1 l2 hs) #[#[o1,o2],show Value.bool true≠Value.notImplemented/\Q (.bool true) s from #[(λx=>nomatch x),h]] hu
end SL
namespace L2
open PySem PySem.Spec PyProof.Rows PySem.W Qj SM
abbrev Rp(D:Type):=Hp->V->D->Prop
structure Fu (X:Cx) (n:Nat) {D:Type} [DecidableEq D] (R:Rp D):Prop where
 eq:∀{pins:List (Addr × Obj)} {σ:St} {H:Hp} {s:Ab} {A:Ag} {x y:V} {u v:Aa} {d e:D},Inv X pins σ H s->RelV x u->RelV y v->R H x d->R H y e->A.units+n<cLine->SeqAt.EqAt A s u v (decide (d=e))
 one:∀{pins:List (Addr × Obj)} {σ:St} {H:Hp} {s:Ab} {x:V} {d e:D},Inv X pins σ H s->R H x d->R H x e->d=e
def rS:Rp Str:=λ_ x d=>x=.str d
def r2(K:af){D1 D2:Type}(R1:Rp D1)(R2:Rp D2):Rp (D1 × D2):=λH x d=>∃a u v,x=.ref a/\iI K H a [u,v]/\R1 H u d.1/\R2 H v d.2
def rL(K:af){D:Type}(R:Rp D):Rp (List D):=λH x ds=>∃a xs,x=.ref a/\d9 K H a xs/\Paired (R H) xs ds
variable{X:Cx}
theorem fH:Fu X 0 rS where
 eq:=λ{pins σ H s A x y u v d e} I ru rv hx hy hu=>by
  have hx:x=.str d:=hx;have hy:y=.str e:=hy;subst hx;subst hy;let q:=U7 (A:=A) (s:=s) ru rv Z Z
  have e2:pW (.str d) (.str e)=decide (d=e):=by
   show (d == e)=_;by_cases h:d=e
   ·subst h;simp
   ·simp[h]
  rwa [e2] at q
 one:=λ{pins σ H s x d e} I hx hy=>by
  have hx:x=.str d:=hx;have hy:x=.str e:=hy;rw[hx] at hy;exact V.str.inj hy
theorem dI_{h:Heap}{a:Addr}{its:Array Aa}(t:IsTup h a its):h.IsTuple a its:=t
variable{n:Nat}
theorem GD{m:Nat}{D1 D2:Type}[DecidableEq D1][DecidableEq D2]{R1:Rp D1}{R2:Rp D2}(c1:Fu X n R1)(c2:Fu X m R2):Fu X (max n m+1) (r2 X.K R1 R2) where
 one:=λ{pins σ H s x d e} I hx hy=>by
  let#[a,u,v,rfl,t,q1,q2]:=hx;let#[b,u',v',e0,t',QC,QB]:=hy;cases e0;let e1:=I.i6 t t';cases e1;exact Prod.ext (c1.one I q1 QC) (c2.one I q2 QB)
 eq:=λ{pins σ H s A x y u v d e} I ru rv hx hy hu=>by
  let Lm:=hx;let hy':=hy;let#[a,x1,x2,rfl,t,q1,q2]:=hx;let#[b,y1,y2,rfl,t',QC,QB]:=hy;cases ru;cases rv;by_cases hab:a=b
  ·subst hab;let e1:=I.i6 t t';cases e1;have:d=e:=Prod.ext (c1.one I q1 QC) (c2.one I q2 QB);rw[cw this];exact SeqAt.EqAt.same _
  ·let#[its,r,it,_]:=I.tuple t;let#[its',r',it',_]:=I.tuple t';let#[u1,u2,rfl,r1,r2]:=vals2 r;let#[w1,w2,rfl,r1',r2']:=vals2 r'
   let key:=SeqAt.EqAt.of_refs hab (SeqAt.RcAt.tuples (A:=A) (s:=s) (e:=λj=>if j=0 then decide (d.1=e.1) else decide (d.2=e.2)) (dI_ it) (dI_ it') Z1 λj h1 h2=>by
    match j,h1,h2 with
    |0,_,_=>exact c1.eq I r1 r1' q1 QC (by show A.units+1+n<cLine;omega)
    |1,_,_=>exact c2.eq I r2 r2' q2 QB (by show A.units+1+m<cLine;omega))
   have e3:((List.range (min [u1,u2].toArray.size [w1,w2].toArray.size)).all (λj=>if j=0 then decide (d.1=e.1) else decide (d.2=e.2))&&[u1,u2].toArray.size == [w1,w2].toArray.size)=decide (d=e):=by
    show (decide (d.1=e.1)&&(decide (d.2=e.2)&&true)&&true)=_;by_cases h1:d.1=e.1
    ·by_cases h2:d.2=e.2
     ·have:d=e:=Prod.ext h1 h2;simp[this]
     ·have:¬d=e:=λz=>h2 (by rw[z]);simp[h1,h2,this]
    ·have:¬d=e:=λz=>h1 (by rw[z]);simp[h1,this]
   rw[e3] at key;exact key
theorem hZ{α β:Type}{F:α->β->Prop}:∀{l:List α} {m:List β},Paired F l m->∀(i:Nat) (h1:i<l.length) (h2:i<m.length),F l[i] m[i]
 |_,_,.cons h t,0,_,_=>h
 |_,_,.cons h t,i+1,h1,h2=>hZ t i (by simpa using h1) (by simpa using h2)
theorem cP_{D:Type}[DecidableEq D]:∀{ds es:List D},ds.length=es.length->((List.range ds.length).all λj=>decide (ds[j]? = es[j]?))=decide (ds=es):=λ{ds es} hl=>by
 by_cases h:ds=es
 ·subst h;simp
 ·rw[dR h]
  have:∃i,i<ds.length/\ds[i]?≠es[i]?:=by
   apply Classical.byContradiction λhn=>h ?_;apply List.ext_getElem? ?_;intro i;by_cases hi:i<ds.length
   ·exact Classical.byContradiction λq=>hn #[i,hi,q]
   ·rw[List.getElem?_eq_none Z1,List.getElem?_eq_none Z1]
  let#[i,hi,q]:=this;rw[List.all_eq_false];exact#[i,by simpa using hi,by simpa using q]
variable{pins:List (Addr × Obj)}{σ:St}{s:Ab}{A:Ag}
theorem g6_{D:Type}[DecidableEq D]{R:Rp D}(c:Fu X n R){H:Hp}(I:Inv X pins σ H s){xs ys:ag}{us vs:ax}{ds es:List D}(ru:Vals xs us)(rv:Vals ys vs)(hx:Paired (R H) xs ds)(hy:Paired (R H) ys es)(hu:A.units+n<cLine) :
  ∀j (h1:j<us.toArray.size) (h2:j<vs.toArray.size),SeqAt.EqAt A s us.toArray[j] vs.toArray[j] (decide (ds[j]? = es[j]?)):=λj h1 h2=>by
 let l1:=ru.length;let l2:=rv.length;let l3:=bG hx;let l4:=bG hy;simp only[dD] at h1 h2;let q:=c.eq (A:=A) I (hZ ru j Z1 h1) (hZ rv j Z1 h2) (hZ hx j Z1 Z1) (hZ hy j Z1 Z1) hu
 have e:decide (ds[j]? = es[j]?)=decide (ds[j]' Z1=es[j]' Z1):=by
  rw[dq Z1,dq Z1];by_cases z:ds[j]' Z1=es[j]' Z1
  ·simp[z]
  ·simp[z]
 rw[e];exact q
def M8{D:Type}[DecidableEq D](R:Rp D)(neg:Bool):V->V->Hp->VK->Prop:=λx y H Q=>∃d e,R H x d/\R H y e/\Q (.bl (if neg then !decide (d=e) else decide (d=e))) H
theorem _B{D:Type}[DecidableEq D]{R:Rp D}(c:Fu X n R)(hu:X.A.units+n+1<cLine):eG X (compareOp .Eq) (M8 (rL X.K R) false):=by
 intro pins s σ H x y v u Q I rx ry h;let#[d,e,#[a,xs,rfl,t,q],#[b,ys,rfl,t',q'],hq]:=h;cases rx;cases ry;let#[us,r,pl,_]:=I.list t;let#[vs,r',FY,_]:=I.list t';let l1:=r.length;let l2:=r'.length;let l3:=bG q;let l4:=bG q';by_cases hl:d.length=e.length
 ·apply SeqAt.eq_listAt pl.isList FY.isList (by simp only[dD];omega) Z1 (g6_ c I r r' q q' (A:=X.A.in1) (by show X.A.units+1+n<cLine;omega)) #[.bl _,H,I,Z,?_];rw[show us.toArray.size=d.length by simp only[dD];omega,cP_ hl];exact hq
 ·apply SeqAt.eq_list_lengthsAt pl.isList FY.isList (by simp only[dD,bne_iff_ne];omega) Z1 #[.bl _,H,I,Z,?_];have hq:Q (.bl (decide (d=e))) H:=hq;rwa [dR (λz=>hl (by rw[z]))] at hq
theorem lD_{D:Type}[DecidableEq D]{R:Rp D}(c:Fu X n R)(hu:X.A.units+n+1<cLine):eG X (compareOp .NotEq) (M8 (rL X.K R) true):=by
 intro pins s σ H x y v u Q I rx ry h;let#[d,e,#[a,xs,rfl,t,q],#[b,ys,rfl,t',q'],hq]:=h;cases rx;cases ry;let#[us,r,pl,_]:=I.list t;let#[vs,r',FY,_]:=I.list t';let l1:=r.length;let l2:=r'.length;let l3:=bG q;let l4:=bG q';have hq:Q (.bl (!decide (d=e))) H:=hq;by_cases hl:d.length=e.length
 ·apply SL.Bf pl.isList FY.isList (by simp only[dD];omega) Z1 (g6_ c I r r' q q' (A:=X.A.in1) (by show X.A.units+1+n<cLine;omega)) #[.bl _,H,I,Z,?_];rw[show us.toArray.size=d.length by simp only[dD];omega,cP_ hl];exact hq
 ·apply SL.iu pl.isList FY.isList (by simp only[dD,bne_iff_ne];omega) Z1 #[.bl _,H,I,Z,?_];rwa [dR (λz=>hl (by rw[z]))] at hq
def Jy(K:af){D:Type}[DecidableEq D](R:Rp D)(neg:Bool):V->V->Hp->VK->Prop:=λx y H Q=>∃d es,R H x d/\rL K R H y es/\Q (.bl (if neg then !decide (d∈es) else decide (d∈es))) H
theorem _x{D:Type}[DecidableEq D]{R:Rp D}(c:Fu X n R){H:Hp}(I:Inv X pins σ H s){x:V}{u:Aa}{d:D}(ru:RelV x u)(hx:R H x d)(hu:A.units+n<cLine):∀{ys:ag} {vs:ax} {es:List D},Vals ys vs->Paired (R H) ys es->
  ∃f:Aa->Bool,(∀w∈vs,SeqAt.EqAt A s w u (f w))/\vs.any f=decide (d∈es):=λ{ys vs es} rv hy=>by
 let f:Aa->Bool:=λw=>@decide (∃y e,RelV y w/\R H y e/\e=d) (Classical.propDecidable _)
 have sound:∀y w e,RelV y w->R H y e->f w=decide (e=d):=λy w e h1 h2=>by
  by_cases z:e=d
  ·rw[cw z];exact @cw _ (Classical.propDecidable _) #[y,e,h1,h2,z]
  ·rw[dR z];apply @dR _ (Classical.propDecidable _) λ⟨y',e',g1,g2,g3⟩=>z ?_;have:y'=y:=RelV.inj g1 h1;subst this;rw[<- g3];exact c.one I h2 g2
 apply#[f,?_,?_]
 ·induction rv generalizing es with
  |nil=>exact λw hw=>nomatch hw
  |cons h t ih=>
   cases hy with
   |cons g t'=>
    intro w hw;rcases bW.mp hw with rfl|hw
    ·rw[sound _ _ _ h g];exact c.eq I h ru g hx hu
    ·exact ih t' w hw
 ·induction rv generalizing es with
  |nil=>
   cases hy;simp
  |cons h t ih=>
   cases hy with
   |@cons _ e _ es g t'=>
    rw[List.any_cons,ih t',sound _ _ _ h g];by_cases z:e=d
    ·subst z;simp
    ·by_cases z2:d∈es
     ·simp[z2]
     ·have:¬d∈e::es:=λq=>by
       rcases bW.mp q with q|q
       ·exact z q.symm
       ·exact z2 q
      rw[dR z,dR z2,dR this];rfl
theorem O8{D:Type}[DecidableEq D]{R:Rp D}(c:Fu X n R)(hu:X.A.units+n+1<cLine):eG X (compareOp .In) (Jy X.K R false):=by
 intro pins s σ H x y v u Q I rx ry h;let#[d,es,hx,#[a,ys,rfl,t,q],hq]:=h;cases ry;let#[us,r,pl,_]:=I.list t;let#[f,h1,h2]:=_x c I (A:=X.A.in1) rx hx (by show X.A.units+1+n<cLine;omega) r q;apply SeqAt.in_listAt f pl.isList (λw hw=>h1 w (by simpa using hw)) #[.bl _,H,I,Z,?_];rw[show us.toArray.any f=us.any f by simp,h2];exact hq
theorem RX{D:Type}[DecidableEq D]{R:Rp D}(c:Fu X n R)(hu:X.A.units+n+1<cLine):eG X (compareOp .NotIn) (Jy X.K R true):=by
 intro pins s σ H x y v u Q I rx ry h;let#[d,es,hx,#[a,ys,rfl,t,q],hq]:=h;cases ry;let#[us,r,pl,_]:=I.list t;let#[f,h1,h2]:=_x c I (A:=X.A.in1) rx hx (by show X.A.units+1+n<cLine;omega) r q;apply SeqAt.notIn_listAt f pl.isList (λw hw=>h1 w (by simpa using hw)) #[.bl _,H,I,Z,?_];rw[show us.toArray.any f=us.any f by simp,h2];exact hq
inductive M7 (K:af) (xs:ag) (H:Hp) (Q:VK):Prop
 |mk:∀x T t b,xs=[x,.ty T]->fS K H x t->PySem.W.kitOne K t (.type T)=some b->Q (.bl b) H->M7 K xs H Q
theorem zC:gJ X (.builtin "isinstance") (M7 X.K):=by
 intro pins s σ H xs us Q I r h;let#[x,T,t,b,rfl,ty,e,q]:=h;let#[u,w',rfl,ru,pK]:=vals2 r;cases (show w'=Value.type T from pK);exact eQ_ I ru ty e λtk=>#[.bl b,H,I.tok tk,Z,q]
inductive dv' (x:V) (y:V) (H:Hp) (Q:VK):Prop
 |mk:∀i j,x=.str i->y=.str j->Q (.bl (!decide (j.cps.toList<i.cps.toList))) H->dv' x y H Q
theorem f3_:eG X (compareOp .LtE) dv':=by
 intro pins s σ H x y v u Q I rx ry h;let#[i,j,rfl,rfl,q]:=h;let#[t,rfl]:=rx;let#[t',rfl]:=ry;exact PySem.P.le_str ⟨.bl _,H,I,rfl,q⟩
inductive Ce (mk:Addr->Addr->HO) (Q:VK) (x:V) (H1:Hp):Prop
 |mk:∀d kvs,x=.ref d->H1 d=some (.dK kvs)->(∀v,H1 v=none->Q (.ref v) (upd H1 v (mk v d)))->Ce mk Q x H1
def GX(mk:Addr->Addr->HO)(td:TE):TE:=λσ H Q=>td σ H λx H1=>Ce mk Q x H1
variable{H:Hp}{d:Addr}
theorem gN_{cls:String}(I:Inv X pins σ H s)(φ:Heap->Prop)(hφ:φ (s.heap.push { cls:=.type cls,data:=.fields (List.toArray [.ref d]) }))(hs:∀h1 h2:Heap,φ h1->(∀o,h1.get? s.heap.objs.size=some o->h2.get? s.heap.objs.size=some o)->φ h2) :
  Inv X pins σ (upd H s.heap.objs.size (.ext φ)) { s with heap:=s.heap.push { cls:=.type cls,data:=.fields (List.toArray [.ref d]) } }:=
 I.laid (t':=s.toks) (λ_ _ q=>cO _ q) (bo _) #[hφ,#[_,e_ _ Z],hs]
variable{o:Expr}{td:TE}{apos dB:Pos}
theorem R9(ho:PE X o td)(iC:attributeBase o "items" X.env (eval o X.env)=eval o X.env:=by rfl)(iA:(apos.endLine == dB.line)=true:=by rfl):PE X (.Call (.Attribute o "items" apos) [] [] dB) (GX Em td):=by
 intro pins s σ H Q I h;apply wpAny_Call_method0_late iC iA (aZ (ho pins s σ H _ I h) λv s1 ⟨x,H1,I1,r1,d,kvs,e,hd,q⟩=>?_);subst e;cases r1;let#[t1,t2,t3]:=_e I1 (.inl #[kvs,.inl hd]);let#[_,_,vs,rel,dd]:=HX I1.aO hd;apply#["dict","dict.items",PySem.F.plainAttrs_dict,PySem.F.slot_dict_items,PySem.F.type_dict_items,t1,t2,Calls.callWith_builtin Z (PySem.evalArgs_none ?_)];apply call_meetsIn PySem.F.slot_dict_items t1 PySem.F.entry_dict_items (PySem.F.args_dict_items_1 _) (meets_dict_items (fI X.prog X.w) d t3) #[#[vs,dd],?_];exact#[.ref _,_,gN_ I1 _ #[_,e_ _ Z,Z,Z] λh1 h2 ⟨o,e,r⟩ k=>#[o,k o e,r],Z,q _ I1.fresh]
theorem ep_(ho:PE X o td)(iC:attributeBase o "values" X.env (eval o X.env)=eval o X.env:=by rfl)(iA:(apos.endLine == dB.line)=true:=by rfl):PE X (.Call (.Attribute o "values" apos) [] [] dB) (GX Ek td):=by
 intro pins s σ H Q I h;apply wpAny_Call_method0_late iC iA (aZ (ho pins s σ H _ I h) λv s1 ⟨x,H1,I1,r1,d,kvs,e,hd,q⟩=>?_);subst e;cases r1;let#[t1,t2,t3]:=_e I1 (.inl #[kvs,.inl hd]);let#[_,_,vs,rel,dd]:=HX I1.aO hd;apply#["dict","dict.values",PySem.F.plainAttrs_dict,PySem.F.slot_dict_values,PySem.F.type_dict_values,t1,t2,Calls.callWith_builtin Z (PySem.evalArgs_none ?_)];apply call_meetsIn PySem.F.slot_dict_values t1 PySem.F.entry_dict_values (PySem.F.args_dict_values_1 _) (meets_dict_values (fI X.prog X.w) d t3) #[#[vs,dd],?_];exact#[.ref _,_,gN_ I1 _ #[_,e_ _ Z,Z,Z] λh1 h2 ⟨o,e,r⟩ k=>#[o,k o e,r],Z,q _ I1.fresh]
variable{kvs:List (Key × V)}
theorem Inv.freeze(I:Inv X pins σ H s)(h:H d=some (.dK kvs)):∃o,s.heap.get? d=some o/\Inv X pins σ (upd H d (.frz o (.dK kvs))) s:=by
 let#[z,hd,vs,rel,dd]:=HX I.aO h;let#[o,es,ep,ho,r]:=id dd;have other:∀{b u},H b=some u->u≠.dK kvs->upd H d (.frz o (.dK kvs)) b=some u:=λ{b u} e ne=>by rw[au (cU e h ne)];exact e
 apply#[o,ho,I.un (h':=s.heap) (t':=s.toks) #[λb u q _ _ _=>q,λb u q _ _ _=>#[u.slots,q],λb u q n _=>?_,λb u q _=>#[u,q],λb xs q=>other q Z2,λb u v q=>other q Z2,λb ps q=>#[#[],by rw[Array.append_empty];exact other q Z2]] λb u q=>?_]
 ·by_cases e:b=d
  ·subst e;rw[h] at n;cases n
  ·rw[au e];exact n
 ·by_cases e:b=d
  ·subst e;rw[az] at q;cases q;exact#[ho,z,hd,vs,rel,dd]
  ·rw[au e] at q;exact (I.aO b u q).eS (λc v _ z=>z) (λc z=>other z Z2) λc xs z=>other z Z2
variable{o:Obj}
theorem Inv.pG(I:Inv X pins σ H s)(h:H d=some (.frz o (.dK kvs)))(h0:∀o u,X.xy d≠some (.frz o u)):Inv X pins σ (upd H d (.dK kvs)) s:=by
 have other:∀{b u},H b=some u->(∀o v,u≠.frz o v)->upd H d (.dK kvs) b=some u:=λ{b u} e ne=>by rw[au (cU e h (ne _ _))];exact e
 have iq:∀{b},H b=none->upd H d (.dK kvs) b=none:=λ{b} e=>by
  rw[au (λz=>by subst z;rw[h] at e;cases e)];exact e
 apply#[I.ok,I.os,I.bare,#[I.base.keep,I.base.slot,λb u q n hx=>iq (I.base.free b u q n hx),I.base.there,λb xs q=>other (I.base.pF b xs q) Z2,λb u v q=>?_,λb ps q=>?_],I.loc,I.cell,iq I.free,λx c e=>iq (I.eL x c e),λp hp=>?_,λb u q=>?_,I.len]
 ·have:=I.base.hG b u v q;rw[au (λz=>by subst z;exact h0 _ _ q)];exact this
 ·let#[more,e]:=I.base.iW b ps q;exact#[more,other e Z2]
 ·let#[a1,a2,a3]:=I.pin p hp;exact#[a1,iq a2,a3]
 ·by_cases e:b=d
  ·subst e;rw[az] at q;cases q;let#[ho,z,hd,vs,rel,dd]:=I.aO b _ h;exact#[z,hd,vs,rel,dd]
  ·rw[au e] at q;exact (I.aO b u q).eS (λc v _ z=>z) (λc z=>other z Z2) λc xs z=>other z Z2
def My(t:TE):TE:=λσ H Q=>∃d kvs,H d=some (.dK kvs)/\t σ H λv H1=>∃o,H1 d=some (.frz o (.dK kvs))/\Q v (upd H1 d (.dK kvs))
variable{e:Expr}
theorem _N{t:TE}(h:PE X e t):PE X e (My t):=by
 intro pins s σ H Q I q;let#[d,kvs,hd,q]:=q;apply aZ (h pins s σ H _ I q) λu s' ⟨v,H1,I1,r,o,hf,q1⟩=>#[v,_,I1.pG hf (λo u z=>?_),r,q1];have:=I.base.hG _ _ _ z;rw[hd] at this;cases this
def Itv(d:Addr)(o:Obj)(kvs:List (Key × V)):It:=#[λi H=>H d=some (.frz o (.dK kvs))/\i<kvs.length,λi H x H'=>H'=H/\∃k,kvs[i]? = some (k,x),λi H=>H d=some (.frz o (.dK kvs))/\kvs.length<=i]
variable{es:Array DictEntry}{ep:Nat}
theorem L5(I:Inv X pins σ H s)(h:H d=some (.frz o (.dK kvs)))(ho:o.data=.dict es ep):∃vs,KV kvs vs/\s.heap.DictAt (fI X.prog X.w) d vs ep:=by
 let#[e,z,hd,vs,rel,o',Rk,Rm,e',c',d',r]:=I.aO d _ h;rw[e] at e';cases e';rw[ho] at d';cases d';exact#[vs,rel,o,es,e,c',ho,r]
theorem U1{κ:Type}{kvs:List (κ × V)}{vs:List (κ × Aa)}(r:KV kvs vs):∀(i:Nat) {k:κ} {x:V},kvs[i]? = some (k,x)->∃u,vs[i]? = some (k,u)/\RelV x u:=by
 induction r with
 |nil=>intro i k x e;simp at e
 |@cons p q _ _ h _ ih=>
  intro i k x e;cases i with
  |zero=>
   have e:p=(k,x):=by simpa using e
   subst e;apply#[q.2,?_,h.2];rw[List.getElem?_cons_zero];have h1:k=q.1:=h.1;rw[h1]
  |succ i=>exact ih i (by simpa using e)
variable{P:Ad}{w:Af}{K:af}{tg:Expr}
theorem ik_(d it:Addr)(o:Obj)(kvs:List (Key × V))(ho:o.data=.dict es ep):Turn P w K tg (Itv d o kvs) [it] it (λi h=>h.IsValIter it d i kvs.length ep) where
 mem:=by simp
 obj:=λi h st b hb=>by
  obtain rfl:b=it:=by simpa using hb
  let#[o,e,c,d]:=st;exact#[o,e,λv z=>by rw[d] at z;cases z]
 keep:=λi h h' st k=>st.at λo e=>k it Z2 o e
 item:=by
  intro X hP hw hK hc i pins s σ H E I hf st hg;subst hP hw hK;let#[hd,hi]:=hg;let#[vs,rel,dat]:=L5 I hd ho;obtain⟨⟨k,x⟩,hx⟩:∃p,kvs[i]? = some p:=#[kvs[i],by simp[hi]];let#[u,hu,ru]:=U1 rel i hx;let#[f0,f1,f2,f3,f4,f5]:=hf it Z2;rw[rel.length] at st;apply wpAny_pyNext_values_item st dat hu λh' fo sb=>?_;have I1:Inv X pins σ H { s with heap:=h' }:=I.turned (t':=s.toks) (λb o hb e=>(sb.2 b hb).trans e) f0 f1 f3 f4 f5;let#[o',e,c,dd]:=id fo;apply#[u,Z,Ly (s:={ s with heap:=h' }) e c dd (by decide) #[x,H,I1,ru,#[Z,k,hx],?_,λb hb=>(hf b hb).1]];show h'.IsValIter it d (i+1) kvs.length ep;rw[rel.length];exact fo
 done:=by
  intro X hP hw hK hc i pins s σ H E I hf st hg;subst hP hw hK;let#[hd,hi]:=hg;let#[vs,rel,dat]:=L5 I hd ho;let#[f0,f1,f2,f3,f4,f5]:=hf it Z2;rw[rel.length] at st hi;exact wpAny_pyNext_values_end (I.ok.hd hc) st dat (by simp;omega) λh' eb=>#[Z,I.turned (t':=s.toks) (λb o hb e=>eb b o hb e) f0 f1 f3 f4 f5]
 self:=λ_ _ _ _ _ st h=>wpAny_pyIter_valiter st h
inductive DH (R:It->Hp->Prop) (x:V) (H1:Hp):Prop
 |mk:∀v d kvs,x=.ref v->H1 v=some (Ek v d)->H1 d=some (.dK kvs)->(∀o,R (Itv d o kvs) (upd H1 d (.frz o (.dK kvs))))->DH R x H1
def NR(tv:TE):TI:=λσ H R=>tv σ H λx H1=>DH R x H1
theorem hl_{tv:TE}(he:PE X e tv):PI X tg e (NR tv):=by
 intro pins s σ H R I h;apply aZ (he pins s σ H _ I h) λu s1 ⟨x,H1,I1,r1,v,d,kvs,ex,hv,hd,q⟩=>?_;subst ex;cases r1;let#[iv,_,_]:=I1.aO v _ hv;let#[o,ho,I2]:=I1.freeze hd;let#[z,_,vs,rel,o',es,ep,i8,c',dt,r]:=HX I1.aO hd;rw[ho] at i8;cases i8;have Bl:v≠d:=cU hv hd nofun;apply wpAny_pyIter_values (knd:=fI X.prog X.w) (kvs:=vs) (ep:=ep) iv #[o,es,ho,c',dt,r] ?_;apply#[s1.heap.objs.size,[s1.heap.objs.size],_,_,_,Z,I2.kept (t':=s1.toks) λb o e=>cO _ e,ik_ d _ o kvs dt,?_,λb hb=>?_,q o]
 ·rw[rel.length];exact#[_,e_ _ Z,Z,Z]
 ·obtain rfl:b=s1.heap.objs.size:=by simpa using hb
  exact I2.pU (bo _) (I2.aO.fresh (bo _))
def Y3(x:Str):It:=#[λi _=>i<x.cps.size,λi H v H'=>H'=H/\∃c,x.cps[i]? = some c/\v=.str ⟨(List.toArray [c])⟩,λi _=>x.cps.size<=i]
theorem gG_(it:Addr)(x:Str)(t:Tok):Turn P w K tg (Y3 x) [it] it (λi h=>i<=x.cps.size/\h.IsStrIter it "str_ascii_iterator" x t i) where
 mem:=by simp
 obj:=λi h st b hb=>by
  obtain rfl:b=it:=by simpa using hb
  let#[o,e,c,d]:=st.2;exact#[o,e,λv z=>by rw[d] at z;cases z]
 keep:=λi h h' st k=>#[st.1,let #[o,ho,r]:=st.2;#[o,k it Z2 o ho,r]]
 item:=by
  intro X hP hw hK hc i pins s σ H E I hf st hg;subst hP hw hK;have hg:i<x.cps.size:=hg;let#[f0,f1,f2,f3,f4,f5]:=hf it Z2;apply wpAny_pyNext_ascii_item st.2 (c:=x.cps[i]) (by simp[hg]) λh' fo sb=>?_;have I1:Inv X pins σ H { s with heap:=h',toks:=s.toks+1 }:=I.turned (t':=s.toks+1) (λb o hb e=>(sb.2 b hb).trans e) f0 f1 f3 f4 f5;let#[o',e,c,dd]:=id fo;exact#[_,Z,Ly (s:={ s with heap:=h',toks:=s.toks+1 }) e c dd (by decide) #[.str ⟨#[x.cps[i]]⟩,H,I1,#[_,Z],#[Z,_,by simp[hg],Z],#[hg,fo],λb hb=>(hf b hb).1]]
 done:=by
  intro X hP hw hK hc i pins s σ H E I hf st hg;subst hP hw hK;have hg:x.cps.size<=i:=hg;let#[f0,f1,f2,f3,f4,f5]:=hf it Z2;exact wpAny_pyNext_ascii_end (I.ok.hd hc) st.2 (by simp[hg]) λh' eb=>#[Z,I.turned (t':=s.toks) (λb o hb e=>eb b o hb e) f0 f1 f3 f4 f5]
 self:=λ_ _ _ _ _ st h=>wpAny_pyIter_striter_ascii st.2 h
theorem i8_(it:Addr)(x:Str)(t:Tok):Turn P w K tg (Y3 x) [it] it (λi h=>i<=x.cps.size/\h.IsStrIter it "str_iterator" x t i) where
 mem:=by simp
 obj:=λi h st b hb=>by
  obtain rfl:b=it:=by simpa using hb
  let#[o,e,c,d]:=st.2;exact#[o,e,λv z=>by rw[d] at z;cases z]
 keep:=λi h h' st k=>#[st.1,let #[o,ho,r]:=st.2;#[o,k it Z2 o ho,r]]
 item:=by
  intro X hP hw hK hc i pins s σ H E I hf st hg;subst hP hw hK;have hg:i<x.cps.size:=hg;let#[f0,f1,f2,f3,f4,f5]:=hf it Z2;apply wpAny_pyNext_wide_item st.2 (c:=x.cps[i]) (by simp[hg]) λh' fo sb=>?_;have I1:Inv X pins σ H { s with heap:=h',toks:=s.toks+1 }:=I.turned (t':=s.toks+1) (λb o hb e=>(sb.2 b hb).trans e) f0 f1 f3 f4 f5;let#[o',e,c,dd]:=id fo;exact#[_,Z,Ly (s:={ s with heap:=h',toks:=s.toks+1 }) e c dd (by decide) #[.str ⟨#[x.cps[i]]⟩,H,I1,#[_,Z],#[Z,_,by simp[hg],Z],#[hg,fo],λb hb=>(hf b hb).1]]
 done:=by
  intro X hP hw hK hc i pins s σ H E I hf st hg;subst hP hw hK;have hg:x.cps.size<=i:=hg;let#[f0,f1,f2,f3,f4,f5]:=hf it Z2;exact wpAny_pyNext_wide_end (I.ok.hd hc) st.2 (by simp[hg]) λh' eb=>#[Z,I.turned (t':=s.toks) (λb o hb e=>eb b o hb e) f0 f1 f3 f4 f5]
 self:=λ_ _ _ _ _ st h=>wpAny_pyIter_striter_wide st.2 h
inductive Hv (R:It->Hp->Prop) (v:V) (H1:Hp):Prop
 |mk:∀x,v=.str x->R (Y3 x) H1->Hv R v H1
def UP(tl:TE):TI:=λσ H R=>tl σ H λv H1=>Hv R v H1
theorem mf_{l:Expr}{tl:TE}(hl:PE X l tl):PI X tg l (UP tl):=by
 intro pins s σ H R I h;apply aZ (hl pins s σ H _ I h) λv s1 ⟨y,H1,I1,r1,x,e,q⟩=>?_;subst e;let#[t,rfl]:=r1
 have fp:∀b∈[s1.heap.objs.size],dk X pins H1 b:=λb hb=>by
  obtain rfl:b=s1.heap.objs.size:=by simpa using hb
  exact I1.pU (bo _) (I1.aO.fresh (bo _))
 cases ha:x.cps.all (· < 128)
 ·apply wpAny_pyIter_wide ha ?_;exact#[s1.heap.objs.size,[s1.heap.objs.size],_,_,H1,Z,I1.kept (t':=s1.toks) λb o e=>cO _ e,i8_ _ x t,#[gx _,_,e_ _ Z,Z,Z],fp,q]
 ·apply wpAny_pyIter_ascii ha ?_;exact#[s1.heap.objs.size,[s1.heap.objs.size],_,_,H1,Z,I1.kept (t':=s1.toks) λb o e=>cO _ e,gG_ _ x t,#[gx _,_,e_ _ Z,Z,Z],fp,q]
theorem Lc{f:Aa->Aa->Sem Aa}(r:af->R2)(h:eG X f (r X.K))(hK:X.K=K:=by rfl):eG X f (r K):=by
 subst hK;exact h
theorem Ed{f:Aa}(r:af->ag->Hp->VK->Prop)(h:gJ X f (r X.K))(hK:X.K=K:=by rfl):gJ X f (r K):=by
 subst hK;exact h
theorem JJ(r:af->R2)(h:Mf X (r X.K))(hK:X.K=K:=by rfl):Mf X (r K):=by
 subst hK;exact h
abbrev M5(K:af):=YT K
theorem PV(hK:X.K=K:=by rfl):gJ X (.builtin "len") (M5 K):=Ed M5 xo hK
theorem RD{N:ae}{scope:Scope}{fp:ay}{es:List Expr}{k:Nat}{pos:Pos}{t:K5}(h:Qe (iP X N scope fp s H) es t)(hc:X.calm=true:=by rfl)(hn:(assignEach es (iP X N scope fp s H).env).length=n:=by rfl)(F9:(assignEach es (iP X N scope fp s H).env).findIdx? (·.1)=none:=by rfl):PG (iP X N scope fp s H) (.Tuple es k pos) (pT X.K n t):=xk (X:=iP X N scope fp s H) hc h hn F9
end L2
abbrev BV:PySem.Str:="_law_one"
abbrev Ks:PySem.Str:="ways_by_name"
abbrev Gv:PySem.Str:="_law_script"
abbrev Gy:PySem.Str:="_law_digit"
abbrev Km:PySem.Str:="checked_words"
abbrev Kr:PySem.Str:="pieces_by_hand"
abbrev Kq:PySem.Str:="rising_neighbours"
abbrev BX:PySem.Str:="_law_found"
abbrev Kl:PySem.Str:="neighbours_by_hand"
abbrev AL:PySem.Str:="_law_piece"
abbrev xR:PySem.Str:="_law_other"
abbrev iO:PySem.Str:="_law_stand"
abbrev LC:PySem.Str:="abcdefghijklmnopqrstuvwxyz"
abbrev E1:PySem.Str:="strength_by_hand"
abbrev BP:PySem.Str:="weight_by_name"
abbrev BY:PySem.Str:="heaviest_first"
abbrev AK:PySem.Str:="level_by_hand"
abbrev xj:PySem.Str:="_law_state_here"
abbrev jb:PySem.Str:="load_by_hand"
abbrev fU:PySem.Str:="_law_world_here"
abbrev xU:List PySem.Str:=["self","one","other"]
abbrev xv:List PySem.Str:=[fU,"_law_held_here",BV,xR]
abbrev A3:List PySem.Str:=[fU,iO,"_law_pair","_law_guard","_law_given"]
abbrev vL:List PySem.Str:=["self","hand"]
abbrev LD:List PySem.Str:=[fU,iO,"_law_hand"]
abbrev EX:List PySem.Str:=["sight","hand","words"]
abbrev HW:List PySem.Str:=[xj,"_law_base"]
abbrev AN:List PySem.Str:=["self","thing"]
abbrev A2:List PySem.Str:=[fU,AL,BV,xR]
abbrev HV:List PySem.Str:=["sight","rule","moment"]
abbrev xu:List PySem.Str:=["sight","one","other","guard","given"]
abbrev Ea:List PySem.Str:=["goods","placed"]
abbrev HR:List PySem.Str:=["name","weight","ways"]
abbrev HS:List PySem.Str:=["goods","stand","rule"]
abbrev iN:List PySem.Str:=["thing"]
abbrev BQ:List PySem.Str:=["one","other"]
abbrev ik:List PySem.Str:=["self"]
abbrev EB:List PySem.Str:=[fU,iO,"_law_moment","_law_guard"]
abbrev EA:List PySem.Str:=[fU,iO,"_law_rule","_law_moment"]
abbrev A1:List PySem.Str:=["_law_guard","_law_drop_here","_law_much"]
abbrev Ez:List PySem.Str:=[fU,iO,"_law_hand","_law_words"]
abbrev xt:List PySem.Str:=[fU,iO]
abbrev LH:List PySem.Str:=["sight","hand","guard"]
abbrev Ey:List PySem.Str:=[xj,"_law_hands","_law_ties"]
abbrev Ex:List PySem.Str:=[fU,iO,"_law_rule"]
abbrev HQ:List PySem.Str:=["self","piece"]
abbrev AZ:List PySem.Str:=[fU,"_law_pieces"]
abbrev AY:List PySem.Str:=["self","piece","one","other"]
abbrev AX:List PySem.Str:=[xj,"_law_great"]
abbrev xr:List PySem.Str:=["thing","least","most"]
abbrev AW:List PySem.Str:=[xj,"_law_many"]
abbrev Ew:List PySem.Str:=["_law_hands","_law_ties","_law_pieces"]
abbrev xq:List PySem.Str:=["high","fall","calm"]
abbrev AV:List PySem.Str:=["self","goods","placed"]
abbrev AU:List PySem.Str:=["guard","lead","burden"]
abbrev AS:List PySem.Str:=[Gv,"_law_k"]
namespace Ev
open PySem L2
def top(i:Nat):Stmt:=PySem.Challenge.pw_evenpieces_k31_rest_is_no_move.main.body.getD i (.Pass #[0,0,0,0])
abbrev Jp:Stmt:=top 11
abbrev yE:Stmt:=top 12
abbrev C3:Stmt:=top 13
abbrev Wt:Stmt:=top 14
abbrev C0:Stmt:=top 15
abbrev Wr:Stmt:=top 16
abbrev Dn:Stmt:=top 17
abbrev Dc:Stmt:=top 47
abbrev Jn:Stmt:=top 48
abbrev CY:Stmt:=top 49
abbrev C1:Stmt:=top 50
abbrev pI:Stmt:=top 52
def gE(a b:Str):Bool:=decide (a.cps.toList<b.cps.toList)
def aL(a b:Str):Str × Str:=if gE a b=true then (a,b) else (b,a)
variable{f:Addr}{fd:Ae}
variable{X:Cx}{k:Nat}{ps:ae}{sp:Sp}{pos:Pos}{e:Expr}{es:List Expr}{t:TA}
section
variable{P:Ad}{w:Af}{K:af}{mg:Str->Option Aa}{base:Heap}
theorem bJ{N p:List Str}{c:Scope}(h:bD N p c:=by exact#[Z,Z,Z,by decide +kernel,Z,by decide +kernel,by decide +kernel]):bD N p c:=h
theorem CJ:bD BQ BQ (bb Wt):=bJ
def Sn:Sp:=λvs H Q _=>∃a b,vs=[.str a,.str b]/\∀t,H t=none->Q (.ref t) (upd H t (.tup [.str (aL a b).1,.str (aL a b).2]))
theorem hX_(F:bp K "lesser_first" "lesser_first" Wt f fd):!aj ba 1 f fd BQ Sn:=by
 apply F.bI CJ λaR A outer s H vs Q E hr h=>?_
 ·let#[a,b,rfl,k]:=h;apply#[_,aH (bj (g8_ (cz hy_ (pv 0) (pv 1)) (fe %[0,1|0]) (fe %[1,0|0]))),?_];apply#[_,Z,_,Z,a,b,Z,Z,_,Z,?_];apply aM (λc=>?_) (λc=>?_)
  ·apply#[_,Z,_,Z,zl,λt ht=>?_];have:=k t ht;rwa [show aL a b=(a,b) from aA c] at this
  ·apply#[_,Z,_,Z,zl,λt ht=>?_];have:=k t ht;rwa [show aL a b=(b,a) from ao c] at this
theorem FK:bD xr xr (bb yE):=bJ
def WH:Sp:=λvs H Q _=>∃i a b:Int,vs=[.int i,.int a,.int b]/\Q (.bl (decide (a<=i)&&decide (i<=b))) H
structure Bi (mg:Str->Option Aa):Prop where
 xK:mg "isinstance"=none
 int:mg "int"=none
 bool:mg "bool"=none
 str:mg "str"=none
 tuple:mg "tuple"=none
 list:mg "list"=none
 dict:mg "dict"=none
 len:mg "len"=none
 all:mg "all"=none
 sorted:mg "sorted"=none
 max:mg "max"=none
 range:mg "range"=none
 any:mg "any"=none
 enum:mg "enumerate"=none
 min:mg "min"=none
 abs:mg "abs"=none
structure bt (P:Ad) (w:Af) (K:af) (mg:Str->Option Aa) (base:Heap) (k:Nat) (x:Str) (ps:ae) (sp:Sp):Prop where
 ex:∃f fd,aj P w K mg base ba k f fd ps sp/\mg x=some (.ref f)/\PySem.W.keepIn K (.ref f)=true/\Bt K fd ps []
theorem bf{n_:Nat}{x:Str}{p:Pos}(c:bt X.prog X.w X.K X.mg X.base k x ps sp)(hr:aY n_ X.A)(ha:PA X (e::es) t)(hg:Gl X x:=by rfl)(zh:(x == ("__debug__":Str))=false:=by decide)(he:starEach (e::es) X.env=(false,eval e X.env)::starEach es X.env:=by rfl)(xO:(backTo pos (starEach es X.env)).any (·.1)=false:=by rfl)(hk:k<=n_:=by decide):PE X (.Call (.Name x p) (e::es) [] pos) (zR sp [] E0 t):=by
 let#[f,fd,F,m,kp,b]:=c.ex;exact kr_ F (hr.mono hk) hg m kp b .nil wQ ha zh he xO
theorem MT:bD iN iN (bb Jp):=bJ
def Hc:Sp:=λvs H Q _=>∃i:Int,vs=[.int i]/\Q (.bl true) H
theorem lL_(F:bp K "is_whole" "is_whole" Jp f fd)(B:Bi mg):!aj ba 1 f fd iN Hc:=by
 apply F.bI MT λaR A outer s H vs Q E hr h=>?_
 ·let#[i,rfl,k]:=h;apply#[_,aH (bj (En (cy zC (by rfl) B.xK yc %[0,zw (v:=.ty "int") (by rfl) B.int O2 Z|0]) (AO (lG_ (cy zC (by rfl) B.xK yc %[0,zw (v:=.ty "bool") (by rfl) B.bool PyProof.Rows.Boot.«bool» rfl|0]))))),?_];exact#[_,Z,_,_,_,_,Z,.int i,Z,_,Z,fG #[_,Z,_,_,_,_,Z,.int i,Z,_,Z,k]]
theorem iJ_(F:bp K "is_whole_within" "is_whole_within" yE f fd)(cI:!bt 1 "is_whole" iN Hc):!aj ba 2 f fd xr WH:=by
 apply F.bI FK λaR A outer s H vs Q E hr h=>?_
 ·let#[i,a,b,rfl,k]:=h;apply#[_,aH (bj (En (bf cI hr %[0|0]) (AO (fC_ HP HP (pv 1) (pv 0) (pv 2))))),?_];apply#[_,Z,i,Z,_,Z,fG ?_];apply#[_,Z,_,Z,_,_,Z,Z,_,Z,?_];apply aM (λc=>?_) (λc=>?_)
  ·apply#[_,Z,_,_,Z,Z,?_];rw[c] at k;exact k
  ·rw[show decide (a<=i)=false by simpa using c] at k;exact k
def wU(c:Nat):Bool:=decide (97<=c)&&decide (c<=122)
def jc(x:Str):Bool:=decide (1<=x.length)&&decide (x.length<=8)&&x.cps.toList.all wU
theorem Jd:bD iN iN (bb C3):=bJ
def Q7:Sp:=λvs H Q _=>∃x:Str,vs=[.str x]/\x.length<=100000/\∀H',aa H H'->Q (.bl (jc x)) H'
theorem kD_{c:Nat}:(!decide ((⟨(List.toArray [c])⟩:Str).cps.toList<("a":Str).cps.toList))=decide (97<=c):=by
 have e:("a":Str).cps.toList=[97]:=by decide +kernel
 rw[e];show (!decide ([c] < [97]))=decide (97<=c);by_cases h:97<=c
 ·have:¬[c] < [97]:=by simp[List.cons_lt_cons_iff];omega
  simp[this,h]
 ·have:[c] < [97]:=by simp[List.cons_lt_cons_iff];omega
  simp[this,h]
theorem kI_{c:Nat}:(!decide (("z":Str).cps.toList<(⟨(List.toArray [c])⟩:Str).cps.toList))=decide (c<=122):=by
 have e:("z":Str).cps.toList=[122]:=by decide +kernel
 rw[e];show (!decide ([122] < [c]))=decide (c<=122);by_cases h:c<=122
 ·have:¬[122] < [c]:=by simp[List.cons_lt_cons_iff];omega
  simp[this,h]
 ·have:[122] < [c]:=by simp[List.cons_lt_cons_iff];omega
  simp[this,h]
theorem kz_(F:bp K "is_name" "is_name" C3 f fd)(B:Bi mg){t8:Tok}(m8:mg "MOST_LETTERS"=some (.int 8 t8)):!aj ba 1 f fd iN Q7:=by
 apply F.bI Jd λaR A outer s H vs Q E hr h=>?_
 ·let#[x,rfl,hz,k]:=h;let sz:=ck
  apply#[_,aq (bN (Gw (gZ (fR (cy zC (by rfl) B.xK yc %[0,zw (v:=.ty "str") (by rfl) B.str O9 Z|0])))
    (Ig (gZ (fN_ HP HP aK (cy cN_ (by rfl) B.len i4 %[0|0]) (KH (v:=.int 8) (by rfl) m8 #[t8,Z]))))).pt (aH (bj Gq)) bP)
   (aH (bj (cy (fR_ Z) (by rfl) B.all PyProof.Rows.Boot.«all» (di
    (iS ["letter"] 1 [] (mf_ (pv 0)) (λfp s H=>eZ (i:=0) (show (["letter"]:ae).Nodup by decide +kernel) Z (Or.inl Z)) (λfp s H=>iH) (λfp s H=>fC_ f3_ f3_ bZ (pv 0) bZ)) aE)))),?_]
  apply#[_,Z,_,_,_,_,Z,.str x,Z,_,Z,?_];apply bE ?_;apply#[_,Z,x,Z,by omega,_,_,Z,Z,_,Z,?_]
  have fin:(decide (1<=x.length)&&decide (x.length<=8))=false->∀H',aa H H'->Q (.bl false) H':=λe H' sm=>by
   have:=k H' sm;rwa [show jc x=false by unfold jc;rw[e];rfl] at this
  apply aM (λc=>?_) (λc=>?_)
  ·have c1:1<=x.length:=by
    have:(1:Int)<=(x.length:Int):=by simpa using c
    omega
   apply#[_,_,Z,Z,_,Z,?_];apply aM (λc2=>?_) (λc2=>?_)
   ·-- too long
    have c3:¬x.length<=8:=by
     have:¬((x.length:Int)<=8):=by simpa using c2
     omega
    exact fin (by rw[dR c3,AQ]) H (aa.refl H)
   ·have c3:x.length<=8:=by
     have:(x.length:Int)<=8:=by simpa using c2
     omega
    apply#[_,Z,x,Z,λD hD=>?_]
    let aQ:dG:=λi out H'=>H'=upd H D (.lst out)/\out=((x.cps.toList.take i).map wU).map V.bl
    apply GF (own:=1) (fv:=[]) Z dP x.cps.size aQ #[Z,by simp] (λout H' ⟨e1,e2⟩=>?_) (λi out H' hi ⟨e1,e2⟩=>?_)
    ·apply#[bo _,D,x.cps.toList.map wU,Z,.of ?_,?_]
     ·rw[e1,az,e2,GM Z2]
     ·have:=k H' (by rw[e1];exact aa.new hD);rwa [show jc x=(x.cps.toList.map wU).all id by unfold jc;rw[cw c1,cw c3,List.all_map];rfl] at this
    ·apply#[hi,λv H2 y=>?_];let#[eH,c,hc,rfl]:=y;subst eH;apply#[_,Z,Z,λNx hN=>dM ?_]
     have lo:out.length<sizeLine:=by
      rw[e2];have hs:x.length=x.cps.size:=rfl;simp only[ak,cQ,B7];omega
     have nx:Nx (upd H2 D (.lst (out++[V.bl (wU c)]))):=hN (out++[V.bl (wU c)]) _ #[by rw[e1,ld_],by
      rw[e2,iF];simp[hc]]
     have atD:H2 D=some (.lst out):=by rw[e1,az]
     apply#[_,Z,_,_,Z,Z,_,Z,?_];rw[kD_];apply aM (λc2=>?_) (λc2=>?_)
     ·apply#[_,_,Z,Z,out,atD,lo,?_];rw[kI_];rwa [show wU c=decide (c<=122) by unfold wU;rw[c2];rfl] at nx
     ·apply#[out,atD,lo,?_];rwa [show wU c=false by unfold wU;rw[show decide (97<=c)=false by simpa using c2];rfl] at nx
  ·have c1:¬1<=x.length:=by
    have:¬((1:Int)<=(x.length:Int)):=by simpa using c
    omega
   exact#[_,Z,fG (fin (by rw[dR c1];rfl) H (aa.refl H))]
end
def kT(t:Str × Str):aN:=[.inr t.1,.inr t.2]
def Kj(t:Str × Str):Prop:=jc t.1=true/\jc t.2=true/\t.1≠t.2
theorem RT{x:Str}(h:jc x=true):x.length<=8:=by
 unfold jc at h;simp only[Ft,xW] at h;exact h.1.2
theorem EM{H:Hp}{p:Addr}{t:Str × Str}(h:H p=some (.tup ((kT t).map kV))):H p=some (.tup [.str t.1,.str t.2]):=h
variable{ks:List aN}
variable{D:Addr}{o:HO}
section
variable{P:Ad}{w:Af}{K:af}{mg:Str->Option Aa}{base:Heap}
theorem Jc:bD iN iN (bb C0):=bJ
def Cv:Sp:=λvs H Q _=>∃(p:Addr) (a b:Str),vs=[.ref p]/\H p=some (.tup [.str a,.str b])/\a.length<=100000/\b.length<=100000/\∀H',aa H H'->Q (.bl (jc a&&jc b&&!decide (a=b))) H'
theorem ln_(F:bp K "is_pair_of_names" "is_pair_of_names" C0 f fd)(B:Bi mg)(cN:!bt 1 "is_name" iN Q7):!aj ba 2 f fd iN Cv:=by
 apply F.bI Jc λaR A outer s H vs Q E hr h=>?_
 ·let#[p,a,b,rfl,hp,la,lb,k]:=h
  apply#[_,aq (bN (Gw (gZ (fR (cy zC (by rfl) B.xK yc %[0,zw (v:=.ty "tuple") (by rfl) B.tuple Wi Z|0])))
    (Ig (cz EW (cy xo (by rfl) B.len i4 %[0|0]) aK))).pt (aH (bj Gq)) bP)
   (aH (bj (En (bf cN hr %[bO eJ (pv 0) aK|0]) (En (bf cN hr %[bO eJ (pv 0) aK|0])
    (AO (iR EW (bO eJ (pv 0) aK) (bO eJ (pv 0) aK))))))),?_]
  apply#[_,Z,_,_,_,_,Z,.tup hp,Z,_,Z,bE ?_];apply#[_,Z,p,_,Z,.inr (.of hp),Z,_,Z,?_];apply DG (show V.int ((2:Nat):Int)=V.int 2 from Z) ?_;apply#[_,Z,p,_,_,_,Z,Z,.of hp,Z,a,Z,la,λH1 s1=>#[_,Z,?_]];let QT:=s1 _ _ hp;apply aM (λc=>?_) (λc=>?_)
  ·apply#[_,Z,p,_,_,_,Z,Z,.of QT,Z,b,Z,lb,λH2 s2=>#[_,Z,?_]];let Az:=s2 _ _ QT;let kk:=k H2 (s1.trans s2);apply aM (λc2=>?_) (λc2=>?_)
   ·apply#[_,Z,p,_,_,_,Z,Z,.of Az,Z,_,Z,p,_,_,_,Z,Z,.of Az,Z,Z,?_];rw[c,c2] at kk
    have e:decide (V.str a=V.str b)=decide (a=b):=by
     by_cases z:a=b
     ·simp[z]
     ·simp[z]
    show Q (.bl (!decide (V.str a=V.str b))) H2;rw[e];exact kk
   ·rw[c,show jc b=false by simpa using c2] at kk;exact kk
  ·let kk:=k H1 s1;rw[show jc a=false by simpa using c] at kk;exact kk
theorem Sk:bD ["ties","found","pair","tie"] ["ties"] (bb Wr):=bJ
def XA(K:af):Sp:=λvs H Q _=>∃(l:Addr) (ys:ag) (ts:Xb),vs=[.ref l]/\H l=some (.lst ys)/\bg K H ys (ts.map kT)/\(∀t∈ts,Kj t)/\(ts.map λt=>kT (aL t.1 t.2)).Nodup/\ts.length<64 /\
 ∀l' zs H',aa H H'->H l'=none->H' l'=some (.lst zs)->bg K H' zs (aU (ts.map λt=>kT (aL t.1 t.2)))->Q (.ref l') H'
theorem qc{α β γ:Type}{F:α->γ->Prop}{g:β->γ}{ys:List α}{ts:List β}(t:Paired F ys (ts.map g)){i:Nat}{y:α}(h:ys[i]? = some y):∃x,ts[i]? = some x/\F y (g x):=by
 have hi:i<ys.length:=(cc.mp h).1;let hl:=bG t;rw[ak] at hl;have:=hZ t i hi (by rw[ak];omega);rw[List.getElem_map] at this;apply#[ts[i],dq Z1,?_];rw[(cc.mp h).2] at this;exact this
theorem Iw{κ:Type}[DecidableEq κ]{kvs:List (κ × V)}{k:κ}(h:k∉kvs.map (·.1)):bK kvs k=none:=by
 cases e:bK kvs k with
 |none=>rfl
 |some v=>exact absurd (kp_ e) h
theorem Iz{α β:Type}(g:α->β){ts:List α}{i:Nat}{x:α}(h:ts[i]? = some x):(ts.take (i+1)).map g=(ts.take i).map g++[g x]:=by
 rw[iF,h,b_];rfl
theorem P3{α β:Type}{g:α->β}{ts:List α}{i:Nat}{x:α}(h:(ts.map g).Nodup)(hx:ts[i]? = some x):g x∉(ts.take i).map g:=by
 intro m;have hi:i<ts.length:=(cc.mp hx).1;let#[y,hy,e]:=bh.mp m;let#[j,hj,e2]:=BB hy;rw[cQ] at hj;rw[List.getElem_take] at e2;rw[Fq,zE,List.pairwise_iff_getElem] at h;apply h j i Z1 hi Z1 ?_;rw[e2,e,(cc.mp hx).2]
theorem hn_(F:bp K "sorted_ties" "sorted_ties" Wr f fd)(B:Bi mg)(cP:!bt 2 "is_pair_of_names" iN Cv)(cL:!bt 1 "lesser_first" BQ Sn):!aj ba 3 f fd ["ties"] (XA K):=by
 apply F.bI Sk λaR A outer s H vs Q E hr h=>?_
 ·let#[l,ys,ts,rfl,hl,tu,good,nd,dm,k]:=h;let hu:=eV hr;let sz:=ck
  apply#[_,aq (bN (gZ (fR (cy zC (by rfl) B.xK yc %[0,zw (v:=.ty "list") (by rfl) B.list KM Z|0]))) fJ bP)
   (aq (aX 1 Sk.nd je_)
   (aq (eF dX Z (dE (pv 0)) (cj 2 Sk.nd)
    (aq (bN (gZ (fR (bf cP hr %[2|0]))) fJ bP)
    (aq (aX 3 Sk.nd (bf cL hr %[bO eJ (pv 2) aK,bO eJ (pv 2) aK|0]))
    (aq (bN (Ih (LP hu (pv 3) (pv 1))) fJ bP)
    (aH (B1 hu (pv 1) (pv 3) Gq Z))))))
   (aH (bj (cy (fd_ Z) (by rfl) B.sorted GH %[1|0]))))),?_]
  apply#[_,Z,_,_,_,_,Z,.lst hl,Z,_,Z,bE ?_];intro d hd;have s0:aa H (upd H d (.dT [])):=aa.new hd
  let aQ:bL:=λi σ H2=>∃(v3 v4:aJ),σ=[some (.ref l),some (.ref d),v3,v4]/\aa H H2/\H2 d=some (.dT ((ts.take i).map λt=>(kT (aL t.1 t.2),V.bl true)))
  apply#[_,Z,l,Z,#[_,.of (s0 _ _ hl)],fW (K:=K) (a:=l) (xs:=ys) aQ #[none,none,Z,s0,az] (λi σ H2 _ ⟨_,_,_,s2,_⟩=>.of (s2 _ _ hl)) ?_ ?_]
  ·rintro i y σ H2 hy ⟨v3,v4,rfl,s2,hd2⟩;let#[t,ht,a,rfl,ha]:=qc tu hy;let#[g1,g2,g3]:=good t (cu ht);let ES:=s2 _ _ (EM ha);apply#[_,Z,a,t.1,t.2,Z,ES,by have:=RT g1;omega,by have:=RT g2;omega,λH3 s3=>#[_,Z,?_]];let BM:=s3 _ _ ES;let zi:=s3 _ _ hd2;rw[g1,g2,dR g3];apply bE ?_;apply#[_,Z,a,_,_,_,Z,Z,.of BM,Z,_,Z,a,_,_,_,Z,Z,.of BM,Z,t.1,t.2,Z,λb hb=>?_];have s4:aa H3 (upd H3 b (.tup [.str (aL t.1 t.2).1,.str (aL t.1 t.2).2])):=aa.new hb;let hd4:=s4 _ _ zi;have hb4:upd H3 b (.tup [.str (aL t.1 t.2).1,.str (aL t.1 t.2).2]) b=some (.tup ((kT (aL t.1 t.2)).map kV)):=az
   have EK:bK ((ts.take i).map λt=>(kT (aL t.1 t.2),V.bl true)) (kT (aL t.1 t.2))=none:=Iw (by
    rw[cm];exact P3 (g:=λt=>kT (aL t.1 t.2)) nd ht)
   apply#[_,Z,_,Z,d,_,Z,.t (k:=kT (aL t.1 t.2)) hd4 hb4,_,Z,?_];rw[EK];apply bE ?_;apply#[_,Z,_,Z,d,_,Z,.t (k:=kT (aL t.1 t.2)) hd4 hb4 (by rw[ak,cQ];omega),?_];apply#[_,_,Z,λc o e=>?_,?_]
   ·rw[au (bx e hd)];exact s4 _ _ (s3 _ _ (s2 _ _ e))
   ·rw[az,L1 _ EK,Iz _ ht]
  ·rintro σ H2 ⟨v3,v4,rfl,s2,hd2⟩;let le:=bG tu;rw[ak] at le;rw[le,dJ] at hd2;apply#[_,Z,d,_,[true,true],Z,hd2,#[by decide,λk hk=>?_],by rw[ak];exact dm,λl' zs hn tz=>?_]
   ·rw[cm] at hk;let#[t,_,rfl]:=bh.mp hk;rfl
   ·rw[cm] at tz;exact k l' zs _ (s2.trans (aa.new hn)) (s2.free hn) az (tz.same (aa.new hn))
theorem Jm:bD ["ties"] ["ties"] (bb Dn):=bJ
def CB(K:af):Sp:=λvs H Q _=>∃(l:Addr) (ys:ag) (ts:Xb),vs=[.ref l]/\H l=some (.lst ys)/\bg K H ys (ts.map kT)/\ts.length<=1000 /\
 ∀l' zs H',aa H H'->H l'=none->H' l'=some (.lst zs)->bg K H' zs (ts.map kT)->Q (.ref l') H'
theorem Es{K:af}{H:Hp}{ys:ag}{a:Addr}{k:aN}(t:bg K H ys ks)(h:H a=some (.tup (k.map kV))):bg K H (ys++[.ref a]) (ks++[k]):=Paired.snoc t #[a,Z,h]
theorem fN{H H1:Hp}(h:aa H H1)(hD:H D=none):aa H (upd H1 D o):=λb u e=>by rw[au (bx e hD)];exact h b u e
theorem iT{K:af}{H:Hp}{ys:ag}{xs:ag}(t:bg K H ys ks)(hD:H D=some (.lst xs)):bg K (upd H D o) ys ks:=Paired.bu t λy k ⟨a,z,q⟩=>#[a,z,by rw[au (cU q hD nofun)];exact q]
theorem le_(F:bp K "ties_anew" "ties_anew" Dn f fd):!aj ba 1 f fd ["ties"] (CB K):=by
 apply F.bI Jm λaR A outer s H vs Q E hr h=>?_
 ·let#[l,ys,ts,rfl,hl,tu,hz,k]:=h;let sz:=ck
  apply#[_,aH (bj (iS BQ 2 [] (dE (pv 0)) (λfp s H=>RD (n:=2) (dZ (eZ (i:=0) (show (BQ:ae).Nodup by decide +kernel) Z (Or.inl Z)) (dZ (eZ (i:=1) (show (BQ:ae).Nodup by decide +kernel) Z (Or.inl Z)) jf)))
   (λfp s H=>iH) (λfp s H=>fe %[0,1|0]))),?_]
  apply#[_,Z,l,Z,#[_,.of hl],λD hD=>?_];let le:=bG tu;rw[ak] at le
  let bH:dG:=λi out H'=>aa H H'/\H' D=some (.lst out)/\bg K H' out ((ts.take i).map kT)
  apply yd (own:=2) (fv:=[]) (xs:=ys) Z OQ bH #[aa.new hD,az,.nil] (λi out H' _ ⟨sm,_,_⟩=>.of (sm _ _ hl)) (λout H' ⟨sm,hd,tz⟩=>?_) (λi x out H' hx ⟨sm,hd,tz⟩=>?_)
  ·rw[le,dJ] at tz;exact k D out H' sm hD hd tz
  ·let#[t,ht,a,rfl,ha]:=qc tu hx;apply#[_,#[a,_,_,Z,.of (sm _ _ (EM ha)),Z],Z,λNx hN=>dM ?_];apply#[_,Z,_,Z,zl,λp hp=>#[out,(aa.new hp) _ _ hd,?_,?_]]
   ·have:=bG tz;rw[ak,cQ] at this;omega
   ·have Az:upd H' p (.tup [.str t.1,.str t.2]) p=some (.tup ((kT t).map kV)):=az;apply hN (out++[.ref p]) _ #[fN (sm.trans (aa.new hp)) hD,az,?_];rw[Iz _ ht];exact iT (Es (tz.same (aa.new hp)) Az) ((aa.new hp) _ _ hd)
end
def kH(h:Str × Int):aN:=[.inr h.1,.inl h.2]
def HK(h:Str × Int):Prop:=jc h.1=true/\1<=h.2/\h.2<=1000
def JI:aN->Key × V
 |[k,v]=>(k,kV v)
 |_=>(.inl 0,.non)
def du(hs:Xa):List (Key × V):=(aU (hs.map kH)).map JI
theorem U2{H:Hp}{p:Addr}{t:Str × Int}(h:H p=some (.tup ((kH t).map kV))):H p=some (.tup [.str t.1,.int t.2]):=h
theorem dD_:∀(more kvs:List (Key × V)),(kvs.map (·.1)++more.map (·.1)).Nodup->zy kvs more=kvs++more
 |[],kvs,_=>by
  show kvs=kvs++[];rw[gK]
 |p::more,kvs,h=>by
  show zy (putK kvs p.1 p.2) more=kvs++p::more
  have hn:bK kvs p.1=none:=Iw λm=>by
   rw[el,List.nodup_append] at h;exact h.2.2 p.1 m p.1 c8 Z
  rw[L1 _ hn,dD_ more (kvs++[(p.1,p.2)])]
  ·simp
  ·simpa using h
theorem Fi{more:List (Key × V)}(h:(more.map (·.1)).Nodup):zy [] more=more:=by
 rw[dD_ more [] (by simpa using h)];rfl
theorem dE_(hs:Xa):((du hs).map (·.1)).Perm (hs.map λh=>Sum.inr h.1):=by
 unfold du;rw[cm];let p:=(yb (hs.map kH)).map λk=>(JI k).1;rw[cm] at p;exact p
theorem df_{hs:Xa}(h:(hs.map (·.1)).Nodup):((du hs).map (·.1)).Nodup:=by
 apply (dE_ hs).nodup_iff.mpr ?_;have:(hs.map λh=>(Sum.inr h.1:Key))=(hs.map (·.1)).map Sum.inr:=by rw[cm];rfl
 rw[this,Fq,zE];exact h.imp λn e=>n (hU e)
theorem xV{A:Ag}(hr:aY k A)(n:Nat)(h:n+1<=64:=by decide):A.units+n+1<cLine:=by
 have:=hr.units;omega
variable{tk:Tok}
variable{ns:ae}
section
variable{P:Ad}{w:Af}{K:af}{mg:Str->Option Aa}{base:Heap}
theorem Ji:bD iN iN (bb Dc):=bJ
def Cy:Sp:=λvs H Q _=>∃(p:Addr) (a:Str) (n:Int),vs=[.ref p]/\H p=some (.tup [.str a,.int n])/\a.length<=100000/\∀H',aa H H'->Q (.bl (jc a&&(decide (1<=n)&&decide (n<=1000)))) H'
theorem ls_(F:bp K "is_hand_with_strength" "is_hand_with_strength" Dc f fd)(B:Bi mg)(cN:!bt 1 "is_name" iN Q7)(cW:!bt 2 "is_whole_within" xr WH)(mS:mg "MOST_STRENGTH"=some (.int 1000 tk)) :
  aj P w K mg base ba 3 f fd iN Cy:=by
 apply F.bI Ji λaR A outer s H vs Q E hr h=>?_
 ·let#[p,a,n,rfl,hp,la,k]:=h
  apply#[_,aq (bN (Gw (gZ (fR (cy zC (by rfl) B.xK yc %[0,zw (v:=.ty "tuple") (by rfl) B.tuple Wi Z|0])))
    (Ig (cz EW (cy xo (by rfl) B.len i4 %[0|0]) aK))).pt (aH (bj Gq)) bP)
   (aH (bj (En (bf cN hr %[bO eJ (pv 0) aK|0]) (AO (bf cW hr %[bO eJ (pv 0) aK,aK,KH (v:=.int 1000) (by rfl) mS #[tk,Z]|0]))))),?_]
  apply#[_,Z,_,_,_,_,Z,.tup hp,Z,_,Z,bE ?_];apply#[_,Z,p,_,Z,.inr (.of hp),Z,_,Z,?_];apply DG (show V.int ((2:Nat):Int)=V.int 2 from Z) ?_;apply#[_,Z,p,_,_,_,Z,Z,.of hp,Z,a,Z,la,λH1 s1=>#[_,Z,?_]];let QT:=s1 _ _ hp;let kk:=k H1 s1;apply aM (λc=>?_) (λc=>?_)
  ·apply#[_,Z,p,_,_,_,Z,Z,.of QT,Z,n,1,1000,Z,?_];rw[c] at kk;exact kk
  ·rw[show jc a=false by simpa using c] at kk;exact kk
theorem CD:bD ["hands","found","hand"] ["hands"] (bb Jn):=bJ
def Hb(K:af):Sp:=λvs H Q _=>∃(l:Addr) (ys:ag) (hs:Xa),vs=[.ref l]/\H l=some (.lst ys)/\bg K H ys (hs.map kH)/\(∀h∈hs,HK h)/\(hs.map (·.1)).Nodup/\1<=hs.length/\hs.length<=8 /\
 ∀d H',aa H H'->H d=none->H' d=some (.dK (du hs))->Q (.ref d) H'
theorem lO_(F:bp K "checked_strengths" "checked_strengths" Jn f fd)(B:Bi mg)(cH:!bt 3 "is_hand_with_strength" iN Cy)(mH:mg "MOST_HANDS"=some (.int 8 tk)):!aj ba 4 f fd ["hands"] (Hb K):=by
 apply F.bI CD λaR A outer s H vs Q E hr h=>?_
 ·let#[l,ys,hs,rfl,hl,tu,good,nd,h1,h8,k]:=h;let hu:=eV hr;let sz:=ck;let le:=bG tu;rw[ak] at le
  apply#[_,aq (bN (Gw (gZ (fR (cy zC (by rfl) B.xK yc %[0,zw (v:=.ty "list") (by rfl) B.list KM Z|0])))
    (Ig (gZ (fN_ HP HP aK (cy xo (by rfl) B.len i4 %[0|0]) (KH (v:=.int 8) (by rfl) mH #[tk,Z]))))).pt fJ bP)
   (aq (aX 1 CD.nd Ij)
   (aq (eF dX Z (dE (pv 0)) (cj 2 CD.nd)
    (aq (bN (gZ (fR (bf cH hr %[2|0]))) fJ bP)
    (aq (bN (Ih (LP hu (bO eJ (pv 2) aK) (pv 1))) fJ bP)
    (aH (B1 hu (pv 1) (bO eJ (pv 2) aK) (bO eJ (pv 2) aK) Z)))))
   (aH (bj (qe (Fl Z) (by rfl) B.dict BZ %[cy (gq_ Z) (by rfl) B.sorted GH %[R9 (pv 1)|0]|0]))))),?_]
  apply#[_,Z,_,_,_,_,Z,.lst hl,Z,_,Z,bE ?_];apply#[_,Z,l,_,Z,.inl (.of hl),_,_,Z,Z,_,Z,?_];rw[cw (show (1:Int)<=(ys.length:Int) by omega)];apply fG #[_,_,Z,Z,_,Z,?_];rw[cw (show (ys.length:Int)<=8 by omega)];apply bE ?_;intro d hd;have s0:aa H (upd H d (.dK [])):=aa.new hd
  let aQ:bL:=λi σ H2=>∃(v2:aJ),σ=[some (.ref l),some (.ref d),v2]/\aa H H2/\H2 d=some (.dK ((hs.take i).map λh=>(Sum.inr h.1,V.int h.2)))
  apply#[_,Z,l,Z,#[_,.of (s0 _ _ hl)],fW (K:=K) (a:=l) (xs:=ys) aQ #[none,Z,s0,az] (λi σ H2 _ ⟨_,_,s2,_⟩=>.of (s2 _ _ hl)) ?_ ?_]
  ·rintro i y σ H2 hy ⟨v2,rfl,s2,hd2⟩;let#[t,ht,a,rfl,ha]:=qc tu hy;let#[g1,g2,g3]:=good t (cu ht);let ES:=s2 _ _ (U2 ha);apply#[_,Z,a,t.1,t.2,Z,ES,by have:=RT g1;omega,λH3 s3=>#[_,Z,?_]];let BM:=s3 _ _ ES;let zi:=s3 _ _ hd2;rw[g1,cw g2,cw g3];apply bE ?_
   have EK:bK ((hs.take i).map λh=>((Sum.inr h.1:Key),V.int h.2)) (Sum.inr t.1)=none:=Iw (by
    rw[cm];let q:=P3 (g:=λh:Str × Int=>h.1) nd ht;intro m;let#[h,hh,e]:=bh.mp m;exact q (bh.mpr #[h,hh,hU e]))
   apply#[_,Z,a,_,_,_,Z,Z,.of BM,Z,_,Z,d,_,Z,.k (k:=Sum.inr t.1) zi,_,Z,?_];rw[EK];apply bE ?_;apply#[_,Z,a,_,_,_,Z,Z,.of BM,Z,_,Z,_,Z,a,_,_,_,Z,Z,.of BM,Z,d,_,Z,.k (k:=Sum.inr t.1) zi (by rw[ak,cQ];omega),?_];apply#[_,Z,λc o e=>?_,?_]
   ·rw[au (bx e hd)];exact s3 _ _ (s2 _ _ e)
   ·rw[az,L1 _ EK,Iz _ ht]
  ·rintro σ H2 ⟨v2,rfl,s2,hd2⟩;rw[le,dJ] at hd2;apply#[_,Z,d,_,Z,hd2,λv hv=>?_];have s3:aa H2 (upd H2 v (Em v d)):=aa.new hv;apply#[v,d,_,hs.map λh=>(Sum.inr h.1,Sum.inl h.2),[true,false],Z,az,s3 _ _ hd2,by rw[cm];rfl,#[by decide,λq hq=>?_],by rw[ak];omega,λl' H4 zs s4 hn tz=>?_]
   ·rw[cm] at hq;let#[h,_,rfl]:=bh.mp hq;rfl
   ·have ez:((hs.map λh=>((Sum.inr h.1:Key),(Sum.inl h.2:Key))).map λk=>[k.1,k.2])=hs.map kH:=by rw[cm];rfl
    rw[ez] at tz
    have pz:i_ K (upd H4 l' (.lst zs)) zs (du hs):=by
     have shape:∀k∈aU (hs.map kH),∃a b,k=[a,b]:=λk hk=>by
      let#[h,_,e]:=bh.mp ((yb _).mem_iff.mp hk);exact#[_,_,e.symm]
     have gen:∀(ks:List aN) (zs:ag),(∀k∈ks,∃a b,k=[a,b])->bg K (upd H4 l' (.lst zs)) zs ks->i_ K (upd H4 l' (.lst zs)) zs (ks.map JI):=λks=>by
      intro zs;generalize upd H4 l' (.lst zs)=HH;intro sh t
      induction t with
      |nil=>exact .nil
      |cons h t ih=>
       let#[a,b,rfl]:=sh _ c8;exact .cons h (ih λk hk=>sh k (dF _ hk))
     exact gen _ _ shape (tz.same (aa.new hn))
    apply#[l',zs,_,Z,az,pz,?_,λd' pS=>?_]
    ·have:=(dE_ hs).length_eq;simp only[ak] at this;omega
    ·rw[Fi (df_ nd)];have MX:aa H (upd H4 l' (.lst zs)):=(s2.trans (s3.trans s4)).trans (aa.new hn);exact k d' _ (MX.trans (aa.new pS)) (MX.free pS) az
theorem Q8:bD ["ties","strengths","found","one","other"] ["ties","strengths"] (bb CY):=bJ
inductive ym (K:af) (vs:ag) (H:Hp) (Q:VK) (E:XK):Prop
 |mk:∀(l d:Addr) (ys:ag) (ts:Xb) (kvs:List (Key × V)),vs=[.ref l,.ref d]->H l=some (.lst ys)->bg K H ys (ts.map kT)->(∀t∈ts,Kj t)->(ts.map λt=>kT (aL t.1 t.2)).Nodup->ts.length<64->H d=some (.dK kvs)->(∀t∈ts,(bK kvs (Sum.inr t.1)).isSome=true/\(bK kvs (Sum.inr t.2)).isSome=true)->(∀l' zs H',aa H H'->H l'=none->H' l'=some (.lst zs)->bg K H' zs (aU (ts.map λt=>kT (aL t.1 t.2)))->Q (.ref l') H')->ym K vs H Q E
theorem Ro(a b:Str):aL a b=(a,b)∨aL a b=(b,a):=by
 unfold aL;split
 ·exact .inl rfl
 ·exact .inr rfl
theorem km_(F:bp K "checked_ties" "checked_ties" CY f fd)(B:Bi mg)(cS:!bt 3 "sorted_ties" ["ties"] (XA K)):!aj ba 4 f fd ["ties","strengths"] (ym K):=by
 apply F.bI Q8 λaR A outer s H vs Q E hr h=>?_
 ·let#[l,d,ys,ts,kvs,rfl,hl,tu,good,nd,dm,hd,there,k]:=h;let hu:=eV hr
  apply#[_,aq (aX 2 Q8.nd (bf cS hr %[0|0]))
   (aq (bN (Ih (Rf (pv 2))) fJ bP)
   (aq (eF dX Z (dE (pv 2)) (xk Z (dZ (cj 3 Q8.nd) (dZ (cj 4 Q8.nd) jf)))
    (aH (bN (Gw (Ih (eO_ hu (pv 3) (pv 1))) (Ig (Ih (eO_ hu (pv 4) (pv 1))))).pt fJ bP)))
   (aH (bj (pv 2))))),?_]
  apply#[_,Z,l,ys,ts,Z,hl,tu,good,nd,dm,λl' zs H1 s1 hf pR tz=>?_];apply#[_,Z,_,Z,bE ?_]
  let bH:bL:=λi σ H2=>∃(v3 v4:aJ),σ=[some (.ref l),some (.ref d),some (.ref l'),v3,v4]/\H2=H1
  apply#[_,Z,l',Z,#[_,.of pR],fW (K:=K) (a:=l') (xs:=zs) bH #[none,none,Z,Z] (λi σ H2 _ ⟨_,_,_,e⟩=>by subst e;exact .of pR) ?_ ?_]
  ·rintro i y σ H2 hy ⟨v3,v4,rfl,rfl⟩;let ez:=bG tz;have hi:i<zs.length:=(cc.mp hy).1;let#[a,e,ha]:=hZ tz i hi Z1;rw[(cc.mp hy).2] at e;subst e;let#[t,ht,e]:=bh.mp ((yb _).mem_iff.mp (jg (show i<(aU (ts.map λt=>kT (aL t.1 t.2))).length by omega)));rw[<- e] at ha;let#[t1,t2]:=there t ht
   have both:(bK kvs (Sum.inr (aL t.1 t.2).1)).isSome=true/\(bK kvs (Sum.inr (aL t.1 t.2).2)).isSome=true:=by
    rcases Ro t.1 t.2 with q|q
    ·rw[q];exact#[t1,t2]
    ·rw[q];exact#[t2,t1]
   let Bn:=s1 _ _ hd;apply#[a,_,Z,.of (EM ha),Z,_,_,Z,_,_,Z,Z,?_];apply#[_,Z,_,Z,d,_,Z,.k (k:=Sum.inr (aL t.1 t.2).1) Bn,_,Z,?_];rw[both.1];apply bE ?_;apply#[_,Z,_,Z,d,_,Z,.k (k:=Sum.inr (aL t.1 t.2).2) Bn,_,Z,?_];rw[both.2];apply bE ?_;exact#[_,_,Z,Z]
  ·rintro σ H2 ⟨v3,v4,rfl,rfl⟩;exact#[_,Z,k l' zs _ s1 hf pR tz]
def near(ns:ae)(ts:Xb)(n:Str):ae:=ns.filter λo=>decide (aL n o∈ts)
theorem yy:bD ["names","ties","found","hand"] ["names","ties"] (bb C1):=bJ
def p_(ns:ae)(as:ay):List (Key × V):=(ns.zip as).map λp=>(Sum.inr p.1,V.ref p.2)
inductive yo (K:af) (vs:ag) (H:Hp) (Q:VK) (E:XK):Prop
 |mk:∀(l1 l2:Addr) (ns:ae) (zs:ag) (ts:Xb),vs=[.ref l1,.ref l2]->H l1=some (.lst (ns.map V.str))->H l2=some (.lst zs)->bg K H zs (ts.map kT)->ns.Nodup->ns.length<=1000->l1≠l2->(∀d as H',aa H H'->H d=none->as.length=ns.length->H' d=some (.dK (p_ ns as))->(∀(i:Nat) n a,ns[i]? = some n->as[i]? = some a->H a=none/\H' a=some (.lst ((near ns ts n).map V.str)))->Q (.ref d) H')->yo K vs H Q E
theorem Pg{K:af}{H:Hp}:∀{ts:Xb} {zs:ag},bg K H zs (ts.map kT)->Paired (r2 K rS rS H) zs ts
 |[],_,.nil=>.nil
 |t::ts,_,.cons ⟨a,e,h⟩ r=>.cons #[a,_,_,e,.of (EM h),Z,Z] (Pg r)
theorem iG{i:Nat}{x:V}(h:(ns.map V.str)[i]? = some x):∃n,ns[i]? = some n/\x=.str n:=by
 rw[dQ] at h;cases e:ns[i]? with
 |none=>rw[e] at h;cases h
 |some n=>rw[e] at h;exact#[n,Z,(ee h).symm]
theorem de_{α:Type}(p:α->Bool){l:List α}{i:Nat}{x:α}(h:l[i]? = some x):(l.take (i+1)).filter p=(l.take i).filter p++(if p x then [x] else []):=PySem.take_succ_filter p l i x h
theorem kP_(F:bp K "neighbours_of_all" "neighbours_of_all" C1 f fd)(cL:!bt 1 "lesser_first" BQ Sn):!aj ba 2 f fd ["names","ties"] (yo K):=by
 apply F.bI yy λaR A outer s H vs Q E hr h=>?_
 ·let#[l1,l2,ns,zs,ts,rfl,pR,DT,tz,nd,h8,Bl,k]:=h;let hu:=eV hr;let UV:=hr.units;let sz:=ck
  apply#[_,aq (aX 2 yy.nd Ij)
   (aq (eF dX Z (dE (pv 0)) (cj 3 yy.nd)
    (aH (B1 hu (pv 2) (pv 3) (iS ["other","hand","ties"] 1 [3,1] (dE (pv 0)) (λfp s H=>eZ (i:=0) (show (["other","hand","ties"]:ae).Nodup by decide +kernel) Z (Or.inl Z))
     (λfp s H=>VN (cz (Lc (K:=K) (λK=>Jy K (r2 K rS rS) false) (O8 (GD fH fH) (xV hr _))) (bf cL hr %[1,0|0]) (pv 2) (by with_unfolding_all rfl))) (λfp s H=>pv 0)) Z)))
   (aH (bj (pv 2)))),?_]
  intro d hd;have s0:aa H (upd H d (.dK [])):=aa.new hd
  apply#[_,Z,l1,Z,#[_,.of (s0 _ _ pR)],fW (K:=K) (a:=l1) (xs:=ns.map V.str) (λi σ H2=>∃(v3:aJ) (as:ay),σ=[some (.ref l1),some (.ref l2),some (.ref d),v3]/\aa H H2/\as.length=i/\H2 d=some (.dK (p_ (ns.take i) as)) /\
   ∀(j:Nat) n a,ns[j]? = some n->as[j]? = some a->H a=none/\a≠d/\H2 a=some (.lst ((near ns ts n).map V.str))) #[none,[],Z,s0,Z,az,λj n a _ e=>by simp at e] (λi σ H2 _ ⟨_,_,_,s2,_⟩=>.of (s2 _ _ pR)) ?_ ?_]
  ·rintro i y σ H2 hy ⟨v3,as,rfl,s2,la,hd2,lists⟩;let#[n,hn,rfl]:=iG hy;have hi:i<ns.length:=(cc.mp hn).1
   have lk:(p_ (ns.take i) as).length=i:=by
    unfold p_;rw[ak,List.length_zip,cQ];omega
   apply#[_,Z,l1,Z,#[_,.of (s2 _ _ pR)],λD hD=>?_]
   let eX:dG:=λj out H'=>aa H2 H'/\H' D=some (.lst out)/\out=((ns.take j).filter λo=>decide (aL n o∈ts)).map V.str
   apply yd (own:=1) (fv:=[some (.str n),some (.ref l2)]) (xs:=ns.map V.str) Z dP eX #[aa.new hD,az,Z] (λj out H' _ ⟨sm,_,_⟩=>.of (sm _ _ (s2 _ _ pR))) (λout H' ⟨sm,eI,eo⟩=>?_) (λj x out H' hx ⟨sm,eI,eo⟩=>?_)
   ·rw[ak,dJ] at eo
    have EK:bK (p_ (ns.take i) as) (Sum.inr n)=none:=Iw λm=>by
     unfold p_ at m;rw[cm] at m;let#[p,hp,e]:=bh.mp m;have e:p.1=n:=hU e;let q:=P3 (g:=id) (by rw[List.map_id];exact nd) hn;rw[List.map_id] at q;exact q (e▸(List.of_mem_zip hp).1)
    have ZJ:D≠d:=λz=>by subst z;rw[hD] at hd2;cases hd2
    apply#[_,Z,_,Z,d,_,Z,.k (k:=Sum.inr n) (sm _ _ hd2) Z1,?_];apply#[_,as++[D],Z,λc o e=>?_,by rw[dY,la];rfl,?_,λj n' a Oi ha=>?_]
    ·rw[au (bx e hd)];exact sm _ _ (s2 _ _ e)
    ·rw[az,L1 _ EK];congr 2;unfold p_;rw[iF,hn,List.zip_append (by rw[cQ];omega),b_];rfl
    ·by_cases hj:j<as.length
     ·rw[K1 hj] at ha;let#[q1,q2,q3]:=lists j n' a Oi ha;apply#[q1,q2,?_];rw[au q2];exact sm _ _ q3
     ·have hj2:j=i:=by
       have:=(cc.mp ha).1;rw[dY] at this;simp only[K2] at this;omega
      subst hj2;rw[IC Z1,la,Nat.sub_self] at ha;have ha:D=a:=by simpa using ha
      subst ha;rw[hn] at Oi;cases Oi;apply#[s2.free hD,ZJ,?_];rw[au ZJ,eI,eo];rfl
   ·let#[o,ho,rfl]:=iG hx;apply#[_,Z,Z,λNx hN=>?_];apply#[_,Z,_,Z,n,o,Z,λt ht=>?_];have s3:aa H' (upd H' t (.tup [.str (aL n o).1,.str (aL n o).2])):=aa.new ht;let tz':=((tz.same s2).same sm).same s3
    have lo:out.length<sizeLine:=by
     rw[eo,ak];have:=Fm (λo=>decide (aL n o∈ts)) (ns.take j);rw[cQ] at this;omega
    apply#[_,Z,aL n o,ts,#[t,_,_,Z,.of az,Z,Z],#[l2,zs,Z,.of (s3 _ _ (sm _ _ (s2 _ _ DT))),Pg tz'],_,Z,?_];apply aM (λc=>?_) (λc=>?_)
    ·apply#[_,Z,out,s3 _ _ eI,lo,hN _ _ #[fN (sm.trans s3) hD,az,?_]];have c:decide (aL n o∈ts)=true:=by simpa using c
     rw[de_ _ ho,aA c,b_,eo];rfl
    ·apply hN _ _ #[sm.trans s3,s3 _ _ eI,?_];have c:¬decide (aL n o∈ts)=true:=by simpa using c
     rw[de_ _ ho,ao c,gK,eo]
  ·rintro σ H2 ⟨v3,as,rfl,s2,la,hd2,lists⟩;rw[ak] at la hd2;rw[dJ] at hd2;exact#[_,Z,k d as _ s2 hd la hd2 λj n a h1 h2=>#[(lists j n a h1 h2).1,(lists j n a h1 h2).2.2]]
end
abbrev C9:Stmt:=vH pI 0
abbrev FV:Stmt:=vH pI 1
abbrev yQ:Stmt:=vH pI 2
abbrev Xe:Stmt:=vH pI 3
abbrev yL:Stmt:=vH pI 4
abbrev CZ:Stmt:=vH pI 5
abbrev yH:Stmt:=vH pI 6
abbrev C5:Stmt:=vH pI 7
def OS:aN->Str
 |.inr a::_=>a
 |_=>⟨#[]⟩
def SU:aN->Str × Str
 |[.inr a,.inr b]=>(a,b)
 |_=>(⟨#[]⟩,⟨#[]⟩)
def aI(hs:Xa):ae:=(aU (hs.map kH)).map OS
def aD(ts:Xb):Xb:=(aU (ts.map λt=>kT (aL t.1 t.2))).map SU
theorem P7(ts:Xb):(aD ts).map kT=aU (ts.map λt=>kT (aL t.1 t.2)):=by
 unfold aD;rw[cm]
 have all:∀k∈aU (ts.map λt=>kT (aL t.1 t.2)),∃t:Str × Str,k=kT t:=λk hk=>by
  let#[t,_,e]:=bh.mp ((yb _).mem_iff.mp hk);exact#[_,e.symm]
 generalize aU (ts.map λt=>kT (aL t.1 t.2))=l at all
 induction l with
 |nil=>rfl
 |cons k l ih=>
  let#[t,rfl]:=all k c8;rw[el,ih λk hk=>all k (dF _ hk)];rfl
theorem Sr(hs:Xa):∀k∈aU (hs.map kH),∃h:Str × Int,h∈hs/\k=kH h:=λk hk=>by
 let#[t,ht,e]:=bh.mp ((yb _).mem_iff.mp hk);exact#[t,ht,e.symm]
theorem fH_(hs:Xa):((du hs).map λkv=>kV kv.1)=(aI hs).map V.str:=by
 unfold du aI;rw[cm,cm];apply BC λk hk=>?_;let#[h,_,rfl]:=Sr hs k hk;rfl
theorem fZ_(hs:Xa):(du hs).map (·.1)=(aI hs).map Sum.inr:=by
 unfold du aI;rw[cm,cm];apply BC λk hk=>?_;let#[h,_,rfl]:=Sr hs k hk;rfl
theorem gf(hs:Xa):(aI hs).Perm (hs.map (·.1)):=by
 unfold aI;let p:=(yb (hs.map kH)).map OS;rw[cm] at p;exact p
theorem es_{κ:Type}[DecidableEq κ]{kvs:List (κ × V)}{k:κ}(h:k∈kvs.map (·.1)):(bK kvs k).isSome=true:=by
 rw[<- PH];let#[p,hp,e]:=bh.mp h;exact List.any_eq_true.mpr #[p,hp,cw e]
theorem RA{hs:Xa}{n:Str}:(bK (du hs) (Sum.inr n)).isSome=decide (n∈hs.map (·.1)):=by
 by_cases h:n∈hs.map (·.1)
 ·rw[cw h];apply es_ ?_;rw[fZ_];exact bh.mpr #[n,(gf hs).mem_iff.mpr h,Z]
 ·rw[dR h,Iw]
  ·rfl
  ·rw[fZ_];intro m;let#[x,hx,e]:=bh.mp m;cases e;exact h ((gf hs).mem_iff.mp hx)
theorem Uh:¬((E1:Str)="sorted_pairs"):=by decide +kernel
theorem Ug:¬((E1:Str)=Kl):=by decide +kernel
theorem n23:¬(("sorted_pairs":Str)=Kl):=by decide +kernel
def da(d1 l2 d3:Addr):List (Str × V):=aF Kl (.ref d3) (aF "sorted_pairs" (.ref l2) (aF E1 (.ref d1) []))
theorem Q0(d1 l2 d3:Addr):(da d1 l2 d3).lookup (E1:Str)=some (.ref d1):=by
 unfold da;rw[ff,ao Ug,ff,ao Uh,ff,aA Z]
theorem lK_(d1 l2 d3:Addr):(da d1 l2 d3).lookup ("sorted_pairs":Str)=some (.ref l2):=by
 unfold da;rw[ff,ao n23,ff,aA Z]
theorem UJ(d1 l2 d3:Addr):(da d1 l2 d3).lookup (Kl:Str)=some (.ref d3):=by
 unfold da;rw[ff,aA Z]
variable{m:Str}
theorem je(d1 l2 d3:Addr)(h1:¬m=E1)(h2:¬m="sorted_pairs")(h3:¬m=Kl):(da d1 l2 d3).lookup m=none:=by
 unfold da;rw[ff,ao h3,ff,ao h2,ff,ao h1]
 all_goals rfl
structure gn (K:af) (C:Addr) (H:Hp) (p:Addr) (hs:Xa) (ts:Xb) (fp:ay):Prop where
 ex:∃(dx d1 l2 d3:Addr) (zs:ag) (as:ay),fp=p::d1::l2::d3::as/\H p=some (.ins C dx (da d1 l2 d3))/\H d1=some (.dK (du hs))/\H l2=some (.lst zs)/\bg K H zs ((aD ts).map kT)/\H d3=some (.dK (p_ (aI hs) as))/\as.length=(aI hs).length /\
  ∀(i:Nat) n a,(aI hs)[i]? = some n->as[i]? = some a->H a=some (.lst ((near (aI hs) (aD ts) n).map V.str))
variable{H':Hp}
theorem gn.keep{K:af}{C:Addr}{H:Hp}{p:Addr}{hs:Xa}{ts:Xb}{fp:ay}(W:gn K C H p hs ts fp)(k:∀b∈fp,∀o,H b=some o->H' b=some o)(kt:∀b xs,H b=some (.tup xs)->H' b=some (.tup xs)):gn K C H' p hs ts fp:=by
 let#[dx,d1,l2,d3,zs,as,rfl,h1,h2,h3,h4,h5,h6,h7]:=W.ex;apply#[dx,d1,l2,d3,zs,as,Z,k _ Z2 _ h1,k _ Z2 _ h2,k _ Z2 _ h3,Paired.bu h4 λy q ⟨a,e,z⟩=>#[a,e,kt _ _ z],k _ Z2 _ h5,h6,λi n a e1 e2=>k _ ?_ _ (h7 i n a e1 e2)];have:=cu e2;simp[this]
theorem gn.same{K:af}{C:Addr}{H:Hp}{p:Addr}{hs:Xa}{ts:Xb}{fp:ay}(W:gn K C H p hs ts fp)(s:aa H H'):gn K C H' p hs ts fp:=W.keep (λb _ o e=>s b o e) λb xs e=>s b _ e
structure Good (hs:Xa) (ts:Xb):Prop where
 aO:∀h∈hs,HK h
 AC:(hs.map (·.1)).Nodup
 h1:1<=hs.length
 h8:hs.length<=8
 tok:∀t∈ts,Kj t
 IQ:(ts.map λt=>kT (aL t.1 t.2)).Nodup
 wC:ts.length<64
 A6:∀t∈ts,t.1∈hs.map (·.1)/\t.2∈hs.map (·.1)
theorem Good.BF{hs:Xa}{ts:Xb}(G:Good hs ts):(aI hs).Nodup:=(gf hs).nodup_iff.mpr G.AC
theorem Good.fw{hs:Xa}{ts:Xb}(G:Good hs ts):(aI hs).length=hs.length:=by
 rw[(gf hs).length_eq,ak]
theorem Il(ts:Xb):(aD ts).length=ts.length:=by
 unfold aD;rw[ak,(yb _).length_eq,ak]
structure Txt (K:af) (mg:Str->Option Aa) (C:Addr):Prop where
 cl:zI K C
 nS:ya K C E1
 nP:ya K C "sorted_pairs"
 nN:ya K C Kl
section
variable{P:Ad}{w:Af}{K:af}{mg:Str->Option Aa}{base:Heap}
theorem yz:bD ["self","hands","ties","strengths","checked"] ["self","hands","ties"] (bb C9):=bJ
inductive yt (K:af) (C:Addr) (vs:ag) (H:Hp) (Q:VK) (E:XK):Prop
 |mk:∀(p dx lh lt:Addr) (ys zs:ag) (hs:Xa) (ts:Xb),vs=[.ref p,.ref lh,.ref lt]->H p=some (.ins C dx [])->H lh=some (.lst ys)->bg K H ys (hs.map kH)->H lt=some (.lst zs)->bg K H zs (ts.map kT)->Good hs ts->(∀fp H',(∀b o,H b=some o->b≠p->H' b=some o)->gn K C H' p hs ts fp->(∀b∈fp,b=p∨H b=none)->Q .non H')->yt K C vs H Q E
theorem l0_{C:Addr}(F:bp K "__init__" "Web.__init__" C9 f fd)(T:Txt K mg C)(B:Bi mg)(cS:!bt 4 "checked_strengths" ["hands"] (Hb K))(cT:!bt 4 "checked_ties" ["ties","strengths"] (ym K))(cN:!bt 2 "neighbours_of_all" ["names","ties"] (yo K)) :
  aj P w K mg base ba 5 f fd ["self","hands","ties"] (yt K C):=by
 apply F.bI yz λaR A outer s H vs Q E hr h=>?_
 ·let#[p,dx,lh,lt,ys,zs,hs,ts,rfl,hp,g_,th,dc,tt,G,k]:=h
  apply#[_,aq (aX 3 yz.nd (bf cS hr %[1|0]))
   (aq (aX 4 yz.nd (bf cT hr %[2,3|0]))
   (aq (E6 (pv 0) (pv 3) Z) (aq (E6 (pv 0) (pv 4) Z)
   (aH (E6 (pv 0) (bf cN hr %[qe (YD Z) (by rfl) B.list KM %[3|0],4|0]) Z))))),?_]
  apply#[_,Z,lh,ys,hs,Z,g_,th,G.aO,G.AC,G.h1,G.h8,λd1 H1 s1 f1 Bn=>?_];apply#[_,Z,_,Z,lt,d1,zs,ts,_,Z,s1 _ _ dc,tt.same s1,G.tok,G.IQ,G.wC,Bn,λt ht=>?_,λl2 Mj H2 s2 f2 DT tz=>?_]
  ·rw[RA,RA];exact#[cw (G.A6 t ht).1,cw (G.A6 t ht).2]
  let J6:=s2 _ _ Bn;let Az:=s2 _ _ (s1 _ _ hp);have p1:p≠d1:=cU Az J6 nofun;have p2:p≠l2:=cU Az DT nofun;apply#[_,Z,_,Z,p,C,dx,[],Z,Az,T.cl,T.nS,by show 0<1000;decide,?_];apply#[_,Z,_,Z,p,C,dx,_,Z,az,T.cl,T.nP,by show 1<1000;decide,?_]
  let H3:Hp:=upd (upd H2 p (.ins C dx (aF E1 (.ref d1) []))) p (.ins C dx (aF "sorted_pairs" (.ref l2) (aF E1 (.ref d1) [])))
  have h3:∀{b o},H2 b=some o->b≠p->H3 b=some o:=λe ne=>by
   show upd (upd H2 p _) p _ _=_;rw[au ne,au ne];exact e
  have VG:H3 p=some (.ins C dx (aF "sorted_pairs" (.ref l2) (aF E1 (.ref d1) []))):=az
  have Nn:∀{b},H3 b=none->H2 b=none:=λ{b} e=>by
   by_cases z:b=p
   ·subst z;rw[VG] at e;cases e
   ·have e:upd (upd H2 p _) p _ b=none:=e;rw[au z,au z] at e;exact e
  have Y_:bg K H3 Mj ((aD ts).map kT):=by
   rw[P7];exact Paired.bu tz λy q ⟨a,e,z⟩=>#[a,e,h3 z (cU z Az nofun)]
  apply#[_,Z,d1,_,Z,.inl (h3 J6 p1.symm),λl1 pR=>?_];rw[fH_];have s4:aa H3 (upd H3 l1 (.lst ((aI hs).map V.str))):=aa.new pR;have T_:l1≠l2:=(bx (H:=H3) (h3 DT p2.symm) pR).symm;apply#[_,Z,l1,l2,aI hs,Mj,aD ts,Z,az,s4 _ _ (h3 DT p2.symm),Y_.same s4,G.BF,by rw[G.fw];have:=G.h8;omega,T_,λd3 as H5 s5 f5 la zi lists=>?_];let Ln:=s5 _ _ (s4 _ _ VG);apply#[_,Z,p,C,dx,_,Z,Ln,T.cl,T.nN,by show 2<1000;decide,?_]
  have up:∀{b o},H2 b=some o->b≠p->upd H5 p (.ins C dx (da d1 l2 d3)) b=some o:=λe ne=>by
   rw[au ne];exact s5 _ _ (s4 _ _ (h3 e ne))
  have AJ:∀{b},upd H3 l1 (.lst ((aI hs).map V.str)) b=none->H b=none:=λe=>s1.free (s2.free (Nn (s4.free e)));have Vu:d3≠p:=(bx (s4 _ _ VG) f5).symm;apply k (p::d1::l2::d3::as) _ (λb o e ne=>up (s2 _ _ (s1 _ _ e)) ne) #[dx,d1,l2,d3,Mj,as,Z,az,up J6 p1.symm,up DT p2.symm,?_,?_,la,λi n a e1 e2=>?_] λb hb=>?_
  ·exact Paired.bu (Y_.same (s4.trans s5)) λy q ⟨a,e,z⟩=>#[a,e,by rw[au (cU z Ln nofun)];exact z]
  ·rw[au Vu];exact zi
  ·let#[q1,q2]:=lists i n a e1 e2;rw[au (cU q2 Ln nofun)];exact q2
  ·simp only[bW] at hb;rcases hb with rfl|rfl|rfl|rfl|hb
   ·exact .inl Z
   ·exact .inr f1
   ·exact .inr (s1.free f2)
   ·exact .inr (AJ f5)
   ·let#[i,hi,e]:=BB hb;have e1:as[i]? = some b:=by rw[dq hi,e]
    have hn:i<(aI hs).length:=by omega
    exact .inr (AJ (lists i _ b (dq hn) e1).1)
end
structure bB (P:Ad) (w:Af) (K:af) (mg:Str->Option Aa) (base:Heap) (C:Addr) (k:Nat) (m:Str) (ps:ae) (sp:Sp):Prop where
 ex:∃f fd,aj P w K mg base ba k f fd ps sp/\Meth K C m f/\Bt K fd ps []
variable{o:Expr}{apos:Pos}{ta:TE}{pl:Sem Bool}
theorem fL{C:Addr}(c:bB X.prog X.w X.K X.mg X.base C k m ps sp)(cl:zI X.K C)(hr:aY k X.A)(he:PE X o ta)(ha:PA X (e::es) t)(F9:starEach (e::es) X.env=(false,eval e X.env)::starEach es X.env:=by rfl)(xO:(backTo pos (starEach es X.env)).any (·.1)=false:=by rfl)(ht:eval (.Call (.Attribute o m apos) (e::es) [] pos) X.env=(do
   let ov <- eval o X.env
   standAt apos.atName
   let (f,first) <- holding [ov] (getMethod ov m pl)
   callWith pos f first (backTo pos (starEach (e::es) X.env)) (backToKw pos (keywordEach [] X.env))):=by rfl) :
  PE X (.Call (.Attribute o m apos) (e::es) [] pos) (zP C m sp [] E0 ta t):=by
 let#[f,fd,F,hm,b]:=c.ex;exact kh_ he cl hm F hr b .nil wQ ha F9 xO ht
theorem GC{C:Addr}(c:bB X.prog X.w X.K X.mg X.base C k m ps sp)(cl:zI X.K C)(hr:aY k X.A)(he:PE X o ta)(ht:eval (.Call (.Attribute o m apos) [] [] pos) X.env=(do
   let ov <- eval o X.env
   standAt apos.atName
   let (f,first) <- holding [ov] (getMethod ov m pl)
   callWith pos f first (backTo pos (starEach [] X.env)) (backToKw pos (keywordEach [] X.env))):=by rfl) :
  PE X (.Call (.Attribute o m apos) [] [] pos) (zP C m sp [] E0 ta pH):=by
 let#[f,fd,F,hm,b]:=c.ex;exact j8_ he cl hm F hr b .nil wQ ht
theorem gl_{hs:Xa}(nd:(hs.map (·.1)).Nodup){x:Str}{n:Int}(h:(x,n)∈hs):bK (du hs) (Sum.inr x)=some (.int n):=by
 have m:((Sum.inr x:Key),V.int n)∈du hs:=by
  unfold du;apply bh.mpr #[kH (x,n),(yb _).mem_iff.mpr (bh.mpr #[_,h,Z]),Z]
 let nk:=df_ nd;generalize du hs=kvs at m nk
 induction kvs with
 |nil=>cases m
 |cons p r ih=>
  let#[n1,n2]:=Bz.mp nk;rcases bW.mp m with e|m
  ·rw[<- e];exact KU Z
  ·rw[KP (λe:p.1=Sum.inr x=>n1 (bh.mpr #[_,m,e.symm]))];exact ih m n2
variable{as:ay}
theorem hh_(nd:ns.Nodup)(la:as.length=ns.length){i:Nat}{n:Str}(hn:ns[i]? = some n):∃a,as[i]? = some a/\bK (p_ ns as) (Sum.inr n)=some (.ref a):=by
 induction ns generalizing as i with
 |nil=>simp at hn
 |cons x ns ih=>
  cases as with
  |nil=>cases la
  |cons b as=>
   let#[n1,n2]:=Bz.mp nd;cases i with
   |zero=>
    have e:x=n:=by simpa using hn
    subst e;exact#[b,Z,KU Z]
   |succ i=>
    have hn:ns[i]? = some n:=by simpa using hn
    let#[a,h1,h2]:=ih n2 (by simpa using la) hn;apply#[a,by simpa using h1,?_];show bK ((Sum.inr x,V.ref b)::p_ ns as) (Sum.inr n)=_;rw[KP λe=>n1 (by rw[show x=n from hU e];exact cu hn)];exact h2
section
variable{P:Ad}{w:Af}{K:af}{mg:Str->Option Aa}{base:Heap}
theorem Hd:bD AN AN (bb FV):=bJ
inductive wI (K:af) (C:Addr) (vs:ag) (H:Hp) (Q:VK) (E:XK):Prop
 |mk:∀(p:Addr) (x:Str) (hs:Xa) (ts:Xb) (fp:ay),vs=[.ref p,.str x]->gn K C H p hs ts fp->Q (.bl (decide (x∈hs.map (·.1)))) H->wI K C vs H Q E
theorem lH_{C:Addr}(F:bp K "has_hand" "Web.has_hand" FV f fd)(T:Txt K mg C)(B:Bi mg):!aj ba 1 f fd AN (wI K C):=by
 apply F.bI Hd λaR A outer s H vs Q E hr h=>?_
 ·let#[p,x,hs,ts,fp,rfl,W,k]:=h;let hu:=eV hr;let#[dx,d1,l2,d3,zs,as,rfl,h1,h2,h3,h4,h5,h6,h7]:=W.ex;apply#[_,aH (bj (En (cy zC (by rfl) B.xK yc %[1,zw (v:=.ty "str") (by rfl) B.str O9 Z|0]) (AO (O_ (LP hu (pv 1) (dW (pv 0) Z)))))),?_];apply#[_,Z,_,_,_,_,Z,.str x,Z,_,Z,fG ?_];apply#[_,Z,_,Z,p,C,dx,_,_,Z,h1,T.cl,T.nS,Q0 _ _ _,d1,_,Z,.k (k:=Sum.inr x) h2,?_];rw[RA];exact k
theorem FU:bD ik ik (bb yQ):=bJ
inductive LV (K:af) (C:Addr) (vs:ag) (H:Hp) (Q:VK) (E:XK):Prop
 |mk:∀(p:Addr) (hs:Xa) (ts:Xb) (fp:ay),vs=[.ref p]->gn K C H p hs ts fp->(∀l,H l=none->Q (.ref l) (upd H l (.lst ((aI hs).map V.str))))->LV K C vs H Q E
theorem jv_{C:Addr}(F:bp K "hands" "Web.hands" yQ f fd)(T:Txt K mg C)(B:Bi mg):!aj ba 1 f fd ik (LV K C):=by
 apply F.bI FU λaR A outer s H vs Q E hr h=>?_
 ·let#[p,hs,ts,fp,rfl,W,k]:=h;let#[dx,d1,l2,d3,zs,as,rfl,h1,h2,h3,h4,h5,h6,h7]:=W.ex;apply#[_,aH (bj (qe (YD Z) (by rfl) B.list KM %[dW (pv 0) Z|0])),?_];apply#[_,Z,p,C,dx,_,_,Z,h1,T.cl,T.nS,Q0 _ _ _,d1,_,Z,.inl h2,λl hl=>?_];rw[fH_];exact k l hl
theorem fw':bD vL vL (bb Xe):=bJ
inductive L9 (K:af) (C:Addr) (vs:ag) (H:Hp) (Q:VK) (E:XK):Prop
 |mk:∀(p:Addr) (x:Str) (n:Int) (hs:Xa) (ts:Xb) (fp:ay),vs=[.ref p,.str x]->gn K C H p hs ts fp->(hs.map (·.1)).Nodup->(x,n)∈hs->Q (.int n) H->L9 K C vs H Q E
theorem fg_{C:Addr}(F:bp K "strength" "Web.strength" Xe f fd)(T:Txt K mg C)(cH:!bB C 1 "has_hand" AN (wI K C)):!aj ba 2 f fd vL (L9 K C):=by
 apply F.bI fw' λaR A outer s H vs Q E hr h=>?_
 ·let#[p,x,n,hs,ts,fp,rfl,W,nd,hx,k]:=h;let hu:=eV hr;let#[dx,d1,l2,d3,zs,as,rfl,h1,h2,h3,h4,h5,h6,h7]:=id W.ex;apply#[_,aq (bN (gZ (fR (fL cH T.cl hr (pv 0) %[1|0]))) fJ bP) (aH (bj (cb hu (dW (pv 0) Z) (pv 1)))),?_];apply#[_,Z,p,dx,_,Z,h1,je _ _ _ Z0 Z0 Z0,_,Z,p,x,hs,ts,_,Z,W,_,Z,?_];rw[cw (bh.mpr #[_,hx,Z])];apply bE ?_;apply#[_,Z,p,C,dx,_,_,Z,h1,T.cl,T.nS,Q0 _ _ _,_,Z,d1,_,Z,?_,k];rw[<- gl_ nd hx];exact .k (k:=Sum.inr x) h2
theorem FP:bD vL vL (bb yL):=bJ
inductive RH (K:af) (C:Addr) (vs:ag) (H:Hp) (Q:VK) (E:XK):Prop
 |mk:∀(p:Addr) (x:Str) (hs:Xa) (ts:Xb) (fp:ay),vs=[.ref p,.str x]->gn K C H p hs ts fp->(aI hs).Nodup->x∈hs.map (·.1)->(∀l,H l=none->Q (.ref l) (upd H l (.lst ((near (aI hs) (aD ts) x).map V.str))))->RH K C vs H Q E
theorem _o{H:Hp}{hs:Xa}{ts:Xb}{x:Str}(nd:(aI hs).Nodup)(hx:x∈hs.map (·.1))(la:as.length=(aI hs).length)(h7:∀(i:Nat) n a,(aI hs)[i]? = some n->as[i]? = some a->H a=some (.lst ((near (aI hs) (aD ts) n).map V.str))):∃a,bK (p_ (aI hs) as) (Sum.inr x)=some (.ref a)/\H a=some (.lst ((near (aI hs) (aD ts) x).map V.str)):=by
 let#[i,hi,e]:=BB ((gf hs).mem_iff.mpr hx);have hn:(aI hs)[i]? = some x:=by rw[dq hi,e]
 let#[a,h1,h2]:=hh_ nd la hn;exact⟨a,h2,h7 i x a hn h1⟩
theorem iw_{C:Addr}(F:bp K "neighbours" "Web.neighbours" yL f fd)(T:Txt K mg C)(B:Bi mg)(cH:!bB C 1 "has_hand" AN (wI K C)):!aj ba 2 f fd vL (RH K C):=by
 apply F.bI FP λaR A outer s H vs Q E hr h=>?_
 ·let#[p,x,hs,ts,fp,rfl,W,nd,hx,k]:=h;let hu:=eV hr;let#[dx,d1,l2,d3,zs,as,rfl,h1,h2,h3,h4,h5,h6,h7]:=id W.ex;let#[a,e1,ha]:=_o nd hx h6 h7;apply#[_,aq (bN (gZ (fR (fL cH T.cl hr (pv 0) %[1|0]))) fJ bP) (aH (bj (qe eK_ (by rfl) B.list KM %[cb hu (dW (pv 0) Z) (pv 1)|0]))),?_];apply#[_,Z,p,dx,_,Z,h1,je _ _ _ Z0 Z0 Z0,_,Z,p,x,hs,ts,_,Z,W,_,Z,?_];rw[cw hx];apply bE ?_;apply#[_,Z,p,C,dx,_,_,Z,h1,T.cl,T.nN,UJ _ _ _,_,Z,d3,.ref a,Z,?_,a,_,Z,.inl (.of ha),k];rw[<- e1];exact .k (k:=Sum.inr x) h5
theorem Ja:bD xU xU (bb CZ):=bJ
theorem KS{H:Hp}:∀ns:ae,Paired (rS H) (ns.map V.str) ns
 |[]=>.nil
 |_::ns=>.cons Z (KS ns)
theorem FM:bD ik ik (bb yH):=bJ
inductive Wa (K:af) (C:Addr) (vs:ag) (H:Hp) (Q:VK) (E:XK):Prop
 |mk:∀(p:Addr) (hs:Xa) (ts:Xb) (fp:ay),vs=[.ref p]->gn K C H p hs ts fp->ts.length<64->(∀l zs H',aa H H'->H l=none->H' l=some (.lst zs)->bg K H' zs ((aD ts).map kT)->Q (.ref l) H')->Wa K C vs H Q E
theorem j9_{C:Addr}(F:bp K "ties" "Web.ties" yH f fd)(T:Txt K mg C)(cA:!bt 1 "ties_anew" ["ties"] (CB K)):!aj ba 2 f fd ik (Wa K C):=by
 apply F.bI FM λaR A outer s H vs Q E hr h=>?_
 ·let#[p,hs,ts,fp,rfl,W,dm,k]:=h;let#[dx,d1,l2,d3,zs,as,rfl,h1,h2,h3,h4,h5,h6,h7]:=W.ex;apply#[_,aH (bj (bf cA hr %[dW (pv 0) Z|0])),?_];exact#[_,Z,p,C,dx,_,_,Z,h1,T.cl,T.nP,lK_ _ _ _,l2,zs,aD ts,Z,h3,h4,by rw[Il];omega,k]
theorem Jf:bD ik ik (bb C5):=bJ
def fF(hs:Xa)(ts:Xb):List Int:=(aI hs).map λn=>((near (aI hs) (aD ts) n).length:Int)
inductive yr (K:af) (C:Addr) (vs:ag) (H:Hp) (Q:VK) (E:XK):Prop
 |mk:∀(p:Addr) (hs:Xa) (ts:Xb) (fp:ay),vs=[.ref p]->gn K C H p hs ts fp->0<(aI hs).length->(aI hs).length<=1000->(∀m H',aa H H'->m∈fF hs ts->(∀a∈fF hs ts,a<=m)->Q (.int m) H')->yr K C vs H Q E
theorem lr_{C:Addr}(F:bp K "most_neighbours" "Web.most_neighbours" C5 f fd)(T:Txt K mg C)(B:Bi mg):!aj ba 1 f fd ik (yr K C):=by
 apply F.bI Jf λaR A outer s H vs Q E hr h=>?_
 ·let#[p,hs,ts,fp,rfl,W,h0,h8,k]:=h;let sz:=ck;let#[dx,d1,l2,d3,zs,as,rfl,h1,h2,h3,h4,h5,h6,h7]:=W.ex
  apply#[_,aH (bj (cy (fx_ Z) (by rfl) B.max KC %[_N (iS ["row"] 1 [] (hl_ (ep_ (dW (pv 0) Z))) (λfp s H=>eZ (i:=0) (show (["row"]:ae).Nodup by decide +kernel) Z (Or.inl Z)) (λfp s H=>iH)
   (λfp s H=>cy (PV (K:=K)) (by rfl) B.len i4 %[0|0]))|0])),?_]
  apply#[d3,_,h5,_,Z,p,C,dx,_,_,Z,h1,T.cl,T.nN,UJ _ _ _,d3,_,Z,h5,λv hv=>?_];have s1:aa H (upd H v (Ek v d3)):=aa.new hv;apply#[v,d3,_,Z,az,s1 _ _ h5,λo D hD=>?_]
  have lk:(p_ (aI hs) as).length=(aI hs).length:=by
   unfold p_;rw[ak,List.length_zip];omega
  have Ej:∀{b u},H b=some u->u≠.dK (p_ (aI hs) as)->upd (upd H v (Ek v d3)) d3 (.frz o (.dK (p_ (aI hs) as))) b=some u:=λe ne=>by
   rw[au (cU e h5 ne)];exact s1 _ _ e
  apply GF (own:=1) (fv:=[]) Z dP (aI hs).length (λi out H'=>aa (upd (upd H v (Ek v d3)) d3 (.frz o (.dK (p_ (aI hs) as)))) H'/\H' D=some (.lst out)/\out=((fF hs ts).take i).map V.int) #[aa.new hD,az,Z] (λout H' ⟨sm,eI,eo⟩=>?_) (λi out H' hi ⟨sm,eI,eo⟩=>?_)
  ·let hf:=sm _ _ (show upd (upd H v (Ek v d3)) d3 (.frz o (.dK (p_ (aI hs) as))) d3=some _ from az);have Dd:D≠d3:=cU eI hf nofun;have ll:(fF hs ts).length=(aI hs).length:=by unfold fF;rw[ak]
   rw[<- ll,dJ] at eo;apply#[#[hf,by omega],o,hf,D,fF hs ts,Z,.of ?_,by omega,λm hm hle=>k m _ (λb u e=>?_) hm hle]
   ·rw[au Dd,eI,eo]
   ·by_cases z:b=d3
    ·subst z;rw[az,<- h5];exact e
    ·rw[au z];exact sm _ _ (by rw[au z];exact s1 _ _ e)
  ·let hf:=sm _ _ (show upd (upd H v (Ek v d3)) d3 (.frz o (.dK (p_ (aI hs) as))) d3=some _ from az);apply#[#[hf,by omega],λx H2 y=>?_];let#[eH,kk,hk]:=y;subst eH;have hn:(aI hs)[i]? = some (aI hs)[i]:=dq hi;have ha:as[i]? = some (as[i]' Z1):=dq Z1
   have ex:x=.ref (as[i]' Z1):=by
    unfold p_ at hk;rw[dQ,dq (by rw[List.length_zip];omega),List.getElem_zip] at hk;exact (Prod.mk.inj (ee hk)).2.symm
   subst ex;let JO:=h7 i _ _ hn ha;apply#[_,Z,Z,λNx hN=>dM ?_];apply#[_,Z,_,_,Z,.inl (.of (sm _ _ (Ej JO nofun))),out,eI,?_,hN _ _ #[fN sm hD,az,?_]]
   ·rw[eo,ak,cQ];unfold fF;rw[ak];omega
   ·rw[Iz _ (show (fF hs ts)[i]? = some (((near (aI hs) (aD ts) (aI hs)[i]).length:Nat):Int) by unfold fF;rw[dQ,hn];rfl),eo,ak]
end
end Ev
namespace L2
open PySem PySem.Spec PyProof.Rows PySem.W
def Qg(K:af)(a:Addr):It:=
 #[λi H=>∃xs x,d9 K H a xs/\xs[i]? = some x,λi H y H'=>∃t x,y=.ref t/\H t=none/\(∀xs,d9 K H a xs->xs[i]? = some x)/\H'=upd H t (.tup [.int i,x]),λi H=>∃xs,d9 K H a xs/\xs.length=i]
variable{X:Cx}{pins:List (Addr × Obj)}{σ:St}{s:Ab}{h':Heap}{t':Nat}{fp:ay}
theorem Inv.zN{H:Hp}{T:Addr}{xs:ag}{its:ax}(I:Inv X pins σ H s)(k:∀b o,b∉fp->s.heap.get? b=some o->h'.get? b=some o)(hf:∀b∈fp,dk X pins H b)(hT:s.heap.objs.size<=T)(hz:xs.length<=sizeLine)(r:Vals xs its)(ht:IsTup h' T its.toArray/\∃o,h'.get? T=some o/\o.dict=none):Inv X pins σ (upd H T (.tup xs)) { s with heap:=h',toks:=t' }:=by
 have fT:H T=none:=I.aO.fresh hT;have nf:∀b u,H b=some u->b∉fp:=λb u e hb=>by rw[(hf b hb).1] at e;cases e
 have old:∀{b u},H b=some u->upd H T (.tup xs) b=some u:=λe=>by rw[au (bx e fT)];exact e
 apply I.step (g':=s.gens) (d':=s.drawn) (ch:=fp) (λb hb=>?_) (λb o _ _ hc e _=>k b o hc e) (λb o _ _ hc e _=>#[o.slots,k b o hc e]) (λb o _ e n=>?_)
  (λb o hc e=>#[o,k b o hc e]) (λb ys e=>old e) (λb o u e=>old e) (λb ps e=>#[#[],by rw[Array.append_empty];exact old e]) (λm hm=>?_) (λb u e=>?_) I.bare
 ·let#[f0,f1,f2,f3,f4,f5]:=hf b hb;exact#[f3,f1,f4,f5]
 ·rw[au (λz=>by subst z;exact absurd (cE e) (Nat.not_lt.mpr hT))];exact n
 ·let#[o,es,ep,ho,r]:=hm;exact#[o,es,ep,k _ o (λhb=>(hf _ hb).2.1 Z) ho,r]
 ·by_cases z:b=T
  ·subst z;rw[az] at e;cases e;exact#[hz,its,r,ht]
  ·rw[au z] at e;apply (I.aO b u e).eS (λc v hc q=>k c v ?_ q) (λ_ q=>old q) λ_ _ q=>old q;rcases hc with z|z
   ·rw[z];exact nf b u e
   ·exact nf c _ z
theorem Inv.pE{H:Hp}(I:Inv X pins σ H s)(k:∀b o,b∉fp->s.heap.get? b=some o->h'.get? b=some o)(hf:∀b∈fp,dk X pins H b):Inv X pins σ H { s with heap:=h',toks:=t' }:=by
 have nf:∀b u,H b=some u->b∉fp:=λb u e hb=>by rw[(hf b hb).1] at e;cases e
 apply I.step (g':=s.gens) (d':=s.drawn) (ch:=fp) (λb hb=>?_) (λb o _ _ hc e _=>k b o hc e) (λb o _ _ hc e _=>#[o.slots,k b o hc e]) (λb o _ e n=>n)
  (λb o hc e=>#[o,k b o hc e]) (λb ys e=>e) (λb o u e=>e) (λb ps e=>#[#[],by rw[Array.append_empty];exact e]) (λm hm=>?_) (λb u e=>?_) I.bare
 ·let#[f0,f1,f2,f3,f4,f5]:=hf b hb;exact#[f3,f1,f4,f5]
 ·let#[o,es,ep,ho,r]:=hm;exact#[o,es,ep,k _ o (λhb=>(hf _ hb).2.1 Z) ho,r]
 ·apply (I.aO b u e).eS (λc v hc q=>k c v ?_ q) (λ_ q=>q) λ_ _ q=>q;rcases hc with z|z
  ·rw[z];exact nf b u e
  ·exact nf c _ z
variable{elts:List Expr}{pos:Pos}
theorem if_{P:Ad}{w:Af}{K:af}{k:Nat}(a e it:Addr)(h1:e≠it)(h2:a≠e)(h3:a≠it):Turn P w K (.Tuple elts k pos) (Qg K a) [e,it] e (λi h=>(∃old,IsEnum h e it i old)/\h.IsListIter it a i) where
 mem:=by simp
 obj:=λi h st b hb=>by
  let#[#[old,q],o,e2,c,d]:=st;rcases bW.mp hb with rfl|hb
  ·exact#[_,q,λv z=>by cases z]
  ·obtain rfl:b=it:=by simpa using hb
   exact#[o,e2,λv z=>by rw[d] at z;cases z]
 keep:=λi h h' st kk=>by
  let#[#[old,q],fj]:=st;exact#[#[old,kk e Z2 _ q],fj.at λo q2=>kk it Z2 o q2]
 item:=by
  intro X hP hw hK hc i pins s σ H E I hf st hg;subst hP hw hK;let#[xs,x,hq,hx]:=hg;let#[its,rv,p,hz]:=I.list hq;let#[u,hu,ru]:=rv.get hx;let W:=WalksT.enumerate (prog:=X.prog) (w:=X.w) (A:=X.A) (I.ok.hd hc) e it a h1 h2 h3 its.toArray
  have hi:i<its.toArray.size:=by
   simp only[dD];exact (cc.mp hu).1
  let#[old,he]:=st.1;let hit:=st.2;apply wpAny_pyNext_enum_item he hit p.isList (x:=u) (by rw[List.getElem?_toArray];exact hu) h1 λh' ho J1 QZ hsz hk=>?_;have Vn:e<s.heap.objs.size:=cE he;have Vh:it<s.heap.objs.size:=by let#[_,x,_]:=hit;exact cE x
  have mid:(∃x,IsEnumOut h' e it ((i:Int)+1) x s.heap.objs.size)/\h'.IsListIter it a (i+1)/\h'.IsList a its.toArray/\s.heap.objs.size≠e/\s.heap.objs.size≠it:=#[#[_,ho],J1,p.isList.at λo x=>hk a o h2 h3 x,Fc Vn,Fc Vh];have kk:∀b o,b∉[e,it]->s.heap.get? b=some o->h'.get? b=some o:=λb o hb x=>hk b o (λe'=>hb (by simp[e'])) (λe'=>hb (by simp[e'])) x;have UL:h'.IsTuple s.heap.objs.size (List.toArray [.int i s.toks,u]):=#[_,QZ,Z,_,Z];obtain⟨T,eT⟩:∃T,T=s.heap.objs.size:=#[_,Z];obtain⟨t,et⟩:∃t,t=s.toks:=#[_,Z];obtain⟨tk,QQ⟩:∃tk,tk=s.toks+1:=#[_,Z];rw[<- eT] at UL mid QZ ⊢;have hT:s.heap.objs.size<=T:=Nat.le_of_eq eT.symm;rw[<- et] at UL QZ;rw[<- QQ];apply#[_,Z,W.go elts k pos i T { s with heap:=h',toks:=tk } _ _ mid λvG fo UF=>?_];have nT:T∉[e,it]:=W.apart i T h' mid
  have UK:vG.IsTuple T (List.toArray [.int i t,u]):=by
   let#[o,q,r]:=UL;exact#[o,UF T o nT q,r]
  have I1:Inv X pins σ (upd H T (.tup [.int i,x])) { s with heap:=vG,toks:=tk }:=I.zN (t':=tk) (fp:=[e,it]) (its:=[.int i t,u]) (λb o hb q=>UF b o hb (kk b o hb q)) hf hT (zl) (.cons #[t,Z] (.cons ru .nil)) #[UK,_,UF T _ nT QZ,Z];apply#[.ref T,_,I1,Z,#[T,x,Z,I.aO.fresh hT,λys hy=>by rw[I.wY hy hq];exact hx,Z],#[?_,fo.2.1],λb hb=>?_]
  ·let#[old,q]:=fo.1;exact#[old,by simpa using q]
  ·rw[au (λz:b=T=>nT (by rw[<- z];exact hb))];exact (hf b hb).1
 done:=by
  intro X hP hw hK hc i pins s σ H E I hf st hg;subst hP hw hK;let#[xs,hq,hx]:=hg;let#[its,rv,p,hz]:=I.list hq;let W:=WalksT.enumerate (prog:=X.prog) (w:=X.w) (A:=X.A) (I.ok.hd hc) e it a h1 h2 h3 its.toArray
  have hn:its.toArray.size=i:=by
   have:=rv.length;simp only[dD];omega
  apply W.done s _ _ (by rw[hn];exact#[st.1,st.2,p.isList]) λh' tk kk=>#[Z,I.pE (t':=tk) (fp:=[e,it]) kk hf]
 self:=λA i s Q E st h=>by
  let#[old,q]:=st.1;exact wpAny_pyIter_enum q h
inductive DL (K:af) (R:It->Hp->Prop) (vs:ag) (H1:Hp):Prop
 |mk:∀a,vs=[.ref a]->(∃xs,d9 K H1 a xs)->R (Qg K a) H1->DL K R vs H1
def NW(K:af)(ta:TA):TI:=λσ H R=>ta σ H λvs H1=>DL K R vs H1
theorem h8_{kk:Nat}{p2:Pos}{a:Expr}{ta:TA}{p:Pos}(hg:Gl X "enumerate")(hm:X.mg "enumerate"=none)(ha:PA X [a] ta)(hs:starEach [a] X.env=[(false,eval a X.env)]:=by rfl):PI X (.Tuple elts kk p2) (.Call (.Name "enumerate" p) [a] [] pos) (NW X.K ta):=by
 intro pins s σ H R I h;apply Call_ (LM I hg hm boot_enumerate (PyProof.Rows.callWith_type1 (aZ (ha pos pins s σ H _ I h) λus s1 ⟨vs,H1,I1,r1,q1⟩=>?_) hs Z));let#[l,e,#[xs,hq],q]:=q1;subst e;cases r1 with
 |cons r rr=>
  cases rr;cases r;let#[its,rv,pl,hz]:=I1.list hq;have ll:l<s1.heap.objs.size:=by let#[_,e,_]:=pl.isList;exact cE e
  apply call_enumerate_list pl.isList λh' he hi hn kp=>?_;apply wpAny_pyIter_enum he ?_;apply#[s1.heap.objs.size+1,[s1.heap.objs.size+1,s1.heap.objs.size],_,_,H1,Z,I1.kept (t':=s1.toks) kp,if_ l _ _ (Nat.succ_ne_self _) (eM (Nat.lt_succ_of_lt ll)) (eM ll),#[#[_,he],hi],λb hb=>?_,q]
  have e:s1.heap.objs.size<=b:=by
   rcases bW.mp hb with rfl|hb
   ·exact Nat.le_succ _
   ·obtain rfl:b=s1.heap.objs.size:=by simpa using hb
    exact bo _
  exact I1.pU e (I1.aO.fresh e)
theorem fW_{K:af}{a:Addr}{xs:ag}{g:TG}{tb:TS}{D:Ends}{H:Hp}(Pv:bL)(h0:Pv 0 σ H)(hl:∀i σ H,i<=xs.length->Pv i σ H->d9 K H a xs)(hs:∀i x σ H,xs[i]? = some x->Pv i σ H->∀t,H t=none->g (.ref t) σ (upd H t (.tup [.int i,x])) λgz H2=>tb { D with nx:=Pv (i+1),ct:=Pv (i+1),bk:=D.nx } gz H2)(hd:∀σ H,Pv xs.length σ H->D.nx σ H) :
  ∃W:Nat->Nat->St->Hp->Prop,(∃m,W 0 m σ H)/\∀i m σ H,W i m σ H->
   ((Qg K a).stop i H/\D.nx σ H)∨((Qg K a).go i H/\∃N:St->Hp->Prop,(∀bq H',N bq H'->∃m',m'<m/\W (i+1) m' bq H')/\∀x H',(Qg K a).Fw i H x H'->g x σ H' λgz H2=>tb { D with nx:=N,ct:=N,bk:=D.nx } gz H2):=by
 apply#[λi m σ H=>m=xs.length - i/\i<=xs.length/\Pv i σ H,#[xs.length,by simp,gx _,h0],?_];rintro i m σ H ⟨rfl,hi,p⟩;let q:=hl i σ H hi p;by_cases dc:i<xs.length
 ·apply .inr #[#[xs,xs[i],q,by simp[dc]],Pv (i+1),λbq H' p'=>#[xs.length - (i+1),by omega,Z,dc,p'],λx H' y=>?_];let#[t,x,rfl,ht,y,rfl]:=y;exact hs i x σ H (y xs q) p t ht
 ·have e:i=xs.length:=by omega
  subst e;exact .inl #[#[xs,q,Z],hd σ H p]
theorem LO(a b c:Str):Ll (.str a) [.str b,.str c]=(decide (b=a) || decide (c=a)):=by
 have e:∀x y:Str,pW (.str x) (.str y)=decide (x=y):=λx y=>by
  have:=hR_ (a:=Sum.inr x) (b:=Sum.inr y) Z;rw[show pW (.str x) (.str y)=pW (kV (Sum.inr x)) (kV (Sum.inr y)) from Z,this];by_cases z:x=y
  ·simp[z]
  ·simp[z]
 unfold Ll;simp only[List.any_cons,List.any_nil,Bool.or_false,e]
section
variable{M:Model}{A:Ag}{E:Aa->Ab->Prop}{s:Ab}{base:Heap}{env:Env}{outer:List Env}{L e:Addr}{cls cx fl:Aa}{Q:Unit->Ab->Prop}
end
section
variable{P:Ad}{w:Af}{H H':Hp}{B h0 h h1:Heap}{l:List Env}
end
section
variable{X:Cx}{pins:List (Addr × Obj)}{σ:St}{H H':Hp}{s s1:Ab}{B h:Heap}{a:Addr}{cls a0:Aa}{E:XK}
end
section
variable{P:Ad}{w:Af}{K:af}{mg:Str->Option Aa}{base:Heap}{N:ae}{qual:Str}{scope:Scope}{f:Addr}{cd:Aa}{A:Ag}{outer:List Env}{s:Ab}{H:Hp}{E:XK}
end
section
variable{P:Ad}{w:Af}{K:af}{mg:Str->Option Aa}{base:Heap}
end
open PySem.Calls Builtin Builtin.ObjectAttr Builtin.Getset_descriptor
structure Y5 (K:af) (C:Addr):Prop where
 cl:(clsIn K C).isSome=true
 ga:findIn K (.ref C) "__getattribute__"=some (some (.builtin "BaseException.__getattribute__"))
 ha:findIn K (.ref C) "__getattr__"=some none
 ca:findIn K (.ref C) "__class__"=some (some (.builtin "object.__class__"))
 gt:specialIn K (.builtin "object.__class__") "__get__"=some (some (.builtin "getset_descriptor.__get__"))
 tk:takesIn K (.builtin "object.__class__")=some true
 mo:mroIn K C (.type "object")=some true
 mb:mroIn K C (.type "BaseException")=some true
section
variable{prog:Ad}{w:Af}{A:Ag}{E:Aa->Ab->Prop}{s:Ab}{K:af}{x C:Addr}
end
inductive Hj (K:af) (xs:ag) (H:Hp) (Q:VK):Prop
 |mk:∀x C t b,xs=[x,.ref C]->fS K H x t->PySem.W.kitOne K t (.ref C)=some b->Q (.bl b) H->Hj K xs H Q
theorem ij_:gJ X (.builtin "isinstance") (Hj X.K):=by
 intro pins s σ H xs us Q I r h;let#[x,C,t,b,rfl,ty,e,q]:=h;let#[u,w',rfl,ru,pK]:=vals2 r;cases (show w'=Value.ref C from pK);exact eQ_ I ru ty e λtk=>#[.bl b,H,I.tok tk,Z,q]
end L2
namespace Ev
open PySem L2
abbrev Dk:Stmt:=top 60
abbrev yS:Stmt:=top 63
abbrev C8:Stmt:=top 65
abbrev TC:Stmt:=top 18
abbrev WG:Stmt:=top 27
abbrev yD:Stmt:=top 28
abbrev yN:Stmt:=top 61
abbrev yI:Stmt:=top 62
abbrev yM:Stmt:=top 64
abbrev yT:Stmt:=top 55
abbrev WK:Stmt:=top 56
abbrev Xs:Stmt:=top 57
abbrev O4:Stmt:=top 58
abbrev WE:Stmt:=top 21
abbrev Xw:Stmt:=top 22
abbrev TB:Stmt:=top 19
abbrev C4:Stmt:=top 23
abbrev Wy:Stmt:=top 24
abbrev YG:Stmt:=top 51
abbrev iY:Stmt:=top 30
abbrev Ra:Stmt:=top 31
abbrev Dg:Stmt:=top 32
abbrev Jq:Stmt:=top 33
abbrev Jo:Stmt:=top 34
abbrev XE:Stmt:=top 35
abbrev Xu:Stmt:=top 36
abbrev Xj:Stmt:=top 37
abbrev Pk:Stmt:=top 38
abbrev XF:Stmt:=top 39
abbrev wJ:Stmt:=top 40
abbrev WJ:Stmt:=top 42
abbrev XN:Stmt:=top 41
abbrev Wp:Stmt:=top 43
abbrev Wn:Stmt:=top 29
abbrev XJ:Stmt:=top 66
abbrev yF:Stmt:=top 67
abbrev Wb:Stmt:=top 68
abbrev yC:Stmt:=top 69
abbrev C_:Stmt:=top 70
abbrev Di:Stmt:=top 71
abbrev C6:Stmt:=top 72
abbrev yP:Stmt:=top 73
abbrev Jr:Stmt:=top 74
abbrev Dm:Stmt:=top 75
abbrev V7:Stmt:=top 76
abbrev yU:Stmt:=top 77
abbrev XQ:Stmt:=top 78
abbrev Wc:Stmt:=top 80
abbrev yK:Stmt:=top 79
abbrev WN:Stmt:=top 81
abbrev WR:Stmt:=top 82
abbrev Dh:Stmt:=top 83
abbrev ip:Stmt:=top 84
def bc(l:Addr)(H H':Hp):Prop:=∀b o,H b=some o->b≠l->H' b=some o
theorem bc.refl(l:Addr)(H:Hp):bc l H H:=λ_ _ e _=>e
variable{l:Addr}{H H1:Hp}
theorem bc.trans{H2:Hp}(h:bc l H H1)(h2:bc l H1 H2):bc l H H2:=λb o e n=>h2 b o (h b o e n) n
theorem bc.of(h:aa H H1):bc l H H1:=λb o e _=>h b o e
theorem bc.upd{o:HO}:bc l H (upd H l o):=λb u e n=>by rw[au n];exact e
def eK(H:Hp)(l:Addr):Prop:=∃a b c:Int,H l=some (.lst [.int a,.int b,.int c])
theorem eK.some(h:eK H l):∃xs,H l=some (.lst xs):=by
 let#[a,b,c,e]:=h;exact#[_,e]
variable{H':Hp}
theorem eK.same(h:eK H l)(s:aa H H'):eK H' l:=by
 let#[a,b,c,e]:=h;exact#[a,b,c,s _ _ e]
theorem eK.ne{a:Addr}(h:eK H l)(e:H a=none):a≠l:=by
 rintro rfl;let#[x,y,z,h]:=h;rw[e] at h;cases h
theorem bc.free{b:Addr}(h:bc l H H')(s:eK H' l)(e:H' b=none):H b=none:=by
 cases z:H b with
 |none=>rfl
 |some o=>
  by_cases q:b=l
  ·subst q;let#[x,y,u,s]:=s;rw[e] at s;cases s
  ·rw[h b o z q] at e;cases e
theorem iL{α:Type}{xs:List α}{i:Int}(h0:0<=i)(h1:i<xs.length):gY xs i=xs[i.toNat]?:=by
 unfold gY Ht;rw[aA h0,aA h1];rfl
theorem jA_:(LC:Str).cps.toList=[97,98,99,100,101,102,103,104,105,106,107,108,109,110,111,112,113,114,115,116,117,118,119,120,121,122]:=by decide +kernel
def LI{α:Type}(l:List α)(k:Nat)(x:α):List α:=l.take k++x::l.drop k
theorem Ym{α:Type}(l:List α)(k:Nat)(x:α):(LI l k x).Perm (x::l):=by
 unfold LI;apply List.perm_middle.trans ?_;rw[List.take_append_drop]
theorem it_{α:Type}(l:List α)(k:Nat)(x:α):(LI l k x).length=l.length+1:=(Ym l k x).length_eq
theorem Gf{α:Type}{a b:α}{r:Int}(h0:0<=r)(h1:r<2):gY [a,b] r=some a∨gY [a,b] r=some b:=by
 have:r=0∨r=1:=by omega
 rcases this with rfl|rfl
 ·exact .inl Z
 ·exact .inr Z
variable{K:af}
theorem Fg{ys:ag}{ks:List aN}(t:bg K H ys ks)(b:bc l H H'){xs:ag}(hl:H l=some (.lst xs)):bg K H' ys ks:=Paired.bu t λy k ⟨a,z,q⟩=>#[a,z,b _ _ q (cU q hl nofun)]
variable{ns:ae}
theorem eR_{D:Addr}(h:H D=some (.lst (ns.map V.str))):rL K rS H (.ref D) ns:=#[D,_,Z,.of h,KS ns]
def kO(t:Str × Str):aN:=kT (aL t.1 t.2)
structure TI (ns:ae) (k j:Nat) (ts:Xb):Prop where
 at':∀t∈ts,∃(a b:Nat) (x y:Str),b<a/\(a<k∨(a=k/\b<j))/\ns[a]? = some x/\ns[b]? = some y/\(t=(x,y)∨t=(y,x))
 nd:(ts.map kO).Nodup
 len:ts.length<=7 * k+j
variable{j k:Nat}{ts:Xb}
theorem TI.skip(h:TI ns k j ts):TI ns k (j+1) ts:=
 #[λt ht=>let #[a,b,x,y,h1,h2,h3,h4,h5]:=h.at' t ht;#[a,b,x,y,h1,by omega,h3,h4,h5],h.nd,by have:=h.len;omega]
theorem TI.next(h:TI ns k k ts)(h7:k<=7):TI ns (k+1) 0 ts:=
 #[λt ht=>let #[a,b,x,y,h1,h2,h3,h4,h5]:=h.at' t ht;#[a,b,x,y,h1,by omega,h3,h4,h5],h.nd,by have:=h.len;omega]
theorem OZ{a b:Str × Str}(h:kT a=kT b):a=b:=by
 unfold kT at h;let#[h1,h2]:=zv h;let#[h2,_]:=zv h2;exact Prod.ext (hU h1) (hU h2)
variable{x:Str}
theorem Pi(nd:ns.Nodup){i:Nat}(h:ns[i]? = some x)(h2:ns[j]? = some x):i=j:=by
 let#[hi,e1]:=cc.mp h;let#[hj,e2]:=cc.mp h2;exact (List.getElem_inj nd).mp (e1.trans e2.symm)
variable{a b:Str}
theorem VD{c d:Str}(h:kO (a,b)=kO (c,d)):(a=c/\b=d)∨(a=d/\b=c):=by
 let h:=OZ h;dsimp only at h;rcases Ro a b with e|e<;>rcases Ro c d with e2|e2<;>rw[e,e2] at h<;>let h1:=(Prod.mk.inj h).1<;>let h2:=(Prod.mk.inj h).2
 ·exact .inl #[h1,h2]
 ·exact .inr #[h1,h2]
 ·exact .inr #[h2,h1]
 ·exact .inl #[h2,h1]
theorem TI.add(h:TI ns k j ts)(nd:ns.Nodup){y:Str}{t:Str × Str}(hj:j<k)(hx:ns[k]? = some x)(hy:ns[j]? = some y)(ht:t=(x,y)∨t=(y,x))(q:Nat):TI ns k (j+1) (LI ts q t):=by
 apply#[λu hu=>?_,?_,by have:=h.len;rw[it_];omega]
 ·rcases bW.mp ((Ym _ _ _).mem_iff.mp hu) with rfl|hu
  ·exact#[k,j,x,y,hj,.inr #[Z,by omega],hx,hy,ht]
  ·exact h.skip.at' u hu
 ·apply ((Ym ts q t).map kO).nodup_iff.mpr ?_;rw[el];apply Bz.mpr #[λm=>?_,h.nd];let#[u,hu,e]:=bh.mp m;let#[a,b,c,d,h1,h2,h3,h4,h5]:=h.at' u hu
  have key:(c=x/\d=y)∨(c=y/\d=x):=by
   rcases h5 with rfl|rfl<;>rcases ht with rfl|rfl<;>rcases VD e with⟨q1,q2⟩|⟨q1,q2⟩<;>simp_all
  rcases key with⟨rfl,rfl⟩|⟨rfl,rfl⟩
  ·have:=Pi nd h3 hx;have:=Pi nd h4 hy;omega
  ·have:=Pi nd h3 hy;have:=Pi nd h4 hx;omega
theorem TI.good(h:TI ns k j ts)(nd:ns.Nodup)(ok:∀n∈ns,jc n=true):∀t∈ts,Kj t/\t.1∈ns/\t.2∈ns:=λt ht=>by
 let#[a,b,x,y,h1,h2,h3,h4,h5]:=h.at' t ht;let mx:=cu h3;let my:=cu h4
 have ne:x≠y:=λe=>by
  subst e;have:=Pi nd h3 h4;omega
 rcases h5 with rfl|rfl
 ·exact#[#[ok _ mx,ok _ my,ne],mx,my]
 ·exact#[#[ok _ my,ok _ mx,ne.symm],my,mx]
theorem j5_(ns:ae)(k:Nat):hJ (ns.map V.str) none (some (k:Int))=(ns.take k).map V.str:=by
 unfold hJ;rw[HT.wK,HT.Am,List.drop_zero,Nat.sub_zero,List.map_take,ak];by_cases h:k<=ns.length
 ·rw[Nat.min_eq_left h]
 ·rw[Nat.min_eq_right Z1,GM (by rw[ak];omega),GM (by rw[ak];omega)]
theorem VO(a:Str):gE a a=false:=hI_ (Sum.inr a)
theorem f2_(h:gE a b=true):gE b a=false:=eX_ (a:=Sum.inr a) (b:=Sum.inr b) h
theorem hZ_(h:gE a b=false)(h2:gE b a=false):a=b:=hU (gV_ (a:=Sum.inr a) (b:=Sum.inr b) h h2)
theorem NF(a b:Str):bw (cX a) (cX b)=gE a b:=by
 show (if (Sum.inr a:Key)=Sum.inr b then false else gE a b)=gE a b;by_cases h:a=b
 ·subst h;rw[aA Z,VO]
 ·rw[ao λe=>h (hU e)]
def gh(ns:ae):Prop:=ns.Pairwise λa b=>gE b a=false
theorem gh.keys(h:gh ns):zK (ns.map cX):=by
 unfold zK;rw[zE];exact h.imp λq=>by rw[NF];exact q
theorem dh_{a b:ae}(p:a.Perm b)(h1:gh a)(h2:gh b):a=b:=fP_ (YF (p.map cX) h1.keys h2.keys)
theorem RS(ss:ae):gh (aV ss):=by
 let h:=Ss (ss.map cX);rw[<- Yl] at h;unfold zK at h;rw[zE] at h;exact h.imp λq=>by rw[NF] at q;exact q
theorem _L(hs:Xa):gh (aI hs):=by
 unfold aI gh;rw[zE];apply (Ss (hs.map kH)).imp_of_mem λ{a b} ha hb q=>?_;let#[x,_,rfl]:=Sr hs a ha;let#[y,_,rfl]:=Sr hs b hb;show gE y.1 x.1=false;by_cases h:y.1=x.1
 ·rw[h,VO]
 ·have q:(if (Sum.inr y.1:Key)=Sum.inr x.1 then bw [Sum.inl y.2] [Sum.inl x.2] else gE y.1 x.1)=false:=q;rwa [ao λe=>h (hU e)] at q
theorem gs_(hs:Xa):aI hs=aV (hs.map (·.1)):=dh_ ((gf hs).trans (gO _).symm) (_L hs) (RS _)
theorem RW(a b:Str):aL a b=aL b a:=by
 unfold aL;by_cases h:gE a b=true
 ·rw[aA h,ao (by rw[f2_ h];decide)]
 ·by_cases h2:gE b a=true
  ·rw[ao h,aA h2]
  ·have:=hZ_ (by simpa using h) (by simpa using h2);subst this;rw[ao h]
theorem Sj{x:Str × Str}:x∈aD ts ↔ ∃t∈ts,aL t.1 t.2=x:=by
 have e:kT x∈(aD ts).map kT ↔ x∈aD ts:=#[λh=>by
  let#[y,hy,e]:=bh.mp h;rw[<- OZ e];exact hy,λh=>bh.mpr #[x,h,Z]]
 rw[<- e,P7,(yb _).mem_iff,bh];exact#[λ⟨t,ht,q⟩=>#[t,ht,OZ q],λ⟨t,ht,q⟩=>#[t,ht,by rw[q]]]
theorem V1(a b:Str):kO (a,b)=kO (b,a):=by
 show kT (aL a b)=kT (aL b a);rw[RW]
end Ev
namespace L2
open PySem PySem.Spec PyProof.Rows
inductive MZ (x:V) (lo:Option Int) (hi:Option Int) (H:Hp) (Q:VK):Prop
 |mk:∀z,x=.str z->z.length<=sizeLine->Q (.str (Txt.slice z lo hi)) H->MZ x lo hi H Q
variable{X:Cx}
theorem VJ:Y0 X MZ:=by
 intro pins s σ H x v vl vu lo hi sl Q I rx hs pl pu h;let#[z,rfl,hz,q]:=h;let#[t,rfl]:=rx;apply⟨"str",_,PySem.F.slot_str_getitem.lookup,typeIs_str _ _ _,?_⟩
 have fin:∀lo hi,Q (.str (Txt.slice z lo hi)) H->(Txt.slice z lo hi).length<=sizeLine/\∀t' k,EP X pins σ Q (.str (Txt.slice z lo hi) t') { s with toks:=k }:=λlo hi q=>
  #[AR (Txt.slice_le z _ _) hz,λt' k=>#[.str _,H,I.kept (h':=s.heap) (t':=k) λ_ _ e=>e,#[t',Z],q]]
 cases pl with
 |none=>
  cases pu with
  |none=>exact wpAny_getItem_str_slice (l:=none) (u:=none) (st:=none) hs Z (post_val_or_str (fin _ _ q))
  |int j u=>exact wpAny_getItem_str_slice (l:=none) (u:=some (j,u)) (st:=none) hs Z (post_val_or_str (fin _ _ q))
 |int i u=>
  cases pu with
  |none=>exact wpAny_getItem_str_slice (l:=some (i,u)) (u:=none) (st:=none) hs Z (post_val_or_str (fin _ _ q))
  |int j u'=>exact wpAny_getItem_str_slice (l:=some (i,u)) (u:=some (j,u')) (st:=none) hs Z (post_val_or_str (fin _ _ q))
theorem m1_{x:Str}{j:Nat}(h:j<=x.length):(Txt.slice x none (some (j:Int))).cps.toList=x.cps.toList.take j:=by
 have:=eq_of_beq (slice_closes_toL (x:=x) (j:=(j:Int)) Z1 Z1);rw[this];simp
theorem j2_{x:Str}{i:Nat}(h:i<=x.length):(Txt.slice x (some (i:Int)) none).cps.toList=x.cps.toList.drop i:=by
 rw[slice_from_eq (x:=x) (i:=(i:Int)) (b:=(x.length:Int)) Z1 Z1 Z]
 have:((x.length:Int) - (i:Int)).toNat=x.cps.toList.length - i:=by
  have:x.length=x.cps.toList.length:=by rw[B7];rfl
  omega
 rw[this];simp;rw[GM];simp
open PySem.Builtin PySem.Builtin.Str
theorem g2_:∀{ss:ae} {us:ax},Vals (ss.map V.str) us->StrsAre us ss
 |[],_,.nil=>.nil
 |x::ss,_,.cons r rs=>by
  let#[t,rfl]:=r;exact .cons x t (g2_ rs)
theorem et_:∀(l:List (Str × Tok)),Vals ((l.map (·.1)).map V.str) (strValues l)
 |[]=>.nil
 |(x,t)::l=>.cons #[t,Z] (et_ l)
inductive rJoin (K:af) (x:V) (vs:ag) (H:Hp) (Q:VK):Prop
 |mk:∀(sep:Str) (p:Addr) (ss:ae),x=.str sep->vs=[.ref p]->d9 K H p (ss.map V.str)->(ss.map (·.length)).sum+ss.length * sep.length<=16777216->Q (.str (Txt.join sep ss)) H->rJoin K x vs H Q
theorem kt_:Me X "str.join" (rJoin X.K):=by
 intro pins s σ H x vs v us Q I rx rv h;let#[sep,p,ss,rfl,rfl,hp,hz,q]:=h;let#[t,rfl]:=rx;let#[u,rfl,ru]:=rv.one;cases (show u=Value.ref p from ru);let#[its,r,ht,_]:=I.list hp;exact join_list ht.isList (g2_ r) hz λt' k=>#[.str _,H,I.tok k,#[t',Z],q]
open PySem.W
inductive Hi (x:V) (y:V) (H:Hp) (Q:VK):Prop
 |mk:∀z n,x=.str z->y=.int n->PySem.MulOk z n->Q (.str (Txt.mul z n)) H->Hi x y H Q
theorem ku_:eG X (binaryOp .Mult) Hi:=by
 intro pins s σ H x y v u Q I rx ry h;let#[z,n,rfl,rfl,ok,q]:=h;let#[t,rfl]:=rx;let#[t2,rfl]:=ry;exact SB.mul ok λt' k=>#[.str _,H,I.tok _,#[_,Z],q]
end L2
namespace Ev
open PySem L2
theorem DU{α:Type}{p:α->Prop}{xs:List α}{r:Int}{n:Nat}(hn:xs.length=n)(h0:0<=r)(h1:r<(n:Int))(h:∀v∈xs,p v):∃v,gY xs r=some v/\p v:=by
 have hl:r.toNat<xs.length:=by omega
 apply#[xs[r.toNat],?_,h _ (jg hl)];rw[iL h0 Z1,dq hl]
theorem Jl:bD AS AS (bb Dk):=bJ
def CA(K:af):Sp:=λvs H Q _=>∃(l:Addr) (ns:List Int) (k:Int),vs=[.ref l,.int k]/\0<=k/\d9 K H l (ns.map V.int)/\∀n,Q (.int n) H
variable{f:Addr}{fd:Ae}{P:Ad}{w:Af}{K:af}{mg:Str->Option Aa}{base:Heap}
theorem ky_(F:bp K "_law_cell_at" "_law_cell_at" Dk f fd)(B:Bi mg):!aj ba 1 f fd AS (CA K):=by
 apply F.bI Jl λaR A outer s H vs Q E hr h=>?_
 ·let#[l,ns,i,rfl,h0,hl,k]:=h;apply#[_,aq (bN (cz UE (pv 1) (cy xo (by rfl) B.len i4 %[0|0])) (aH (bj (bO gg (pv 0) (pv 1)))) bP) (aH (bj aK)),?_];apply#[_,Z,_,Z,l,_,Z,.inl hl,_,_,Z,Z,_,Z,?_];apply aM (λc=>?_) (λc=>?_)
  ·have c:i<(ns.map V.int).length:=by simpa using c
   have e:gY (ns.map V.int) i=some (.int (ns[i.toNat]'(by rw[ak] at c;omega))):=by
    rw[iL h0 c,dQ,dq (by rw[ak] at c;omega)];rfl
   exact#[_,Z,_,Z,l,_,_,_,Z,Z,hl,e,k _]
  ·exact k 0
theorem WD:bD ["_law_number"] ["_law_number"] (bb yN):=bJ
def zV:Sp:=λvs H Q _=>∃n:Int,vs=[.int n]/\∀r:Int,Q (.int r) H
theorem small(x:Int):-(2 ^ 64)<x % 2147483647/\x % 2147483647<2 ^ 64:=by
 let a:=GJ x (show (2147483647:Int)≠0 by decide);let b:=ID x (show (0:Int)<2147483647 by decide);omega
theorem CC(x:Int):-(2 ^ 64)<x % 2147483647+1/\x % 2147483647+1<2 ^ 64:=by
 let a:=GJ x (show (2147483647:Int)≠0 by decide);let b:=ID x (show (0:Int)<2147483647 by decide);omega
theorem iT_(F:bp K "_law_mixed" "_law_mixed" yN f fd):!aj ba 1 f fd ["_law_number"] zV:=by
 apply F.bI WD λaR A outer s H vs Q E hr h=>?_
 ·let#[n,rfl,k]:=h;refine' #[_,aq ?s1 (aq ?s2 ?s3),?kk]
  case s1=>exact aX 0 WD.nd (bF El (bF pY (bF iQ (bF El (pv 0) aK) aK) aK) aK)
  case s2=>exact aX 0 WD.nd (bF El (bF pY (pv 0) (bF iQ (bF E8 (pv 0) aK) aK)) aK)
  case s3=>exact aH (bj (bF El (bF pY (bF iQ (pv 0) aK) (bF iQ (bF E8 (pv 0) aK) aK)) aK))
  apply#[_,Z,_,_,Z,Z,by show (0:Int)<2147483647;decide,_,_,Z,Z,_,_,Z,Z,.inl (CC n),_,_,Z,Z,by show (0:Int)<2147483647;decide,?_];apply#[_,Z,_,Z,_,_,Z,Z,#[by decide,by decide],_,_,Z,Z,_,_,Z,Z,.inl (small _),_,_,Z,Z,by show (0:Int)<2147483647;decide,?_];exact#[_,Z,_,_,Z,Z,_,Z,_,_,Z,Z,#[by decide,by decide],_,_,Z,Z,_,_,Z,Z,.inl (CC _),_,_,Z,Z,by show (0:Int)<2147483629;decide,k _]
theorem FN:bD ["_law_cell","_law_k"] ["_law_cell","_law_k"] (bb yI):=bJ
def zU:Sp:=λvs H Q _=>∃(c:Int) (i:Nat),vs=[.int c,.int i]/\i<100/\∀l H',aa H H'->H l=none->eK H' l->Q (.ref l) H'
theorem iO_(F:bp K "_law_state" "_law_state" yI f fd):!aj ba 1 f fd ["_law_cell","_law_k"] zU:=by
 apply F.bI FN λaR A outer s H vs Q E hr h=>?_
 ·let#[c,i,rfl,hi,k]:=h;apply#[_,aH (bj (cK %[bF E8 (pv 0) aK,bF El (pv 0) aK,bF iQ (pv 0) (bF pY aK (pv 1))|0])),?_];apply#[_,Z,_,_,Z,Z,#[by decide,by decide],_,Z,_,_,Z,Z,by show (0:Int)<2;decide,_,Z,_,Z,_,_,Z,Z,.inl #[by decide,by decide],_,_,Z,Z,zl,λl hl=>?_];exact k l _ (aa.new hl) hl #[_,_,_,az]
theorem Al:bD [xj,"_law_base",BX] HW (bb yS):=bJ
def KG:Sp:=λvs H Q _=>∃(l:Addr) (b:Int),vs=[.ref l,.int b]/\0<b/\b<1073741824/\eK H l/\∀r H',0<=r->r<b->bc l H H'->eK H' l->Q (.int r) H'
theorem jB_(F:bp K Gy Gy yS f fd)(cM:!bt 1 "_law_mixed" ["_law_number"] zV):!aj ba 2 f fd HW KG:=by
 apply F.bI Al λaR A outer s H vs Q E hr h=>?_
 ·let#[l,b,rfl,h0,h1,#[x,y,z,hl],k]:=h;refine' #[_,aq ?s1 (aq ?s2 ?s3),?kk]
  case s1=>exact bN (E7 (cz hV (bO gg (pv 0) aK) aK) (Ir (cz BU (bO gg (pv 0) aK) aK))).pt (aq (aX 2 Al.nd (bF El (bO gg (pv 0) aK) (pv 1))) (aq (O7 (bF E8 (bO gg (pv 0) aK) (pv 1)) (_n (pv 0) aK fA_)) (aH (bj (pv 2))))) bP
  case s2=>exact O7 (bf cM hr %[bF iQ (bO gg (pv 0) aK) aK|0]) (_n (pv 0) aK fA_)
  case s3=>exact aH (bj (bF El (bF E8 (bO gg (pv 0) aK) aK) (pv 1)))
  have other:∀{R:Prop},R->R:=λh=>h;apply#[_,Z,l,_,_,_,Z,Z,.of hl,Z,Z,_,Z,?_];apply aM (λc=>?_) (λc=>?_)
  ·apply#[_,Z,l,_,_,_,Z,Z,.of hl,Z,_,_,Z,Z,_,Z,?_];apply aM (λc2=>?_) (λc2=>?_)
   ·apply#[_,Z,l,_,_,_,Z,Z,.of hl,Z,_,Z,_,_,Z,Z,h0,?_];apply#[_,Z,l,_,_,_,Z,Z,.of hl,Z,_,Z,_,_,Z,Z,#[h0,h1],_,Z,l,_,_,0,Z,Z,hl,Z,?_];exact#[_,Z,k _ _ (GJ _ Z1) (ID _ h0) bc.upd #[_,_,_,az]]
   ·apply#[_,Z,l,_,_,_,Z,Z,.of hl,Z,_,_,Z,Z,_,Z,λr=>#[_,Z,l,_,_,2,Z,Z,hl,Z,?_]];apply#[_,Z,l,_,_,_,Z,Z,.of az,Z,_,_,Z,Z,#[by decide,by decide],_,Z,_,_,Z,Z,h0,?_];exact k _ _ (GJ _ Z1) (ID _ h0) bc.upd #[_,_,_,az]
  ·apply#[_,Z,l,_,_,_,Z,Z,.of hl,Z,_,_,Z,Z,_,Z,λr=>#[_,Z,l,_,_,2,Z,Z,hl,Z,?_]];apply#[_,Z,l,_,_,_,Z,Z,.of az,Z,_,_,Z,Z,#[by decide,by decide],_,Z,_,_,Z,Z,h0,?_];exact k _ _ (GJ _ Z1) (ID _ h0) bc.upd #[_,_,_,az]
variable{σ:St}{H:Hp}
theorem dz{t u:TS}{D:Ends}(R:cn)(later:∀σ H,R σ H->u D σ H)(now:∀N:St->Hp->Prop,(∀σ H,R σ H->N σ H)->t { D with nx:=N } σ H):FE t u D σ H:=now (u D) later
theorem setG{i:Nat}{v:V}{N:cn}(h:N (σ.set i (some v)) H):xT i v σ H N:=h
variable{a l:Addr}{o:HO}
theorem eK.upd(h:eK H l)(n:a≠l):eK (L2.upd H a o) l:=by
 let#[x,y,z,e]:=h;exact#[x,y,z,by rw[au n.symm];exact e]
variable{H':Hp}
theorem bc.snd(h:bc l H H')(e:H a=none):bc l H (L2.upd H' a o):=λb u q n=>by
 rw[au (bx q e)];exact h b u q n
theorem ix_(sep:Str)(ss:ae):(Txt.join sep ss).length<=(ss.map (·.length)).sum+ss.length * sep.length:=by
 show (Builtin.Str.glued sep ss).length<=_;rw[size_glued];have:(ss.length - 1) * sep.length<=ss.length * sep.length:=Nat.mul_le_mul_right _ Z1;omega
variable{ss:ae}{m:Nat}
theorem m7_(h:∀x∈ss,x.length<=m):(ss.map (·.length)).sum<=m * ss.length:=by
 induction ss with
 |nil=>simp
 |cons x ss ih=>
  let a:=h x c8;let b:=ih λy hy=>h y (dF _ hy);rw[el,List.sum_cons,iE,Nat.mul_add,Nat.mul_one];omega
theorem jf_(h:∀x∈ss,∀c∈x.cps.toList,wU c=true):∀c∈(Txt.join "" ss).cps.toList,wU c=true:=by
 rw[show Txt.join "" ss=Str.join "" ss from StrLaws.glued_eq_join "" ss];intro c hc;rcases (PyProof.Rows.mem_join (sep:="") (ts:=ss) c).mp hc with⟨t,ht,m⟩|⟨_,m⟩
 ·exact h t ht c m
 ·rw[show ("":Str)=⟨#[]⟩ by decide +kernel] at m;simp at m
theorem Ff(x:Str):x.length=x.cps.toList.length:=by rw[B7];rfl
theorem OO(a b:Str):(a++b).cps.toList=a.cps.toList++b.cps.toList:=by rw[PySem.Str.cps_append,Array.toList_append]
theorem qd:(LC:Str).length=26/\(LC:Str).cps.toList.length=26:=by decide +kernel
variable{q:Nat}
theorem _M(h:q<26):gY (LC:Str).cps.toList (q:Int)=some (97+q):=by
 rw[iL Z1 (by rw[qd.2];omega),jA_];have:∀q:Fin 26,([97,98,99,100,101,102,103,104,105,106,107,108,109,110,111,112,113,114,115,116,117,118,119,120,121,122]:List Nat)[(q.val:Int).toNat]? = some (97+q.val):=by decide +kernel
 exact this #[q,h]
theorem _H(h:q<26):wU (97+q)=true:=by
 unfold wU;simp;omega
structure Nm (m:Nat) (ns:ae):Prop where
 len:ns.length=m
 nd:ns.Nodup
 ok:∀n∈ns,jc n=true
variable{ns:ae}
theorem ka_{f:Nat}{a b:List Nat}(hm:m<=30)(hl:ns.length=m)(oa:∀c∈a,wU c=true)(ob:∀c∈b,wU c=true)(l7:a.length+b.length<=6)(h:∀k n,ns[k]? = some n->n.cps.toList=a++(97+(f+7 * k) % 26)::(b++List.replicate (k / 26) 122)):Nm m ns:=by
 apply#[hl,?_,?_]
 ·apply Fq.mpr (List.pairwise_iff_getElem.mpr λi j hi hj zg e=>?_);let e1:=h i _ (dq hi);let e2:=h j _ (dq hj);rw[e,e2] at e1;let#[c1,c2]:=zv (List.append_cancel_left e1);let c3:=dU List.length c2;rw[dY,dY,Fn,Fn] at c3;omega
 ·intro n hn;let#[k,hk]:=List.mem_iff_getElem?.mp hn;let e:=h k n hk;unfold jc;rw[Ff,e]
  have hk30:k<30:=by
   have:=(cc.mp hk).1;omega
  simp only[dY,iE,Fn,List.all_append,List.all_cons,Ft,xW,List.all_eq_true];exact#[#[by omega,by omega],oa,_H (Nat.mod_lt _ (by decide)),ob,λc hc=>by rw[(List.mem_replicate.mp hc).2];rfl]
abbrev ZO:ae:=["_law_k","_law_letters",xj]
abbrev ZN:ae:=["_law_k","_law_first","_law_letters"]
abbrev ZM:ae:=["_law_k","_law_place","_law_signs","_law_stem"]
theorem JE(h:q<=1):PySem.MulOk "z" (q:Int)/\(Txt.mul "z" (q:Int)).cps.toList=List.replicate q 122:=by
 have:q=0∨q=1:=by omega
 rcases this with rfl|rfl
 ·exact#[by unfold PySem.MulOk;decide +kernel,by decide +kernel]
 ·exact#[by unfold PySem.MulOk;decide +kernel,by decide +kernel]
theorem LZ:bD [xj,"_law_many","_law_letters","_law_stem","_law_place","_law_first","_law_signs"] AW (bb yM):=bJ
def WU:Sp:=λvs H Q _=>∃(l:Addr) (m:Nat),vs=[.ref l,.int m]/\m<=30/\eK H l/\∀(a:Addr) (ns:ae) (H':Hp),bc l H H'->eK H' l->H a=none->H' a=some (.lst (ns.map V.str))->Nm m ns->Q (.ref a) H'
theorem jw_(F:bp K "_law_named" "_law_named" yM f fd)(B:Bi mg)(cD:!bt 2 Gy HW KG):!aj ba 3 f fd AW WU:=by
 apply F.bI LZ λaR A outer s H vs Q E hr h=>?_
 ·let#[l,m,rfl,m8,st,k]:=h;let sz:=ck;refine' #[_,?r0,?kk]
  case' r0=>refine' aq ?s1 ?r1
  case' r1=>refine' aq ?s2 ?r2
  case' r2=>refine' aq ?s3 ?r3
  case' r3=>refine' aq ?s4 ?r4
  case' r4=>refine' aq ?s5 ?r5
  case' r5=>refine' aH ?s6
  case s1=>exact aX 2 LZ.nd bZ
  case' s2=>refine' aX 3 LZ.nd ?a1
  case' a1=>refine' gI PySem.F.plainAttrs_str PySem.F.slot_str_join PySem.F.type_str_join kt_ ?a2 ?a3
  case a2=>exact bZ
  case' a3=>refine' di ?a4 aE
  case' a4=>refine' iS ZO 1 [2,0] ?d1 ?d2 ?d3 ?d4
  case d1=>exact L3 (by rfl) B.range %[bf cD hr %[0,aK|0]|0]
  case d2=>exact λfp s H=>eZ (i:=0) (show ZO.Nodup by decide +kernel) Z (Or.inl Z)
  case d3=>exact λfp s H=>iH
  case d4=>exact λfp s H=>bO _q (pv 1) (bf cD hr %[2,aK|0])
  case s3=>exact aX 4 LZ.nd (bf cD hr %[0,bF iQ (cy cN_ (by rfl) B.len i4 %[3|0]) aK|0])
  case s4=>exact aX 5 LZ.nd (bf cD hr %[0,aK|0])
  case' s5=>refine' aX 6 LZ.nd ?e0
  case' e0=>refine' iS ZN 1 [5,2] ?e1 ?e2 ?e3 ?e4
  case e1=>exact L3 (by rfl) B.range %[1|0]
  case e2=>exact λfp s H=>eZ (i:=0) (show ZN.Nodup by decide +kernel) Z (Or.inl Z)
  case e3=>exact λfp s H=>iH
  case e4=>exact λfp s H=>bO _q (pv 2) (bF El (bF iQ (pv 1) (bF pY aK (pv 0))) aK)
  case' s6=>refine' bj ?f0
  case' f0=>refine' iS ZM 1 [4,6,3] ?f1 ?f2 ?f3 ?f4
  case f1=>exact L3 (by rfl) B.range %[1|0]
  case f2=>exact λfp s H=>eZ (i:=0) (show ZM.Nodup by decide +kernel) Z (Or.inl Z)
  case f3=>exact λfp s H=>iH
  case' f4=>intro fp s H
  case' f4=>refine' bF Im ?g1 ?g2
  case' g1=>refine' bF Im ?g3 ?g4
  case' g3=>refine' bF Im ?g5 ?g6
  case g5=>exact Ik VJ (pv 3) Iq (Iu (pv 1))
  case g6=>exact bO (JJ (K:=K) Jx gg) (pv 2) (pv 0)
  case g4=>exact Ik VJ (pv 3) (Iu (pv 1)) Iq
  case g2=>exact bF ku_ bZ (bF E8 (pv 0) aK)
  apply#[Z,_,Z,l,7,Z,by decide,by decide,st,λr H1 r0 r7 b1 xG=>#[r,Z,by omega,by omega,λD hD=>?_]];let Dl:=xG.ne hD
  let aQ:dG:=λi out H'=>∃ss:ae,bc l H1 H'/\eK H' l/\out=ss.map V.str/\H' D=some (.lst out)/\ss.length=i/\∀x∈ss,x.length<=1/\∀c∈x.cps.toList,wU c=true
  apply GF (own:=1) (fv:=[some (.str LC),some (.ref l)]) Z dP r.toNat aQ #[[],bc.of (aa.new hD),xG.same (aa.new hD),Z,az,Z,by simp] (λout H2 ⟨ss,b2,fj,eo,i9,le,h1⟩=>#[bo _,?_]) (λi out H2 hi ⟨ss,b2,fj,eo,i9,le,h1⟩=>#[hi,λx H3 ⟨e3,ex⟩=>?_]);rotate_left 1
  ·subst e3;apply#[_,Z,Z,λNx hN=>dM ?_];apply#[_,Z,_,Z,l,26,Z,by decide,by decide,fj,λq H4 q0 Zw b4 vE=>?_];let#[q,rfl]:=Fp q0;have M_:q<26:=by omega
   apply#[_,_,97+q,Z,Z,by rw[qd.1];decide,_M M_,out,b4 _ _ i9 Dl,?_,hN (out++[.str ⟨(List.toArray [97+q])⟩]) _ #[ss++[⟨(List.toArray [97+q])⟩],?_,vE.upd Dl,?_,az,?_,?_]]
   ·rw[eo,ak];omega
   ·exact (b2.trans b4).snd hD
   ·rw[eo,b_];rfl
   ·rw[dY,le];rfl
   ·intro x hx;rcases fM.mp hx with hx|hx
    ·exact h1 x hx
    ·obtain rfl:x=⟨(List.toArray [97+q])⟩:=by simpa using hx
     apply#[bo 1,λc hc=>?_];obtain rfl:c=97+q:=by simpa using hc
     exact _H M_
  subst eo;let sl:=m7_ λx hx=>(h1 x hx).1;have l8:ss.length<=6:=by omega
  let b02:=b1.trans b2;let fD:=b1.free xG hD;apply#["",D,ss,Z,Z,.of i9,by show (ss.map (·.length)).sum+ss.length * 0<=16777216;omega,?_]
  have jl:(Txt.join "" ss).length<=6:=by
   have:=ix_ "" ss;have e0:("":Str).length=0:=by decide +kernel
   rw[e0] at this;omega
  let jo:=jf_ λx hx=>(h1 x hx).2;generalize Txt.join "" ss=jn at jl jo ⊢;clear i9 h1 sl;apply#[_,Z,_,Z,jn,Z,by omega,_,_,Z,Z,l,_,Z,by omega,by omega,fj,λpl H4 p0 p1 b4 vE=>?_];let#[pl,rfl]:=Fp p0;have ZD:pl<=jn.length:=by omega
  apply#[_,Z,l,26,Z,by decide,by decide,vE,λfi H5 f0 f1 b5 gB=>?_];let#[fi,rfl]:=Fp f0;let b05:=b02.trans (b4.trans b5);clear b02 b4 b5 b1 b2;apply#[_,Z,(m:Int),Z,by omega,by omega,λD2 i9=>?_];let D2l:=gB.ne i9;let fD2:=b05.free gB i9
  let bH:dG:=λi out H'=>aa H5 H'/\out=((List.range i).map λk=>V.str ⟨(List.toArray [97+(fi+7 * k) % 26])⟩)/\H' D2=some (.lst out)
  apply GF (own:=1) (fv:=[some (.int fi),some (.str LC)]) Z dP m bH #[aa.new i9,Z,az] (λout H6 ⟨s6,eo,h6⟩=>#[bo _,?_]) (λi out H6 hi ⟨s6,eo,h6⟩=>#[hi,λx H7 ⟨e7,ex⟩=>?_]);rotate_left 1
  ·subst e7;subst ex;have Zw:(fi+7 * i) % 26<26:=Nat.mod_lt _ (by decide);apply#[_,Z,Z,λNx hN=>dM ?_];apply#[_,Z,_,Z,_,Z,_,_,Z,Z,.inl #[by decide,by decide],_,_,Z,Z,_,_,Z,Z,by show (0:Int)<26;decide,?_];have e:((fi:Int)+7 * (0+(i:Int))) % 26=(((fi+7 * i) % 26:Nat):Int):=by omega
   apply#[_,_,97+(fi+7 * i) % 26,Z,Z,by rw[qd.1];decide,?_,out,h6,?_,hN (out++[.str ⟨(List.toArray [97+(fi+7 * i) % 26])⟩]) _ #[fN s6 i9,?_,az]]
   ·rw[e];exact _M Zw
   ·rw[eo,ak,List.length_range];omega
   ·rw[eo,List.range_succ,b_];rfl
  subst eo;have b06:bc l H H6:=b05.trans (bc.of s6);let xF:=gB.same s6;have hl6:jn.length=jn.cps.toList.length:=Ff jn;apply#[_,Z,(m:Int),Z,by omega,by omega,λD3 Lx=>?_];let D3l:=xF.ne Lx;let fD3:=b06.free xF Lx
  let eX:dG:=λi out H'=>∃ns:ae,aa H6 H'/\out=ns.map V.str/\H' D3=some (.lst out)/\ns.length=i/\∀k n,ns[k]? = some n->n.cps.toList=jn.cps.toList.take pl++(97+(fi+7 * k) % 26)::(jn.cps.toList.drop pl++List.replicate (k / 26) 122)
  apply GF (own:=1) (fv:=[some (.int pl),some (.ref D2),some (.str jn)]) Z dP m eX #[[],aa.new Lx,Z,az,Z,by simp] (λout H7 ⟨ns,s7,eo,h7,le,hn⟩=>#[bo _,?_]) (λi out H7 hi ⟨ns,s7,eo,h7,le,hn⟩=>#[hi,λx H8 ⟨e8,ex⟩=>?_])
  ·subst eo;apply k D3 ns H7 (b06.trans (bc.of s7)) (xF.same s7) fD3 h7 (ka_ m8 le (λc hc=>jo c (List.mem_of_mem_take hc)) (λc hc=>jo c (List.mem_of_mem_drop hc)) ?_ hn);rw[cQ,List.length_drop];omega
  ·subst e8;subst ex;apply#[_,Z,Z,λNx hN=>dM ?_];let ct:=m1_ (x:=jn) ZD;let cf:=j2_ (x:=jn) ZD
   have lt:(Txt.slice jn none (some (pl:Int))).length<=6:=by
    rw[Ff,ct,cQ];omega
   have lf:(Txt.slice jn (some (pl:Int)) none).length<=6:=by
    rw[Ff,cf,List.length_drop];omega
   have ha:((List.range m).map λk=>V.str ⟨(List.toArray [97+(fi+7 * k) % 26])⟩)[i]? = some (V.str ⟨(List.toArray [97+(fi+7 * i) % 26])⟩):=by
    rw[dQ,List.getElem?_range hi];rfl
   apply#[_,Z,_,Z,_,Z,jn,Z,by omega,_,Z,_,Z,D2,_,_,V.str ⟨(List.toArray [97+(fi+7 * i) % 26])⟩,Z,Z,.of (s7 _ _ h6),?_,_,_,Z,Z,?_,?_]
   ·rw[iL Z1 (by rw[ak,List.length_range];omega),Int.zero_add];exact ha
   ·show (Txt.slice jn none (some (pl:Int))).length+1<=sizeLine;omega
   have l1:(Txt.slice jn none (some (pl:Int))++(⟨(List.toArray [97+(fi+7 * i) % 26])⟩:Str)).length<=7:=by
    rw[Ff,OO,dY,<- Ff];show _+1<=7;omega
   apply#[_,Z,_,Z,_,Z,jn,Z,by omega,_,_,Z,Z,by omega,?_]
   have l2:(Txt.slice jn none (some (pl:Int))++(⟨(List.toArray [97+(fi+7 * i) % 26])⟩:Str)++Txt.slice jn (some (pl:Int)) none).length<=13:=by
    rw[Ff,OO,dY,<- Ff,<- Ff];omega
   have z0:((0:Int)+(i:Int)) / 26=((i / 26:Nat):Int):=by omega
   have q1:i / 26<=1:=by omega
   have lz:(Txt.mul "z" ((i / 26:Nat):Int)).length<=1:=by
    rw[Ff,(JE q1).2,Fn];exact q1
   apply#[_,Z,_,_,Z,Z,#[by decide,by decide],"z",((i / 26:Nat):Int),Z,by show V.int ((0+(i:Int)) / 26)=_;rw[z0],(JE q1).1,_,_,Z,Z,?_,out,h7,?_,hN _ _ #[ns++[Txt.slice jn none (some (pl:Int))++(⟨(List.toArray [97+(fi+7 * i) % 26])⟩:Str)++Txt.slice jn (some (pl:Int)) none++Txt.mul "z" ((i / 26:Nat):Int)],fN s7 Lx,?_,az,?_,?_]]
   ·omega
   ·rw[eo,ak];omega
   ·rw[eo,b_];rfl
   ·rw[dY,le];rfl
   ·intro k n hk;by_cases z:k<ns.length
    ·rw[K1 z] at hk;exact hn k n hk
    ·rw[IC Z1] at hk
     have hk0:k - ns.length=0:=by
      have:=(cc.mp hk).1;simp at this;omega
     rw[hk0] at hk;have:k=i:=by omega
     subst this;obtain rfl:=(ee hk);rw[OO,OO,OO,ct,cf,(JE q1).2];simp
theorem RO(ys:ag)(k:Nat):hJ ys none (some (k:Int))=ys.take k:=by
 unfold hJ;rw[HT.wK,HT.Am,List.drop_zero,Nat.sub_zero];by_cases h:k<=ys.length
 ·rw[Nat.min_eq_left h]
 ·rw[Nat.min_eq_right Z1,GM (bo _),GM Z1]
structure WI (K:af) (H0 H:Hp) (l ln lh lt:Addr) (ns:ae) (nh k j:Nat):Prop where
 but:bc l H0 H
 st:eK H l
 hn:H ln=some (.lst (ns.map V.str))
 iD:∃(ys:ag) (hs:Xa),H lh=some (.lst ys)/\bg K H ys (hs.map kH)/\hs.map (·.1)=ns.take nh/\∀h∈hs,1<=h.2/\h.2<=1000
 A7:∃(zs:ag) (ts:Xb),H lt=some (.lst zs)/\bg K H zs (ts.map kT)/\TI ns k j ts
 nl:ln≠l
 hl:lh≠l
 tl:lt≠l
 th:lt≠lh
 Nr:ln≠lh
 nt:ln≠lt
 fh:H0 lh=none
 ft:H0 lt=none
variable{H0:Hp}{lh ln lt:Addr}{j k nh:Nat}
theorem WI.mv(W:WI K H0 H l ln lh lt ns nh k j)(b:bc l H H')(s:eK H' l):WI K H0 H' l ln lh lt ns nh k j:=by
 let#[xs,hx]:=W.st.some;let#[ys,hs,h1,h2,h3,h4]:=W.iD;let#[zs,ts,t1,t2,t3]:=W.A7;exact#[W.but.trans b,s,b _ _ W.hn W.nl,#[ys,hs,b _ _ h1 W.hl,Fg h2 b hx,h3,h4],#[zs,ts,b _ _ t1 W.tl,Fg t2 b hx,t3],W.nl,W.hl,W.tl,W.th,W.Nr,W.nt,W.fh,W.ft]
theorem WI.same(W:WI K H0 H l ln lh lt ns nh k j)(s:aa H H'):WI K H0 H' l ln lh lt ns nh k j:=W.mv (bc.of s) (W.st.same s)
variable{n:Str}
theorem WI.hand(W:WI K H0 H l ln lh lt ns nh k j){t:Addr}{x:Int}{ys:ag}(hx:1<=x/\x<=1000)(hn:ns[nh]? = some n)(hy:H lh=some (.lst ys))(ht:H t=some (.tup [.str n,.int x])):WI K H0 (upd H lh (.lst (ys++[.ref t]))) l ln lh lt ns (nh+1) k j:=by
 let#[SO,hs,h1,h2,h3,h4]:=W.iD;rw[hy] at h1;cases h1;let#[zs,ts,t1,t2,t3]:=W.A7;have tt:H t=some (.tup ((kH (n,x)).map kV)):=ht;apply#[W.but.snd W.fh,W.st.upd W.hl,by rw[au W.Nr];exact W.hn,#[_,hs++[(n,x)],az,?_,?_,λh hh=>?_],#[zs,ts,by rw[au W.th];exact t1,iT t2 hy,t3],W.nl,W.hl,W.tl,W.th,W.Nr,W.nt,W.fh,W.ft]
 ·rw[b_];exact iT (Es h2 tt) hy
 ·rw[b_,h3,iF,hn];rfl
 ·rcases fM.mp hh with hh|hh
  ·exact h4 h hh
  ·obtain rfl:h=(n,x):=by simpa using hh
   exact hx
theorem ia_{α:Type}(l:List α)(x:α):LI l l.length x=l++[x]:=by
 unfold LI;rw[dJ,List.drop_length]
theorem B3:bD [xj,"_law_names","_law_plain","_law_dense","_law_hands","_law_ties","_law_k","_law_name","_law_some",xR,"_law_pair"] [xj] (bb C8):=bJ
def Cw(K:af):Sp:=λvs H Q _=>∃(l:Addr),vs=[.ref l]/\eK H l/\∀(t lh lt:Addr) (ys zs:ag) (hs:Xa) (ts:Xb) (H':Hp),bc l H H'->eK H' l->H' t=some (.tup [.ref lh,.ref lt])->H lh=none->H lt=none->lh≠lt->lh≠l->lt≠l->
 H' lh=some (.lst ys)->bg K H' ys (hs.map kH)->H' lt=some (.lst zs)->bg K H' zs (ts.map kT)->Good hs ts->Q (.ref t) H'
theorem aB(n:H a=none):aa H (upd H a o)/\upd H a o a=some o:=#[aa.new n,az]
theorem kH_(F:bp K "_law_web" "_law_web" C8 f fd)(B:Bi mg)(cD:!bt 2 Gy HW KG)(cN:!bt 3 "_law_named" AW WU):!aj ba 4 f fd [xj] (Cw K):=by
 apply F.bI B3 λaR A outer s H vs Q E hr h=>?_
 ·let#[l,rfl,st,k]:=h;let sz:=ck;refine' #[_,?r0,?kk]
  case' r0=>refine' aq ?s1 ?r1
  case' r1=>refine' aq ?s2 ?r2
  case' r2=>refine' aq ?s3 ?r3
  case' r3=>refine' aq ?s4 ?r4
  case' r4=>refine' aq ?s5 ?r5
  case' r5=>refine' aq ?s6 ?r6
  case' r6=>refine' aH ?s7
  case s1=>exact aX 1 B3.nd (bf cN hr %[0,bF iQ aK (bf cD hr %[0,aK|0])|0])
  case s2=>exact aX 2 B3.nd (bf cD hr %[0,aK|0])
  case s3=>exact aX 3 B3.nd (bF iQ aK (bf cD hr %[0,aK|0]))
  case s4=>exact aX 4 B3.nd (cK aE)
  case s5=>exact aX 5 B3.nd (cK aE)
  case' s6=>refine' eF dX Z (h8_ (by rfl) B.enum %[1|0]) (xk Z (dZ (cj 6 B3.nd) (dZ (cj 7 B3.nd) jf))) ?b0
  case' b0=>refine' aq ?b1 ?c1
  case' c1=>refine' aq ?b2 ?c2
  case' c2=>refine' aH ?b3
  case' b1=>refine' aX 8 B3.nd (cK ?l0)
  case' l0=>refine' di aK ?l1
  case' l1=>refine' di (bF iQ aK (bf cD hr %[0,aK|0])) ?l2
  case' l2=>refine' di (bF iQ aK (bf cD hr %[0,aK|0])) ?l3
  case l3=>exact di aK aE
  case' b2=>refine' h_ (gI h9 xY xZ xp (pv 4) %[fe %[7,?d1|0]|0])
  case d1=>exact bO gg (pv 8) (bF pY (bf cD hr %[0,aK|0]) (qe RY (by rfl) B.int O2 %[iR BU (pv 2) aK|0]))
  case' b3=>refine' eF dX Z (dE (Ik Pt (pv 1) Iq (Iu (pv 6)))) (cj 9 B3.nd) ?e0
  case' e0=>refine' aq ?e1 ?e2
  case e1=>exact aX 10 B3.nd (bO gg (cK %[fe %[7,9|0],fe %[9,7|0]|0]) (bf cD hr %[0,aK|0]))
  case' e2=>refine' aH (aX 5 B3.nd (bF Kz (pv 5) (bF _E (cK %[10|0]) ?g1)))
  case g1=>exact qe RY (by rfl) B.int O2 %[iR UE (bf cD hr %[0,aK|0]) (pv 3)|0]
  case s7=>exact bj (fe %[4,5|0])
  apply#[_,Z,_,Z,l,8,Z,by decide,by decide,st,λr H1 r0 r8 b1 xG=>#[_,_,Z,Z,?_]];let#[r,rfl]:=Fp r0;apply#[l,1+r,by show [V.ref l,V.int (1+(r:Int))]=[V.ref l,V.int ((1+r:Nat):Int)];rw[Int.natCast_add];rfl,by omega,xG,λln ns H2 b2 fj fn JV N=>?_];have n8:ns.length<=8:=by rw[N.len];omega
  have n1:1<=ns.length:=by rw[N.len];omega
  have NA:ln≠l:=xG.ne fn;apply#[_,Z,l,3,Z,by decide,by decide,fj,λFX H3 p0 p1 b3 wF=>?_];apply#[_,Z,l,3,Z,by decide,by decide,wF,λdn H4 d0 d1 b4 vE=>#[_,_,Z,Z,?_]];let QV:=b4 _ _ (b3 _ _ JV NA) NA;have B4:bc l H H4:=b1.trans (b2.trans (b3.trans b4));apply#[zl,λlh g_=>?_];let#[s5,JY]:=aB (o:=.lst []) g_;let NC:=vE.ne g_;have fh:H lh=none:=B4.free vE g_;have Lh:ln≠lh:=bx QV g_;generalize upd H4 lh (.lst [])=H5 at s5 JY ⊢;apply#[zl,λlt dc=>?_];let s6:=aa.new (o:=.lst []) dc;let gB:=vE.same s5;let F7:=gB.ne dc;let B5:=B4.trans (bc.of s5);have ft:H lt=none:=B5.free gB dc;have W0:WI K H (upd H5 lt (.lst [])) l ln lh lt ns 0 0 0:=#[B5.trans (bc.of s6),gB.same s6,s6 _ _ (s5 _ _ QV),#[[],[],s6 _ _ JY,.nil,Z,by simp],#[[],[],az,.nil,#[by simp,.nil,gx _]],NA,NC,F7,(bx JY dc).symm,Lh,bx (s5 _ _ QV) dc,fh,ft];clear B4 B5 b1 b2 b3 b4 xG fj wF vE gB s5 s6 fn JV QV;generalize upd H5 lt (.lst [])=H6 at W0 ⊢;apply setG ?_;dsimp only
  let aQ:cn:=λσ H'=>∃(lt:Addr) (v6 v7 v8 v9 v10:aJ),σ=[some (.ref l),some (.ref ln),some (.int FX),some (.int (1+dn)),some (.ref lh),some (.ref lt),v6,v7,v8,v9,v10]/\WI K H H' l ln lh lt ns ns.length ns.length 0
  apply dz aQ ?last ?loop
  case last=>
   rintro σ H7 ⟨lt,v6,v7,v8,v9,v10,rfl,W⟩;let#[ys,hs,h1,h2,h3,h4]:=W.iD;let#[zs,ts,t1,t2,t3]:=W.A7;rw[dJ] at h3;apply#[_,Z,_,Z,zl,λt ht=>?_];let s8:=aa.new (o:=.tup [.ref lh,.ref lt]) ht;apply k t lh lt ys zs hs ts _ (W.but.trans (bc.of s8)) (W.st.same s8) az W.fh W.ft W.th.symm W.hl W.tl (s8 _ _ h1) (h2.same s8) (s8 _ _ t1) (t2.same s8) ?_;let tg:=t3.good N.nd N.ok
   have hlen:hs.length=ns.length:=by
    have:=dU List.length h3;rwa [ak] at this
   apply#[λh hh=>#[N.ok _ ?_,h4 h hh],by rw[h3];exact N.nd,by omega,by omega,λt ht=>(tg t ht).1,t3.nd,by have:=t3.len;omega,λt ht=>by rw[h3];exact (tg t ht).2];rw[<- h3];exact bh.mpr #[h,hh,Z]
  case loop=>
   intro N0 hN
   let bH:bL:=λi σ H'=>∃(lt:Addr) (v6 v7 v8 v9 v10:aJ),σ=[some (.ref l),some (.ref ln),some (.int FX),some (.int (1+dn)),some (.ref lh),some (.ref lt),v6,v7,v8,v9,v10]/\WI K H H' l ln lh lt ns i i 0
   apply#[_,Z,ln,Z,#[_,.of W0.hn],fW_ (K:=K) (a:=ln) (xs:=ns.map V.str) bH
    #[lt,none,none,none,none,none,Z,W0] (λi σ H' _ ⟨_,_,_,_,_,_,_,W⟩=>.of W.hn) ?_ ?_]
   rotate_left 1
   ·rintro σ H' ⟨lt,v6,v7,v8,v9,v10,rfl,W⟩;rw[ak] at W;exact hN _ _ #[lt,v6,v7,v8,v9,v10,Z,W]
   rintro i x σ H7 hx ⟨lt,v6,v7,v8,v9,v10,rfl,W⟩ u hu;let#[one,JR,rfl]:=iG hx;have hi:i<ns.length:=(cc.mp JR).1;have s7:aa H7 (upd H7 u (.tup [.int i,.str one])):=aa.new hu;have _W:upd H7 u (.tup [.int i,.str one]) u=some (.tup [.int i,.str one]):=az;apply#[u,_,Z,.of _W,Z,_,_,Z,_,_,Z,Z,?_];let W8:=W.same s7;clear W _W;generalize upd H7 u (.tup [.int i,.str one])=H8 at W8 ⊢;clear s7 hu;dsimp only
   let eX:cn:=λσ H'=>∃(lt ls:Addr) (v9 v10:aJ) (a b:Int),σ=[some (.ref l),some (.ref ln),some (.int FX),some (.int (1+dn)),some (.ref lh),some (.ref lt),some (.int i),some (.str one),some (.ref ls),v9,v10]/\WI K H H' l ln lh lt ns i i 0/\H' ls=some (.lst [.int 1,.int a,.int b,.int 1000])/\ls≠l/\1<=a/\a<=1000/\1<=b/\b<=1000
   apply dz eX ?m2 ?m1
   case m1=>
    intro N2 hN2;apply#[_,Z,l,4,Z,by decide,by decide,W8.st,λr1 H9 q0 q1 b9 G_=>#[_,_,Z,Z,?_]];let W9:=W8.mv b9 G_;apply#[_,Z,l,1000,Z,by decide,by decide,W9.st,λr2 IJ q2 q3 zB A8=>#[_,_,Z,Z,?_]];let IG:=W9.mv zB A8;apply#[zl,λls Gb=>?_];exact hN2 _ _ #[lt,ls,_,_,1+r1,1+r2,Z,IG.same (aa.new Gb),az,IG.st.ne Gb,by omega,by omega,by omega,by omega]
   rintro σ H9 ⟨lt,ls,v9,v10,a,b,rfl,W9,Gb,lsl,a1,a2,b1,b2⟩
   let qf:cn:=λσ H'=>∃(lt ls:Addr) (v9 v10:aJ),σ=[some (.ref l),some (.ref ln),some (.int FX),some (.int (1+dn)),some (.ref lh),some (.ref lt),some (.int i),some (.str one),some (.ref ls),v9,v10]/\WI K H H' l ln lh lt ns (i+1) i 0
   apply dz qf ?m4 ?m3
   case m3=>
    intro N3 hN3;let#[ys,hs,h1,h2,h3,h4]:=W9.iD;apply#[_,Z,.inl #[Z,_,.of h1],_,Z,_,Z,_,Z,l,4,Z,by decide,by decide,W9.st,λr1 IJ q0 q1 zB A8=>?_];let IG:=W9.mv zB A8
    obtain⟨ix,e0,e4,eix⟩:∃ix:Int,0<=ix/\ix<4/\r1 * (if decide (0<FX)=true then 1 else 0)=ix:=by
     apply#[_,?_,?_,Z]
     ·by_cases c:decide (0<FX)=true
      ·rw[aA c];omega
      ·rw[ao c];omega
     ·by_cases c:decide (0<FX)=true
      ·rw[aA c];omega
      ·rw[ao c];omega
    let#[v,hv,x,rfl,x1,x2]:=DU (p:=λv:V=>∃x:Int,v=V.int x/\1<=x/\x<=1000) (xs:=[V.int 1,.int a,.int b,.int 1000]) (n:=4) Z e0 e4 (λv hv=>by
     simp only[bW,Fs,or_false] at hv;rcases hv with rfl|rfl|rfl|rfl
     ·exact#[_,Z,by decide,by decide]
     ·exact#[_,Z,a1,a2]
     ·exact#[_,Z,b1,b2]
     ·exact#[_,Z,by decide,by decide])
    let Om:=zB _ _ Gb lsl;apply#[_,Z,_,_,Z,Z,.inr #[_,Z,_,_,Z,Z,.inl #[by omega,by omega],ls,_,_,_,Z,dU V.int eix,.of Om,hv,zl,λt ht=>?_]];let SI:=IG.same (aa.new (o:=.tup [.str one,.int x]) ht);let h10:=zB _ _ h1 W9.hl;apply#[lh,_,_,Z,Z,aa.new (o:=.tup [.str one,.int x]) ht _ _ h10,?_,hN3 _ _ #[lt,ls,v9,v10,Z,SI.hand #[x1,x2] JR (aa.new (o:=.tup [.str one,.int x]) ht _ _ h10) az]];have:=dU List.length h3;have:=bG h2;rw[ak] at this;rw[ak,cQ] at *;omega
   rintro σ IJ ⟨lt,ls,v9,v10,rfl,IG⟩;apply#[_,Z,_,Z,_,Z,ln,_,Z,.of IG.hn,λp hp=>?_];rw[j5_];let SI:=IG.same (aa.new (o:=.lst ((ns.take i).map V.str)) hp);have JQ:upd IJ p (.lst ((ns.take i).map V.str)) p=some (.lst ((ns.take i).map V.str)):=az;let lp:=IG.st.ne hp;generalize upd IJ p (.lst ((ns.take i).map V.str))=H11 at SI JQ ⊢
   let EC:bL:=λj σ H'=>∃(lt ls:Addr) (v9 v10:aJ),σ=[some (.ref l),some (.ref ln),some (.int FX),some (.int (1+dn)),some (.ref lh),some (.ref lt),some (.int i),some (.str one),some (.ref ls),v9,v10]/\H' p=some (.lst ((ns.take i).map V.str))/\WI K H H' l ln lh lt ns (i+1) i j
   apply#[p,Z,#[_,.of JQ],fW (K:=K) (a:=p) (xs:=(ns.take i).map V.str) EC
    #[lt,ls,v9,v10,Z,JQ,SI] (λj σ H' _ ⟨_,_,_,_,_,q,_⟩=>.of q) ?_ ?_]
   rotate_left 1
   ·rintro σ H' ⟨lt,ls,v9,v10,rfl,_,W⟩;apply#[lt,_,_,_,_,_,Z,?_];let#[zs,ts,t1,t2,t3]:=W.A7;rw[ak,cQ,Nat.min_eq_left Z1] at t3;exact#[W.but,W.st,W.hn,W.iD,#[zs,ts,t1,t2,t3.next Z1],W.nl,W.hl,W.tl,W.th,W.Nr,W.nt,W.fh,W.ft]
   rintro j y σ Y4 hy ⟨lt,ls,v9,v10,rfl,U4,W12⟩;let#[o,ho,rfl]:=iG hy
   have hj:j<i:=by
    have:=(cc.mp ho).1;rw[cQ] at this;omega
   rw[List.getElem?_take,aA hj] at ho;apply setG ?_;dsimp only
   let K6:cn:=λσ H'=>∃(lt ls t:Addr) (v9:aJ) (tt:Str × Str),σ=[some (.ref l),some (.ref ln),some (.int FX),some (.int (1+dn)),some (.ref lh),some (.ref lt),some (.int i),some (.str one),some (.ref ls),v9,some (.ref t)]/\H' p=some (.lst ((ns.take i).map V.str))/\WI K H H' l ln lh lt ns (i+1) i j/\H' t=some (.tup ((kT tt).map kV))/\(tt=(one,o)∨tt=(o,one))
   apply dz K6 ?m6 ?m5
   case m5=>
    intro N5 hN5;apply#[_,Z,_,Z,zl,λt1 Hx=>?_];let Hg:=aa.new (o:=.tup [.str one,.str o]) Hx;apply#[_,Z,_,Z,zl,λt2 UY=>?_];let fY:=aa.new (o:=.tup [.str o,.str one]) UY;apply#[zl,λlx BK=>?_];let Bd:=aa.new (o:=.lst [.ref t1,.ref t2]) BK;let K3:=W12.same ((Hg.trans fY).trans Bd);let Ga:=Bd _ _ (fY _ _ (Hg _ _ U4));apply#[_,Z,l,2,Z,by decide,by decide,K3.st,λr5 H14 q4 q5 Fh Tn=>?_];have Uo:lx≠l:=(W12.same (Hg.trans fY)).st.ne BK;let AE:=Fh _ _ (show upd (upd (upd Y4 t1 (.tup [.str one,.str o])) t2 (.tup [.str o,.str one])) lx (.lst [.ref t1,.ref t2]) lx=_ from az) Uo;let#[xs13,Ov]:=K3.st.some;let N8:=Bd _ _ (fY _ _ (show upd Y4 t1 (.tup [.str one,.str o]) t1=_ from az));let N4:=Bd _ _ (show upd (upd Y4 t1 (.tup [.str one,.str o])) t2 (.tup [.str o,.str one]) t2=_ from az);let N7:=Fh _ _ N8 (cU N8 Ov nofun);let NZ:=Fh _ _ N4 (cU N4 Ov nofun)
    have pick:∃(t:Addr) (tt:Str × Str),gY [V.ref t1,V.ref t2] r5=some (.ref t)/\H14 t=some (.tup ((kT tt).map kV))/\(tt=(one,o)∨tt=(o,one)):=by
     rcases Gf (a:=V.ref t1) (b:=V.ref t2) q4 q5 with e|e
     ·exact#[t1,(one,o),e,N7,.inl Z]
     ·exact#[t2,(o,one),e,NZ,.inr Z]
    let#[t,tt,et,UW,EN]:=pick;exact#[lx,_,_,_,Z,Z,.of AE,et,hN5 _ _ #[lt,ls,t,_,tt,Z,Fh _ _ Ga lp,K3.mv Fh Tn,UW,EN]]
   rintro σ H13 ⟨lt,ls,t,v9,tt,rfl,Ga,K3,UW,EN⟩;let#[zs,ts,t1,t2,t3]:=K3.A7;apply#[_,Z,_,Z,zl,λlx BK=>?_];let Qz:=aa.new (o:=.lst [.ref t]) BK;let SH:=K3.same Qz;have AE:upd H13 lx (.lst [.ref t]) lx=some (.lst [.ref t]):=az;let Uo:=K3.st.ne BK;have lxh:lx≠p:=(bx Ga BK).symm;let Od:=Qz _ _ Ga;let DO:=Qz _ _ UW;generalize upd H13 lx (.lst [.ref t])=H14 at Qz SH AE Od DO ⊢;apply#[_,Z,l,3,Z,by decide,by decide,SH.st,λr6 H15 q6 q7 GK Tj=>#[_,Z,_,_,Z,Z,.inr #[_,Z,?_]]];let W15:=SH.mv GK Tj;let Oj:=GK _ _ AE Uo;let U3:=GK _ _ Od lp;let#[xs14,Vd]:=SH.st.some;let NX:=GK _ _ DO (cU DO Vd nofun);let#[GU,Ms,u1,u2,u3]:=W15.A7
   have u7:GU.length<=100:=by
    let a1:=bG u2;let a2:=u3.len;rw[ak] at a1;omega
   have fin:∀(b:Bool) (q:Addr) (SK:Hp),aa H15 SK->∀u,SK u=none->WI K H (upd SK u (.lst (GU++(List.replicate (if b=true then (1:Int) else 0).toNat [V.ref t]).flatten))) l ln lh u ns (i+1) i (j+1):=by
    intro b q SK Jv u hu;let Mb:=W15.same Jv;let IF:=Mb.same (aa.new (o:=.lst (GU++(List.replicate (if b=true then (1:Int) else 0).toNat [V.ref t]).flatten)) hu);apply#[IF.but,IF.st,IF.hn,IF.iD,#[_,if b=true then Ms++[tt] else Ms,az,?_,?_],IF.nl,IF.hl,Mb.st.ne hu,?_,IF.Nr,?_,IF.fh,Mb.but.free Mb.st hu]
    ·let Y9:=(u2.same Jv).same (aa.new (o:=.lst (GU++(List.replicate (if b=true then (1:Int) else 0).toNat [V.ref t]).flatten)) hu);cases b with
     |true=>
      show bg K _ (GU++[V.ref t]) ((Ms++[tt]).map kT);rw[b_];exact Es Y9 (aa.new hu _ _ (Jv _ _ NX))
     |false=>
      show bg K _ (GU++[]) (Ms.map kT);rw[gK];exact Y9
    ·cases b with
     |true=>
      have:=u3.add N.nd hj JR ho EN Ms.length;rw[ia_] at this;exact this
     |false=>exact u3.skip
    ·let#[ys,hs,h1,_]:=Mb.iD;exact (bx h1 hu).symm
    ·exact bx Mb.hn hu
   apply#[lx,_,_,Z,Z,Oj,?_,?_,?_,λq hq=>?_]
   ·by_cases c:decide (r6<1+dn)=true
    ·rw[aA c];decide
    ·rw[ao c];decide
   ·by_cases c:decide (r6<1+dn)=true
    ·rw[aA c];decide
    ·rw[ao c];decide
   ·by_cases c:decide (r6<1+dn)=true
    ·rw[aA c];show 1 * 1<=sizeLine;decide
    ·rw[ao c];show 1 * 0<=sizeLine;decide
   let Jv:=aa.new (o:=.lst (List.replicate (if decide (r6<1+dn)=true then (1:Int) else 0).toNat [V.ref t]).flatten) hq;apply#[lt,q,_,_,Z,Z,Jv _ _ u1,az,?_,λu hu=>#[u,ls,_,_,Z,aa.new hu _ _ (Jv _ _ U3),fin _ q _ Jv u hu]];by_cases c:decide (r6<1+dn)=true
   ·rw[aA c];show GU.length+1<=sizeLine;omega
   ·rw[ao c];show GU.length+0<=sizeLine;omega
theorem W7{α:Type}{ps:List (Str × α)}(nd:(ps.map (·.1)).Nodup){a b:Str × α}(ha:a∈ps)(hb:b∈ps)(e:a.1=b.1):a=b:=by
 induction ps with
 |nil=>cases ha
 |cons p ps ih=>
  rw[el,Bz] at nd;rcases bW.mp ha with za|ha
  ·rcases bW.mp hb with zb|hb
   ·rw[za,zb]
   ·rw[za] at e;exact absurd (show p.1∈ps.map (·.1) from bh.mpr #[b,hb,e.symm]) nd.1
  ·rcases bW.mp hb with zb|hb
   ·rw[zb] at e;exact absurd (show p.1∈ps.map (·.1) from bh.mpr #[a,ha,e]) nd.1
   ·exact ih nd.2 ha hb
def strOf(hs:Xa)(n:Str):Int:=((hs.find? λh=>decide (h.1=n)).map (·.2)).getD 0
variable{hs:Xa}
theorem GG(h:n∈hs.map (·.1)):(n,strOf hs n)∈hs:=by
 unfold strOf;let#[x,hx,e]:=bh.mp h;cases q:hs.find? λh=>decide (h.1=n) with
 |none=>
  have:=Ip.mp q x hx;simp[e] at this
 |some y=>
  let m:=List.mem_of_find?_eq_some q;have:=List.find?_some q;have e2:y.1=n:=by simpa using this
  show (n,y.2)∈hs;rw[<- e2];exact m
theorem fS_(nd:(hs.map (·.1)).Nodup){s:Int}(h:(n,s)∈hs):strOf hs n=s:=by
 let m:=GG (bh.mpr #[_,h,Z]:n∈hs.map (·.1));exact dU Prod.snd (W7 nd m h Z)
variable{a b:Int}
theorem jC_(ha:0<=a)(h:0<b):Int.gcd b (a % b)=Int.gcd a b:=by
 let#[m,rfl]:=Fp ha;let#[n,rfl]:=Fp (E_ h);rw[<- Int.natCast_emod];show Nat.gcd n (m % n)=Nat.gcd m n;rw[Nat.gcd_comm n,<- Nat.gcd_rec,Nat.gcd_comm]
theorem mm_(hb:0<b)(AH:b<=2000000):0<(Int.gcd a b:Int)/\(Int.gcd a b:Int)<1073741824:=by
 have h1:0<Int.gcd a b:=Int.gcd_pos_of_ne_zero_right a Z1;have h2:(Int.gcd a b:Int) ∣ b:=Int.gcd_dvd_right a b;let h3:=Int.le_of_dvd hb h2;omega
theorem A_:bD ["one","other","rest","divisor","left"] BQ (bb TC):=bJ
def MM:Sp:=λvs H Q _=>∃a b:Int,vs=[.int a,.int b]/\0<=a/\0<b/\Q (.int (Int.gcd a b)) H
theorem ml_(F:bp K "greatest_divisor" "greatest_divisor" TC f fd):!aj ba 1 f fd BQ MM:=by
 apply F.bI A_ λaR A outer s H vs Q E hr h=>?_
 ·let#[a,b,rfl,ha,hb,k]:=h;refine' #[_,aq ?s1 (aq ?s2 (aq ?s3 ?s4)),?kk]
  case s1=>exact aX 2 A_.nd (pv 0)
  case s2=>exact aX 3 A_.nd (pv 1)
  case s3=>exact R_ dX (cz EW (pv 2) aK) (aq (aX 4 A_.nd (bF El (pv 3) (pv 2))) (aq (aX 3 A_.nd (pv 2)) (aH (aX 2 A_.nd (pv 4)))))
  case s4=>exact aH (bj (pv 3))
  apply#[_,Z,_,Z,?_];apply jE_ (λσ H'=>H'=H/\∃(r d:Int) (v4:aJ),σ=[some (.int a),some (.int b),some (.int r),some (.int d),v4]/\0<=r/\0<d/\Int.gcd r d=Int.gcd a b) (λσ _=>match σ with | [_,_,some (.int r),_,_]=>r.toNat|_=>0) #[Z,a,b,none,Z,ha,hb,Z] ?_ ?_
  ·rintro σ H' ⟨rfl,r,d,v4,rfl,hr0,hd,e⟩;apply#[_,Z,Z,_,Z,?_];apply aM (λc=>?_) (λc=>?_)
   ·have xa:0<r:=by
     have:r≠0:=by
      intro z;subst z;simp at c
     omega
    apply#[_,Z,_,Z,_,_,Z,Z,xa,_,Z,_,Z,?_];let h1:=GJ d (Int.ne_of_gt xa);let h2:=ID d xa;apply#[#[Z,_,_,_,Z,h1,xa,?_],?_]
    ·rw[<- e,Int.gcd_comm (d % r) r,jC_ (E_ hd) xa,Int.gcd_comm]
    ·show (d % r).toNat<r.toNat;omega
   ·have xa:r=0:=by simpa using c
    subst xa;apply#[_,Z,?_]
    have e2:(Int.gcd a b:Int)=d:=by
     rw[<- e,Int.gcd_zero_left];omega
    rw[<- e2];exact k
  ·intro σ H' Q1 Q2 hq h;let#[x,e,h1,c,h2,h3]:=h;exact#[x,e,h1,c,h2,hq _ _ h3]
end Ev
local macro_rules|`(tactic|lk)=>`(tactic|(refine Ev.setG ?_;dsimp only))
namespace L2
open PySem PySem.Spec PyProof.Rows
def Rb(w:Af)(l:List (Str × Tok × Aa)):List DictEntry:=l.map λx=>#[hashStr w x.1,.str x.1 x.2.1,x.2.2]
def xx(K:af)(w:Af)(d:Addr)(kvs:List (Str × V)):Prop:=
 (d == sysModules)=false/\(kvs.map (·.1)).Nodup/\∃(l:List (Str × Tok × Aa)) (o:Obj) (es:Array DictEntry) (ep:Nat),K.lookup d=some o/\o.ExactDict/\o.data=.dict es ep/\es.toList=Rb w l/\Paired (λ(p:Str × V) (x:Str × Tok × Aa)=>p.1=x.1/\RelV p.2 x.2.2) kvs l
theorem f1_{P:Ad}{w:Af}:∀{l:List (Str × Tok × Aa)},Pairs (fI P w) (Rb w l) (l.map λx=>((Sum.inr x.1:Key),x.2.2))
 |[]=>.nil
 |x::l=>.cons (X2 P w x.1 x.2.1) Z (f1_ (l:=l))
variable{kvs:List (Str × V)}{l:List (Str × Tok × Aa)}
theorem fQ_(h:Paired (λ(p:Str × V) (x:Str × Tok × Aa)=>p.1=x.1/\RelV p.2 x.2.2) kvs l):kvs.map (·.1)=l.map (·.1):=by
 induction h with
 |nil=>rfl
 |cons a _ ih=>rw[el,el,ih,a.1]
theorem xx.of{P:Ad}{K:af}{w:Af}{d:Addr}{h:Heap}(k:xx K w d kvs)(X:K.In h):∃l:List (Str × Tok × Aa),Paired (λ(p:Str × V) (x:Str × Tok × Aa)=>p.1=x.1/\RelV p.2 x.2.2) kvs l/\h.DictOf (fI P w) d (l.map λx=>((Sum.inr x.1:Key),x.2.2)):=by
 let#[_,nd,l,o,es,ep,ho,hx,hd,he,hp]:=k;apply#[l,hp,o,es,ep,X _ _ ho,hx,hd,λe m=>?_,?_,?_]
 ·have m:e∈Rb w l:=by
   rw[<- he];simpa using m
  let#[x,_,rfl]:=bh.mp m;exact#[Sum.inr x.1,X2 P w x.1 x.2.1,Z]
 ·rw[he];exact f1_
 ·rw[fQ_ hp] at nd;rw[cm,Fq,zE];rw[Fq,zE] at nd;exact nd.imp λn e=>n (hU e)
theorem kK_(h:Paired (λ(p:Str × V) (x:Str × Tok × Aa)=>p.1=x.1/\RelV p.2 x.2.2) kvs l)(nd:(kvs.map (·.1)).Nodup){z:Str}{v:V}(m:(z,v)∈kvs):∃u,valueAt (l.map λx=>((Sum.inr x.1:Key),x.2.2)) (Sum.inr z)=some u/\RelV v u:=by
 unfold valueAt
 induction h with
 |nil=>cases m
 |@cons p x kvs l a _ ih=>
  rw[el] at nd ⊢;rw[List.find?_cons];let#[n1,n2]:=Bz.mp nd;by_cases e:x.1=z
  ·rcases bW.mp m with m|m
   ·subst m;apply#[x.2.2,?_,a.2];simp[e]
   ·exact absurd (by rw[a.1,e];exact bh.mpr #[_,m,Z]) n1
  ·rcases bW.mp m with m|m
   ·subst m;exact absurd a.1.symm e
   ·have:=ih n2 m;simp[e];simpa using this
theorem ib_(h:Paired (λ(p:Str × V) (x:Str × Tok × Aa)=>p.1=x.1/\RelV p.2 x.2.2) kvs l)(z:Str):(valueAt (l.map λx=>((Sum.inr x.1:Key),x.2.2)) (Sum.inr z)).isSome=decide (z∈kvs.map (·.1)):=by
 rw[fQ_ h];unfold valueAt;rw[Option.isSome_map,List.isSome_find?];rw[Bool.eq_iff_iff,List.any_eq_true,decide_eq_true_iff];constructor
 ·rintro⟨kv,hm,e⟩;let#[x,hx,rfl]:=bh.mp hm;have e:(Sum.inr x.1:Key)=Sum.inr z:=by simpa using e
  exact bh.mpr #[x,hx,hU e]
 ·intro m;let#[x,hx,e]:=bh.mp m;exact#[_,bh.mpr #[x,hx,Z],by simp[e]]
inductive G4 (K:af) (w:Af) (Q:VK) (y:V) (x:V) (H2:Hp):Prop
 |mk:∀d kvs z,x=.ref d->xx K w d kvs->y=.str z->Q (.bl (decide (z∈kvs.map (·.1)))) H2->G4 K w Q y x H2
def S6(K:af)(w:Af)(ty td:TE):TE:=λσ H Q=>ty σ H λy H1=>td σ H1 λx H2=>G4 K w Q y x H2
variable{X:Cx}{i o:Expr}{td ty:TE}
theorem m3_(hi:PE X i ty)(ho:PE X o td):PC X .In i o (S6 X.K X.w ty td):=by
 intro pins s σ H Q I h;apply aZ (hi pins s σ H _ I h) λiv s1 ⟨y,H1,I1,ry,q1⟩=>aZ (ho pins s1 σ H1 _ I1 q1) λu s2 ⟨x,H2,I2,rx,d,kvs,z,ex,kd,ey,q2⟩=>?_;subst ex;subst ey;obtain rfl:u=Value.ref d:=rx;let#[l,hp,dd]:=kd.of (P:=X.prog) I2.gj;apply wpAny_in_of (EV (k:=Sum.inr z) ry) kd.1 dd.mapOf ?_;rw[ib_ hp];exact#[.bl _,H2,I2.tok _,Z,q2]
inductive Co (K:af) (w:Af) (Q:VK) (x:V) (y:V) (H2:Hp):Prop
 |mk:∀d kvs z v,x=.ref d->xx K w d kvs->y=.str z->(z,v)∈kvs->Q v H2->Co K w Q x y H2
def MD(K:af)(w:Af)(td ty:TE):TE:=λσ H Q=>td σ H λx H1=>ty σ H1 λy H2=>Co K w Q x y H2
variable{pos:Pos}
theorem kk_(ho:PE X o td)(hi:PE X i ty)(hs:K7 i):PE X (.Subscript o i pos) (MD X.K X.w td ty):=by
 intro pins s σ H Q I h;apply Rn PySem.F.slot_dict_getitem.lookup hs (aZ (ho pins s σ H _ I h) λu s1 ⟨x,H1,I1,rx,q1⟩=>aZ (hi pins s1 σ H1 _ I1 q1) λiv s2 ⟨y,H2,I2,ry,d,kvs,z,v,ex,kd,ey,hm,q2⟩=>?_);subst ex;subst ey;obtain rfl:u=Value.ref d:=rx;let#[l,hp,dd]:=kd.of (P:=X.prog) I2.gj;let#[w',hw,pK]:=kK_ hp kd.2.1 hm;exact#[dd.mapOf.typeIs,wpAny_getItem_of (EV (k:=Sum.inr z) ry) dd.mapOf hw #[v,H2,I2.tok _,pK,q2]]
end L2
namespace Ev
open PySem L2
abbrev Rl:=Str × Str × Str × Option Str
def rl:List Rl:=[("least one high","least","one",some "high"),("least one fall","least","one",some "fall"),("least one calm","least","one",some "calm"),("least all high","least","all",some "high"),("least all fall","least","all",some "fall"),("least all calm","least","all",some "calm"),("below one high","below","one",some "high"),("below one fall","below","one",some "fall"),("below one calm","below","one",some "calm"),("below all high","below","all",some "high"),("below all fall","below","all",some "fall"),("below all calm","below","all",some "calm"),("shares one","shares","one",none),("shares all","shares","all",none),("turns high","turns","all",some "high"),("turns fall","turns","all",some "fall"),("turns calm","turns","all",some "calm")]
def fu:Option Str->V
 |some x=>.str x
 |none=>.non
def yX:ae:=rl.map (·.1)
theorem hS_:yX.Nodup:=by decide +kernel
def Zv(as:ay):List (Str × V):=List.zipWith (λ(r:Rl) a=>(r.1,V.ref a)) rl as
structure RJ (K:af) (w:Af) (mg:Str->Option Aa) (d:Addr) (as:ay):Prop where
 mg:mg "RULES"=some (.ref d)
 len:as.length=17
 kd:xx K w d (Zv as)
 tup:Paired (λa (r:Rl)=>∀H,iI K H a [.str r.2.1,.str r.2.2.1,fu r.2.2.2]) as rl
variable{as:ay}
theorem ex_(h:as.length=17):(Zv as).map (·.1)=yX:=by
 have:∀(rs:List Rl) (as:ay),as.length=rs.length->(List.zipWith (λ(r:Rl) a=>(r.1,V.ref a)) rs as).map (·.1)=rs.map (·.1):=by
  intro rs
  induction rs with
  |nil=>intro as _;rfl
  |cons r rs ih=>
   intro as e;cases as with
   |nil=>cases e
   |cons a as=>
    rw[List.zipWith_cons_cons,el,el,ih as (by simpa using e)]
 exact this rl as h
theorem _u{K:af}:∀{rs:List Rl} {as:ay},Paired (λa (r:Rl)=>∀H,iI K H a [.str r.2.1,.str r.2.2.1,fu r.2.2.2]) as rs->∀r∈rs,∃a,(r.1,V.ref a)∈List.zipWith (λ(r:Rl) a=>(r.1,V.ref a)) rs as/\∀H,iI K H a [.str r.2.1,.str r.2.2.1,fu r.2.2.2]
 |_,_,.nil,r,h=>by cases h
 |r0::rs,a::as,.cons h t,r,m=>by
  rw[List.zipWith_cons_cons];rcases bW.mp m with rfl|m
  ·exact#[a,c8,h]
  ·let#[b,hb,hs]:=_u t r m;exact#[b,dF _ hb,hs]
def NQ(ns:ae):Option Str->Bool
 |some x=>decide (x∈ns)
 |none=>false
theorem CL:bD iN iN (bb WG):=bJ
def fm':Sp:=λvs H Q _=>∃r∈rl,vs=[.str r.1]/\Q (.bl true) H
variable{d f:Addr}{fd:Ae}{P:Ad}{w:Af}{K:af}{mg:Str->Option Aa}{base:Heap}
theorem h6_(F:bp K "is_rule" "is_rule" WG f fd)(B:Bi mg)(R:RJ K w mg d as):!aj ba 1 f fd iN fm':=by
 apply F.bI CL λaR A outer s H vs Q E hr h=>?_
 ·let#[r,ic,rfl,k]:=h;apply#[_,aH (bj (En (cy zC (by rfl) B.xK yc %[0,zw (v:=.ty "str") (by rfl) B.str O9 Z|0]) (AO (O_ (m3_ (pv 0) (KH (v:=.ref d) (by rfl) R.mg Z)))))),?_];apply#[_,Z,_,_,_,_,Z,.str r.1,Z,_,Z,fG #[_,Z,d,_,r.1,Z,R.kd,Z,?_]];rw[ex_ R.len,show decide (r.1∈yX)=true from cw (bh.mpr #[r,ic,Z])];exact k
theorem FJ:bD ["rule"] ["rule"] (bb yD):=bJ
def Po(K:af):Sp:=λvs H Q _=>∃r∈rl,vs=[.str r.1]/\∀a,(∀H',iI K H' a [.str r.2.1,.str r.2.2.1,fu r.2.2.2])->Q (.ref a) H
theorem js_(F:bp K Km Km yD f fd)(R:RJ K w mg d as)(cI:!bt 1 "is_rule" iN fm'):!aj ba 2 f fd ["rule"] (Po K):=by
 apply F.bI FJ λaR A outer s H vs Q E hr h=>?_
 ·let#[r,ic,rfl,k]:=h;apply#[_,aq (bN (gZ (fR (bf cI hr %[0|0]))) (aH jG_) bP) (aH (bj (kk_ (KH (v:=.ref d) (by rfl) R.mg Z) (pv 0) (λ_ _=>rfl)))),?_];let#[a,ha,hs]:=_u R.tup r ic;exact#[_,Z,r,ic,Z,_,Z,bE #[_,Z,d,_,r.1,.ref a,Z,R.kd,Z,ha,k a hs]]
end Ev
namespace HT
open PySem PySem.Spec PyProof.Rows
end HT
namespace L2
open PySem PySem.Spec PyProof.Rows
end L2
namespace Ev
open PySem L2
structure LQ (ts ws:Xb):Prop where
 good:∀w∈ws,Kj w
 nd:(ws.map kO).Nodup
 gQ:∀w∈ws,kO w∈ts.map kO
 len:ws.length<=ts.length
theorem ko_{ts us ws:Xb}(good:∀t∈ts,Kj t)(nd:(ts.map kO).Nodup)(sub:us.Sublist ts)(p:Paired (λw u=>w=u∨w=(u.2,u.1)) ws us):LQ ts ws:=by
 have e:ws.map kO=us.map kO:=by
  clear sub
  induction p with
  |nil=>rfl
  |cons h _ ih=>
   rw[el,el,ih];rcases h with rfl|rfl
   ·rfl
   ·exact dU (·::_) (V1 _ _)
 apply#[λw hw=>?_,?_,λw hw=>?_,?_]
 ·let#[i,hi,ew]:=BB hw;let hl:=bG p;let q:=hZ p i hi Z1;rw[ew] at q;let g:=good _ (sub.subset (jg (show i<us.length by omega)));rcases q with q|q
  ·rw[q];exact g
  ·rw[q];exact#[g.2.1,g.1,g.2.2.symm]
 ·rw[e];exact (sub.map kO).nodup nd
 ·have:kO w∈ws.map kO:=bh.mpr #[w,hw,Z];rw[e] at this;exact (sub.map kO).subset this
 ·rw[bG p];exact sub.length_le
def bS(K:af)(H:Hp)(v:V):Option (Xb)->Prop
 |none=>v=.non
 |some ws=>∃a ys,v=.ref a/\H a=some (.lst ys)/\bg K H ys (ws.map kT)
variable{K:af}{H H':Hp}{v:V}{o:Option (Xb)}
theorem bS.same(h:bS K H v o)(s:aa H H'):bS K H' v o:=by
 cases o with
 |none=>exact h
 |some ws=>
  let#[a,ys,e,ha,t]:=h;exact#[a,ys,e,s _ _ ha,t.same s]
abbrev Pc:=Str × Int × Option (Xb)
def ED(K:af)(H:Hp)(y:V)(p:Pc):Prop:=∃t v,y=.ref t/\H t=some (.tup [.str p.1,.int p.2.1,v])/\bS K H v p.2.2
abbrev Kn(K:af)(H:Hp)(ys:ag)(ps:List Pc):Prop:=Paired (ED K H) ys ps
structure Ko (ts:Xb) (p:Pc):Prop where
 nm:jc p.1=true
 w1:1<=p.2.1
 w2:p.2.1<=1000000000
 ws:∀ws,p.2.2=some ws->LQ ts ws
theorem ED.same{y:V}{p:Pc}(h:ED K H y p)(s:aa H H'):ED K H' y p:=by
 let#[t,v,e,ht,hv]:=h;exact#[t,v,e,s _ _ ht,hv.same s]
theorem bS.put{D:Addr}{xs:ag}{u:HO}(h:bS K H v o)(hD:H D=some (.lst xs))(ne:v≠.ref D):bS K (upd H D u) v o:=by
 cases o with
 |none=>exact h
 |some ws=>
  let#[a,ys,e,ha,t]:=h;subst e;exact#[a,ys,Z,by rw[au λz=>ne (by rw[z])];exact ha,iT t hD]
end Ev
abbrev aC:=List Ev.Pc
namespace Ev
open PySem L2
theorem vM{α β:Type}{F:α->β->Prop}:∀{ys SO:List α} {ks DE:List β},Paired F ys ks->Paired F SO DE->Paired F (ys++SO) (ks++DE)
 |_,_,_,_,.nil,h=>h
 |_,_,_,_,.cons a t,h=>.cons a (vM t h)
def xw(K:af)(H:Hp)(v:V):Option Str->Prop
 |some x=>v=.str x
 |none=>∃t,fS K H v t/\PySem.W.kitOne K t (.type "str")=some false
def wx(hs:Xa)(ts:Xb):Option Str->Option Str->Bool
 |some x,some y=>decide (x∈hs.map (·.1))&&(decide (y∈hs.map (·.1))&&decide (y∈near (aI hs) (aD ts) x))
 |_,_=>false
theorem Sw(hs:Xa)(ts:Xb)(x y:Str):wx hs ts (some x) (some y)=(decide (x∈hs.map (·.1))&&(decide (y∈hs.map (·.1))&&decide (y∈near (aI hs) (aD ts) x))):=rfl
variable{f:Addr}{fd:Ae}
variable{H' H0:Hp}
variable{D:Addr}{u:HO}{v:V}{o:Option (Xb)}
section
variable{P:Ad}{w:Af}{K:af}{mg:Str->Option Aa}{base:Heap}
inductive yu (K:af) (C:Addr) (vs:ag) (H:Hp) (Q:VK) (E:XK):Prop
 |mk:∀(p:Addr) (v:V) (x:Option Str) (hs:Xa) (ts:Xb) (fp:ay),vs=[.ref p,v]->gn K C H p hs ts fp->xw K H v x->Q (.bl (NQ (hs.map (·.1)) x)) H->yu K C vs H Q E
theorem ks_{C:Addr}(F:bp K "has_hand" "Web.has_hand" FV f fd)(T:Txt K mg C)(B:Bi mg):!aj ba 1 f fd AN (yu K C):=by
 apply F.bI Hd λaR A outer s H vs Q E hr h=>?_
 ·let#[p,v,x,hs,ts,fp,rfl,W,sv,k]:=h;let hu:=eV hr;let#[dx,d1,l2,d3,zs,as,rfl,h1,h2,h3,h4,h5,h6,h7]:=W.ex;apply#[_,aH (bj (En (cy zC (by rfl) B.xK yc %[1,zw (v:=.ty "str") (by rfl) B.str O9 Z|0]) (AO (O_ (LP hu (pv 1) (dW (pv 0) Z)))))),?_];cases x with
  |some x=>
   cases (show v=.str x from sv);apply#[_,Z,_,_,_,_,Z,.str x,Z,_,Z,fG ?_];apply#[_,Z,_,Z,p,C,dx,_,_,Z,h1,T.cl,T.nS,Q0 _ _ _,d1,_,Z,.k (k:=Sum.inr x) h2,?_];rw[RA];exact k
  |none=>
   let#[t,ty,e]:=sv;exact#[_,Z,_,_,_,_,Z,ty,e,_,Z,bE k]
inductive RC (K:af) (C:Addr) (vs:ag) (H:Hp) (Q:VK) (E:XK):Prop
 |mk:∀(p:Addr) (v u:V) (x y:Option Str) (hs:Xa) (ts:Xb) (fp:ay),vs=[.ref p,v,u]->gn K C H p hs ts fp->(aI hs).Nodup->xw K H v x->xw K H u y->Q (.bl (wx hs ts x y)) H->RC K C vs H Q E
theorem iy_{C:Addr}(F:bp K "are_tied" "Web.are_tied" CZ f fd)(T:Txt K mg C)(cH:!bB C 1 "has_hand" AN (yu K C)):!aj ba 2 f fd xU (RC K C):=by
 apply F.bI Ja λaR A outer s H vs Q E hr h=>?_
 ·let#[p,v,u,x,y,hs,ts,fp,rfl,W,nd,sv,su,k]:=h;let hu:=eV hr;let#[dx,d1,l2,d3,zs,as,rfl,h1,h2,h3,h4,h5,h6,h7]:=id W.ex;have AA:(da d1 l2 d3).lookup ("has_hand":Str)=none:=je _ _ _ Z0 Z0 Z0;apply#[_,aH (bj (En (fL cH T.cl hr (pv 0) %[1|0]) (En (fL cH T.cl hr (pv 0) %[2|0]) (AO (iR (O8 fH (xV hr 0)) (pv 2) (cb hu (dW (pv 0) Z) (pv 1)) (by with_unfolding_all rfl)))))),?_];apply#[_,Z,p,dx,_,Z,h1,AA,_,Z,p,v,x,hs,ts,_,Z,W,sv,_,Z,?_];cases x with
  |none=>exact bE k
  |some x=>
   cases (show v=.str x from sv);apply aM (λc=>?_) (λc=>?_)
   ·have hx:x∈hs.map (·.1):=vJ c;let#[a,e1,ha]:=_o nd hx h6 h7;apply#[_,Z,p,dx,_,Z,h1,AA,_,Z,p,u,y,hs,ts,_,Z,W,su,_,Z,?_];cases y with
    |none=>exact bE k
    |some y=>
     cases (show u=.str y from su);rw[Sw,cw hx,Bool.true_and] at k;apply aM (λc2=>?_) (λc2=>?_)
     ·have hy:y∈hs.map (·.1):=vJ c2;rw[cw hy,Bool.true_and] at k;apply#[_,Z,_,Z,p,C,dx,_,_,Z,h1,T.cl,T.nN,UJ _ _ _,_,Z,d3,.ref a,Z,?_,y,_,Z,#[a,_,Z,.of ha,KS _],k];rw[<- e1];exact .k (k:=Sum.inr x) h5
     ·have hy:¬y∈hs.map (·.1):=λz=>c2 (cw z);rw[dR hy,By] at k;exact k
   ·have hx:¬x∈hs.map (·.1):=λz=>c (cw z);cases y with
    |none=>exact k
    |some y=>
     rw[Sw,dR hx,By] at k;exact k
theorem jx_{hs:Xa}{ts ws:Xb}(G:Good hs ts)(W:LQ ts ws){t:Str × Str}(ht:t∈aD ws):wx hs ts (some t.1) (some t.2)=true:=by
 let#[x,hx,ex]:=Sj.mp ht;let#[u,hu,eu]:=bh.mp (W.gQ x hx);have eo:aL u.1 u.2=t:=(OZ eu).trans ex
 have both:t.1∈hs.map (·.1)/\t.2∈hs.map (·.1)/\aL t.1 t.2=t:=by
  let#[g1,g2]:=G.A6 u hu;rcases Ro u.1 u.2 with e|e
  ·rw[<- eo,e];exact#[g1,g2,e]
  ·rw[<- eo,e];exact#[g2,g1,(RW _ _).trans e]
 let#[m1,m2,m3]:=both;have m4:t.2∈near (aI hs) (aD ts) t.1:=BA.mpr #[(gf hs).mem_iff.mpr m2,cw (by rw[m3];exact Sj.mpr #[u,hu,eo])];rw[Sw,cw m1,cw m2,cw m4];rfl
theorem RE:bD ["web","ways","found","one","other"] ["web","ways"] (bb yT):=bJ
inductive WM (K:af) (C:Addr) (vs:ag) (H:Hp) (Q:VK) (E:XK):Prop
 |mk:∀(p:Addr) (v:V) (o:Option (Xb)) (hs:Xa) (ts:Xb) (fp:ay),vs=[.ref p,v]->gn K C H p hs ts fp->Good hs ts->bS K H v o->(∀ws,o=some ws->LQ ts ws)->(∀v' H',aa H H'->bS K H' v' (o.map aD)->(∀a,v'=.ref a->H a=none)->Q v' H')->WM K C vs H Q E
theorem jh_{C:Addr}(F:bp K "checked_ways" "checked_ways" yT f fd)(T:Txt K mg C)(cS:!bt 3 "sorted_ties" ["ties"] (XA K))(cT:!bB C 2 "are_tied" xU (RC K C)):!aj ba 4 f fd ["web","ways"] (WM K C):=by
 apply F.bI RE λaR A outer s H vs Q E hr h=>?_
 ·let#[p,v,o,hs,ts,fp,rfl,W,G,wy,gw,k]:=h;let hu:=eV hr;have DP:aY 2 _:=hr.mono (by decide)
  apply#[_,aq (bN (Ih (Rf (pv 1))) (aH (bj Kv)) bP)
   (aq (aX 2 RE.nd (bf cS hr %[1|0]))
   (aq (bN (Ih (Rf (pv 2))) fJ bP)
   (aq (eF dX Z (dE (pv 2)) (xk Z (dZ (cj 3 RE.nd) (dZ (cj 4 RE.nd) jf)))
    (aH (bN (gZ (fR (fL cT T.cl DP (pv 0) %[3,4|0]))) fJ bP)))
   (aH (bj (pv 2)))))),?_]
  cases o with
  |none=>
   cases (show v=.non from wy);exact#[_,Z,_,Z,fG (k .non H (aa.refl H) Z (λa z=>by cases z))]
  |some ws=>
   let#[a,ys,rfl,ha,tu]:=wy;let Wo:=gw ws Z;apply#[_,Z,_,Z,bE ?_];apply#[_,Z,a,ys,ws,Z,ha,tu,Wo.good,Wo.nd,by have:=Wo.len;have:=G.wC;omega,λl' zs H1 s1 hf pR tz=>?_];apply#[_,Z,_,Z,bE ?_];let W1:=W.same s1;let#[dx,d1,l2,d3,vO,as,rfl,h1,h2,h3,h4,h5,h6,h7]:=id W1.ex;have AA:(da d1 l2 d3).lookup ("are_tied":Str)=none:=je _ _ _ Z0 Z0 Z0;rw[<- P7] at tz
   let aQ:bL:=λi σ H2=>∃(v3 v4:aJ),σ=[some (.ref p),some (.ref a),some (.ref l'),v3,v4]/\H2=H1
   apply#[_,Z,l',Z,#[_,.of pR],fW (K:=K) (a:=l') (xs:=zs) aQ #[none,none,Z,Z] (λi σ H2 _ ⟨_,_,_,e⟩=>by subst e;exact .of pR) ?_ ?_]
   ·rintro i y σ H2 hy ⟨v3,v4,rfl,rfl⟩;let#[t,ht,q,rfl,hq]:=qc tz hy;apply#[q,_,Z,.of (EM hq),Z,_,_,Z,_,_,Z,Z,?_];apply#[_,Z,p,dx,_,Z,h1,AA,_,Z,_,Z,p,_,_,some t.1,some t.2,hs,ts,_,Z,W1,G.BF,Z,Z,_,Z,?_];rw[jx_ G Wo (cu ht)];apply bE ?_;exact#[_,_,Z,Z]
   ·rintro σ H2 ⟨v3,v4,rfl,rfl⟩;exact#[_,Z,k (.ref l') _ s1 #[l',zs,Z,pR,tz] (λc z=>by cases z;exact hf)]
def F1(p:Pc):Pc:=(p.1,p.2.1,p.2.2.map aD)
def BS(K:af)(H0 H:Hp)(y:V)(p:Pc):Prop:=∃t v,y=.ref t/\H t=some (.tup [.str p.1,.int p.2.1,v])/\bS K H v p.2.2/\∀a,v=.ref a->H0 a=none
theorem BS.same{K:af}{H:Hp}{y:V}{p:Pc}(h:BS K H0 H y p)(s:aa H H'):BS K H0 H' y p:=by
 let#[t,v,e,ht,hv,hn]:=h;exact#[t,v,e,s _ _ ht,hv.same s,hn]
theorem bS.up{K:af}{H:Hp}(h:bS K H v o)(n1:∀xs,H D≠some (.lst xs))(n2:∀xs,H D≠some (.tup xs)):bS K (upd H D u) v o:=by
 cases o with
 |none=>exact h
 |some ws=>
  let#[a,ys,e,ha,t]:=h;exact#[a,ys,e,by rw[au (λz:a=D=>n1 ys (z▸ha))];exact ha,Paired.bu t λy k ⟨b,z,q⟩=>#[b,z,by rw[au (λz:b=D=>n2 _ (z▸q))];exact q]]
theorem BS.up{K:af}{H:Hp}{y:V}{p:Pc}(h:BS K H0 H y p)(n1:∀xs,H D≠some (.lst xs))(n2:∀xs,H D≠some (.tup xs)):BS K H0 (upd H D u) y p:=by
 let#[t,v,e,ht,hv,hn]:=h;exact#[t,v,e,by rw[au (λz:t=D=>n2 _ (z▸ht))];exact ht,hv.up n1 n2,hn]
theorem Xx{ps:aC}{cs:ag}(nd:(ps.map (·.1)).Nodup)(hl:cs.length=ps.length):∀{j:Nat} {q:Pc} {c:V},ps[j]? = some q->cs[j]? = some c->bK ((ps.zip cs).map λq=>((Sum.inr q.1.1:Key),q.2)) (Sum.inr q.1)=some c:=by
 induction ps generalizing cs with
 |nil=>
  intro j q c h;simp at h
 |cons p ps ih=>
  intro j q c h1 h2;cases cs with
  |nil=>cases hl
  |cons b cs=>
   rw[el] at nd;let#[n1,n2]:=Bz.mp nd;cases j with
   |zero=>
    have e1:p=q:=by simpa using h1
    have e2:b=c:=by simpa using h2
    subst e1 e2;exact KU Z
   |succ j=>
    have h1:ps[j]? = some q:=by simpa using h1
    have h2:cs[j]? = some c:=by simpa using h2
    show bK ((Sum.inr p.1,b)::((ps.zip cs).map λq=>((Sum.inr q.1.1:Key),q.2))) (Sum.inr q.1)=_;rw[KP λe=>n1 (by rw[show p.1=q.1 from hU e];exact bh.mpr #[q,cu h1,Z])];exact ih n2 (by simpa using hl) h1 h2
theorem CU:bD ["web","piece"] ["web","piece"] (bb WK):=bJ
inductive XC (K:af) (C:Addr) (vs:ag) (H:Hp) (Q:VK) (E:XK):Prop
 |mk:∀(p:Addr) (y:V) (q:Pc) (hs:Xa) (ts:Xb) (fp:ay),vs=[.ref p,y]->gn K C H p hs ts fp->Good hs ts->ED K H y q->Ko ts q->(∀y' H',aa H H'->BS K H H' y' (F1 q)->Q y' H')->XC K C vs H Q E
theorem h7_{C:Addr}(F:bp K "checked_piece" "checked_piece" WK f fd)(B:Bi mg)(cN:!bt 1 "is_name" iN Q7)(cW:!bt 2 "is_whole_within" xr WH)(cC:!bt 4 "checked_ways" ["web","ways"] (WM K C)){tk:Tok}(mW:mg "MOST_WEIGHT"=some (.int 1000000000 tk)) :
  aj P w K mg base ba 5 f fd ["web","piece"] (XC K C):=by
 apply F.bI CU λaR A outer s H vs Q E hr h=>?_
 ·let#[p,y,q,hs,ts,fp,rfl,W,G,#[t,v,rfl,ht,wy],gp,k]:=h
  apply#[_,aq (bN (Gw (gZ (fR (cy zC (by rfl) B.xK yc %[1,zw (v:=.ty "tuple") (by rfl) B.tuple Wi Z|0])))
    (Ig (cz EW (cy xo (by rfl) B.len i4 %[1|0]) aK))).pt fJ bP)
   (aq (bN (gZ (fR (bf cN hr %[bO eJ (pv 1) aK|0]))) fJ bP)
   (aq (bN (gZ (fR (bf cW hr %[bO eJ (pv 1) aK,aK,KH (v:=.int 1000000000) (by rfl) mW #[tk,Z]|0]))) fJ bP)
   (aH (bj (fe %[bO eJ (pv 1) aK,bO eJ (pv 1) aK,bf cC hr %[0,bO eJ (pv 1) aK|0]|0]))))),?_]
  apply#[_,Z,_,_,_,_,Z,.tup ht,Z,_,Z,bE ?_];apply#[_,Z,t,_,Z,.inr (.of ht),Z,_,Z,?_];apply DG (show V.int ((3:Nat):Int)=V.int 3 from Z) ?_;apply#[_,Z,t,_,_,_,Z,Z,.of ht,Z,q.1,Z,by have:=RT gp.nm;omega,λH1 s1=>#[_,Z,?_]];rw[gp.nm];apply bE ?_;let Hx:=s1 _ _ ht;apply#[_,Z,t,_,_,_,Z,Z,.of Hx,Z,q.2.1,1,1000000000,Z,_,Z,?_];rw[cw gp.w1,cw gp.w2];apply bE ?_;apply#[_,Z,t,_,_,_,Z,Z,.of Hx,Z,_,Z,t,_,_,_,Z,Z,.of Hx,Z,_,Z,_,Z,t,_,_,_,Z,Z,.of Hx,Z,p,v,q.2.2,hs,ts,fp,Z,W.same s1,G,wy.same s1,gp.ws,λv' H2 s2 wy2 hf=>?_];apply#[zl,λt' N9=>?_];exact k (.ref t') _ (s1.trans (s2.trans (aa.new N9))) #[t',v',Z,az,wy2.same (aa.new N9),λa z=>s1.free (hf a z)]
theorem Sg:bD ["web","pieces","found","piece","checked"] ["web","pieces"] (bb Xs):=bJ
structure Qs (ps qs:aC):Prop where
 Dy:qs.map (·.1)=aV (ps.map (·.1))
 mem:∀q∈qs,∃p∈ps,q=F1 p
inductive Xc (K:af) (C:Addr) (vs:ag) (H:Hp) (Q:VK) (E:XK):Prop
 |mk:∀(p l:Addr) (ys:ag) (ps:aC) (hs:Xa) (ts:Xb) (fp:ay),vs=[.ref p,.ref l]->gn K C H p hs ts fp->Good hs ts->H l=some (.lst ys)->Kn K H ys ps->(∀q∈ps,Ko ts q)->(ps.map (·.1)).Nodup->ps.length<64->(∀l' zs qs H',aa H H'->H' l'=some (.lst zs)->Paired (BS K H H') zs qs->Qs ps qs->Q (.ref l') H')->Xc K C vs H Q E
theorem gA_{C:Addr}(F:bp K "checked_pieces" "checked_pieces" Xs f fd)(B:Bi mg)(cP:!bt 5 "checked_piece" ["web","piece"] (XC K C)):!aj ba 6 f fd ["web","pieces"] (Xc K C):=by
 apply F.bI Sg λaR A outer s H vs Q E hr h=>?_
 ·let#[p,l,ys,ps,hs,ts,fp,rfl,W,G,hl,pc,gp,nd,dm,k]:=h;let hu:=eV hr;let sz:=ck;let le:=bG pc
  apply#[_,aq (bN (gZ (fR (cy zC (by rfl) B.xK yc %[1,zw (v:=.ty "list") (by rfl) B.list KM Z|0]))) fJ bP)
   (aq (aX 2 Sg.nd Ij)
   (aq (eF dX Z (dE (pv 1)) (cj 3 Sg.nd)
    (aq (aX 4 Sg.nd (bf cP hr %[0,3|0]))
    (aq (bN (Ih (LP hu (bO eJ (pv 4) aK) (pv 2))) fJ bP)
    (aH (B1 hu (pv 2) (bO eJ (pv 4) aK) (pv 4) Z)))))
   (aH (bj (iS ["name","found"] 1 [2] (dE (cy (d7_ Z) (by rfl) B.sorted GH %[2|0])) (λfp s H=>eZ (i:=0) (show (["name","found"]:ae).Nodup by decide +kernel) Z (Or.inl Z)) (λfp s H=>iH)
    (λfp s H=>cb hu (pv 1) (pv 0))))))),?_]
  apply#[_,Z,_,_,_,_,Z,.lst hl,Z,_,Z,bE ?_];intro d hd;have s0:aa H (upd H d (.dK [])):=aa.new hd
  let bH:bL:=λi σ H2=>∃(v3 v4:aJ) (cs:ag),σ=[some (.ref p),some (.ref l),some (.ref d),v3,v4]/\aa H H2/\Paired (BS K H H2) cs ((ps.take i).map F1)/\H2 d=some (.dK (((ps.take i).zip cs).map λq=>(Sum.inr q.1.1,q.2)))
  apply#[_,Z,l,Z,#[_,.of (s0 _ _ hl)],fW (K:=K) (a:=l) (xs:=ys) bH #[none,none,[],Z,s0,.nil,az] (λi σ H2 _ ⟨_,_,_,_,s2,_⟩=>.of (s2 _ _ hl)) ?_ ?_]
  ·rintro i y σ H2 hy ⟨v3,v4,cs,rfl,s2,pn,hd2⟩;have hi:i<ys.length:=(cc.mp hy).1;have hq:ps[i]? = some (ps[i]' Z1):=dq Z1;let py:=hZ pc i hi Z1;rw[(cc.mp hy).2] at py;generalize ps[i]' Z1=q at hq py;apply#[_,Z,_,Z,p,y,q,hs,ts,fp,Z,W.same s2,G,py.same s2,gp q (cu hq),λy' H3 s3 pw=>?_];let#[t,v,rfl,ht,wy,hf]:=pw;let zi:=s3 _ _ hd2;let lc:=bG pn;rw[ak,cQ] at lc
   have keys:((((ps.take i).zip cs).map λq=>((Sum.inr q.1.1:Key),q.2)).map (·.1))=((ps.take i).map (·.1)).map Sum.inr:=by
    rw[cm];have:((λx:Key × V=>x.1) ∘ λq:Pc × V=>((Sum.inr q.1.1:Key),q.2))=(λp:Pc=>(Sum.inr p.1:Key)) ∘ Prod.fst:=rfl;rw[this,<- cm,List.map_fst_zip (by rw[cQ];omega),cm];rfl
   have EK:bK (((ps.take i).zip cs).map λq=>((Sum.inr q.1.1:Key),q.2)) (Sum.inr q.1)=none:=Iw (by
    rw[keys];intro m;let#[x,hx,e]:=bh.mp m;cases e;exact P3 (g:=λp:Pc=>p.1) nd hq hx)
   apply#[_,Z,t,_,_,_,Z,Z,.of ht,Z,_,Z,d,_,Z,.k (k:=Sum.inr q.1) zi,_,Z,?_];rw[EK];apply bE ?_;apply#[_,Z,_,Z,_,Z,t,_,_,_,Z,Z,.of ht,Z,d,_,Z,.k (k:=Sum.inr q.1) zi (by rw[ak,List.length_zip,cQ];omega),?_];let pJ:=s2.trans s3;have n1:∀xs,H3 d≠some (.lst xs):=λxs z=>by rw[zi] at z;cases z
   have n2:∀xs,H3 d≠some (.tup xs):=λxs z=>by rw[zi] at z;cases z
   apply#[_,_,cs++[.ref t],Z,λc o e=>?_,?_,?_]
   ·rw[au (bx e hd)];exact pJ _ _ e
   ·rw[iF,hq,b_];exact vM (Paired.bu pn λy q h=>(h.same s3).up n1 n2) (.cons (BS.up #[t,v,Z,ht,wy,λa z=>s2.free (hf a z)] n1 n2) .nil)
   ·rw[az,L1 _ EK,iF,hq,List.zip_append (by rw[cQ];omega),b_];rfl
  ·rintro σ H2 ⟨v3,v4,cs,rfl,s2,pn,hd2⟩;rw[le,dJ] at pn hd2;let lc:=bG pn;rw[ak] at lc
   have keys:(((ps.zip cs).map λq=>((Sum.inr q.1.1:Key),q.2)).map (·.1))=(ps.map (·.1)).map Sum.inr:=by
    rw[cm];have:((λx:Key × V=>x.1) ∘ λq:Pc × V=>((Sum.inr q.1.1:Key),q.2))=(λp:Pc=>(Sum.inr p.1:Key)) ∘ Prod.fst:=rfl;rw[this,<- cm,List.map_fst_zip Z1,cm];rfl
   apply#[_,Z,d,_,ps.map (·.1),Z,hd2,keys,by rw[ak];exact dm,λls Gb=>?_];let#[s3,Bm]:=aB (o:=.lst ((aV (ps.map (·.1))).map V.str)) Gb;apply#[ls,Z,#[_,.of Bm],λD hD=>?_];generalize upd H2 ls (.lst ((aV (ps.map (·.1))).map V.str))=H3 at s3 Bm hD ⊢;have lss:(aV (ps.map (·.1))).length=ps.length:=by rw[(gO _).length_eq,ak]
   apply yd (own:=1) (fv:=[some (.ref d)]) (xs:=(aV (ps.map (·.1))).map V.str) Z dP (λi out H'=>∃qs:aC,aa H3 H'/\H' D=some (.lst out)/\Paired (BS K H H2) out qs/\qs.map (·.1)=(aV (ps.map (·.1))).take i/\∀q∈qs,∃p∈ps,q=F1 p) #[[],aa.new hD,az,.nil,Z,by simp] (λi out H' _ ⟨_,sm,_⟩=>.of (sm _ _ Bm)) (λzs H4 ⟨qs,s4,Bo,pq,en,mem⟩=>?_) (λi x out H' hx ⟨qs,sm,eI,pq,en,mem⟩=>?_)
   ·rw[ak,dJ] at en;exact k D zs qs H4 (s2.trans (s3.trans s4)) Bo (Paired.bu pq λy q h=>h.same (s3.trans s4)) #[en,mem]
   ·let#[n,hn,rfl]:=iG hx;have hm:n∈ps.map (·.1):=(gO _).mem_iff.mp (cu hn);let#[q,hq,eq]:=bh.mp hm;let#[j,hj,ej]:=BB hq;have hqj:ps[j]? = some q:=by rw[dq hj,ej]
    have hcj:cs[j]? = some (cs[j]' Z1):=dq Z1;let hv:=Xx nd lc hqj hcj;let pj:=hZ pn j Z1 (by rw[ak];omega);rw[List.getElem_map,ej] at pj;generalize cs[j]' Z1=c at hcj hv pj;rw[eq] at hv;let lo:=bG pq;let lq:=dU List.length en;rw[ak,cQ] at lq;have hi:i<(aV (ps.map (·.1))).length:=(cc.mp hn).1;apply#[_,Z,Z,λNx hN=>dM ?_];apply#[_,Z,_,Z,d,c,Z,?_,out,eI,by omega,hN _ _ #[qs++[F1 q],fN sm hD,az,?_,?_,?_]]
    ·rw[<- hv];exact .k (k:=Sum.inr n) (sm _ _ (s3 _ _ hd2))
    ·exact vM pq (.cons pj .nil)
    ·rw[b_,en,iF,hn,<- eq];rfl
    ·intro q' hq';rcases fM.mp hq' with hq'|hq'
     ·exact mem q' hq'
     ·obtain rfl:q'=F1 q:=by simpa using hq'
      exact#[q,hq,Z]
end
abbrev yR:Stmt:=vH O4 0
abbrev Df:Stmt:=vH O4 1
abbrev WL:Stmt:=vH O4 2
abbrev Wl:Stmt:=vH O4 3
abbrev De:Stmt:=vH O4 5
def bX(p dw dy:Addr):List (Str × V):=aF Ks (.ref dy) (aF BP (.ref dw) (aF "web" (.ref p) []))
theorem g12:¬(("web":Str)=BP):=by decide +kernel
theorem g13:¬(("web":Str)=Ks):=by decide +kernel
theorem g23:¬((BP:Str)=Ks):=by decide +kernel
theorem zx(p dw dy:Addr):(bX p dw dy).lookup ("web":Str)=some (.ref p):=by
 unfold bX;rw[ff,ao g13,ff,ao g12,ff,aA Z]
theorem VY(p dw dy:Addr):(bX p dw dy).lookup (BP:Str)=some (.ref dw):=by
 unfold bX;rw[ff,ao g23,ff,aA Z]
theorem lf_(p dw dy:Addr):(bX p dw dy).lookup (Ks:Str)=some (.ref dy):=by
 unfold bX;rw[ff,aA Z]
theorem E9(p dw dy:Addr){m:Str}(h1:¬m="web")(h2:¬m=BP)(h3:¬m=Ks):(bX p dw dy).lookup m=none:=by
 unfold bX;rw[ff,ao h3,ff,ao h2,ff,ao h1]
 all_goals rfl
def yi(qs:aC):List (Key × V):=qs.map λq=>(Sum.inr q.1,V.int q.2.1)
def Fx(qs:aC)(vs:ag):List (Key × V):=(qs.zip vs).map λx=>(Sum.inr x.1.1,x.2)
theorem fJ_(qs:aC):(yi qs).map (·.1)=(qs.map (·.1)).map Sum.inr:=by
 unfold yi;rw[cm,cm];rfl
variable{qs:aC}
theorem ja_{vs:ag}(h:vs.length=qs.length):(Fx qs vs).map (·.1)=(qs.map (·.1)).map Sum.inr:=by
 unfold Fx;rw[cm];have:((λx:Key × V=>x.1) ∘ λq:Pc × V=>((Sum.inr q.1.1:Key),q.2))=(λp:Pc=>(Sum.inr p.1:Key)) ∘ Prod.fst:=rfl;rw[this,<- cm,List.map_fst_zip Z1,cm];rfl
structure ij (K:af) (CG CW:Addr) (H:Hp) (g p:Addr) (hs:Xa) (ts:Xb) (qs:aC) (fp:ay):Prop where
 ex:∃(dx dw dy:Addr) (vs:ag) (cq:ay),H g=some (.ins CG dx (bX p dw dy))/\gn K CW H p hs ts cq/\H dw=some (.dK (yi qs))/\H dy=some (.dK (Fx qs vs))/\Paired (λv (q:Pc)=>bS K H v q.2.2) vs qs /\
  g∈fp/\dw∈fp/\dy∈fp/\(∀b∈cq,b∈fp)/\∀v∈vs,∀a,v=.ref a->a∈fp
theorem YH{α β:Type}{F G:α->β->Prop}:∀{l:List α} {m:List β},Paired F l m->(∀a∈l,∀b,F a b->G a b)->Paired G l m
 |_,_,.nil,_=>.nil
 |_,_,.cons h t,f=>.cons (f _ c8 _ h) (YH t λa ha=>f a (dF _ ha))
theorem bS.keep{K:af}{H:Hp}(h:bS K H v o)(k:∀a,v=.ref a->∀u,H a=some u->H' a=some u)(kt:∀b xs,H b=some (.tup xs)->H' b=some (.tup xs)):bS K H' v o:=by
 cases o with
 |none=>exact h
 |some ws=>
  let#[a,ys,e,ha,t]:=h;exact#[a,ys,e,k a e _ ha,Paired.bu t λy q ⟨b,z,hb⟩=>#[b,z,kt _ _ hb]]
variable{fp:ay}
theorem ij.keep{K:af}{CG CW:Addr}{H:Hp}{g p:Addr}{hs:Xa}{ts:Xb}(G:ij K CG CW H g p hs ts qs fp)(k:∀b∈fp,∀o,H b=some o->H' b=some o)(kt:∀b xs,H b=some (.tup xs)->H' b=some (.tup xs)):ij K CG CW H' g p hs ts qs fp:=by
 let#[dx,dw,dy,vs,cq,h1,h2,h3,h4,h5,m1,m2,m3,m4,m5]:=G.ex;exact#[dx,dw,dy,vs,cq,k _ m1 _ h1,h2.keep (λb hb o e=>k b (m4 b hb) o e) kt,k _ m2 _ h3,k _ m3 _ h4,YH h5 λv hv q h=>h.keep (λa z u e=>k a (m5 v hv a z) u e) kt,m1,m2,m3,m4,m5]
theorem ij.same{K:af}{CG CW:Addr}{H:Hp}{g p:Addr}{hs:Xa}{ts:Xb}(G:ij K CG CW H g p hs ts qs fp)(s:aa H H'):ij K CG CW H' g p hs ts qs fp:=G.keep (λb _ o e=>s b o e) λb xs e=>s b _ e
structure eE (K:af) (CG:Addr):Prop where
 cl:zI K CG
 nW:ya K CG "web"
 nG:ya K CG BP
 nY:ya K CG Ks
structure Qh (K:af) (C:Addr):Prop where
 ha:PySem.W.findIn K (.ref C) "__class__"=some (some (.builtin "object.__class__"))
 hn:PySem.W.specialIn K (.builtin "object.__class__") "__get__"=some (some (.builtin "getset_descriptor.__get__"))
 tk:PySem.W.takesIn K (.builtin "object.__class__")=some true
 mo:PySem.W.mroIn K C (.type "object")=some true
theorem iC_(K:af)(c:Aa):PySem.W.kitOne K c c=some true:=by
 unfold PySem.W.kitOne;rw[aA (beq_self_eq_true c)]
theorem fY_{K:af}{H0 H:Hp}:∀{zs:ag} {qs:aC},Paired (BS K H0 H) zs qs->∃vs:ag,vs.length=qs.length/\Paired (λz (x:Pc × V)=>∃t,z=.ref t/\H t=some (.tup [.str x.1.1,.int x.1.2.1,x.2])) zs (qs.zip vs)/\Paired (λv (q:Pc)=>bS K H v q.2.2) vs qs/\∀v∈vs,∀a,v=.ref a->H0 a=none
 |_,_,.nil=>#[[],Z,.nil,.nil,by simp]
 |_,_,.cons ⟨t,v,e,ht,wy,hn⟩ r=>by
  let#[vs,h1,h2,h3,h4]:=fY_ r;apply#[v::vs,by simp[h1],.cons #[t,e,ht] h2,.cons wy h3,λu hu=>?_];rcases bW.mp hu with rfl|hu
  ·exact hn
  ·exact h4 u hu
theorem fz_{K:af}{l:Addr}{zs:ag}{xs:List (Pc × V)}{H:Hp}{Q:VK}{yg:St}{j:Nat}(sel:Pc × V->V)(hj:∀x:Pc × V,[some (V.str x.1.1),some (V.int x.1.2.1),some x.2][j]? = some (some (sel x)))(DM:yg=[none,none,none])(hl:H l=some (.lst zs))(pz:Paired (λz (x:Pc × V)=>∃t,z=.ref t/\H t=some (.tup [.str x.1.1,.int x.1.2.1,x.2])) zs xs)(HI:xs.length<=1000)(hD:H D=none)(q:∀H' out,aa H H'->H' D=some (.lst out)->i_ K H' out (xs.map λx=>(Sum.inr x.1.1,sel x))->Q (.ref D) H') :
  Ki (II K l) (pT K 3 (EZ (xT 0) (EZ (xT 1) (EZ (xT 2) Gk)))) Cc (Mx (wB (Cf 0) (wB (Cf j) pH))) yg D H Q:=by
 let sz:=ck;let le:=bG pz
 let aQ:dG:=λi out H'=>aa H H'/\H' D=some (.lst out)/\i_ K H' out ((xs.take i).map λx=>(Sum.inr x.1.1,sel x))
 apply yd (own:=3) (fv:=[]) (xs:=zs) DM VI aQ #[aa.new hD,az,.nil] (λi out H' _ ⟨sm,_,_⟩=>.of (sm _ _ hl)) (λout H4 ⟨sm,Bo,eo⟩=>?_) (λi y out H' hy ⟨sm,eI,eo⟩=>?_)
 ·rw[le,dJ] at eo;exact q _ _ sm Bo eo
 ·have hi:i<zs.length:=(cc.mp hy).1;have hx:xs[i]? = some (xs[i]' Z1):=dq Z1;let#[t,et,ht]:=hZ pz i hi Z1;rw[(cc.mp hy).2] at et;subst et;generalize xs[i]' Z1=x at hx ht;let lo:=bG eo;rw[ak,cQ] at lo;apply#[_,#[t,_,_,_,Z,.of (sm _ _ ht),Z],Z,λNx hN=>dM ?_];apply#[_,Z,_,hj x,zl,λp hp=>?_];let s2:=aa.new (o:=.tup [.str x.1.1,sel x]) hp;apply#[out,s2 _ _ eI,by omega,hN _ _ #[fN (sm.trans s2) hD,az,?_]];rw[Iz _ hx];have pD:∀{b:Addr} {ys:ag},upd H' p (.tup [.str x.1.1,sel x]) b=some (.tup ys)->b≠D:=λhb=>cU hb (s2 _ _ eI) nofun;apply vM (Paired.bu eo λy kv ⟨b,z,hb⟩=>#[b,z,by rw[au (pD (s2 _ _ hb))];exact s2 _ _ hb]) (.cons #[p,Z,?_] .nil);have Az:upd H' p (.tup [.str x.1.1,sel x]) p=some (.tup [.str x.1.1,sel x]):=az;rw[au (pD Az)];exact Az
section
variable{P:Ad}{w:Af}{K:af}{mg:Str->Option Aa}{base:Heap}
theorem Ak:bD ["self","web","pieces","checked"] ["self","web","pieces"] (bb yR):=bJ
inductive Ws (K:af) (CG CW:Addr) (vs:ag) (H:Hp) (Q:VK) (E:XK):Prop
 |mk:∀(g dx p l:Addr) (ys:ag) (ps:aC) (hs:Xa) (ts:Xb) (cq:ay),vs=[.ref g,.ref p,.ref l]->H g=some (.ins CG dx [])->gn K CW H p hs ts cq->g∉cq->Good hs ts->H l=some (.lst ys)->Kn K H ys ps->(∀q∈ps,Ko ts q)->(ps.map (·.1)).Nodup->ps.length<64->(∀qs fp H',(∀b o,H b=some o->b≠g->H' b=some o)->ij K CG CW H' g p hs ts qs fp->Qs ps qs->(∀b∈fp,b=g∨b∈cq∨H b=none)->Q .non H')->Ws K CG CW vs H Q E
theorem j6_{CG CW:Addr}(F:bp K "__init__" "Goods.__init__" yR f fd)(T:eE K CG)(TW:Txt K mg CW)(IW:Qh K CW)(B:Bi mg)(Ui:mg "Web"=some (.ref CW))(cP:!bt 6 "checked_pieces" ["web","pieces"] (Xc K CW)):!aj ba 7 f fd ["self","web","pieces"] (Ws K CG CW):=by
 apply F.bI Ak λaR A outer s H vs Q E hr h=>?_
 ·let#[g,dx,p,l,ys,ps,hs,ts,cq,rfl,hg,W,gw,G,hl,pc,gp,nd,dm,k]:=h
  apply#[_,aq (bN (gZ (fR (cy ij_ (by rfl) B.xK yc %[1,KH (v:=.ref CW) (by rfl) Ui Z|0]))) fJ bP)
   (aq (aX 3 Ak.nd (bf cP hr %[1,2|0]))
   (aq (E6 (pv 0) (pv 1) Z)
   (aq (E6 (pv 0) (qe (Fl Z) (by rfl) B.dict BZ %[iS HR 3 [] (dE (pv 3)) (λfp s H=>RD (n:=3) (dZ (eZ (i:=0) (show (HR:ae).Nodup by decide +kernel) Z (Or.inl Z)) (dZ (eZ (i:=1) (show (HR:ae).Nodup by decide +kernel) Z (Or.inl Z)) (dZ (eZ (i:=2) (show (HR:ae).Nodup by decide +kernel) Z (Or.inl Z)) jf)))) (λfp s H=>iH) (λfp s H=>fe %[0,1|0])|0]) Z)
   (aH (E6 (pv 0) (qe (Fl Z) (by rfl) B.dict BZ %[iS HR 3 [] (dE (pv 3)) (λfp s H=>RD (n:=3) (dZ (eZ (i:=0) (show (HR:ae).Nodup by decide +kernel) Z (Or.inl Z)) (dZ (eZ (i:=1) (show (HR:ae).Nodup by decide +kernel) Z (Or.inl Z)) (dZ (eZ (i:=2) (show (HR:ae).Nodup by decide +kernel) Z (Or.inl Z)) jf)))) (λfp s H=>iH) (λfp s H=>fe %[0,2|0])|0]) Z))))),?_]
  let#[fK,d1,l2,d3,vO,as,ef,w1,_]:=id W.ex;apply#[_,Z,_,_,_,_,Z,.ins w1 TW.cl IW.ha IW.hn IW.tk IW.mo,iC_ _ _,_,Z,bE ?_];apply#[_,Z,_,Z,p,l,ys,ps,hs,ts,cq,Z,W,G,hl,pc,gp,nd,dm,λlc zs qs H1 s1 Ot pn Qq=>?_];let#[vs,lv,pz,wys,Mn]:=fY_ pn;let OC:=s1 _ _ hg
  have lq:qs.length=ps.length:=by
   have:=dU List.length Qq.Dy;rw[ak,(gO _).length_eq,ak] at this;exact this
  have qnd:(qs.map (·.1)).Nodup:=by
   rw[Qq.Dy];exact (gO _).nodup_iff.mpr nd
  apply#[_,Z,_,Z,g,CG,dx,[],Z,OC,T.cl,T.nW,by show 0<1000;decide,?_];have up1:∀{b o},H1 b=some o->b≠g->upd H1 g (.ins CG dx (aF "web" (.ref p) [])) b=some o:=λe ne=>by rw[au ne];exact e
  have Vk:upd H1 g (.ins CG dx (aF "web" (.ref p) [])) g=some (.ins CG dx (aF "web" (.ref p) [])):=az
  have LG:∀{b},upd H1 g (.ins CG dx (aF "web" (.ref p) [])) b=none->H1 b=none:=λ{b} e=>by
   by_cases z:b=g
   ·rw[z,az] at e;cases e
   ·rw[au z] at e;exact e
  generalize upd H1 g (.ins CG dx (aF "web" (.ref p) []))=H2 at up1 Vk LG ⊢;have QM:lc≠g:=cU Ot OC nofun;have pz2:Paired (λz (x:Pc × V)=>∃t,z=.ref t/\H2 t=some (.tup [.str x.1.1,.int x.1.2.1,x.2])) zs (qs.zip vs):=Paired.bu pz λz x ⟨t,e,ht⟩=>#[t,e,up1 ht (cU ht OC nofun)];have zM:(qs.zip vs).length<=1000:=by rw[List.length_zip];omega
  apply#[_,Z,lc,Z,#[_,.of (up1 Ot QM)],λD hD=>?_];apply fz_ (λx=>.int x.1.2.1) (λx=>rfl) Z (up1 Ot QM) pz2 zM hD λH3 out s3 Lx pa3=>?_;apply#[D,out,_,Z,Lx,pa3,by rw[ak];exact zM,λdw Vr=>?_]
  have ekv:((qs.zip vs).map λx:Pc × V=>((Sum.inr x.1.1:Key),V.int x.1.2.1))=yi qs:=by
   unfold yi;have:(λx:Pc × V=>((Sum.inr x.1.1:Key),V.int x.1.2.1))=(λq:Pc=>((Sum.inr q.1:Key),V.int q.2.1)) ∘ Prod.fst:=rfl;rw[this,<- cm,List.map_fst_zip Z1]
  have Hn:(qs.map (·.1)).map (Sum.inr:Str->Key) |>.Nodup:=by
   rw[Fq,zE];exact qnd.imp λn e=>n (hU e)
  rw[ekv,Fi (by rw[fJ_];exact Hn)];let s4:=aa.new (o:=.dK (yi qs)) Vr;let hg4:=s4 _ _ (s3 _ _ Vk);apply#[_,Z,g,CG,dx,_,Z,hg4,T.cl,T.nG,by show 1<1000;decide,?_];let Qy:=s3.trans s4;have OF:upd H3 dw (.dK (yi qs)) dw=some (.dK (yi qs)):=az;have dwg:dw≠g:=(bx (s3 _ _ Vk) Vr).symm;have fr4:∀{b},upd H3 dw (.dK (yi qs)) b=none->H2 b=none:=λe=>Qy.free e;have dwn:H2 dw=none:=s3.free Vr;generalize upd H3 dw (.dK (yi qs))=H4 at s4 hg4 Qy OF fr4 ⊢;have EH:∀{b o},H4 b=some o->b≠g->upd H4 g (.ins CG dx (aF BP (.ref dw) (aF "web" (.ref p) []))) b=some o:=λe ne=>by rw[au ne];exact e
  have Vj:upd H4 g (.ins CG dx (aF BP (.ref dw) (aF "web" (.ref p) []))) g=some (.ins CG dx (aF BP (.ref dw) (aF "web" (.ref p) []))):=az
  have AJ:∀{b},upd H4 g (.ins CG dx (aF BP (.ref dw) (aF "web" (.ref p) []))) b=none->H4 b=none:=λ{b} e=>by
   by_cases z:b=g
   ·rw[z,az] at e;cases e
   ·rw[au z] at e;exact e
  generalize upd H4 g (.ins CG dx (aF BP (.ref dw) (aF "web" (.ref p) [])))=H5 at EH Vj AJ ⊢;have FA:∀{b o},H1 b=some o->b≠g->H5 b=some o:=λe ne=>EH (Qy _ _ (up1 e ne)) ne;have pz5:Paired (λz (x:Pc × V)=>∃t,z=.ref t/\H5 t=some (.tup [.str x.1.1,.int x.1.2.1,x.2])) zs (qs.zip vs):=Paired.bu pz λz x ⟨t,e,ht⟩=>#[t,e,FA ht (cU ht OC nofun)];apply#[_,Z,lc,Z,#[_,.of (FA Ot QM)],λD2 i9=>?_];apply fz_ (λx=>x.2) (λx=>rfl) Z (FA Ot QM) pz5 zM i9 λH6 gD s6 VE pa6=>?_;apply#[D2,gD,_,Z,VE,pa6,by rw[ak];exact zM,λdy Vo=>?_];rw[show ((qs.zip vs).map λx:Pc × V=>((Sum.inr x.1.1:Key),x.2))=Fx qs vs from Z,Fi (by rw[ja_ lv];exact Hn)];let s7:=aa.new (o:=.dK (Fx qs vs)) Vo;let An:=s6.trans s7;let hg7:=An _ _ Vj;apply#[_,Z,g,CG,dx,_,Z,hg7,T.cl,T.nY,by show 2<1000;decide,?_];have OE:upd H6 dy (.dK (Fx qs vs)) dy=some (.dK (Fx qs vs)):=az;have dyg:dy≠g:=(bx (s6 _ _ Vj) Vo).symm;have dyn:H5 dy=none:=s6.free Vo;generalize upd H6 dy (.dK (Fx qs vs))=H7 at s7 An hg7 OE ⊢
  have fin:∀{b o},H1 b=some o->b≠g->upd H7 g (.ins CG dx (bX p dw dy)) b=some o:=λe ne=>by
   rw[au ne];exact An _ _ (FA e ne)
  have Mp:∀b xs,H1 b=some (.tup xs)->upd H7 g (.ins CG dx (bX p dw dy)) b=some (.tup xs):=λb xs e=>fin e (cU e OC nofun);have nH:∀{b},H1 b=none->H b=none:=λe=>s1.free e;apply k qs (g::dw::dy::(cq++vs.filterMap λv=>match v with | .ref a=>some a|_=>none)) _ (λb o e ne=>fin (s1 _ _ e) ne) #[dx,dw,dy,vs,cq,az,?_,?_,?_,?_,by simp,by simp,by simp,λb hb=>by simp[hb],λv hv a z=>?_] Qq λb hb=>?_
  ·exact W.keep (λb hb o e=>fin (s1 _ _ e) (λz=>gw (z▸hb))) λb xs e=>Mp b xs (s1 _ _ e)
  ·rw[au dwg];exact An _ _ (EH OF dwg)
  ·rw[au dyg];exact OE
  ·exact YH wys λv hv q h=>h.keep (λa z u e=>fin e (λzz=>by
    subst zz;have:=Mn v hv _ z;rw[hg] at this;cases this)) λb xs e=>Mp b xs e
  ·apply dF _ (dF _ (dF _ (zF _ (GP.mpr #[v,hv,?_]))));rw[z]
  ·simp only[bW,fM,GP] at hb;rcases hb with rfl|rfl|rfl|hb|⟨v,hv,e⟩
   ·exact .inl Z
   ·exact .inr (.inr (nH (LG dwn)))
   ·exact .inr (.inr (nH (LG (Qy.free (AJ dyn)))))
   ·exact .inr (.inl hb)
   ·cases v with
    |ref a=>
     cases e;exact .inr (.inr (Mn _ hv _ Z))
    |_=>cases e
end
end Ev
namespace L2
open PySem
end L2
namespace Ev
open PySem L2
theorem fj_{kvs:List (Key × V)}{ns:ae}(h:kvs.map (·.1)=ns.map Sum.inr)(x:Str):(bK kvs (Sum.inr x)).isSome=decide (x∈ns):=by
 by_cases hx:x∈ns
 ·rw[cw hx];apply es_ ?_;rw[h];exact bh.mpr #[x,hx,Z]
 ·rw[dR hx,Iw]
  ·rfl
  ·rw[h];intro m;let#[y,hy,e]:=bh.mp m;cases e;exact hx hy
variable{q:Pc}
theorem lM_{qs:aC}(nd:(qs.map (·.1)).Nodup)(hq:q∈qs):bK (yi qs) (Sum.inr q.1)=some (.int q.2.1):=by
 let#[j,hj,e]:=BB hq;have:=Xx (ps:=qs) (cs:=qs.map λq=>V.int q.2.1) nd (by rw[ak]) (j:=j) (q:=q) (c:=.int q.2.1) (by rw[dq hj,e]) (by rw[dQ,dq hj,e];rfl)
 have e2:((qs.zip (qs.map λq=>V.int q.2.1)).map λq=>((Sum.inr q.1.1:Key),q.2))=yi qs:=by
  unfold yi;rw[List.zip_map_right,cm]
  have:qs.zip qs=qs.map λq=>(q,q):=by
   clear nd hq this hj e j
   induction qs with
   |nil=>rfl
   |cons a l ih=>rw[List.zip_cons_cons,ih,el]
  rw[this,cm];rfl
 rwa [e2] at this
theorem lE_{qs:aC}{vs:ag}(nd:(qs.map (·.1)).Nodup){K:af}{H:Hp}(h:Paired (λv (q:Pc)=>bS K H v q.2.2) vs qs)(hq:q∈qs):∃v∈vs,bK (Fx qs vs) (Sum.inr q.1)=some v/\bS K H v q.2.2:=by
 let#[j,hj,e]:=BB hq;let hl:=bG h;have hv:j<vs.length:=by omega
 let p:=hZ h j hv hj;rw[e] at p;exact#[vs[j],jg hv,Xx nd Z1 (by rw[dq hj,e]) (dq hv),p]
def J_(hs:Xa)(ts:Xb)(o:Option (Xb))(x y:Option Str):Bool:=
 wx hs ts x y&&match o,x,y with
  |none,_,_=>true
  |some ws,some a,some b=>decide (aL a b∈ws)
  |_,_,_=>false
variable{f:Addr}{fd:Ae}
section
variable{P:Ad}{w:Af}{K:af}{mg:Str->Option Aa}{base:Heap}
theorem Jj:bD AN AN (bb Df):=bJ
inductive O3 (K:af) (CG CW:Addr) (vs:ag) (H:Hp) (Q:VK) (E:XK):Prop
 |mk:∀(g p:Addr) (v:V) (x:Option Str) (hs:Xa) (ts:Xb) (qs:aC) (fp:ay),vs=[.ref g,v]->ij K CG CW H g p hs ts qs fp->xw K H v x->Q (.bl (NQ (qs.map (·.1)) x)) H->O3 K CG CW vs H Q E
theorem kR_{CG CW:Addr}(F:bp K "has_piece" "Goods.has_piece" Df f fd)(T:eE K CG)(B:Bi mg):!aj ba 1 f fd AN (O3 K CG CW):=by
 apply F.bI Jj λaR A outer s H vs Q E hr h=>?_
 ·let#[g,p,v,x,hs,ts,qs,fp,rfl,G,sv,k]:=h;let hu:=eV hr;let#[dx,dw,dy,vs,cq,h1,h2,h3,h4,h5,m1,m2,m3,m4,m5]:=G.ex;apply#[_,aH (bj (En (cy zC (by rfl) B.xK yc %[1,zw (v:=.ty "str") (by rfl) B.str O9 Z|0]) (AO (O_ (LP hu (pv 1) (dW (pv 0) Z)))))),?_];cases x with
  |some x=>
   cases (show v=.str x from sv);apply#[_,Z,_,_,_,_,Z,.str x,Z,_,Z,fG ?_];apply#[_,Z,_,Z,g,CG,dx,_,_,Z,h1,T.cl,T.nG,VY _ _ _,dw,_,Z,.k (k:=Sum.inr x) h3,?_];rw[fj_ (fJ_ qs)];exact k
  |none=>
   let#[t,ty,e]:=sv;exact#[_,Z,_,_,_,_,Z,ty,e,_,Z,bE k]
theorem CN:bD ik ik (bb WL):=bJ
inductive Xo (K:af) (CG CW:Addr) (vs:ag) (H:Hp) (Q:VK) (E:XK):Prop
 |mk:∀(g p:Addr) (hs:Xa) (ts:Xb) (qs:aC) (fp:ay),vs=[.ref g]->ij K CG CW H g p hs ts qs fp->(∀l,H l=none->Q (.ref l) (upd H l (.lst ((qs.map (·.1)).map V.str))))->Xo K CG CW vs H Q E
theorem hT_{CG CW:Addr}(F:bp K "names" "Goods.names" WL f fd)(T:eE K CG)(B:Bi mg):!aj ba 1 f fd ik (Xo K CG CW):=by
 apply F.bI CN λaR A outer s H vs Q E hr h=>?_
 ·let#[g,p,hs,ts,qs,fp,rfl,G,k]:=h;let#[dx,dw,dy,vs,cq,h1,h2,h3,h4,h5,m1,m2,m3,m4,m5]:=G.ex;apply#[_,aH (bj (qe (YD Z) (by rfl) B.list KM %[dW (pv 0) Z|0])),?_];apply#[_,Z,g,CG,dx,_,_,Z,h1,T.cl,T.nG,VY _ _ _,dw,_,Z,.inl h3,λl hl=>?_]
  have e:((yi qs).map λkv=>kV kv.1)=(qs.map (·.1)).map V.str:=by
   unfold yi;rw[cm,cm];rfl
  rw[e];exact k l hl
structure Ref (K:af) (mg:Str->Option Aa) (x:Str) (C:Addr):Prop where
 mg:mg x=some (.ref C)
 ex:PySem.W.excIn K C [.type "ValueError",.type "Exception",.type "BaseException",.type "object"] "ValueError.__new__"=true
theorem Ba:bD HQ HQ (bb Wl):=bJ
inductive KR (K:af) (CG CW CP:Addr) (vs:ag) (H:Hp) (Q:VK) (E:XK):Prop
 |mk:∀(g p:Addr) (v:V) (x:Option Str) (hs:Xa) (ts:Xb) (qs:aC) (fp:ay),vs=[.ref g,v]->ij K CG CW H g p hs ts qs fp->(qs.map (·.1)).Nodup->xw K H v x->((∃q∈qs,x=some q.1/\Q (.int q.2.1) H)∨False)->KR K CG CW CP vs H Q E
theorem gr_{CG CW CP:Addr}(F:bp K "weight" "Goods.weight" Wl f fd)(T:eE K CG)(cH:!bB CG 1 "has_piece" AN (O3 K CG CW)):!aj ba 2 f fd HQ (KR K CG CW CP):=by
 apply F.bI Ba λaR A outer s H vs Q E hr h=>?_
 ·let#[g,p,v,x,hs,ts,qs,fp,rfl,G,nd,sv,k]:=h;let hu:=eV hr;let#[dx,dw,dy,vs,cq,h1,h2,h3,h4,h5,m1,m2,m3,m4,m5]:=id G.ex;have AA:(bX p dw dy).lookup ("has_piece":Str)=none:=E9 _ _ _ Z0 Z0 Z0;apply#[_,aq (bN (gZ (fR (fL cH T.cl hr (pv 0) %[1|0]))) fJ bP) (aH (bj (cb hu (dW (pv 0) Z) (pv 1)))),?_];apply#[_,Z,g,dx,_,Z,h1,AA,_,Z,g,p,v,x,hs,ts,qs,fp,Z,G,sv,_,Z,?_];rcases k with⟨q,hq,rfl,k⟩|k
  ·cases (show v=.str q.1 from sv);rw[show NQ (qs.map (·.1)) (some q.1)=true from cw (bh.mpr #[q,hq,Z])];apply bE ?_;apply#[_,Z,g,CG,dx,_,_,Z,h1,T.cl,T.nG,VY _ _ _,_,Z,dw,_,Z,?_,k];rw[<- lM_ nd hq];exact .k (k:=Sum.inr q.1) h3
  ·exact k.elim
theorem CO:bD ["self","piece","one","other","ties"] AY (bb De):=bJ
inductive Q9 (K:af) (CG CW CP:Addr) (vs:ag) (H:Hp) (Q:VK) (E:XK):Prop
 |mk:∀(g p:Addr) (v u1 u2:V) (x y1 y2:Option Str) (hs:Xa) (ts:Xb) (qs:aC) (fp:ay),vs=[.ref g,v,u1,u2]->ij K CG CW H g p hs ts qs fp->(qs.map (·.1)).Nodup->(aI hs).Nodup->xw K H v x->((∃q∈qs,x=some q.1/\xw K H u1 y1/\xw K H u2 y2/\∀H',aa H H'->Q (.bl (J_ hs ts q.2.2 y1 y2)) H')∨False)->Q9 K CG CW CP vs H Q E
theorem kY_{CG CW CP:Addr}(F:bp K "may_go" "Goods.may_go" De f fd)(T:eE K CG)(TW:Txt K mg CW)(cH:!bB CG 1 "has_piece" AN (O3 K CG CW))(cT:!bB CW 2 "are_tied" xU (RC K CW))(cL:!bt 1 "lesser_first" BQ Sn) :
  aj P w K mg base ba 3 f fd AY (Q9 K CG CW CP):=by
 apply F.bI CO λaR A outer s H vs Q E hr h=>?_
 ·let#[g,p,v,u1,u2,x,y1,y2,hs,ts,qs,fp,rfl,G,nd,BF,sv,k]:=h;let hu:=eV hr;have xa:aY 1 _:=hr.mono (by decide);let#[dx,dw,dy,vs,cq,h1,h2,h3,h4,h5,m1,m2,m3,m4,m5]:=id G.ex;have AA:(bX p dw dy).lookup ("has_piece":Str)=none:=E9 _ _ _ Z0 Z0 Z0;let#[fK,d1,l2,d3,vO,as,ef,w1,_]:=id h2.ex;have iz:(da d1 l2 d3).lookup ("are_tied":Str)=none:=je _ _ _ Z0 Z0 Z0
  apply#[_,aq (bN (gZ (fR (fL cH T.cl xa (pv 0) %[1|0]))) fJ bP)
   (aq (bN (gZ (fR (fL cT TW.cl hr (dW (pv 0) Z) %[2,3|0]))) (aH (bj Gq)) bP)
   (aq (aX 4 CO.nd (cb hu (dW (pv 0) Z) (pv 1)))
   (aH (bj (Lz (O_ (Rf (pv 4))) (AO (iR (O8 (GD fH fH) (xV hr _)) (bf cL hr %[2,3|0]) (pv 4) (by with_unfolding_all rfl)))))))),?_]
  apply#[_,Z,g,dx,_,Z,h1,AA,_,Z,g,p,v,x,hs,ts,qs,fp,Z,G,sv,_,Z,?_];rcases k with⟨q,hq,rfl,s1,s2,k⟩|k
  ·cases (show v=.str q.1 from sv);rw[show NQ (qs.map (·.1)) (some q.1)=true from cw (bh.mpr #[q,hq,Z])];apply bE ?_;apply#[_,Z,g,CG,dx,_,_,Z,h1,T.cl,T.nW,zx _ _ _,p,fK,_,Z,w1,iz,_,Z,_,Z,p,u1,u2,y1,y2,hs,ts,cq,Z,h2,BF,s1,s2,_,Z,?_];cases tb:wx hs ts y1 y2 with
   |false=>
    apply fG ?_;have:=k H (aa.refl H);unfold J_ at this;rw[tb,By] at this;exact this
   |true=>
    apply bE ?_;let#[u,_X,eu,wy]:=lE_ nd h5 hq;apply#[_,Z,g,CG,dx,_,_,Z,h1,T.cl,T.nY,lf_ _ _ _,_,Z,dy,u,Z,?_,?_]
    ·rw[<- eu];exact .k (k:=Sum.inr q.1) h4
    ·apply#[_,Z,_,Z,?_];unfold J_ at k;rw[tb] at k;cases e:q.2.2 with
     |none=>
      rw[e] at wy k;cases (show u=.non from wy);exact fG (k H (aa.refl H))
     |some ws=>
      rw[e] at wy k;let#[a,ys,rfl,ha,tu]:=wy;cases y1 with
      |none=>cases tb
      |some a1=>
       cases y2 with
       |none=>cases tb
       |some a2=>
        cases (show u1=.str a1 from s1);cases (show u2=.str a2 from s2);apply bE #[_,Z,_,Z,a1,a2,Z,λt ht=>?_];have s3:aa H (upd H t (.tup [.str (aL a1 a2).1,.str (aL a1 a2).2])):=aa.new ht;apply#[_,Z,aL a1 a2,ws,#[t,_,_,Z,.of az,Z,Z],#[a,ys,Z,.of (s3 _ _ ha),Pg (tu.same s3)],?_];let z:=k _ s3;rw[Bool.true_and] at z;rw[ao gM];show Q (.bl _) _;have z:Q (.bl (decide (aL a1 a2∈ws))) (upd H t (.tup [.str (aL a1 a2).1,.str (aL a1 a2).2])):=z;generalize upd H t (.tup [.str (aL a1 a2).1,.str (aL a1 a2).2])=Hz at z ⊢;by_cases hm:aL a1 a2∈ws
        ·simpa [hm] using z
        ·simpa [hm] using z
  ·exact k.elim
end
end Ev
namespace L2
open PySem PySem.Spec PyProof.Rows PySem.W
variable{P:Ad}{w:Af}
theorem hG_{k:Key}{key:Aa}(h:(fI P w).is k key=true):RelV (kV k) key:=by
 have e2:Gz k key=true:=h;rcases B6 e2 with⟨i,t,rfl,rfl⟩|⟨x,t,rfl,rfl⟩
 ·exact#[t,Z]
 ·exact#[t,Z]
def Itm(d:Addr)(o:Obj)(kvs:List (Key × V)):It:=#[λi H=>H d=some (.frz o (.dK kvs))/\i<kvs.length,λi H y H'=>∃t k x,y=.ref t/\H t=none/\kvs[i]? = some (k,x)/\H'=upd H t (.tup [kV k,x]),λi H=>H d=some (.frz o (.dK kvs))/\kvs.length<=i]
variable{K:af}{elts:List Expr}{ep kk:Nat}{es:Array DictEntry}
theorem gD_{pos:Pos}(d it:Addr)(o:Obj)(kvs:List (Key × V))(ho:o.data=.dict es ep):Turn P w K (.Tuple elts kk pos) (Itm d o kvs) [it] it (λi h=>∃ok ov,IsItemIter h it d i kvs.length ep ok ov) where
 mem:=by simp
 obj:=λi h st b hb=>by
  obtain rfl:b=it:=by simpa using hb
  let#[ok,ov,q]:=st;exact#[_,q,λv z=>by cases z]
 keep:=λi h h' st k=>by
  let#[ok,ov,q]:=st;exact#[ok,ov,k it Z2 _ q]
 item:=by
  intro X hP hw hK hc i pins s σ H E I hf st hg;subst hP hw hK;let#[hd,hi]:=hg;let#[vs,rel,dat]:=L5 I hd ho;obtain⟨⟨k,x⟩,hx⟩:∃p,kvs[i]? = some p:=#[kvs[i],by simp[hi]];let#[u,hu,ru]:=U1 rel i hx;let#[ok,ov,st]:=st;have itl:it<s.heap.objs.size:=cE st;rw[rel.length] at st;apply wpAny_pyNext_items_item st dat hu λkey h' hk out ht sz kp=>?_;apply#[_,Z,wpAny_letOwnedTupleGo_items (s:={ s with heap:=h' }) out λh2 fj sb=>?_];have nT:s.heap.objs.size≠it:=Fc itl;have I1:Inv X pins σ (upd H s.heap.objs.size (.tup [kV k,x])) { s with heap:=h2 }:=I.zN (t':=s.toks) (fp:=[it]) (its:=[key,u]) (λb o hb q=>(sb.2 b (by simpa using hb)).trans (kp b o (by simpa using hb) q)) hf (bo _) (zl) (.cons (hG_ hk) (.cons ru .nil)) #[#[_,(sb.2 _ nT).trans ht,Z,_,Z],_,(sb.2 _ nT).trans ht,Z];apply#[.ref _,_,I1,Z,#[_,k,x,Z,I.aO.fresh (bo _),hx,Z],#[_,_,by rw[rel.length];exact fj],λb hb=>?_];have e:b=it:=by simpa using hb
  rw[au (λz=>nT (z.symm.trans e))];exact (hf b hb).1
 done:=by
  intro X hP hw hK hc i pins s σ H E I hf st hg;subst hP hw hK;let#[hd,hi]:=hg;let#[vs,rel,dat]:=L5 I hd ho;let#[f0,f1,f2,f3,f4,f5]:=hf it Z2;let#[ok,ov,st]:=st;rw[rel.length] at st hi;exact wpAny_pyNext_items_end (I.ok.hd hc) st dat (by simp;omega) λh' eb=>#[Z,I.turned (t':=s.toks) (λb o hb e=>eb b o hb e) f0 f1 f3 f4 f5]
 self:=λA i s Q E st h=>by
  let#[ok,ov,q]:=st;exact kcp_self q h
inductive Ay (R:It->Hp->Prop) (x:V) (H1:Hp):Prop
 |mk:∀v d kvs,x=.ref v->H1 v=some (Em v d)->H1 d=some (.dK kvs)->(∀o,R (Itm d o kvs) (upd H1 d (.frz o (.dK kvs))))->Ay R x H1
def JL(tv:TE):TI:=λσ H R=>tv σ H λx H1=>Ay R x H1
variable{X:Cx}{e:Expr}{tv:TE}
theorem Xr{p2:Pos}(he:PE X e tv):PI X (.Tuple elts kk p2) e (JL tv):=by
 intro pins s σ H R I h;apply aZ (he pins s σ H _ I h) λu s1 ⟨x,H1,I1,r1,v,d,kvs,ex,hv,hd,q⟩=>?_;subst ex;cases r1;let#[iv,_,_]:=I1.aO v _ hv;let#[o,ho,I2]:=I1.freeze hd;let#[z,_,vs,rel,o',es,ep,i8,c',dt,r]:=HX I1.aO hd;rw[ho] at i8;cases i8;apply wpAny_pyIter_items (knd:=fI X.prog X.w) (kvs:=vs) (ep:=ep) iv #[o,es,ho,c',dt,r] ?_;apply#[s1.heap.objs.size,[s1.heap.objs.size],_,_,_,Z,I2.kept (t':=s1.toks) λb o e=>cO _ e,gD_ d _ o kvs dt,?_,λb hb=>?_,q o]
 ·rw[rel.length];exact#[.none,.none,e_ _ Z]
 ·obtain rfl:b=s1.heap.objs.size:=by simpa using hb
  exact I2.pU (bo _) (I2.aO.fresh (bo _))
variable{d:Addr}{o:Obj}{kvs:List (Key × V)}{g:TG}
theorem Xh{tb:TS}{D:Ends}{σ:St}{H:Hp}(Pv:bL)(h0:Pv 0 σ H)(hl:∀i σ H,i<=kvs.length->Pv i σ H->H d=some (.frz o (.dK kvs)))(hs:∀i k x σ H,kvs[i]? = some (k,x)->Pv i σ H->∀t,H t=none->g (.ref t) σ (upd H t (.tup [kV k,x])) λgz H2=>tb { D with nx:=Pv (i+1),ct:=Pv (i+1),bk:=D.nx } gz H2)(hd:∀σ H,Pv kvs.length σ H->D.nx σ H) :
  ∃W:Nat->Nat->St->Hp->Prop,(∃m,W 0 m σ H)/\∀i m σ H,W i m σ H->
   ((Itm d o kvs).stop i H/\D.nx σ H)∨((Itm d o kvs).go i H/\∃N:St->Hp->Prop,(∀bq H',N bq H'->∃m',m'<m/\W (i+1) m' bq H')/\∀x H',(Itm d o kvs).Fw i H x H'->g x σ H' λgz H2=>tb { D with nx:=N,ct:=N,bk:=D.nx } gz H2):=by
 apply#[λi m σ H=>m=kvs.length - i/\i<=kvs.length/\Pv i σ H,#[kvs.length,by simp,gx _,h0],?_];rintro i m σ H ⟨rfl,hi,p⟩;let q:=hl i σ H hi p;by_cases dc:i<kvs.length
 ·apply .inr #[#[q,dc],Pv (i+1),λbq H' p'=>#[kvs.length - (i+1),by omega,Z,dc,p'],λx H' y=>?_];let#[t,k,x,rfl,ht,hx,rfl]:=y;exact hs i k x σ H hx p t ht
 ·have e:i=kvs.length:=by omega
  subst e;exact .inl #[#[q,bo _],hd σ H p]
def Mh(d:Addr)(o:Obj)(kvs:List (Key × V)):It:=#[λi H=>H d=some (.frz o (.dK kvs))/\i<kvs.length,λi H y H'=>H'=H/\∃k x,kvs[i]? = some (k,x)/\y=kV k,λi H=>H d=some (.frz o (.dK kvs))/\kvs.length<=i]
variable{tg:Expr}
theorem h9_(d it:Addr)(o:Obj)(kvs:List (Key × V))(ho:o.data=.dict es ep):Turn P w K tg (Mh d o kvs) [it] it (λi h=>h.IsKeyIter it d i kvs.length ep) where
 mem:=by simp
 obj:=λi h st b hb=>by
  obtain rfl:b=it:=by simpa using hb
  let#[o,e,c,d]:=st;exact#[o,e,λv z=>by rw[d] at z;cases z]
 keep:=λi h h' st k=>st.at λo e=>k it Z2 o e
 item:=by
  intro X hP hw hK hc i pins s σ H E I hf st hg;subst hP hw hK;let#[hd,hi]:=hg;let#[vs,rel,dat]:=L5 I hd ho;obtain⟨⟨k,x⟩,hx⟩:∃p,kvs[i]? = some p:=#[kvs[i],by simp[hi]];let#[u,hu,ru]:=U1 rel i hx;let#[f0,f1,f2,f3,f4,f5]:=hf it Z2;rw[rel.length] at st;apply wpAny_pyNext_dict_item st dat hu λkey h' hk fo sb=>?_;have I1:Inv X pins σ H { s with heap:=h' }:=I.turned (t':=s.toks) (λb o hb e=>(sb.2 b hb).trans e) f0 f1 f3 f4 f5;let#[o',e,c,dd]:=id fo;apply#[key,Z,Ly (s:={ s with heap:=h' }) e c dd (by decide) #[kV k,H,I1,hG_ hk,#[Z,k,x,hx,Z],?_,λb hb=>(hf b hb).1]];show h'.IsKeyIter it d (i+1) kvs.length ep;rw[rel.length];exact fo
 done:=by
  intro X hP hw hK hc i pins s σ H E I hf st hg;subst hP hw hK;let#[hd,hi]:=hg;let#[vs,rel,dat]:=L5 I hd ho;let#[f0,f1,f2,f3,f4,f5]:=hf it Z2;rw[rel.length] at st hi;exact wpAny_pyNext_dict_end (I.ok.hd hc) st dat (by simp;omega) λh' eb=>#[Z,I.turned (t':=s.toks) (λb o hb e=>eb b o hb e) f0 f1 f3 f4 f5]
 self:=λ_ _ _ _ _ st h=>wpAny_pyIter_keyiter st h
inductive DK (R:It->Hp->Prop) (x:V) (H1:Hp):Prop
 |mk:∀d kvs,x=.ref d->H1 d=some (.dK kvs)->(∀o,R (Mh d o kvs) (upd H1 d (.frz o (.dK kvs))))->DK R x H1
def NV(tv:TE):TI:=λσ H R=>tv σ H λx H1=>DK R x H1
theorem Pr(he:PE X e tv):PI X tg e (NV tv):=by
 intro pins s σ H R I h;apply aZ (he pins s σ H _ I h) λu s1 ⟨x,H1,I1,r1,d,kvs,ex,hd,q⟩=>?_;subst ex;cases r1;let#[o,ho,I2]:=I1.freeze hd;let#[z,Bl,vs,rel,o',es,ep,i8,c',dt,r]:=HX I1.aO hd;rw[ho] at i8;cases i8;apply wpAny_pyIter_dict (knd:=fI X.prog X.w) (kvs:=vs) (ep:=ep) Bl #[o,es,ho,c',dt,r] ?_;apply#[s1.heap.objs.size,[s1.heap.objs.size],_,_,_,Z,I2.kept (t':=s1.toks) λb o e=>cO _ e,h9_ d _ o kvs dt,?_,λb hb=>?_,q o]
 ·rw[rel.length];exact#[_,e_ _ Z,Z,Z]
 ·obtain rfl:b=s1.heap.objs.size:=by simpa using hb
  exact I2.pU (bo _) (I2.aO.fresh (bo _))
theorem eH_{tc:TT}{te:TE}{own:Nat}{fv:List aJ}{dec:V->Hp->List aJ->Prop}{D:Addr}{H:Hp}{Q:VK}{yg:St}(DM:yg=List.replicate own none++fv)(G:Mi g own fv dec)(Pv:dG)(h0:Pv 0 [] (upd H D (.lst [])))(hl:∀i out H',i<=kvs.length->Pv i out H'->H' d=some (.frz o (.dK kvs)))(hd:∀out H',Pv kvs.length out H'->Q (.ref D) H')(OB:∀i k x out H',kvs[i]? = some (k,x)->Pv i out H'->∃o3,dec (kV k) H' o3/\o3.length=own/\∀Nx:Hp->Prop,(∀zc H2,Pv (i+1) zc H2->Nx H2)->
   tc (o3++fv) H' λb H4=>if b=true then te (o3++fv) H4 λy H5=>∃gD,H5 D=some (.lst gD)/\gD.length<sizeLine/\Nx (upd H5 D (.lst (gD++[y]))) else Nx H4) :
  Ki (Mh d o kvs) g tc te yg D H Q:=by
 apply GF DM G kvs.length Pv h0 (λout H' p=>#[#[hl _ _ _ (bo _) p,bo _],hd out H' p]) λi out H' hi p=>?_;let q:=hl i out H' (Nat.le_of_lt hi) p;apply#[#[q,hi],λx H2 y=>?_];let#[e,k,v,hx,rfl]:=y;subst e;exact OB i k v out _ hx p
inductive Cg (t:TS) (D:Ends) (σ:St) (H:Hp):Prop
 |mk:∀d kvs,H d=some (.dK kvs)->t { nx:=λzL H1=>∃o,H1 d=some (.frz o (.dK kvs))/\D.nx zL (upd H1 d (.dK kvs)),rt:=λv H1=>∃o,H1 d=some (.frz o (.dK kvs))/\D.rt v (upd H1 d (.dK kvs)) } σ H->Cg t D σ H
theorem KN{st:Stmt}{t:TS}(h:PS X st t):PS X st (Cg t):=by
 intro pins s σ H D I q;let#[d,kvs,hd,q]:=q
 have nf:∀o u,X.xy d≠some (.frz o u):=λo u z=>by
  have:=I.base.hG _ _ _ z;rw[hd] at this;cases this
 apply aZ (h pins s σ H _ I q) λf s' p=>?_;cases f with
 |next=>
  let#[zL,H1,I1,o,hf,q1]:=p;exact#[zL,_,I1.pG hf nf,q1]
 |brk=>
  let#[zL,H1,I1,q1]:=p;exact False.elim q1
 |cont=>
  let#[zL,H1,I1,q1]:=p;exact False.elim q1
 |ret u=>
  let#[v,zL,H1,I1,r,o,hf,q1]:=p;exact#[v,zL,_,I1.pG hf nf,r,q1]
end L2
namespace Ev
open PySem L2
structure Fz (d:Addr) (o:Obj) (kvs:List (Key × V)) (H H':Hp):Prop where
 at_:H' d=some (.frz o (.dK kvs))
 sm:∀b u,b≠d->H b=some u->H' b=some u
section
variable{d:Addr}{o:Obj}{kvs:List (Key × V)}{H H' H2:Hp}
theorem Fz.start:Fz d o kvs H (upd H d (.frz o (.dK kvs))):=#[az,λb u ne e=>by rw[au ne];exact e]
theorem Fz.step(f:Fz d o kvs H H')(s:aa H' H2):Fz d o kvs H H2:=#[s _ _ f.at_,λb u ne e=>s _ _ (f.sm b u ne e)]
theorem Fz.pG(f:Fz d o kvs H H')(hd:H d=some (.dK kvs)):aa H (upd H' d (.dK kvs)):=λb u e=>by
 by_cases z:b=d
 ·subst z;rw[hd] at e;cases e;exact az
 ·rw[au z];exact f.sm b u z e
theorem Fz.HJ{K:af}{CG CW g p:Addr}{hs:Xa}{ts:Xb}{qs:aC}{fp:ay}(f:Fz d o kvs H H')(hd:H d=some (.dK kvs))(G:ij K CG CW H g p hs ts qs fp)(nd:d∉fp):ij K CG CW H' g p hs ts qs fp:=
 G.keep (λb hb u e=>f.sm b u (λz=>nd (z▸hb)) e) λb xs e=>f.sm b _ (cU e hd nofun) e
end
def br(ns:ae)(g:Str->V):List (Key × V):=ns.map λn=>(Sum.inr n,g n)
theorem L7(ns:ae)(g:Str->V):(br ns g).map (·.1)=ns.map Sum.inr:=by
 unfold br;rw[cm];rfl
theorem gq(ns:ae)(g:Str->V):(br ns g).length=ns.length:=ak _
variable{n:Str}
theorem Pe{ns:ae}{g:Str->V}(h:n∈ns):bK (br ns g) (Sum.inr n)=some (g n):=by
 induction ns with
 |nil=>cases h
 |cons m ns ih=>
  by_cases e:m=n
  ·subst e;exact KU Z
  ·have:bK (br (m::ns) g) (Sum.inr n)=bK (br ns g) (Sum.inr n):=KP λz=>e (hU z);rw[this];rcases bW.mp h with z|z
   ·exact absurd z.symm e
   ·exact ih z
theorem P8{ns:ae}{g k:Str->V}(h:∀n∈ns,g n=k n):br ns g=br ns k:=BC λn hn=>by rw[h n hn]
variable{v:V}
theorem _J{ns:ae}{g:Str->V}(h:n∈ns):putK (br ns g) (Sum.inr n) v=br ns λm=>if m=n then v else g m:=by
 unfold putK;rw[aA]
 ·unfold br;rw[cm];apply BC λm _=>?_;by_cases e:m=n
  ·subst e;simp
  ·have:¬((Sum.inr m:Key)=Sum.inr n):=λz=>e (hU z);simp[e]
 ·apply List.any_eq_true.mpr #[(Sum.inr n,g n),bh.mpr #[n,h,Z],by simp]
theorem Pd{ns:ae}{g:Str->V}(h:n∉ns):putK (br ns g) (Sum.inr n) v=br (ns++[n]) λm=>if m=n then v else g m:=by
 rw[L1 _ (Iw (by
  rw[L7];intro m;let#[x,hx,e]:=bh.mp m;exact h (hU e▸hx)))]
 unfold br;rw[b_];congr 1
 ·apply BC λm hm=>?_;have e:¬m=n:=λz=>h (z▸hm);simp[e]
 ·simp
variable{i:Nat}
theorem GE{ns:ae}{g:Str->V}{k:Key}{x:V}(h:(br ns g)[i]? = some (k,x)):∃n,ns[i]? = some n/\k=Sum.inr n/\x=g n:=by
 unfold br at h;rw[dQ] at h;cases e:ns[i]? with
 |none=>rw[e] at h;cases h
 |some n=>
  rw[e] at h;let h:=ee h;exact#[n,Z,(dU Prod.fst h).symm,(dU Prod.snd h).symm]
theorem Py{ns:ae}(nd:ns.Nodup)(h:ns[i]? = some n):n∉ns.take i:=by
 let q:=P3 (g:=id) (ts:=ns) (by rw[List.map_id];exact nd) h;rwa [List.map_id] at q
theorem eO{ns:ae}(h:ns[i]? = some n):ns.take (i+1)=ns.take i++[n]:=by
 rw[iF,h];rfl
abbrev dH(ns:ae)(f:ai):List (Key × V):=br ns λn=>.str (f n)
def gi(q:Pc):Str × Int:=(q.1,q.2.1)
def ld(f:ai)(ws:Xa)(h:Str):Int:=((ws.filter λx=>decide (f x.1=h)).map (·.2)).sum
theorem hP_(f:ai)(ws:Xa)(x:Str × Int)(h:Str):ld f (ws++[x]) h=if h=f x.1 then ld f ws h+x.2 else ld f ws h:=by
 unfold ld;rw[GN];by_cases e:f x.1=h
 ·rw[aA e.symm,b_,List.sum_append];simp[e]
 ·rw[ao λz=>e z.symm];simp[e]
theorem jk_{a b:List Int}(p:a.Perm b):a.sum=b.sum:=by
 induction p with
 |nil=>rfl
 |cons x _ ih=>simp[ih]
 |swap x y l=>simp only[List.sum_cons];omega
 |trans _ _ h1 h2=>exact h1.trans h2
theorem ll_(f:ai){a b:Xa}(p:a.Perm b)(h:Str):ld f a h=ld f b h:=jk_ ((p.filter _).map _)
theorem gM_:∀{l:List Int},(∀x∈l,0<=x)->0<=l.sum
 |[],_=>by simp
 |x::l,h=>by
  rw[List.sum_cons];have:=h x c8;have:=gM_ (l:=l) λy hy=>h y (dF _ hy);omega
theorem m0_{f:ai}{ws:Xa}{h:Str}(p:∀x∈ws,0<=x.2):0<=ld f ws h:=gM_ λx hx=>by
 let#[y,hy,rfl]:=bh.mp hx;exact p y (BA.mp hy).1
variable{ps:aC}
theorem Qs.nd{qs:aC}(Q:Qs ps qs)(nd:(ps.map (·.1)).Nodup):(qs.map (·.1)).Nodup:=by
 rw[Q.Dy];exact (gO _).nodup_iff.mpr nd
theorem Qs.len{qs:aC}(Q:Qs ps qs):qs.length=ps.length:=by
 have:=dU List.length Q.Dy;rw[ak,(gO _).length_eq,ak] at this;exact this
theorem Qs.ws{qs:aC}(Q:Qs ps qs)(nd:(ps.map (·.1)).Nodup):(qs.map gi).Perm (ps.map gi):=by
 have nw:∀{l:aC},(l.map (·.1)).Nodup->(l.map gi).Nodup:=λ{l} h=>by
  have e:(l.map (·.1))=(l.map gi).map (·.1):=by rw[cm];rfl
  rw[e] at h;exact (zE.mp h).imp λn z=>n (by rw[z])
 apply (List.perm_ext_iff_of_nodup (nw (Q.nd nd)) (nw nd)).mpr λa=>#[λh=>?_,λh=>?_]
 ·let#[q,hq,rfl]:=bh.mp h;let#[p,hp,rfl]:=Q.mem q hq;exact bh.mpr #[p,hp,Z]
 ·let#[p,hp,rfl]:=bh.mp h
  have m:p.1∈qs.map (·.1):=by
   rw[Q.Dy];exact (gO _).mem_iff.mpr (bh.mpr #[p,hp,Z])
  let#[q,hq,e]:=bh.mp m;let#[p',hp',e']:=Q.mem q hq;have:p'=p:=W7 nd hp' hp (by rw[e'] at e;exact e);apply bh.mpr #[q,hq,?_];rw[e',this];rfl
variable{fd:Ae}
section
variable{P:Ad}{w:Af}{K:af}{mg:Str->Option Aa}{base:Heap}
structure A4 (hs:Xa) (qs:aC) (ns:ae) (f:ai):Prop where
 perm:ns.Perm (qs.map (·.1))
 at_:∀n∈ns,f n∈hs.map (·.1)
theorem Si:bD ["goods","stand","piece","hand","names"] ["goods","stand"] (bb WE):=bJ
inductive Sm (K:af) (CG CW:Addr) (vs:ag) (H:Hp) (Q:VK) (E:XK):Prop
 |mk:∀(g p d:Addr) (hs:Xa) (ts:Xb) (qs:aC) (fp:ay) (ns:ae) (f:ai),vs=[.ref g,.ref d]->ij K CG CW H g p hs ts qs fp->d∉fp->H d=some (.dK (dH ns f))->A4 hs qs ns f->(qs.map (·.1)).Nodup->qs.length<64->(∀d' H',aa H H'->H d'=none->H' d'=some (.dK (dH (qs.map (·.1)) f))->Q (.ref d') H')->Sm K CG CW vs H Q E
theorem hx_{f CG CW:Addr}(F:bp K "checked_stand" "checked_stand" WE f fd)(B:Bi mg)(T:eE K CG)(TW:Txt K mg CW)(cH:!bB CG 1 "has_piece" AN (O3 K CG CW))(cW:!bB CW 1 "has_hand" AN (wI K CW))(cN:!bB CG 1 "names" ik (Xo K CG CW)) :
  aj P w K mg base ba 2 f fd ["goods","stand"] (Sm K CG CW):=by
 apply F.bI Si λaR A outer s H vs Q E hr h=>?_
 ·let#[g,p,d,hs,ts,qs,fp,ns,f,rfl,G,Eb,hd,so,nd,dm,k]:=h;let hu:=eV hr;let sz:=ck;refine' #[_,?r0,?kk]
  case' r0=>refine' aq ?s1 ?r1
  case s1=>exact bN (gZ (fR (cy zC (by rfl) B.xK yc %[1,zw (v:=.ty "dict") (by rfl) B.dict BZ Z|0]))) fJ bP
  case' r1=>refine' aq ?s2 ?r2
  case' s2=>refine' KN (eF dX Z ?i2 ?g2 ?b2)
  case i2=>exact Xr (R9 (pv 1))
  case g2=>exact xk Z (dZ (cj 2 Si.nd) (dZ (cj 3 Si.nd) jf))
  case b2=>exact aq (bN (gZ (fR (fL cH T.cl hr (pv 0) %[2|0]))) fJ bP) (aH (bN (gZ (fR (fL cW TW.cl hr (dW (pv 0) Z) %[3|0]))) fJ bP))
  case' r2=>refine' aq ?s3 ?r3
  case s3=>exact aX 4 Si.nd (GC cN T.cl hr (pv 0))
  case' r3=>refine' aq ?s4 (aH ?s5)
  case s4=>exact bN (cz EW (cy id_ (by rfl) B.len i4 %[1|0]) (cy xo (by rfl) B.len i4 %[4|0])) fJ bP
  case s5=>exact bj (qe (Fl Z) (by rfl) B.dict BZ %[iS ["piece","stand"] 1 [1] (dE (pv 4)) (λfp s H=>eZ (i:=0) (show (["piece","stand"]:ae).Nodup by decide +kernel) Z (Or.inl Z)) (λfp s H=>iH) (λfp s H=>fe %[0,cb hu (pv 1) (pv 0)|0])|0])
  have Ur:ns.length=qs.length:=by rw[so.perm.length_eq,ak]
  apply#[_,Z,_,_,_,_,Z,.dK hd,Z,_,Z,bE ?_];apply#[d,_,hd,?_];apply#[_,Z,d,_,Z,hd,λv hv=>?_];let#[s1,DN]:=aB (o:=Em v d) hv;let G1:=G.same s1;let Bn:=s1 _ _ hd;generalize upd H v (Em v d)=H1 at s1 DN G1 Bn ⊢;apply#[v,d,_,Z,DN,Bn,λo=>?_]
  let aQ:bL:=λi σ H'=>∃(v2 v3:aJ),σ=[some (.ref g),some (.ref d),v2,v3,none]/\Fz d o (dH ns f) H1 H'
  apply Xh aQ #[none,none,Z,Fz.start] (λi σ H' _ ⟨_,_,_,z⟩=>z.at_) ?_ ?_
  ·rintro i ky x σ H2 hx ⟨v2,v3,rfl,fz⟩ t ht;let#[n,hn,rfl,rfl]:=GE hx;let nm:=cu hn;let s2:=aa.new (o:=.tup [.str n,.str (f n)]) ht;let Kc:=fz.step s2;have e2:upd H2 t (.tup [.str n,.str (f n)]) t=some (.tup [.str n,.str (f n)]):=az;show pT _ _ _ _ _ (upd H2 t (.tup [.str n,.str (f n)])) _;generalize upd H2 t (.tup [.str n,.str (f n)])=H3 at s2 Kc e2 ⊢;apply#[t,_,Z,.of e2,Z,_,_,Z,_,_,Z,Z,?_];let G3:=Kc.HJ Bn G1 Eb;let#[dx,dw,dy,vs,cq,h1,h2,h3,h4,h5,m1,m2,m3,m4,m5]:=id G3.ex;let#[fK,d1,l2,d3,vO,as,ef,w1,_]:=id h2.ex;have AA:(bX p dw dy).lookup ("has_piece":Str)=none:=E9 _ _ _ Z0 Z0 Z0;have iz:(da d1 l2 d3).lookup ("has_hand":Str)=none:=je _ _ _ Z0 Z0 Z0;apply#[_,Z,g,dx,_,Z,h1,AA,_,Z,g,p,.str n,some n,hs,ts,qs,fp,Z,G3,Z,_,Z,?_];rw[show NQ (qs.map (·.1)) (some n)=true from cw (so.perm.mem_iff.mp nm)];apply bE ?_;apply#[_,Z,g,CG,dx,_,_,Z,h1,T.cl,T.nW,zx _ _ _,p,fK,_,Z,w1,iz,_,Z,p,f n,hs,ts,cq,Z,h2,_,Z,?_];rw[cw (so.at_ n nm)];exact bE #[_,_,Z,Kc]
  rintro σ H2 ⟨v2,v3,rfl,fz⟩;apply#[o,fz.at_,?_];let s2:=s1.trans (fz.pG Bn);have hd2:upd H2 d (.dK (dH ns f)) d=some (.dK (dH ns f)):=az;generalize upd H2 d (.dK (dH ns f))=H3 at s2 hd2 ⊢;let G3:=G.same s2;let#[dx,dw,dy,vs,cq,h1,h2,h3,h4,h5,m1,m2,m3,m4,m5]:=id G3.ex;apply#[_,Z,g,dx,_,Z,h1,E9 _ _ _ Z0 Z0 Z0,g,p,hs,ts,qs,fp,Z,G3,λln AF=>?_];let#[s3,e3]:=aB (o:=.lst ((qs.map (·.1)).map V.str)) AF;let zi:=s3 _ _ hd2;generalize upd H3 ln (.lst ((qs.map (·.1)).map V.str))=H4 at s3 e3 zi ⊢;apply#[_,Z,d,_,Z,zi,_,Z,ln,_,Z,.inl (.of e3),Z,_,Z,?_];rw[gq,ak,ak,Ur];simp only[bne_self_eq_false,decide_true,Bool.not_true];apply bE ?_;let i7:=s2.trans s3;apply#[_,Z,ln,Z,#[_,.of e3],λD hD=>?_];apply yd (own:=1) (fv:=[some (.ref d)]) (xs:=(qs.map (·.1)).map V.str) Z dP (λi out H'=>aa H4 H'/\H' D=some (.lst out)/\i_ K H' out (dH ((qs.map (·.1)).take i) f)) #[aa.new hD,az,.nil] (λi out H' _ ⟨sm,_,_⟩=>.of (sm _ _ e3)) (λout H5 ⟨sm,Lw,pa⟩=>?_) (λi y out H' hy ⟨sm,eI,pa⟩=>?_)
  ·rw[ak,dJ] at pa;apply#[D,out,_,Z,Lw,pa,by rw[gq,ak];omega,λd' pS=>?_]
   have Hn:((dH (qs.map (·.1)) f).map (·.1)).Nodup:=by
    rw[L7,Fq,zE];exact nd.imp λn e=>n (hU e)
   rw[Fi Hn];exact k d' _ ((i7.trans sm).trans (aa.new pS)) (i7.free (sm.free pS)) az
  ·let#[n,hn,rfl]:=iG hy;have hi:i<(qs.map (·.1)).length:=(cc.mp hn).1;rw[ak] at hi;have nm:n∈ns:=so.perm.mem_iff.mpr (cu hn);apply#[_,Z,Z,λNx hN=>dM ?_];apply#[_,Z,_,Z,_,Z,d,.str (f n),Z,?_,zl,λt ht=>?_]
   ·rw[<- Pe (g:=λn=>V.str (f n)) nm];exact .k (k:=Sum.inr n) (sm _ _ zi)
   let s5:=aa.new (o:=.tup [.str n,.str (f n)]) ht;let lo:=bG pa;rw[gq,cQ,ak] at lo;apply#[out,s5 _ _ eI,by omega,hN _ _ #[fN (sm.trans s5) hD,az,?_]];have Hw:upd H' t (.tup [.str n,.str (f n)]) t=some (.tup [.str n,.str (f n)]):=az;have pD:∀{b:Addr} {ys:ag},upd H' t (.tup [.str n,.str (f n)]) b=some (.tup ys)->b≠D:=λhb=>cU hb (s5 _ _ eI) nofun;rw[eO hn];show i_ K _ _ (((qs.map (·.1)).take i++[n]).map _);rw[b_];exact vM (Paired.bu pa λy kv ⟨b,z,hb⟩=>#[b,z,by rw[au (pD (s5 _ _ hb))];exact s5 _ _ hb]) (.cons #[t,Z,by rw[au (pD Hw)];exact Hw] .nil)
end
section
variable{d d2:Addr}{o:Obj}{kvs:List (Key × V)}{H H' H1:Hp}{u:HO}
theorem Fz.IY(s:aa H H1):Fz d o kvs H (upd H1 d (.frz o (.dK kvs))):=#[az,λb u ne e=>by rw[au ne];exact s _ _ e]
theorem Fz.put(f:Fz d o kvs H H')(hn:H d2=none)(ne:d2≠d):Fz d o kvs H (upd H' d2 u):=#[by rw[au ne.symm];exact f.at_,λb u nb e=>by rw[au (bx e hn)];exact f.sm b u nb e]
end
section
variable{P:Ad}{w:Af}{K:af}{mg:Str->Option Aa}{base:Heap}
theorem Sh:bD ["goods","placed","hand","found","piece"] Ea (bb Xw):=bJ
structure Ib (K:af) (CG CW:Addr) (H:Hp) (g p d:Addr) (hs:Xa) (ts:Xb) (qs:aC) (fp:ay) (f:ai):Prop where
 G:ij K CG CW H g p hs ts qs fp
 Gd:Good hs ts
 Eb:d∉fp
 hd:H d=some (.dK (dH (qs.map (·.1)) f))
 at_:∀n∈qs.map (·.1),f n∈hs.map (·.1)
 nd:(qs.map (·.1)).Nodup
 dm:qs.length<64
abbrev NG(hs:Xa)(qs:aC)(f:ai):List (Key × V):=br (aI hs) λh=>.int (ld f (qs.map gi) h)
inductive RP (K:af) (CG CW:Addr) (vs:ag) (H:Hp) (Q:VK) (E:XK):Prop
 |mk:∀(g p d:Addr) (hs:Xa) (ts:Xb) (qs:aC) (fp:ay) (f:ai),vs=[.ref g,.ref d]->Ib K CG CW H g p d hs ts qs fp f->(∀d' H',aa H H'->H d'=none->H' d'=some (.dK (NG hs qs f))->Q (.ref d') H')->RP K CG CW vs H Q E
theorem gb_{f CG CW CP:Addr}(F:bp K "loads_at" "loads_at" Xw f fd)(B:Bi mg)(T:eE K CG)(TW:Txt K mg CW)(cH:!bB CW 1 "hands" ik (LV K CW))(cW:!bB CG 2 "weight" HQ (KR K CG CW CP)) :
  aj P w K mg base ba 3 f fd Ea (RP K CG CW):=by
 apply F.bI Sh λaR A outer s H vs Q E hr h=>?_
 ·let#[g,p,d,hs,ts,qs,fp,f,rfl,Pl,k]:=h;let hu:=eV hr;let sz:=ck;have xa:aY 1 _:=hr.mono (by decide);refine' #[_,?r0,?kk]
  case' r0=>refine' aq ?s1 ?r1
  case s1=>exact aX 3 Sh.nd (qe (Fl Z) (by rfl) B.dict BZ %[iS ["hand"] 1 [] (dE (GC cH TW.cl xa (dW (pv 0) Z))) (λfp s H=>eZ (i:=0) (show (["hand"]:ae).Nodup by decide +kernel) Z (Or.inl Z)) (λfp s H=>iH) (λfp s H=>fe %[0,aK|0])|0])
  case' r1=>refine' aq ?s2 ?r2
  case' s2=>refine' KN (eF dX Z ?i2 ?g2 (aH ?b2))
  case i2=>exact Xr (R9 (pv 1))
  case g2=>exact xk Z (dZ (cj 4 Sh.nd) (dZ (cj 2 Sh.nd) jf))
  case b2=>exact B1 hu (pv 3) (pv 2) (bF iQ (cb hu (pv 3) (pv 2)) (fL cW T.cl hr (pv 0) %[4|0])) Z
  case r2=>exact aH (bj (pv 3))
  let nl:=Pl.Gd.fw;let h8:=Pl.Gd.h8;let#[dx,dw,dy,vs,cq,h1,h2,h3,h4,h5,m1,m2,m3,m4,m5]:=id Pl.G.ex;let#[fK,d1,l2,d3,vO,as,ef,w1,_]:=id h2.ex;have iz:(da d1 l2 d3).lookup ("hands":Str)=none:=je _ _ _ Z0 Z0 Z0;apply#[_,Z,g,CG,dx,_,_,Z,h1,T.cl,T.nW,zx _ _ _,p,fK,_,Z,w1,iz,p,hs,ts,cq,Z,h2,λlh g_=>?_];let#[s1,e1]:=aB (o:=.lst ((aI hs).map V.str)) g_;generalize upd H lh (.lst ((aI hs).map V.str))=H1 at s1 e1 ⊢;apply#[lh,Z,#[_,.of e1],λD hD=>?_]
  let aQ:dG:=λi out H'=>aa H1 H'/\H' D=some (.lst out)/\i_ K H' out (br ((aI hs).take i) λ_=>.int 0)
  apply yd (own:=1) (fv:=[]) (xs:=(aI hs).map V.str) Z dP aQ #[aa.new hD,az,.nil] (λi out H' _ ⟨sm,_,_⟩=>.of (sm _ _ e1)) (λout H5 ⟨sm,Lw,pa⟩=>?_) (λi y out H' hy ⟨sm,eI,pa⟩=>?_);rotate_left 1
  ·let#[n,hn,rfl]:=iG hy;have hi:i<(aI hs).length:=(cc.mp hn).1;apply#[_,Z,Z,λNx hN=>dM ?_];apply#[_,Z,zl,λt ht=>?_];let s5:=aa.new (o:=.tup [.str n,.int 0]) ht;let lo:=bG pa;rw[gq,cQ] at lo;apply#[out,s5 _ _ eI,by omega,hN _ _ #[fN (sm.trans s5) hD,az,?_]];have Hw:upd H' t (.tup [.str n,.int 0]) t=some (.tup [.str n,.int 0]):=az;have pD:∀{b:Addr} {ys:ag},upd H' t (.tup [.str n,.int 0]) b=some (.tup ys)->b≠D:=λhb=>cU hb (s5 _ _ eI) nofun;rw[eO hn];show i_ K _ _ (((aI hs).take i++[n]).map _);rw[b_];exact vM (Paired.bu pa λy kv ⟨b,z,hb⟩=>#[b,z,by rw[au (pD (s5 _ _ hb))];exact s5 _ _ hb]) (.cons #[t,Z,by rw[au (pD Hw)];exact Hw] .nil)
  rw[ak,dJ] at pa;apply#[D,out,_,Z,Lw,pa,by rw[gq];omega,λd2 hd2=>?_]
  have Hn:((br (aI hs) λ_=>V.int 0).map (·.1)).Nodup:=by
   rw[L7,Fq,zE];exact Pl.Gd.BF.imp λn e=>n (hU e)
  rw[Fi Hn];let s2:=(s1.trans sm).trans (aa.new (o:=.dK (br (aI hs) λ_=>V.int 0)) hd2);have e2:upd H5 d2 (.dK (br (aI hs) λ_=>V.int 0)) d2=some (.dK (br (aI hs) λ_=>V.int 0)):=az;have n2:H d2=none:=s1.free (sm.free hd2);show FE _ _ _ _ (upd H5 d2 (.dK (br (aI hs) λ_=>V.int 0)));generalize upd H5 d2 (.dK (br (aI hs) λ_=>V.int 0))=H6 at s2 e2 ⊢;have XR:d2≠d:=(bx Pl.hd n2).symm;apply#[d,_,s2 _ _ Pl.hd,?_];apply#[_,Z,d,_,Z,s2 _ _ Pl.hd,λv hv=>?_];let#[s3,DN]:=aB (o:=Em v d) hv;let e3:=s3 _ _ e2;let wM:=s2.trans s3;generalize upd H6 v (Em v d)=H7 at s3 DN e3 wM ⊢;apply#[v,d,_,Z,DN,wM _ _ Pl.hd,λo=>?_]
  let bH:bL:=λi σ H'=>∃(v2 v4:aJ),σ=[some (.ref g),some (.ref d),v2,some (.ref d2),v4]/\Fz d o (dH (qs.map (·.1)) f) H H'/\H' d2=some (.dK (br (aI hs) λh=>.int (ld f ((qs.take i).map gi) h)))
  apply Xh bH #[none,none,Z,Fz.IY wM,by rw[au XR];exact e3] (λi σ H' _ ⟨_,_,_,z,_⟩=>z.at_) ?_ ?_
  ·rintro i ky x σ H8 hx ⟨v2,v4,rfl,fz,e8⟩ t ht;let#[n,hn,rfl,rfl]:=GE hx
   have hi:i<qs.length:=by
    have:=(cc.mp hn).1;rwa [ak] at this
   have hq:qs[i]? = some (qs[i]'hi):=dq hi
   have en:n=(qs[i]'hi).1:=by
    rw[dQ,hq] at hn;exact (ee hn).symm
   have fm:f n∈aI hs:=(gf hs).mem_iff.mpr (Pl.at_ n (cu hn));generalize qs[i]'hi=q at hq en;let s8:=aa.new (o:=.tup [.str n,.str (f n)]) ht;let Kc:=fz.step s8;let e9:=s8 _ _ e8;have et:upd H8 t (.tup [.str n,.str (f n)]) t=some (.tup [.str n,.str (f n)]):=az;show pT _ _ _ _ _ (upd H8 t (.tup [.str n,.str (f n)])) _;generalize upd H8 t (.tup [.str n,.str (f n)])=H9 at s8 Kc e9 et ⊢;apply#[t,_,Z,.of et,Z,_,_,Z,_,_,Z,Z,?_];let G9:=Kc.HJ Pl.hd Pl.G Pl.Eb;let#[dx,dw,dy,vs,cq,h1,h2,h3,h4,h5,m1,m2,m3,m4,m5]:=id G9.ex;have AA:(bX p dw dy).lookup ("weight":Str)=none:=E9 _ _ _ Z0 Z0 Z0;apply#[_,Z,_,Z,d2,.int (ld f ((qs.take i).map gi) (f n)),Z,?_,_,Z,g,dx,_,Z,h1,AA,_,Z,g,p,.str n,some n,hs,ts,qs,fp,Z,G9,Pl.nd,Z,.inl #[q,cu hq,dU some en,?_]]
   ·rw[<- Pe (g:=λh=>V.int (ld f ((qs.take i).map gi) h)) fm];exact .k (k:=Sum.inr (f n)) e9
   apply#[_,_,Z,Z,_,Z,_,Z,d2,_,Z,.k (k:=Sum.inr (f n)) e9 (by rw[gq];omega),?_];apply#[_,_,Z,Kc.put n2 XR,?_];rw[az,_J fm];congr 2;apply P8 λm _=>?_
   have e5:(qs.take (i+1)).map gi=(qs.take i).map gi++[gi q]:=by
    rw[iF,hq,b_];rfl
   rw[e5,hP_];show (if m=f n then V.int (ld f ((qs.take i).map gi) (f n)+q.2.1) else V.int (ld f ((qs.take i).map gi) m))=V.int (if m=f q.1 then _ else _);rw[<- en];by_cases z:m=f n
   ·rw[aA z,aA z,z];rfl
   ·rw[ao z,ao z]
  rintro σ H8 ⟨v2,v4,rfl,fz,e8⟩;apply#[o,fz.at_,?_];rw[gq,ak,dJ] at e8;exact#[_,Z,k d2 _ (fz.pG Pl.hd) n2 (by rw[au XR];exact e8)]
end
end Ev
namespace L2
open PySem PySem.Spec PyProof.Rows PySem.W
inductive Dt (xs:ag) (H:Hp) (Q:VK):Prop
 |mk:∀a kvs,xs=[.ref a]->Rd H a (.dK kvs)->(∀p,H p=none->Q (.ref p) (upd H p (.dK kvs)))->Dt xs H Q
variable{X:Cx}
theorem go_:gJ X (.type "dict") Dt:=by
 intro pins s σ H xs us Q I r h;let#[a,kvs,rfl,hd,q]:=h;let#[u,rfl,ru]:=vals1 r;cases ru;exact jg_ I hd λp s' hp I'=>#[.ref p,_,I',Z,q p hp]
inductive Dr (K:af) (x:V) (y:V) (H:Hp) (Q:VK):Prop
 |mk:∀a b xs,x=.ref a->y=.ref b->d9 K H a xs->d9 K H b []->Q (.bl (!xs.isEmpty)) H->Dr K x y H Q
theorem Sd(hu:X.A.units+0+1<cLine):eG X (compareOp .NotEq) (Dr X.K):=by
 intro pins s σ H x y v u Q I rx ry h;let#[a,b,xs,rfl,rfl,t,t',hq]:=h;cases xs with
 |nil=>exact lD_ fH hu pins s σ H (.ref a) (.ref b) v u Q I rx ry #[[],[],#[a,[],Z,t,.nil],#[b,[],Z,t',.nil],hq]
 |cons z zs=>
  cases rx;cases ry;let#[us,r,pl,_]:=I.list t;let#[vs,r',FY,_]:=I.list t';let l1:=r.length;let l2:=r'.length;exact SL.iu pl.isList FY.isList (by simp only[dD,bne_iff_ne];simp at l1 l2;omega) Z1 #[.bl true,H,I,Z,hq]
end L2
namespace Ev
open PySem L2
def ze(a n:Int):Int:=a / (Int.gcd a n:Int) * n
variable{n:Int}
theorem kG_{a:Int}(ha:0<a)(hn:0<n):ze a n=(Int.lcm a n:Int):=by
 let#[p,rfl]:=Fp (E_ ha);let#[q,rfl]:=Fp (E_ hn);show ((p:Int) / ((Nat.gcd p q:Nat):Int)) * (q:Int)=((Nat.lcm p q:Nat):Int);rw[<- Int.natCast_ediv,<- Int.natCast_mul,Nat.div_mul_right_comm (Nat.gcd_dvd_left p q)];rfl
def wZ(ns:List Int):Int:=ns.foldl ze 1
theorem WQ:∀(ns:List Int) (a:Int),0<a->(∀n∈ns,0<n)->0<ns.foldl ze a/\∀x:Int,0<=x->(ns.foldl ze a ∣ x ↔ a ∣ x/\∀n∈ns,n ∣ x)
 |[],a,ha,_=>#[ha,λx _=>by simp]
 |n::ns,a,ha,h=>by
  let hn:=h n c8;let e:=kG_ ha hn
  have p:0<ze a n:=by
   rw[e];have:=Nat.lcm_pos (m:=a.natAbs) (n:=n.natAbs) Z1 Z1;have:0<Int.lcm a n:=this;omega
  let#[h1,h2]:=WQ ns (ze a n) p λm hm=>h m (dF _ hm);apply#[h1,λx hx=>(h2 x hx).trans ?_];let#[z,rfl]:=Fp hx;rw[e,Int.natCast_dvd_natCast,Int.lcm_dvd_iff];constructor
  ·rintro⟨⟨q1,q2⟩,q3⟩
   exact#[q1,λm hm=>by
    rcases bW.mp hm with rfl|hm
    ·exact q2
    ·exact q3 m hm]
  ·rintro⟨q1,q2⟩;exact#[#[q1,q2 n c8],λm hm=>q2 m (dF _ hm)]
variable{ns:List Int}
theorem WV(h:∀n∈ns,0<n):0<wZ ns:=(WQ ns 1 (by decide) h).1
theorem jH_(h:∀n∈ns,0<n)(hn:n∈ns):n ∣ wZ ns:=
 (((WQ ns 1 (by decide) h).2 _ (E_ (WV h))).mp (Int.dvd_refl _)).2 n hn
theorem l5_(f:ai)(x:Str × Int)(ws:Xa)(h:Str):ld f (x::ws) h=(if f x.1=h then x.2 else 0)+ld f ws h:=by
 unfold ld;by_cases e:f x.1=h
 ·simp[e]
 ·simp[e]
theorem Z9{f:ai}{h:Str}:∀{ws:Xa},(∀x∈ws,0<=x.2/\x.2<=1000000000)->ld f ws h<=1000000000 * ws.length
 |[],_=>by
  unfold ld;simp
 |x::ws,p=>by
  let h1:=p x c8;let h2:=Z9 (f:=f) (h:=h) (ws:=ws) λy hy=>p y (dF _ hy);rw[l5_,iE];by_cases z:f x.1=h
  ·rw[aA z];omega
  ·rw[ao z];omega
def LF(hs:Xa):Int:=wZ ((aI hs).map (strOf hs))
theorem bM{hs:Xa}{ts:Xb}(G:Good hs ts){n:Str}(h:n∈aI hs):1<=strOf hs n/\strOf hs n<=1000:=(G.aO _ (GG ((gf hs).mem_iff.mp h))).2
variable{i:Nat}
variable{fd:Ae}
section
variable{P:Ad}{w:Af}{K:af}{mg:Str->Option Aa}{base:Heap}
theorem FQ:bD ["numbers","found","number"] ["numbers"] (bb TB):=bJ
def ML(K:af):Sp:=λvs H Q _=>∃(l:Addr) (ns:List Int),vs=[.ref l]/\d9 K H l (ns.map V.int)/\(∀n∈ns,1<=n/\n<=1000)/\Q (.int (wZ ns)) H
theorem iz_(h:ns[i]? = some n):wZ (ns.take (i+1))=ze (wZ (ns.take i)) n:=by
 unfold wZ;rw[iF,h,List.foldl_append];rfl
theorem fp_{y:V}(h:(ns.map V.int)[i]? = some y):∃n,ns[i]? = some n/\y=.int n:=by
 rw[dQ] at h;cases e:ns[i]? with
 |none=>rw[e] at h;cases h
 |some n=>rw[e] at h;exact#[n,Z,(ee h).symm]
theorem mi_{f:Addr}(F:bp K "least_multiple" "least_multiple" TB f fd)(cG:!bt 1 "greatest_divisor" BQ MM):!aj ba 2 f fd ["numbers"] (ML K):=by
 apply F.bI FQ λaR A outer s H vs Q E hr h=>?_
 ·let#[l,ns,rfl,hl,b,k]:=h;refine' #[_,aq ?s1 (aq ?s2 (aH ?s3)),?kk]
  case s1=>exact aX 1 FQ.nd aK
  case s2=>exact eF dX Z (dE (pv 0)) (cj 2 FQ.nd) (aH (aX 1 FQ.nd (bF pY (bF E8 (pv 1) (bf cG hr %[1,2|0])) (pv 2))))
  case s3=>exact bj (pv 1)
  let aQ:bL:=λi σ H'=>H'=H/\∃(v2:aJ),σ=[some (.ref l),some (.int (wZ (ns.take i))),v2]
  apply#[_,Z,l,Z,#[_,hl],fW (K:=K) (a:=l) (xs:=ns.map V.int) aQ #[Z,none,Z] (λi σ H' _ ⟨e,_⟩=>by rw[e];exact hl) ?_ ?_]
  ·rintro i y σ H' hy ⟨rfl,v2,rfl⟩;let#[n,hn,rfl]:=fp_ hy;let bn:=b n (cu hn)
   let p:=WV (ns:=ns.take i) λm hm=>by
    have:=b m (List.take_subset _ _ hm);omega
   apply#[_,Z,_,Z,_,Z,_,_,Z,E_ p,by omega,_,_,Z,Z,mm_ Z1 (Int.le_trans bn.2 (by decide)),_,Z,_,_,Z,Z,.inr #[by omega,by omega],Z,some (.int n),?_];rw[iz_ hn];rfl
  ·rintro σ H' ⟨rfl,v2,rfl⟩;apply#[_,Z,?_];rw[ak,dJ];exact k
theorem Je:bD ["web"] ["web"] (bb C4):=bJ
inductive yq (K:af) (C:Addr) (vs:ag) (H:Hp) (Q:VK) (E:XK):Prop
 |mk:∀(p:Addr) (hs:Xa) (ts:Xb) (fp:ay),vs=[.ref p]->gn K C H p hs ts fp->Good hs ts->(∀H',aa H H'->Q (.int (LF hs)) H')->yq K C vs H Q E
theorem lj_{f CW:Addr}(F:bp K "multiple_of_strengths" "multiple_of_strengths" C4 f fd)(TW:Txt K mg CW)(cL:!bt 2 "least_multiple" ["numbers"] (ML K))(cH:!bB CW 1 "hands" ik (LV K CW))(cS:!bB CW 2 "strength" vL (L9 K CW)):!aj ba 3 f fd ["web"] (yq K CW):=by
 apply F.bI Je λaR A outer s H vs Q E hr h=>?_
 ·let#[p,hs,ts,fp,rfl,W,G,k]:=h;let sz:=ck;let nl:=G.fw;let h8:=G.h8;refine' #[_,aH (bj (bf cL hr %[iS ["hand","web"] 1 [0] (dE (GC cH TW.cl (hr.mono (by decide)) (pv 0))) (λfp s H=>eZ (i:=0) (show (["hand","web"]:ae).Nodup by decide +kernel) Z (Or.inl Z)) (λfp s H=>iH) (λfp s H=>?e1)|0])),?kk]
  case e1=>exact fL cS TW.cl hr (pv 1) %[0|0]
  let#[fK,d1,l2,d3,vO,as,ef,w1,_]:=id W.ex;apply#[_,Z,p,fK,_,Z,w1,je _ _ _ Z0 Z0 Z0,p,hs,ts,fp,Z,W,λlh g_=>?_];let#[s1,e1]:=aB (o:=.lst ((aI hs).map V.str)) g_;generalize upd H lh (.lst ((aI hs).map V.str))=H1 at s1 e1 ⊢;apply#[lh,Z,#[_,.of e1],λD hD=>?_]
  let bH:dG:=λi out H'=>aa H1 H'/\H' D=some (.lst out)/\out=(((aI hs).take i).map (strOf hs)).map V.int
  apply yd (own:=1) (fv:=[some (.ref p)]) (xs:=(aI hs).map V.str) Z dP bH #[aa.new hD,az,Z] (λi out H' _ ⟨sm,_,_⟩=>.of (sm _ _ e1)) (λout H5 ⟨sm,Lw,eo⟩=>?_) (λi y out H' hy ⟨sm,eI,eo⟩=>?_)
  ·rw[ak,dJ] at eo;rw[eo] at Lw;apply#[D,_,Z,.of Lw,λn hn=>?_,k H5 (s1.trans sm)];let#[m,hm,rfl]:=bh.mp hn;exact bM G hm
  ·let#[n,hn,rfl]:=iG hy;have hi:i<(aI hs).length:=(cc.mp hn).1;apply#[_,Z,Z,λNx hN=>dM ?_];let W':=(W.same s1).same sm;let#[fK,d1,l2,d3,vO,as,ef,w1,_]:=id W'.ex;apply#[_,Z,p,fK,_,Z,w1,je _ _ _ Z0 Z0 Z0,_,Z,p,n,strOf hs n,hs,ts,fp,Z,W',G.AC,GG ((gf hs).mem_iff.mp (cu hn)),?_];apply#[out,eI,by rw[eo,ak,ak,cQ];omega,hN _ _ #[fN sm hD,az,?_]];rw[eO hn,b_,b_,eo];rfl
theorem PZ:bD ["goods","placed","multiple","found","hand","load"] Ea (bb Wy):=bJ
def BH(hs:Xa)(qs:aC)(f:ai)(h:Str):Int:=ld f (qs.map gi) h * (LF hs / strOf hs h)
inductive XD (K:af) (CG CW:Addr) (vs:ag) (H:Hp) (Q:VK) (E:XK):Prop
 |mk:∀(g p d:Addr) (hs:Xa) (ts:Xb) (qs:aC) (fp:ay) (f:ai),vs=[.ref g,.ref d]->Ib K CG CW H g p d hs ts qs fp f->(∀q∈qs,0<=q.2.1/\q.2.1<=1000000000)->(∀d' H',aa H H'->H d'=none->H' d'=some (.dK (br (aI hs) λh=>.int (BH hs qs f h)))->Q (.ref d') H')->XD K CG CW vs H Q E
theorem QN{qs:aC}(wp:∀q∈qs,0<=q.2.1/\q.2.1<=1000000000)(dm:qs.length<64)(f:ai)(h:Str):0<=ld f (qs.map gi) h/\ld f (qs.map gi) h<=64000000000:=by
 have p:∀x∈qs.map gi,0<=x.2/\x.2<=1000000000:=λx hx=>by
  let#[q,hq,rfl]:=bh.mp hx;exact wp q hq
 let h1:=Z9 (f:=f) (h:=h) p;rw[ak] at h1;exact#[m0_ λx hx=>(p x hx).1,by omega]
theorem hi_{f CG CW:Addr}(F:bp K "levels_at" "levels_at" Wy f fd)(T:eE K CG)(TW:Txt K mg CW)(cL:!bt 3 "loads_at" Ea (RP K CG CW))(cM:!bt 3 "multiple_of_strengths" ["web"] (yq K CW))(cS:!bB CW 2 "strength" vL (L9 K CW)) :
  aj P w K mg base ba 4 f fd Ea (XD K CG CW):=by
 apply F.bI PZ λaR A outer s H vs Q E hr h=>?_
 ·let#[g,p,d,hs,ts,qs,fp,f,rfl,Pl,wp,k]:=h;let hu:=eV hr;let sz:=ck;have DP:aY 2 _:=hr.mono (by decide);refine' #[_,?r0,?kk]
  case' r0=>refine' aq ?s0 (aq ?s1 (aq ?s2 ?r2))
  case s0=>exact aX 2 PZ.nd (bf cM hr %[dW (pv 0) Z|0])
  case s1=>exact aX 3 PZ.nd Ij
  case' s2=>refine' eF dX Z ?i2 ?g2 (aH ?b2)
  case i2=>exact Xr (R9 (bf cL hr %[0,1|0]))
  case g2=>exact xk Z (dZ (cj 4 PZ.nd) (dZ (cj 5 PZ.nd) jf))
  case b2=>exact B1 hu (pv 3) (pv 4) (bF pY (pv 5) (bF E8 (pv 2) (fL cS TW.cl DP (dW (pv 0) Z) %[4|0]))) Z
  case r2=>exact aH (bj (pv 3))
  let nl:=Pl.Gd.fw;let h8:=Pl.Gd.h8;let#[dx,dw,dy,vs,cq,h1,h2,_]:=id Pl.G.ex;apply#[_,Z,g,CG,dx,_,_,Z,h1,T.cl,T.nW,zx _ _ _,p,hs,ts,cq,Z,h2,Pl.Gd,λH0 s0=>?_];intro d2 hd2;let s1:=s0.trans (aa.new (o:=.dK []) hd2);have e1:upd H0 d2 (.dK []) d2=some (.dK []):=az;have n2:H d2=none:=s0.free hd2;show FE _ _ _ _ (upd H0 d2 (.dK []));generalize upd H0 d2 (.dK [])=H1 at s1 e1 ⊢;have Pl1:Ib K CG CW H1 g p d hs ts qs fp f:=#[Pl.G.same s1,Pl.Gd,Pl.Eb,s1 _ _ Pl.hd,Pl.at_,Pl.nd,Pl.dm];apply#[_,Z,_,Z,g,p,d,hs,ts,qs,fp,f,Z,Pl1,λdl H2 s2 QY e2=>?_];apply#[dl,_,Z,e2,λv hv=>?_];let#[s3,DN]:=aB (o:=Em v dl) hv;let e3:=s3 _ _ e2;let Bd:=s2.trans s3;generalize upd H2 v (Em v dl)=H3 at s3 DN e3 Bd ⊢;have Hm:H dl=none:=s1.free QY;have d2l:d2≠dl:=bx e1 QY;apply#[v,dl,_,Z,DN,e3,λo=>?_]
  let eX:bL:=λi σ H'=>∃(v4 v5:aJ),σ=[some (.ref g),some (.ref d),some (.int (LF hs)),some (.ref d2),v4,v5]/\aa H H'/\H' dl=some (.frz o (.dK (NG hs qs f)))/\H' d2=some (.dK (br ((aI hs).take i) λh=>.int (BH hs qs f h)))
  apply Xh eX #[none,none,Z,fN (s1.trans Bd) Hm,az,by rw[au d2l];exact Bd _ _ e1] (λi σ H' _ ⟨_,_,_,_,z,_⟩=>z) ?_ ?_
  ·rintro i ky x σ H8 hx ⟨v4,v5,rfl,s8,f8,e8⟩ t ht;let#[n,hn,rfl,rfl]:=GE hx;have hi:i<(aI hs).length:=(cc.mp hn).1;have nm:n∈hs.map (·.1):=(gf hs).mem_iff.mp (cu hn);let sm:=GG nm;let sg:=bM Pl.Gd (cu hn);let lo:=QN wp Pl.dm f n;let ss:=aa.new (o:=.tup [.str n,.int (ld f (qs.map gi) n)]) ht;let s9:=s8.trans ss;let e9:=ss _ _ e8;let f9:=ss _ _ f8;have et:upd H8 t (.tup [.str n,.int (ld f (qs.map gi) n)]) t=some (.tup [.str n,.int (ld f (qs.map gi) n)]):=az;show pT _ _ _ _ _ (upd H8 t (.tup [.str n,.int (ld f (qs.map gi) n)])) _;generalize upd H8 t (.tup [.str n,.int (ld f (qs.map gi) n)])=H9 at ss s9 e9 f9 et ⊢;apply#[t,_,Z,.of et,Z,_,_,Z,_,_,Z,Z,?_];let G9:=Pl.G.same s9;let#[dx,dw,dy,vs,cq,h1,h2,h3,h4,h5,m1,m2,m3,m4,m5]:=id G9.ex;let#[fK,d1,l2,d3,vO,as,ef,w1,_]:=id h2.ex;have iz:(da d1 l2 d3).lookup ("strength":Str)=none:=je _ _ _ Z0 Z0 Z0;apply#[_,Z,_,Z,_,Z,g,CG,dx,_,_,Z,h1,T.cl,T.nW,zx _ _ _,p,fK,_,Z,w1,iz,_,Z,p,n,strOf hs n,hs,ts,cq,Z,h2,Pl.Gd.AC,sm,?_];apply#[_,_,Z,Z,#[by omega,by omega],_,_,Z,Z,.inl #[by omega,by omega],_,Z,_,Z,d2,_,Z,.k (k:=Sum.inr n) e9 (by rw[gq,cQ];omega),?_];apply#[_,_,Z,fN s9 n2,by rw[au d2l.symm];exact f9,?_];rw[az,eO hn,Pd (Py Pl.Gd.BF hn)];congr 2;apply P8 λm _=>?_;by_cases z:m=n
   ·subst z;simp[BH]
   ·simp[z]
  rintro σ H8 ⟨v4,v5,rfl,s8,f8,e8⟩;rw[gq,dJ] at e8;exact#[_,Z,k d2 H8 s8 n2 e8]
end
end Ev
namespace L2
open PySem PySem.Spec PyProof.Rows
section
variable{P:Ad}{w:Af}{K:af}{mg:Str->Option Aa}{base:Heap}
section
variable{N:ae}{qual:Str}{scope:Scope}{f:Addr}{cd:Aa}{A:Ag}{outer:List Env}{s:Ab}{H:Hp}{E:XK}
end
end
open PySem.Calls PySem.W
section
variable{M:Model}{A:Ag}{E:Aa->Ab->Prop}{s:Ab}{base:Heap}{env:Env}{outer:List Env}{L e:Addr}{cls a0:Aa}{Q:Unit->Ab->Prop}
end
section
variable{prog:Ad}{w:Af}{A:Ag}{E:Aa->Ab->Prop}{h:Heap}{g:Array GenState}{d:Drawn}{t:Nat}{os:OsState}{nm q:Str}{C N f:Addr}{bs bm bmB:ax}{hdct:Bool}{sn:ae}{sub:ax}{ab:Bool}{col:Option Bool}{dd:Option Addr}{k0 k1 k2 k3 k5:Option Aa}{B newId UO:String}{K:af}{rest:ax}
end
open Builtin Builtin.ObjectAttr
def Kg(C CE:Addr):ax:=[.ref C,.ref CE,.type "ValueError",.type "Exception",.type "BaseException",.type "object"]
section
variable{prog:Ad}{w:Af}{A:Ag}{E:Aa->Ab->Prop}{s:Ab}{K:af}{x C CE:Addr}{ox:Obj}{od:Option Obj}{name:Str}{tk:Tok}{v:Aa}{cd:ClassData}
end
def Kh(K:af)(C:Addr)(bmB:ax)(newId:String):Bool:=
 match K.lookup C with
 |some ⟨.type "type",_,.cls cd,sl⟩=>
  match cd.mro,sl.toList with
  |.ref C'::bm,[_,_,_,_,some (.builtin n),_]=>C' == C&&n == newId&&!cd.hasDel&&tailIn K bmB bm&&nsOkIn K cd.ns
  |_,_=>false
 |_=>false
def XW(K:af)(C CE:Addr):Bool:=
 match clsIn K C with
 |some cd=>cd.mro == Kg C CE&&cd.hasDict
 |none=>false
structure ExO (K:af) (C CE:Addr):Prop where
 kx:Y5 K C
 ex:Kh K C bmV "ValueError.__new__"=true
 es:findIn K (.ref C) "__setattr__"=some (some (.builtin "object.__setattr__"))
 cl:XW K C CE=true
structure ExF (K:af) (C:Addr) (f:Str):Prop where
 tk:takerIn K C f=some none
 fd:findIn K (.ref C) f=some none
structure ExB (K:af) (CE:Addr):Prop where
 sp:specialIn K (.ref CE) "__getattribute__"=some (some (.builtin "type.__getattribute__"))
 rd:readsIn K CE (.type "type")=true
 fc:findCls K (.ref CE) (.type "type") "__init__"=some (.val (.builtin "ValueError.__init__"))
section
variable{P:Ad}{w:Af}{H:Hp}{h:Heap}{e C a0 d:Addr}{dd:Option Addr}{fs:List (Str × V)}
end
section
variable{X:Cx}{C CE:Addr}{x f:Str}{p apos pos pos':Pos}{o e value:Expr}{es:List Expr}{ta tv:TE}{t:TA}
end
section
variable{X:Cx}{pins:List (Addr × Obj)}{σ:St}{H H':Hp}{s s1:Ab}{B h:Heap}{a:Addr}{cls a0:Aa}{dd:Option Addr}{E:XK}
end
section
variable{P:Ad}{w:Af}{K:af}{mg:Str->Option Aa}{base:Heap}{N:ae}{qual:Str}{scope:Scope}{f:Addr}{cd:Aa}{A:Ag}{outer:List Env}{s:Ab}{H:Hp}{E:XK}
end
section
variable{X:Cx}{x:Str}{C f:Addr}{fd:Ae}{ps:ae}{sp:Sp}{k:Nat}{np dB pos:Pos}{e:Expr}{es:List Expr}{t:TA}{E:XK}
end
section
variable{X:Cx}{i:Nat}{x n:Str}{D C:Addr}{np Oc pos:Pos}{P1:Stmt}{G8 body:List Stmt}{tb:XK->TS}{ts:TS}{rest:List ExceptHandler}
end
section
variable{P:Ad}{w:Af}{K:af}{mg:Str->Option Aa}{base:Heap}{N:ae}{qual:Str}{scope:Scope}{f:Addr}{cd:Aa}{A:Ag}{outer:List Env}{s:Ab}{H:Hp}{E:XK}
end
section
variable{X:Cx}{i:Nat}{x x2 n:Str}{D C D2 C2:Addr}{np Oc np2 hpos2 pos:Pos}{P1 c₀:Stmt}{G8 Th body:List Stmt}{tb:XK->TS}{ts ts2:TS}
end
section
variable{X:Cx}{i:Nat}{x n:Str}{D:Addr}{ok:Addr->Prop}{np Oc pos:Pos}{P1:Stmt}{G8 body:List Stmt}{tb:XK->TS}{ts:TS}
end
section
variable{X:Cx}{k:Nat}{ps:ae}{x:Str}{p pos:Pos}{e:Expr}{es:List Expr}{tn:TE}{t:TA}
end
structure PY (ps dI:ae) (scope:Scope):Prop where
 nd:(ps++dI).Nodup
 kind:scope.kind=.function
 co:scope.isCoroutine=false
 gen:scope.isGenerator=false
 par:∀p∈ps,scope.names.lookup p=some .local
 fv:∀x∈dI,scope.names.lookup x=some .free
 all:∀x,scope.names.lookup x=some .free->x∈dI
 Dx:∀x∈scope.names,x.2≠.cell
def LJ(CX:Fv)(P:Ad)(w:Af)(K:af)(mg:Str->Option Aa)(base:Heap)(N:ae)(qual:Str)(scope:Scope)(f:Addr)(cd:Aa)(cl:List (Str × Addr))(A:Ag)(outer:List Env)(s:Ab)(H:Hp)(E:XK):Cx where
 prog:=P
 w:=w
 K:=K
 mg:=mg
 base:=base
 A:=A.deeper (envX qual scope s.heap.objs.size f cd cl)
 N:=N
 dg:=s
 xy:=H
 env:=envX qual scope s.heap.objs.size f cd cl
 outer:=outer
 stack:=envX qual scope s.heap.objs.size f cd cl::outer
 ex:=[]
 calm:=true
 fn:=λ_=>false
 pn:=[]
 xe:=λe s'=>wpAny (model P w) (A.deeper (envX qual scope s.heap.objs.size f cd cl)) (leaving (envX qual scope s.heap.objs.size f cd cl) e) (λ_ BE=>CX outer H s E e BE) (λe' BE=>CX outer H s E e' BE) s'
theorem eZ_{x:Str}{u:Aa}:∀{l:List (Str × Aa)},(l.map (·.1)).Nodup->(x,u)∈l->l.lookup x=some u
 |(y,v)::l,nd,h=>by
  let n:=Bz.mp nd;rcases bW.mp h with e|h
  ·cases e;simp[List.lookup]
  ·have ne:x≠y:=λz=>n.1 (by rw[<- z];exact bh.mpr #[_,h,Z]);have:(x == y)=false:=by simpa using ne
   rw[Et,this];exact eZ_ n.2 h
theorem hQ_:∀(ps:ae) (us:ax),((ps.zip us).map (·.1)).Sublist ps
 |[],_=>by simp
 |_::_,[]=>by simp
 |p::ps,u::us=>by
  simp only[List.zip_cons_cons,el];exact (hQ_ ps us).cons₂ p
variable{ps:ae}{us:ax}{x:Str}
theorem dw_{i:Nat}{u:Aa}(nd:ps.Nodup)(h1:ps[i]? = some x)(h2:us[i]? = some u):(ps.zip us).reverse.lookup x=some u:=by
 apply eZ_ ?_ (List.mem_reverse.mpr (cu (i:=i) ?_))
 ·rw[List.map_reverse];apply (List.reverse_perm _).nodup_iff.mpr (nd.sublist ?_);exact hQ_ ps us
 ·rw[List.getElem?_zip_eq_some];exact#[h1,h2]
structure Sl (dI:ae) (cl:List (Str × Addr)) (gs:ag) (h:Heap):Prop where
 inj:∀x y c,cl.lookup x=some c->cl.lookup y=some c->x=y
 has:∀x∈dI,∃c,cl.lookup x=some c
 all:∀x c,cl.lookup x=some c->∃v,h.IsCell c v
 is:∀(i:Nat) x v,dI[i]? = some x->gs[i]? = some v->∃c u,cl.lookup x=some c/\RelV v u/\h.IsCell c (some u)
variable{h':Heap}{c:Addr}
theorem IsCell.keeps{h:Heap}{v:Option Aa}(x:h.IsCell c v)(k:∀o,h.get? c=some o->h'.get? c=some o):h'.IsCell c v:=let #[o,e,d]:=x;#[o,k o e,d]
variable{CX:Fv}{w:Af}{mg:Str->Option Aa}{base:Heap}{dI:ae}{f:Addr}{cd:Aa}{A:Ag}{outer:List Env}{s:Ab}{E:XK}{gs:ag}
theorem kc_{P:Ad}{K:af}{qual:Str}{scope:Scope}{cl:List (Str × Addr)}{H:Hp}{vs:ag}{h1:Heap}{tk:Nat}(S:PY ps dI scope)(hd:A.handled=none)(e0:i5 P w K mg base A outer s H)(hl:vs.length=ps.length)(hg:gs.length=dI.length)(r:Vals vs us)(C:Sl dI cl gs s.heap)(fc:∀x c,cl.lookup x=some c->H c=none)(ns:h1.Ns s.heap.objs.size λx=>(ps.zip us).reverse.lookup x)(k:∀b o,s.heap.get? b=some o->h1.get? b=some o) :
  Inv (LJ CX P w K mg base (ps++dI) qual scope f cd cl A outer s H E) [] (vs.map some++gs.map some) H { s with heap:=h1,toks:=tk }:=by
 have F2:∀b:Addr,b∉(LJ CX P w K mg base (ps++dI) qual scope f cd cl A outer s H E).ex:=λb z=>absurd (show b∈([]:ay) from z) Z2
 apply#[#[e0.mod,S.kind,Z,Z,bo _,C.inj,λy hy=>?_,λy c h=>(by cases h),λ_=>hd,Around.frames_deeper e0.frames,.inr #[Z,Z],λb z=>absurd z (F2 b),e0.bs,e0.Eh,λb _ _=>F2 b,λb z=>absurd z (F2 b),e0.gc,e0.Gm],
  rfl,e0.bare,Un.kept k,#[_,ns,λi y v xP h2 h3=>?_],λy c h=>?_,e0.aO.fresh (bo _),fc,λp hp=>absurd (show p∈([]:List (Addr × Obj)) from hp) Z2,e0.aO.kept k,?_]
 ·have hy:scope.names.lookup y=some .cell∨scope.names.lookup y=some .free:=hy;rcases hy with hy|hy
  ·exact absurd Z (S.Dx _ (Bx hy))
  ·exact C.has y (S.all y hy)
 ·have xP:(ps++dI)[i]? = some y:=xP;by_cases hi:i<ps.length
  ·rw[K1 hi] at xP;rw[K1 (by simpa [hl] using hi),dQ] at h2;let#[v',hv,e]:=Iy.mp h2;cases e;let#[u,hu,rv]:=r.get hv;apply#[u,rv,.inl #[S.par y (cu xP),?_]];have QI:ps.Nodup:=(List.nodup_append.mp S.nd).1;show (ps.zip us).reverse.lookup y=some u;exact dw_ QI xP hu
  ·rw[IC Z1] at xP;rw[IC (by simp[hl];omega),dQ,ak,hl] at h2;let#[v',hv,e]:=Iy.mp h2;cases e;let#[c,u,e1,rv,ce]:=C.is _ _ _ xP hv;exact#[u,rv,.inr #[.inr (S.fv y (cu xP)),c,e1,IsCell.keeps ce λo e=>k _ _ e]]
 ·let#[v,ce]:=C.all y c h;exact#[v,IsCell.keeps ce λo e=>k _ _ e]
 ·show _=(ps++dI).length;rw[dY,dY,ak,ak,hl,hg]
variable{k:Nat}{c':Addr}
theorem kn_{P:Ad}{K:af}{qual:Str}{params:Arguments}{body:PySem.Expr}{scope:Scope}{pm xg:Aa}{cl:List (Str × Addr)}{H:Hp}{Q:VK}{vs:ag}{t:TE}(S:PY ps dI scope)(hr:aY (k+1) A)(e0:i5 P w K mg base A outer s H)(hf:s.heap.get? f=some (kla_obj "<lambda>" qual params body scope cl pm c' xg))(hE:s.heap.CodeRec (.ref c') qual)(hb:bindArgs (kla_fn "<lambda>" qual params body scope cl pm (.ref c') xg) #[us,[]]=pure (ps.zip us))(hl:vs.length=ps.length)(hg:gs.length=dI.length)(r:Vals vs us)(C:Sl dI cl gs s.heap)(fc:∀x c,cl.lookup x=some c->H c=none)(ht:aY k (A.deeper (envX qual scope s.heap.objs.size f (.ref c') cl))->PE (LJ CX P w K mg base (ps++dI) qual scope f (.ref c') cl A outer s H E) body t)(hq:t (vs.map some++gs.map some) H Q) :
  codeAny (model P w) A (.call (.ref f) #[us,[]]) (CR CX outer P w H s Q E) s:=by
 have lim:s.heap.NoLimit:=e0.mod.nolimit.keeps λb o e=>(e0.bs b o e).1;apply kla_callFunE hr.depth hf Z S.co S.gen Z hE ?_;rw[hb];apply bR (wpAny_newFunctionEnv S.Dx (λx hx=>?_) (λh1 ns sb=>?_) S.kind)
 ·exact S.par x.1 (List.of_mem_zip hx).1
 have k1:∀b o,s.heap.get? b=some o->h1.get? b=some o:=λb o e=>sb.extBut b o (eM (cE e)) (cO _ e);apply#[lim.keeps k1,?_];show codeAny _ _ (.expr body (envX qual scope s.heap.objs.size f (.ref c') cl)) _ _;let I:=kc_ (CX:=CX) (qual:=qual) (f:=f) (cd:=.ref c') (E:=E) (tk:=s.toks+(ps.zip us).length) S hr.hd e0 hl hg r C fc ns k1;apply kla_codeExpr (wpAny_mono (ht (hr.deeper _) [] _ _ H _ I hq) (λv s' hs=>?_) λe s' hs=>hs);let#[x,H',J,rv,q]:=hs;exact#[x,H',J.os,J.bare,J.base,J.aO,rv,q]
def w9(f:Addr)(qual:Str)(params:Arguments)(body:PySem.Expr)(scope:Scope)(cl:List (Str × Addr))(c':Addr):HO:=.ext λh=>∃pm xg,h.get? f=some (kla_obj "<lambda>" qual params body scope cl pm c' xg)
def Gu(c':Addr)(qual:Str):HO:=.ext λh=>∃o vs t,h.get? c'=some o/\o.data=.fields vs/\vs[1]? = some (.str qual t)
inductive G2 (P:Addr) (qual:Str) (params:Arguments) (body:PySem.Expr) (scope:Scope) (pos:Pos) (cl:List (Str × Addr)) (H:Hp) (Q:VK):Prop
 |mk:∀ps,H P=some (.tbl ps)->TriplesOk ps.toList->((codeAmong pos ps.toList=none/\∀c' f,H c'=none->H f=none->c'≠f->Q (.ref f) (upd (upd (upd H P (.tbl (ps++(List.toArray [rawInt pos.line,rawInt pos.col,.ref c'])))) c' (Gu c' qual)) f (w9 f qual params body scope cl c')))∨∃c',codeAmong pos ps.toList=some (.ref c')/\∀f,H f=none->Q (.ref f) (upd H f (w9 f qual params body scope cl c')))->G2 P qual params body scope pos cl H Q
def MC(P:Addr)(qual:Str)(params:Arguments)(body:PySem.Expr)(scope:Scope)(pos:Pos)(cl:List (Str × Addr)):TE:=λ_ H Q=>G2 P qual params body scope pos cl H Q
variable{X:Cx}{pos:Pos}
theorem _h{params:Arguments}{body:PySem.Expr}{scope:Scope}{cl:List (Str × Addr)}{P:Addr}(Vs:defaultsOf params X.env=([],[]))(Gi:closureFor scope X.env=pure cl)(HG:X.env.code=.ref c)(C:CodeHd X.base c P)(DX:X.base.BuiltinsAt X.mg P) :
  PE X (.Lambda params body scope pos) (MC P (X.env.qual++"<lambda>") params body scope pos cl):=by
 intro pins s σ H Q I h;let#[ps,hP,ht,h]:=h;have hPh:s.heap.get? P=some (tabObj ps):=I.aO P _ hP
 have hgl:H mainGlobals=none:=by
  let#[o,_,_,e,_]:=I.mod.glob;exact (I.bs _ _ e).2
 apply kla_eval Vs ?_;rcases h with⟨hn,q⟩|⟨c',hf,q⟩
 ·apply kla_makeFunction Gi I.ok.glob (I.mod.glob.keeps I.bk) HG (C.keeps I.bk) hPh ht hn (λz=>by rw[z,hP] at hgl;cases hgl) (DX.keeps I.bk) λc' xg h' tk hx Vi dc U0 _Z=>?_;have fz:s.heap.objs.size<=h'.objs.size:=AR Vi (Nat.le_of_lt dc);have nc:H c'=none:=I.aO.fresh Vi;have nf:H h'.objs.size=none:=I.aO.fresh fz;have cf:c'≠h'.objs.size:=eM dc;have Pc:P≠c':=bx hP nc;have Pf:P≠h'.objs.size:=bx hP nf
  have old:∀{b u},H b=some u->b≠P->upd (upd (upd H P (.tbl (ps++(List.toArray [rawInt pos.line,rawInt pos.col,.ref c'])))) c' (Gu c' (X.env.qual++"<lambda>"))) h'.objs.size (w9 h'.objs.size (X.env.qual++"<lambda>") params body scope cl c') b=some u:=λ{b u} e n=>by
   rw[au (bx e nf),au (bx e nc),au n];exact e
  have Du:∀{b u},H b=some u->(∀ps,u≠.tbl ps)->b≠P:=λ{b u} e n z=>by
   rw[z,hP] at e;cases e;exact n _ Z
  have kp:∀b o,b≠P->s.heap.get? b=some o->(h'.push (kla_obj "<lambda>" (X.env.qual++"<lambda>") params body scope cl ((X.mg "__name__").getD .none) c' xg)).get? b=some o:=λb o n e=>cO _ (hx b o n e);apply#[.ref h'.objs.size,_,I.un (t':=tk) #[λb o e n _ _=>kp b o (λz=>by rw[z,hP] at n;cases n) e,λb o e n _ _=>#[o.slots,kp b o (λz=>by rw[z,hP] at n;cases n) e],λb o e n _=>?_,λb o e _=>?_,λb xs e=>old e (Du e Z2),λb o u e=>old e (Du e Z2),λb qs e=>?_] (λb u e=>?_),Z,q c' h'.objs.size nc nf cf]
  ·let lt:=cE e;rw[au (eM (vN lt fz)),au (eM (vN lt Vi)),au (λz=>by rw[z,hP] at n;cases n)];exact n
  ·by_cases z:b=P
   ·subst z;exact#[_,cO _ _Z]
   ·exact#[o,kp b o z e]
  ·by_cases z:b=P
   ·subst z;rw[hP] at e;cases e;exact#[_,by rw[au Pf,au Pc,az]]
   ·exact#[#[],by rw[Array.append_empty];exact old e z]
  ·by_cases z1:b=h'.objs.size
   ·subst z1;rw[az] at e;cases e;exact#[#[_,_,e_ _ Z],#[_,e_ _ Z],λh1 h2 ⟨pm,cv,e1⟩ k=>#[pm,cv,k _ e1]]
   ·rw[au z1] at e;by_cases z2:b=c'
    ·subst z2;rw[az] at e;cases e;let#[c2,oc,vs,t,ec,Oh,hd,hv]:=U0;cases ec;exact#[#[oc,vs,t,cO _ Oh,hd,hv],#[_,cO _ Oh],λh1 h2 ⟨o,vs,t,e1,r⟩ k=>#[o,vs,t,k _ e1,r]]
    ·rw[au z2] at e;by_cases z3:b=P
     ·subst z3;rw[az] at e;cases e;exact cO _ _Z
     ·rw[au z3] at e;apply (I.aO b u e).eS (λd v hd e1=>kp d v ?_ e1) (λd e1=>old e1 (Du e1 Z2)) λd xs e1=>old e1 (Du e1 Z2);rcases hd with rfl|hd
      ·exact z3
      ·exact Du hd Z2
 ·apply kla_makeFunctionHit Gi I.ok.glob (I.mod.glob.keeps I.bk) HG (C.keeps I.bk) hPh ht hf (DX.keeps I.bk) λxg h' tk hk hsz=>?_;have nf:H h'.objs.size=none:=I.aO.fresh hsz;apply#[.ref h'.objs.size,_,I.laid (t':=tk) (λb o e=>cO _ (hk b o e)) hsz ?_,Z,q _ nf];exact#[#[_,_,e_ _ Z],#[_,e_ _ Z],λh1 h2 ⟨pm,cv,e1⟩ k=>#[pm,cv,k _ e1]]
variable{P:Ad}{N:ae}
theorem FZ{K:af}{qual:Str}{scope:Scope}{cl:List (Str × Addr)}{H:Hp}:E4 ba (LJ ba P w K mg base N qual scope f cd cl A outer s H E) E:=λ_ _ _ _ _ _ _ h=>h.elim
section
variable{cs:List (Addr × Obj)}{H H':Hp}{b:Addr}{o:Obj}{u:HO}
variable{P:Ad}{w:Af}{h:Heap}
end
section
variable{X:Cx}{pins:List (Addr × Obj)}{σ:St}{H:Hp}{s s':Ab}{cs:List (Addr × Obj)}
def jh(P:Ad)(w:Af)(K:af)(mg:Str->Option Aa)(base:Heap)(k:Nat)(qual:Str)(params:Arguments)(body:PySem.Expr)(scope:Scope)(ps dI:ae)(sp:ag->ag->Hp->VK->XK->Prop):Prop:=
 ∀(A:Ag) (outer:List Env) (s:Ab) (H:Hp) (f c':Addr) (pm xg:Aa) (cl:List (Str × Addr)) (us:ax) (vs gs:ag) (Q:VK) (E:XK),aY k A->i5 P w K mg base A outer s H->s.heap.get? f=some (kla_obj "<lambda>" qual params body scope cl pm c' xg)->s.heap.CodeRec (.ref c') qual->
  vs.length=ps.length->gs.length=dI.length->Vals vs us->Sl dI cl gs s.heap->(∀x c,cl.lookup x=some c->H c=none)->sp vs gs H Q E->codeAny (model P w) A (.call (.ref f) #[us,[]]) (CR ba outer P w H s Q E) s
theorem Hs{K:af}{qual:Str}{params:Arguments}{body:PySem.Expr}{scope:Scope}{sp:ag->ag->Hp->VK->XK->Prop}(S:PY ps dI scope)(hb:∀pm c' xg cl us,us.length=ps.length->bindArgs (kla_fn "<lambda>" qual params body scope cl pm (.ref c') xg) #[us,[]]=pure (ps.zip us))(f_:∀(A:Ag) (outer:List Env) (s:Ab) (H:Hp) (f:Addr) (cd:Aa) (cl:List (Str × Addr)) (vs gs:ag) (Q:VK) (E:XK),aY k (A.deeper (envX qual scope s.heap.objs.size f cd cl))->sp vs gs H Q E->E4 ba (LJ ba P w K mg base (ps++dI) qual scope f cd cl A outer s H E) E->
   ∃t,PE (LJ ba P w K mg base (ps++dI) qual scope f cd cl A outer s H E) body t/\t (vs.map some++gs.map some) H Q):!jh (k+1) qual params body scope ps dI sp:=by
 intro A outer s H f c' pm xg cl us vs gs Q E hr e0 hf hE hl hg r C fc xM;let#[t,ht,hq]:=f_ A outer s H f (.ref c') cl vs gs Q E (hr.deeper _) xM FZ;exact kn_ S hr e0 hf hE (hb pm c' xg cl us (by rw[<- r.length];exact hl)) hl hg r C fc (λ_=>ht) hq
end
structure SN (dI:ae) (cl:List (Str × Addr)) (cs:List (Addr × Obj)) (gs:ag):Prop where
 len:gs.length=dI.length
 inj:∀x y c,cl.lookup x=some c->cl.lookup y=some c->x=y
 has:∀x∈dI,∃c,cl.lookup x=some c
 all:∀x c,cl.lookup x=some c->∃o v,cs.lookup c=some o/\o.data=.cell v
 is:∀(i:Nat) x v,dI[i]? = some x->gs[i]? = some v->∃c o u,cl.lookup x=some c/\cs.lookup c=some o/\o.data=.cell (some u)/\RelV v u
section
variable{X:Cx}{k:Nat}{x:Str}{p pos:Pos}{tn:TE}{qual:Str}{params:Arguments}{body:PySem.Expr}{scope:Scope}{dI ps:ae}{sp':ag->ag->Hp->VK->XK->Prop}{E:XK}
end
section
variable{X:Cx}{k:Nat}{x:Str}{p pos:Pos}{e:PySem.Expr}{es:List PySem.Expr}{ta:TA}{dI ps:ae}{sp:Sp}{f:Addr}{fd:Ae}{cl:List (Str × Addr)}{is:List Nat}
end
variable{a:Addr}{ts:ay}{fd:Ae}
theorem gP_{K:af}{mb:Str->Option Aa}{fa:Addr}{sp:Sp}{a_:Ab}{vs:ax}{ns:List Int}(hT:∀T∈ts,K.lookup T=none)(eT:∀T∈ts,a_.heap.get? T=some (tabObj #[]))(OH:∀T∈ts,isCodeTable a_.heap T)(KX:K.In a_.heap)(JU:a_.heap.Ns mainGlobals mg)(hb:a_.heap.Ns builtinsNs mb)(hbb:∀x:Str,x≠"__name__"->mb x=bootBuiltins x)(Vb:a_.heap.NoLimit)(hg:a_.gens=#[])(ha:a_.heap.get? a=some { cls:=.type "list",data:=.seq vs.toArray })(hi:IntsAre vs ns)(hl:ns.length<=sizeLine)(hr:aY k callerA)(DX:∃bm ob,mg "__builtins__"=some (.ref bm)/\bm≠builtinsNs/\a_.heap.get? bm=some ob/\ob.cls=.type "module"/\ob.dict=some builtinsNs/\ob.data=.plain)(F:∀base:Heap,K.In base->base.Ns mainGlobals mg->(∀T∈ts,base.BuiltinsAt mg T)->!aj CX k fa fd [x] sp)(OJ:∀(s:Ab) (u:Aa),BindsTo s fd #[[u],[]] [(x,u)])(xM:∀H:Hp,(∀T∈ts,H T=some (.tbl #[]))->d9 K H a (ns.map V.int)->sp [.ref a] H (λv _=>v=.bl true) λ_ _ _=>False)(VF:∀H e s',CX [] H a_ (λ_ _ _=>False) e s'->False) :
  codeAny (model P w) callerA (.call (.ref fa) #[[.ref a],[]]) (λr s'=>r=.ok (.ret (.bool true))/\OldK a_.heap s'.heap/\s'.os=a_.os/\AllBare s'.gens) a_:=by
 let rv:=f5_ hi;let Uy:=hi.length
 have aT:∀{b},b∈ts->b≠a:=λ{b} hb z=>by
  have:=eT b hb;rw[z,ha] at this;cases this
 have core:∀H:Hp,(∀b,H b=none∨(b∈ts/\H b=some (.tbl #[]))∨(b∉ts/\∃o xs,H b=some (.frz o (.lst xs))))->(∀T∈ts,H T=some (.tbl #[]))->d9 K H a (ns.map V.int)->fX P w H a_.heap->(∀b,H b≠none->b=a∨b∈ts)->(H a≠none->K.lookup a=none)->
   codeAny (model P w) callerA (.call (.ref fa) #[[.ref a],[]]) (λr s'=>r=.ok (.ret (.bool true))/\OldK a_.heap s'.heap/\s'.os=a_.os/\AllBare s'.gens) a_:=by
  intro H hO hHT hS aO hA hK;have pZ:∀{b:Addr} {o:Obj},a_.heap.get? b=some o->H b=none->(i0 a_.heap H).get? b=some o:=λe n=>iL_ e n
  have F2:∀{b:Addr} {o:Obj} {es:Array DictEntry} {ep:Nat},a_.heap.get? b=some o->o.data=.dict es ep->H b=none:=λ{b o es ep} e d=>by
   cases q:H b with
   |none=>rfl
   |some u=>
    rcases hA b (by rw[q];simp) with e'|e'
    ·subst e';rw[ha] at e;cases e;have d':Data.seq vs.toArray _=Data.dict es ep:=d;cases d'
    ·rw[eT b e'] at e;cases e;cases d
  have QG:∀{b:Addr} {m:Str->Option Aa},a_.heap.Ns b m->(i0 a_.heap H).Ns b m:=λ{b m} ⟨o,es,ep,e,d,r⟩=>#[o,es,ep,pZ e (F2 e d),d,r]
  have hKb:K.In (i0 a_.heap H):=λb o e=>pZ (KX b o e) (by
   cases q:H b with
   |none=>rfl
   |some u=>
    rcases hA b (by rw[q];simp) with e'|e'
    ·subst e';rw[hK (by rw[q];simp)] at e;cases e
    ·rw[hT b e'] at e;cases e)
  have hB:∀T∈ts,(i0 a_.heap H).BuiltinsAt mg T:=λT hTs=>by
   let#[bm,ob,h1,h2,h3,h4,h5,h6]:=DX
   have n1:bm≠mainGlobals:=λz=>by
    let#[o,es,ep,e,d,_]:=JU;rw[z,e] at h3;cases h3;rw[d] at h6;cases h6
   have n2:∀{b},b∈ts->bm≠b:=λ{b} hb z=>by
    rw[z,eT b hb] at h3;cases h3;cases h6
   apply#[bm,ob,h1,h2,n1,n2 hTs,pZ h3 ?_,h4,h5,h6];cases q:H bm with
   |none=>rfl
   |some u=>
    rcases hA bm (by rw[q];simp) with e'|e'
    ·subst e';rw[ha] at h3;cases h3;cases h6
    ·exact absurd Z (n2 e')
  have hM:Mod K mg (i0 a_.heap H):=#[hKb,QG JU,#[mb,QG hb,hbb],let #[mc,h1,h2]:=Vb;#[mc,QG h1,h2]];have e0:i5 P w K mg (i0 a_.heap H) callerA [] a_ H:=#[Z,hM,λb o e=>l9_ e,Nat.le_of_eq (i1_ _ _),trivial,λb hb=>absurd (show b∈([]:ay) from hb) Z2,aO,.of_eq hg];apply codeAny_mono ((F _ hKb (QG JU) hB).run callerA [] a_ H #[[.ref a],[]] [.ref a] [.ref a] _ _ hr e0 (OJ a_ (.ref a)) (.cons Z .nil) (xM H hHT hS)) λr s' h=>?_;cases r with
  |error e=>exact (VF H e s' h).elim
  |ok fl=>
   cases fl with
   |next=>exact False.elim h
   |brk=>exact False.elim h
   |cont=>exact False.elim h
   |ret u=>
    let#[v,H',os,bare,un,Of,r',q]:=h;have q':v=.bl true:=q;subst q';obtain rfl:u=Value.bool true:=r'
    have main:∀b o,a_.heap.get? b=some o->s'.heap.get? b=some o∨(b∈ts/\o=tabObj #[]/\∃more,s'.heap.get? b=some (tabObj (#[]++more))):=λb o e=>by
     cases q:H b with
     |none=>exact .inl (un.keep b o e q (by intro z;exact absurd (show b∈([]:ay) from z) Z2) Z2)
     |some u=>
      rcases hO b with z|⟨zT,z⟩|⟨_,ob,xs,z⟩
      ·rw[q] at z;cases z
      ·rw[eT b zT] at e;cases e;let#[more,z]:=un.iW b _ z;exact .inr #[zT,Z,more,Of b _ z]
      ·let z2:=un.hG b ob _ z;let#[e1,_]:=aO b _ z;let#[e2,_]:=Of b _ z2;rw[e] at e1;cases e1;exact .inl e2
    apply#[Z,#[λb o e=>?_,λb o e=>?_],os,bare]
    ·rcases main b o e with z|⟨zT,rfl,more,z⟩
     ·exact .inl z
     ·exact .inr (.inl #[OH b zT,Z,_,_,Z,z])
    ·rcases main b o e with z|⟨_,_,more,z⟩
     ·exact#[_,z]
     ·exact#[_,z]
 cases hk:K.lookup a with
 |some o=>
  let e:=KX a o hk;rw[ha] at e;cases e;apply core (λb=>if b∈ts then some (.tbl #[]) else none) (λb=>?_) (λT h=>aA h) (.inr #[_,vs.toArray,_,hk,Z,Z,Z,by rw[dD,Uy];exact hl,by simpa using rv]) (λb u z=>?_) (λb z=>?_) λz=>absurd (ao λq=>aT q Z) z
  ·by_cases hb:b∈ts
   ·exact .inr (.inl #[hb,aA hb])
   ·exact .inl (ao hb)
  ·by_cases hb:b∈ts
   ·let z':=(aA hb).symm.trans z;cases z';exact eT b hb
   ·let z':=(ao hb).symm.trans z;cases z'
  ·by_cases hb:b∈ts
   ·exact .inr hb
   ·exact absurd (ao hb) z
 |none=>
  have T2:∀{b:Addr},b∈ts->(λb=>if b∈ts then some (.tbl #[]) else if b=a then some (HO.frz { cls:=.type "list",data:=.seq vs.toArray } (.lst (ns.map V.int))) else none) b=some (.tbl #[]):=λ{b} hb=>aA hb;apply core (λb=>if b∈ts then some (.tbl #[]) else if b=a then some (.frz { cls:=.type "list",data:=.seq vs.toArray } (.lst (ns.map V.int))) else none) (λb=>?_) (λT h=>aA h) (.inl (.inr #[{ cls:=.type "list",data:=.seq vs.toArray },(ao λq=>aT q Z).trans (aA Z)])) (λb u z=>?_) (λb z=>?_) λ_=>hk
  ·by_cases AH:b∈ts
   ·exact .inr (.inl #[AH,aA AH])
   ·by_cases hb:b=a
    ·exact .inr (.inr #[AH,_,_,(ao AH).trans (aA hb)])
    ·exact .inl ((ao AH).trans (ao hb))
  ·by_cases AH:b∈ts
   ·let z':=(aA AH).symm.trans z;cases z';exact eT b AH
   ·by_cases hb:b=a
    ·let z':=((ao AH).trans (aA hb)).symm.trans z;cases z';subst hb;exact#[ha,by rw[ak];exact hl,vs,_,rv,ha]
    ·let z':=((ao AH).trans (ao hb)).symm.trans z;cases z'
  ·by_cases AH:b∈ts
   ·exact .inr AH
   ·by_cases hb:b=a
    ·exact .inl hb
    ·exact absurd ((ao AH).trans (ao hb)) z
variable{T:Addr}
theorem ge_{K:af}(h:T∉K.map (·.1)):K.lookup T=none:=by
 induction K with
 |nil=>rfl
 |cons p K ih=>
  let#[b,o]:=p;simp only[el,bW,not_or] at h;rw[Et,show (T == b)=false by simpa using h.1];exact ih h.2
variable{n:Nat}
theorem Cb{l:PySem.W.OpenLaw}{q:Ad}{loose:ae}{XP:(Str->Option Aa)->Heap->Prop}{d:DefRec}{K:Params->af}{as:ay}{Rr:∀P:Params,as=(K P).map (·.1)}{CX:Af->Fv}{sp:Af->Sp}(hn:l.most=some n)(JV:n<=sizeLine)(xb:d.params.defaults=[])(hr:aY k callerA)(UX:(ts.all λT=>!as.contains T)=true)(F:∀(w:Af) (mg:Str->Option Aa) (fa:Addr) (h:Heap),(K w.params).In h->h.Ns mainGlobals mg->mg d.name=some (.ref fa)->
   ∃fd:Ae,(∀(s:Ab) (u:Aa),BindsTo s fd #[[u],[]] [(x,u)])/\(∀T∈ts,isCodeTable h T) /\
    ∀base:Heap,(K w.params).In base->base.Ns mainGlobals mg->(∀T∈ts,base.BuiltinsAt mg T)->aj l.prog w (K w.params) mg base (CX w) k fa fd [x] (sp w))(xM:∀(w:Af) (H:Hp) (a:Addr) (ns:List Int),ns.length<=n->(∀T∈ts,H T=some (.tbl #[]))->d9 (K w.params) H a (ns.map V.int)->sp w [.ref a] H (λv _=>v=.bl true) λ_ _ _=>False)(VF:∀(w:Af) (H:Hp) (s:Ab) (e:Aa) (s':Ab),CX w [] H s (λ_ _ _=>False) e s'->False) :
  PySem.W.WalkO q loose XP (kmHook K as Rr ts).says l.row.toRowW d [] (λf vs=>PySem.call f vs):=by
 apply Att.xn hn xb λw dg a_ mg mb fa o pm cd doc a vs ns G Y ho hd hE hmg JS hints hlen hg=>?_;have KX:(K w.params).In a_.heap:=km_in_of Y;have eT:∀T∈ts,a_.heap.get? T=some (tabObj #[]):=Y.2;let#[fd,hb,OH,hF]:=F w mg fa _ KX G.T.g hmg;apply gP_ (λT h=>ge_ ?_) eT OH KX G.T.g G.T.b G.T.builtins G.T.nolimit hg JS hints (AR hlen JV) hr G.T.bmain hF hb (λH hO hS=>xM w H a ns hlen hO hS) λH e s'=>VF w H a_ e s';have:=List.all_eq_true.mp UX T h;rw[<- Rr w.params];simpa using this
open PySem.W in
def zm:List (Pos × Addr)->ax
 |[]=>[]
 |(p,c)::es=>rawInt p.line::rawInt p.col::.ref c::zm es
def d8(H:Hp)(T:Addr)(qual:Str):Prop:=∃es:List (Pos × Addr),H T=some (.tbl (zm es).toArray)/\∀e∈es,H e.2=some (Gu e.2 qual)
variable{H':Hp}
theorem d8.same{H:Hp}{qual:Str}(s:aa H H')(h:d8 H T qual):d8 H' T qual:=by
 let#[es,a,b]:=h;exact#[es,s _ _ a,λe he=>s _ _ (b e he)]
theorem fO_:∀es:List (Pos × Addr),TriplesOk (zm es)
 |[]=>trivial
 |(p,c)::es=>by
  have:=fO_ es;simp[zm,TriplesOk,rawInt,this]
theorem ez_:∀(es:List (Pos × Addr)) (p:Pos) (c:Addr),zm (es++[(p,c)])=zm es++[rawInt p.line,rawInt p.col,.ref c]
 |[],p,c=>rfl
 |(p',c')::es,p,c=>by
  show rawInt p'.line::rawInt p'.col::.ref c'::zm (es++[(p,c)])=_;rw[ez_ es p c];rfl
theorem d5_(pos:Pos):∀es:List (Pos × Addr),codeAmong pos (zm es)=none∨∃e∈es,codeAmong pos (zm es)=some (.ref e.2)
 |[]=>.inl Z
 |(p,c)::es=>by
  by_cases h:codeAmong pos (zm ((p,c)::es))=some (.ref c)
  ·exact .inr #[(p,c),c8,h]
  ·have e:codeAmong pos (zm ((p,c)::es))=codeAmong pos (zm es):=by
    show codeAmong pos (rawInt p.line::rawInt p.col::.ref c::zm es)=_;have h:¬codeAmong pos (rawInt p.line::rawInt p.col::.ref c::zm es)=some (.ref c):=h;simp only[codeAmong,rawInt] at h ⊢;split at h
    ·exact absurd Z h
    ·rename_i q
     rw[ao q]
   rcases d5_ pos es with q|⟨x,hx,q⟩
   ·exact .inl (e.trans q)
   ·exact .inr #[x,dF _ hx,e.trans q]
open Qj
variable{E:Aa->Ab->Prop}{B:Ag}{H0:Hp}{kf:V->aN}
section
variable{X:Cx}{pins:List (Addr × Obj)}{σ:St}{H:Hp}{s:Ab}
theorem Inv.IP{t':Nat}{fp:ay}{ys:ag}{its:ax}(I:Inv X pins σ H s)(k:∀b o,b∉fp->s.heap.get? b=some o->h'.get? b=some o)(hf:∀b∈fp,dk X pins H b)(hT:T∈fp)(hz:ys.length<=sizeLine)(r:Vals ys its)(ht:h'.get? T=some { cls:=.type "list",data:=.seq its.toArray n }):Inv X pins σ (upd H T (.lst ys)) { s with heap:=h',toks:=t' }:=by
 have fT:H T=none:=(hf T hT).1;have nf:∀b u,H b=some u->b∉fp:=λb u e hb=>by rw[(hf b hb).1] at e;cases e
 have old:∀{b u},H b=some u->upd H T (.lst ys) b=some u:=λe=>by rw[au (bx e fT)];exact e
 apply I.step (g':=s.gens) (d':=s.drawn) (ch:=fp) (λb hb=>?_) (λb o _ _ hc e _=>k b o hc e) (λb o _ _ hc e _=>#[o.slots,k b o hc e]) (λb o hc e n=>?_)
  (λb o hc e=>#[o,k b o hc e]) (λb ys e=>old e) (λb o u e=>old e) (λb ps e=>#[#[],by rw[Array.append_empty];exact old e]) (λm hm=>?_) (λb u e=>?_) I.bare
 ·let#[f0,f1,f2,f3,f4,f5]:=hf b hb;exact#[f3,f1,f4,f5]
 ·rw[au (λz=>hc (by rw[z];exact hT))];exact n
 ·let#[o,es,ep,ho,r]:=hm;exact#[o,es,ep,k _ o (λhb=>(hf _ hb).2.1 Z) ho,r]
 ·by_cases z:b=T
  ·subst z;rw[az] at e;cases e;exact#[hz,its,n,r,ht]
  ·rw[au z] at e;apply (I.aO b u e).eS (λc v hc q=>k c v ?_ q) (λ_ q=>old q) λ_ _ q=>old q;rcases hc with z|z
   ·rw[z];exact nf b u e
   ·exact nf c _ z
theorem dk.at{b:Addr}(f:dk X pins H b)(n:H' b=none):dk X pins H' b:=#[n,f.2]
def A5(X:Cx)(σ:St)(B:Ag)(fv:Aa)(H0:Hp)(kf:V->aN)(xs:ag):Prop:=
 ∀(pins:List (Addr × Obj)) (H:Hp) (s:Ab) (x:V) (u:Aa),Inv X pins σ H s->aa H0 H->x∈xs->RelV x u->
  wpAny (model X.prog X.w) B (call fv [u]) (EP X pins σ λv H'=>aa H H'/\∃t,v=.ref t/\H' t=some (.tup ((kf x).map kV))) (λ_ _=>False) s
theorem kJ_{fv:Aa}{kS:Addr}{e1:Nat}{all:ag}{Q:PUnit->Ab->Prop}{body:Aa->PUnit->Sem (ForInStep PUnit)}(Bl:a≠kS)(xi:A5 X σ B fv H0 kf all)(hb:∀(u:Aa) (s:Ab) (Qb:ForInStep PUnit->Ab->Prop),wpAny (model X.prog X.w) B (call fv [u]) (λk s'=>wpAny (model X.prog X.w) B (Builtin.List.listUpdate (.ref kS) (·.push k)) (λ_ BE=>Qb (.yield ⟨⟩) BE) E s') (λ_ _=>False) s->wpAny (model X.prog X.w) B (body u ⟨⟩) Qb E s) :
  ∀(xs:ag) (us:ax) (ks:ag) (kvs:ax) (kk:List aN) (H:Hp) (s:Ab) (c:Nat),Vals xs us->(∀x∈xs,x∈all)->Inv X pins σ H s->aa H0 H->dk X pins H a->dk X pins H kS->s.heap.get? a=some (seqObj "list" #[] e1)->s.heap.get? kS=some (seqObj "list" kvs.toArray c)->
   Vals ks kvs->bg X.K H ks kk->kvs.length+us.length<64->
   (∀H' s' fQ c',Inv X pins σ H' s'->aa H0 H'->dk X pins H' a->dk X pins H' kS->s'.heap.get? a=some (seqObj "list" #[] e1)->s'.heap.get? kS=some (seqObj "list" fQ.toArray c')->fQ.length=kvs.length+us.length->(∃DE,Vals DE fQ/\bg X.K H' DE (kk++xs.map kf))->Q ⟨⟩ s')->
   wpAny (model X.prog X.w) B (forIn us PUnit.unit body) Q E s:=by
 intro xs
 induction xs with
 |nil=>
  intro us ks kvs kk H s c rv _ I sm fa fk ha hk r t _ q;cases rv;rw[List.forIn_nil];exact bR (q H s kvs c I sm fa fk ha hk Z2 #[ks,r,by simpa using t])
 |cons x xs ih=>
  intro us ks kvs kk H s c rv hx I sm fa fk ha hk r t hz q
  obtain⟨u,us,rfl,ru,rr⟩:∃u Y8,us=u::Y8/\RelV x u/\Vals xs Y8:=by
   cases rv with
   |cons h t=>exact#[_,_,Z,h,t]
  rw[List.forIn_cons];rw[iE] at hz;apply aP (hb u s _ ?_)
  have hf:∀b∈[a,kS],dk X pins H b:=λb hb=>by
   rcases bW.mp hb with rfl|hb
   ·exact fa
   ·obtain rfl:b=kS:=by simpa using hb
    exact fk
  let I1:=I.pinned (fp:=[a,kS]) hf (λb hb=>by
   rcases bW.mp hb with rfl|hb
   ·exact#[_,ha,λv z=>by cases z]
   ·obtain rfl:b=kS:=by simpa using hb
    exact#[_,hk,λv z=>by cases z])
  apply wpAny_mono (xi _ H s x u I1 sm (hx x c8) ru) (λk s1 ⟨v,H1,J,rv,QA,tk,ev,etk⟩=>?_) λ_ _ z=>z
  have pa:(a,seqObj "list" #[] e1)∈GB [a,kS] s.heap:=by
   unfold GB;exact GP.mpr #[a,by simp,by rw[ha];rfl]
  have pk:(kS,seqObj "list" kvs.toArray c)∈GB [a,kS] s.heap:=by
   unfold GB;exact GP.mpr #[kS,by simp,by rw[hk];rfl]
  let#[VA,na1,_]:=J.pin _ (zF _ (zF _ pa));let#[QW,nk1,_]:=J.pin _ (zF _ (zF _ pk));have VA:s1.heap.get? a=some (seqObj "list" #[] e1):=VA;have QW:s1.heap.get? kS=some (seqObj "list" kvs.toArray c):=QW;let J0:=J.eQ;let fa1:=fa.at (H':=H1) na1;let fk1:=fk.at (H':=H1) nk1;have Lj:kvs.length<64:=by omega
  apply listUpdate_at QW Z ?_ (by rw[dD,ck];omega) (AR (Nat.le_of_eq (Array.size_push ..)) (by rw[dD,ck];omega));have Nc:∀b o,b∉[kS]->s1.heap.get? b=some o->(s1.heap.update kS (Obj.mapSeq (·.push k))).get? b=some o:=λb o hb e=>(E5 _ _ (λz=>hb (by simp[z]))).trans e;have ea:kvs.toArray.push k=(kvs++[k]).toArray:=by simp
  obtain⟨c2,Gj⟩:∃c2,(s1.heap.update kS (Obj.mapSeq (·.push k))).get? kS=some (seqObj "list" (kvs++[k]).toArray c2):=#[_,by rw[<- ea];exact get?_update_seq QW (·.push k)]
  have I2:Inv X pins σ H1 { s1 with heap:=s1.heap.update kS (Obj.mapSeq (·.push k)) }:=J0.pE (t':=s1.toks) (fp:=[kS]) Nc (λb hb=>by
   obtain rfl:b=kS:=by simpa using hb
   exact fk1)
  subst ev;apply ih us (ks++[.ref tk]) (kvs++[k]) (kk++[kf x]) H1 _ c2 rr (λy hy=>hx y (dF _ hy)) I2 (sm.trans QA) fa1 fk1 ?_ Gj (r.append (.cons rv .nil)) ?_ (by rw[dY,K2];omega) λH' s' fQ c' a1 a2 a3 a4 a5 a6 a7 a8=>?_
  ·exact Nc a _ (by simpa using Bl) VA
  ·exact Paired.snoc (t.same QA) #[tk,Z,etk]
  ·apply q H' s' fQ c' a1 a2 a3 a4 a5 a6 (by rw[a7,dY,K2,iE];omega) ?_;let#[DE,b1,b2]:=a8;exact#[DE,b1,by simpa using b2]
end
variable{xs:ag}
variable{sh:List Bool}
section
variable{X:Cx}{pins:List (Addr × Obj)}{σ:St}{H:Hp}{s:Ab}{B:Ag}
theorem kT_{zs:ag}{p:Array Nat}(g:Good xs.length p)(up:Up (λi j=>bw ((xs.map kf).getD i []) ((xs.map kf).getD j [])) p xs.length)(ez:zs=p.toList.map λi=>xs.getD i .non):zs.Perm xs/\zs.map kf=aU (xs.map kf):=by
 have gk:Good (xs.map kf).length p:=by rw[ak];exact g
 let asc:=VT (ks:=xs.map kf) (λi j _ _=>rfl) gk (by rw[ak];exact up)
 have perm:(p.toList.map λi=>(xs.map kf).getD i []).Perm (xs.map kf):=by
  have:=P4 gk λi=>(xs.map kf).getD i [];rwa [P9] at this
 let es:=RN perm asc;apply#[?_,?_]
 ·have:=P4 (n:=xs.length) g λi=>xs.getD i .non;rw[P9] at this;rw[ez];exact this
 ·rw[<- es,ez,cm];apply BC λi hi=>?_;have m:i∈(List.range xs.length).toArray:=g.mem_iff.mp (by simpa using hi);have m:i<xs.length:=by simpa using m
  show kf (xs.getD i .non)=(xs.map kf).getD i [];simp[List.getD,m]
theorem h2_{P:PySem.Fin->Ab->Prop}(I:Inv X pins σ H s)(fa:dk X pins H a)(ho:s.heap.get? a=some (seqObj "list" us.toArray n))(r:Vals xs us)(dm:us.length<64)(al:HU (xs.map kf) sh)(xi:A5 X σ B (.ref f) H kf xs)(h:∀zs H' s',Inv X pins σ (upd H' a (.lst zs)) s'->aa H H'->H' a=none->zs.Perm xs->zs.map kf=aU (xs.map kf)->P (.done (.ret .none)) s'):wpAny (model X.prog X.w) B (ksk_tree a (.ref f) false) P E s:=by
 let lx:=r.length;obtain⟨e1,Lp⟩:∃e1,(s.heap.update a (Obj.mapSeq λ_=>(#[]:Array Aa))).get? a=some (seqObj "list" #[] e1):=#[_,get?_update_seq ho λ_=>#[]];have Nc:∀b o,b∉[a]->s.heap.get? b=some o->(s.heap.update a (Obj.mapSeq λ_=>(#[]:Array Aa))).get? b=some o:=λb o hb e=>(E5 _ _ (λz=>hb (by simp[z]))).trans e
 have I1:Inv X pins σ H { s with heap:=s.heap.update a (Obj.mapSeq λ_=>(#[]:Array Aa)) }:=I.pE (t':=s.toks) (fp:=[a]) Nc (λb hb=>by
  obtain rfl:b=a:=by simpa using hb
  exact fa)
 unfold ksk_tree;apply aP (listItems_at ho Z ?_);apply aP (listUpdate_at ho Z ?_ (by rw[dD,ck];omega) (gx _));apply aP (seqEpoch_at Lp Z ?_);apply aP (wpAny_newTuple ?_ (by show us.length<=_;rw[ck];omega));apply aP (wpAny_newList ?_ (gx _));apply wpAny_holding ?_;have I2:Inv X pins σ H { s with heap:=(s.heap.update a (Obj.mapSeq λ_=>(#[]:Array Aa))).push (seqObj "tuple" us.toArray 0) }:=I1.kept (t':=s.toks) λb u e=>cO _ e;have I3:Inv X pins σ H { s with heap:=((s.heap.update a (Obj.mapSeq λ_=>(#[]:Array Aa))).push (seqObj "tuple" us.toArray 0)).push (seqObj "list" #[] 0) }:=I2.kept (t':=s.toks) λb u e=>cO _ e;have fk:dk X pins H ((s.heap.update a (Obj.mapSeq λ_=>(#[]:Array Aa))).push (seqObj "tuple" us.toArray 0)).objs.size:=I2.pU (bo _) (I2.aO.fresh (bo _));have BM:(((s.heap.update a (Obj.mapSeq λ_=>(#[]:Array Aa))).push (seqObj "tuple" us.toArray 0)).push (seqObj "list" #[] 0)).get? a=some (seqObj "list" #[] e1):=cO _ (cO _ Lp);have Vf:(((s.heap.update a (Obj.mapSeq λ_=>(#[]:Array Aa))).push (seqObj "tuple" us.toArray 0)).push (seqObj "list" #[] 0)).get? ((s.heap.update a (Obj.mapSeq λ_=>(#[]:Array Aa))).push (seqObj "tuple" us.toArray 0)).objs.size=some (seqObj "list" #[] 0):=e_ _ Z;have Bl:a≠((s.heap.update a (Obj.mapSeq λ_=>(#[]:Array Aa))).push (seqObj "tuple" us.toArray 0)).objs.size:=eM (cE (cO (seqObj "tuple" us.toArray 0) Lp));show wpAny (model X.prog X.w) B (ksk_rest a (.ref f) false us.toArray e1 (.ref ((s.heap.update a (Obj.mapSeq λ_=>(#[]:Array Aa))).push (seqObj "tuple" us.toArray 0)).objs.size)) P E { s with heap:=((s.heap.update a (Obj.mapSeq λ_=>(#[]:Array Aa))).push (seqObj "tuple" us.toArray 0)).push (seqObj "list" #[] 0) };generalize ((s.heap.update a (Obj.mapSeq λ_=>(#[]:Array Aa))).push (seqObj "tuple" us.toArray 0)).objs.size=kS at fk Vf Bl ⊢;generalize ((s.heap.update a (Obj.mapSeq λ_=>(#[]:Array Aa))).push (seqObj "tuple" us.toArray 0)).push (seqObj "list" #[] 0)=h3 at I3 BM Vf ⊢;clear I2 I1 Nc;unfold ksk_rest;apply aP (wpAny_rule ?_);rw[List.forIn_toArray];apply aP (kJ_ (pins:=pins) (E:=E) (e1:=e1) Bl xi (λu s4 Qb hq=>?_) xs us [] [] [] H _ 0 r (λx hx=>hx) I3 (aa.refl H) fa fk BM Vf .nil .nil (by simpa using dm) λH5 s5 kvs c5 I5 sm5 fa5 fk5 ha5 hk5 lk ⟨ks,rk,tk⟩=>?_)
 ·apply aP (wpAny_attempt (wpAny_mono hq (λk BE hk=>?_) λ_ _ hF=>hF.elim));exact aP (wpAny_mono hk (λ_ s6 h6=>bR h6) λ_ _ z=>z)
 rw[List.nil_append] at tk;rw[zD,Nat.zero_add] at lk;apply aP (listItems_at hk5 Z ?_)
 have tail:∀(p:Array Nat) (st:SortSt),Good xs.length p->Up (λi j=>bw ((xs.map kf).getD i []) ((xs.map kf).getD j [])) p xs.length->(arrOf st).map (·.2)=(zk p us).toArray->failedOf st=none->wpAny (model X.prog X.w) B (ksk_tail a false e1 (.ref kS) st) P E s5:=λp st g up U5 OD=>by
  have gu:Good us.length p:=by rw[<- lx];exact g
  have hz:(zk p us).length=us.length:=by
   unfold zk;rw[ak,B7];exact gu.size
  let s1:=Heap.SameBut.update s5.heap kS (Obj.mapSeq λ_=>(#[]:Array Aa));have OM:(s5.heap.update kS (Obj.mapSeq λ_=>(#[]:Array Aa))).get? a=some (seqObj "list" #[] e1):=(E5 _ _ (Ne.symm Bl)).trans ha5;unfold ksk_tail;dsimp only;rw[U5];apply aP (listUpdate_at hk5 Z ?_ (by rw[dD,ck];omega) (gx _));apply aP (wpAny_letGo ?_);apply aP (seqEpoch_at OM Z ?_);simp only[GO,if_false];apply aP (listUpdate_at OM Z ?_ (gx _) (by rw[dD,hz,ck];omega));rw[OD];simp only[bne_self_eq_false,GO,if_false]
  have zl:(p.toList.map λi=>xs.getD i .non).length<=sizeLine:=by
   rw[ak,B7,g.size,ck];omega
  let#[pz,ek]:=kT_ (zs:=p.toList.map λi=>xs.getD i .non) g up Z;apply bR (h _ H5 _ (I5.IP (t':=s5.toks) (fp:=[a,kS]) (T:=a) (λb o hb e=>?_) (λb hb=>?_) Z2 zl (Wk r gu) (get?_update_seq OM _)) sm5 fa5.1 pz ek)
  ·have n1:b≠a:=λz=>hb (by simp[z]);have n2:b≠kS:=λz=>hb (by simp[z]);exact (E5 _ _ (Ne.symm n1)).trans ((E5 _ _ (Ne.symm n2)).trans e)
  ·rcases bW.mp hb with rfl|hb
   ·exact fa5
   ·obtain rfl:b=kS:=by simpa using hb
    exact fk5
 unfold ksk_end;dsimp only;simp only[GO,if_false];by_cases h2:us.toArray.size<2
 ·rw[aA h2,aA h2];apply aP (bR ?_);rw[StateT.run_pure];apply aP (bR (tail (List.range xs.length).toArray _ (Array.Perm.refl _) (λi j zg hj=>?_) ?_ Z))
  ·have e:i=j:=by
    simp only[dD] at h2;omega
   subst e;exact L8 _
  ·show ((kvs.toArray.zip us.toArray).map λx:Keyed=>x.2)=_;rw[show xs.length=us.length from lx,da_];apply Array.ext' ?_;simp[List.map_snd_zip,lk]
 ·rw[ao h2,ao h2]
  have vG:2<=us.length:=by
   simp only[dD] at h2;omega
  let#[κ,hk,hc]:=eT_ (A:=B) (s':=s5) I5 rk tk al Z1 (λ_ _ e=>e);apply aP (wpAny_mono (hk (λk s'=>k=κ/\s'=s5) #[Z,Z]) (λk s7 Ow=>?_) λ_ _ x=>x.elim);let#[rfl,rfl]:=Ow;have O:Ord (λi j=>bw ((xs.map kf).getD i []) ((xs.map kf).getD j [])):=Xn _
  apply aP (wpAny_mono (kat_run (ks:=kvs) (vs:=us) (G:=λp s'=>s'=s7/\Good us.length p/\Up (λi j=>bw ((xs.map kf).getD i []) ((xs.map kf).getD j [])) p us.length)
   (Q:=λfo s'=>∃p:Array Nat,arrOf fo=p.map (kas_item (kvs.toArray.zip us.toArray))/\failedOf fo=none/\s'=s7/\Good us.length p/\Up (λi j=>bw ((xs.map kf).getD i []) ((xs.map kf).getD j [])) p us.length)
   lk vG dm (λp fo s' _ q1 q2 q3=>#[p,q1,q2,q3]) (Ok.wp (n:=us.length) (λi j C hi hj=>hc i j C Z1 Z1) (λp q=>#[Z,q]) (hf_ O Z1))) ?_ λ_ _ x=>x)
  rintro⟨⟨⟩,fo⟩ s' ⟨p,Vy,hf,BI,g,u⟩;subst BI;rw[<- lx] at g u;exact tail p fo g u (kat_snds lk Vy) hf
end
section
variable{X:Cx}{pins:List (Addr × Obj)}{σ:St}{H:Hp}{s:Ab}
theorem Inv.Ec{cl:List (Str × Addr)}{is:List Nat}(I:Inv X pins σ H s)(AG:∀q∈cl,X.env.cells.lookup q.1=some q.2)(Gi:∀x∈dI,∃c,cl.lookup x=some c)(Oy:∀x∈dI,X.env.scope.names.lookup x=some .cell)(hN:is.map (λi=>X.N[i]?)=dI.map some)(Lr:is.map (λi=>σ[i]?)=gs.map (λv=>some (some v))):gs.length=dI.length/\Sl dI cl gs s.heap/\∀x c,cl.lookup x=some c->H c=none:=by
 have lk:∀{x c},cl.lookup x=some c->(x,c)∈cl:=λe=>Bx e;apply#[?_,#[λa b c h1 h2=>I.ok.inj a b c (AG _ (lk h1)) (AG _ (lk h2)),Gi,λa c h1=>I.cell a c (AG _ (lk h1)),λj a v h1 h2=>?_],λx c e=>I.eL x c (AG _ (lk e))]
 ·let a:=dU List.length Lr;let b:=dU List.length hN;simp only[ak] at a b;omega
 ·let#[c,hc]:=Gi a (cu h1);have e1:(is.map λi=>X.N[i]?)[j]? = some (some a):=by rw[hN,dQ,h1];rfl
  have e2:(is.map λi=>σ[i]?)[j]? = some (some (some v)):=by rw[Lr,dQ,h2];rfl
  rw[dQ] at e1 e2;let#[i,hi,e1]:=Iy.mp e1;rw[hi] at e2;have e2:σ[i]? = some (some v):=ee e2;let#[m,_,hl]:=I.loc;let kd:=Oy a (cu h1);let#[u,ru,lo]:=hl i a v e1 e2 (.inr (.inl kd));rcases lo with⟨z,_⟩|⟨_,c2,e3,o,e4,e5⟩
  ·have z:X.env.scope.names.lookup a=some .local:=z;rw[kd] at z;cases z
  ·rw[AG _ (lk hc)] at e3;cases e3;exact#[c,u,hc,ru,o,e4,e5]
theorem kf_{qual:Str}{params:Arguments}{body:PySem.Expr}{scope:Scope}{p:Str}{sp:ag->ag->Hp->VK->XK->Prop}{cl:List (Str × Addr)}{is:List Nat}(F:jh X.prog X.w X.K X.mg X.base k qual params body scope [p] dI sp)(hr:aY k B)(hB:B.frames=X.A.frames)(hf:H0 f=some (w9 f qual params body scope cl c'))(hc:H0 c'=some (Gu c' qual))(AG:∀q∈cl,X.env.cells.lookup q.1=some q.2)(Gi:∀x∈dI,∃c,cl.lookup x=some c)(Oy:∀x∈dI,X.env.scope.names.lookup x=some .cell)(hN:is.map (λi=>X.N[i]?)=dI.map some)(Lr:is.map (λi=>σ[i]?)=gs.map (λv=>some (some v)))(xM:∀H x,aa H0 H->x∈xs->sp [x] gs H (λv H'=>aa H H'/\∃t,v=.ref t/\H' t=some (.tup ((kf x).map kV))) (λ_ _ _=>False)):A5 X σ B (.ref f) H0 kf xs:=by
 intro pins H s x u I sm hx ru;let#[#[pm,xg,ef],_]:=I.aO f _ (sm _ _ hf);let#[#[oc,Qk,t,ec,d1,d2],_]:=I.aO c' _ (sm _ _ hc);let#[hg,C,fc]:=I.Ec AG Gi Oy hN Lr;let e0:=I.Kk;apply wpAny_call (codeAny_mono (F B X.stack s H f c' pm xg cl [u] [x] gs _ _ hr #[hB.trans e0.frames,e0.mod,e0.bs,e0.Eh,e0.gc,e0.Gm,e0.aO,e0.bare] ef #[c',oc,Qk,t,Z,ec,d1,d2] Z hg (.cons ru .nil) C fc (xM H x sm hx)) λr s' hq=>?_);cases r with
 |error e=>exact hq.elim
 |ok fl=>
  cases fl with
  |ret u=>exact I.after hq
  |next=>exact False.elim hq
  |brk=>exact False.elim hq
  |cont=>exact False.elim hq
theorem sortedK{x:Aa}{Q:VK}(I:Inv X pins σ H s)(dm:xs.length<64)(al:HU (xs.map kf) sh)(xi:A5 X σ X.A.in1.in1 (.ref f) H kf xs)(zj:∀R:ax->Ab->Prop,(∀vs s1,Inv X pins σ H s1->Vals xs vs->R vs s1)->wpAny (model X.prog X.w) X.A.in1 (collect x) R E s)(q:∀l zs H',aa H H'->H' l=none->H l=none->zs.Perm xs->zs.map kf=aU (xs.map kf)->Q (.ref l) (upd H' l (.lst zs))):wpAny (model X.prog X.w) X.A (call (.builtin "sorted") [x] [(Str.ofString "key",.ref f)]) (EP X pins σ Q) E s:=by
 apply call_function_entry_kw kind_sorted plain_sorted entry_sorted (ksk_s1 _ _) ?_;unfold Builtin.«sorted»;apply aP (m:=checkCount "sorted" 1 1 _) (bR ?_);apply aP (zj _ λvs s1 I1 r=>?_);let lv:=r.length;apply aP (wpAny_newList ?_ (by rw[ck];omega));have QU:(s1.heap.push (seqObj "list" vs.toArray 0)).get? s1.heap.objs.size=some (seqObj "list" vs.toArray 0):=e_ _ Z;have I2:Inv X pins σ H { s1 with heap:=s1.heap.push (seqObj "list" vs.toArray 0) }:=I1.kept (t':=s1.toks) λb u e=>cO _ e;have fa:dk X pins H s1.heap.objs.size:=I1.pU (bo _) (I1.aO.fresh (bo _));have nl:H s1.heap.objs.size=none:=I1.aO.fresh (bo _);apply aP (wpAny_holding (wpAny_call_entry_kw slot_list_sort #[_,QU,Z] entry_list_sort ?body (ksk_l1 _ _)))
 case body=>
  show wpAny (model X.prog X.w) X.A.in1.in1 (Builtin.«list.sort» #[[.ref s1.heap.objs.size],[(Str.ofString "key",.ref f)]]) _ _ _;rw[ksk_t1];apply h2_ (s:={ s1 with heap:=s1.heap.push (seqObj "list" vs.toArray 0) }) I2 fa QU r Z1 al xi λzs H' s' I' sm na pz ek=>?_;exact#[_,Z,bR #[_,Z,.ref _,_,I',Z,q _ zs H' sm na nl pz ek]]
end
def YZ(K:af)(H:Hp)(x:V)(xs:ag):Prop:=(∃l,x=.ref l/\d9 K H l xs)∨∃d kvs,x=.ref d/\H d=some (.dK kvs)/\xs=kvs.map λkv=>kV kv.1
inductive zO (K:af) (qual:Str) (params:Arguments) (body:PySem.Expr) (scope:Scope) (cl:List (Str × Addr)) (is:List Nat) (sp:ag->ag->Hp->VK->XK->Prop) (t:TA) (σ:St) (H:Hp) (Q:VK) (vs:ag) (ws:ag) (H2:Hp):Prop
 |mk:∀x f c' xs kf sh gs,vs=[x]->ws=[.ref f]->H2 f=some (w9 f qual params body scope cl c')->H2 c'=some (Gu c' qual)->YZ K H2 x xs->xs.length<64->HU (xs.map kf) sh->is.map (λi=>σ[i]?)=gs.map (λv=>some (some v))->(∀H x,aa H2 H->x∈xs->sp [x] gs H (λv H'=>aa H H'/\∃t,v=.ref t/\H' t=some (.tup ((kf x).map kV))) (λ_ _ _=>False))->(∀l zs H',aa H2 H'->H' l=none->H2 l=none->zs.Perm xs->zs.map kf=aU (xs.map kf)->Q (.ref l) (upd H' l (.lst zs)))->zO K qual params body scope cl is sp t σ H Q vs ws H2
def IS(K:af)(qual:Str)(params:Arguments)(body:PySem.Expr)(scope:Scope)(cl:List (Str × Addr))(is:List Nat)(sp:ag->ag->Hp->VK->XK->Prop)(t tk:TA):TE:=λσ H Q=>t σ H λvs H1=>tk σ H1 λws H2=>zO K qual params body scope cl is sp t σ H Q vs ws H2
variable{qual:Str}
theorem g3_{e:PySem.Expr}{t tk:TA}{p kp DD:Pos}{params:Arguments}{body:PySem.Expr}{scope:Scope}{px:Str}{sp:ag->ag->Hp->VK->XK->Prop}{cl:List (Str × Addr)}{is:List Nat}(hc:X.calm=true)(hg:Gl X "sorted")(hm:X.mg "sorted"=none)(ha:PA X [e] t)(hkw:PK X [#[some "key",.Lambda params body scope DD,kp]] tk)(F:jh X.prog X.w X.K X.mg X.base k qual params body scope [px] dI sp)(hr:aY (k+2) X.A)(AG:∀q∈cl,X.env.cells.lookup q.1=some q.2)(Gi:∀x∈dI,∃c,cl.lookup x=some c)(Oy:∀x∈dI,X.env.scope.names.lookup x=some .cell)(hN:is.map (λi=>X.N[i]?)=dI.map some)(he:starEach [e] X.env=[(false,eval e X.env)]:=by rfl)(DZ:(backToKw pos (keywordEach [#[some "key",.Lambda params body scope DD,kp]] X.env)).all (·.1.isSome)=true:=by rfl)(Ow:(backToKw pos (keywordEach [#[some "key",.Lambda params body scope DD,kp]] X.env)).filterMap (·.1)=[Str.ofString "key"]:=by rfl)(hkn:(backToKw pos (keywordEach [#[some "key",.Lambda params body scope DD,kp]] X.env)).any (·.1.isNone)=false:=by rfl):PE X (.Call (.Name "sorted" p) [e] [#[some "key",.Lambda params body scope DD,kp]] pos) (IS X.K qual params body scope cl is sp t tk):=by
 intro pins s σ H Q I h;apply wpAny_Call_Name_kw (LM I hg hm GH ?_);let hA:=ha pos pins s σ H _ I h;rw[he] at hA ⊢;apply callWith_builtin_kwB (first:=[]) Z hkn (evalArgs_kwB DZ (aZ hA λus s1 ⟨vs,H1,I1,r1,q1⟩=>?_));apply aZ (hkw pos pins s1 σ H1 _ I1 q1) λws s2 ⟨zs,H2,I2,rz,x,f,c',xs,kf,sh,gs,ev,ez,hf,hE,src,dm,al,Lr,xM,q⟩=>?_;subst ev ez;let#[u,rfl,ru]:=Vals.one r1;let#[fv,rfl,rf]:=Vals.one rz;cases rf;rw[Ow];have hd:X.A.in1.handled=none:=I.ok.hd hc;apply sortedK I2 dm al (kf_ F hr.in1.in1 Z hf hE AG Gi Oy hN Lr xM) (λR hR=>?_) q;rcases src with⟨l,rfl,hl⟩|⟨d,kvs,rfl,hd2,rfl⟩
 ·cases ru;exact Xv I2 hl Z1 hR
 ·cases ru;exact _s hd I2 (.inl hd2) hR
structure xA (K:af) (x qual:Str) (st:Stmt) (f c:Addr) (fd:Ae):Prop where
 ex:∃(oc:Aa) (od:Option Addr) (kV doc pm:Aa) (an:Option Addr) (ct:Aa) (xJ:Array (Option Aa)),
  fd=PySem.W.fnOf x qual (vI st) (iM st) (bb st) .none kV doc pm an (.ref c) ct/\K.lookup f=some #[oc,od,.func fd,xJ]/\PySem.W.codeIn K (.ref c) qual=true
 kp:PySem.W.keepIn K (.ref f)=true
variable{K:af}{st:Stmt}
theorem xA.fn(F:xA K x qual st f c fd):bp K x qual st f fd:=by
 let#[oc,od,kV,doc,pm,an,ct,xJ,e,l,h]:=F.ex;exact#[#[oc,od,kV,doc,pm,an,.ref c,ct,xJ,e,l,h],F.kp]
theorem xA.ok{sp:Sp}(F:xA K x qual st f c fd)(S:bD N ps (bb st))(len:∀vs H Q E,sp vs H Q E->vs.length=ps.length)(f_:∀(A:Ag) (outer:List Env) (s:Ab) (H:Hp) (vs:ag) (Q:VK) (E:XK),aY k (A.deeper (envOfC qual (bb st) s.heap.objs.size f (.ref c)))->sp vs H Q E->
   ∃t,yf (xc ba P w K mg base N qual (bb st) f (.ref c) A outer s H E).JB (iM st) t/\t { nx:=λ_ H'=>Q .non H',rt:=Q } (start N vs) H):!aj ba (k+1) f fd ps sp:=by
 let#[oc,od,kV,doc,pm,an,ct,xJ,rfl,lk,hE]:=F.ex;apply ZX lk hE S len λA outer s H vs Q E hr xM=>?_;let#[t,h,q]:=f_ A outer s H vs Q E hr xM;exact#[t,h.JB,q]
end L2
namespace Ev
open PySem L2
def NT(H G:Hp):Prop:=∀b o,H b=some o->(∀vs,o≠.tbl vs)->G b=some o
variable{G:Hp}
theorem NT.of{H:Hp}(s:aa H G):NT H G:=λb o e _=>s b o e
theorem NT.refl(H:Hp):NT H H:=NT.of (aa.refl H)
theorem NT.trans{H J:Hp}(s:NT H G)(t:NT G J):NT H J:=λb o e n=>t b o (s b o e n) n
theorem bc.nt{T:Addr}{H:Hp}{vs:Array Aa}(b:bc T H G)(hT:H T=some (.tbl vs)):NT H G:=λc o e n=>b c o e (λz=>by
 rw[z,hT] at e;exact n _ (ee e).symm)
theorem NT.tup{H G:Hp}(s:NT H G){a:Addr}{xs:ag}(h:H a=some (.tup xs)):G a=some (.tup xs):=s _ _ h nofun
theorem NT.lst{H G:Hp}(s:NT H G){a:Addr}{xs:ag}(h:H a=some (.lst xs)):G a=some (.lst xs):=s _ _ h nofun
theorem NT.dK{H G:Hp}(s:NT H G){a:Addr}{xs:List (Key × V)}(h:H a=some (.dK xs)):G a=some (.dK xs):=s _ _ h nofun
theorem NT.ins{H G:Hp}(s:NT H G){a C dx:Addr}{fs:List (Str × V)}(h:H a=some (.ins C dx fs)):G a=some (.ins C dx fs):=s _ _ h nofun
section
variable{K:af}{H G:Hp}{v:V}
theorem bg.nt{ys:ag}{ks:List aN}(h:bg K H ys ks)(s:NT H G):bg K G ys ks:=Paired.bu h λy k ⟨a,z,q⟩=>#[a,z,s.tup q]
theorem gn.nt{C p:Addr}{hs:Xa}{ts:Xb}{fp:ay}(W:gn K C H p hs ts fp)(s:NT H G):gn K C G p hs ts fp:=by
 let#[dx,d1,l2,d3,zs,as,rfl,h1,h2,h3,h4,h5,h6,h7]:=W.ex;exact#[dx,d1,l2,d3,zs,as,Z,s _ _ h1 nofun,s.dK h2,s.lst h3,bg.nt h4 s,s.dK h5,h6,λi n a e1 e2=>s.lst (h7 i n a e1 e2)]
theorem bS.nt{o:Option (Xb)}(h:bS K H v o)(s:NT H G):bS K G v o:=by
 cases o with
 |none=>exact h
 |some ws=>
  let#[a,ys,e,ha,t]:=h;exact#[a,ys,e,s.lst ha,bg.nt t s]
theorem ij.nt{CG CW g p:Addr}{hs:Xa}{ts:Xb}{qs:aC}{fp:ay}(h:ij K CG CW H g p hs ts qs fp)(s:NT H G):ij K CG CW G g p hs ts qs fp:=by
 let#[dx,dw,dy,vs,cq,h1,h2,h3,h4,h5,r]:=h.ex;exact#[dx,dw,dy,vs,cq,s _ _ h1 nofun,h2.nt s,s.dK h3,s.dK h4,Paired.bu h5 λv q h=>h.nt s,r]
end
variable{qual:Str}{σ:St}
theorem _t{H:Hp}{T:Addr}{q':Str}{a a':Arguments}{b b':Expr}{sc Qr:Scope}{ps:Pos}{cl:List (Str × Addr)}{Q:VK}(h:d8 H T qual)(e1:q'=qual)(e2:a'=a)(e3:b'=b)(e4:Qr=sc)(q:∀f c' H1,bc T H H1->d8 H1 T qual->H1 f=some (w9 f qual a b sc cl c')->H1 c'=some (Gu c' qual)->Q (.ref f) H1):MC T q' a' b' Qr ps cl σ H Q:=by
 subst e1 e2 e3 e4;let#[es,h,J4]:=h;apply#[_,h,fO_ es,?_];rcases d5_ ps es with e|⟨e,he,q1⟩
 ·apply .inl #[e,λc' f n1 n2 n3=>?_];have nT1:T≠c':=bx h n1;have nT2:T≠f:=bx h n2
  have B:bc T H (upd (upd (upd H T (.tbl ((zm es).toArray++(List.toArray [rawInt ps.line,rawInt ps.col,.ref c'])))) c' (Gu c' q')) f (w9 f q' a' b' Qr cl c')):=λb o e n=>by
   rw[au (bx e n2),au (bx e n1),au n];exact e
  apply q f c' _ B #[es++[(ps,c')],?_,λx hx=>?_] az ?_
  ·rw[au nT2,au nT1,az,ez_];simp
  ·rcases fM.mp hx with hx|hx
   ·exact B _ _ (J4 x hx) (λz=>by have:=J4 x hx;rw[z,h] at this;cases this)
   ·rw[jd.mp hx];show upd _ f _ c'=_;rw[au n3,az]
  ·rw[au n3,az]
 ·apply .inr #[e.2,q1,λf hf=>?_];let s:=aa.new (o:=w9 f q' a' b' Qr cl e.2) hf;exact q f e.2 _ (bc.of s) #[es,s _ _ h,λx hx=>s _ _ (J4 x hx)] az (s _ _ (J4 e he))
theorem zA{H:Hp}{T:Addr}(h:d8 H T qual):∃vs,H T=some (.tbl vs):=by
 let#[es,e,_]:=h;exact#[_,e]
theorem d8.but{H:Hp}{T T':Addr}{q:Str}(h:d8 H T q)(b:bc T' H G)(hT:∃vs,H T'=some (.tbl vs))(ne:T≠T'):d8 G T q:=by
 let#[es,e,a]:=h;let#[vs,hT]:=hT;exact#[es,b _ _ e ne,λx hx=>b _ _ (a x hx) (λz=>by have:=a x hx;rw[z,hT] at this;cases this)]
def w6:Expr->Scope
 |.Lambda _ _ s _=>s
 |_=>bb ip
def NH:Expr->Expr
 |.Lambda _ b _ _=>b
 |e=>e
def NI:Expr->Arguments
 |.Lambda a _ _ _=>a
 |_=>vI ip
def _b:Expr->Expr
 |.Call _ _ (k::_) _=>k.value
 |e=>e
def Ni(l:List Stmt)(i:Nat):Stmt:=l.getD i (.Pass #[0,0,0,0])
def VS:Stmt->Expr
 |.For _ i _ _ _=>i
 |_=>.Constant .none 0 #[0,0,0,0]
def TQ:Stmt->Expr
 |.Return (some e) _=>e
 |_=>.Constant .none 0 #[0,0,0,0]
variable{k:ag->Hp->Prop}
theorem F3{H:Hp}(h:k [] H):pH σ H k:=h
theorem HZ{te:TE}{t:TA}{H:Hp}(h:te σ H λx H1=>t σ H1 λxs H2=>k (x::xs) H2):wB te t σ H k:=h
abbrev d6(qs:aC)(n:Str):Int:=strOf (qs.map gi) n
def kN(qs:aC)(n:Str):aN:=[.inl (-(d6 qs n)),.inr n]
def gC:aN->Str
 |[_,.inr n]=>n
 |_=>⟨#[]⟩
def iZ(qs:aC):ae:=(aU ((qs.map (·.1)).map (kN qs))).map gC
def NL(qs:aC):V->aN
 |.str n=>kN qs n
 |_=>[]
variable{zs:ag}{ns:ae}
theorem eE_(p:zs.Perm (ns.map V.str)):∃ms:ae,zs=ms.map V.str/\ms.Perm ns:=by
 have all:∀z∈zs,∃n,z=V.str n:=λz hz=>by
  let#[n,_,e]:=bh.mp (p.mem_iff.mp hz);exact#[n,e.symm]
 have mk:∀l:ag,(∀z∈l,∃n,z=V.str n)->∃ms:ae,l=ms.map V.str:=λl=>by
  induction l with
  |nil=>intro _;exact#[[],Z]
  |cons a r ih=>
   intro h;let#[n,rfl]:=h a c8;let#[ms,rfl]:=ih λz hz=>h z (dF _ hz);exact#[n::ms,Z]
 let#[ms,rfl]:=mk zs all;apply#[ms,Z,?_];have:=p.map (λv:V=>match v with | .str n=>n|_=>(⟨#[]⟩:Str));rw[cm,cm] at this;simpa [Function.comp_def] using this
theorem mo_{qs:aC}(p:zs.Perm ((qs.map (·.1)).map V.str))(e:zs.map (NL qs)=aU (((qs.map (·.1)).map V.str).map (NL qs))):zs=(iZ qs).map V.str:=by
 let#[ms,rfl,_]:=eE_ p;have e1:(ms.map V.str).map (NL qs)=ms.map (kN qs):=by rw[cm];rfl
 have e2:((qs.map (·.1)).map V.str).map (NL qs)=(qs.map (·.1)).map (kN qs):=by
  rw[cm];rfl
 rw[e1,e2] at e
 have em:(ms.map (kN qs)).map gC=ms:=by
  rw[cm];exact List.map_id' ms
 unfold iZ;rw[<- e,em]
theorem KW(qs:aC):(iZ qs).Perm (qs.map (·.1)):=by
 unfold iZ;let p:=(yb ((qs.map (·.1)).map (kN qs))).map gC
 have e:((qs.map (·.1)).map (kN qs)).map gC=qs.map (·.1):=by
  generalize qs.map (·.1)=ns;rw[cm];exact List.map_id' _
 rw[e] at p;exact p
def bQ(qs:aC)(f:ai)(h:Str):ae:=(iZ qs).filter λn=>decide (f n=h)
abbrev Hk:Str:="heaviest_first.<locals>.<lambda>"
def Bh:Expr:=_b (VS (Ni (iM iY) 1))
abbrev Kd:ae:=["goods"]
theorem OT:∀y∈(w6 Bh).names,y.2=.free->y.1∈Kd:=by decide +kernel
theorem Jg:PY ["name"] Kd (w6 Bh):=#[by decide +kernel,Z,Z,Z,by decide +kernel,by decide +kernel,λx h=>OT (x,.free) (Bx h) Z,by decide +kernel]
variable{CP:Addr}
variable{L:Addr}{cd:Aa}
variable{c0 f0:Addr}{fd:Ae}
section
variable{P:Ad}{w:Af}{K:af}{mg:Str->Option Aa}{base:Heap}
inductive zX (K:af) (CG CW:Addr) (vs:ag) (gs:ag) (H:Hp) (Q:VK):Prop
 |mk:∀(g p:Addr) (q:Pc) (hs:Xa) (ts:Xb) (qs:aC) (fp:ay),vs=[.str q.1]->gs=[.ref g]->ij K CG CW H g p hs ts qs fp->(qs.map (·.1)).Nodup->q∈qs->0<=q.2.1->q.2.1<=1000000000->(∀t,H t=none->Q (.ref t) (upd H t (.tup [.int (-q.2.1),.str q.1])))->zX K CG CW vs gs H Q
def I0(K:af)(CG CW:Addr):ag->ag->Hp->VK->XK->Prop:=λvs gs H Q _=>zX K CG CW vs gs H Q
theorem li_{CG CW:Addr}(T:eE K CG)(cW:!bB CG 2 "weight" HQ (KR K CG CW CP)):!jh 3 Hk (NI Bh) (NH Bh) (w6 Bh) ["name"] Kd (I0 K CG CW):=by
 apply Hs Jg (λpm c' xg cl us hl=>?_) (λA outer s H f cd cl vs gs Q E hr h hp=>?_)
 ·match us,hl with
  |[_],_=>rfl
 ·let#[g,p,q,hs,ts,qs,fp,rfl,rfl,G,nd,hq,w0,w1,k]:=h;let#[dx,dw,dy,vs,cq,h1,h2,_]:=id G.ex;apply#[_,fe %[mn_ lF_ (fL cW T.cl hr (pv 1) %[0|0]),0|0],?_];have AA:(bX p dw dy).lookup ("weight":Str)=none:=E9 _ _ _ Z0 Z0 Z0;apply#[_,Z,g,dx,_,Z,h1,AA,_,Z,g,p,.str q.1,some q.1,hs,ts,qs,fp,Z,G,nd,Z,.inl #[q,hq,Z,?_]];exact#[_,Z,_,Z,zl,λt ht=>k t ht]
def PD(L:Addr):List (Str × Addr):=[("goods",L+1)]
theorem XX{f:Addr}:closureFor (w6 Bh) (PyProof.Rows.envOfC BY (bb iY) L f cd)=pure (PD L):=by rfl
theorem XZ{f:Addr}:∀q∈PD L,(PyProof.Rows.envOfC BY (bb iY) L f cd).cells.lookup q.1=some q.2:=by
 intro q hq;simp only[PD,bW,Fs,or_false] at hq;rcases hq with rfl;rfl
theorem UA:∀x∈Kd,∃c,(PD L).lookup x=some c:=by
 intro x hx;simp only[Kd,bW,Fs,or_false] at hx;rcases hx with rfl;exact#[_,Z]
theorem Us:∀x∈Kd,(bb iY).names.lookup x=some .cell:=by decide +kernel
theorem CM:bD ["goods","placed","found","piece"] Ea (bb iY):=bJ
def EF(H:Hp)(ns:ae)(ad:Str->Addr)(g:Str->ae):Prop:=(∀h∈ns,H (ad h)=some (.lst ((g h).map V.str)))/\∀h∈ns,∀h'∈ns,ad h=ad h'->h=h'
inductive Ac (K:af) (CG CW T:Addr) (vs:ag) (H:Hp) (Q:VK) (E:XK):Prop
 |mk:∀(g p d:Addr) (hs:Xa) (ts:Xb) (qs:aC) (fp:ay) (f:ai),vs=[.ref g,.ref d]->Ib K CG CW H g p d hs ts qs fp f->(∀q∈qs,0<=q.2.1/\q.2.1<=1000000000)->d8 H T Hk->(∀d' ad H',bc T H H'->d8 H' T Hk->H d'=none->H' d'=some (.dK (br (aI hs) λh=>.ref (ad h)))->EF H' (aI hs) ad (bQ qs f)->(∀h∈aI hs,H (ad h)=none)->Q (.ref d') H')->Ac K CG CW T vs H Q E
theorem d8.putL{H:Hp}{T a:Addr}{q:Str}{xs:ag}{o:HO}(h:d8 H T q)(ha:H a=some (.lst xs)):d8 (upd H a o) T q:=by
 let#[es,e,c]:=h;apply⟨es,by rw[au (cU e ha nofun)];exact e,λx hx=>?_⟩;rw[au (λz=>by have:=c x hx;rw[z,ha] at this;cases this)];exact c x hx
theorem gm{H:Hp}{d:Addr}{g:Str->V}{n:Str}(h:H d=some (.dK (br ns g)))(m:n∈ns):bU H d (.str n) (some (g n)):=by
 have:=bU.k (k:=Sum.inr n) h;rw[Pe m] at this;exact this
theorem Gx{qs:aC}(nd:(qs.map (·.1)).Nodup){q:Pc}(h:q∈qs):d6 qs q.1=q.2.1:=by
 apply fS_ ?_ (bh.mpr ⟨q,h,rfl⟩);rw[cm];exact nd
theorem m4_{CG CW T:Addr}(F:xA K BY BY iY f0 c0 fd)(B:Bi mg)(TG:eE K CG)(TW:Txt K mg CW)(hC:PySem.W.CodeHd base c0 T)(DX:base.BuiltinsAt mg T)(cH:!bB CW 1 "hands" ik (LV K CW))(cW:!bB CG 2 "weight" HQ (KR K CG CW CP)) :
  aj P w K mg base ba 6 f0 fd Ea (Ac K CG CW T):=by
 apply F.ok CM (λvs H Q E h=>?_) (λA outer s H vs Q E hr h=>?_)
 ·let#[g,p,d,hs,ts,qs,fp,f,rfl,_]:=h;rfl
 ·let#[g,p,d,hs,ts,qs,fp,f,rfl,Pl,wq,tab,k]:=h;let hu:=eV hr;let sz:=ck;have xa:aY 1 _:=hr.mono (by decide);refine' ⟨_,aq ?s1 (aq ?s2 (aH ?s3)),?kk⟩
  case' s1=>refine' aX 2 CM.nd (qe (Fl Z) (by rfl) B.dict BZ %[iS ["hand"] 1 [] (dE (GC cH TW.cl xa (dW (pv 0) Z))) (λfp s H=>eZ (i:=0) (show (["hand"]:ae).Nodup by decide +kernel) Z (Or.inl Z)) (λfp s H=>iH) (λfp s H=>?e1)|0])
  case e1=>exact fe %[0,cK aE|0]
  case' s2=>refine' eF dX Z (dE ?l2) (cj 3 CM.nd) (aH ?b2)
  case l2=>exact g3_ (px:="name") (dI:=Kd) (cl:=PD s.heap.objs.size) (is:=[0]) (k:=3) Z (by rfl) B.sorted %[1|0] (hF_ (_h (P:=T) (c:=c0) Z XX Z hC DX) _y) (li_ TG cW) hr XZ UA Us Z
  case b2=>exact h_ (gI h9 xY xZ xp (cb hu (pv 2) (cb hu (pv 1) (pv 3))) %[3|0])
  case s3=>exact bj (pv 2)
  let nd:=Pl.Gd.BF;have n8:(aI hs).length<=8:=by have:=Pl.Gd.fw;have:=Pl.Gd.h8;omega
  let#[dx,dw,dy,vs,cq,h1,h2,h3,h4,h5,m1,m2,m3,m4,m5]:=id Pl.G.ex;let#[fK,d1,l2,d3,vO,as,ef,w1,_]:=id h2.ex;have iz:(da d1 l2 d3).lookup ("hands":Str)=none:=je _ _ _ Z0 Z0 Z0;apply#[_,Z,g,CG,dx,_,_,Z,h1,TG.cl,TG.nW,zx _ _ _,p,fK,_,Z,w1,iz,p,hs,ts,cq,Z,h2,λlh nh=>?_];let#[s1,e1]:=aB (o:=.lst ((aI hs).map V.str)) nh;generalize upd H lh (.lst ((aI hs).map V.str))=H1 at s1 e1 ⊢;apply#[lh,Z,#[_,.of e1],λD hD=>?_]
  let aQ:dG:=λi out H'=>∃ad:Str->Addr,aa H1 H'/\H' D=some (.lst out)/\i_ K H' out (br ((aI hs).take i) λh=>.ref (ad h))/\EF H' ((aI hs).take i) ad (λ_=>[])/\∀h∈(aI hs).take i,H1 (ad h)=none/\ad h≠D
  apply yd (own:=1) (fv:=[]) (xs:=(aI hs).map V.str) Z dP aQ #[λ_=>D,aa.new hD,az,.nil,#[by simp,by simp],by simp] (λi out H' _ ⟨_,sm,_⟩=>.of (sm _ _ e1)) (λout H2 ⟨ad,s2,i9,pa,ls,fr⟩=>?_) (λi x out H' hx ⟨ad,sm,hd,pa,ls,fr⟩=>?_);rotate_left
  ·let#[n,hn,rfl]:=iG hx;have nn:n∉(aI hs).take i:=Py nd hn;apply#[_,Z,Z,λNx hN=>dM ?_];apply#[_,Z,zl,λl nl=>?_];let#[s3,e3]:=aB (o:=.lst []) nl;generalize upd H' l (.lst [])=H3 at s3 e3 ⊢;apply#[zl,λt nt=>?_];let#[s4,e4]:=aB (o:=.tup [.str n,.ref l]) nt;generalize upd H3 t (.tup [.str n,.ref l])=H4 at s4 e4 ⊢;let eY:=s3.trans s4;let Bo:=eY _ _ hd;have lD:l≠D:=λz=>by rw[z,hd] at nl;cases nl
   have P_:∀h∈(aI hs).take i,ad h≠l:=λh hh z=>by
    have:=ls.1 h hh;rw[z,nl] at this;cases this
   let lo:=bG pa;rw[gq,cQ] at lo
   have pD:∀{b:Addr} {zs:ag},H4 b=some (.tup zs)->b≠D:=λhb z=>by
    rw[z,Bo] at hb;cases hb
   have ne:∀h∈(aI hs).take i,h≠n:=λh hh z=>nn (z▸hh);apply#[out,Bo,by omega,hN (out++[.ref t]) _ #[λm=>if m=n then l else ad m,fN (sm.trans eY) hD,az,?_,#[λh hh=>?_,λh hh h' OA z=>?_],λh hh=>?_]]
   ·have e:br ((aI hs).take (i+1)) (λh=>.ref (if h=n then l else ad h))=br ((aI hs).take i) (λh=>.ref (ad h))++[(Sum.inr n,.ref l)]:=by
     rw[eO hn];unfold br;rw[b_,el,Fb];dsimp only;rw[aA Z];congr 1;exact BC λm hm=>by rw[ao (ne m hm)]
    rw[e];exact vM (Paired.bu pa λy kv ⟨b,z,hb⟩=>#[b,z,by rw[au (pD (eY _ _ hb))];exact eY _ _ hb]) (.cons #[t,Z,by rw[au (pD e4)];exact e4] .nil)
   ·rw[eO hn] at hh;rcases fM.mp hh with hh|hh
    ·dsimp only;rw[ao (ne h hh),au (fr h hh).2];exact eY _ _ (ls.1 h hh)
    ·obtain rfl:h=n:=by simpa using hh
     dsimp only;rw[aA Z,au lD];exact s4 _ _ e3
   ·rw[eO hn] at hh OA;dsimp only at z;rcases fM.mp hh with a1|a1<;>rcases fM.mp OA with a2|a2
    ·rw[ao (ne h a1),ao (ne h' a2)] at z;exact ls.2 h a1 h' a2 z
    ·have a2:h'=n:=by simpa using a2
     rw[ao (ne h a1),aA a2] at z;exact absurd z (P_ h a1)
    ·have a1:h=n:=by simpa using a1
     rw[ao (ne h' a2),aA a1] at z;exact absurd z.symm (P_ h' a2)
    ·rw[show h=n by simpa using a1,show h'=n by simpa using a2]
   ·rw[eO hn] at hh;dsimp only;rcases fM.mp hh with hh|hh
    ·rw[ao (ne h hh)];exact fr h hh
    ·obtain rfl:h=n:=by simpa using hh
     rw[aA Z];exact#[sm.free nl,lD]
  rw[ak,dJ] at pa ls fr;apply#[D,out,_,Z,i9,pa,by rw[gq];omega,λdf Dz=>?_]
  have Hn:((br (aI hs) λh=>V.ref (ad h)).map (·.1)).Nodup:=by
   rw[L7,Fq,zE];exact nd.imp λn e=>n (hU e)
  rw[Fi Hn];let#[s3,e3]:=aB (o:=.dK (br (aI hs) λh=>V.ref (ad h))) Dz;lk;generalize upd H2 df (.dK (br (aI hs) λh=>V.ref (ad h)))=H3 at s3 e3 ⊢;let wM:=(s1.trans s2).trans s3;have wW:H df=none:=(s1.trans s2).free Dz;have fr0:∀h∈aI hs,H (ad h)=none:=λh hh=>s1.free (fr h hh).1;have Z3:∀h∈aI hs,H3 (ad h)=some (.lst []):=λh hh=>s3 _ _ (ls.1 h hh);let inj:=ls.2;clear s1 s2 s3 e1 pa ls fr i9 nh hD Dz;apply#[_,Z,F3 (HZ ?_)];apply _t (tab.same wM) Z Z Z Z λfl c' H4 b4 iX OD Lu=>?_;let#[tv,hT]:=zA tab
  have neT:∀{b:Addr} {o:HO},H3 b=some o->(∀vs,o≠.tbl vs)->b≠T:=λ{b o} e n z=>by
   rw[z,wM _ _ hT] at e;exact n _ (ee e).symm
  have Nj:NT H H4:=λb o e n=>b4 _ _ (wM _ _ e) (neT (wM _ _ e) n);have ZZ:∀h∈aI hs,H4 (ad h)=some (.lst []):=λh hh=>b4 _ _ (Z3 h hh) (neT (Z3 h hh) nofun);let e4:=b4 _ _ e3 (neT e3 nofun);have SF:bc T H H4:=λb o e n=>b4 _ _ (wM _ _ e) n;apply#[.ref d,fl,c',(qs.map (·.1)).map V.str,NL qs,[false,true],[.ref g],Z,Z,OD,Lu,.inr #[d,_,Z,Nj.dK Pl.hd,?_],by rw[ak,ak];exact Pl.dm,#[by decide,λk hk=>?_],Z,λH' x sm hx=>?_,λl zs H5 s5 nl Li pz ek=>?_]
  ·show _=((qs.map (·.1)).map _).map _;generalize qs.map (·.1)=ns';rw[cm];rfl
  ·let#[v,hv,rfl]:=bh.mp hk;let#[n,_,rfl]:=bh.mp hv;rfl
  ·let#[n,hn,rfl]:=bh.mp hx;let#[q,hq,rfl]:=bh.mp hn;apply#[g,p,q,hs,ts,qs,fp,Z,Z,(Pl.G.nt Nj).same sm,Pl.nd,hq,(wq q hq).1,(wq q hq).2,λt nt=>#[aa.new nt,t,Z,?_]];rw[az];show _=some (HO.tup [.int (-(d6 qs q.1)),.str q.1]);rw[Gx Pl.nd hq]
  rw[mo_ pz ek];have hl:upd H5 l (.lst ((iZ qs).map V.str)) l=some (.lst ((iZ qs).map V.str)):=az;have s6:aa H4 (upd H5 l (.lst ((iZ qs).map V.str))):=s5.trans (aa.new nl)
  have lne:∀h∈aI hs,ad h≠l:=λh hh z=>by
   have:=ZZ h hh;rw[z,Li] at this;cases this
  generalize upd H5 l (.lst ((iZ qs).map V.str))=H6 at hl s6 ⊢
  have Z8:(iZ qs).length<64:=by
   rw[(KW qs).length_eq,ak];exact Pl.dm
  have dT:d≠T:=λz=>by
   have:=Pl.hd;rw[z,hT] at this;cases this
  let bH:bL:=λi σ H'=>∃v3:aJ,σ=[some (.ref g),some (.ref d),some (.ref df),v3]/\bc T H H'/\d8 H' T Hk/\H' df=some (.dK (br (aI hs) λh=>V.ref (ad h)))/\H' l=some (.lst ((iZ qs).map V.str))/\EF H' (aI hs) ad (λh=>((iZ qs).take i).filter λn=>decide (f n=h))
  apply#[l,Z,#[_,.of hl],fW (K:=K) (a:=l) (xs:=(iZ qs).map V.str) bH #[none,Z,λb o e n=>s6 _ _ (SF b o e n),iX.same s6,s6 _ _ e4,hl,λh hh=>s6 _ _ (ZZ h hh),inj] (λi σ H' _ ⟨_,_,_,_,_,z,_⟩=>.of z) ?_ ?_]
  ·rintro i x σ H' hx ⟨v3,rfl,bT,wA,xb,BL,ls⟩;let#[n,hn,rfl]:=iG hx;have nm:n∈qs.map (·.1):=(KW qs).mem_iff.mp (cu hn);have fm:f n∈aI hs:=(gf hs).mem_iff.mpr (Pl.at_ n nm);let pS:=bT _ _ Pl.hd dT;let la:=ls.1 (f n) fm;lk;apply#[_,Z,_,Z,_,Z,d,_,Z,gm pS nm,df,_,Z,gm xb fm,.inl #[Z,_,.of la],_,Z,ad (f n),_,_,Z,Z,la,?_,?_]
   ·rw[ak];have:=Fm (λn'=>decide (f n'=f n)) ((iZ qs).take i);rw[cQ] at this;dsimp only;omega
   apply#[_,Z,λb o e ne=>?_,d8.putL wA la,?_,?_,λh hh=>?_,inj]
   ·rw[au (bx e (fr0 _ fm))];exact bT b o e ne
   ·rw[au (cU xb la nofun)];exact xb
   ·rw[au (lne _ fm).symm];exact BL
   ·by_cases z:h=f n
    ·subst z;dsimp only;rw[az,eO hn,GN,List.filter_cons_of_pos Z2,List.filter_nil,b_];rfl
    ·dsimp only;rw[au (λy=>z (inj h hh _ fm y)),eO hn,GN,List.filter_cons_of_neg (by simpa using λy=>z y.symm),List.filter_nil,gK];exact ls.1 h hh
  ·rintro σ H' ⟨v3,rfl,bT,wA,xb,BL,ls⟩;rw[ak,dJ] at ls;exact#[_,Z,k df ad H' bT wA wW xb ls fr0]
end
abbrev yJ:Stmt:=vH Ra 0
abbrev C7:Stmt:=vH Ra 1
abbrev yO:Stmt:=vH Ra 2
abbrev EY:Stmt:=vH Ra 3
def d_(g dl dv dp:Addr):List (Str × V):=aF Kr (.ref dp) (aF AK (.ref dv) (aF jb (.ref dl) (aF "wares" (.ref g) [])))
theorem g9(g dl dv dp:Addr):(d_ g dl dv dp).lookup ("wares":Str)=some (.ref g):=by
 unfold d_;rw[ff,ff,ff,ff,ao Z0,ao Z0,ao Z0,aA Z]
theorem MR(g dl dv dp:Addr):(d_ g dl dv dp).lookup (jb:Str)=some (.ref dl):=by
 unfold d_;rw[ff,ff,ff,ao Z0,ao Z0,aA Z]
theorem Tz(g dl dv dp:Addr):(d_ g dl dv dp).lookup (AK:Str)=some (.ref dv):=by
 unfold d_;rw[ff,ff,ao Z0,aA Z]
theorem MQ(g dl dv dp:Addr):(d_ g dl dv dp).lookup (Kr:Str)=some (.ref dp):=by
 unfold d_;rw[ff,aA Z]
theorem LA(g dl dv dp:Addr){m:Str}(h1:¬m="wares")(h2:¬m=jb)(h3:¬m=AK)(h4:¬m=Kr):(d_ g dl dv dp).lookup m=none:=by
 unfold d_;rw[ff,ff,ff,ff,ao h4,ao h3,ao h2,ao h1];rfl
structure gP (K:af) (CS:Addr):Prop where
 cl:zI K CS
 nW:ya K CS "wares"
 nL:ya K CS jb
 nV:ya K CS AK
 nP:ya K CS Kr
structure Wd (hs:Xa) (ts:Xb) (qs:aC) (f:ai):Prop where
 Gd:Good hs ts
 nd:(qs.map (·.1)).Nodup
 dm:qs.length<64
 at_:∀n∈qs.map (·.1),f n∈hs.map (·.1)
 wq:∀q∈qs,0<=q.2.1/\q.2.1<=1000000000
structure ja (K:af) (CS CG CW:Addr) (H:Hp) (v g p:Addr) (hs:Xa) (ts:Xb) (qs:aC) (fp:ay) (f:ai):Prop where
 ex:∃(dx dl dv dp:Addr) (ad:Str->Addr),H v=some (.ins CS dx (d_ g dl dv dp))/\ij K CG CW H g p hs ts qs fp/\H dl=some (.dK (NG hs qs f))/\H dv=some (.dK (br (aI hs) λh=>.int (BH hs qs f h)))/\H dp=some (.dK (br (aI hs) λh=>.ref (ad h)))/\∀h∈aI hs,H (ad h)=some (.lst ((bQ qs f h).map V.str))
theorem ja.nt{K:af}{CS CG CW:Addr}{H:Hp}{v g p:Addr}{hs:Xa}{ts:Xb}{qs:aC}{fp:ay}{f:ai}(S:ja K CS CG CW H v g p hs ts qs fp f)(s:NT H G):ja K CS CG CW G v g p hs ts qs fp f:=by
 let#[dx,dl,dv,dp,ad,h1,h2,h3,h4,h5,h6]:=S.ex;exact#[dx,dl,dv,dp,ad,s.ins h1,h2.nt s,s.dK h3,s.dK h4,s.dK h5,λh hh=>s.lst (h6 h hh)]
theorem ja.same{K:af}{CS CG CW:Addr}{H:Hp}{v g p:Addr}{hs:Xa}{ts:Xb}{qs:aC}{fp:ay}{f:ai}(S:ja K CS CG CW H v g p hs ts qs fp f)(s:aa H G):ja K CS CG CW G v g p hs ts qs fp f:=S.nt (NT.of s)
abbrev lo(qs:aC)(f:ai)(h:Str):Int:=ld f (qs.map gi) h
def xm(hs:Xa)(qs:aC)(f:ai)(a b:Str):Int:=lo qs f a * strOf hs b - lo qs f b * strOf hs a
def vK(hs:Xa)(a b:Str):Int:=strOf hs a+strOf hs b
section
variable{P:Ad}{w:Af}{K:af}{mg:Str->Option Aa}{base:Heap}
theorem FO:bD AV AV (bb yJ):=bJ
inductive Wu (K:af) (CS CG CW T:Addr) (vs:ag) (H:Hp) (Q:VK) (E:XK):Prop
 |mk:∀(v dx g p d:Addr) (hs:Xa) (ts:Xb) (qs:aC) (fp:ay) (f:ai),vs=[.ref v,.ref g,.ref d]->H v=some (.ins CS dx [])->v∉fp->Ib K CG CW H g p d hs ts qs fp f->Wd hs ts qs f->d8 H T Hk->(∀H',(∀b o,H b=some o->b≠v->b≠T->H' b=some o)->d8 H' T Hk->ja K CS CG CW H' v g p hs ts qs fp f->Q .non H')->Wu K CS CG CW T vs H Q E
theorem jc_{CS CG CW T:Addr}(F:bp K "__init__" "Sight.__init__" yJ f0 fd)(TS:gP K CS)(Se:!bt 3 "loads_at" Ea (RP K CG CW))(Yi:!bt 4 "levels_at" Ea (XD K CG CW))(Yr:!bt 6 BY Ea (Ac K CG CW T)) :
  aj P w K mg base ba 7 f0 fd AV (Wu K CS CG CW T):=by
 apply F.bI FO λaR A outer s H vs Q E hr h=>?_
 ·let#[v,dx,g,p,d,hs,ts,qs,fp,f,rfl,hv,Ql,Pl,W,tab,k]:=h;refine' #[_,aq ?s1 (aq ?s2 (aq ?s3 (aH ?s4))),?kk]
  case s1=>exact E6 (pv 0) (pv 1) Z
  case s2=>exact E6 (pv 0) (bf Se hr %[1,2|0]) Z
  case s3=>exact E6 (pv 0) (bf Yi hr %[1,2|0]) Z
  case s4=>exact E6 (pv 0) (bf Yr hr %[1,2|0]) Z
  have dv:d≠v:=cU Pl.hd hv nofun;have DF:∀{G:Hp},(∀b o,H b=some o->b≠v->G b=some o)->Ib K CG CW G g p d hs ts qs fp f:=λ{G} up=>#[Pl.G.keep (λb hb o e=>up b o e (λz=>Ql (z▸hb))) (λb xs e=>up b _ e (cU e hv nofun)),Pl.Gd,Pl.Eb,up _ _ Pl.hd dv,Pl.at_,Pl.nd,Pl.dm];apply#[_,Z,_,Z,v,CS,dx,_,Z,hv,TS.cl,TS.nW,by show 0<1000;decide,?_];have up1:∀b o,H b=some o->b≠v->upd H v (.ins CS dx (aF "wares" (.ref g) [])) b=some o:=λb o e n=>by rw[au n];exact e
  have DN:upd H v (.ins CS dx (aF "wares" (.ref g) [])) v=some (.ins CS dx (aF "wares" (.ref g) [])):=az;have LG:∀{b},upd H v (.ins CS dx (aF "wares" (.ref g) [])) b=none->b≠v:=λ{b} e z=>by rw[z,az] at e;cases e
  generalize upd H v (.ins CS dx (aF "wares" (.ref g) []))=H1 at up1 DN LG ⊢;apply#[_,Z,_,Z,g,p,d,hs,ts,qs,fp,f,Z,DF up1,λdl H2 s2 nl hl=>?_];let hv2:=s2 _ _ DN;have lv:dl≠v:=LG nl;apply#[_,Z,v,CS,dx,_,Z,hv2,TS.cl,TS.nL,by show 1<1000;decide,?_];have SS:∀b o,H b=some o->b≠v->upd H2 v (.ins CS dx (aF jb (.ref dl) (aF "wares" (.ref g) []))) b=some o:=λb o e n=>by rw[au n];exact s2 _ _ (up1 b o e n)
  have _U:upd H2 v (.ins CS dx (aF jb (.ref dl) (aF "wares" (.ref g) []))) v=some (.ins CS dx (aF jb (.ref dl) (aF "wares" (.ref g) []))):=az;have OV:∀{b},upd H2 v (.ins CS dx (aF jb (.ref dl) (aF "wares" (.ref g) []))) b=none->b≠v:=λ{b} e z=>by rw[z,az] at e;cases e
  have Bm:upd H2 v (.ins CS dx (aF jb (.ref dl) (aF "wares" (.ref g) []))) dl=some (.dK (NG hs qs f)):=by rw[au lv];exact hl
  generalize upd H2 v (.ins CS dx (aF jb (.ref dl) (aF "wares" (.ref g) [])))=H3 at SS _U OV Bm ⊢;apply#[_,Z,_,Z,g,p,d,hs,ts,qs,fp,f,Z,DF SS,W.wq,λde H4 s4 ne he=>?_];let UU:=s4 _ _ _U;have ev:de≠v:=OV ne;apply#[_,Z,v,CS,dx,_,Z,UU,TS.cl,TS.nV,by show 2<1000;decide,?_];have EH:∀b o,H b=some o->b≠v->upd H4 v (.ins CS dx (aF AK (.ref de) (aF jb (.ref dl) (aF "wares" (.ref g) [])))) b=some o:=λb o e n=>by rw[au n];exact s4 _ _ (SS b o e n)
  have _T:upd H4 v (.ins CS dx (aF AK (.ref de) (aF jb (.ref dl) (aF "wares" (.ref g) [])))) v=some (.ins CS dx (aF AK (.ref de) (aF jb (.ref dl) (aF "wares" (.ref g) [])))):=az;have AJ:∀{b},upd H4 v (.ins CS dx (aF AK (.ref de) (aF jb (.ref dl) (aF "wares" (.ref g) [])))) b=none->b≠v:=λ{b} e z=>by rw[z,az] at e;cases e
  have DS:upd H4 v (.ins CS dx (aF AK (.ref de) (aF jb (.ref dl) (aF "wares" (.ref g) [])))) dl=some (.dK (NG hs qs f)):=by rw[au lv];exact s4 _ _ Bm
  have he5:upd H4 v (.ins CS dx (aF AK (.ref de) (aF jb (.ref dl) (aF "wares" (.ref g) [])))) de=some (.dK (br (aI hs) λh=>.int (BH hs qs f h))):=by rw[au ev];exact he
  generalize upd H4 v (.ins CS dx (aF AK (.ref de) (aF jb (.ref dl) (aF "wares" (.ref g) []))))=H5 at EH _T AJ DS he5 ⊢;let#[es,hT,hcs]:=id tab;have Tv:T≠v:=cU hT hv nofun;have SX:d8 H5 T Hk:=#[es,EH _ _ hT Tv,λe he=>EH _ _ (hcs e he) (λz=>by have:=hcs e he;rw[z,hv] at this;cases this)];let Pl5:=DF EH;apply#[_,Z,_,Z,g,p,d,hs,ts,qs,fp,f,Z,Pl5,W.wq,SX,λdp ad H6 b6 IR np hp ls fra=>?_];have Le:NT H5 H6:=b6.nt (EH _ _ hT Tv);let QP:=Le.ins _T;have pv':dp≠v:=AJ np;have av:∀h∈aI hs,ad h≠v:=λh hh=>AJ (fra h hh);apply#[_,Z,v,CS,dx,_,Z,QP,TS.cl,TS.nP,by show 3<1000;decide,?_];apply k _ (λb o e n1 n2=>?_) ?_ #[dx,dl,de,dp,ad,az,(Pl5.G.nt Le).keep (λb hb o e=>?_) (λb xs e=>?_),?_,?_,?_,λh hh=>?_]
  ·rw[au n1];exact b6 _ _ (EH b o e n1) n2
  ·let#[es,e1,e2]:=IR;exact#[es,by rw[au (cU e1 QP nofun)];exact e1,λe he=>by rw[au (λz=>by have:=e2 e he;rw[z,QP] at this;cases this)];exact e2 e he]
  ·rw[au (λz:b=v=>Ql (z▸hb))];exact e
  ·rw[au (cU e QP nofun)];exact e
  ·rw[au lv];exact Le.dK DS
  ·rw[au ev];exact Le.dK he5
  ·rw[au pv'];exact hp
  ·rw[au (av h hh)];exact ls.1 h hh
theorem CK:bD ["self","one","other","web"] xU (bb C7):=bJ
inductive LN (K:af) (CS CG CW:Addr) (vs:ag) (H:Hp) (Q:VK) (E:XK):Prop
 |mk:∀(v g p:Addr) (a b:Str) (hs:Xa) (ts:Xb) (qs:aC) (fp:ay) (f:ai),vs=[.ref v,.str a,.str b]->ja K CS CG CW H v g p hs ts qs fp f->Wd hs ts qs f->a∈aI hs->b∈aI hs->Q (.int (xm hs qs f a b)) H->LN K CS CG CW vs H Q E
theorem kF_{CS CG CW:Addr}(F:bp K "lead" "Sight.lead" C7 f0 fd)(TS:gP K CS)(TG:eE K CG)(TW:Txt K mg CW)(cS:!bB CW 2 "strength" vL (L9 K CW)):!aj ba 3 f0 fd xU (LN K CS CG CW):=by
 apply F.bI CK λaR A outer s H vs Q E hr h=>?_
 ·let#[v,g,p,a,b,hs,ts,qs,fp,f,rfl,S,W,ha,hb,k]:=h;let hu:=eV hr;refine' #[_,aq ?s1 (aH ?s2),?kk]
  case s1=>exact aX 3 CK.nd (dW (dW (pv 0) Z) Z)
  case s2=>exact bj (bF Re (bF pY (cb hu (dW (pv 0) Z) (pv 1)) (fL cS TW.cl hr (pv 3) %[2|0])) (bF pY (cb hu (dW (pv 0) Z) (pv 2)) (fL cS TW.cl hr (pv 3) %[1|0])))
  let#[dx,dl,dv,dp,ad,h1,G,h3,h4,h5,h6]:=S.ex;let#[pX,dw,dy,vs,cq,g1,g2,_]:=id G.ex;let#[fK,d1,l2,d3,vO,as,ef,w1,_]:=id g2.ex;have iz:(da d1 l2 d3).lookup ("strength":Str)=none:=je _ _ _ Z0 Z0 Z0;let la:=QN W.wq W.dm f a;let lb:=QN W.wq W.dm f b;apply#[_,Z,v,CS,dx,_,_,Z,h1,TS.cl,TS.nW,g9 _ _ _ _,g,CG,pX,_,_,Z,g1,TG.cl,TG.nW,zx _ _ _,?_];lk;apply#[_,Z,v,CS,dx,_,_,Z,h1,TS.cl,TS.nL,MR _ _ _ _,_,Z,dl,_,Z,gm h3 ha,_,Z,p,fK,_,Z,w1,iz,_,Z,p,b,strOf hs b,hs,ts,cq,Z,g2,W.Gd.AC,GG ((gf hs).mem_iff.mp hb),?_];apply#[_,_,Z,Z,.inl #[by omega,by omega],?_];apply#[_,Z,v,CS,dx,_,_,Z,h1,TS.cl,TS.nL,MR _ _ _ _,_,Z,dl,_,Z,gm h3 hb,_,Z,p,fK,_,Z,w1,iz,_,Z,p,a,strOf hs a,hs,ts,cq,Z,g2,W.Gd.AC,GG ((gf hs).mem_iff.mp ha),?_];exact#[_,_,Z,Z,.inl #[by omega,by omega],_,_,Z,Z,k]
theorem FS:bD xU xU (bb yO):=bJ
inductive RI (K:af) (CS CG CW:Addr) (vs:ag) (H:Hp) (Q:VK) (E:XK):Prop
 |mk:∀(v g p:Addr) (a b:Str) (hs:Xa) (ts:Xb) (qs:aC) (fp:ay) (f:ai),vs=[.ref v,.str a,.str b]->ja K CS CG CW H v g p hs ts qs fp f->Wd hs ts qs f->a∈aI hs->b∈aI hs->Q (.int (vK hs a b)) H->RI K CS CG CW vs H Q E
theorem jo_{CS CG CW:Addr}(F:bp K "joint_strength" "Sight.joint_strength" yO f0 fd)(TS:gP K CS)(TG:eE K CG)(TW:Txt K mg CW)(cS:!bB CW 2 "strength" vL (L9 K CW)):!aj ba 3 f0 fd xU (RI K CS CG CW):=by
 apply F.bI FS λaR A outer s H vs Q E hr h=>?_
 ·let#[v,g,p,a,b,hs,ts,qs,fp,f,rfl,S,W,ha,hb,k]:=h;refine' #[_,aH ?s2,?kk]
  case s2=>exact bj (bF iQ (fL cS TW.cl hr (dW (dW (pv 0) Z) Z) %[1|0]) (fL cS TW.cl hr (dW (dW (pv 0) Z) Z) %[2|0]))
  let#[dx,dl,dv,dp,ad,h1,G,h3,h4,h5,h6]:=S.ex;let#[pX,dw,dy,vs,cq,g1,g2,_]:=id G.ex;let#[fK,d1,l2,d3,vO,as,ef,w1,_]:=id g2.ex;have iz:(da d1 l2 d3).lookup ("strength":Str)=none:=je _ _ _ Z0 Z0 Z0;apply#[_,Z,v,CS,dx,_,_,Z,h1,TS.cl,TS.nW,g9 _ _ _ _,g,CG,pX,_,_,Z,g1,TG.cl,TG.nW,zx _ _ _,p,fK,_,Z,w1,iz,_,Z,p,a,strOf hs a,hs,ts,cq,Z,g2,W.Gd.AC,GG ((gf hs).mem_iff.mp ha),?_];apply#[_,Z,v,CS,dx,_,_,Z,h1,TS.cl,TS.nW,g9 _ _ _ _,g,CG,pX,_,_,Z,g1,TG.cl,TG.nW,zx _ _ _,p,fK,_,Z,w1,iz,_,Z,p,b,strOf hs b,hs,ts,cq,Z,g2,W.Gd.AC,GG ((gf hs).mem_iff.mp hb),?_];exact#[_,_,Z,Z,k]
end
theorem B2(a b:Str):decide (V.str a=V.str b)=decide (a=b):=by
 by_cases z:a=b
 ·simp[z]
 ·have:¬(V.str a=V.str b):=λe=>z (V.str.inj e);simp[z,this]
abbrev nb(hs:Xa)(ts:Xb)(h:Str):ae:=near (aI hs) (aD ts) h
def kR(hs:Xa)(qs:aC)(f:ai)(n:Str):aN:=[.inl (BH hs qs f n),.inr n]
def dN(hs:Xa)(ts:Xb)(qs:aC)(f:ai)(h:Str):ae:=(aU ((nb hs ts h).map (kR hs qs f))).map gC
def NM(hs:Xa)(qs:aC)(f:ai):V->aN
 |.str n=>kR hs qs f n
 |_=>[]
theorem lV_{hs:Xa}{ts:Xb}{qs:aC}{f:ai}{h:Str}(p:zs.Perm ((nb hs ts h).map V.str))(e:zs.map (NM hs qs f)=aU (((nb hs ts h).map V.str).map (NM hs qs f))):zs=(dN hs ts qs f h).map V.str:=by
 let#[ms,rfl,_]:=eE_ p;have e1:(ms.map V.str).map (NM hs qs f)=ms.map (kR hs qs f):=by rw[cm];rfl
 have e2:((nb hs ts h).map V.str).map (NM hs qs f)=(nb hs ts h).map (kR hs qs f):=by
  rw[cm];rfl
 rw[e1,e2] at e
 have em:(ms.map (kR hs qs f)).map gC=ms:=by
  rw[cm];exact List.map_id' ms
 unfold dN;rw[<- e,em]
theorem Xi(hs:Xa)(ts:Xb)(qs:aC)(f:ai)(h:Str):(dN hs ts qs f h).Perm (nb hs ts h):=by
 unfold dN;let p:=(yb ((nb hs ts h).map (kR hs qs f))).map gC
 have e:((nb hs ts h).map (kR hs qs f)).map gC=nb hs ts h:=by
  rw[cm];exact List.map_id' _
 rw[e] at p;exact p
theorem OI{hs:Xa}{ts:Xb}{h n:Str}(m:n∈nb hs ts h):n∈aI hs:=(BA.mp m).1
theorem Ii(hs:Xa)(ts:Xb)(h:Str):(nb hs ts h).length<=(aI hs).length:=Fm ..
abbrev xI:Str:="Sight.rising_neighbours.<locals>.<lambda>"
def Bj:Expr:=_b (TQ (Ni (iM EY) 0))
abbrev Ke:ae:=ik
theorem OU:∀y∈(w6 Bj).names,y.2=.free->y.1∈Ke:=by decide +kernel
theorem Jh:PY ["other"] Ke (w6 Bj):=#[by decide +kernel,Z,Z,Z,by decide +kernel,by decide +kernel,λx h=>OU (x,.free) (Bx h) Z,by decide +kernel]
section
variable{P:Ad}{w:Af}{K:af}{mg:Str->Option Aa}{base:Heap}
inductive zY (K:af) (CS CG CW:Addr) (vs:ag) (gs:ag) (H:Hp) (Q:VK):Prop
 |mk:∀(v g p:Addr) (n:Str) (hs:Xa) (ts:Xb) (qs:aC) (fp:ay) (f:ai),vs=[.str n]->gs=[.ref v]->ja K CS CG CW H v g p hs ts qs fp f->n∈aI hs->(∀t,H t=none->Q (.ref t) (upd H t (.tup [.int (BH hs qs f n),.str n])))->zY K CS CG CW vs gs H Q
def I_(K:af)(CS CG CW:Addr):ag->ag->Hp->VK->XK->Prop:=λvs gs H Q _=>zY K CS CG CW vs gs H Q
theorem lo_{CS CG CW:Addr}(TS:gP K CS):!jh 1 xI (NI Bj) (NH Bj) (w6 Bj) ["other"] Ke (I_ K CS CG CW):=by
 apply Hs Jh (λpm c' xg cl us hl=>?_) (λA outer s H f0 cd cl vs gs Q E hr h hp=>?_)
 ·match us,hl with
  |[_],_=>rfl
 ·let#[v,g,p,n,hs,ts,qs,fp,f,rfl,rfl,S,hn,k]:=h;let hu:=eV hr;let#[dx,dl,dv,dp,ad,h1,G,h3,h4,h5,h6]:=S.ex;apply#[_,fe %[cb hu (dW (pv 1) Z) (pv 0),0|0],?_];exact#[_,Z,v,CS,dx,_,_,Z,h1,TS.cl,TS.nV,Tz _ _ _ _,_,Z,dv,_,Z,gm h4 hn,_,Z,zl,λt ht=>k t ht]
def PF(L:Addr):List (Str × Addr):=[("self",L+1)]
theorem XY{f:Addr}:closureFor (w6 Bj) (PyProof.Rows.envOfC "Sight.rising_neighbours" (bb EY) L f cd)=pure (PF L):=by rfl
theorem X0{f:Addr}:∀q∈PF L,(PyProof.Rows.envOfC "Sight.rising_neighbours" (bb EY) L f cd).cells.lookup q.1=some q.2:=by
 intro q hq;simp only[PF,bW,Fs,or_false] at hq;rcases hq with rfl;rfl
theorem UB:∀x∈Ke,∃c,(PF L).lookup x=some c:=by
 intro x hx;simp only[Ke,bW,Fs,or_false] at hx;rcases hx with rfl;exact#[_,Z]
theorem Ut:∀x∈Ke,(bb EY).names.lookup x=some .cell:=by decide +kernel
theorem Jb:bD vL vL (bb EY):=bJ
inductive O5 (K:af) (CS CG CW T:Addr) (vs:ag) (H:Hp) (Q:VK) (E:XK):Prop
 |mk:∀(v g p:Addr) (h:Str) (hs:Xa) (ts:Xb) (qs:aC) (fp:ay) (f:ai),vs=[.ref v,.str h]->ja K CS CG CW H v g p hs ts qs fp f->Wd hs ts qs f->h∈aI hs->d8 H T xI->(∀l H',bc T H H'->d8 H' T xI->H l=none->H' l=some (.lst ((dN hs ts qs f h).map V.str))->Q (.ref l) H')->O5 K CS CG CW T vs H Q E
theorem kx_{CS CG CW T:Addr}(F:xA K Kq "Sight.rising_neighbours" EY f0 c0 fd)(B:Bi mg)(TS:gP K CS)(TG:eE K CG)(TW:Txt K mg CW)(hC:PySem.W.CodeHd base c0 T)(DX:base.BuiltinsAt mg T)(cN:!bB CW 2 "neighbours" vL (RH K CW)) :
  aj P w K mg base ba 4 f0 fd vL (O5 K CS CG CW T):=by
 apply F.ok Jb (λvs H Q E h=>?_) (λA outer s H vs Q E hr h=>?_)
 ·let#[v,g,p,h,hs,ts,qs,fp,f,rfl,_]:=h;rfl
 ·let#[v,g,p,h,hs,ts,qs,fp,f,rfl,S,W,hh,tab,k]:=h;have DP:aY 2 _:=hr.mono (by decide);refine' ⟨_,aH (bj ?l2),?kk⟩
  case l2=>exact g3_ (px:="other") (dI:=Ke) (cl:=PF s.heap.objs.size) (is:=[0]) (k:=1) Z (by rfl) B.sorted %[fL cN TW.cl DP (dW (dW (pv 0) Z) Z) %[1|0]|0] (hF_ (_h (P:=T) (c:=c0) Z XY Z hC DX) _y) (lo_ (CG:=CG) (CW:=CW) TS) hr X0 UB Ut Z
  let#[dx,dl,dv,dp,ad,h1,G,h3,h4,h5,h6]:=S.ex;let#[pX,dw,dy,vs,cq,g1,g2,_]:=id G.ex;let#[fK,d1,l2,d3,vO,as,ef,w1,_]:=id g2.ex;have iz:(da d1 l2 d3).lookup ("neighbours":Str)=none:=je _ _ _ Z0 Z0 Z0;apply#[_,Z,v,CS,dx,_,_,Z,h1,TS.cl,TS.nW,g9 _ _ _ _,g,CG,pX,_,_,Z,g1,TG.cl,TG.nW,zx _ _ _,p,fK,_,Z,w1,iz,_,Z,p,h,hs,ts,cq,Z,g2,W.Gd.BF,(gf hs).mem_iff.mp hh,λln nn=>?_];let#[s1,e1]:=aB (o:=.lst ((nb hs ts h).map V.str)) nn;show pH _ (upd H ln (.lst ((nb hs ts h).map V.str))) _;generalize upd H ln (.lst ((nb hs ts h).map V.str))=H1 at s1 e1 ⊢;apply F3 (HZ ?_);apply _t (tab.same s1) Z Z Z Z λfl c' H4 b4 iX OD Lu=>?_;let#[tv,hT]:=zA tab;have Nj:NT H1 H4:=b4.nt (s1 _ _ hT);let S4:=(S.same s1).nt Nj;have n8:(nb hs ts h).length<=8:=by have:=Ii hs ts h;have:=W.Gd.fw;have:=W.Gd.h8;omega
  apply#[.ref ln,fl,c',(nb hs ts h).map V.str,NM hs qs f,[false,true],[.ref v],Z,Z,OD,Lu,.inl #[ln,Z,.of (Nj.lst e1)],by rw[ak];omega,#[by decide,λk hk=>?_],Z,λH' x sm hx=>?_,λl zs H5 s5 nl Li pz ek=>?_]
  ·let#[v,hv,rfl]:=bh.mp hk;let#[n,_,rfl]:=bh.mp hv;rfl
  ·let#[n,hn,rfl]:=bh.mp hx;apply#[v,g,p,n,hs,ts,qs,fp,f,Z,Z,S4.same sm,OI hn,λt nt=>#[aa.new nt,t,Z,?_]];rw[az];rfl
  rw[lV_ pz ek];have s6:aa H4 (upd H5 l (.lst ((dN hs ts qs f h).map V.str))):=s5.trans (aa.new nl);apply k l _ (λb o e n=>s6 _ _ (b4 _ _ (s1 _ _ e) n)) (iX.same s6) ?_ az;cases z:H l with
  |none=>rfl
  |some o=>
   by_cases y:l=T
   ·let#[es,e,_]:=iX;rw[y,e] at Li;cases Li
   ·rw[b4 _ _ (s1 _ _ z) y] at Li;cases Li
theorem Jk:bD AU AU (bb Dg):=bJ
def pV(g:Str)(a b:Int):Bool:=if g="high" then decide (0<a) else if g="fall" then decide (b<2 * a) else decide (b<=a)
def Cz:Sp:=λvs H Q _=>∃(g:Str) (a b:Int),vs=[.str g,.int a,.int b]/\Q (.bl (pV g a b)) H
theorem lh_(F:bp K "fits" "fits" Dg f0 fd):!aj ba 1 f0 fd AU Cz:=by
 apply F.bI Jk λaR A outer s H vs Q E hr h=>?_
 ·let#[g,a,b,rfl,k]:=h;refine' #[_,aq ?s1 (aq ?s2 (aH ?s3)),?kk]
  case s1=>exact bN (cz hV (pv 0) bZ) (aH (bj (iR BU (pv 1) aK))) bP
  case s2=>exact bN (cz hV (pv 0) bZ) (aH (bj (iR BU (bF pY aK (pv 1)) (pv 2)))) bP
  case s3=>exact bj (iR ZQ (pv 1) (pv 2))
  unfold pV at k;apply#[_,Z,Z,_,Z,?_];rw[B2];apply aM (λc=>?_) (λc=>?_)
  ·have c:g="high":=vJ c;rw[aA c] at k;exact#[_,Z,_,_,Z,Z,k]
  ·have c:¬g="high":=λz=>c (cw z);rw[ao c] at k;apply#[_,Z,Z,_,Z,?_];rw[B2];apply aM (λc=>?_) (λc=>?_)
   ·have c:g="fall":=vJ c;rw[aA c] at k;exact#[_,Z,_,_,Z,Z,.inl #[by decide,by decide],_,Z,_,_,Z,Z,k]
   ·have c:¬g="fall":=λz=>c (cw z);rw[ao c] at k;exact#[_,Z,_,Z,_,_,Z,Z,k]
end
abbrev Mv:=Str × Str × Str
def kM(m:Mv):aN:=[.inr m.1,.inr m.2.1,.inr m.2.2]
def IL(qs:aC)(n:Str):Option (Xb):=match qs.find? λq=>decide (q.1=n) with
 |some q=>q.2.2
 |none=>none
theorem NY{qs:aC}(nd:(qs.map (·.1)).Nodup){q:Pc}(h:q∈qs):IL qs q.1=q.2.2:=by
 unfold IL;cases e:qs.find? λp=>decide (p.1=q.1) with
 |none=>
  have:=Ip.mp e q h;simp at this
 |some p=>
  let a:=List.mem_of_find?_eq_some e;let b:=List.find?_some e;have b:p.1=q.1:=vJ b;rw[W7 nd a h b]
def pL(hs:Xa)(ts:Xb)(qs:aC)(n a b:Str):Bool:=J_ hs ts (IL qs n) (some a) (some b)
def AD(hs:Xa)(ts:Xb)(qs:aC)(f:ai)(gd:Str)(gv:ae)(a b n:Str):Bool:=!decide (n∈gv)&&(pV gd (xm hs qs f a b) (d6 qs n * vK hs a b)&&pL hs ts qs n a b)
def iK(hs:Xa)(ts:Xb)(qs:aC)(f:ai)(gd:Str)(gv:ae)(a b:Str):List Mv:=match (bQ qs f a).find? (AD hs ts qs f gd gv a b) with
 |some n=>[(n,a,b)]
 |none=>[]
theorem hJ_{α:Type}{p:α->Bool}:∀{l:List α} {i:Nat} {x:α},l[i]? = some x->p x=true->(∀y∈l.take i,p y=false)->l.find? p=some x
 |a::l,0,x,h,hp,_=>by
  cases h;rw[List.find?_cons_of_pos hp]
 |a::l,i+1,x,h,hp,hn=>by
  have na:¬p a=true:=by rw[hn a Z2];decide
  rw[List.find?_cons_of_neg na];exact hJ_ (by simpa using h) hp λy hy=>hn y (by simp[hy])
 |[],i,x,h,_,_=>by simp at h
theorem _K{qs:aC}{f:ai}{h n:Str}(m:n∈bQ qs f h):n∈qs.map (·.1)/\f n=h:=by
 let#[a,b]:=BA.mp m;exact#[(KW qs).mem_iff.mp a,vJ b]
variable{T:Addr}
section
variable{P:Ad}{w:Af}{K:af}{mg:Str->Option Aa}{base:Heap}
theorem Ai:bD ["sight","one","other","guard","given","lead","joint","piece"] xu (bb Jq):=bJ
inductive wH (K:af) (CS CG CW:Addr) (vs:ag) (H:Hp) (Q:VK) (E:XK):Prop
 |mk:∀(v g p lg:Addr) (a b gd:Str) (gv:ae) (hs:Xa) (ts:Xb) (qs:aC) (fp:ay) (f:ai),vs=[.ref v,.str a,.str b,.str gd,.ref lg]->ja K CS CG CW H v g p hs ts qs fp f->Wd hs ts qs f->a∈aI hs->b∈aI hs->H lg=some (.lst (gv.map V.str))->(∀l ys H',aa H H'->H l=none->H' l=some (.lst ys)->bg K H' ys ((iK hs ts qs f gd gv a b).map kM)->Q (.ref l) H')->wH K CS CG CW vs H Q E
theorem lA_{CS CG CW:Addr}(F:bp K "heaviest_move" "heaviest_move" Jq f0 fd)(TS:gP K CS)(TG:eE K CG)(cL:!bB CS 3 "lead" xU (LN K CS CG CW))(cJ:!bB CS 3 "joint_strength" xU (RI K CS CG CW))(cF:!bt 1 "fits" AU Cz)(cW:!bB CG 2 "weight" HQ (KR K CG CW CP))(cM:!bB CG 3 "may_go" AY (Q9 K CG CW CP)) :
  aj P w K mg base ba 4 f0 fd xu (wH K CS CG CW):=by
 apply F.bI Ai λaR A outer s H vs Q E hr h=>?_
 ·let#[v,g,p,lg,a,b,gd,gv,hs,ts,qs,fp,f,rfl,S,W,ha,hb,hg,k]:=h;let hu:=eV hr;let sz:=ck;have DP:aY 2 _:=hr.mono (by decide);refine' #[_,?r0,?kk]
  case' r0=>refine' aq ?s1 ?r1
  case' r1=>refine' aq ?s2 ?r2
  case' r2=>refine' aq ?s3 (aH ?s4)
  case s1=>exact aX 5 Ai.nd (fL cL TS.cl hr (pv 0) %[1,2|0])
  case s2=>exact aX 6 Ai.nd (fL cJ TS.cl hr (pv 0) %[1,2|0])
  case' s3=>refine' eF dX Z (dE (cb hu (dW (pv 0) Z) (pv 1))) (cj 7 Ai.nd) (aH ?b3)
  case' b3=>refine' bN (PW.pt (E7 ?c1 (Ir ?c2))) (aH ?b4) bP
  case c1=>exact cz (RX fH (xV hr 0)) (pv 7) (pv 4) (by with_unfolding_all rfl)
  case c2=>exact fR (bf cF hr %[3,5,bF pY (fL cW TG.cl DP (dW (pv 0) Z) %[7|0]) (pv 6)|0])
  case b4=>exact bN (fR (fL cM TG.cl hr (dW (pv 0) Z) %[7,1,2|0])) (aH (bj (cK %[fe %[7,1,2|0]|0]))) bP
  case s4=>exact bj (cK aE)
  let#[dx,dl,dv,dp,ad,h1,G,h3,h4,h5,h6]:=S.ex;have no:∀{m:Str},¬m="wares"->¬m=jb->¬m=AK->¬m=Kr->(d_ g dl dv dp).lookup m=none:=λa b c d=>LA _ _ _ _ a b c d;apply#[_,Z,v,dx,_,Z,h1,no Z0 Z0 Z0 Z0,_,Z,_,Z,v,g,p,a,b,hs,ts,qs,fp,f,Z,S,W,ha,hb,?_];lk;apply#[_,Z,v,dx,_,Z,h1,no Z0 Z0 Z0 Z0,_,Z,_,Z,v,g,p,a,b,hs,ts,qs,fp,f,Z,S,W,ha,hb,?_];lk;let hl:=h6 a ha
  let aQ:bL:=λi σ H'=>∃v7:aJ,σ=[some (.ref v),some (.str a),some (.str b),some (.str gd),some (.ref lg),some (.int (xm hs qs f a b)),some (.int (vK hs a b)),v7]/\aa H H'/\∀n∈(bQ qs f a).take i,AD hs ts qs f gd gv a b n=false
  apply#[_,Z,v,CS,dx,_,_,Z,h1,TS.cl,TS.nP,MQ _ _ _ _,_,Z,dp,_,Z,gm h5 ha,ad a,Z,#[_,.of hl],fW (K:=K) (a:=ad a) (xs:=(bQ qs f a).map V.str) aQ #[none,Z,aa.refl H,by simp] (λi σ H' _ ⟨_,_,sm,_⟩=>.of (sm _ _ hl)) ?_ ?_]
  ·rintro i x σ H' hx ⟨v7,rfl,sm,nf⟩;let#[n,hn,rfl]:=iG hx;let#[nm,fn]:=_K (cu hn);let#[q,hq,rfl]:=bh.mp nm;let G':=G.same sm;let xP:=sm _ _ h1;let#[pX,dw,dy,vs,cq,g1,g2,_]:=id G'.ex;have US:(bX p dw dy).lookup ("weight":Str)=none:=E9 _ _ _ Z0 Z0 Z0;have U8:(bX p dw dy).lookup ("may_go":Str)=none:=E9 _ _ _ Z0 Z0 Z0;let wq:=W.wq q hq;let ew:=Gx W.nd hq;let ey:=NY W.nd hq
   have go:∀{H2:Hp},aa H' H2->AD hs ts qs f gd gv a b q.1=false->∃v7:aJ,[some (V.ref v),some (V.str a),some (V.str b),some (V.str gd),some (V.ref lg),some (V.int (xm hs qs f a b)),some (V.int (vK hs a b)),some (V.str q.1)]=[some (V.ref v),some (V.str a),some (V.str b),some (V.str gd),some (V.ref lg),some (V.int (xm hs qs f a b)),some (V.int (vK hs a b)),v7]/\aa H H2/\∀n∈(bQ qs f a).take (i+1),AD hs ts qs f gd gv a b n=false:=λ{H2} s2 e=>#[_,Z,sm.trans s2,λm hm=>by
    rw[eO hn] at hm;rcases fM.mp hm with hm|hm
    ·exact nf m hm
    ·rw[jd.mp hm];exact e]
   lk;apply#[_,Z,_,Z,q.1,gv,Z,#[lg,_,Z,.of (sm _ _ hg),KS gv],_,Z,?_];rw[aA Z];apply aM (λc=>?_) (λc=>?_)
   ·have c:¬q.1∈gv:=by simpa using c
    apply#[_,Z,_,Z,_,Z,v,CS,dx,_,_,Z,xP,TS.cl,TS.nW,g9 _ _ _ _,g,pX,_,Z,g1,US,_,Z,g,p,.str q.1,some q.1,hs,ts,qs,fp,Z,G',W.nd,Z,.inl #[q,hq,Z,?_]];apply#[_,Z,_,_,Z,Z,.inl #[by omega,by omega],gd,xm hs qs f a b,q.2.1 * vK hs a b,Z,_,Z,?_];apply aM (λc2=>?_) (λc2=>?_)
    ·apply#[_,Z,v,CS,dx,_,_,Z,xP,TS.cl,TS.nW,g9 _ _ _ _,g,pX,_,Z,g1,U8,_,Z,_,Z,_,Z,g,p,.str q.1,.str a,.str b,some q.1,some a,some b,hs,ts,qs,fp,Z,G',W.nd,W.Gd.BF,Z,.inl #[q,hq,Z,Z,Z,λH2 s2=>#[_,Z,?_]]];apply aM (λc3=>?_) (λc3=>?_)
     ·have pt:AD hs ts qs f gd gv a b q.1=true:=by
       unfold AD pL;rw[ew,ey,c2,dR c];simpa using c3
      apply#[_,Z,_,Z,_,Z,zl,λt nt=>?_];let#[s3,e3]:=aB (o:=.tup [.str q.1,.str a,.str b]) nt;generalize upd H2 t (.tup [.str q.1,.str a,.str b])=H3 at s3 e3 ⊢;apply#[zl,λl nl=>?_];let s4:=aa.new (o:=.lst [.ref t]) nl;let i7:=(sm.trans s2).trans s3;apply k l [.ref t] _ (i7.trans s4) (i7.free nl) az ?_;unfold iK;rw[hJ_ hn pt nf];exact .cons #[t,Z,s4 _ _ e3] .nil
     ·apply go s2 ?_;unfold AD pL;rw[ew,ey,c2];have c3:J_ hs ts q.2.2 (some a) (some b)=false:=by simpa using c3
      rw[c3,AQ,AQ]
    ·apply go (aa.refl H') ?_;unfold AD;rw[ew,show pV gd (xm hs qs f a b) (q.2.1 * vK hs a b)=false by simpa using c2,By,AQ]
   ·have c:q.1∈gv:=by simpa using c
    apply go (aa.refl H') ?_;unfold AD;rw[cw c];rfl
  ·rintro σ H' ⟨v7,rfl,sm,nf⟩;rw[ak,dJ] at nf;apply#[zl,λl nl=>?_];apply k l [] _ (sm.trans (aa.new nl)) (sm.free nl) az ?_;unfold iK;rw[Ip.mpr λn hn=>by rw[nf n hn];decide];exact .nil
def Iv(hs:Xa)(ts:Xb)(qs:aC)(f:ai)(gd h:Str):List Mv:=match dN hs ts qs f h with
 |[]=>[]
 |o::_=>iK hs ts qs f gd [] h o
theorem en':bD ["sight","hand","guard","around"] LH (bb XE):=bJ
inductive wG (K:af) (CS CG CW T:Addr) (mv:Xa->Xb->aC->(Str->Str)->Str->Str->List Mv) (vs:ag) (H:Hp) (Q:VK) (E:XK):Prop
 |mk:∀(v g p:Addr) (h gd:Str) (hs:Xa) (ts:Xb) (qs:aC) (fp:ay) (f:ai),vs=[.ref v,.str h,.str gd]->ja K CS CG CW H v g p hs ts qs fp f->Wd hs ts qs f->h∈aI hs->d8 H T xI->(∀l ys H',bc T H H'->d8 H' T xI->H l=none->H' l=some (.lst ys)->bg K H' ys ((mv hs ts qs f gd h).map kM)->Q (.ref l) H')->wG K CS CG CW T mv vs H Q E
theorem bc.new{l:Addr}{H:Hp}(b:bc T H G)(hT:∃vs,G T=some (.tbl vs))(n:G l=none):H l=none:=by
 cases z:H l with
 |none=>rfl
 |some o=>
  by_cases y:l=T
  ·let#[vs,e]:=hT;rw[y,e] at n;cases n
  ·rw[b _ _ z y] at n;cases n
theorem gw_{CS CG CW:Addr}(F:bp K "moves_by_least" "moves_by_least" XE f0 fd)(TS:gP K CS)(cR:!bB CS 4 Kq vL (O5 K CS CG CW T))(cH:!bt 4 "heaviest_move" xu (wH K CS CG CW)):!aj ba 5 f0 fd LH (wG K CS CG CW T Iv):=by
 apply F.bI en' λaR A outer s H vs Q E hr h=>?_
 ·let#[v,g,p,h,gd,hs,ts,qs,fp,f,rfl,S,W,hh,tab,k]:=h;refine' #[_,aq ?s1 (aq ?s2 (aH ?s3)),?kk]
  case s1=>exact aX 3 en'.nd (fL cR TS.cl hr (pv 0) %[1|0])
  case s2=>exact bN (cz (_B fH (xV hr 0)) (pv 3) (cK aE)) (aH (bj (cK aE))) bP
  case s3=>exact bj (bf cH hr %[0,1,bO gg (pv 3) aK,2,cK aE|0])
  let#[dx,dl,dv,dp,ad,h1,G,h3,h4,h5,h6]:=S.ex;apply#[_,Z,v,dx,_,Z,h1,LA _ _ _ _ Z0 Z0 Z0 Z0,_,Z,v,g,p,h,hs,ts,qs,fp,f,Z,S,W,hh,tab,λl1 H1 b1 FD n1 e1=>?_];lk;let#[tv,hT]:=zA tab;let S1:=S.nt (b1.nt hT);apply#[_,Z,zl,λl2 n2=>?_];let#[s2,e2]:=aB (o:=.lst []) n2;generalize upd H1 l2 (.lst [])=H2 at s2 e2 ⊢;let LK:=s2 _ _ e1;have b2:bc T H H2:=λb o e n=>s2 _ _ (b1 _ _ e n);let yj:=FD.same s2;let Nb:=Xi hs ts qs f h;apply#[dN hs ts qs f h,[],eR_ LK,eR_ e2,_,Z,?_];cases z:dN hs ts qs f h with
  |nil=>
   apply fG #[zl,λl3 n3=>?_];let s3:=aa.new (o:=.lst []) n3;apply k l3 [] _ (λb o e n=>s3 _ _ (b2 _ _ e n)) (yj.same s3) (bc.new b2 (zA yj) n3) az ?_;unfold Iv;rw[z];exact .nil
  |cons o r=>
   rw[dR Z2];apply bE ?_;rw[z] at LK Nb;have ob:o∈aI hs:=OI (Nb.mem_iff.mp c8);apply#[_,Z,_,Z,_,Z,l1,_,0,.str o,Z,Z,.of LK,L2.iL (j:=0) Z,_,Z,zl,λl3 n3=>?_];let#[s3,e3]:=aB (o:=.lst []) n3;generalize upd H2 l3 (.lst [])=H3 at s3 e3 ⊢;apply#[v,g,p,l3,h,o,gd,[],hs,ts,qs,fp,f,Z,(S1.same s2).same s3,W,hh,ob,e3,λl ys H4 s4 nl hl tu=>?_];let eY:=s3.trans s4;apply k l ys H4 (λb o e n=>eY _ _ (b2 _ _ e n)) (yj.same eY) (bc.new b2 (zA yj) (s3.free nl)) hl ?_;unfold Iv;rw[z];exact tu
end
end Ev
abbrev gX:=List Ev.Mv
namespace Ev
open PySem L2
abbrev IH:=Rl->Xa->Xb->aC->(Str->Str)->Str->gX
def Kx(mv:IH)(r:Rl)(hs:Xa)(ts:Xb)(qs:aC)(f:ai):gX:=if r.2.2.1="one" then ((aI hs).flatMap (mv r hs ts qs f)).take 1 else (aI hs).flatMap (mv r hs ts qs f)
def Ie:IH:=λr hs ts qs f h=>Iv hs ts qs f (r.2.2.2.getD "") h
theorem _O:∀r∈rl,r.2.1≠"shares"->r.2.2.2.isSome=true:=by decide +kernel
theorem KO(hs:Xa)(ts:Xb)(qs:aC)(f:ai)(gd:Str)(gv:ae)(a b:Str):(iK hs ts qs f gd gv a b).length<=1:=by
 unfold iK;split
 ·exact bo 1
 ·exact gx 1
theorem hY_(r:Rl)(hs:Xa)(ts:Xb)(qs:aC)(f:ai)(h:Str):(Ie r hs ts qs f h).length<=1:=by
 unfold Ie Iv;split
 ·exact gx 1
 ·exact KO ..
theorem Sx{α β:Type}{F:α->β->Prop}:∀{ys:List α} {ks:List β} (n:Nat),Paired F ys ks->Paired F (ys.take n) (ks.take n)
 |_,_,0,_=>.nil
 |_,_,_+1,.nil=>.nil
 |_,_,n+1,.cons h t=>.cons h (Sx n t)
theorem ga_{α:Type}{g:Str->List α}{n:Nat}(h:∀x,(g x).length<=n):∀l:ae,(l.flatMap g).length<=n * l.length
 |[]=>by simp
 |a::l=>by
  have:=h a;let ih:=ga_ h l;rw[Fj,dY,iE,Nat.mul_succ];omega
variable{f0:Addr}{fd:Ae}
section
variable{P:Ad}{w:Af}{K:af}{mg:Str->Option Aa}{base:Heap}
theorem Xq:bD EX EX (bb Pk):=bJ
inductive E3 (K:af) (CS CG CW T:Addr) (pr:Rl->Prop) (mv:IH) (vs:ag) (H:Hp) (Q:VK) (E:XK):Prop
 |mk:∀(v g p aw:Addr) (h:Str) (hs:Xa) (ts:Xb) (qs:aC) (fp:ay) (f:ai),∀r∈rl,vs=[.ref v,.str h,.ref aw]->pr r->(∀H',iI K H' aw [.str r.2.1,.str r.2.2.1,fu r.2.2.2])->ja K CS CG CW H v g p hs ts qs fp f->Wd hs ts qs f->h∈aI hs->d8 H T xI->(∀l ys H',bc T H H'->d8 H' T xI->H l=none->H' l=some (.lst ys)->bg K H' ys ((mv r hs ts qs f h).map kM)->Q (.ref l) H')->E3 K CS CG CW T pr mv vs H Q E
theorem gC_{CS CG CW T:Addr}(F:bp K "moves_from" "moves_from" Pk f0 fd)(cL:!bt 5 "moves_by_least" LH (wG K CS CG CW T Iv)):!aj ba 6 f0 fd EX (E3 K CS CG CW T (λr=>r.2.1="least") Ie):=by
 apply F.bI Xq λaR A outer s H vs Q E hr h=>?_
 ·let#[v,g,p,aw,h,hs,ts,qs,fp,f,r,ic,rfl,le,ha,S,W,hh,tab,k]:=h;refine' #[_,aq ?s1 fJ,?kk]
  case s1=>exact bN (cz hV (bO eJ (pv 2) aK) bZ) (aH (bj (bf cL hr %[0,1,bO eJ (pv 2) aK|0]))) bP
  let so:=_O r ic (by rw[le];decide +kernel);let#[gd,eg]:=Ma.mp so;apply#[_,Z,aw,_,_,_,Z,Z,ha _,Z,Z,_,Z,?_];rw[B2,cw le];apply fG ?_;apply#[_,Z,_,Z,_,Z,aw,_,_,.str gd,Z,Z,ha _,?_,v,g,p,h,gd,hs,ts,qs,fp,f,Z,S,W,hh,tab,λl ys H' b t n e tu=>k l ys H' b t n e ?_]
  ·rw[eg];rfl
  ·unfold Ie;rw[eg];exact tu
theorem Q6:bD ["sight","rule","moment","words","moves","hand"] HV (bb wJ):=bJ
inductive yn (K:af) (CS CG CW T:Addr) (pr:Rl->Prop) (mv:IH) (vs:ag) (H:Hp) (Q:VK) (E:XK):Prop
 |mk:∀(v g p:Addr) (m:Int) (hs:Xa) (ts:Xb) (qs:aC) (fp:ay) (f:ai),∀r∈rl,vs=[.ref v,.str r.1,.int m]->pr r->ja K CS CG CW H v g p hs ts qs fp f->Wd hs ts qs f->d8 H T xI->(∀l ys H',bc T H H'->d8 H' T xI->H l=none->H' l=some (.lst ys)->bg K H' ys ((Kx mv r hs ts qs f).map kM)->Q (.ref l) H')->yn K CS CG CW T pr mv vs H Q E
theorem lb_{CS CG CW T:Addr}{pr:Rl->Prop}{mv:IH}(F:bp K "moves_seen" "moves_seen" wJ f0 fd)(TS:gP K CS)(TG:eE K CG)(TW:Txt K mg CW)(npr:∀r,pr r->r.2.1≠"turns")(hb:∀r hs ts qs f h,Wd hs ts qs f->(mv r hs ts qs f h).length<=1000)(PP:!bt 2 Km ["rule"] (Po K))(cH:!bB CW 1 "hands" ik (LV K CW))(cF:!bt 6 "moves_from" EX (E3 K CS CG CW T pr mv)) :
  aj P w K mg base ba 7 f0 fd HV (yn K CS CG CW T pr mv):=by
 apply F.bI Q6 λaR A outer s H vs Q E hr h=>?_
 ·let#[v,g,p,m,hs,ts,qs,fp,f,r,ic,rfl,hp,S,W,tab,k]:=h;let sz:=ck;have xa:aY 1 _:=hr.mono (by decide);refine' #[_,?r0,?kk]
  case' r0=>refine' aq ?s1 ?r1
  case' r1=>refine' aq ?s2 ?r2
  case' r2=>refine' aq ?s3 ?r3
  case' r3=>refine' aq ?s4 (aH ?s5)
  case s1=>exact aX 3 Q6.nd (bf PP hr %[1|0])
  case s2=>exact bN (cz hV (bO eJ (pv 3) aK) bZ) fJ bP
  case s3=>exact aX 4 Q6.nd (cK aE)
  case' s4=>refine' eF dX Z (dE (GC cH TW.cl xa (dW (dW (pv 0) Z) Z))) (cj 5 Q6.nd) (aq ?b1 (aH ?b2))
  case b1=>exact h_ (gI h9 PySem.F.slot_list_extend PySem.F.type_list_extend P6 (pv 4) %[bf cF hr %[0,5,3|0]|0])
  case b2=>exact bN (PW.pt (E7 (cz hV (bO eJ (pv 3) aK) bZ) (Ir (cz (Sd (xV hr 0)) (pv 4) (cK aE))))) (aH (bj (Ik Pt (pv 4) Iq (Iu aK)))) bP
  case s5=>exact bj (pv 4)
  apply#[_,Z,r,ic,Z,λaw ha=>?_];lk;apply#[_,Z,aw,_,_,_,Z,Z,ha _,Z,Z,_,Z,?_];rw[B2,dR (npr r hp)];apply bE ?_;apply#[zl,λlm nm=>?_];lk;let#[s1,e1]:=aB (o:=.lst []) nm;generalize upd H lm (.lst [])=H1 at s1 e1 ⊢;let#[dx,dl,dv,dp,ad,h1,G,h3,h4,h5,h6]:=(S.same s1).ex;let#[pX,dw,dy,vs,cq,g1,g2,_]:=id G.ex;let#[fK,d1,l2,d3,vO,as,ef,w1,_]:=id g2.ex;have iz:(da d1 l2 d3).lookup ("hands":Str)=none:=je _ _ _ Z0 Z0 Z0;apply#[_,Z,v,CS,dx,_,_,Z,h1,TS.cl,TS.nW,g9 _ _ _ _,g,CG,pX,_,_,Z,g1,TG.cl,TG.nW,zx _ _ _,p,fK,_,Z,w1,iz,p,hs,ts,cq,Z,g2,λlh nh=>?_];let#[s2,e2]:=aB (o:=.lst ((aI hs).map V.str)) nh;generalize upd H1 lh (.lst ((aI hs).map V.str))=H2 at s2 e2 ⊢;have lmh:lm≠lh:=bx e1 nh;let ia:=s1.trans s2;let#[tv,hT]:=zA tab;have neT:∀{b:Addr} {xs:ag},H2 b=some (.lst xs)->b≠T:=λe z=>by rw[z,ia _ _ hT] at e;cases e
  have n8:(aI hs).length<=8:=by have:=W.Gd.fw;have:=W.Gd.h8;omega
  have bound:∀i,(((aI hs).take i).flatMap (mv r hs ts qs f)).length<=8000:=λi=>by
   have:=ga_ (g:=mv r hs ts qs f) (n:=1000) (λx=>hb r hs ts qs f x W) ((aI hs).take i);rw[cQ] at this;omega
  let aQ:bL:=λi σ H'=>∃(v5:aJ) (ys:ag),σ=[some (.ref v),some (.str r.1),some (.int m),some (.ref aw),some (.ref lm),v5]/\bc T H H'/\d8 H' T xI/\H' lh=some (.lst ((aI hs).map V.str))/\H' lm=some (.lst ys)/\bg K H' ys ((((aI hs).take i).flatMap (mv r hs ts qs f)).map kM)/\(r.2.2.1="one"->((aI hs).take i).flatMap (mv r hs ts qs f)=[])
  apply#[lh,Z,#[_,.of e2],fW (K:=K) (a:=lh) (xs:=(aI hs).map V.str) aQ #[none,[],Z,λb o e n=>ia _ _ e,tab.same ia,e2,s2 _ _ e1,.nil,λ_=>rfl] (λi σ H' _ ⟨_,_,_,_,_,z,_⟩=>.of z) ?_ ?_]
  ·rintro i x σ H' hx ⟨v5,ys,rfl,bT,wA,g_,DR,tu,one⟩;let#[n,hn,rfl]:=iG hx;let T7:=cu hn;lk;let S':=S.nt (bT.nt hT);apply#[_,Z,.inl #[Z,_,.of DR],_,Z,_,Z,_,Z,v,g,p,aw,n,hs,ts,qs,fp,f,r,ic,Z,hp,ha,S',W,T7,wA,λl zs H3 b3 wz nl hl tz=>?_];let#[tv',Lv]:=zA wA;let Nk:=b3.nt Lv;let Ge:=Nk.lst DR;let tu3:=bg.nt tu Nk;have lT:l≠T:=λz=>by rw[z,Lv] at nl;cases nl
   have QK:lm≠l:=bx DR nl;let b03:=bound i;let ly:=bG tu;let lz:=bG tz;rw[ak] at ly lz;let bz:=hb r hs ts qs f n W;apply#[lm,l,ys,zs,Z,Z,Ge,hl,by omega,?_];have e4:upd H3 lm (.lst (ys++zs)) lm=some (.lst (ys++zs)):=az
   have b4:bc T H (upd H3 lm (.lst (ys++zs))):=λb o e ne=>by
    rw[au (bx e nm)];exact b3 _ _ (bT _ _ e ne) ne
   have iX:d8 (upd H3 lm (.lst (ys++zs))) T xI:=d8.putL wz Ge
   have JZ:upd H3 lm (.lst (ys++zs)) lh=some (.lst ((aI hs).map V.str)):=by
    rw[au lmh.symm];exact Nk.lst g_
   have fl:((aI hs).take (i+1)).flatMap (mv r hs ts qs f)=((aI hs).take i).flatMap (mv r hs ts qs f)++mv r hs ts qs f n:=by
    rw[eO hn,IE,Fj,List.flatMap_nil,gK]
   have Mr:bg K (upd H3 lm (.lst (ys++zs))) (ys++zs) ((((aI hs).take (i+1)).flatMap (mv r hs ts qs f)).map kM):=by
    rw[fl,b_];exact vM (iT tu3 Ge) (iT tz Ge)
   generalize upd H3 lm (.lst (ys++zs))=H4 at e4 b4 iX JZ Mr ⊢;dsimp only;apply#[_,Z,aw,_,_,_,Z,Z,ha _,Z,Z,_,Z,?_];rw[B2];apply aM (λc=>?_) (λc=>?_)
   ·have c:r.2.2.1="one":=vJ c;apply#[_,Z,zl,λle ne=>?_];let#[s5,e5]:=aB (o:=.lst []) ne;generalize upd H4 le (.lst [])=H5 at s5 e5 ⊢;apply#[lm,le,ys++zs,Z,Z,.of (s5 _ _ e4),.of e5,_,Z,?_];let ll:=bG Mr;rw[ak] at ll;apply aM (λc2=>?_) (λc2=>?_)
    ·apply#[_,Z,_,Z,lm,_,Z,.of (s5 _ _ e4),λlq nq=>?_];rw[show hJ (ys++zs) none (some 1)=(ys++zs).take 1 from RO (ys++zs) 1];let s6:=aa.new (o:=.lst ((ys++zs).take 1)) nq;let Bc:=s5.trans s6;have b6:bc T H (upd H5 lq (.lst ((ys++zs).take 1))):=λb o e n=>Bc _ _ (b4 _ _ e n);apply k lq _ _ b6 (iX.same Bc) (bc.new (T:=T) (G:=H5) (λb o e n=>s5 _ _ (b4 _ _ e n)) (zA (iX.same s5)) nq) az ?_;unfold Kx;rw[aA c]
     have nz:((aI hs).take (i+1)).flatMap (mv r hs ts qs f)≠[]:=λz=>by
      rw[z,zD] at ll;have y:ys++zs=[]:=Fo.mp ll;rw[y] at c2;simp at c2
     have e7:((aI hs).flatMap (mv r hs ts qs f)).take 1=(((aI hs).take (i+1)).flatMap (mv r hs ts qs f)).take 1:=by
      conv=>lhs;rw[<- List.take_append_drop (i+1) (aI hs),IE]
      cases z:((aI hs).take (i+1)).flatMap (mv r hs ts qs f) with
      |nil=>exact absurd z nz
      |cons a b=>rfl
     rw[e7,List.map_take];exact Sx 1 (Mr.same Bc)
    ·have z:ys++zs=[]:=by simpa using c2
     apply#[_,_,Z,λb o e n=>s5 _ _ (b4 _ _ e n),iX.same s5,s5 _ _ JZ,s5 _ _ e4,Mr.same s5,λ_=>?_];rw[z,zD] at ll;exact Fo.mp ll.symm
   ·apply#[_,_,Z,b4,iX,JZ,e4,Mr,λz=>absurd (cw z) c]
  ·rintro σ H' ⟨v5,ys,rfl,bT,wA,g_,DR,tu,one⟩;rw[ak,dJ] at tu one;apply#[_,Z,k lm ys H' bT wA nm DR ?_];unfold Kx;by_cases c:r.2.2.1="one"
   ·rw[aA c];have:=one c;rw[this] at tu ⊢;exact tu
   ·rw[ao c];exact tu
end
structure zJ (P:Ad) (w:Af) (K:af) (mg:Str->Option Aa) (base:Heap) (C:Addr) (k:Nat) (x:Str) (ps:ae) (sp:Sp):Prop where
 ex:∃f fd,aj P w K mg base ba k f fd ps sp/\Mk K C f/\mg x=some (.ref C)/\Bt K fd ps []
theorem UC{n_:Nat}{X:Cx}{C:Addr}{k:Nat}{x:Str}{ps:ae}{sp:Sp}{p pos:Pos}{e:Expr}{es:List Expr}{t:TA}(c:zJ X.prog X.w X.K X.mg X.base C k x ps sp)(hr:aY n_ X.A)(ha:PA X (e::es) t)(hg:Gl X x:=by rfl)(zh:(x == ("__debug__":Str))=false:=by decide)
  (he:starEach (e::es) X.env=(false,eval e X.env)::starEach es X.env:=by rfl) (xO:(backTo pos (starEach es X.env)).any (·.1)=false:=by rfl) (hk:(k+1)<=n_:=by decide):PE X (.Call (.Name x p) (e::es) [] pos) (G0 C sp [] E0 t):=by
 let#[f,fd,F,M,m,b]:=c.ex;exact l4_ M F (hr.mono hk) hg m b .nil wQ ha zh he xO
section
variable{P:Ad}{w:Af}{K:af}{mg:Str->Option Aa}{base:Heap}
theorem CT:bD HS HS (bb WJ):=bJ
def fd'(K:af)(CG CW:Addr):Sp:=λvs H Q _=>∃(g d:V),∃r∈rl,vs=[g,d,.str r.1]/\Sm K CG CW [g,d] H Q E0
theorem h4_{CG CW:Addr}(F:bp K "checked_start" "checked_start" WJ f0 fd)(PP:!bt 2 Km ["rule"] (Po K))(cS:!bt 2 "checked_stand" ["goods","stand"] (Sm K CG CW)):!aj ba 3 f0 fd HS (fd' K CG CW):=by
 apply F.bI CT λaR A outer s H vs Q E hr h=>?_
 ·let#[g,d,r,ic,rfl,h]:=h;apply#[_,aq (h_ (bf PP hr %[2|0])) (aH (bj (bf cS hr %[0,1|0]))),?_];exact#[_,Z,r,ic,Z,λa _=>#[_,Z,_,Z,h]]
structure Qa (K:af) (CG CW:Addr) (H:Hp) (g p d:Addr) (hs:Xa) (ts:Xb) (qs:aC) (fp:ay) (ns:ae) (f:ai):Prop where
 G:ij K CG CW H g p hs ts qs fp
 Eb:d∉fp
 hd:H d=some (.dK (dH ns f))
 so:A4 hs qs ns f
 has:∀b∈fp,∃o,H b=some o/\∀vs,o≠.tbl vs
theorem Qa.nt{CG CW g p d:Addr}{H G:Hp}{hs:Xa}{ts:Xb}{qs:aC}{fp:ay}{ns:ae}{f:ai}(S:Qa K CG CW H g p d hs ts qs fp ns f)(s:NT H G):Qa K CG CW G g p d hs ts qs fp ns f:=#[S.G.nt s,S.Eb,s.dK S.hd,S.so,λb hb=>by
 let#[o,e,n]:=S.has b hb;exact#[o,s _ _ e n,n]]
structure Tb (H:Hp) (T1 T2:Addr):Prop where
 a:d8 H T1 Hk
 b:d8 H T2 xI
 ne:T1≠T2
end
def BW(hs:Xa)(ts:Xb)(qs:aC)(f:ai)(gd h:Str):gX->ae->gX
 |ms,[]=>ms
 |ms,o::l=>if 0<xm hs qs f h o then BW hs ts qs f gd h (ms++iK hs ts qs f gd (ms.map (·.1)) h o) l else BW hs ts qs f gd h ms l
def H_(hs:Xa)(ts:Xb)(qs:aC)(f:ai)(gd h:Str):gX:=BW hs ts qs f gd h [] (dN hs ts qs f h)
variable{T:Addr}
section
variable{P:Ad}{w:Af}{K:af}{mg:Str->Option Aa}{base:Heap}
theorem Sf:bD ["sight","hand","guard","moves","other","given"] LH (bb Xu):=bJ
theorem gu_{CS CG CW:Addr}(F:bp K "moves_by_below" "moves_by_below" Xu f0 fd)(TS:gP K CS)(cR:!bB CS 4 Kq vL (O5 K CS CG CW T))(cL:!bB CS 3 "lead" xU (LN K CS CG CW))(cH:!bt 4 "heaviest_move" xu (wH K CS CG CW)):!aj ba 5 f0 fd LH (wG K CS CG CW T H_):=by
 apply F.bI Sf λaR A outer s H vs Q E hr h=>?_
 ·let#[v,g,p,h,gd,hs,ts,qs,fp,f,rfl,S,W,hh,tab,k]:=h;let sz:=ck;have Ob:aY 3 _:=hr.mono (by decide);refine' #[_,aq ?s1 (aq ?s2 (aH ?s3)),?kk]
  case s1=>exact aX 3 Sf.nd (cK aE)
  case' s2=>refine' eF dX Z (dE (fL cR TS.cl hr (pv 0) %[1|0])) (cj 4 Sf.nd) (aH (bN ?t1 (aq ?b1 (aH ?b2)) bP))
  case t1=>exact cz BU (fL cL TS.cl Ob (pv 0) %[1,4|0]) aK
  case b1=>exact RG (i:=5) ["move"] 1 [] Sf.nd Z (Or.inl Z) (dE (pv 3)) (λfp s H=>eZ (i:=0) (show (["move"]:ae).Nodup by decide +kernel) Z (Or.inl Z)) (λfp s H=>iH) (λfp s H=>bO (JJ (K:=K) wO eJ) (pv 0) aK)
  case b2=>exact h_ (gI h9 PySem.F.slot_list_extend PySem.F.type_list_extend P6 (pv 3) %[bf cH hr %[0,1,4,2,5|0]|0])
  case s3=>exact bj (pv 3)
  have n8:(aI hs).length<=8:=by have:=W.Gd.fw;have:=W.Gd.h8;omega
  apply#[zl,λlm nm=>?_];lk;let#[s1,e1]:=aB (o:=.lst []) nm;generalize upd H lm (.lst [])=H1 at s1 e1 ⊢;let S1:=S.same s1;let FD:=tab.same s1;let#[dx,dl,dv,dp,ad,h1,G,h3,h4,h5,h6]:=S1.ex;apply#[_,Z,v,dx,_,Z,h1,LA _ _ _ _ Z0 Z0 Z0 Z0,_,Z,v,g,p,h,hs,ts,qs,fp,f,Z,S1,W,hh,FD,λl1 H2 b2 yj n1 e2=>?_];let#[tv,hT]:=zA FD;let#[tv2,hT2]:=zA yj;let QF:=b2.nt hT;let S2:=S1.nt QF;let m2:=QF.lst e1;have QK:lm≠l1:=bx e1 n1;let Nb:=Xi hs ts qs f h;have gQ:∀x∈dN hs ts qs f h,x∈aI hs:=λx hx=>OI (Nb.mem_iff.mp hx)
  have ll:(dN hs ts qs f h).length<=8:=by
   rw[Nb.length_eq];have:=Ii hs ts h;omega
  have bT:bc T H H2:=λb o e n=>b2 _ _ (s1 _ _ e) n
  let aQ:bL:=λi σ H'=>∃(v4 v5:aJ) (ys:ag) (ms:gX),σ=[some (.ref v),some (.str h),some (.str gd),some (.ref lm),v4,v5]/\bc T H H'/\d8 H' T xI/\H' l1=some (.lst ((dN hs ts qs f h).map V.str))/\H' lm=some (.lst ys)/\bg K H' ys (ms.map kM)/\ms.length<=i/\BW hs ts qs f gd h ms ((dN hs ts qs f h).drop i)=H_ hs ts qs f gd h
  apply#[l1,Z,#[_,.of e2],fW (K:=K) (a:=l1) (xs:=(dN hs ts qs f h).map V.str) aQ #[none,none,[],[],Z,bT,yj,e2,m2,.nil,bo _,Z] (λi σ H' _ ⟨_,_,_,_,_,_,_,z,_⟩=>.of z) ?_ ?_]
  ·rintro i x σ H3 hx ⟨v4,v5,ys,ms,rfl,P5,wz,l3,m3,t3,NB,eq3⟩;let#[o,ho,rfl]:=iG hx;have hi:i<(dN hs ts qs f h).length:=(cc.mp ho).1;let om:=gQ o (cu ho)
   have dr:(dN hs ts qs f h).drop i=o::(dN hs ts qs f h).drop (i+1):=by
    let#[h1,h2]:=cc.mp ho;rw[List.drop_eq_getElem_cons h1,h2]
   rw[dr] at eq3;let#[tv0,hT0]:=zA tab;let S3:=S.nt (P5.nt hT0);let#[WZ,_,_,_,_,k1,_]:=S3.ex;let ly:=bG t3;rw[ak] at ly;lk;apply#[_,Z,v,WZ,_,Z,k1,LA _ _ _ _ Z0 Z0 Z0 Z0,_,Z,_,Z,v,g,p,h,o,hs,ts,qs,fp,f,Z,S3,W,hh,om,_,_,Z,Z,_,Z,?_];apply aM (λc=>?_) (λc=>?_)
   ·have c:0<xm hs qs f h o:=by simpa using c
    have eq3:BW hs ts qs f gd h (ms++iK hs ts qs f gd (ms.map (·.1)) h o) ((dN hs ts qs f h).drop (i+1))=H_ hs ts qs f gd h:=by
     rw[BW,aA c] at eq3;exact eq3
    apply#[_,Z,lm,Z,#[_,.of m3],λD hD=>?_]
    let bH:dG:=λj out H'=>aa H3 H'/\H' D=some (.lst out)/\out=((ms.map (·.1)).take j).map V.str
    apply yd (own:=1) (fv:=[]) (xs:=ys) Z dP bH #[aa.new hD,az,Z] (λj out H' _ ⟨sm,_⟩=>.of (sm _ _ m3)) (λout H4 ⟨s4,d4,eo⟩=>?_) (λj x out H' hx ⟨sm,hd,eo⟩=>?_);rotate_left
    ·let#[q,hq,a,rfl,ha]:=qc t3 hx;have hj:j<ms.length:=(cc.mp hq).1;apply#[_,Z,Z,λNx hN=>dM ?_];apply#[_,Z,a,_,0,.str q.1,Z,Z,.of (sm _ _ ha),L2.iL (j:=0) Z,out,hd,?_,hN (out++[.str q.1]) _ #[fN sm hD,az,?_]]
     ·rw[eo,ak,cQ];omega
     ·rw[eo,eO (show (ms.map (·.1))[j]? = some q.1 by rw[dQ,hq];rfl),b_];rfl
    rw[ly,GM (by rw[ak];exact bo _)] at eo;subst eo;lk;let m4:=s4 _ _ m3;apply#[_,Z,.inl #[Z,_,.of m4],?_];apply#[_,Z,_,Z,_,Z,_,Z,_,Z,v,g,p,D,h,o,gd,ms.map (·.1),hs,ts,qs,fp,f,Z,S3.same s4,W,hh,om,d4,λl5 zs H5 s5 n5 e5 t5=>?_];let yV:=s4.trans s5;let m5:=yV _ _ m3;let lz:=bG t5;let hl:=KO hs ts qs f gd (ms.map (·.1)) h o;rw[ak] at lz;apply#[lm,l5,ys,zs,Z,Z,m5,e5,by omega,?_];apply#[_,_,ys++zs,ms++iK hs ts qs f gd (ms.map (·.1)) h o,Z,λb u e n=>?_,d8.putL (wz.same yV) m5,?_,az,?_,?_,eq3]
    ·rw[au (bx e nm)];exact yV _ _ (P5 _ _ e n)
    ·rw[au QK.symm];exact yV _ _ l3
    ·rw[b_];exact vM (iT (t3.same yV) m5) (iT t5 m5)
    ·rw[dY];omega
   ·have c:¬0<xm hs qs f h o:=by simpa using c
    apply#[_,_,ys,ms,Z,P5,wz,l3,m3,t3,by omega,?_];rw[BW,ao c] at eq3;exact eq3
  ·rintro σ H3 ⟨v4,v5,ys,ms,rfl,P5,wz,l3,m3,t3,NB,eq3⟩;rw[ak,List.drop_length] at eq3;apply#[_,Z,k lm ys H3 P5 wz nm m3 ?_];rw[<- eq3];exact t3
end
def Ia:IH:=λr hs ts qs f h=>H_ hs ts qs f (r.2.2.2.getD "") h
theorem VZ{hs:Xa}{ts:Xb}{qs:aC}{f:ai}{gd h:Str}:∀(l:ae) (ms:gX),(BW hs ts qs f gd h ms l).length<=ms.length+l.length
 |[],ms=>bo _
 |o::l,ms=>by
  rw[BW,iE];split
  ·let h1:=VZ (hs:=hs) (ts:=ts) (qs:=qs) (f:=f) (gd:=gd) (h:=h) l (ms++iK hs ts qs f gd (ms.map (·.1)) h o);let h2:=KO hs ts qs f gd (ms.map (·.1)) h o;rw[dY] at h1;omega
  ·let h1:=VZ (hs:=hs) (ts:=ts) (qs:=qs) (f:=f) (gd:=gd) (h:=h) l ms;omega
theorem hU_(r:Rl)(hs:Xa)(ts:Xb)(qs:aC)(f:ai)(h:Str)(W:Wd hs ts qs f):(Ia r hs ts qs f h).length<=8:=by
 unfold Ia H_;let h1:=VZ (hs:=hs) (ts:=ts) (qs:=qs) (f:=f) (gd:=r.2.2.2.getD "") (h:=h) (dN hs ts qs f h) [];let h2:=(Xi hs ts qs f h).length_eq;let h3:=Ii hs ts h;let h4:=W.Gd.fw;let h5:=W.Gd.h8;rw[zD] at h1;omega
section
variable{P:Ad}{w:Af}{K:af}{mg:Str->Option Aa}{base:Heap}
theorem gg_{CS CG CW:Addr}(F:bp K "moves_from" "moves_from" Pk f0 fd)(cL:!bt 5 "moves_by_below" LH (wG K CS CG CW T H_)):!aj ba 6 f0 fd EX (E3 K CS CG CW T (λr=>r.2.1="below") Ia):=by
 apply F.bI Xq λaR A outer s H vs Q E hr h=>?_
 ·let#[v,g,p,aw,h,hs,ts,qs,fp,f,r,ic,rfl,le,ha,S,W,hh,tab,k]:=h;refine' #[_,aq ?s0 (aq ?s1 fJ),?kk]
  case s0=>exact bN (cz hV (bO eJ (pv 2) aK) bZ) fJ bP
  case s1=>exact bN (cz hV (bO eJ (pv 2) aK) bZ) (aH (bj (bf cL hr %[0,1,bO eJ (pv 2) aK|0]))) bP
  let so:=_O r ic (by rw[le];decide +kernel);let#[gd,eg]:=Ma.mp so;have ln:¬r.2.1="least":=by rw[le];decide +kernel
  apply#[_,Z,aw,_,_,_,Z,Z,ha _,Z,Z,_,Z,?_];rw[B2,dR ln];apply bE ?_;apply#[_,Z,aw,_,_,_,Z,Z,ha _,Z,Z,_,Z,?_];rw[B2,cw le];apply fG ?_;apply#[_,Z,_,Z,_,Z,aw,_,_,.str gd,Z,Z,ha _,?_,v,g,p,h,gd,hs,ts,qs,fp,f,Z,S,W,hh,tab,λl ys H' b t n e tu=>k l ys H' b t n e ?_]
  ·rw[eg];rfl
  ·unfold Ia;rw[eg];exact tu
end
def hW(hs:Xa)(ts:Xb):Int:=((fF hs ts).max?).getD 0
variable{m:Int}
theorem h1_{hs:Xa}{ts:Xb}(h1:m∈fF hs ts)(h2:∀a∈fF hs ts,a<=m):m=hW hs ts:=by
 unfold hW;rw[List.max?_eq_some_iff.mpr #[h1,h2]];rfl
theorem he_{hs:Xa}{ts:Xb}(G:Good hs ts)(h:m∈fF hs ts):0<=m/\m<=8:=by
 let#[n,_,rfl]:=bh.mp h;let h1:=Ii hs ts n;let h2:=G.fw;let h3:=G.h8;show 0<=((nb hs ts n).length:Int)/\((nb hs ts n).length:Int)<=8;omega
theorem jp_{hs:Xa}{ts:Xb}(G:Good hs ts){a b:Str}(ha:a∈aI hs)(hb:b∈aI hs):2<=vK hs a b/\vK hs a b<=2000:=by
 let h1:=bM G ha;let h2:=bM G hb;unfold vK;omega
def eU(wt:Str->Int)(ok:Str->Bool):Int->ae->ae
 |_,[]=>[]
 |l,n::ns=>if (ok n&&decide (wt n<=l))=true then n::eU wt ok (l - wt n) ns else eU wt ok l ns
theorem Rq(wt:Str->Int)(ok:Str->Bool):∀(l:Int) (ns:ae),(eU wt ok l ns).Sublist ns
 |_,[]=>.slnil
 |l,n::ns=>by
  unfold eU;split
  ·exact (Rq wt ok _ ns).cons_cons n
  ·exact (Rq wt ok _ ns).cons n
def il(hs:Xa)(ts:Xb)(qs:aC)(gv:ae)(a b n:Str):Bool:=!decide (n∈gv)&&pL hs ts qs n a b
def yx(hs:Xa)(ts:Xb)(qs:aC)(f:ai)(a b:Str):Int:=xm hs qs f a b / (vK hs a b * (hW hs ts+1))
def MO(hs:Xa)(ts:Xb)(qs:aC)(f:ai)(gv:ae)(a b:Str):ae:=eU (d6 qs) (il hs ts qs gv a b) (yx hs ts qs f a b) (bQ qs f a)
abbrev to3(a b:Str)(n:Str):Mv:=(n,a,b)
def FI(hs:Xa)(ts:Xb)(qs:aC)(f:ai)(gv:ae)(a b:Str):gX:=(MO hs ts qs f gv a b).map (to3 a b)
theorem WT{hs:Xa}{ts:Xb}{qs:aC}{f:ai}(W:Wd hs ts qs f)(a:Str):(bQ qs f a).length<=63:=by
 have h1:(bQ qs f a).length<=(iZ qs).length:=Fm ..;let h2:=(KW qs).length_eq;rw[ak] at h2;have:=W.dm;omega
theorem _V{hs:Xa}{ts:Xb}{qs:aC}{f:ai}(W:Wd hs ts qs f)(gv:ae)(a b:Str):(FI hs ts qs f gv a b).length<=63:=by
 unfold FI;rw[ak];have:=(Rq (d6 qs) (il hs ts qs gv a b) (yx hs ts qs f a b) (bQ qs f a)).length_le;let h2:=WT W a;unfold MO;omega
theorem VX{α:Type}{l:List α}{i:Nat}{x:α}(h:l[i]? = some x):l.drop i=x::l.drop (i+1):=by
 let#[h1,h2]:=cc.mp h;rw[List.drop_eq_getElem_cons h1,h2]
section
variable{P:Ad}{w:Af}{K:af}{mg:Str->Option Aa}{base:Heap}
abbrev Tx:ae:=["sight","one","other","given","parts","left","moves","piece","weight"]
theorem Kp:bD Tx ["sight","one","other","given"] (bb Jo):=bJ
inductive Ct (K:af) (CS CG CW:Addr) (vs:ag) (H:Hp) (Q:VK) (E:XK):Prop
 |mk:∀(v g p lg:Addr) (a b:Str) (gv:ae) (hs:Xa) (ts:Xb) (qs:aC) (fp:ay) (f:ai),vs=[.ref v,.str a,.str b,.ref lg]->ja K CS CG CW H v g p hs ts qs fp f->Wd hs ts qs f->a∈aI hs->b∈aI hs->H lg=some (.lst (gv.map V.str))->(∀l ys H',aa H H'->H l=none->H' l=some (.lst ys)->bg K H' ys ((FI hs ts qs f gv a b).map kM)->Q (.ref l) H')->Ct K CS CG CW vs H Q E
theorem ma_{CS CG CW CP:Addr}(F:bp K "share_moves" "share_moves" Jo f0 fd)(TS:gP K CS)(TG:eE K CG)(TW:Txt K mg CW)(cL:!bB CS 3 "lead" xU (LN K CS CG CW))(cJ:!bB CS 3 "joint_strength" xU (RI K CS CG CW))(cN:!bB CW 1 "most_neighbours" ik (yr K CW))(cW:!bB CG 2 "weight" HQ (KR K CG CW CP))(cM:!bB CG 3 "may_go" AY (Q9 K CG CW CP)) :
  aj P w K mg base ba 4 f0 fd ["sight","one","other","given"] (Ct K CS CG CW):=by
 apply F.bI Kp λaR A outer s H vs Q E hr h=>?_
 ·let#[v,g,p,lg,a,b,gv,hs,ts,qs,fp,f,rfl,S,W,ha,hb,hg,k]:=h;let hu:=eV hr;let sz:=ck;have xa:aY 1 _:=hr.mono (by decide);have DP:aY 2 _:=hr.mono (by decide);refine' #[_,?r0,?kk]
  case' r0=>refine' aq ?s1 ?r1
  case' r1=>refine' aq ?s2 ?r2
  case' r2=>refine' aq ?s3 ?r3
  case' r3=>refine' aq ?s4 (aH ?s5)
  case s1=>exact aX 4 Kp.nd (bF pY (fL cJ TS.cl hr (pv 0) %[1,2|0]) (bF iQ (GC cN TW.cl xa (dW (dW (pv 0) Z) Z)) aK))
  case s2=>exact aX 5 Kp.nd (bF E8 (fL cL TS.cl hr (pv 0) %[1,2|0]) (pv 4))
  case s3=>exact aX 6 Kp.nd (cK aE)
  case' s4=>refine' eF dX Z (dE (cb hu (dW (pv 0) Z) (pv 1))) (cj 7 Kp.nd) (aq ?b1 (aH ?b2))
  case b1=>exact aX 8 Kp.nd (fL cW TG.cl DP (dW (pv 0) Z) %[7|0])
  case' b2=>refine' bN (PW.pt (E7 ?c1 (E7 ?c2 (Ir ?c3)))) (aq ?b3 (aH ?b4)) bP
  case c1=>exact cz (RX fH (xV hr 0)) (pv 7) (pv 3) (by with_unfolding_all rfl)
  case c2=>exact cz HP (pv 8) (pv 5)
  case c3=>exact fR (fL cM TG.cl hr (dW (pv 0) Z) %[7,1,2|0])
  case b3=>exact h_ (gI h9 xY xZ xp (pv 6) %[fe %[7,1,2|0]|0])
  case b4=>exact aX 5 Kp.nd (bF Re (pv 5) (pv 8))
  case s5=>exact bj (pv 6)
  let#[dx,dl,dv,dp,ad,h1,G,h3,h4,h5,h6]:=S.ex;let#[pX,dw,dy,vs,cq,g1,g2,_]:=id G.ex;let#[fK,d1,l2,d3,vO,as,ef,w1,_]:=id g2.ex;have hnm:(da d1 l2 d3).lookup ("most_neighbours":Str)=none:=je _ _ _ Z0 Z0 Z0;have no:∀{m:Str},¬m="wares"->¬m=jb->¬m=AK->¬m=Kr->(d_ g dl dv dp).lookup m=none:=λa b c d=>LA _ _ _ _ a b c d;let jo:=jp_ W.Gd ha hb;let nl:=W.Gd.fw;let n1:=W.Gd.h1;let n8:=W.Gd.h8;apply#[_,Z,v,dx,_,Z,h1,no Z0 Z0 Z0 Z0,_,Z,_,Z,v,g,p,a,b,hs,ts,qs,fp,f,Z,S,W,ha,hb,?_];apply#[_,Z,v,CS,dx,_,_,Z,h1,TS.cl,TS.nW,g9 _ _ _ _,g,CG,pX,_,_,Z,g1,TG.cl,TG.nW,zx _ _ _,p,fK,_,Z,w1,hnm,p,hs,ts,cq,Z,g2,by omega,by omega,λm H1 s1 m1 m2=>?_];let mo:=he_ W.Gd m1;obtain rfl:=h1_ m1 m2;have pp:0<vK hs a b * (hW hs ts+1):=Int.mul_pos Z1 Z1
  have pl:vK hs a b * (hW hs ts+1)<1073741824:=by
   have:=Int.mul_le_mul jo.2 (show hW hs ts+1<=9 by omega) Z1 (by decide);omega
  apply#[_,_,Z,Z,_,_,Z,Z,.inl #[by omega,by omega],?_];lk;apply#[_,Z,v,dx,_,Z,s1 _ _ h1,no Z0 Z0 Z0 Z0,_,Z,_,Z,v,g,p,a,b,hs,ts,qs,fp,f,Z,S.same s1,W,ha,hb,_,Z,_,_,Z,Z,#[pp,pl],?_];lk;apply#[zl,λlm nm=>?_];lk;let#[s2,e2]:=aB (o:=.lst []) nm;let Lg:=s1.free nm;generalize upd H1 lm (.lst [])=H2 at s2 e2 ⊢;let ia:=s1.trans s2;let hl:=h6 a ha;let l63:=WT W a
  let aQ:bL:=λi σ H'=>∃(v7 v8:aJ) (left:Int) (ys:ag) (ns:ae),σ=[some (.ref v),some (.str a),some (.str b),some (.ref lg),some (.int (vK hs a b * (hW hs ts+1))),some (.int left),some (.ref lm),v7,v8]/\aa H H'/\H' lm=some (.lst ys)/\bg K H' ys ((ns.map (to3 a b)).map kM)/\ns.length<=i/\ns++eU (d6 qs) (il hs ts qs gv a b) left ((bQ qs f a).drop i)=MO hs ts qs f gv a b
  apply#[_,Z,v,CS,dx,_,_,Z,ia _ _ h1,TS.cl,TS.nP,MQ _ _ _ _,_,Z,dp,_,Z,gm (ia _ _ h5) ha,ad a,Z,#[_,.of (ia _ _ hl)],fW (K:=K) (a:=ad a) (xs:=(bQ qs f a).map V.str) aQ #[none,none,_,[],[],Z,ia,e2,.nil,bo _,Z] (λi σ H' _ ⟨_,_,_,_,_,_,sm,_⟩=>.of (sm _ _ hl)) ?_ ?_]
  ·rintro i x σ H' hx ⟨v7,v8,left,ys,ns,rfl,sm,DR,tu,ln,eq⟩;let#[n,hn,rfl]:=iG hx;have hi:i<(bQ qs f a).length:=(cc.mp hn).1;let#[T7,fn]:=_K (cu hn);let#[q,hq,rfl]:=bh.mp T7;let G':=G.same sm;let xP:=sm _ _ h1;let#[Pa,dw',dy',Qk,fpw',g1',g2',_]:=id G'.ex;have US:(bX p dw' dy').lookup ("weight":Str)=none:=E9 _ _ _ Z0 Z0 Z0;have U8:(bX p dw' dy').lookup ("may_go":Str)=none:=E9 _ _ _ Z0 Z0 Z0;let ew:=Gx W.nd hq;let ey:=NY W.nd hq;rw[VX hn,eU] at eq;let ly:=bG tu;rw[ak,ak] at ly
   have go:∀{H2:Hp} {v8:aJ},aa H' H2->(il hs ts qs gv a b q.1&&decide (d6 qs q.1<=left))=false->∃(v7 v8':aJ) (Hr:Int) (ys:ag) (ns:ae),[some (V.ref v),some (.str a),some (.str b),some (.ref lg),some (.int (vK hs a b * (hW hs ts+1))),some (.int left),some (.ref lm),some (.str q.1),v8]=[some (V.ref v),some (.str a),some (.str b),some (.ref lg),some (.int (vK hs a b * (hW hs ts+1))),some (.int Hr),some (.ref lm),v7,v8']/\aa H H2/\H2 lm=some (.lst ys)/\bg K H2 ys ((ns.map (to3 a b)).map kM)/\ns.length<=i+1/\ns++eU (d6 qs) (il hs ts qs gv a b) Hr ((bQ qs f a).drop (i+1))=MO hs ts qs f gv a b:=λ{H2 v8} s2 e=>by
    rw[e,ao (by decide)] at eq;exact#[_,_,_,ys,ns,Z,sm.trans s2,s2 _ _ DR,tu.same s2,by omega,eq]
   lk;apply#[_,Z,v,CS,dx,_,_,Z,xP,TS.cl,TS.nW,g9 _ _ _ _,g,Pa,_,Z,g1',US,_,Z,g,p,.str q.1,some q.1,hs,ts,qs,fp,Z,G',W.nd,Z,.inl #[q,hq,Z,?_]];lk;apply#[_,Z,_,Z,q.1,gv,Z,#[lg,_,Z,.of (sm _ _ hg),KS gv],_,Z,?_];apply aM (λc=>?_) (λc=>?_)
   ·have c:¬q.1∈gv:=by simpa using c
    apply#[_,Z,_,Z,_,_,Z,Z,_,Z,?_];apply aM (λc2=>?_) (λc2=>?_)
    ·have c2:q.2.1<=left:=by simpa using c2
     apply#[_,Z,v,CS,dx,_,_,Z,xP,TS.cl,TS.nW,g9 _ _ _ _,g,Pa,_,Z,g1',U8,_,Z,_,Z,_,Z,g,p,.str q.1,.str a,.str b,some q.1,some a,some b,hs,ts,qs,fp,Z,G',W.nd,W.Gd.BF,Z,.inl #[q,hq,Z,Z,Z,λH3 s3=>#[_,Z,?_]]];apply aM (λc3=>?_) (λc3=>?_)
     ·have pt:(il hs ts qs gv a b q.1&&decide (d6 qs q.1<=left))=true:=by
       unfold il pL;rw[ew,ey,cw c2,dR c];simpa using c3
      rw[aA pt,ew] at eq;apply#[_,Z,.inl #[Z,_,.of (s3 _ _ DR)],_,Z,_,Z,_,Z,zl,λt nt=>?_];let#[s4,e4]:=aB (o:=.tup [.str q.1,.str a,.str b]) nt;generalize upd H3 t (.tup [.str q.1,.str a,.str b])=H4 at s4 e4 ⊢;let eY:=s3.trans s4;let Oq:=eY _ _ DR;apply#[lm,_,_,Z,Z,Oq,by omega,?_];dsimp only;apply#[_,Z,_,Z,_,_,Z,Z,?_];lk;apply#[_,_,_,ys++[.ref t],ns++[q.1],Z,λb' o e=>?_,az,?_,?_,?_]
      ·rw[au (bx e Lg)];exact eY _ _ (sm _ _ e)
      ·rw[b_,b_];exact iT (Es (tu.same eY) e4) Oq
      ·rw[dY];show ns.length+1<=i+1;omega
      ·rw[Fk];exact eq
     ·apply go s3 ?_;unfold il pL;have c3:J_ hs ts q.2.2 (some a) (some b)=false:=by simpa using c3
      rw[ey,c3,AQ,By]
    ·apply go (aa.refl H') ?_;have c2:¬q.2.1<=left:=by simpa using c2
     rw[ew,dR c2,AQ]
   ·have c:q.1∈gv:=by simpa using c
    apply go (aa.refl H') ?_;unfold il;rw[cw c];rfl
  ·rintro σ H' ⟨v7,v8,left,ys,ns,rfl,sm,DR,tu,ln,eq⟩;rw[ak,List.drop_length,eU,gK] at eq;apply#[_,Z,k lm ys H' sm Lg DR ?_];unfold FI;rw[<- eq];exact tu
end
def Bq(hs:Xa)(ts:Xb)(qs:aC)(f:ai)(h:Str):gX->ae->gX
 |ms,[]=>ms
 |ms,o::l=>if 0<xm hs qs f h o then Bq hs ts qs f h (ms++FI hs ts qs f (ms.map (·.1)) h o) l else Bq hs ts qs f h ms l
def KY(hs:Xa)(ts:Xb)(qs:aC)(f:ai)(h:Str):gX:=Bq hs ts qs f h [] (nb hs ts h)
def LW:IH:=λ_ hs ts qs f h=>KY hs ts qs f h
theorem V3{hs:Xa}{ts:Xb}{qs:aC}{f:ai}(W:Wd hs ts qs f){h:Str}:∀(l:ae) (ms:gX),(Bq hs ts qs f h ms l).length<=ms.length+63 * l.length
 |[],ms=>bo _
 |o::l,ms=>by
  rw[Bq,iE];split
  ·let h1:=V3 W (h:=h) l (ms++FI hs ts qs f (ms.map (·.1)) h o);let h2:=_V W (ms.map (·.1)) h o;rw[dY] at h1;omega
  ·let h1:=V3 W (h:=h) l ms;omega
theorem gJ_(r:Rl)(hs:Xa)(ts:Xb)(qs:aC)(f:ai)(h:Str)(W:Wd hs ts qs f):(LW r hs ts qs f h).length<=1000:=by
 unfold LW KY;let h1:=V3 W (h:=h) (nb hs ts h) [];let h3:=Ii hs ts h;let h4:=W.Gd.fw;let h5:=W.Gd.h8;rw[zD] at h1;omega
variable{CG CS CW:Addr}
section
variable{P:Ad}{w:Af}{K:af}{mg:Str->Option Aa}{base:Heap}
theorem R7:bD ["sight","hand","moves","other","given"] ["sight","hand"] (bb Xj):=bJ
inductive XG (K:af) (CS CG CW:Addr) (vs:ag) (H:Hp) (Q:VK) (E:XK):Prop
 |mk:∀(v g p:Addr) (h:Str) (hs:Xa) (ts:Xb) (qs:aC) (fp:ay) (f:ai),vs=[.ref v,.str h]->ja K CS CG CW H v g p hs ts qs fp f->Wd hs ts qs f->h∈aI hs->(∀l ys H',aa H H'->H l=none->H' l=some (.lst ys)->bg K H' ys ((KY hs ts qs f h).map kM)->Q (.ref l) H')->XG K CS CG CW vs H Q E
theorem fk_(F:bp K "moves_by_shares" "moves_by_shares" Xj f0 fd)(TS:gP K CS)(TG:eE K CG)(TW:Txt K mg CW)(cN:!bB CW 2 "neighbours" vL (RH K CW))(cL:!bB CS 3 "lead" xU (LN K CS CG CW))(cH:!bt 4 "share_moves" ["sight","one","other","given"] (Ct K CS CG CW)):!aj ba 5 f0 fd ["sight","hand"] (XG K CS CG CW):=by
 apply F.bI R7 λaR A outer s H vs Q E hr h=>?_
 ·let#[v,g,p,h,hs,ts,qs,fp,f,rfl,S,W,hh,k]:=h;let sz:=ck;have DP:aY 2 _:=hr.mono (by decide);have Ob:aY 3 _:=hr.mono (by decide);refine' #[_,aq ?s1 (aq ?s2 (aH ?s3)),?kk]
  case s1=>exact aX 2 R7.nd (cK aE)
  case' s2=>refine' eF dX Z (dE (fL cN TW.cl DP (dW (dW (pv 0) Z) Z) %[1|0])) (cj 3 R7.nd) (aH (bN ?t1 (aq ?b1 (aH ?b2)) bP))
  case t1=>exact cz BU (fL cL TS.cl Ob (pv 0) %[1,3|0]) aK
  case b1=>exact RG (i:=4) ["move"] 1 [] R7.nd Z (Or.inl Z) (dE (pv 2)) (λfp s H=>eZ (i:=0) (show (["move"]:ae).Nodup by decide +kernel) Z (Or.inl Z)) (λfp s H=>iH) (λfp s H=>bO (JJ (K:=K) wO eJ) (pv 0) aK)
  case b2=>exact h_ (gI h9 PySem.F.slot_list_extend PySem.F.type_list_extend P6 (pv 2) %[bf cH hr %[0,1,3,4|0]|0])
  case s3=>exact bj (pv 2)
  have n8:(aI hs).length<=8:=by have:=W.Gd.fw;have:=W.Gd.h8;omega
  apply#[zl,λlm nm=>?_];lk;let#[s1,e1]:=aB (o:=.lst []) nm;generalize upd H lm (.lst [])=H1 at s1 e1 ⊢;let#[dx,dl,dv,dp,ad,h1,G,h3,h4,h5,h6]:=(S.same s1).ex;let#[pX,dw,dy,vs,cq,g1,g2,_]:=id G.ex;let#[fK,d1,l2,d3,vO,as,ef,w1,_]:=id g2.ex;have iz:(da d1 l2 d3).lookup ("neighbours":Str)=none:=je _ _ _ Z0 Z0 Z0;apply#[_,Z,v,CS,dx,_,_,Z,h1,TS.cl,TS.nW,g9 _ _ _ _,g,CG,pX,_,_,Z,g1,TG.cl,TG.nW,zx _ _ _,p,fK,_,Z,w1,iz,_,Z,p,h,hs,ts,cq,Z,g2,W.Gd.BF,(gf hs).mem_iff.mp hh,λl1 n1=>?_];let#[s2,e2]:=aB (o:=.lst ((nb hs ts h).map V.str)) n1;have QK:lm≠l1:=bx e1 n1;let ia:=s1.trans s2;generalize upd H1 l1 (.lst ((nb hs ts h).map V.str))=H2 at s2 e2 ia ⊢;have gQ:∀x∈nb hs ts h,x∈aI hs:=λx hx=>OI hx
  have ll:(nb hs ts h).length<=8:=by
   have:=Ii hs ts h;omega
  let aQ:bL:=λi σ H'=>∃(v3 v4:aJ) (ys:ag) (ms:gX),σ=[some (.ref v),some (.str h),some (.ref lm),v3,v4]/\aa H H'/\H' l1=some (.lst ((nb hs ts h).map V.str))/\H' lm=some (.lst ys)/\bg K H' ys (ms.map kM)/\ms.length<=63 * i/\Bq hs ts qs f h ms ((nb hs ts h).drop i)=KY hs ts qs f h
  apply#[l1,Z,#[_,.of e2],fW (K:=K) (a:=l1) (xs:=(nb hs ts h).map V.str) aQ #[none,none,[],[],Z,ia,e2,s2 _ _ e1,.nil,bo _,Z] (λi σ H' _ ⟨_,_,_,_,_,_,z,_⟩=>.of z) ?_ ?_]
  ·rintro i x σ H3 hx ⟨v3,v4,ys,ms,rfl,MN,l3,m3,t3,NB,eq3⟩;let#[o,ho,rfl]:=iG hx;have hi:i<(nb hs ts h).length:=(cc.mp ho).1;let om:=gQ o (cu ho);rw[VX ho] at eq3;let S3:=S.same MN;let#[WZ,_,_,_,_,k1,_]:=S3.ex;let ly:=bG t3;rw[ak] at ly;lk;apply#[_,Z,v,WZ,_,Z,k1,LA _ _ _ _ Z0 Z0 Z0 Z0,_,Z,_,Z,v,g,p,h,o,hs,ts,qs,fp,f,Z,S3,W,hh,om,_,_,Z,Z,_,Z,?_];apply aM (λc=>?_) (λc=>?_)
   ·have c:0<xm hs qs f h o:=by simpa using c
    have eq3:Bq hs ts qs f h (ms++FI hs ts qs f (ms.map (·.1)) h o) ((nb hs ts h).drop (i+1))=KY hs ts qs f h:=by
     rw[Bq,aA c] at eq3;exact eq3
    apply#[_,Z,lm,Z,#[_,.of m3],λD hD=>?_]
    let bH:dG:=λj out H'=>aa H3 H'/\H' D=some (.lst out)/\out=((ms.map (·.1)).take j).map V.str
    apply yd (own:=1) (fv:=[]) (xs:=ys) Z dP bH #[aa.new hD,az,Z] (λj out H' _ ⟨sm,_⟩=>.of (sm _ _ m3)) (λout H4 ⟨s4,d4,eo⟩=>?_) (λj x out H' hx ⟨sm,hd,eo⟩=>?_);rotate_left
    ·let#[q,hq,a,rfl,ha]:=qc t3 hx;have hj:j<ms.length:=(cc.mp hq).1;apply#[_,Z,Z,λNx hN=>dM ?_];apply#[_,Z,a,_,0,.str q.1,Z,Z,.of (sm _ _ ha),L2.iL (j:=0) Z,out,hd,?_,hN (out++[.str q.1]) _ #[fN sm hD,az,?_]]
     ·rw[eo,ak,cQ];omega
     ·rw[eo,eO (show (ms.map (·.1))[j]? = some q.1 by rw[dQ,hq];rfl),b_];rfl
    rw[ly,GM (by rw[ak];exact bo _)] at eo;subst eo;lk;let m4:=s4 _ _ m3;apply#[_,Z,.inl #[Z,_,.of m4],?_];apply#[_,Z,_,Z,_,Z,_,Z,v,g,p,D,h,o,ms.map (·.1),hs,ts,qs,fp,f,Z,S3.same s4,W,hh,om,d4,λl5 zs H5 s5 n5 e5 t5=>?_];let yV:=s4.trans s5;let m5:=yV _ _ m3;let lz:=bG t5;let hl:=_V W (ms.map (·.1)) h o;rw[ak] at lz;apply#[lm,l5,ys,zs,Z,Z,m5,e5,by omega,?_];apply#[_,_,ys++zs,ms++FI hs ts qs f (ms.map (·.1)) h o,Z,λb u e=>?_,?_,az,?_,?_,eq3]
    ·rw[au (bx e nm)];exact yV _ _ (MN _ _ e)
    ·rw[au QK.symm];exact yV _ _ l3
    ·rw[b_];exact vM (iT (t3.same yV) m5) (iT t5 m5)
    ·rw[dY];omega
   ·have c:¬0<xm hs qs f h o:=by simpa using c
    apply#[_,_,ys,ms,Z,MN,l3,m3,t3,by omega,?_];rw[Bq,ao c] at eq3;exact eq3
  ·rintro σ H3 ⟨v3,v4,ys,ms,rfl,MN,l3,m3,t3,NB,eq3⟩;rw[ak,List.drop_length] at eq3;apply#[_,Z,k lm ys H3 MN nm m3 ?_];rw[<- eq3];exact t3
theorem gx_(F:bp K "moves_from" "moves_from" Pk f0 fd)(cL:!bt 5 "moves_by_shares" ["sight","hand"] (XG K CS CG CW)):!aj ba 6 f0 fd EX (E3 K CS CG CW T (λr=>r.2.1="shares") LW):=by
 apply F.bI Xq λaR A outer s H vs Q E hr h=>?_
 ·let#[v,g,p,aw,h,hs,ts,qs,fp,f,r,ic,rfl,le,ha,S,W,hh,tab,k]:=h;refine' #[_,aq ?s0 (aq ?s1 (aH ?s2)),?kk]
  case s0=>exact bN (cz hV (bO eJ (pv 2) aK) bZ) fJ bP
  case s1=>exact bN (cz hV (bO eJ (pv 2) aK) bZ) fJ bP
  case s2=>exact bj (bf cL hr %[0,1|0])
  have ln:¬r.2.1="least":=by rw[le];decide +kernel
  have lb:¬r.2.1="below":=by rw[le];decide +kernel
  apply#[_,Z,aw,_,_,_,Z,Z,ha _,Z,Z,_,Z,?_];rw[B2,dR ln];apply bE ?_;apply#[_,Z,aw,_,_,_,Z,Z,ha _,Z,Z,_,Z,?_];rw[B2,dR lb];apply bE ?_;exact#[_,Z,_,Z,v,g,p,h,hs,ts,qs,fp,f,Z,S,W,hh,λl ys H' b n e tu=>k l ys H' (bc.of b) (tab.same b) n e tu]
end
def hit(t u:Str × Str):Bool:=(decide (u.1=t.1) || decide (u.2=t.1)) || (decide (u.1=t.2) || decide (u.2=t.2))
def cZ(rs:List Xb)(t:Str × Str):Nat:=rs.findIdx λr=>!r.any (hit t)
def x_(K:af)(H:Hp)(l:Addr)(as:ay)(rs:List Xb):Prop:=H l=some (.lst (as.map V.ref))/\Paired (λa r=>∃zs,H a=some (.lst zs)/\bg K H zs (r.map kT)) as rs
theorem x_.same{K:af}{H H':Hp}{l:Addr}{as:ay}{rs:List Xb}(h:x_ K H l as rs)(s:aa H H'):x_ K H' l as rs:=#[s _ _ h.1,Paired.bu h.2 λa r ⟨zs,e,t⟩=>#[zs,s _ _ e,t.same s]]
variable{f:Addr}
section
variable{P:Ad}{w:Af}{K:af}{mg:Str->Option Aa}{base:Heap}
theorem CH:bD ["rows","tie","place","row"] ["rows","tie"] (bb YG):=bJ
inductive Cu (K:af) (vs:ag) (H:Hp) (Q:VK) (E:XK):Prop
 |mk:∀(l t:Addr) (as:ay) (rs:List Xb) (tt:Str × Str),vs=[.ref l,.ref t]->x_ K H l as rs->H t=some (.tup ((kT tt).map kV))->(∀r∈rs,r.length<=1000)->(∀H',aa H H'->Q (.int (cZ rs tt)) H')->Cu K vs H Q E
theorem lC_(F:bp K "first_row_without" "first_row_without" YG f fd)(B:Bi mg):!aj ba 1 f fd ["rows","tie"] (Cu K):=by
 apply F.bI CH λaR A outer s H vs Q E hr h=>?_
 ·let#[l,t,as,rs,tt,rfl,R,ht,HI,k]:=h;let sz:=ck
  apply#[_,aq (eF dX Z (h8_ (by rfl) B.enum %[0|0]) (xk Z (dZ (cj 2 CH.nd) (dZ (cj 3 CH.nd) jf)))
    (aH (bN (gZ (fR (cy (fK_ Z) (by rfl) B.any PyProof.Rows.Boot.«any» (di
     (iS ["there","tie"] 1 [1] (dE (pv 3)) (λfp s H=>eZ (i:=0) (show (["there","tie"]:ae).Nodup by decide +kernel) Z (Or.inl Z)) (λfp s H=>iH)
      (λfp s H=>Lz (iR (Lc (K:=K) (λK=>La K false) RQ) (bO (JJ (K:=K) wO eJ) (pv 1) aK) (pv 0) (by with_unfolding_all rfl)) (AO (iR (Lc (K:=K) (λK=>La K false) RQ) (bO (JJ (K:=K) wO eJ) (pv 1) aK) (pv 0) (by with_unfolding_all rfl))))) aE)))) (aH (bj (pv 2))) bP)))
   (aH (bj (cy xo (by rfl) B.len i4 %[0|0]))),?_]
  let la:=bG R.2
  let aQ:bL:=λi σ H2=>∃(v2 v3:aJ),σ=[some (.ref l),some (.ref t),v2,v3]/\aa H H2/\∀r∈rs.take i,r.any (hit tt)=true
  apply#[_,Z,l,Z,#[_,.of R.1],fW_ (K:=K) (a:=l) (xs:=as.map V.ref) aQ #[none,none,Z,aa.refl H,by simp] (λi σ H2 _ ⟨_,_,_,s2,_⟩=>.of (s2 _ _ R.1)) ?_ ?_]
  ·rintro i x σ H2 hx ⟨v2,v3,rfl,s2,past⟩ u hu
   have hi:i<as.length:=by
    have:=(cc.mp hx).1;rwa [ak] at this
   have ex:x=.ref as[i]:=by
    rw[dQ,dq hi] at hx;exact (ee hx).symm
   subst ex;have QR:i<rs.length:=by omega
   let#[zs,_P,tz]:=hZ R.2 i hi QR;have s3:aa H (upd H2 u (.tup [.int i,.ref as[i]])):=s2.trans (aa.new hu);have UV:upd H2 u (.tup [.int i,.ref as[i]]) u=some (.tup [.int i,.ref as[i]]):=az;generalize upd H2 u (.tup [.int i,.ref as[i]])=H3 at s3 UV ⊢;apply#[u,_,Z,.of UV,Z,_,_,Z,_,_,Z,Z,?_];apply#[_,Z,as[i],Z,#[_,.of (s3 _ _ _P)],λD hD=>?_];let lz:=bG tz;rw[ak] at lz;let lr:=HI rs[i] (jg QR)
   let bH:dG:=λj out H'=>aa H3 H'/\H' D=some (.lst out)/\out=((rs[i].take j).map (hit tt)).map V.bl
   apply yd (own:=1) (fv:=[some (.ref t)]) (xs:=zs) Z dP bH #[aa.new hD,az,Z] (λj out H' _ ⟨sm,_,_⟩=>.of (sm _ _ (s3 _ _ _P))) (λout H4 ⟨s4,Bo,eo⟩=>?_) (λj y out H' hy ⟨sm,eI,eo⟩=>?_)
   ·rw[lz,dJ] at eo;subst eo;apply#[D,rs[i].map (hit tt),Z,.of Bo,#[_,Z,?_]];have D4:(rs[i].map (hit tt)).any id=rs[i].any (hit tt):=by rw[List.any_map];rfl
    apply aM (λc=>?_) (λc=>?_)
    ·have c:rs[i].any (hit tt)=false:=by
      have:(!(rs[i].map (hit tt)).any id)=true:=c;rw[D4] at this;simpa using this
     have e:cZ rs tt=i:=by
      unfold cZ;rw[List.findIdx_eq QR];apply#[by rw[c];rfl,λj hj=>?_];have:=past (rs[j]' Z1) (List.mem_iff_getElem?.mpr #[j,by rw[List.getElem?_take_of_lt hj,dq Z1]]);rw[this];rfl
     apply#[_,Z,?_];have:=k H4 (s3.trans s4);rw[e] at this;exact this
    ·have c:rs[i].any (hit tt)=true:=by
      have:¬(!(rs[i].map (hit tt)).any id)=true:=c;rw[D4] at this;simpa using this
     apply#[_,_,Z,s3.trans s4,λr hr=>?_];rw[iF,dq QR] at hr;rcases fM.mp hr with hr|hr
     ·exact past r hr
     ·obtain rfl:r=rs[i]:=by simpa using hr
      exact c
   ·let#[q,hq,a,rfl,ha]:=qc tz hy;let ON:=sm _ _ (s3 _ _ (EM ha));let N9:=sm _ _ (s3 _ _ (EM ht))
    have lo:out.length<sizeLine:=by
     rw[eo,ak,ak,cQ];omega
    apply#[_,Z,Z,λNx hN=>dM ?_];have nx:Nx (upd H' D (.lst (out++[.bl (hit tt q)]))):=hN _ _ #[fN sm hD,az,by rw[Iz _ hq,b_,eo];rfl];apply#[_,Z,t,_,_,_,Z,Z,.of N9,Z,_,Z,a,_,Z,.inr (.of ON),Z,Z,_,Z,?_];apply aM (λc=>?_) (λc=>?_)
    ·have c:(decide (q.1=tt.1) || decide (q.2=tt.1))=true:=by rw[<- LO];exact c
     apply#[out,eI,lo,?_];rwa [show hit tt q=true by unfold hit;rw[c];rfl] at nx
    ·have c:(decide (q.1=tt.1) || decide (q.2=tt.1))=false:=by
      rw[<- LO];simpa using c
     apply#[_,Z,t,_,_,_,Z,Z,.of N9,Z,_,Z,a,_,Z,.inr (.of ON),Z,Z,out,eI,lo,?_];rw[show hit tt q=Ll (.str tt.2) [.str q.1,.str q.2] by unfold hit;rw[c,Bool.false_or,LO]] at nx;exact nx
  ·rintro σ H2 ⟨v2,v3,rfl,s2,past⟩;rw[ak,la,dJ] at past;apply#[_,Z,l,_,Z,.inl (.of (s2 _ _ R.1)),?_]
   have e:cZ rs tt=rs.length:=by
    unfold cZ;rw[List.findIdx_eq_length];intro r hr;rw[past r hr];rfl
   have:=k H2 s2;rw[e] at this;rw[ak,la];exact this
end
abbrev yG:Stmt:=vH pI 8
theorem RZ{α β:Type}{F:α->β->Prop}:∀{l:List α} {m:List β},l.length=m.length->(∀(i:Nat) (h1:i<l.length) (h2:i<m.length),F l[i] m[i])->Paired F l m
 |[],[],_,_=>.nil
 |[],_::_,h,_=>by cases h
 |_::_,[],h,_=>by cases h
 |a::l,b::m,h,f=>.cons (f 0 Z2 Z2) (RZ (by simpa using h) λi h1 h2=>f (i+1) (by simpa using h1) (by simpa using h2))
def gG(rs:List Xb)(t:Str × Str):List Xb:=if h:cZ rs t<rs.length then rs.set (cZ rs t) (rs[cZ rs t]++[t]) else rs++[[t]]
def turnsOf(ts:Xb):List Xb:=ts.foldl gG []
theorem fU_(rs:List Xb)(t:Str × Str):cZ rs t<=rs.length:=List.findIdx_le_length
theorem So(rs:List Xb)(t:Str × Str):(gG rs t).length<=rs.length+1:=by
 unfold gG;split
 ·rw[List.length_set];omega
 ·rw[dY];exact bo _
variable{t:Str × Str}{rs:List Xb}
theorem Sv{n:Nat}(h:∀r∈rs,r.length<=n):∀r∈gG rs t,r.length<=n+1:=by
 unfold gG;intro r hr;split at hr
 ·rename_i dc
  rcases List.mem_or_eq_of_mem_set hr with m|rfl
  ·have:=h r m;omega
  ·have:=h rs[cZ rs t] (jg dc);rw[dY];show rs[cZ rs t].length+1<=n+1;omega
 ·rcases fM.mp hr with m|m
  ·have:=h r m;omega
  ·obtain rfl:r=[t]:=by simpa using m
   simp
theorem x_.add{K:af}{H H':Hp}{l a:Addr}{as:ay}{zs:ag}(h:x_ K H l as rs)(nd:as.Nodup){p:Nat}(hp:p<rs.length)(ha:as[p]? = some a)(hl:H' l=some (.lst (as.map V.ref)))(hz:H' a=some (.lst zs))(tz:bg K H' zs ((rs[p]++[t]).map kT))(k:∀b o,H b=some o->b≠l->b≠a->H' b=some o)(hla:∀b∈as,b≠l)(kt:∀b xs,H b=some (.tup xs)->H' b=some (.tup xs)):x_ K H' l as (rs.set p (rs[p]++[t])):=by
 let la:=bG h.2;apply#[hl,RZ (by rw[List.length_set,la]) λi h1 h2=>?_];rw[List.length_set] at h2;let#[BJ,ea]:=cc.mp ha;by_cases e:p=i
 ·subst e;rw[List.getElem_set_self,ea];exact#[zs,hz,tz]
 ·rw[List.getElem_set_ne e];let#[Mj,e2,t2]:=hZ h.2 i h1 h2;have ne:as[i]≠a:=λq=>e ((List.getElem_inj nd).mp (ea.trans q.symm));exact#[Mj,k _ _ e2 (hla _ (jg h1)) ne,Paired.bu t2 λy q ⟨c,z,e⟩=>#[c,z,kt _ _ e]]
theorem d8_{α β:Type}{F:α->β->Prop}{l:List α}{m:List β}{a:α}{b:β}(h:Paired F l m)(f:F a b):Paired F (l++[a]) (m++[b]):=Paired.snoc h f
section
variable{P:Ad}{w:Af}{K:af}{mg:Str->Option Aa}{base:Heap}
theorem RK:bD ["self","rows","tie","place"] ik (bb yG):=bJ
inductive RB (K:af) (C:Addr) (vs:ag) (H:Hp) (Q:VK) (E:XK):Prop
 |mk:∀(p:Addr) (hs:Xa) (ts:Xb) (fp:ay),vs=[.ref p]->gn K C H p hs ts fp->ts.length<64->(∀(l:Addr) (as:ay) (H':Hp),aa H H'->H l=none->(∀a∈as,H a=none)->(∀a∈as,a≠l)->as.Nodup->x_ K H' l as (turnsOf (aD ts))->Q (.ref l) H')->RB K C vs H Q E
theorem iU_{C:Addr}(F:bp K "turns" "Web.turns" yG f fd)(B:Bi mg)(T:Txt K mg C)(cT:!bB C 2 "ties" ik (Wa K C))(cR:!bt 1 "first_row_without" ["rows","tie"] (Cu K)):!aj ba 3 f fd ik (RB K C):=by
 apply F.bI RK λaR A outer s H vs Q E hr h=>?_
 ·let#[p,hs,ts,fp,rfl,W,dm,k]:=h;let sz:=ck;let#[dx,d1,l2,d3,vO,as0,efp,h1,_]:=id W.ex;have noT:(da d1 l2 d3).lookup ("ties":Str)=none:=je _ _ _ Z0 Z0 Z0
  apply#[_,aq (aX 1 RK.nd (cK aE))
   (aq (eF dX Z (dE (GC cT T.cl hr (pv 0))) (cj 2 RK.nd)
    (aq (aX 3 RK.nd (bf cR hr %[1,2|0]))
    (aq (bN (cz hV (pv 3) (cy xo (by rfl) B.len i4 %[1|0]))
     (aH (h_ (gI h9 xY xZ xp (pv 1) %[cK aE|0]))) bP)
    (aH (h_ (gI h9 xY xZ xp (bO gg (pv 1) (pv 3)) %[2|0]))))))
   (aH (bj (pv 1)))),?_]
  apply#[zl,λlr U_=>?_];have s0:aa H (upd H lr (.lst [])):=aa.new U_;have Gc:upd H lr (.lst []) lr=some (.lst []):=az;generalize upd H lr (.lst [])=H0 at s0 Gc ⊢;apply#[_,Z,p,dx,_,Z,s0 _ _ h1,noT,p,hs,ts,fp,Z,W.same s0,dm,λlt zs H1 s1 dc Ol tz=>?_];have nlt:lt≠lr:=(bx Gc dc).symm;let lz:=bG tz;rw[ak,Il] at lz;let F7:=Il ts
  let aQ:bL:=λi σ H2=>∃(v2 v3:aJ) (as:ay),σ=[some (.ref p),some (.ref lr),v2,v3]/\bc lr H1 H2/\(∀a∈as,H1 a=none/\a≠lr)/\as.Nodup/\x_ K H2 lr as (turnsOf ((aD ts).take i))/\(turnsOf ((aD ts).take i)).length<=i/\∀r∈turnsOf ((aD ts).take i),r.length<=i
  apply#[lt,Z,#[_,.of Ol],fW (K:=K) (a:=lt) (xs:=zs) aQ
   #[none,none,[],Z,bc.refl _ _,by simp,.nil,#[s1 _ _ Gc,.nil],bo _,by intro r hr;simp[turnsOf] at hr] (λi σ H2 _ ⟨_,_,_,_,b,_⟩=>.of (b _ _ Ol nlt)) ?_ ?_]
  ·rintro i y σ H2 hy ⟨v2,v3,as,rfl,b2,fa,nd,R,l1,Lk⟩;let#[t,ht,a,rfl,ha]:=qc tz hy;have hi:i<(aD ts).length:=(cc.mp ht).1;let U9:=s1 _ _ Gc;have nal:a≠lr:=cU ha U9 nofun;let ES:=b2 _ _ ha nal;let la:=bG R.2
   have EU:turnsOf ((aD ts).take (i+1))=gG (turnsOf ((aD ts).take i)) t:=by
    unfold turnsOf;rw[iF,ht,List.foldl_append];rfl
   generalize turnsOf ((aD ts).take i)=rs at R l1 Lk la EU;apply#[_,Z,_,Z,lr,a,as,rs,t,Z,R,ES,λr hr=>by have:=Lk r hr;omega,λH3 s3=>?_];let R3:=R.same s3;let BM:=s3 _ _ ES;have b3:bc lr H1 H3:=b2.trans (bc.of s3);have f3:∀a∈as,H1 a=none/\a≠lr:=fa;apply#[_,Z,_,Z,lr,_,Z,.inl (.of R3.1),Z,_,Z,?_];apply aM (λc=>?_) (λc=>?_)
   ·have c:cZ rs t=rs.length:=by
     have:V.int (cZ rs t)=V.int ((as.map V.ref).length:Nat):=by simpa using c
     rw[ak,la] at this;have:=V.int.inj this;omega
    apply#[_,Z,.inl #[Z,_,.of R3.1],zl,λln AF=>?_];let#[s4,Va]:=aB (o:=.lst []) AF;have BG:ln≠lr:=(bx R3.1 AF).symm;apply#[lr,_,_,Z,Z,s4 _ _ R3.1,by rw[ak];omega,?_]
    have VW:H1 ln=none:=by
     cases z:H1 ln with
     |none=>rfl
     |some o=>
      have:=b3 _ _ z BG;rw[AF] at this;cases this
    have Np:ln∉as:=λm=>by
     let#[j,hj,e]:=BB m;let#[zz,e2,_]:=hZ R3.2 j hj Z1;rw[e,AF] at e2;cases e2
    have GL:gY (as.map V.ref++[V.ref ln]) (cZ rs t:Int)=some (.ref ln):=by
     rw[iL Z1 (by rw[dY,ak];show ((cZ rs t:Nat):Int)<((as.length+1:Nat):Int);omega),Io,c,IC (by rw[ak];omega),ak,la,Nat.sub_self];rfl
    have JW:upd (upd H3 ln (.lst [])) lr (.lst (as.map V.ref++[.ref ln])) lr=some (.lst (as.map V.ref++[.ref ln])):=az;have JX:upd (upd H3 ln (.lst [])) lr (.lst (as.map V.ref++[.ref ln])) ln=some (.lst []):=by rw[au BG];exact Va
    have k5:∀{b o},H3 b=some o->b≠lr->upd (upd H3 ln (.lst [])) lr (.lst (as.map V.ref++[.ref ln])) b=some o:=λe ne=>by rw[au ne];exact s4 _ _ e
    generalize upd (upd H3 ln (.lst [])) lr (.lst (as.map V.ref++[.ref ln]))=H5 at JW JX k5 ⊢;apply#[_,Z,_,Z,lr,_,_,_,Z,Z,.of JW,GL,.inl #[Z,_,.of JX],_,Z,ln,_,_,Z,Z,JX,by show 0<sizeLine;decide,?_];have k6:∀{b o},H3 b=some o->b≠lr->upd H5 ln (.lst ([]++[.ref a])) b=some o:=λe ne=>by rw[au (bx e AF)];exact k5 e ne
    have Oo:upd H5 ln (.lst ([]++[.ref a])) ln=some (.lst [.ref a]):=az;have On:upd H5 ln (.lst ([]++[.ref a])) lr=some (.lst (as.map V.ref++[.ref ln])):=by rw[au BG.symm];exact JW
    generalize upd H5 ln (.lst ([]++[.ref a]))=H6 at k6 Oo On ⊢;have kt:∀b xs,H3 b=some (.tup xs)->H6 b=some (.tup xs):=λb xs e=>k6 e (cU e R3.1 nofun)
    have ep:gG rs t=rs++[[t]]:=by
     unfold gG;rw[dif_neg Z1]
    apply#[_,_,as++[ln],Z,λb o e ne=>k6 (b3 _ _ e ne) ne,λx hx=>?_,?_,?_,?_,?_]
    ·rcases fM.mp hx with m|m
     ·exact fa x m
     ·obtain rfl:x=ln:=by simpa using m
      exact#[VW,BG]
    ·rw[List.nodup_append]
     exact#[nd,by simp,λx hx z hz=>by
      obtain rfl:z=ln:=by simpa using hz
      exact λq=>Np (q▸hx)]
    ·rw[EU,ep];apply#[by rw[b_];exact On,d8_ (RZ la λj h1 h2=>?_) #[_,Oo,.cons #[a,Z,kt _ _ BM] .nil]];let#[zz,e,tt]:=hZ R3.2 j h1 h2;exact#[zz,k6 e (fa _ (jg h1)).2,Paired.bu tt λy q ⟨c,z,e⟩=>#[c,z,kt _ _ e]]
    ·rw[EU];have:=So rs t;omega
    ·rw[EU];exact Sv Lk
   ·have c:cZ rs t<rs.length:=by
     let h1:=fU_ rs t
     have:¬cZ rs t=rs.length:=λe=>c (by
      rw[ak,la,e];simp)
     omega
    have BJ:cZ rs t<as.length:=by omega
    have nl:as[cZ rs t]≠lr:=(fa _ (jg BJ)).2;let#[zz,ez,Mo]:=hZ R3.2 (cZ rs t) BJ c;let Um:=bG Mo;rw[ak] at Um;let Uq:=Lk _ (jg c)
    have GL:gY (as.map V.ref) (cZ rs t:Int)=some (.ref as[cZ rs t]):=by
     rw[iL Z1 (by rw[ak];omega),Io,dQ,dq BJ];rfl
    apply#[_,Z,_,Z,lr,_,_,_,Z,Z,.of R3.1,GL,.inl #[Z,_,.of ez],_,Z,_,_,_,Z,Z,ez,by omega,?_];have k6:∀{b o},H3 b=some o->b≠as[cZ rs t]->upd H3 as[cZ rs t] (.lst (zz++[.ref a])) b=some o:=λe ne=>by rw[au ne];exact e
    have h6:upd H3 as[cZ rs t] (.lst (zz++[.ref a])) as[cZ rs t]=some (.lst (zz++[.ref a])):=az;generalize upd H3 as[cZ rs t] (.lst (zz++[.ref a]))=H6 at k6 h6 ⊢;have kt:∀b xs,H3 b=some (.tup xs)->H6 b=some (.tup xs):=λb xs e=>k6 e (cU e ez nofun)
    have ep:gG rs t=rs.set (cZ rs t) (rs[cZ rs t]++[t]):=by
     unfold gG;rw[dif_pos c]
    apply#[_,_,as,Z,λb o e ne=>k6 (b3 _ _ e ne) (bx e (fa _ (jg BJ)).1),fa,nd,?_,?_,?_]
    ·rw[EU,ep];apply R3.add nd c (dq BJ) (k6 R3.1 nl.symm) h6 ?_ (λb o e _ ne=>k6 e ne) (λb hb=>(fa b hb).2) kt;rw[b_];exact Es (Paired.bu Mo λy q ⟨c,z,e⟩=>#[c,z,kt _ _ e]) (kt _ _ BM)
    ·rw[EU];have:=So rs t;omega
    ·rw[EU];exact Sv Lk
  ·rintro σ H2 ⟨v2,v3,as,rfl,b2,fa,nd,R,_,_⟩;rw[lz,<- F7,dJ] at R;have s2:aa H H2:=λb o e=>b2 _ _ (s1 _ _ (s0 _ _ e)) (bx e U_);exact#[_,Z,k lr as H2 s2 U_ (λa ha=>(s0.trans s1).free (fa a ha).1) (λa ha=>(fa a ha).2) nd R]
end
end Ev
namespace L2
open PySem PyProof.Rows
inductive y_ (K:af) (x:V) (y:V) (H:Hp) (Q:VK):Prop
 |mk:∀a b xs,x=.ref a->y=.ref b->d9 K H a xs->d9 K H b []->Q (.bl xs.isEmpty) H->y_ K x y H Q
variable{X:Cx}
theorem fy_(hu:X.A.units+0+1<cLine):eG X (compareOp .Eq) (y_ X.K):=by
 intro pins s σ H x y v u Q I rx ry h;let#[a,b,xs,rfl,rfl,t,t',hq]:=h;cases xs with
 |nil=>exact _B fH hu pins s σ H (.ref a) (.ref b) v u Q I rx ry #[[],[],#[a,[],Z,t,.nil],#[b,[],Z,t',.nil],hq]
 |cons z zs=>
  cases rx;cases ry;let#[us,r,pl,_]:=I.list t;let#[vs,r',FY,_]:=I.list t';let l1:=r.length;let l2:=r'.length;exact SeqAt.eq_list_lengthsAt pl.isList FY.isList (by simp only[dD,bne_iff_ne];simp at l1 l2;omega) Z1 #[.bl false,H,I,Z,hq]
end L2
namespace Ev
open PySem L2
def gU(ts:Xb)(m:Int):Xb:=((turnsOf (aD ts))[(m % ((turnsOf (aD ts)).length:Int)).toNat]?).getD []
def Er(hs:Xa)(ts:Xb)(qs:aC)(f:ai)(gd:Str)(t:Str × Str):gX:=iK hs ts qs f gd [] t.1 t.2++iK hs ts qs f gd [] t.2 t.1
def Pj(hs:Xa)(ts:Xb)(qs:aC)(f:ai)(gd:Str)(m:Int):gX:=(gU ts m).flatMap (Er hs ts qs f gd)
variable{u:Str × Str}
theorem gE_{rs:List Xb}{t:Str × Str}{r:Xb}(hr:r∈gG rs t)(hu:u∈r):u=t∨∃r'∈rs,u∈r':=by
 unfold gG at hr;split at hr
 ·rename_i dc
  rcases List.mem_or_eq_of_mem_set hr with m|rfl
  ·exact .inr #[r,m,hu]
  ·rcases fM.mp hu with h|h
   ·exact .inr #[_,jg dc,h]
   ·exact .inl (by simpa using h)
 ·rcases fM.mp hr with m|m
  ·exact .inr #[r,m,hu]
  ·obtain rfl:r=[t]:=by simpa using m
   exact .inl (by simpa using hu)
theorem ew_{u:Str × Str}:∀(ts:Xb) (rs:List Xb) {r:Xb},r∈ts.foldl gG rs->u∈r->u∈ts∨∃r'∈rs,u∈r'
 |[],rs,r,hr,hu=>.inr #[r,hr,hu]
 |t::ts,rs,r,hr,hu=>by
  rw[List.foldl_cons] at hr;rcases ew_ ts (gG rs t) hr hu with h|⟨r',h1,h2⟩
  ·exact .inl (dF _ h)
  ·rcases gE_ h1 h2 with rfl|h
   ·exact .inl c8
   ·exact .inr h
theorem R6:∀(ts:Xb) (rs:List Xb),(ts.foldl gG rs).length<=rs.length+ts.length
 |[],rs=>bo _
 |t::ts,rs=>by
  rw[List.foldl_cons,iE];let h1:=R6 ts (gG rs t);let h2:=So rs t;omega
theorem ev_{n:Nat}:∀(ts:Xb) (rs:List Xb),(∀r∈rs,r.length<=n)->∀r∈ts.foldl gG rs,r.length<=n+ts.length
 |[],rs,h,r,hr=>h r hr
 |t::ts,rs,h,r,hr=>by
  rw[List.foldl_cons] at hr;have:=ev_ (n:=n+1) ts (gG rs t) (Sv h) r hr;rw[iE];omega
theorem Yh{ts:Xb}{m:Int}(h:u∈gU ts m):u∈aD ts:=by
 unfold gU at h;cases e:(turnsOf (aD ts))[(m % ((turnsOf (aD ts)).length:Int)).toNat]? with
 |none=>rw[e] at h;cases h
 |some r=>
  rw[e] at h;rcases ew_ (aD ts) [] (cu e) h with z|⟨_,z,_⟩
  ·exact z
  ·cases z
theorem d9_{hs:Xa}{ts:Xb}(G:Good hs ts)(m:Int):(gU ts m).length<64:=by
 unfold gU;cases e:(turnsOf (aD ts))[(m % ((turnsOf (aD ts)).length:Int)).toNat]? with
 |none=>show 0<64;decide
 |some r=>
  have:=ev_ (n:=0) (aD ts) [] Z2 r (cu e);rw[Il] at this;have:=G.wC;show r.length<64;omega
theorem Xt{hs:Xa}{ts:Xb}(G:Good hs ts)(h:u∈aD ts):u.1∈aI hs/\u.2∈aI hs:=by
 have k:kT u∈(aD ts).map kT:=bh.mpr #[u,h,Z];rw[P7,(yb _).mem_iff] at k;let#[t,ht,e]:=bh.mp k;let e:=OZ e;let#[h1,h2]:=G.A6 t ht;let n1:=(gf hs).mem_iff.mpr h1;let n2:=(gf hs).mem_iff.mpr h2;rw[<- e];unfold aL;split
 ·exact#[n1,n2]
 ·exact#[n2,n1]
theorem Xm{α β:Type}{g:α->List β}{n:Nat}(h:∀x,(g x).length<=n):∀l:List α,(l.flatMap g).length<=n * l.length
 |[]=>gx _
 |a::l=>by
  let h1:=h a;let h2:=Xm h l;rw[Fj,dY,iE,Nat.mul_succ];omega
theorem dB_(hs:Xa)(ts:Xb)(qs:aC)(f:ai)(gd:Str)(t:Str × Str):(Er hs ts qs f gd t).length<=2:=by
 unfold Er;rw[dY];let h1:=KO hs ts qs f gd [] t.1 t.2;let h2:=KO hs ts qs f gd [] t.2 t.1;omega
variable{f0:Addr}
section
variable{P:Ad}{w:Af}{K:af}{mg:Str->Option Aa}{base:Heap}
theorem PL:bD ["sight","guard","moment","rows","moves","one","other"] ["sight","guard","moment"] (bb XF):=bJ
inductive Xk (K:af) (CS CG CW:Addr) (vs:ag) (H:Hp) (Q:VK) (E:XK):Prop
 |mk:∀(v g p:Addr) (gd:Str) (m:Int) (hs:Xa) (ts:Xb) (qs:aC) (fp:ay) (f:ai),vs=[.ref v,.str gd,.int m]->0<=m->ja K CS CG CW H v g p hs ts qs fp f->Wd hs ts qs f->(∀l ys H',aa H H'->H l=none->H' l=some (.lst ys)->bg K H' ys ((Pj hs ts qs f gd m).map kM)->Q (.ref l) H')->Xk K CS CG CW vs H Q E
theorem gi_{CS CG CW:Addr}{fd:Ae}(F:bp K "moves_by_turns" "moves_by_turns" XF f0 fd)(B:Bi mg)(TS:gP K CS)(TG:eE K CG)(TW:Txt K mg CW)(cT:!bB CW 3 "turns" ik (RB K CW))(cH:!bt 4 "heaviest_move" xu (wH K CS CG CW)):!aj ba 5 f0 fd ["sight","guard","moment"] (Xk K CS CG CW):=by
 apply F.bI PL λaR A outer s H vs Q E hr h=>?_
 ·let#[v,g,p,gd,m,hs,ts,qs,fp,f,rfl,m0,S,W,k]:=h;let sz:=ck;have Ob:aY 3 _:=hr.mono (by decide);refine' #[_,?r0,?kk]
  case' r0=>refine' aq ?s1 ?r1
  case' r1=>refine' aq ?s2 ?r2
  case' r2=>refine' aq ?s3 (aq ?s4 (aH ?s5))
  case s1=>exact aX 3 PL.nd (GC cT TW.cl Ob (dW (dW (pv 0) Z) Z))
  case s2=>exact bN (cz (fy_ (xV hr 0)) (pv 3) (cK aE)) (aH (bj (cK aE))) bP
  case s3=>exact aX 4 PL.nd (cK aE)
  case' s4=>refine' eF dX Z (dE (bO gg (pv 3) (bF El (pv 2) (cy xo (by rfl) B.len i4 %[3|0])))) (xk Z (dZ (cj 5 PL.nd) (dZ (cj 6 PL.nd) jf))) (aq ?b1 (aH ?b2))
  case b1=>exact h_ (gI h9 PySem.F.slot_list_extend PySem.F.type_list_extend P6 (pv 4) %[bf cH hr %[0,5,6,1,cK aE|0]|0])
  case b2=>exact h_ (gI h9 PySem.F.slot_list_extend PySem.F.type_list_extend P6 (pv 4) %[bf cH hr %[0,6,5,1,cK aE|0]|0])
  case s5=>exact bj (pv 4)
  let#[dx,dl,dv,dp,ad,h1,G,h3,h4,h5,h6]:=S.ex;let#[pX,dw,dy,vs,cq,g1,g2,_]:=id G.ex;let#[fK,d1,l2,d3,vO,as0,ef,w1,_]:=id g2.ex;have iz:(da d1 l2 d3).lookup ("turns":Str)=none:=je _ _ _ Z0 Z0 Z0;apply#[_,Z,v,CS,dx,_,_,Z,h1,TS.cl,TS.nW,g9 _ _ _ _,g,CG,pX,_,_,Z,g1,TG.cl,TG.nW,zx _ _ _,p,fK,_,Z,w1,iz,p,hs,ts,cq,Z,g2,W.Gd.wC,λlr as H1 s1 nr _ _ _ R=>?_];lk;let la:=bG R.2;apply#[_,Z,zl,λle ne=>?_];let#[fY,e2]:=aB (o:=.lst []) ne;generalize upd H1 le (.lst [])=H2 at fY e2 ⊢;let s2:=s1.trans fY;let R2:=R.same fY;apply#[lr,le,_,Z,Z,.of R2.1,.of e2,_,Z,?_];apply aM (λc=>?_) (λc=>?_)
  ·have z:as=[]:=by simpa using c
   have z:turnsOf (aD ts)=[]:=by
    rw[z] at la;exact Fo.mp la.symm
   apply#[zl,λl nl=>?_];apply k l [] _ (s2.trans (aa.new nl)) (s2.free nl) az ?_;unfold Pj gU;rw[z];exact .nil
  ·have z:as≠[]:=by simpa using c
   have pos:0<as.length:=List.length_pos_iff.mpr z;apply#[zl,λlm nm=>?_];lk;let#[pJ,e3]:=aB (o:=.lst []) nm;generalize upd H2 lm (.lst [])=H3 at pJ e3 ⊢;let s3:=s2.trans pJ;have Lg:H lm=none:=s2.free nm;let R3:=R2.same pJ
   have lt:(m % ((turnsOf (aD ts)).length:Int)).toNat<as.length:=by
    let h1:=GJ m (show ((as.length:Nat):Int)≠0 by omega);let h2:=ID m (show 0<((as.length:Nat):Int) by omega);rw[<- la];omega
   have lt':(m % ((turnsOf (aD ts)).length:Int)).toNat<(turnsOf (aD ts)).length:=by omega
   let#[zs,hz,tz]:=hZ R2.2 _ lt lt'
   have er:gU ts m=(turnsOf (aD ts))[(m % ((turnsOf (aD ts)).length:Int)).toNat]:=by
    unfold gU;rw[dq lt'];rfl
   rw[<- er] at tz;let lm63:=d9_ W.Gd m;have TN:∀u∈gU ts m,u.1∈aI hs/\u.2∈aI hs:=λu hu=>Xt W.Gd (Yh hu);let h0:=GJ m (show (((turnsOf (aD ts)).length:Nat):Int)≠0 by omega)
   have ix:gY (as.map V.ref) (m % ((as.map V.ref).length:Int))=some (.ref (as[(m % ((turnsOf (aD ts)).length:Int)).toNat])):=by
    rw[ak,la,iL h0 (by rw[ak];omega),dQ,dq lt];rfl
   generalize as[(m % ((turnsOf (aD ts)).length:Int)).toNat]=ar at hz ix;let lz:=bG tz;rw[ak] at lz;have YW:ar≠lm:=bx hz nm;replace hz:=pJ _ _ hz;replace tz:=tz.same pJ
   let aQ:bL:=λi σ H'=>∃(v5 v6:aJ) (ys:ag),σ=[some (.ref v),some (.str gd),some (.int m),some (.ref lr),some (.ref lm),v5,v6]/\aa H H'/\bc lm H3 H'/\H' lm=some (.lst ys)/\bg K H' ys ((((gU ts m).take i).flatMap (Er hs ts qs f gd)).map kM)
   apply#[_,Z,_,Z,_,Z,lr,_,Z,.inl (.of R3.1),_,_,Z,Z,by rw[ak];omega,lr,_,_,_,Z,Z,.of R3.1,ix,ar,Z,#[_,.of hz],fW (K:=K) (a:=ar) (xs:=zs) aQ #[none,none,[],Z,s3,bc.refl _ _,e3,.nil] (λi σ H' _ ⟨_,_,_,_,_,b,_⟩=>.of (b _ _ hz YW)) ?_ ?_]
   ·rintro i x σ H4 hx ⟨v5,v6,ys,rfl,s4,b4,m4,t4⟩;let#[u,hu,a,rfl,ha]:=qc tz hx;have hi:i<(gU ts m).length:=(cc.mp hu).1;let#[n1,n2]:=TN u (cu hu);have Vz:H4 a=some (.tup [.str u.1,.str u.2]):=b4 _ _ ha (cU ha e3 nofun);apply#[a,_,Z,.of Vz,Z,_,_,Z,_,_,Z,Z,?_];dsimp only;let ly:=bG t4;rw[ak] at ly;let bl:=Xm (dB_ hs ts qs f gd) ((gU ts m).take i);rw[cQ] at bl;let l1:=KO hs ts qs f gd [] u.1 u.2;let Lk:=KO hs ts qs f gd [] u.2 u.1;apply#[_,Z,.inl #[Z,_,.of m4],_,Z,_,Z,_,Z,_,Z,zl,λlg ng=>?_];let#[xH,e5]:=aB (o:=.lst []) ng;generalize upd H4 lg (.lst [])=H5 at xH e5 ⊢;apply#[v,g,p,lg,u.1,u.2,gd,[],hs,ts,qs,fp,f,Z,S.same (s4.trans xH),W,n1,n2,e5,λl6 z6 H6 Bc n6 e6 t6=>?_];let Ju:=xH.trans Bc;let m6:=Ju _ _ m4;let lz6:=bG t6;rw[ak] at lz6;apply#[lm,l6,ys,z6,Z,Z,m6,e6,by omega,?_];have s7:aa H (upd H6 lm (.lst (ys++z6))):=fN (s4.trans Ju) Lg;have b7:bc lm H3 (upd H6 lm (.lst (ys++z6))):=λb o e n=>by rw[au n];exact Ju _ _ (b4 _ _ e n)
    have e7:upd H6 lm (.lst (ys++z6)) lm=some (.lst (ys++z6)):=az
    have t7:bg K (upd H6 lm (.lst (ys++z6))) (ys++z6) ((((gU ts m).take i).flatMap (Er hs ts qs f gd)++iK hs ts qs f gd [] u.1 u.2).map kM):=by
     rw[b_];exact vM (iT (t4.same Ju) m6) (iT t6 m6)
    generalize upd H6 lm (.lst (ys++z6))=H7 at s7 b7 e7 t7 ⊢;dsimp only;apply#[_,Z,.inl #[Z,_,.of e7],_,Z,_,Z,_,Z,_,Z,zl,λZ5 ng2=>?_];let#[vF,e8]:=aB (o:=.lst []) ng2;generalize upd H7 Z5 (.lst [])=H8 at vF e8 ⊢;apply#[v,g,p,Z5,u.2,u.1,gd,[],hs,ts,qs,fp,f,Z,S.same (s7.trans vF),W,n2,n1,e8,λl9 z9 H9 Bb n9 e9 t9=>?_];let Qv:=vF.trans Bb;let m9:=Qv _ _ e7;let lz9:=bG t9;have ly7:(ys++z6).length=ys.length+z6.length:=dY;rw[ak] at lz9;apply#[lm,l9,ys++z6,z9,Z,Z,m9,e9,by omega,?_];apply#[_,_,(ys++z6)++z9,Z,fN (s7.trans Qv) Lg,λb o e n=>by rw[au n];exact Qv _ _ (b7 _ _ e n),az,?_];rw[show (gU ts m).take (i+1)=(gU ts m).take i++[u] by rw[iF,hu];rfl,IE,Fj,List.flatMap_nil,gK];unfold Er;rw[<- Fk,b_];exact vM (iT (t7.same Qv) m9) (iT t9 m9)
   ·rintro σ H4 ⟨v5,v6,ys,rfl,s4,b4,m4,t4⟩;rw[lz,dJ] at t4;exact#[_,Z,k lm ys H4 s4 Lg m4 t4]
theorem Ah:bD ["sight","rule","moment","words","moves","hand"] HV (bb wJ):=bJ
inductive Wz (K:af) (CS CG CW:Addr) (vs:ag) (H:Hp) (Q:VK) (E:XK):Prop
 |mk:∀(v g p:Addr) (m:Int) (gd:Str) (hs:Xa) (ts:Xb) (qs:aC) (fp:ay) (f:ai),∀r∈rl,vs=[.ref v,.str r.1,.int m]->r.2.1="turns"->r.2.2.2=some gd->0<=m->ja K CS CG CW H v g p hs ts qs fp f->Wd hs ts qs f->(∀l ys H',aa H H'->H l=none->H' l=some (.lst ys)->bg K H' ys ((Pj hs ts qs f gd m).map kM)->Q (.ref l) H')->Wz K CS CG CW vs H Q E
theorem jl_{CS CG CW:Addr}{fd:Ae}(F:bp K "moves_seen" "moves_seen" wJ f0 fd)(PP:!bt 2 Km ["rule"] (Po K))(cT:!bt 5 "moves_by_turns" ["sight","guard","moment"] (Xk K CS CG CW)):!aj ba 6 f0 fd HV (Wz K CS CG CW):=by
 apply F.bI Ah λaR A outer s H vs Q E hr h=>?_
 ·let#[v,g,p,m,gd,hs,ts,qs,fp,f,r,ic,rfl,le,eg,m0,S,W,k]:=h;refine' #[_,aq ?s1 (aq ?s2 fJ),?kk]
  case s1=>exact _d (i:=3) Ah.nd Z (Or.inl Z) (bf PP hr %[1|0])
  case s2=>exact bN (cz hV (bO eJ (pv 3) aK) bZ) (aH (bj (bf cT hr %[0,bO eJ (pv 3) aK,2|0]))) bP
  apply#[_,Z,r,ic,Z,λaw ha=>?_];lk;apply#[_,Z,aw,_,_,_,Z,Z,ha _,Z,Z,_,Z,?_];rw[B2,cw le];apply fG ?_;apply#[_,Z,_,Z,aw,_,_,.str gd,Z,Z,ha _,?_,_,Z,v,g,p,gd,m,hs,ts,qs,fp,f,Z,m0,S,W,k];rw[eg];rfl
end
theorem aj.two{P:Ad}{w:Af}{K:af}{mg:Str->Option Aa}{base:Heap}{CX:Fv}{k:Nat}{f:Addr}{fd:Ae}{ps:ae}{sp Zo To:Sp}(F:!aj CX k f fd ps Zo)(G:!aj CX k f fd ps To)(h:∀vs H Q E,sp vs H Q E->Zo vs H Q E∨To vs H Q E):!aj CX k f fd ps sp:=
 #[λvs H Q E q=>(h vs H Q E q).elim (F.len vs H Q E) (G.len vs H Q E),λA outer s H args us vs Q E hr e b v q=>(h vs H Q E q).elim (F.run A outer s H args us vs Q E hr e b v) (G.run A outer s H args us vs Q E hr e b v)]
def Br:IH:=λr hs ts qs f h=>if r.2.1="least" then Ie r hs ts qs f h else if r.2.1="below" then Ia r hs ts qs f h else LW r hs ts qs f h
theorem kX_:∀r∈rl,r.2.1≠"turns"->r.2.1≠"least"->r.2.1≠"below"->r.2.1="shares":=by decide +kernel
theorem iF_:∀r∈rl,r.2.1="turns"->r.2.2.2.isSome=true:=by decide +kernel
variable{r:Rl}
theorem ey_(h:r.2.1="least")(hs:Xa)(ts:Xb)(qs:aC)(f:ai)(x:Str):Br r hs ts qs f x=Ie r hs ts qs f x:=aA h
theorem eC_(h:r.2.1="below")(hs:Xa)(ts:Xb)(qs:aC)(f:ai)(x:Str):Br r hs ts qs f x=Ia r hs ts qs f x:=(ao (by rw[h];decide +kernel)).trans (aA h)
theorem dF_(h:r.2.1="shares")(hs:Xa)(ts:Xb)(qs:aC)(f:ai)(x:Str):Br r hs ts qs f x=LW r hs ts qs f x:=(ao (by rw[h];decide +kernel)).trans (ao (by rw[h];decide +kernel))
def Bg(r:Rl)(hs:Xa)(ts:Xb)(qs:aC)(f:ai)(m:Int):gX:=if r.2.1="turns" then Pj hs ts qs f (r.2.2.2.getD "") m else Kx Br r hs ts qs f
def xS(r:Rl)(ts:Xb):Nat:=if r.2.1="turns" then max 1 (turnsOf (aD ts)).length else 1
def BR(r:Rl)(hs:Xa)(ts:Xb)(qs:aC)(f:ai):Bool:=(List.range (xS r ts)).all λm=>(Bg r hs ts qs f m).isEmpty
def BT(T1 T2:Addr)(H H':Hp):Prop:=∀b o,H b=some o->b≠T1->b≠T2->H' b=some o
theorem BT.of{T1 T2:Addr}{H H':Hp}(s:aa H H'):BT T1 T2 H H':=λb o e _ _=>s b o e
theorem BT.trans{T1 T2:Addr}{H H1 H2:Hp}(a:BT T1 T2 H H1)(b:BT T1 T2 H1 H2):BT T1 T2 H H2:=λc o e n1 n2=>b c o (a c o e n1 n2) n1 n2
theorem BT.nt{T1 T2:Addr}{H H':Hp}(a:BT T1 T2 H H')(tb:Tb H T1 T2):NT H H':=λb o e n=>by
 let#[v1,h1]:=zA tb.a;let#[v2,h2]:=zA tb.b;exact a b o e (λz=>n v1 (by rw[z,h1] at e;exact (ee e).symm)) (λz=>n v2 (by rw[z,h2] at e;exact (ee e).symm))
theorem BT.sec{T1 T2:Addr}{H H':Hp}(a:bc T2 H H'):BT T1 T2 H H':=λb o e _ n=>a b o e n
section
variable{P:Ad}{w:Af}{K:af}{mg:Str->Option Aa}{base:Heap}{CS CG CW T1 T2:Addr}
theorem gI_{fd:Ae}{T:Addr}(l:!aj ba 6 f0 fd EX (E3 K CS CG CW T (λr=>r.2.1="least") Ie))(b:!aj ba 6 f0 fd EX (E3 K CS CG CW T (λr=>r.2.1="below") Ia))(s:!aj ba 6 f0 fd EX (E3 K CS CG CW T (λr=>r.2.1="shares") LW)):!aj ba 6 f0 fd EX (E3 K CS CG CW T (λr=>r.2.1≠"turns") Br):=by
 apply aj.two l (To:=E3 K CS CG CW T (λr=>r.2.1≠"turns"/\r.2.1≠"least") Br) (aj.two b s λvs H Q E q=>?_) λvs H Q E q=>?_
 ·let#[v,g,p,aw,h,hs,ts,qs,fp,f,r,hr,e,#[n1,n2],ha,S,W,hh,tab,k]:=q;by_cases c:r.2.1="below"
  ·exact .inl #[v,g,p,aw,h,hs,ts,qs,fp,f,r,hr,e,c,ha,S,W,hh,tab,λl ys H' b t n e tu=>k l ys H' b t n e (by rw[eC_ c];exact tu)]
  ·let c:=kX_ r hr n1 n2 c;exact .inr #[v,g,p,aw,h,hs,ts,qs,fp,f,r,hr,e,c,ha,S,W,hh,tab,λl ys H' b t n e tu=>k l ys H' b t n e (by rw[dF_ c];exact tu)]
 ·let#[v,g,p,aw,h,hs,ts,qs,fp,f,r,hr,e,n1,ha,S,W,hh,tab,k]:=q;by_cases c:r.2.1="least"
  ·exact .inl #[v,g,p,aw,h,hs,ts,qs,fp,f,r,hr,e,c,ha,S,W,hh,tab,λl ys H' b t n e tu=>k l ys H' b t n e (by rw[ey_ c];exact tu)]
  ·exact .inr #[v,g,p,aw,h,hs,ts,qs,fp,f,r,hr,e,#[n1,c],ha,S,W,hh,tab,k]
inductive WC (K:af) (CS CG CW T:Addr) (vs:ag) (H:Hp) (Q:VK) (E:XK):Prop
 |mk:∀(v g p:Addr) (m:Int) (hs:Xa) (ts:Xb) (qs:aC) (fp:ay) (f:ai),∀r∈rl,vs=[.ref v,.str r.1,.int m]->0<=m->ja K CS CG CW H v g p hs ts qs fp f->Wd hs ts qs f->d8 H T xI->(∀l ys H',bc T H H'->d8 H' T xI->H l=none->H' l=some (.lst ys)->bg K H' ys ((Bg r hs ts qs f m).map kM)->Q (.ref l) H')->WC K CS CG CW T vs H Q E
theorem jt_{fd:Ae}{T:Addr}(a:!aj ba 7 f0 fd HV (yn K CS CG CW T (λr=>r.2.1≠"turns") Br))(t:!aj ba 6 f0 fd HV (Wz K CS CG CW)):!aj ba 7 f0 fd HV (WC K CS CG CW T):=by
 apply aj.two a (t.mono (by decide)) λvs H Q E q=>?_;let#[v,g,p,m,hs,ts,qs,fp,f,r,hr,e,m0,S,W,tab,k]:=q;by_cases c:r.2.1="turns"
 ·let#[gd,eg]:=Ma.mp (iF_ r hr c);exact .inr #[v,g,p,m,gd,hs,ts,qs,fp,f,r,hr,e,c,eg,m0,S,W,λl ys H' s n e tu=>k l ys H' (bc.of s) (tab.same s) n e (by unfold Bg;rw[aA c,eg];exact tu)]
 ·exact .inl #[v,g,p,m,hs,ts,qs,fp,f,r,hr,e,c,S,W,tab,λl ys H' b t n e tu=>k l ys H' b t n e (by unfold Bg;rw[ao c];exact tu)]
theorem CF:bD ["web","rule"] ["web","rule"] (bb Wn):=bJ
inductive XM (K:af) (C:Addr) (vs:ag) (H:Hp) (Q:VK) (E:XK):Prop
 |mk:∀(p:Addr) (hs:Xa) (ts:Xb) (fp:ay),∀r∈rl,vs=[.ref p,.str r.1]->gn K C H p hs ts fp->ts.length<64->(∀H',aa H H'->Q (.int (xS r ts)) H')->XM K C vs H Q E
theorem gS_{f C:Addr}{fd:Ae}(F:bp K "rows_by" "rows_by" Wn f fd)(B:Bi mg)(T:Txt K mg C)(cW:!bt 2 Km ["rule"] (Po K))(cT:!bB C 3 "turns" ik (RB K C)):!aj ba 4 f fd ["web","rule"] (XM K C):=by
 apply F.bI CF λaR A outer s H vs Q E hr h=>?_
 ·let#[p,hs,ts,fp,r,ic,rfl,W,h1,k]:=h;refine' #[_,aq ?s1 (aH ?s2),?kk]
  case s1=>exact bN (cz EW (bO eJ (bf cW hr %[1|0]) aK) bZ) (aH (bj aK)) bP
  case s2=>exact bj (cy (RR Z) (by rfl) B.max KC %[aK,cy xo (by rfl) B.len i4 %[GC cT T.cl hr (pv 0)|0]|0])
  apply#[_,Z,r,ic,Z,λa ha=>?_];apply#[a,_,_,_,Z,Z,ha _,Z,Z,_,Z,?_];apply aM (λc=>?_) (λc=>?_)
  ·have c:¬r.2.1="turns":=by simpa [B2] using c
   have:=k H (aa.refl _);unfold xS at this;rw[ao c] at this;exact this
  ·have c:r.2.1="turns":=by simpa [B2] using c
   let#[fK,d1,l2,d3,vO,as0,ef,w1,_]:=id W.ex;apply#[_,Z,p,fK,_,Z,w1,je _ _ _ Z0 Z0 Z0,p,hs,ts,fp,Z,W,h1,λl as H' s _ _ _ _ R=>?_];apply#[l,_,Z,.inl (.of R.1),_,_,Z,?_];let la:=bG R.2;have:=k H' s;unfold xS at this;rw[aA c,<- la] at this;rw[ak,show (if ((as.length:Nat):Int) > 1 then ((as.length:Nat):Int) else 1)=((max 1 as.length:Nat):Int) by split<;>omega]
   exact this
theorem Ww:bD ["goods","placed","rule","sight","moment"] ["goods","placed","rule"] (bb XN):=bJ
structure Pld (K:af) (CG CW T1 T2:Addr) (H:Hp) (g p d:Addr) (hs:Xa) (ts:Xb) (qs:aC) (fp:ay) (f:ai):Prop where
 Pl:Ib K CG CW H g p d hs ts qs fp f
 W:Wd hs ts qs f
 tb:Tb H T1 T2
 has:∀b∈fp,∃o,H b=some o
inductive We (K:af) (CG CW T1 T2:Addr) (vs:ag) (H:Hp) (Q:VK) (E:XK):Prop
 |mk:∀(g p d:Addr) (hs:Xa) (ts:Xb) (qs:aC) (fp:ay) (f:ai),∀r∈rl,vs=[.ref g,.ref d,.str r.1]->Pld K CG CW T1 T2 H g p d hs ts qs fp f->(∀H',BT T1 T2 H H'->Tb H' T1 T2->Q (.bl (BR r hs ts qs f)) H')->We K CG CW T1 T2 vs H Q E
theorem iZ_{fd:Ae}(F:bp K "rests_at" "rests_at" XN f0 fd)(B:Bi mg)(TG:eE K CG)(Yg:!zJ CS 7 "Sight" AV (Wu K CS CG CW T1))(Yc:!bt 7 "moves_seen" HV (WC K CS CG CW T2))(Yd:!bt 4 "rows_by" ["web","rule"] (XM K CW)):!aj ba 9 f0 fd ["goods","placed","rule"] (We K CG CW T1 T2):=by
 apply F.bI Ww λaR A outer s H vs Q E hr h=>?_
 ·let#[g,p,d,hs,ts,qs,fp,f,r,ic,rfl,D,k]:=h;let sz:=ck;refine' #[_,aq ?s1 (aq ?s2 (aH (bj Gq))),?kk]
  case s1=>exact aX 3 Ww.nd (UC Yg hr %[0,1|0])
  case' s2=>refine' eF dX Z (L3 (by rfl) B.range %[bf Yd hr %[dW (pv 0) Z,2|0]|0]) (cj 4 Ww.nd) (aH (bN ?e1 (aH (bj Gq)) bP))
  case e1=>exact cz (Sd (xV hr 0)) (bf Yc hr %[3,2,4|0]) (cK aE)
  apply#[_,Z,_,Z,λv dx hv Vq ne=>?_];have s2:aa H (upd (upd H dx (.own v)) v (.ins CS dx [])):=(aa.new Vq).trans (aa.new (by rw[au ne.symm];exact hv));have e2:upd (upd H dx (.own v)) v (.ins CS dx []) v=some (.ins CS dx []):=az;generalize upd (upd H dx (.own v)) v (.ins CS dx [])=H2 at s2 e2 ⊢
  have Ql:v∉fp:=λhm=>by
   let#[o,e]:=D.has v hm;rw[e] at hv;cases hv
  have Pl2:Ib K CG CW H2 g p d hs ts qs fp f:=#[D.Pl.G.same s2,D.W.Gd,D.Pl.Eb,s2 _ _ D.Pl.hd,D.W.at_,D.W.nd,D.W.dm];apply#[v,dx,g,p,d,hs,ts,qs,fp,f,Z,e2,Ql,Pl2,D.W,D.tb.a.same s2,λH3 k3 wz S3=>#[Z,?_]];lk;let#[tv1,hT1]:=zA D.tb.a;have UI:∀b o,H b=some o->b≠T1->H3 b=some o:=λb o e n=>k3 b o (s2 _ _ e) (bx e hv) n;have Nk:NT H H3:=λb o e n=>UI b o e (λz=>by rw[z,hT1] at e;exact n _ (ee e).symm)
  have tb2:d8 H3 T2 xI:=by
   let#[es,a1,a2]:=D.tb.b;exact#[es,UI _ _ a1 D.tb.ne.symm,λx hx=>Nk _ _ (a2 x hx) nofun]
  let#[_,_,_,_,_,_,GA3,_]:=id S3.ex;let#[pX,dw,dy,vs,cq,g1,g2,_]:=id GA3.ex
  have rn:xS r ts<=64:=by
   let tl:=R6 (aD ts) [];rw[Il,zD] at tl;let wC:=D.W.Gd.wC
   have:(turnsOf (aD ts)).length<=64:=by
    show ((aD ts).foldl gG []).length<=64;omega
   unfold xS;split<;>omega
  apply#[_,Z,g,CG,pX,_,_,Z,g1,TG.cl,TG.nW,zx _ _ _,_,Z,p,hs,ts,cq,r,ic,Z,g2,D.W.Gd.wC,λH4 s4=>?_];apply#[((xS r ts:Nat):Int),Z,by omega,by omega,?_];have bt4:BT T1 T2 H H4:=λb o e n1 n2=>s4 _ _ (UI b o e n1);let S4:=S3.same s4;have Zf:Tb H4 T1 T2:=#[wz.same s4,tb2.same s4,D.tb.ne]
  let aQ:bL:=λi σ H'=>∃v4:aJ,σ=[some (.ref g),some (.ref d),some (.str r.1),some (.ref v),v4]/\BT T1 T2 H4 H'/\Tb H' T1 T2/\∀j:Nat,j<i->(Bg r hs ts qs f j).isEmpty=true
  apply eG_ aQ #[none,Z,BT.of (aa.refl _),Zf,by omega] ?_ ?_
  ·rintro i σ H5 hi ⟨v4,rfl,QE,Mu,em⟩;rw[Io] at hi;lk;let#[tv2,hT2]:=zA Mu.b;apply#[_,Z,_,Z,_,Z,v,g,p,0+(i:Int),hs,ts,qs,fp,f,r,ic,Z,by omega,S4.nt (QE.nt Zf),D.W,Mu.b,λl ys H6 b6 IR nl hl tu=>?_];have Le:BT T1 T2 H5 H6:=BT.sec b6;apply#[zl,λle ne'=>?_];let s7:=aa.new (o:=.lst []) ne';have FC:Tb (upd H6 le (.lst [])) T1 T2:=#[d8.same s7 (d8.but Mu.a b6 #[_,hT2] D.tb.ne),IR.same s7,D.tb.ne];let ly:=bG tu;rw[ak,Int.zero_add] at ly;apply#[l,le,ys,Z,Z,.of (s7 _ _ hl),.of az,_,Z,?_];let ZF:=(QE.trans Le).trans (BT.of s7);apply aM (λc=>?_) (λc=>?_)
   ·have c:ys.isEmpty=false:=by simpa using c
    have hf:BR r hs ts qs f=false:=by
     apply List.all_eq_false.mpr #[i,List.mem_range.mpr hi,?_];rw[List.isEmpty_eq_false_iff] at c;rw[List.isEmpty_iff];intro z;rw[z,zD] at ly;exact c (Fo.mp ly)
    have:=k _ (bt4.trans ZF) FC;rw[hf] at this;exact this
   ·have c:ys.isEmpty=true:=by simpa using c
    apply#[_,Z,ZF,FC,λj hj=>?_];by_cases e:j=i
    ·rw[e,List.isEmpty_iff];rw[List.isEmpty_iff] at c;rw[c,zD] at ly;exact Fo.mp ly.symm
    ·exact em j Z1
  ·rintro σ H5 ⟨v4,rfl,QE,Mu,em⟩;rw[Io] at em;have ht:BR r hs ts qs f=true:=List.all_eq_true.mpr λj hj=>em j (List.mem_range.mp hj);have:=k H5 (bt4.trans QE) Mu;rw[ht] at this;exact this
end
section
variable{P:Ad}{w:Af}{K:af}{mg:Str->Option Aa}{base:Heap}{CS CG CW T1 T2:Addr}
theorem CV:bD HS HS (bb Wp):=bJ
inductive WW (K:af) (CG CW T1 T2:Addr) (vs:ag) (H:Hp) (Q:VK) (E:XK):Prop
 |mk:∀(g p d:Addr) (hs:Xa) (ts:Xb) (qs:aC) (fp:ay) (ns:ae) (f:ai),∀r∈rl,vs=[.ref g,.ref d,.str r.1]->Qa K CG CW H g p d hs ts qs fp ns f->Wd hs ts qs f->Tb H T1 T2->(∀H',BT T1 T2 H H'->Tb H' T1 T2->Q (.bl (BR r hs ts qs f)) H')->WW K CG CW T1 T2 vs H Q E
theorem jn_{fd:Ae}(F:bp K "at_rest" "at_rest" Wp f0 fd)(Ya:!bt 3 "checked_start" HS (fd' K CG CW))(Yf:!bt 9 "rests_at" ["goods","placed","rule"] (We K CG CW T1 T2)):!aj ba 10 f0 fd HS (WW K CG CW T1 T2):=by
 apply F.bI CV λaR A outer s H vs Q E hr h=>?_
 ·let#[g,p,d,hs,ts,qs,fp,ns,f,r,ic,rfl,S,W,tb,k]:=h;refine' #[_,aH ?s1,?kk]
  case s1=>exact bj (bf Yf hr %[0,bf Ya hr %[0,1,2|0],2|0])
  apply#[_,Z,_,Z,_,Z,_,Z,_,_,r,ic,Z,#[g,p,d,hs,ts,qs,fp,ns,f,Z,S.G,S.Eb,S.hd,S.so,W.nd,W.dm,λdp H1 s1 n1 e1=>?_]]
  have XS:dp∉fp:=λhm=>by
   let#[o,e,_]:=S.has dp hm;rw[e] at n1;cases n1
  apply#[_,Z,g,p,dp,hs,ts,qs,fp,f,r,ic,Z,#[#[S.G.same s1,W.Gd,XS,e1,W.at_,W.nd,W.dm],W,#[tb.a.same s1,tb.b.same s1,tb.ne],λb hb=>let #[o,e,_]:=S.has b hb;#[o,s1 _ _ e]],λH' nt t'=>k H' ((BT.of s1).trans nt) t']
end
section
variable{P:Ad}{w:Af}{K:af}{mg:Str->Option Aa}{base:Heap}
theorem A9:bD AX AX (bb XJ):=bJ
def ei':Sp:=λvs H Q _=>∃(l:Addr) (g:Int),vs=[.ref l,.int g]/\0<=g/\g<4/\eK H l/\∀r H',1<=r->r<=1000000000->bc l H H'->eK H' l->Q (.int r) H'
theorem gF_{f:Addr}{fd:Ae}(F:bp K "_law_weight" "_law_weight" XJ f fd)(cD:!bt 2 Gy HW KG):!aj ba 3 f fd AX ei':=by
 apply F.bI A9 λaR A outer s H vs Q E hr h=>?_
 ·let#[l,g,rfl,g0,g4,st,k]:=h;refine' #[_,aq ?s1 (aH ?s2),?kk]
  case s1=>exact bN (cz hV (pv 1) aK) (aH (bj (bO gg (cK %[bF _D aK aK,bF iQ aK (bf cD hr %[0,bF _D aK aK|0])|0]) (bf cD hr %[0,aK|0])))) bP
  case s2=>exact bj (bF iQ aK (bf cD hr %[0,bO gg (cK %[aK,aK,aK|0]) (pv 1)|0]))
  apply#[_,Z,Z,_,Z,?_];apply aM (λc=>?_) (λc=>?_)
  ·apply#[_,_,Z,Z,#[by decide,by decide,by decide],_,Z,_,_,Z,Z,#[by decide,by decide,by decide],l,(10:Int) ^ (9:Int).toNat,Z,by decide,by decide,st,λr1 H1 q0 q1 b1 xG=>#[_,_,Z,Z,?_]];have q1:r1<1000000000:=q1;apply#[zl,λlx nx=>?_];let#[s2,e2]:=aB (o:=.lst [.int ((10:Int) ^ (9:Int).toNat),.int (1+r1)]) nx;let xl:=xG.ne nx;generalize upd H1 lx (.lst [.int ((10:Int) ^ (9:Int).toNat),.int (1+r1)])=H2 at s2 e2 ⊢;apply#[_,Z,l,2,Z,by decide,by decide,xG.same s2,λr2 H3 u0 u1 b3 wF=>?_]
   let#[v,hv,x,rfl,x1,x2]:=DU (p:=λv:V=>∃x:Int,v=V.int x/\1<=x/\x<=1000000000) (xs:=[V.int ((10:Int) ^ (9:Int).toNat),.int (1+r1)]) (n:=2) Z u0 u1 (λv hv=>by
    simp only[bW,Fs,or_false] at hv;rcases hv with rfl|rfl
    ·exact#[_,Z,by decide,by decide]
    ·exact#[_,Z,by omega,by omega])
   exact#[lx,_,_,_,Z,Z,.of (b3 _ _ e2 xl),hv,k x H3 x1 x2 ((b1.trans (bc.of s2)).trans b3) wF]
  ·have g3:g<3:=by
    have:¬g=3:=λz=>c (by rw[z];rfl);omega
   apply#[_,Z,zl,λlx nx=>?_];let#[s2,e2]:=aB (o:=.lst [.int 3,.int 12,.int 1000]) nx;generalize upd H lx (.lst [.int 3,.int 12,.int 1000])=H2 at s2 e2 ⊢
   let#[v,hv,x,rfl,x1,x2]:=DU (p:=λv:V=>∃x:Int,v=V.int x/\1<=x/\x<=1000) (xs:=[V.int 3,.int 12,.int 1000]) (n:=3) Z g0 g3 (λv hv=>by
    simp only[bW,Fs,or_false] at hv;rcases hv with rfl|rfl|rfl
    ·exact#[_,Z,by decide,by decide]
    ·exact#[_,Z,by decide,by decide]
    ·exact#[_,Z,by decide,by decide])
   apply#[_,Z,lx,_,_,_,Z,Z,.of e2,hv,l,x,Z,by omega,by omega,st.same s2,λr1 H3 q0 q1 b3 wF=>#[_,_,Z,Z,?_]];exact k (1+r1) H3 Z1 Z1 ((bc.of s2).trans b3) wF
theorem LY:bD [xj,"_law_ties",BX,BV,xR,"_law_pair"] [xj,"_law_ties"] (bb yF):=bJ
inductive Wm (K:af) (vs:ag) (H:Hp) (Q:VK) (E:XK):Prop
 |mk:∀(l lt:Addr) (zs:ag) (ts:Xb),vs=[.ref l,.ref lt]->eK H l->H lt=some (.lst zs)->lt≠l->bg K H zs (ts.map kT)->ts.length<64->(∀t∈ts,Kj t)->(ts.map kO).Nodup->(∀lw ys ws H',bc l H H'->eK H' l->H lw=none->H' lw=some (.lst ys)->bg K H' ys (ws.map kT)->LQ ts ws->Q (.ref lw) H')->Wm K vs H Q E
theorem iX_{f:Addr}{fd:Ae}(F:bp K "_law_ways" "_law_ways" yF f fd)(B:Bi mg)(cD:!bt 2 Gy HW KG):!aj ba 3 f fd [xj,"_law_ties"] (Wm K):=by
 apply F.bI LY λaR A outer s H vs Q E hr h=>?_
 ·let#[l,lt,zs,ts,rfl,st,dc,F7,tt,dm,good,nd,k]:=h;let sz:=ck;refine' #[_,aq ?s1 (aq ?s2 (aH ?s3)),?kk]
  case s1=>exact aX 2 LY.nd (cK aE)
  case' s2=>refine' eF dX Z (dE (pv 1)) (xk Z (dZ (cj 3 LY.nd) (dZ (cj 4 LY.nd) jf))) (aq ?b1 (aH ?b2))
  case b1=>exact aX 5 LY.nd (bO gg (cK %[fe %[3,4|0],fe %[4,3|0]|0]) (bf cD hr %[0,aK|0]))
  case b2=>exact aX 2 LY.nd (bF Kz (pv 2) (bF _E (cK %[5|0]) (qe RY (by rfl) B.int O2 %[iR BU (bf cD hr %[0,aK|0]) aK|0])))
  case s3=>exact bj (pv 2)
  let lz:=bG tt;rw[ak] at lz;apply#[zl,λZY Ng=>?_];let#[s1,e1]:=aB (o:=.lst []) Ng;let w0l:=st.ne Ng;lk;generalize upd H ZY (.lst [])=H1 at s1 e1 ⊢
  let aQ:bL:=λi σ H'=>∃(lw:Addr) (v3 v4 v5:aJ) (ys:ag) (ws us:Xb),σ=[some (.ref l),some (.ref lt),some (.ref lw),v3,v4,v5]/\bc l H H'/\eK H' l/\H lw=none/\lw≠l/\H' lw=some (.lst ys)/\bg K H' ys (ws.map kT)/\us.Sublist (ts.take i)/\Paired (λw u=>w=u∨w=(u.2,u.1)) ws us
  apply#[_,Z,lt,Z,#[_,.of (s1 _ _ dc)],fW (K:=K) (a:=lt) (xs:=zs) aQ #[ZY,none,none,none,[],[],[],Z,bc.of s1,st.same s1,Ng,w0l,e1,.nil,List.Sublist.refl _,.nil] (λi σ H' _ ⟨_,_,_,_,_,_,_,_,b,_⟩=>.of (b _ _ dc F7)) ?_ ?_]
  ·rintro i x σ H2 hx ⟨lw,v3,v4,v5,ys,ws,us,rfl,b2,fj,nw,wl,hw,tw,sub,pr⟩;let#[t,ht,a,rfl,ha]:=qc tt hx;let#[SQ,Hy]:=st.some;let ES:=b2 _ _ (EM ha) (cU (EM ha) Hy nofun);apply#[a,_,Z,.of ES,Z,_,_,Z,_,_,Z,Z,?_];dsimp only
   have lu:us.length<=i:=by
    have:=sub.length_le;rw[cQ] at this;omega
   let lws:=bG pr;let ly:=bG tw;rw[ak] at ly
   have hi:i<ts.length:=by
    have:=(cc.mp ht).1;omega
   let bH:cn:=λσ H'=>∃(q:Addr) (qq:Str × Str),σ=[some (.ref l),some (.ref lt),some (.ref lw),some (.str t.1),some (.str t.2),some (.ref q)]/\bc l H H'/\eK H' l/\H' lw=some (.lst ys)/\bg K H' ys (ws.map kT)/\H' q=some (.tup ((kT qq).map kV))/\(qq=t∨qq=(t.2,t.1))
   apply dz bH ?m2 ?m1
   case m1=>
    intro N hN;apply#[_,Z,_,Z,zl,λt1 Hx=>?_];let#[Hg,e11]:=aB (o:=.tup [.str t.1,.str t.2]) Hx;generalize upd H2 t1 (.tup [.str t.1,.str t.2])=H3 at Hg e11 ⊢;apply#[_,Z,_,Z,zl,λt2 UY=>?_];let#[fY,LK]:=aB (o:=.tup [.str t.2,.str t.1]) UY;generalize upd H3 t2 (.tup [.str t.2,.str t.1])=H4 at fY LK ⊢;apply#[zl,λlx BK=>?_];let#[Bd,Ry]:=aB (o:=.lst [.ref t1,.ref t2]) BK;let xl:=((fj.same Hg).same fY).ne BK;generalize upd H4 lx (.lst [.ref t1,.ref t2])=H5 at Bd Ry ⊢;let yW:=(Hg.trans fY).trans Bd;let gB:=fj.same yW;let#[xs5,DS]:=gB.some;apply#[_,Z,l,2,Z,by decide,by decide,gB,λr5 H6 q4 q5 b6 xF=>?_];have Mq:∀{b:Addr} {zs:ag},H5 b=some (.tup zs)->H6 b=some (.tup zs):=λe=>b6 _ _ e (cU e DS nofun)
    have pick:∃(q:Addr) (qq:Str × Str),gY [V.ref t1,V.ref t2] r5=some (.ref q)/\H6 q=some (.tup ((kT qq).map kV))/\(qq=t∨qq=(t.2,t.1)):=by
     rcases Gf (a:=V.ref t1) (b:=V.ref t2) q4 q5 with e|e
     ·exact#[t1,t,e,Mq (Bd _ _ (fY _ _ e11)),.inl Z]
     ·exact#[t2,(t.2,t.1),e,Mq (Bd _ _ LK),.inr Z]
    let#[q,qq,et,QS,EN]:=pick;have b26:bc l H2 H6:=(bc.of yW).trans b6;exact#[lx,_,_,_,Z,Z,.of (b6 _ _ Ry xl),et,hN _ _ #[q,qq,Z,b2.trans b26,xF,b26 _ _ hw wl,Fg (tw.same yW) b6 DS,QS,EN]]
   rintro σ H6 ⟨q,qq,rfl,b6,xF,hw6,tw6,QS,EN⟩;apply#[_,Z,_,Z,zl,λlx BK=>?_];let#[s7,e7]:=aB (o:=.lst [.ref q]) BK;let xl:=xF.ne BK;generalize upd H6 lx (.lst [.ref q])=H7 at s7 e7 ⊢;let Cs:=xF.same s7;let#[xs7,Ou]:=Cs.some;apply#[_,Z,l,3,Z,by decide,by decide,Cs,λr6 H8 q6 q7 b8 IZ=>#[_,_,Z,Z,.inr #[_,Z,?_]]];let hw8:=b8 _ _ (s7 _ _ hw6) wl;let e8:=b8 _ _ e7 xl;let Zb:=Fg (tw6.same s7) b8 Ou;let hq8:=b8 _ _ (s7 _ _ QS) (cU (s7 _ _ QS) Ou nofun);have L_:bc l H H8:=b6.trans ((bc.of s7).trans b8);apply#[lx,_,_,Z,Z,e8,?_,?_,?_,λp hp=>?_]
   ·by_cases c:decide (0<r6)=true
    ·rw[aA c];decide
    ·rw[ao c];decide
   ·by_cases c:decide (0<r6)=true
    ·rw[aA c];decide
    ·rw[ao c];decide
   ·by_cases c:decide (0<r6)=true
    ·rw[aA c];show 1 * 1<=sizeLine;decide
    ·rw[ao c];show 1 * 0<=sizeLine;decide
   let#[s9,e9]:=aB (o:=.lst (List.replicate (if decide (0<r6)=true then (1:Int) else 0).toNat [V.ref q]).flatten) hp;generalize upd H8 p (.lst (List.replicate (if decide (0<r6)=true then (1:Int) else 0).toNat [V.ref q]).flatten)=H9 at s9 e9 ⊢;apply#[lw,p,_,_,Z,Z,s9 _ _ hw8,e9,?_,λu hu=>?_]
   ·by_cases c:decide (0<r6)=true
    ·rw[aA c];show ys.length+1<=sizeLine;omega
    ·rw[ao c];show ys.length+0<=sizeLine;omega
   let TL:=aa.new (o:=.lst (ys++(List.replicate (if decide (0<r6)=true then (1:Int) else 0).toNat [V.ref q]).flatten)) hu;let Js:=s9.trans TL;have b0u:bc l H (upd H9 u (.lst (ys++(List.replicate (if decide (0<r6)=true then (1:Int) else 0).toNat [V.ref q]).flatten))):=L_.trans (bc.of Js);let G_:=IZ.same s9;apply#[u,_,_,_,_,if decide (0<r6)=true then ws++[qq] else ws,if decide (0<r6)=true then us++[t] else us,Z,b0u,IZ.same Js,(L_.trans (bc.of s9)).free G_ hu,G_.ne hu,az,?_,?_,?_]
   ·by_cases c:decide (0<r6)=true
    ·rw[aA c,aA c];show bg K _ (ys++[V.ref q]) ((ws++[qq]).map kT);rw[b_];rw[aA c] at Js;exact Es (Zb.same Js) (Js _ _ hq8)
    ·rw[ao c,ao c];show bg K _ (ys++[]) (ws.map kT);rw[gK];rw[ao c] at Js;have:=Zb.same Js;simpa using this
   ·have e:ts.take (i+1)=ts.take i++[t]:=by rw[iF,ht];rfl
    rw[e];by_cases c:decide (0<r6)=true
    ·rw[aA c];exact sub.append (List.Sublist.refl _)
    ·rw[ao c];exact sub.trans (List.sublist_append_left _ _)
   ·by_cases c:decide (0<r6)=true
    ·rw[aA c,aA c];exact vM pr (.cons EN .nil)
    ·rw[ao c,ao c];exact pr
  ·rintro σ H2 ⟨lw,v3,v4,v5,ys,ws,us,rfl,b2,fj,nw,wl,hw,tw,sub,pr⟩;rw[lz,dJ] at sub;exact#[_,Z,k lw ys ws H2 b2 fj nw hw tw (ko_ good nd sub pr)]
end
theorem ju_{K:af}{H:Hp}{a l:Addr}{ys:ag}{ks:List aN}(t:bg K H ys ks)(ha:H a=some (.lst ys))(st:eK H l):a≠l:=λe=>by
 subst e;let#[x,y,z,e]:=st;rw[ha] at e;have e:ys=_:=HO.lst.inj (ee e);subst e;cases t with
 |cons h _=>
  let#[b,z,_]:=h;cases z
variable{v:V}{o:Option (Xb)}
theorem bS.mv{K:af}{H H':Hp}{l:Addr}(h:bS K H v o)(b:bc l H H')(st:eK H l):bS K H' v o:=by
 cases o with
 |none=>exact h
 |some ws=>
  let#[a,ys,e,ha,t]:=h;let#[xs,hl]:=st.some;exact#[a,ys,e,b _ _ ha (ju_ t ha st),Fg t b hl]
def PcI(K:af)(H:Hp)(lp:Addr)(y:V)(p:Pc):Prop:=∃t v,y=.ref t/\H t=some (.tup [.str p.1,.int p.2.1,v])/\bS K H v p.2.2/\v≠.ref lp
structure GI (K:af) (H0 H:Hp) (l ln lp d:Addr) (ns:ae) (hs:Xa) (ts:Xb) (i j:Nat):Prop where
 but:bc l H0 H
 st:eK H l
 hn:H ln=some (.lst (ns.map V.str))
 Lb:∃yp ps,H lp=some (.lst yp)/\Paired (PcI K H lp) yp ps/\ps.map (·.1)=ns.take i/\∀q∈ps,Ko ts q
 MK:∃f:Str->Str,H d=some (.dK (dH (ns.take j) f))/\∀n∈ns.take j,f n∈hs.map (·.1)
 nl:ln≠l
 pl:lp≠l
 dl:d≠l
 np:ln≠lp
 fp:H0 lp=none
 fd:H0 d=none
variable{n:Str}
section
variable{K:af}{H0 H G:Hp}{l ln lp d:Addr}{ns:ae}{hs:Xa}{ts:Xb}{i j:Nat}
theorem GI.mv(W:GI K H0 H l ln lp d ns hs ts i j)(b:bc l H G)(st:eK G l):GI K H0 G l ln lp d ns hs ts i j:=by
 let#[yp,ps,h1,h2,h3,h4]:=W.Lb;let#[f,d1,d2]:=W.MK;let#[xs,hl]:=W.st.some;exact#[W.but.trans b,st,b _ _ W.hn W.nl,#[yp,ps,b _ _ h1 W.pl,Paired.bu h2 λy p ⟨t,v,e,ht,wy,n⟩=>#[t,v,e,b _ _ ht (cU ht hl nofun),wy.mv b W.st,n],h3,h4],#[f,b _ _ d1 W.dl,d2],W.nl,W.pl,W.dl,W.np,W.fp,W.fd]
theorem GI.same(W:GI K H0 H l ln lp d ns hs ts i j)(s:aa H G):GI K H0 G l ln lp d ns hs ts i j:=W.mv (bc.of s) (W.st.same s)
theorem GI.Na(W:GI K H0 H l ln lp d ns hs ts i j){x:Int}{t:Addr}{yp:ag}(hn:ns[i]? = some n)(hp:H lp=some (.lst yp))(ht:H t=some (.tup [.str n,.int x,v]))(wy:bS K H v o)(nv:v≠.ref lp)(g:Ko ts (n,x,o)):GI K H0 (upd H lp (.lst (yp++[.ref t]))) l ln lp d ns hs ts (i+1) j:=by
 let#[yp',ps,h1,h2,h3,h4]:=W.Lb;let#[f,d1,d2]:=W.MK;rw[hp] at h1;cases h1;apply#[λb o e ne=>by rw[au (bx e W.fp)];exact W.but b o e ne,?_,by rw[au W.np];exact W.hn,#[_,ps++[(n,x,o)],az,vM (Paired.bu h2 λy p ⟨t,v,e,ht,wy,n⟩=>#[t,v,e,by rw[au (cU ht hp nofun)];exact ht,wy.put hp n,n]) (.cons #[t,v,Z,by rw[au (cU ht hp nofun)];exact ht,wy.put hp nv,nv] .nil),?_,λq hq=>?_],#[f,by rw[au (cU d1 hp nofun)];exact d1,d2],W.nl,W.pl,W.dl,W.np,W.fp,W.fd]
 ·exact W.st.upd W.pl
 ·rw[b_,h3,eO hn];rfl
 ·rcases fM.mp hq with hq|hq
  ·exact h4 q hq
  ·rw[jd.mp hq];exact g
theorem GI.put(W:GI K H0 H l ln lp d ns hs ts i j)(nd:ns.Nodup){h:Str}{f:ai}(hn:ns[j]? = some n)(hd:H d=some (.dK (dH (ns.take j) f)))(fm:∀n∈ns.take j,f n∈hs.map (·.1))(hh:h∈hs.map (·.1)):GI K H0 (upd H d (.dK (putK (dH (ns.take j) f) (Sum.inr n) (.str h)))) l ln lp d ns hs ts i (j+1):=by
 let#[yp,ps,h1,h2,h3,h4]:=W.Lb;let nn:=Py nd hn;have pd:∀{b:Addr} {zs:ag},H b=some (.tup zs)->b≠d:=λe z=>by rw[z,hd] at e;cases e
 have ld:∀{b:Addr} {zs:ag},H b=some (.lst zs)->b≠d:=λe z=>by rw[z,hd] at e;cases e
 apply#[λb o e ne=>by rw[au (bx e W.fd)];exact W.but b o e ne,W.st.upd W.dl,by rw[au (ld W.hn)];exact W.hn,#[yp,ps,by rw[au (ld h1)];exact h1,Paired.bu h2 λy p ⟨t,v,e,ht,wy,n⟩=>#[t,v,e,by rw[au (pd ht)];exact ht,?_,n],h3,h4],#[λm=>if m=n then h else f m,?_,λm hm=>?_],W.nl,W.pl,W.dl,W.np,W.fp,W.fd]
 ·cases o:p.2.2 with
  |none=>rw[o] at wy;exact wy
  |some ws=>
   rw[o] at wy;let#[a,ys,e,ha,tu]:=wy;exact#[a,ys,e,by rw[au (ld ha)];exact ha,Paired.bu tu λy k ⟨b,z,q⟩=>#[b,z,by rw[au (pd q)];exact q]]
 ·rw[az,Pd nn,eO hn];apply dU (λx=>some (HO.dK x)) (P8 λm hm=>?_);dsimp only;by_cases z:m=n
  ·simp only[aA z]
  ·simp only[ao z]
 ·dsimp only;rw[eO hn] at hm;by_cases z:m=n
  ·rw[aA z];exact hh
  ·rw[ao z];rcases fM.mp hm with hm|hm
   ·exact fm m hm
   ·exact absurd (jd.mp hm) z
end
variable{fd:Ae}
section
variable{P:Ad}{w:Af}{K:af}{mg:Str->Option Aa}{base:Heap}
abbrev gN:ae:=[xj,"_law_hands","_law_ties","_law_many","_law_great","_law_free","_law_heap","_law_pieces",iO,"_law_name","_law_ways_here","_law_at"]
theorem Eo:bD gN Ey (bb Wb):=bJ
inductive XO (K:af) (vs:ag) (H:Hp) (Q:VK) (E:XK):Prop
 |mk:∀(l lh lt:Addr) (yh zs:ag) (hs:Xa) (ts:Xb),vs=[.ref l,.ref lh,.ref lt]->eK H l->H lh=some (.lst yh)->lh≠l->bg K H yh (hs.map kH)->H lt=some (.lst zs)->lt≠l->bg K H zs (ts.map kT)->Good hs ts->(∀(t lp d:Addr) (yp:ag) (ps:aC) (f:ai) (H':Hp),bc l H H'->eK H' l->H' t=some (.tup [.ref lp,.ref d])->H lp=none->H d=none->lp≠l->d≠l->H' lp=some (.lst yp)->Kn K H' yp ps->H' d=some (.dK (dH (ps.map (·.1)) f))->(∀q∈ps,Ko ts q)->(ps.map (·.1)).Nodup->ps.length<=30->(∀n∈ps.map (·.1),f n∈hs.map (·.1))->Q (.ref t) H')->XO K vs H Q E
theorem ig_(F:bp K "_law_goods" "_law_goods" Wb f0 fd)(B:Bi mg)(cD:!bt 2 Gy HW KG)(cN:!bt 3 "_law_named" AW WU)(cW:!bt 3 "_law_weight" AX ei')(cY:!bt 3 "_law_ways" [xj,"_law_ties"] (Wm K)):!aj ba 4 f0 fd Ey (XO K):=by
 apply F.bI Eo λaR A outer s H vs Q E hr h=>?_
 ·let#[l,lh,lt,yh,zs,hs,ts,rfl,st,g_,NC,th,dc,F7,tt,Gd,k]:=h;let sz:=ck;let hu:=eV hr;refine' #[_,?r0,?kk]
  case' r0=>refine' aq ?s1 ?r1
  case' r1=>refine' aq ?s2 ?r2
  case' r2=>refine' aq ?s3 ?r3
  case' r3=>refine' aq ?s4 ?r4
  case' r4=>refine' aq ?s5 ?r5
  case' r5=>refine' aq ?s6 ?r6
  case' r6=>refine' aq ?s7 (aH ?s8)
  case s1=>exact aX 3 Eo.nd (bO gg (cK %[bf cD hr %[0,aK|0],bf cD hr %[0,aK|0]|0]) (bf cD hr %[0,aK|0]))
  case s2=>exact aX 4 Eo.nd (bf cD hr %[0,aK|0])
  case s3=>exact aX 5 Eo.nd (bf cD hr %[0,aK|0])
  case s4=>exact aX 6 Eo.nd (bf cD hr %[0,aK|0])
  case s5=>exact aX 7 Eo.nd (cK aE)
  case s6=>exact aX 8 Eo.nd Ij
  case' s7=>refine' eF dX Z (dE (bf cN hr %[0,3|0])) (cj 9 Eo.nd) ?b0
  case' b0=>refine' aq ?b1 ?c1
  case' c1=>refine' aq ?b2 ?c2
  case' c2=>refine' aq ?b3 ?c3
  case' c3=>refine' aq ?b4 (aH ?b5)
  case b1=>exact aX 10 Eo.nd Kv
  case b2=>exact bN (PW.pt (E7 (cz hV (pv 5) aK) (Ir (cz BU (bf cD hr %[0,aK|0]) aK)))) (aH (aX 10 Eo.nd (bf cY hr %[0,2|0]))) bP
  case b3=>exact h_ (gI h9 xY xZ xp (pv 7) %[fe %[9,bf cW hr %[0,4|0],10|0]|0])
  case b4=>exact aX 11 Eo.nd (bf cD hr %[0,cy xo (by rfl) B.len i4 %[1|0]|0])
  case' b5=>refine' B1 hu (pv 8) (pv 9) (bO eJ (bO gg (pv 1) ?ix) aK) Z
  case ix=>exact bF pY (pv 11) (qe RY (by rfl) B.int O2 %[Lz (iR hV (pv 6) aK) (AO (iR hV (bf cD hr %[0,aK|0]) aK))|0])
  case s8=>exact bj (fe %[7,8|0])
  let QJ:=bG th;rw[ak] at QJ;let xP:=Gd.h1;let h8':=Gd.h8;apply#[_,Z,l,9,Z,by decide,by decide,st,λa1 H1 p0 p1 b1 xG=>?_];apply#[_,Z,l,31,Z,by decide,by decide,xG,λa2 H2 p2 p3 b2 fj=>?_];apply#[zl,λlx nx=>?_];let#[s3,e3]:=aB (o:=.lst [.int a1,.int a2]) nx;let xl:=fj.ne nx;generalize upd H2 lx (.lst [.int a1,.int a2])=H3 at s3 e3 ⊢;apply#[_,Z,l,2,Z,by decide,by decide,fj.same s3,λa3 H4 p4 p5 b4 vE=>?_]
  let#[v,hv,m,rfl,m0,m30]:=DU (p:=λv:V=>∃x:Int,v=V.int x/\0<=x/\x<=30) (xs:=[V.int a1,.int a2]) (n:=2) Z p4 p5 (λv hv=>by
   simp only[bW,Fs,or_false] at hv;rcases hv with rfl|rfl
   ·exact#[_,Z,by omega,by omega]
   ·exact#[_,Z,by omega,by omega])
  let#[m,rfl]:=Fp m0;apply#[lx,_,_,_,Z,Z,.of (b4 _ _ e3 xl),hv,?_];have SF:bc l H H4:=(b1.trans b2).trans ((bc.of s3).trans b4);lk;clear b1 b2 b4 s3 e3 hv nx xG fj;apply#[_,Z,l,4,Z,by decide,by decide,vE,λgr H5 g0 g4 b5 gB=>?_];lk;apply#[_,Z,l,2,Z,by decide,by decide,gB,λfr H6 f0 f2 b6 xF=>?_];lk;apply#[_,Z,l,2,Z,by decide,by decide,xF,λhp H7 q0 q2 b7 Cs=>?_];lk;have YU:bc l H H7:=SF.trans (b5.trans (b6.trans b7));clear SF b5 b6 b7 vE gB xF;apply#[zl,λlp np=>?_];lk;let#[s8,e8]:=aB (o:=.lst []) np;let Z4:=Cs.ne np;have fp0:H lp=none:=YU.free Cs np;generalize upd H7 lp (.lst [])=H8 at s8 e8 ⊢;let IZ:=Cs.same s8;let L_:=YU.trans (bc.of s8);apply λd nd=>?_;lk;let#[s9,e9]:=aB (o:=.dK []) nd;let dl:=IZ.ne nd;have fd0:H d=none:=L_.free IZ nd;generalize upd H8 d (.dK [])=H9 at s9 e9 ⊢;let G_:=IZ.same s9;let b09:=L_.trans (bc.of s9);apply#[_,Z,_,Z,l,m,Z,by omega,G_,λln ns IJ zB A8 nn hn N=>?_];have NA:ln≠l:=G_.ne nn;have W0:GI K H IJ l ln lp d ns hs ts 0 0:=#[b09.trans zB,A8,hn,#[[],[],zB _ _ (s9 _ _ e8) Z4,.nil,Z,by simp],#[λ_=>"",zB _ _ e9 dl,by simp],NA,Z4,dl,(bx (s9 _ _ e8) nn).symm,fp0,fd0];clear YU L_ b09 zB Cs IZ G_ A8 s8 s9 e8 e9 np nd nn hn;have n30:ns.length<=30:=by rw[N.len];omega
  let aQ:bL:=λi σ H'=>∃(v9 v10 v11:aJ),σ=[some (.ref l),some (.ref lh),some (.ref lt),some (.int m),some (.int gr),some (.int fr),some (.int hp),some (.ref lp),some (.ref d),v9,v10,v11]/\GI K H H' l ln lp d ns hs ts i i
  apply#[ln,Z,#[_,.of W0.hn],fW (K:=K) (a:=ln) (xs:=ns.map V.str) aQ #[none,none,none,Z,W0] (λi σ H' _ ⟨_,_,_,_,W⟩=>.of W.hn) ?_ ?_]
  ·rintro i x σ H2 hx ⟨v9,v10,v11,rfl,W⟩;let#[n,hn,rfl]:=iG hx;have hi:i<ns.length:=(cc.mp hn).1;lk;apply setG (i:=10) (v:=.non) ?_;dsimp only
   let bH:cn:=λσ H'=>∃(wv:V) (o:Option (Xb)),σ=[some (.ref l),some (.ref lh),some (.ref lt),some (.int m),some (.int gr),some (.int fr),some (.int hp),some (.ref lp),some (.ref d),some (.str n),some wv,v11]/\GI K H H' l ln lp d ns hs ts i i/\bS K H' wv o/\wv≠.ref lp/\∀ws,o=some ws->LQ ts ws
   apply dz bH ?m2 ?m1
   case m1=>
    intro N1 hN;have iq:∀{H3:Hp},GI K H H3 l ln lp d ns hs ts i i->N1 [some (.ref l),some (.ref lh),some (.ref lt),some (.int m),some (.int gr),some (.int fr),some (.int hp),some (.ref lp),some (.ref d),some (.str n),some .non,v11] H3:=λW3=>hN _ _ #[.non,none,Z,W3,Z,(λz=>by cases z),λws e=>by cases e];apply#[_,Z,Z,_,Z,?_];apply aM (λc=>?_) (λc=>?_)
    ·apply#[_,Z,l,3,Z,by decide,by decide,W.st,λr1 H3 u0 u1 b3 wF=>#[_,_,Z,Z,_,Z,?_]];let W3:=W.mv b3 wF;apply aM (λc2=>?_) (λc2=>?_)
     ·apply#[_,Z,_,Z,l,lt,zs,ts,Z,wF,W3.but _ _ dc F7,F7,?_,Gd.wC,Gd.tok,Gd.IQ,λlw ys ws H4 b4 vE nw hw tw wo=>?_]
      ·let#[SQ,Hy]:=st.some;exact Fg tt W3.but Hy
      let W4:=W3.mv b4 vE;apply hN _ _ #[.ref lw,some ws,Z,W4,#[lw,ys,Z,hw,tw],λz=>?_,λws' e=>by cases e;exact wo];let#[yp,ps,h1,_]:=W3.Lb;cases z;rw[h1] at nw;cases nw
     ·exact iq W3
    ·exact iq W
   rintro σ H3 ⟨wv,o,rfl,W3,wy,nv,gw⟩
   let eX:cn:=λσ H'=>σ=[some (.ref l),some (.ref lh),some (.ref lt),some (.int m),some (.int gr),some (.int fr),some (.int hp),some (.ref lp),some (.ref d),some (.str n),some wv,v11]/\GI K H H' l ln lp d ns hs ts (i+1) i
   apply dz eX ?m4 ?m3
   case m3=>
    intro N1 hN;let#[yp,ps,h1,h2,h3,h4]:=W3.Lb;apply#[_,Z,.inl #[Z,_,.of h1],_,Z,_,Z,_,Z,l,gr,Z,g0,g4,W3.st,λx H4 x1 x2 b4 vE=>?_];let W4:=W3.mv b4 vE;let wy4:=wy.mv b4 W3.st;apply#[_,Z,zl,λt nt=>?_];let#[s5,e5]:=aB (o:=.tup [.str n,.int x,wv]) nt;generalize upd H4 t (.tup [.str n,.int x,wv])=H5 at s5 e5 ⊢;let Ln:=s5 _ _ (b4 _ _ h1 W3.pl);let ly:=bG h2;let lps:=dU List.length h3;rw[ak,cQ] at lps;apply#[lp,_,_,Z,Z,Ln,by omega,hN _ _ #[Z,(W4.same s5).Na hn Ln e5 (wy4.same s5) nv #[N.ok n (cu hn),x1,x2,gw]]]
   rintro σ H4 ⟨rfl,W4⟩;apply#[_,Z,_,Z,lh,_,Z,.inl (.of (W4.but _ _ g_ NC)),l,_,Z,by omega,by omega,W4.st,λat' H5 a0 a1 b5 gB=>?_];let W5:=W4.mv b5 gB;lk
   have fin:∀{H6:Hp} {b:Bool},GI K H H6 l ln lp d ns hs ts (i+1) i->∃v,gY yh (at' * (if b=true then 1 else 0))=some v/\∃h∈hs,∃a,v=.ref a/\H6 a=some (.tup [.str h.1,.int h.2]):=λ{H6 b} W6=>by
    have:0<=at' * (if b=true then 1 else 0)/\at' * (if b=true then 1 else 0)<(yh.length:Int):=by
     cases b
     ·simp;omega
     ·simp;omega
    apply DU (n:=yh.length) (p:=λv:V=>∃h∈hs,∃a,v=.ref a/\H6 a=some (.tup [.str h.1,.int h.2])) Z this.1 this.2 λv hv=>?_;let#[jj,hj]:=List.mem_iff_getElem?.mp hv;let#[h,hh,a,e,ha]:=qc th hj;let#[SQ,Hy]:=st.some;have ha:H a=some (.tup [.str h.1,.int h.2]):=ha;exact#[h,cu hh,a,e,W6.but _ _ ha (cU ha Hy nofun)]
   apply#[_,Z,_,Z,_,Z,Z,_,Z,?_];apply aM (λc=>?_) (λc=>?_)
   ·apply .inr #[_,Z,_,_,Z,Z,.inl #[by omega,by omega],?_];let#[v,ev,h,hh,a,ea,ha]:=fin (b:=true) W5;subst ea;let#[f,d1,d2]:=W5.MK;apply#[lh,_,_,_,Z,Z,.of (W5.but _ _ g_ NC),ev,a,_,_,_,Z,Z,.of ha,Z,_,Z,_,Z,d,_,Z,.k (k:=Sum.inr n) d1 (by rw[gq,cQ];omega),?_];exact#[_,_,_,Z,W5.put N.nd hn d1 d2 (bh.mpr #[h,hh,Z])]
   ·apply#[_,Z,l,4,Z,by decide,by decide,W5.st,λr1 H6 u0 u1 b6 xF=>#[Z,?_]];let W6:=W5.mv b6 xF;apply .inr #[_,Z,_,_,Z,Z,.inl #[by omega,by omega],?_];let#[v,ev,h,hh,a,ea,ha]:=fin (b:=decide (V.int r1=V.int 0)) W6;subst ea;let#[f,d1,d2]:=W6.MK;apply#[lh,_,_,_,Z,Z,.of (W6.but _ _ g_ NC),ev,a,_,_,_,Z,Z,.of ha,Z,_,Z,_,Z,d,_,Z,.k (k:=Sum.inr n) d1 (by rw[gq,cQ];omega),?_];exact#[_,_,_,Z,W6.put N.nd hn d1 d2 (bh.mpr #[h,hh,Z])]
  ·rintro σ H2 ⟨v9,v10,v11,rfl,W⟩;rw[ak] at W;let#[yp,ps,h1,h2,h3,h4]:=W.Lb;let#[f,d1,d2]:=W.MK;rw[dJ] at h3 d1 d2;apply#[_,Z,_,Z,zl,λt nt=>?_];let s3:=aa.new (o:=.tup [.ref lp,.ref d]) nt;let W3:=W.same s3;apply k t lp d yp ps f _ W3.but W3.st az W.fp W.fd W.pl W.dl (s3 _ _ h1) (Paired.bu h2 λy p ⟨t,v,e,ht,wy,_⟩=>#[t,v,e,s3 _ _ ht,wy.same s3]) ?_ h4 ?_ ?_ ?_
   ·rw[h3];exact s3 _ _ d1
   ·rw[h3];exact N.nd
   ·have:=dU List.length h3;rw[ak] at this;omega
   ·rw[h3];exact d2
end
def F4(h:Str)(t:Str × Str):ae:=(if t.1=h then [t.2] else [])++if t.2=h then [t.1] else []
def c_(ts:Xb)(h:Str):ae:=ts.flatMap (F4 h)
def Ca(ds dn lt dh dy:Addr):List (Key × V):=[(.inr "strength",.ref ds),(.inr "near",.ref dn),(.inr "ties",.ref lt),(.inr "heavy",.ref dh),(.inr "ways",.ref dy)]
structure eN (K:af) (H:Hp) (w ds dn lt dh dy:Addr) (ad:Str->Addr) (gy:Str->V) (hs:Xa) (ts:Xb) (ps:aC):Prop where
 top:H w=some (.dK (Ca ds dn lt dh dy))
 sg:H ds=some (.dK (br (hs.map (·.1)) λn=>.int (strOf hs n)))
 nr:H dn=some (.dK (br (hs.map (·.1)) λn=>.ref (ad n)))
 ls:∀h∈hs.map (·.1),H (ad h)=some (.lst ((c_ ts h).map V.str))
 hv:H dh=some (.dK (br (ps.map (·.1)) λn=>.int (d6 ps n)))
 wy:H dy=some (.dK (br (ps.map (·.1)) gy))
 wv:∀q∈ps,bS K H (gy q.1) q.2.2
 tl:∃zs,H lt=some (.lst zs)/\bg K H zs (ts.map kT)
def zq(K:af)(H:Hp)(w:Addr)(hs:Xa)(ts:Xb)(ps:aC):Prop:=∃(ds dn lt dh dy:Addr) (ad:Str->Addr) (gy:Str->V),eN K H w ds dn lt dh dy ad gy hs ts ps
variable{dh dn ds dy w:Addr}{G:Hp}{ad:Str->Addr}{gy:Str->V}
theorem eN.nt{K:af}{H:Hp}{lt:Addr}{hs:Xa}{ts:Xb}{ps:aC}(W:eN K H w ds dn lt dh dy ad gy hs ts ps)(s:NT H G):eN K G w ds dn lt dh dy ad gy hs ts ps:=
 #[s _ _ W.top nofun,s _ _ W.sg nofun,s _ _ W.nr nofun,λh hh=>s _ _ (W.ls h hh) nofun,s _ _ W.hv nofun,s _ _ W.wy nofun,λq hq=>(W.wv q hq).nt s,let #[zs,a,b]:=W.tl;#[zs,s.lst a,bg.nt b s]]
theorem eN.same{K:af}{H:Hp}{lt:Addr}{hs:Xa}{ts:Xb}{ps:aC}(W:eN K H w ds dn lt dh dy ad gy hs ts ps)(s:aa H G):eN K G w ds dn lt dh dy ad gy hs ts ps:=W.nt (NT.of s)
theorem zq.nt{K:af}{H:Hp}{hs:Xa}{ts:Xb}{ps:aC}(W:zq K H w hs ts ps)(s:NT H G):zq K G w hs ts ps:=by
 let#[ds,dn,lt,dh,dy,ad,gy,W]:=W;exact#[ds,dn,lt,dh,dy,ad,gy,W.nt s]
section
variable{H:Hp}{w ds dn lt dh dy:Addr}{K:af}{ad:Str->Addr}{gy:Str->V}{hs:Xa}{ts:Xb}{ps:aC}
theorem eN.gS(W:eN K H w ds dn lt dh dy ad gy hs ts ps):bU H w (.str "strength") (some (.ref ds)):=bU.k (k:=Sum.inr "strength") W.top
theorem eN.gN(W:eN K H w ds dn lt dh dy ad gy hs ts ps):bU H w (.str "near") (some (.ref dn)):=bU.k (k:=Sum.inr "near") W.top
theorem eN.gH(W:eN K H w ds dn lt dh dy ad gy hs ts ps):bU H w (.str "heavy") (some (.ref dh)):=bU.k (k:=Sum.inr "heavy") W.top
theorem eN.gW(W:eN K H w ds dn lt dh dy ad gy hs ts ps):bU H w (.str "ways") (some (.ref dy)):=bU.k (k:=Sum.inr "ways") W.top
theorem iE_:putK (putK (zy [] [((.inr "strength":Key),V.ref ds),(.inr "near",.ref dn),(.inr "ties",.ref lt)]) (.inr "heavy") (.ref dh)) (.inr "ways") (.ref dy)=Ca ds dn lt dh dy:=rfl
end
structure B8 (H0 H:Hp) (dn:Addr) (ad:Str->Addr) (ns:ae) (g:Str->ae):Prop where
 sm:aa H0 H
 nr:H dn=some (.dK (br ns λn=>.ref (ad n)))
 ls:EF H ns ad g
 fn:H0 dn=none
 fr:∀h∈ns,H0 (ad h)=none
variable{H0:Hp}{ns:ae}{g:Str->ae}
theorem B8.same{H:Hp}(N:B8 H0 H dn ad ns g)(s:aa H G):B8 H0 G dn ad ns g:=#[N.sm.trans s,s _ _ N.nr,#[λh hh=>s _ _ (N.ls.1 h hh),N.ls.2],N.fn,N.fr]
theorem B8.app{H:Hp}(N:B8 H0 H dn ad ns g){m:Str}(hn:n∈ns):B8 H0 (upd H (ad n) (.lst ((g n).map V.str++[.str m]))) dn ad ns (λh=>if h=n then g h++[m] else g h):=by
 let la:=N.ls.1 n hn;apply#[fN N.sm (N.fr n hn),by rw[au (cU N.nr la nofun)];exact N.nr,#[λh hh=>?_,N.ls.2],N.fn,N.fr];dsimp only;by_cases z:h=n
 ·subst z;rw[aA Z,az,b_];rfl
 ·rw[ao z,au λy=>z (N.ls.2 h hh n hn y)];exact N.ls.1 h hh
theorem B8.to{H:Hp}{g':Str->ae}(N:B8 H0 H dn ad ns g)(e:∀h,g h=g' h):B8 H0 H dn ad ns g':=by
 obtain rfl:g=g':=funext e;exact N
theorem gW_(ts:Xb)(h:Str):(c_ ts h).length<=2 * ts.length:=by
 induction ts with
 |nil=>exact gx _
 |cons t ts ih=>
  have:(F4 h t).length<=2:=by
   unfold F4;rw[dY];have h1:(if t.1=h then [t.2] else []).length<=1:=by split<;>simp
   have h2:(if t.2=h then [t.1] else []).length<=1:=by split<;>simp
   omega
  unfold c_ at ih ⊢;rw[Fj,dY,iE];omega
theorem jm_{ts:Xb}{i:Nat}{t:Str × Str}(ht:ts[i]? = some t)(h:Str):c_ (ts.take (i+1)) h=(c_ (ts.take i) h++if h=t.1 then [t.2] else [])++if h=t.2 then [t.1] else []:=by
 unfold c_;rw[iF,ht,Option.toList_some,IE,Fj,List.flatMap_nil,gK,Fk];unfold F4;congr 1;congr 1
 ·by_cases z:h=t.1
  ·rw[aA z,aA z.symm]
  ·rw[ao z,ao λy=>z y.symm]
 ·by_cases z:h=t.2
  ·rw[aA z,aA z.symm]
  ·rw[ao z,ao λy=>z y.symm]
theorem eM_{α β γ δ:Type}{F:α->γ->Prop}{G:α->δ->Prop}{g:β->γ}{k:β->δ}:∀{ys:List α} {ts:List β},Paired F ys (ts.map g)->(∀y t,F y (g t)->G y (k t))->Paired G ys (ts.map k)
 |_,[],t,_=>by rw[Fb] at t;cases t;exact .nil
 |_,b::ts,t,f=>by
  rw[el] at t;cases t with
  |cons h r=>rw[el];exact .cons (f _ _ h) (eM_ r f)
theorem hsK{hs:Xa}(nd:(hs.map (·.1)).Nodup):(hs.map λh=>((Sum.inr h.1:Key),V.int h.2))=br (hs.map (·.1)) λn=>.int (strOf hs n):=by
 unfold br;rw[cm]
 exact BC λh hh=>by
  show _=((Sum.inr h.1:Key),V.int (strOf hs h.1));rw[fS_ nd (show (h.1,h.2)∈hs from hh)]
theorem UM(nd:ns.Nodup)(g:Str->V):((br ns g).map (·.1)).Nodup:=by
 rw[L7,Fq,zE];exact nd.imp λn e=>n (hU e)
section
variable{P:Ad}{w:Af}{K:af}{mg:Str->Option Aa}{base:Heap}
abbrev wN:ae:=["_law_hands","_law_ties","_law_pieces","_law_near",BV,xR,"_law_ways_here","_law_heavy","_law_name","_law_weight_here","_law_told",BX]
theorem Fe:bD wN Ew (bb yC):=bJ
inductive WS (K:af) (vs:ag) (H:Hp) (Q:VK) (E:XK):Prop
 |mk:∀(lh lt lp:Addr) (yh zs yp:ag) (hs:Xa) (ts:Xb) (ps:aC),vs=[.ref lh,.ref lt,.ref lp]->H lh=some (.lst yh)->bg K H yh (hs.map kH)->H lt=some (.lst zs)->bg K H zs (ts.map kT)->H lp=some (.lst yp)->Kn K H yp ps->Good hs ts->(ps.map (·.1)).Nodup->ps.length<=30->(∀w H',aa H H'->H w=none->zq K H' w hs ts ps->Q (.ref w) H')->WS K vs H Q E
theorem iA_(F:bp K "_law_world" "_law_world" yC f0 fd)(B:Bi mg):!aj ba 1 f0 fd Ew (WS K):=by
 apply F.bI Fe λaR A outer s H vs Q E hr h=>?_
 ·let#[lh,lt,lp,yh,zs,yp,hs,ts,ps,rfl,g_,th,dc,tt,hlp,pc,Gd,Zx,wR,k]:=h;let sz:=ck;let hu:=eV hr;refine' #[_,?r0,?kk]
  case' r0=>refine' aq ?s1 ?r1
  case' r1=>refine' aq ?s2 ?r2
  case' r2=>refine' aq ?s3 ?r3
  case' r3=>refine' aq ?s4 ?r4
  case' r4=>refine' aq ?s5 ?r5
  case' r5=>refine' aq ?s6 ?r6
  case' r6=>refine' aq ?s7 (aq ?s8 (aH ?s9))
  case s1=>exact aX 3 Fe.nd (qe (Fl Z) (by rfl) B.dict BZ %[iS ["_law_name","_law_strength"] 2 [] (dE (pv 0)) (λfp s H=>RD (n:=2) (dZ (eZ (i:=0) (show (["_law_name","_law_strength"]:ae).Nodup by decide +kernel) Z (Or.inl Z)) (dZ (eZ (i:=1) (show (["_law_name","_law_strength"]:ae).Nodup by decide +kernel) Z (Or.inl Z)) jf))) (λfp s H=>iH) (λfp s H=>fe %[0,cK aE|0])|0])
  case' s2=>refine' eF dX Z (dE (pv 1)) (xk Z (dZ (cj 4 Fe.nd) (dZ (cj 5 Fe.nd) jf))) (aq ?b1 (aH ?b2))
  case b1=>exact h_ (gI h9 xY xZ xp (cb hu (pv 3) (pv 4)) %[5|0])
  case b2=>exact h_ (gI h9 xY xZ xp (cb hu (pv 3) (pv 5)) %[4|0])
  case s3=>exact aX 6 Fe.nd Ij
  case s4=>exact aX 7 Fe.nd Ij
  case' s5=>refine' eF dX Z (dE (pv 2)) (xk Z (dZ (cj 8 Fe.nd) (dZ (cj 9 Fe.nd) (dZ (cj 10 Fe.nd) jf)))) (aq ?c1 (aH ?c2))
  case c1=>exact B1 hu (pv 6) (pv 8) (pv 10) Z
  case c2=>exact B1 hu (pv 7) (pv 8) (pv 9) Z
  case s6=>exact aX 11 Fe.nd (kZ_ (Xz bZ (qe (Fl Z) (by rfl) B.dict BZ %[0|0]) (Xz bZ (pv 3) (Xz bZ (pv 1) kV_))) Z Z nofun (by decide))
  case s7=>exact B1 hu (pv 11) bZ (pv 7) Z
  case s8=>exact B1 hu (pv 11) bZ (pv 6) Z
  case s9=>exact bj (pv 11)
  let nd:=Gd.AC;let h8:=Gd.h8;let QJ:=bG th;rw[ak] at QJ;apply#[_,Z,lh,Z,#[_,.of g_],λD hD=>?_]
  let aQ:dG:=λi out H'=>∃ad:Str->Addr,aa H H'/\H' D=some (.lst out)/\i_ K H' out (br ((hs.map (·.1)).take i) λh=>.ref (ad h))/\EF H' ((hs.map (·.1)).take i) ad (λ_=>[])/\∀h∈(hs.map (·.1)).take i,H (ad h)=none/\ad h≠D
  apply yd (own:=2) (fv:=[]) (xs:=yh) Z OQ aQ #[λ_=>D,aa.new hD,az,.nil,#[by simp,by simp],by simp] (λi out H' _ ⟨_,sm,_⟩=>.of (sm _ _ g_)) (λout H2 ⟨ad,s2,i9,pa,ls,fr⟩=>?_) (λi x out H' hx ⟨ad,sm,hd,pa,ls,fr⟩=>?_);rotate_left
  ·let#[h0,hh0,a,rfl,ha]:=qc th hx;have hn:(hs.map (·.1))[i]? = some h0.1:=by rw[dQ,hh0];rfl
   have nn:h0.1∉(hs.map (·.1)).take i:=Py nd hn;apply#[_,#[a,_,_,Z,.of (sm _ _ (U2 ha)),Z],Z,λNx hN=>dM ?_];apply#[_,Z,zl,λl nl=>?_];let#[s3,e3]:=aB (o:=.lst []) nl;generalize upd H' l (.lst [])=H3 at s3 e3 ⊢;apply#[zl,λt nt=>?_];let#[s4,e4]:=aB (o:=.tup [.str h0.1,.ref l]) nt;generalize upd H3 t (.tup [.str h0.1,.ref l])=H4 at s4 e4 ⊢;let eY:=s3.trans s4;let Bo:=eY _ _ hd;have lD:l≠D:=λz=>by rw[z,hd] at nl;cases nl
   have P_:∀h∈(hs.map (·.1)).take i,ad h≠l:=λh hh z=>by
    have:=ls.1 h hh;rw[z,nl] at this;cases this
   let lo:=bG pa;rw[gq,cQ,ak] at lo
   have pD:∀{b:Addr} {zs:ag},H4 b=some (.tup zs)->b≠D:=λhb z=>by
    rw[z,Bo] at hb;cases hb
   have ne:∀h∈(hs.map (·.1)).take i,h≠h0.1:=λh hh z=>nn (z▸hh);apply#[out,Bo,by omega,hN (out++[.ref t]) _ #[λm=>if m=h0.1 then l else ad m,fN (sm.trans eY) hD,az,?_,#[λh hh=>?_,λh hh h' OA z=>?_],λh hh=>?_]]
   ·have e:br ((hs.map (·.1)).take (i+1)) (λh=>.ref (if h=h0.1 then l else ad h))=br ((hs.map (·.1)).take i) (λh=>.ref (ad h))++[(Sum.inr h0.1,.ref l)]:=by
     rw[eO hn];unfold br;rw[b_,el,Fb];dsimp only;rw[aA Z];congr 1;exact BC λm hm=>by rw[ao (ne m hm)]
    rw[e];exact vM (Paired.bu pa λy kv ⟨b,z,hb⟩=>#[b,z,by rw[au (pD (eY _ _ hb))];exact eY _ _ hb]) (.cons #[t,Z,by rw[au (pD e4)];exact e4] .nil)
   ·rw[eO hn] at hh;rcases fM.mp hh with hh|hh
    ·dsimp only;rw[ao (ne h hh),au (fr h hh).2];exact eY _ _ (ls.1 h hh)
    ·let z:=jd.mp hh;dsimp only;rw[aA z,au lD];exact s4 _ _ e3
   ·rw[eO hn] at hh OA;dsimp only at z;rcases fM.mp hh with a1|a1<;>rcases fM.mp OA with a2|a2
    ·rw[ao (ne h a1),ao (ne h' a2)] at z;exact ls.2 h a1 h' a2 z
    ·have a2:h'=h0.1:=by simpa using a2
     rw[ao (ne h a1),aA a2] at z;exact absurd z (P_ h a1)
    ·have a1:h=h0.1:=by simpa using a1
     rw[ao (ne h' a2),aA a1] at z;exact absurd z.symm (P_ h' a2)
    ·rw[show h=h0.1 by simpa using a1,show h'=h0.1 by simpa using a2]
   ·rw[eO hn] at hh;dsimp only;rcases fM.mp hh with hh|hh
    ·rw[ao (ne h hh)];exact fr h hh
    ·let z:=jd.mp hh;rw[aA z];exact#[sm.free nl,lD]
  rw[show yh.length=(hs.map (·.1)).length by rw[ak,QJ],dJ] at pa ls fr;have n8:(hs.map (·.1)).length<=8:=by rw[ak];exact h8
  apply#[D,out,_,Z,i9,pa,by rw[gq];omega,λdn Ub=>?_];rw[Fi (UM nd _)];lk;let s3:=aa.new (o:=.dK (br (hs.map (·.1)) λh=>V.ref (ad h))) Ub;have N0:B8 H (upd H2 dn (.dK (br (hs.map (·.1)) λh=>V.ref (ad h)))) dn ad (hs.map (·.1)) (c_ (ts.take 0)):=#[s2.trans s3,az,#[λh hh=>s3 _ _ (ls.1 h hh),ls.2],s2.free Ub,λh hh=>(fr h hh).1];generalize upd H2 dn (.dK (br (hs.map (·.1)) λh=>V.ref (ad h)))=H3 at N0 ⊢;clear s2 s3 i9 pa ls fr hD Ub
  let bH:cn:=λσ H'=>∃(v4 v5:aJ),σ=[some (.ref lh),some (.ref lt),some (.ref lp),some (.ref dn),v4,v5,none,none,none,none,none,none]/\B8 H H' dn ad (hs.map (·.1)) (c_ ts)
  apply dz bH ?m2 ?m1
  case m1=>
   intro N1 hN;let lz:=bG tt;rw[ak] at lz;let wC:=Gd.wC
   let eX:bL:=λi σ H'=>∃(v4 v5:aJ),σ=[some (.ref lh),some (.ref lt),some (.ref lp),some (.ref dn),v4,v5,none,none,none,none,none,none]/\B8 H H' dn ad (hs.map (·.1)) (c_ (ts.take i))
   apply#[_,Z,lt,Z,#[_,.of (N0.sm _ _ dc)],fW (K:=K) (a:=lt) (xs:=zs) eX #[none,none,Z,N0] (λi σ H' _ ⟨_,_,_,N⟩=>.of (N.sm _ _ dc)) ?_ ?_]
   ·rintro i x σ H4 hx ⟨v4,v5,rfl,N⟩;let#[t,ht,a,rfl,ha]:=qc tt hx;let F6:=Gd.A6 t (cu ht);let SW:=(Gd.tok t (cu ht)).2.2;apply#[a,_,Z,.of (N.sm _ _ (EM ha)),Z,_,_,Z,_,_,Z,Z,?_];dsimp only;have hi:i<ts.length:=(cc.mp ht).1;let l1:=gW_ (ts.take i) t.1;let l2:=gW_ (ts.take i) t.2;rw[cQ] at l1 l2;let e1:=N.ls.1 _ F6.1;let N2:=N.app (m:=t.2) F6.1;let e2:=N2.ls.1 _ F6.2;apply#[_,Z,_,Z,dn,_,Z,gm N.nr F6.1,.inl #[Z,_,.of e1],_,Z,ad t.1,_,_,Z,Z,e1,by rw[ak];omega,?_];apply#[_,Z,_,Z,dn,_,Z,gm N2.nr F6.2,.inl #[Z,_,.of e2],_,Z,ad t.2,_,_,Z,Z,e2,?_,?_]
    ·have z:¬t.2=t.1:=λz=>SW z.symm;rw[ak];simp only[ao z];omega
    apply#[_,_,Z,(N2.app (m:=t.1) F6.2).to λh=>?_];show (if h=t.2 then (if h=t.1 then c_ (ts.take i) h++[t.2] else c_ (ts.take i) h)++[t.1] else if h=t.1 then c_ (ts.take i) h++[t.2] else c_ (ts.take i) h)=_;rw[jm_ ht];by_cases z1:h=t.1
    ·rw[ao (c:=h=t.2) (λz=>SW (z1.symm.trans z)),aA z1,ao (c:=h=t.2) (λz=>SW (z1.symm.trans z)),aA z1,gK]
    ·by_cases z2:h=t.2
     ·rw[aA z2,ao z1,aA z2,ao z1,gK]
     ·rw[ao z2,ao z1,ao z2,ao z1,gK,gK]
   ·rintro σ H4 ⟨v4,v5,rfl,N⟩;rw[lz,dJ] at N;exact hN _ _ #[_,_,Z,N]
  rintro σ H4 ⟨v4,v5,rfl,N⟩;apply λdy ny=>?_;lk;let#[s5,e5]:=aB (o:=.dK []) ny;generalize upd H4 dy (.dK [])=H5 at s5 e5 ⊢;apply λdh nh=>?_;lk;let#[s6,e6]:=aB (o:=.dK []) nh;generalize upd H5 dh (.dK [])=H6 at s6 e6 ⊢;let N6:=(N.same s5).same s6;have hy:dh≠dy:=λz=>by rw[z,e5] at nh;cases nh
  have fy:H dy=none:=N.sm.free ny;have fh:H dh=none:=(N.sm.trans s5).free nh;let ye:=s6 _ _ e5;have ney:∀{b:Addr} {o:HO},H4 b=some o->b≠dy:=λe z=>by rw[z,ny] at e;cases e
  have neh:∀{b:Addr} {o:HO},H4 b=some o->b≠dh:=λe z=>by rw[z] at e;have:=s5 _ _ e;rw[nh] at this;cases this
  let qf:cn:=λσ H'=>∃(v4 v5 v8 v9 v10:aJ) (gy:Str->V),σ=[some (.ref lh),some (.ref lt),some (.ref lp),some (.ref dn),v4,v5,some (.ref dy),some (.ref dh),v8,v9,v10,none]/\aa H4 H'/\H' dh=some (.dK (br (ps.map (·.1)) λn=>.int (d6 ps n)))/\H' dy=some (.dK (br (ps.map (·.1)) gy))/\∀q∈ps,bS K H' (gy q.1) q.2.2
  apply dz qf ?m4 ?m3
  case m3=>
   intro N1 hN;let lz:=bG pc
   let EC:bL:=λi σ H'=>∃(v8 v9 v10:aJ) (gy:Str->V),σ=[some (.ref lh),some (.ref lt),some (.ref lp),some (.ref dn),v4,v5,some (.ref dy),some (.ref dh),v8,v9,v10,none]/\aa H4 H'/\H' dh=some (.dK (br ((ps.map (·.1)).take i) λn=>.int (d6 ps n)))/\H' dy=some (.dK (br ((ps.map (·.1)).take i) gy))/\∀q∈ps.take i,bS K H (gy q.1) q.2.2
   apply#[_,Z,lp,Z,#[_,.of (N6.sm _ _ hlp)],fW (K:=K) (a:=lp) (xs:=yp) EC #[none,none,none,λ_=>.non,Z,s5.trans s6,e6,ye,by simp] (λi σ H' _ ⟨_,_,_,_,_,sm,_⟩=>.of (sm _ _ (N.sm _ _ hlp))) ?_ ?_]
   ·rintro i x σ H7 hx ⟨v8,v9,v10,gy,rfl,sm,Ky,Kt,wy⟩;let#[q,hq,a,v,rfl,ha,wv]:=qc (g:=id) (by rw[List.map_id];exact pc) hx;have hn:(ps.map (·.1))[i]? = some q.1:=by rw[dQ,hq];rfl
    have hi:i<ps.length:=(cc.mp hq).1;let nn:=Py Zx hn;have ne:∀m∈(ps.map (·.1)).take i,m≠q.1:=λm hm z=>nn (z▸hm);apply#[a,_,Z,.of (sm _ _ (N.sm _ _ ha)),Z,_,_,Z,_,_,Z,_,_,Z,Z,?_];dsimp only;apply#[_,Z,_,Z,_,Z,dy,_,Z,.k (k:=Sum.inr q.1) Kt (by rw[gq,cQ,ak];omega),?_];have dh8:upd H7 dy (.dK (putK (br ((ps.map (·.1)).take i) gy) (Sum.inr q.1) v)) dh=some (.dK (br ((ps.map (·.1)).take i) λn=>.int (d6 ps n))):=by rw[au hy];exact Ky
    apply#[_,Z,_,Z,_,Z,dh,_,Z,.k (k:=Sum.inr q.1) dh8 (by rw[gq,cQ,ak];omega),?_];apply#[_,_,_,λm=>if m=q.1 then v else gy m,Z,λb o e=>?_,?_,?_,λq' hq'=>?_]
    ·rw[au (neh e),au (ney e)];exact sm _ _ e
    ·rw[az,Pd nn,eO hn];apply dU (λx=>some (HO.dK x)) (P8 λm hm=>?_);by_cases z:m=q.1
     ·rw[aA z,z,Gx Zx (cu hq)];rfl
     ·rw[ao z]
    ·rw[au hy.symm,az,Pd nn,eO hn]
    ·dsimp only;rw[iF,hq,Option.toList_some] at hq';rcases fM.mp hq' with hq'|hq'
     ·rw[ao (ne _ (by rw[<- List.map_take];exact bh.mpr #[_,hq',Z]))];exact wy q' hq'
     ·obtain rfl:=jd.mp hq';rw[aA Z];exact wv
   ·rintro σ H7 ⟨v8,v9,v10,gy,rfl,sm,Ky,Kt,wy⟩;rw[lz] at Ky Kt wy;rw[GM (by rw[ak];exact bo _)] at Ky Kt;rw[dJ] at wy;exact hN _ _ #[_,_,_,_,_,gy,Z,sm,Ky,Kt,λq hq=>(wy q hq).same (N.sm.trans sm)]
  rintro σ H7 ⟨v4,v5,v8,v9,v10,gy,rfl,sm,Ky,Kt,wy⟩;apply λwa nw=>?_;let#[s8,e8]:=aB (o:=.dK []) nw;generalize upd H7 wa (.dK [])=H8 at s8 e8 ⊢;let Zs:=(N.sm.trans sm).trans s8
  have kvs:i_ K H8 yh (hs.map λh=>((Sum.inr h.1:Key),V.int h.2)):=by
   exact eM_ th λy h ⟨b,z,q⟩=>#[b,z,Zs _ _ (U2 q)]
  apply#[_,Z,lh,yh,_,Z,Zs _ _ g_,kvs,by rw[ak];omega,λds Ua=>?_];rw[hsK nd,Fi (UM nd _)];let#[s9,e9]:=aB (o:=.dK (br (hs.map (·.1)) λn=>V.int (strOf hs n))) Ua;generalize upd H8 ds (.dK (br (hs.map (·.1)) λn=>V.int (strOf hs n)))=H9 at s9 e9 ⊢;apply#[_,Z,_,Z,s9 _ _ e8,[((.inr "strength":Key),V.ref ds),(.inr "near",.ref dn),(.inr "ties",.ref lt)],Z,by show 3<=15;decide,?_];lk;apply#[_,Z,_,Z,wa,_,Z,.k (k:=Sum.inr "heavy") az (by show 3<sizeLine;decide),?_];apply#[_,Z,_,Z,wa,_,Z,.k (k:=Sum.inr "ways") az (by show 4<sizeLine;decide),?_];have Ng:H wa=none:=(N.sm.trans sm).free nw;have new:∀{b:Addr} {o:HO},H7 b=some o->b≠wa:=λe z=>by rw[z,nw] at e;cases e
  have W2:ds≠wa:=λz=>by rw[z,e8] at Ua;cases Ua
  have up:∀{b:Addr} {o:HO},H7 b=some o->upd (upd (upd H9 wa (.dK (zy [] [((.inr "strength":Key),V.ref ds),(.inr "near",.ref dn),(.inr "ties",.ref lt)]))) wa (.dK (putK (zy [] [((.inr "strength":Key),V.ref ds),(.inr "near",.ref dn),(.inr "ties",.ref lt)]) (Sum.inr "heavy") (.ref dh)))) wa (.dK (putK (putK (zy [] [((.inr "strength":Key),V.ref ds),(.inr "near",.ref dn),(.inr "ties",.ref lt)]) (Sum.inr "heavy") (.ref dh)) (Sum.inr "ways") (.ref dy))) b=some o:=λ{b o} e=>by
   rw[au (new e),au (new e),au (new e)];exact s9 _ _ (s8 _ _ e)
  apply#[_,Z,k wa _ (λb o e=>up (sm _ _ (N.sm _ _ e))) Ng #[ds,dn,lt,dh,dy,ad,gy,?_,?_,up (sm _ _ N.nr),λh hh=>up (sm _ _ (N.ls.1 h hh)),up Ky,up Kt,λq hq=>?_,zs,up (sm _ _ (N.sm _ _ dc)),Paired.bu tt λy k ⟨b,z,q⟩=>#[b,z,up (sm _ _ (N.sm _ _ q))]]]
  ·rw[az,iE_]
  ·rw[au W2,au W2,au W2];exact e9
  ·exact (wy q hq).same λb o e=>up e
end
end Ev
namespace L2
open PySem PySem.Spec PyProof.Rows PySem.W
theorem WX{d:Addr}{o:Obj}{kvs:List (Key × V)}{g:TG}{tb:TS}{D:Ends}{σ:St}{H:Hp}(Pv:bL)(h0:Pv 0 σ H)(hl:∀i σ H,i<=kvs.length->Pv i σ H->H d=some (.frz o (.dK kvs)))
  (hs:∀i k x σ H,kvs[i]? = some (k,x)->Pv i σ H->g (kV k) σ H λgz H2=>tb { D with nx:=Pv (i+1),ct:=Pv (i+1),bk:=D.nx } gz H2) (hd:∀σ H,Pv kvs.length σ H->D.nx σ H) :
  ∃W:Nat->Nat->St->Hp->Prop,(∃m,W 0 m σ H)/\∀i m σ H,W i m σ H->
   ((Mh d o kvs).stop i H/\D.nx σ H)∨((Mh d o kvs).go i H/\∃N:St->Hp->Prop,(∀bq H',N bq H'->∃m',m'<m/\W (i+1) m' bq H')/\∀x H',(Mh d o kvs).Fw i H x H'->g x σ H' λgz H2=>tb { D with nx:=N,ct:=N,bk:=D.nx } gz H2):=by
 apply#[λi m σ H=>m=kvs.length - i/\i<=kvs.length/\Pv i σ H,#[kvs.length,by simp,gx _,h0],?_];rintro i m σ H ⟨rfl,hi,p⟩;let q:=hl i σ H hi p;by_cases dc:i<kvs.length
 ·apply .inr #[#[q,dc],Pv (i+1),λbq H' p'=>#[kvs.length - (i+1),by omega,Z,dc,p'],λx H' y=>?_];let#[rfl,k,v,hx,rfl]:=y;exact hs i k v σ _ hx p
 ·have e:i=kvs.length:=by omega
  subst e;exact .inl #[#[q,bo _],hd σ H p]
theorem Pq:∀{xs:ag} {us:ax},Vals xs us->xs.all AM=true->∀(k:V) (j:Nat) (h:j<us.length),∃h2:j<xs.length,xQ k us[j]=pW xs[j] k
 |_,_,.nil,_,k,j,h=>absurd h (Nat.not_lt_zero _)
 |y::xs,u::us,.cons r t,f,k,j,h=>by
  rw[List.all_cons,Ft] at f;cases j with
  |zero=>exact#[Nat.zero_lt_succ _,UN r f.1]
  |succ j=>
   let#[h2,e]:=Pq t f.2 k j (Nat.lt_of_succ_lt_succ h);exact#[Nat.succ_lt_succ h2,e]
inductive Ar (x:V) (vs:ag) (H:Hp) (Q:VK):Prop
 |mk:∀(l:Addr) (xs:ag) (k:V) (j:Nat),x=.ref l->vs=[k]->H l=some (.lst xs)->AM k=true->xs.all AM=true->j<1000->(∃y,xs[j]? = some y/\pW y k=true)->(∀i y,i<j->xs[i]? = some y->pW y k=false)->Q (.int (j:Int)) H->Ar x vs H Q
variable{X:Cx}
theorem hv_:Me X "list.index" Ar:=by
 intro pins s σ H x vs v us Q I rx rv h;let#[l,xs,k,j,rfl,rfl,hH,fk,fx,hj,#[y,hy,ey],no,q]:=h;cases rx;let#[u,rfl,ru]:=rv.one;let#[z,its,n,r,hl,e]:=I.pN hH;let#[hjx,Wg]:=cc.mp hy;apply call_meets PySem.F.slot_list_index ⟨_,e,rfl⟩ PySem.F.entry_list_index (PySem.F.args_list_index_2 _ _) (SeqAt.list_indexAt l its.toArray n none _ u (xQ k) j (by show j<its.length;omega) Z1 ?_ ?_) ⟨e,λy hy=>PB ru fk r fx y (by simpa using hy),⟨.int _,H,I.tok _,⟨_,rfl⟩,q⟩⟩
 ·let#[h2,e2]:=Pq r fx k j Z1;show xQ k its[j]=true;rw[e2,Wg];exact ey
 ·intro m hm lt;let#[h2,e2]:=Pq r fx k m (by simpa using hm);show xQ k its[m]=false;rw[e2];exact no m _ lt (dq h2)
end L2
namespace Ev
open PySem L2
theorem L0{H:Hp}{d:Addr}{ns:ae}{g:Str->V}{n:Str}(r:Rd H d (.dK (br ns g)))(h:n∈ns):bU H d (.str n) (some (g n)):=by
 rw[<- Pe (g:=g) h];exact .inl ⟨_,Sum.inr n,r,rfl,rfl⟩
variable{kvs:List (Key × V)}
theorem UH{d:Addr}{o:Obj}{H H':Hp}(f:Fz d o kvs H H'):Rd H' d (.dK kvs):=.inr ⟨o,f.at_⟩
structure Pw (hs:Xa) (ts:Xb) (ps:aC) (f:ai):Prop where
 Gd:Good hs ts
 gp:∀q∈ps,Ko ts q
 nd:(ps.map (·.1)).Nodup
 wR:ps.length<=30
 at_:∀n∈ps.map (·.1),f n∈hs.map (·.1)
abbrev EO(ps:aC)(f:ai)(n:Str):Int:=ld f (ps.map gi) n
theorem Pw.pQ{hs:Xa}{ts:Xb}{ps:aC}{f:ai}(W:Pw hs ts ps f)(n:Str):0<=EO ps f n/\EO ps f n<=64000000000:=QN (λq hq=>⟨by have:=(W.gp q hq).w1;omega,(W.gp q hq).w2⟩) (by have:=W.wR;omega) f n
theorem Pw.bM{hs:Xa}{ts:Xb}{ps:aC}{f:ai}(W:Pw hs ts ps f){n:Str}(h:n∈hs.map (·.1)):1<=strOf hs n/\strOf hs n<=1000:=(W.Gd.aO _ (GG h)).2
theorem Pw.wt{hs:Xa}{ts:Xb}{ps:aC}{f:ai}(W:Pw hs ts ps f){n:Str}(h:n∈ps.map (·.1)):1<=d6 ps n/\d6 ps n<=1000000000:=by
 let#[q,hq,rfl]:=bh.mp h;rw[Gx W.nd hq];exact⟨(W.gp q hq).w1,(W.gp q hq).w2⟩
theorem lv_{ps:aC}{f:ai}{n:Str}(hn:n∈ps.map (·.1))(h:∀x∈kvs,∃a,x.2=V.ref a)(e:kvs=dH (ps.map (·.1)) f):False:=by
 have m:((Sum.inr n:Key),V.str (f n))∈kvs:=by
  rw[e];exact bh.mpr ⟨n,hn,rfl⟩
 let#[a,z]:=h _ m;cases z
theorem lW_{ns:ae}{f:ai}{g:Str->Int}{n:Str}(hn:n∈ns)(e:br ns (λn=>.int (g n))=dH ns f):False:=by
 have m:((Sum.inr n:Key),V.str (f n))∈br ns (λn=>.int (g n)):=by
  rw[e];exact bh.mpr ⟨n,hn,rfl⟩
 let#[k,_,z]:=bh.mp m;cases (Prod.mk.inj z).2
variable{f0:Addr}{fd:Ae}
section
variable{P:Ad}{w:Af}{K:af}{mg:Str->Option Aa}{base:Heap}
abbrev hdN:ae:=[fU,iO,BX,AL]
theorem yA:bD hdN xt (bb C_):=bJ
inductive O6 (K:af) (vs:ag) (H:Hp) (Q:VK) (E:XK):Prop
 |mk:∀(wa sd:Addr) (hs:Xa) (ts:Xb) (ps:aC) (f:ai),vs=[.ref wa,.ref sd]->zq K H wa hs ts ps->Pw hs ts ps f->H sd=some (.dK (dH (ps.map (·.1)) f))->(∀d H',aa H H'->H d=none->H' d=some (.dK (br (hs.map (·.1)) λn=>.int (EO ps f n)))->Q (.ref d) H')->O6 K vs H Q E
theorem l1_(F:bp K "_law_held" "_law_held" C_ f0 fd)(B:Bi mg):!aj ba 1 f0 fd xt (O6 K):=by
 apply F.bI yA λaR A outer s H vs Q E hr h=>?_
 ·let#[wa,sd,hs,ts,ps,f,rfl,#[ds,dn,lt,dh,dy,ad,gy,W],Pp,ib,k]:=h;let sz:=ck;let hu:=eV hr;refine' #[_,aq ?s1 (aq ?s2 (aH ?s3)),?kk]
  case s1=>exact KN (aX 2 yA.nd (qe (Fl Z) (by rfl) B.dict BZ %[iS ["_law_name"] 1 [] (Pr (cb hu (pv 0) bZ)) (λfp s H=>eZ (i:=0) (show (["_law_name"]:ae).Nodup by decide +kernel) Z (Or.inl Z)) (λfp s H=>iH) (λfp s H=>fe %[0,aK|0])|0]))
  case s2=>exact KN (eF dX Z (Pr (pv 1)) (cj 3 yA.nd) (aH (kO_ hu (pv 2) (cb hu (pv 1) (pv 3)) (cb hu (cb hu (pv 0) bZ) (pv 3)) lS_ (λ_ _ _=>rfl))))
  case s3=>exact bj (pv 2)
  let AC:=Pp.Gd.AC;have h8:(hs.map (·.1)).length<=8:=by rw[ak];exact Pp.Gd.h8
  apply#[ds,_,W.sg,?_];apply#[_,Z,wa,_,Z,W.gS,ds,_,Z,W.sg,λo D hD=>?_]
  have GS:D≠ds:=by
   intro z;rw[z,az] at hD;cases hD
  have J9:H D=none:=by rw[au GS] at hD;exact hD
  let aQ:dG:=λi out H'=>Fz ds o (br (hs.map (·.1)) λn=>.int (strOf hs n)) H H'/\H' D=some (.lst out)/\i_ K H' out (br ((hs.map (·.1)).take i) λ_=>.int 0)
  apply eH_ (own:=1) (fv:=[]) Z dP aQ #[Fz.start.put J9 GS,az,.nil] (λi out H' _ ⟨z,_,_⟩=>z.at_) (λout H2 ⟨fz,i9,pa⟩=>?_) (λi ky x out H' hx ⟨fz,eI,pa⟩=>?_);rotate_left 1
  ·let#[n,hn,rfl,rfl]:=GE hx;have hi:i<(hs.map (·.1)).length:=(cc.mp hn).1;apply#[_,Z,Z,λNx hN=>dM ?_];apply#[_,Z,zl,λt ht=>?_];let s5:=aa.new (o:=.tup [.str n,.int 0]) ht;let lo:=bG pa;rw[gq,cQ] at lo;apply#[out,s5 _ _ eI,by omega,hN _ _ #[(fz.step s5).put J9 GS,az,?_]];have Hw:upd H' t (.tup [.str n,.int 0]) t=some (.tup [.str n,.int 0]):=az;have pD:∀{b:Addr} {ys:ag},upd H' t (.tup [.str n,.int 0]) b=some (.tup ys)->b≠D:=λhb=>cU hb (s5 _ _ eI) nofun;rw[eO hn];show i_ K _ _ (((hs.map (·.1)).take i++[n]).map _);rw[b_];exact vM (Paired.bu pa λy kv ⟨b,z,hb⟩=>#[b,z,by rw[au (pD (s5 _ _ hb))];exact s5 _ _ hb]) (.cons #[t,Z,by rw[au (pD Hw)];exact Hw] .nil)
  rw[gq,dJ] at pa;apply#[D,out,_,Z,i9,pa,by rw[gq];omega,λdf Dz=>?_];rw[Fi (UM AC _)];have Gr:df≠ds:=λz=>by rw[z,fz.at_] at Dz;cases Dz
  have wW:H df=none:=by
   cases e:H df with
   |none=>rfl
   |some u=>have:=fz.sm _ _ Gr e;rw[Dz] at this;cases this
  have VM:Fz ds o (br (hs.map (·.1)) λn=>.int (strOf hs n)) H (upd H2 df (.dK (br (hs.map (·.1)) λ_=>.int 0))):=fz.put wW Gr;lk;apply#[o,VM.at_,?_];let s3:=VM.pG W.sg;have e3:upd (upd H2 df (.dK (br (hs.map (·.1)) λ_=>.int 0))) ds (.dK (br (hs.map (·.1)) λn=>.int (strOf hs n))) df=some (.dK (br (hs.map (·.1)) λ_=>.int 0)):=by rw[au Gr,az]
  generalize upd (upd H2 df (.dK (br (hs.map (·.1)) λ_=>.int 0))) ds (.dK (br (hs.map (·.1)) λn=>.int (strOf hs n)))=H3 at s3 e3 ⊢;clear VM fz pa i9 hD J9 Dz Gr GS;let W3:=W.same s3;let w_:=s3 _ _ ib;have KA:df≠sd:=(bx ib wW).symm;have dwd:wa≠df:=bx W.top wW;have dhd:dh≠df:=bx W.hv wW;apply#[sd,_,w_,?_];apply#[_,Z,sd,_,Z,w_,λo2=>?_]
  let bH:bL:=λi σ H'=>∃v3:aJ,σ=[some (.ref wa),some (.ref sd),some (.ref df),v3]/\H' sd=some (.frz o2 (.dK (dH (ps.map (·.1)) f)))/\(∀b u,b≠sd->b≠df->H3 b=some u->H' b=some u)/\H' df=some (.dK (br (hs.map (·.1)) λn=>.int (ld f ((ps.take i).map gi) n)))
  apply WX bH #[none,Z,az,λb u n1 n2 e=>by rw[au n1];exact e,by rw[au KA];exact e3] (λi σ H' _ ⟨_,_,z,_⟩=>z) ?_ ?_
  ·rintro i ky x σ H4 hx ⟨v3,rfl,fz,kp,xb⟩;let#[n,hn,rfl,rfl]:=GE hx;let nm:=cu hn;rw[dQ,Iy] at hn;let#[q,hq,rfl]:=hn;let hqm:=cu hq;let fm:=Pp.at_ _ nm;have SV:H4 wa=some (.dK (Ca ds dn lt dh dy)):=kp _ _ (λz=>lv_ (ps:=ps) (f:=f) nm (λx hx=>by simp only[Ca,bW,Fs,or_false] at hx;rcases hx with rfl|rfl|rfl|rfl|rfl<;>exact#[_,Z]) (HO.dK.inj (ee ((z▸W3.top).symm.trans w_)))) dwd W3.top
   have UU:H4 dh=some (.dK (br (ps.map (·.1)) λn=>.int (d6 ps n))):=kp _ _ (λz=>lW_ nm (HO.dK.inj (ee ((z▸W3.hv).symm.trans w_)))) dhd W3.hv;lk;apply#[_,Z,_,Z,_,Z,sd,_,Z,L0 (.inr #[o2,fz]) nm,df,_,Z,gm xb fm,?_];apply#[_,Z,wa,_,Z,bU.k (k:=Sum.inr "heavy") SV,_,Z,dh,_,Z,gm UU nm,?_];apply#[_,_,Z,Z,_,.k (k:=Sum.inr (f q.1)) xb (by rw[gq];omega),?_];apply#[_,Z,by rw[au KA.symm];exact fz,λb u n1 n2 e=>by rw[au n2];exact kp b u n1 n2 e,?_];rw[az,_J fm];apply dU (λx=>some (HO.dK x)) (P8 λm hm=>?_);rw[iF,hq,Option.toList_some,b_,el,Fb,hP_];by_cases z:m=f q.1
   ·rw[aA z,aA (show m=f (gi q).1 from z),z,Gx Pp.nd hqm];rfl
   ·rw[ao z,ao (show ¬m=f (gi q).1 from z)]
  ·rintro σ H4 ⟨v3,rfl,fz,kp,xb⟩;rw[gq,ak,dJ] at xb;apply#[o2,fz,_,Z,k df _ (λb u e=>?_) wW (by rw[au KA];exact xb)];by_cases z:b=sd
   ·rw[z] at e ⊢;rw[ib] at e;rw[az];exact e
   ·rw[au z];exact kp b u z (bx e wW) (s3 _ _ e)
def hX(hs:Xa)(ps:aC)(f:ai)(a b:Str):Int:=EO ps f a * strOf hs b - EO ps f b * strOf hs a
theorem CQ:bD [fU,"_law_held_here",BV,xR,"_law_strength"] xv (bb Di):=bJ
inductive O0 (K:af) (vs:ag) (H:Hp) (Q:VK) (E:XK):Prop
 |mk:∀(wa d:Addr) (a b:Str) (hs:Xa) (ts:Xb) (ps:aC) (f:ai),vs=[.ref wa,.ref d,.str a,.str b]->zq K H wa hs ts ps->Pw hs ts ps f->H d=some (.dK (br (hs.map (·.1)) λn=>.int (EO ps f n)))->a∈hs.map (·.1)->b∈hs.map (·.1)->Q (.int (hX hs ps f a b)) H->O0 K vs H Q E
theorem kg_(F:bp K "_law_drop" "_law_drop" Di f0 fd):!aj ba 1 f0 fd xv (O0 K):=by
 apply F.bI CQ λaR A outer s H vs Q E hr h=>?_
 ·let#[wa,d,a,b,hs,ts,ps,f,rfl,#[ds,dn,lt,dh,dy,ad,gy,W],Pp,hd,ha,hb,k]:=h;let hu:=eV hr;refine' #[_,aq ?s1 (aH ?s2),?kk]
  case s1=>exact aX 4 CQ.nd (cb hu (pv 0) bZ)
  case s2=>exact bj (bF Re (bF pY (cb hu (pv 1) (pv 2)) (cb hu (pv 4) (pv 3))) (bF pY (cb hu (pv 1) (pv 3)) (cb hu (pv 4) (pv 2))))
  let h1:=Pp.pQ a;let h2:=Pp.pQ b;let e1:=Pp.bM ha;let e2:=Pp.bM hb;apply#[_,Z,wa,_,Z,W.gS,?_];lk;apply#[_,Z,_,Z,d,_,Z,gm hd ha,_,Z,_,Z,ds,_,Z,gm W.sg hb,_,_,Z,Z,.inr #[by omega,by omega],?_];exact#[_,Z,_,Z,d,_,Z,gm hd hb,_,Z,_,Z,ds,_,Z,gm W.sg ha,_,_,Z,Z,.inr #[by omega,by omega],_,_,Z,Z,k]
def fB(ts:Xb)(ps:aC)(n a b:Str):Bool:=decide (b∈c_ ts a)&&match IL ps n with
 |none=>true
 |some ws=>decide ((a,b)∈ws) || decide ((b,a)∈ws)
theorem CI:bD [fU,AL,BV,xR,"_law_ways_here"] A2 (bb C6):=bJ
inductive Rc (K:af) (vs:ag) (H:Hp) (Q:VK) (E:XK):Prop
 |mk:∀(wa:Addr) (n a b:Str) (hs:Xa) (ts:Xb) (ps:aC) (f:ai),vs=[.ref wa,.str n,.str a,.str b]->zq K H wa hs ts ps->Pw hs ts ps f->n∈ps.map (·.1)->a∈hs.map (·.1)->(∀H',aa H H'->Q (.bl (fB ts ps n a b)) H')->Rc K vs H Q E
theorem kS_(F:bp K "_law_may" "_law_may" C6 f0 fd):!aj ba 1 f0 fd A2 (Rc K):=by
 apply F.bI CI λaR A outer s H vs Q E hr h=>?_
 ·let#[wa,n,a,b,hs,ts,ps,f,rfl,#[ds,dn,lt,dh,dy,ad,gy,W],Pp,hn,ha,k]:=h;let hu:=eV hr;refine' #[_,aq ?s1 (aq ?s2 (aH ?s3)),?kk]
  case s1=>exact aX 4 CI.nd (cb hu (cb hu (pv 0) bZ) (pv 1))
  case s2=>exact bN (cz (RX fH (xV hr 0)) (pv 3) (cb hu (cb hu (pv 0) bZ) (pv 2)) (by with_unfolding_all rfl)) (aH (bj Gq)) bP
  case s3=>exact bj (Lz (iR _z (pv 4) Kv) (Lz (iR (O8 (GD fH fH) (xV hr _)) (fe %[2,3|0]) (pv 4) (by with_unfolding_all rfl)) (AO (iR (O8 (GD fH fH) (xV hr _)) (fe %[3,2|0]) (pv 4) (by with_unfolding_all rfl)))))
  let#[q,hq,rfl]:=bh.mp hn;let wv:=W.wv q hq;let wn:=NY Pp.nd hq;apply#[_,Z,wa,_,Z,W.gW,_,Z,dy,_,Z,gm W.wy hn,?_];lk;apply#[_,Z,_,Z,wa,_,Z,W.gN,_,Z,dn,_,Z,gm W.nr ha,b,c_ ts a,Z,#[ad a,_,Z,.of (W.ls a ha),KS _],_,Z,?_];have fin:∀{H1:Hp} {r:Bool},aa H H1->fB ts ps q.1 a b=r->Q (.bl r) H1:=λs e=>e▸k _ s;apply aM (λc=>?_) (λc=>?_)
  ·apply fin (aa.refl H) ?_;unfold fB;have c:¬b∈c_ ts a:=by simpa using c
   rw[dR c,By]
  ·have c:b∈c_ ts a:=by simpa using c
   have ml:fB ts ps q.1 a b=match q.2.2 with
    |none=>true
    |some ws=>decide ((a,b)∈ws) || decide ((b,a)∈ws):=by
    unfold fB;rw[cw c,Bool.true_and,wn]
   cases o:q.2.2 with
   |none=>
    rw[o] at wv ml;have wv:gy q.1=.non:=wv;apply#[_,Z,Z,_,Z,?_];rw[wv];exact fin (aa.refl H) ml
   |some ws=>
    rw[o] at wv ml;let#[aw,ys,e,hw,tw]:=wv;apply#[_,Z,Z,_,Z,?_];rw[e];apply#[_,Z,_,Z,zl,λt1 n1=>?_];let#[s1,e1]:=aB (o:=.tup [.str a,.str b]) n1;generalize upd H t1 (.tup [.str a,.str b])=H1 at s1 e1 ⊢;apply#[_,Z,(a,b),ws,#[t1,_,_,Z,.of e1,Z,Z],#[aw,ys,Z,.of (s1 _ _ hw),Pg (tw.same s1)],_,Z,?_];apply aM (λc2=>?_) (λc2=>?_)
    ·apply fin s1 (ml.trans ?_);have c2:(a,b)∈ws:=by simpa using c2
     simp[c2]
    ·apply#[_,Z,_,Z,zl,λt2 n2=>?_];let#[s2,e2]:=aB (o:=.tup [.str b,.str a]) n2;generalize upd H1 t2 (.tup [.str b,.str a])=H2 at s2 e2 ⊢;apply#[_,Z,(b,a),ws,#[t2,_,_,Z,.of e2,Z,Z],#[aw,ys,Z,.of (s2 _ _ (s1 _ _ hw)),Pg (tw.same (s1.trans s2))],fin (s1.trans s2) (ml.trans ?_)];have c2:¬(a,b)∈ws:=by simpa using c2
     simp[c2]
theorem FT:bD A1 A1 (bb yP):=bJ
def zZ:Sp:=λvs H Q _=>∃(g:Str) (a b:Int),vs=[.str g,.int a,.int b]/\g∈(xq:ae)/\-(2 ^ 63)<a/\a<2 ^ 63/\∀H',aa H H'->Q (.bl (pV g a b)) H'
theorem j3_(F:bp K "_law_is_fit" "_law_is_fit" yP f0 fd):!aj ba 1 f0 fd A1 zZ:=by
 apply F.bI FT λaR A outer s H vs Q E hr h=>?_
 ·let#[g,a,b,rfl,hg,a1,a2,k]:=h;refine' #[_,aH (bj (bO gg (cK %[iR BU (pv 1) aK,iR BU (bF pY aK (pv 1)) (pv 2),iR ZQ (pv 1) (pv 2)|0]) (gI h9 PySem.F.slot_list_index PySem.F.type_list_index hv_ (cK %[bZ,bZ,bZ|0]) %[0|0]))),?kk];apply#[_,Z,_,_,Z,Z,_,Z,_,_,Z,Z,.inl #[by decide,by decide],_,Z,_,_,Z,Z,_,Z,_,Z,_,_,Z,Z,zl,λl1 n1=>?_];let#[s1,e1]:=aB (o:=.lst [.bl (decide (0<a)),.bl (decide (b<2 * a)),.bl (decide (b<=a))]) n1;generalize upd H l1 (.lst [.bl (decide (0<a)),.bl (decide (b<2 * a)),.bl (decide (b<=a))])=H1 at s1 e1 ⊢;apply#[zl,λl2 n2=>?_];let#[s2,e2]:=aB (o:=.lst [.str "high",.str "fall",.str "calm"]) n2;generalize upd H1 l2 (.lst [.str "high",.str "fall",.str "calm"])=H2 at s2 e2 ⊢;apply#[.inl #[Z,_,.of e2],_,Z,?_];let e3:=s2 _ _ e1;let k:=k H2 (s1.trans s2);simp only[bW,Fs,or_false] at hg;rcases hg with rfl|rfl|rfl
  ·exact#[l2,_,_,0,Z,Z,e2,Z,Z,by decide,#[_,Z,by decide +kernel],λi y h _=>absurd h (Nat.not_lt_zero _),l1,_,_,_,Z,Z,.of e3,Z,k]
  ·apply#[l2,_,_,1,Z,Z,e2,Z,Z,by decide,#[_,Z,by decide +kernel],λi y h e=>?_,l1,_,_,_,Z,Z,.of e3,Z,k];obtain rfl:i=0:=by omega
   cases e;decide +kernel
  ·apply#[l2,_,_,2,Z,Z,e2,Z,Z,by decide,#[_,Z,by decide +kernel],λi y h e=>?_,l1,_,_,_,Z,Z,.of e3,Z,k];rcases (show i=0∨i=1 by omega) with rfl|rfl
   ·cases e;decide +kernel
   ·cases e;decide +kernel
end
def dS(ps:aC)(o:Option Str)(n:Str):Option Str:=match o with
 |none=>some n
 |some m=>if d6 ps m<d6 ps n then some n else some m
def Bk(ps:aC)(ns:ae):Option Str:=(aV ns).foldl (dS ps) none
theorem g0_{ps:aC}:∀{l:ae} {o:Option Str} {m:Str},l.foldl (dS ps) o=some m->m∈l∨o=some m
 |[],o,m,h=>.inr h
 |n::l,o,m,h=>by
  rw[List.foldl_cons] at h;rcases g0_ h with h|h
  ·exact .inl (dF _ h)
  ·unfold dS at h;cases o with
   |none=>cases h;exact .inl c8
   |some k=>
    dsimp only at h;split at h
    ·cases h;exact .inl c8
    ·exact .inr h
theorem eN.but{K:af}{H G:Hp}{w ds dn lt dh dy sd:Addr}{ad:Str->Addr}{gy:Str->V}{hs:Xa}{ts:Xb}{ps:aC}{f:ai}{n:Str}(W:eN K H w ds dn lt dh dy ad gy hs ts ps)(ib:H sd=some (.dK (dH (ps.map (·.1)) f)))(hn:n∈ps.map (·.1))(kp:∀b u,b≠sd->H b=some u->G b=some u):eN K G w ds dn lt dh dy ad gy hs ts ps:=by
 have kl:∀{b:Addr} {xs:ag},H b=some (.lst xs)->G b=some (.lst xs):=λe=>kp _ _ (λz=>by rw[z,ib] at e;cases e) e;have kt:∀{b:Addr} {xs:ag},H b=some (.tup xs)->G b=some (.tup xs):=λe=>kp _ _ (λz=>by rw[z,ib] at e;cases e) e
 have kd:∀{b:Addr} {kvs:List (Key × V)},H b=some (.dK kvs)->(∀x∈kvs,∀y,x=((Sum.inr n:Key),V.str y)->False)->G b=some (.dK kvs):=λ{b kvs} e h=>kp _ _ (λz=>by
  have:kvs=dH (ps.map (·.1)) f:=HO.dK.inj (ee (e.symm.trans (z▸ib)));exact h ((Sum.inr n:Key),V.str (f n)) (by rw[this];exact bh.mpr #[n,hn,Z]) _ Z) e
 apply#[kd W.top λx hx y z=>?_,kd W.sg λx hx y z=>?_,kd W.nr λx hx y z=>?_,λh hh=>kl (W.ls h hh),kd W.hv λx hx y z=>?_,kd W.wy λx hx y z=>?_,λq hq=>?_,let #[zs,a,b]:=W.tl;#[zs,kl a,Paired.bu b λy k ⟨b,z,q⟩=>#[b,z,kt q]]]
 ·rw[z] at hx;simp[Ca] at hx
 ·rw[z] at hx;let#[_,_,z]:=bh.mp hx;cases (Prod.mk.inj z).2
 ·rw[z] at hx;let#[_,_,z]:=bh.mp hx;cases (Prod.mk.inj z).2
 ·rw[z] at hx;let#[_,_,z]:=bh.mp hx;cases (Prod.mk.inj z).2
 ·rw[z] at hx;let#[m,hm,z]:=bh.mp hx;let#[q,hq,rfl]:=bh.mp hm;let wv:=W.wv q hq;rw[(Prod.mk.inj z).2] at wv;cases o:q.2.2 with
  |none=>rw[o] at wv;cases wv
  |some ws=>
   rw[o] at wv;let#[a,ys,e,_]:=wv;cases e
 ·let wv:=W.wv q hq;cases o:q.2.2 with
  |none=>rw[o] at wv;exact wv
  |some ws=>
   rw[o] at wv;let#[a,ys,e,ha,t]:=wv;exact#[a,ys,e,kl ha,Paired.bu t λy k ⟨b,z,q⟩=>#[b,z,kt q]]
def qb(hs:Xa)(ts:Xb)(ps:aC)(f:ai)(gd:Str)(gv:ae)(a b n:Str):Bool:=decide (f n=a)&&(!decide (n∈gv)&&(fB ts ps n a b&&pV gd (hX hs ps f a b) ((strOf hs a+strOf hs b) * d6 ps n)))
def Bu(hs:Xa)(ts:Xb)(ps:aC)(f:ai)(gd:Str)(gv:ae)(a b:Str):Option Str:=Bk ps ((ps.map (·.1)).filter (qb hs ts ps f gd gv a b))
section
variable{P:Ad}{w:Af}{K:af}{mg:Str->Option Aa}{base:Heap}
theorem Aj:bD [fU,"_law_pieces",BX,AL] AZ (bb Jr):=bJ
inductive z_ (K:af) (vs:ag) (H:Hp) (Q:VK) (E:XK):Prop
 |mk:∀(wa l:Addr) (ns:ae) (hs:Xa) (ts:Xb) (ps:aC),vs=[.ref wa,.ref l]->zq K H wa hs ts ps->H l=some (.lst (ns.map V.str))->(∀n∈ns,n∈ps.map (·.1))->ns.length<64->(∀H',aa H H'->Q (fu (Bk ps ns)) H')->z_ K vs H Q E
theorem lJ_(F:bp K "_law_heaviest" "_law_heaviest" Jr f0 fd)(B:Bi mg):!aj ba 1 f0 fd AZ (z_ K):=by
 apply F.bI Aj λaR A outer s H vs Q E hr h=>?_
 ·let#[wa,l,ns,hs,ts,ps,rfl,#[ds,dn,lt,dh,dy,ad,gy,W],hl,sub,EL,k]:=h;let hu:=eV hr;refine' #[_,aq ?s1 (aq ?s2 (aH ?s3)),?kk]
  case s1=>exact aX 2 Aj.nd Kv
  case' s2=>refine' eF dX Z (dE (cy Yy (by rfl) B.sorted GH %[1|0])) (cj 3 Aj.nd) (aH ?b1)
  case b1=>exact bN (PW.pt (Gw (cz _z (pv 2) Kv) (Ig (cz BU (cb hu (cb hu (pv 0) bZ) (pv 3)) (cb hu (cb hu (pv 0) bZ) (pv 2)))))) (aH (aX 2 Aj.nd (pv 3))) bP
  case s3=>exact bj (pv 2)
  lk;apply#[_,Z,l,ns,Z,.of hl,EL,λlx nx=>?_];let#[s1,e1]:=aB (o:=.lst ((aV ns).map V.str)) nx;generalize upd H lx (.lst ((aV ns).map V.str))=H1 at s1 e1 ⊢;let W1:=W.same s1;apply#[lx,Z,#[_,.of e1],fW (K:=K) (a:=lx) (xs:=(aV ns).map V.str) (λi σ H'=>∃v3:aJ,σ=[some (.ref wa),some (.ref l),some (fu (((aV ns).take i).foldl (dS ps) none)),v3]/\H'=H1) #[none,Z,Z] (λi σ H' _ ⟨_,_,z⟩=>z▸.of e1) ?_ ?_]
  ·rintro i x σ H' hx ⟨v3,rfl,rfl⟩;let#[n,hn,rfl]:=iG hx;have nm:n∈ps.map (·.1):=sub n ((gO ns).mem_iff.mp (cu hn));have st:((aV ns).take (i+1)).foldl (dS ps) none=dS ps (((aV ns).take i).foldl (dS ps) none) n:=by rw[eO hn,List.foldl_append];rfl
   have gQ:∀m,((aV ns).take i).foldl (dS ps) none=some m->m∈ps.map (·.1):=λm hm=>by
    rcases g0_ hm with h|h
    ·exact sub m ((gO ns).mem_iff.mp (List.mem_of_mem_take h))
    ·cases h
   generalize ((aV ns).take i).foldl (dS ps) none=o at st gQ ⊢;rw[st];lk;cases o with
   |none=>
    apply#[_,Z,Z,_,Z,?_];apply aM (λc=>?_) (λc=>absurd Z c);apply aM (λc=>?_) (λc=>absurd Z c);exact#[_,Z,_,Z,Z]
   |some m=>
    apply#[_,Z,Z,_,Z,?_];apply aM (λc=>by simp[fu] at c) (λc=>?_);apply#[_,Z,wa,_,Z,W1.gH,_,Z,dh,_,Z,gm W1.hv nm,_,Z,wa,_,Z,W1.gH,_,Z,dh,_,Z,gm W1.hv (gQ m Z),_,_,Z,Z,_,Z,?_];apply aM (λc=>?_) (λc=>?_)
    ·apply#[_,Z,some (.str n),?_,Z];have c:d6 ps m<d6 ps n:=by simpa using c
     unfold dS;dsimp only;rw[aA c];rfl
    ·apply#[some (.str n),?_,Z];have c:¬d6 ps m<d6 ps n:=by simpa using c
     unfold dS;dsimp only;rw[ao c];rfl
  ·rintro σ H' ⟨v3,rfl,rfl⟩;rw[ak,dJ];exact#[_,Z,k _ s1]
abbrev btN:ae:=[fU,iO,"_law_pair","_law_guard","_law_given",BV,xR,"_law_drop_here","_law_both","_law_fit",AL]
theorem Kw:bD btN A3 (bb Dm):=bJ
inductive Q_ (K:af) (vs:ag) (H:Hp) (Q:VK) (E:XK):Prop
 |mk:∀(wa sd t lg:Addr) (a b gd:Str) (gv:ae) (hs:Xa) (ts:Xb) (ps:aC) (f:ai),vs=[.ref wa,.ref sd,.ref t,.str gd,.ref lg]->zq K H wa hs ts ps->Pw hs ts ps f->H sd=some (.dK (dH (ps.map (·.1)) f))->H t=some (.tup [.str a,.str b])->a∈hs.map (·.1)->b∈hs.map (·.1)->gd∈(xq:ae)->H lg=some (.lst (gv.map V.str))->(∀H',aa H H'->Q (fu (Bu hs ts ps f gd gv a b)) H')->Q_ K vs H Q E
theorem kd_(F:bp K "_law_best" "_law_best" Dm f0 fd)(cD:!bt 1 "_law_drop" xv (O0 K))(cH:!bt 1 "_law_held" xt (O6 K))(cM:!bt 1 "_law_may" A2 (Rc K))(cF:!bt 1 "_law_is_fit" A1 zZ)(cV:!bt 1 "_law_heaviest" AZ (z_ K)) :
  aj P w K mg base ba 2 f0 fd A3 (Q_ K):=by
 apply F.bI Kw λaR A outer s H vs Q E hr h=>?_
 ·let#[wa,sd,t,lg,a,b,gd,gv,hs,ts,ps,f,rfl,WA,Pp,ib,ht,ha,hb,J2,Vc,k]:=h;let#[ds,dn,lt,dh,dy,ad,gy,W]:=id WA;let hu:=eV hr;let sz:=ck;refine' #[_,?r0,?kk]
  case' r0=>refine' aq ?s1 ?r1
  case' r1=>refine' aq ?s2 ?r2
  case' r2=>refine' aq ?s3 ?r3
  case' r3=>refine' aq ?s4 (aq ?s5 (aH ?s6))
  case s1=>exact O7 (pv 2) (xk Z (dZ (cj 5 Kw.nd) (dZ (cj 6 Kw.nd) jf)))
  case s2=>exact aX 7 Kw.nd (bf cD hr %[0,bf cH hr %[0,1|0],5,6|0])
  case s3=>exact aX 8 Kw.nd (bF iQ (cb hu (cb hu (pv 0) bZ) (pv 5)) (cb hu (cb hu (pv 0) bZ) (pv 6)))
  case s4=>exact aX 9 Kw.nd (cK aE)
  case' s5=>refine' KN (eF dX Z (Pr (pv 1)) (cj 10 Kw.nd) (aH (bN ?t5 (aH (bN ?t6 (aH ?b6) bP)) bP)))
  case t5=>exact PW.pt (E7 (cz hV (cb hu (pv 1) (pv 10)) (pv 5)) (E7 (cz (RX fH (xV hr 0)) (pv 10) (pv 4) (by with_unfolding_all rfl)) (Ir (fR (bf cM hr %[0,10,5,6|0])))))
  case t6=>exact fR (bf cF hr %[3,7,bF pY (pv 8) (cb hu (cb hu (pv 0) bZ) (pv 10))|0])
  case b6=>exact h_ (gI h9 xY xZ xp (pv 9) %[10|0])
  case s6=>exact bj (bf cV hr %[0,9|0])
  let h1:=Pp.pQ a;let h2:=Pp.pQ b;let e1:=Pp.bM ha;let e2:=Pp.bM hb;apply#[_,Z,t,_,Z,.of ht,Z,_,_,Z,_,_,Z,Z,?_];dsimp only;apply#[_,Z,_,Z,_,Z,wa,sd,hs,ts,ps,f,Z,WA,Pp,ib,λdd H1 s1 Ue D_=>?_];apply#[_,Z,_,Z,wa,dd,a,b,hs,ts,ps,f,Z,WA.nt (NT.of s1),Pp,D_,ha,hb,?_];lk;let W1:=W.same s1;apply#[_,Z,wa,_,Z,W1.gS,_,Z,ds,_,Z,gm W1.sg ha,_,Z,wa,_,Z,W1.gS,_,Z,ds,_,Z,gm W1.sg hb,_,_,Z,Z,?_];lk;apply#[zl,λlf nf=>?_];lk;let s2:=s1.trans (aa.new (o:=.lst []) nf);have e3:upd H1 lf (.lst []) lf=some (.lst []):=az;have Be:H lf=none:=s1.free nf;generalize upd H1 lf (.lst [])=H2 at s2 e3 ⊢
  have db:-(2 ^ 63)<hX hs ps f a b/\hX hs ps f a b<2 ^ 63:=by
   unfold hX;let m1:=Int.mul_nonneg h1.1 (show 0<=strOf hs b by omega);let m2:=Int.mul_le_mul h1.2 e2.2 Z1 Z1;let m3:=Int.mul_nonneg h2.1 (show 0<=strOf hs a by omega);let m4:=Int.mul_le_mul h2.2 e1.2 Z1 Z1;constructor<;>omega
  have jo:0<=strOf hs a+strOf hs b/\strOf hs a+strOf hs b<=2000:=#[by omega,by omega];generalize hdp:hX hs ps f a b=dp at db ⊢;generalize hjn:strOf hs a+strOf hs b=jn at jo ⊢;let Oa:=s2 _ _ ib;have Uv:lf≠sd:=(bx ib Be).symm;apply#[sd,_,Oa,?_];apply#[_,Z,sd,_,Z,Oa,λo=>?_];apply WX (λi σ H'=>∃v10:aJ,σ=[some (.ref wa),some (.ref sd),some (.ref t),some (.str gd),some (.ref lg),some (.str a),some (.str b),some (.int dp),some (.int jn),some (.ref lf),v10]/\H' sd=some (.frz o (.dK (dH (ps.map (·.1)) f)))/\(∀b u,b≠sd->H b=some u->H' b=some u)/\H' lf=some (.lst ((((ps.map (·.1)).take i).filter (qb hs ts ps f gd gv a b)).map V.str))) #[none,Z,az,λb u n1 e=>by rw[au n1];exact s2 _ _ e,by rw[au Uv];exact e3] (λi σ H' _ ⟨_,_,z,_⟩=>z) ?_ ?_
  ·rintro i ky x σ H4 hx ⟨v10,rfl,fz,kp,Os⟩;let#[n,hn,rfl,rfl]:=GE hx;let nm:=cu hn;have hi:i<(ps.map (·.1)).length:=(cc.mp hn).1;rw[ak] at hi;let wR:=Pp.wR;let W4:=W.but ib nm kp;let wn:=Pp.wt nm
   have no:∀{H5:Hp},aa H4 H5->qb hs ts ps f gd gv a b n=false->∃v10:aJ,[some (V.ref wa),some (.ref sd),some (.ref t),some (.str gd),some (.ref lg),some (.str a),some (.str b),some (.int dp),some (.int jn),some (.ref lf),some (.str n)]=[some (V.ref wa),some (.ref sd),some (.ref t),some (.str gd),some (.ref lg),some (.str a),some (.str b),some (.int dp),some (.int jn),some (.ref lf),v10]/\H5 sd=some (.frz o (.dK (dH (ps.map (·.1)) f)))/\(∀b u,b≠sd->H b=some u->H5 b=some u)/\H5 lf=some (.lst ((((ps.map (·.1)).take (i+1)).filter (qb hs ts ps f gd gv a b)).map V.str)):=λs5 e=>#[_,Z,s5 _ _ fz,λb u n1 e=>s5 _ _ (kp b u n1 e),by
    rw[eO hn,GN,List.filter_cons_of_neg (by rw[e];exact gM),List.filter_nil,gK];exact s5 _ _ Os]
   lk;apply#[_,Z,_,Z,sd,_,Z,L0 (.inr #[o,fz]) nm,_,Z,Z,_,Z,?_];apply aM (λc1=>?_) (λc1=>?_)
   ·have c1:f n=a:=by simpa using c1
    apply#[_,Z,_,Z,n,gv,Z,#[lg,_,Z,.of (kp _ _ (λz=>by rw[z,ib] at Vc;cases Vc) Vc),KS gv],_,Z,?_];rw[aA Z];apply aM (λc2=>?_) (λc2=>?_)
    ·have c2:¬n∈gv:=by simpa using c2
     apply#[_,Z,_,Z,_,Z,_,Z,wa,n,a,b,hs,ts,ps,f,Z,#[ds,dn,lt,dh,dy,ad,gy,W4],Pp,nm,ha,λH5 s5=>#[_,Z,?_]];let W5:=W4.same s5;apply aM (λc3=>?_) (λc3=>?_)
     ·apply#[_,Z,_,Z,_,Z,_,Z,wa,_,Z,W5.gH,_,Z,dh,_,Z,gm W5.hv nm,_,_,Z,Z,.inl #[by omega,by omega],gd,dp,jn * d6 ps n,Z,J2,db.1,db.2,λH6 s6=>#[_,Z,?_]];apply aM (λc4=>?_) (λc4=>?_)
      ·have pt:qb hs ts ps f gd gv a b n=true:=by
        unfold qb;rw[cw c1,dR c2,c3,hdp,hjn,c4];rfl
       let Z6:=s6 _ _ (s5 _ _ Os);apply#[_,Z,.inl #[Z,_,.of Z6],_,Z,lf,_,_,Z,Z,Z6,?_,?_]
       ·rw[ak];have:=Fm (qb hs ts ps f gd gv a b) ((ps.map (·.1)).take i);rw[cQ] at this;omega
       ·apply#[_,Z,by rw[au Uv.symm];exact s6 _ _ (s5 _ _ fz),λb u n1 e=>by rw[au (bx e Be)];exact s6 _ _ (s5 _ _ (kp b u n1 e)),?_];rw[az,eO hn,GN,List.filter_cons_of_pos (by exact pt),List.filter_nil,b_];rfl
      ·apply no (s5.trans s6) ?_;unfold qb;rw[hdp,hjn,show pV gd dp (jn * d6 ps n)=false by simpa using c4,AQ,AQ,AQ]
     ·apply no s5 ?_;unfold qb;rw[show fB ts ps n a b=false by simpa using c3,By,AQ,AQ]
    ·apply no (aa.refl H4) ?_;have c2:n∈gv:=by simpa using c2
     unfold qb;rw[cw c2,Bool.not_true,By,AQ]
   ·apply no (aa.refl H4) ?_;have c1:¬f n=a:=by simpa using c1
    unfold qb;rw[dR c1,By]
  ·rintro σ H4 ⟨v10,rfl,fz,kp,Os⟩;rw[gq,dJ] at Os
   have s4:aa H (upd H4 sd (.dK (dH (ps.map (·.1)) f))):=λb u e=>by
    by_cases z:b=sd
    ·rw[z] at e ⊢;rw[ib] at e;rw[az];exact e
    ·rw[au z];exact kp b u z e
   have Z7:upd H4 sd (.dK (dH (ps.map (·.1)) f)) lf=some (.lst (((ps.map (·.1)).filter (qb hs ts ps f gd gv a b)).map V.str)):=by rw[au Uv];exact Os
   apply#[o,fz,?_];generalize upd H4 sd (.dK (dH (ps.map (·.1)) f))=H5 at s4 Z7 ⊢;apply#[_,Z,_,Z,wa,lf,_,hs,ts,ps,Z,WA.nt (NT.of s4),Z7,λn hn=>(BA.mp hn).1,?_,λH6 s6=>k _ (s4.trans s6)];have:=Fm (qb hs ts ps f gd gv a b) (ps.map (·.1));let wR:=Pp.wR;rw[ak] at this;omega
end
end Ev
namespace L2
open PySem
inductive XI (x:V) (vs:ag) (H:Hp) (Q:VK):Prop
 |mk:∀(l:Addr) (xs:ag) (k:V) (j:Nat),x=.ref l->vs=[k]->H l=some (.lst xs)->AM k=true->xs.all AM=true->(∃y,xs[j]? = some y/\pW y k=true)->(∀i y,i<j->xs[i]? = some y->pW y k=false)->Q .non (upd H l (.lst (xs.eraseIdx j)))->XI x vs H Q
variable{X:Cx}
theorem XU:Me X "list.remove" XI:=by
 intro pins s σ H x vs v us Q I rx rv h;let#[l,xs,k,j,rfl,rfl,hH,fk,fx,#[y,hy,ey],no,q]:=h;cases rx;let#[u,rfl,ru]:=rv.one;let#[z,its,n,r,hl,e]:=I.pN hH;let#[hjx,Wg]:=cc.mp hy;apply call_meets PySem.F.slot_list_remove ⟨_,e,rfl⟩ PySem.F.entry_list_remove (PySem.F.args_list_remove_2 _ _) (MeetsSeq.list_remove l its.toArray n u (xQ k) (λy hy prog w A E s Q hq=>PB (A:=A) (s:=s) ru fk r fx y (by simpa using hy) prog w E Q hq) j (by show j<its.length;omega) ?_ ?_ (by rw[dD];omega)) ⟨e,?_⟩
 ·let#[h2,e2]:=Pq r fx k j Z1;show xQ k its[j]=true;rw[e2,Wg];exact ey
 ·intro m hm lt;let#[h2,e2]:=Pq r fx k m (by simpa using hm);show xQ k its[m]=false;rw[e2];exact no m _ lt (dq h2)
 ·apply⟨.non,_,I.JH (its':=its.eraseIdx j) hH e ?_ (r.eraseIdx j) ?_,rfl,q⟩
  ·show its.toArray.eraseIdxIfInBounds j=(its.eraseIdx j).toArray;rw[List.eraseIdxIfInBounds_toArray]
  ·have:=eW_ xs j;omega
end L2
namespace Ev
open PySem L2
def bV(hs:Xa)(ps:aC)(f:ai)(a:Str)(l:ae):Str:=l.foldl (λlo x=>if 0<hX hs ps f lo x then x else lo) a
theorem Rg{hs:Xa}{ps:aC}{f:ai}:∀{l:ae} {a:Str},bV hs ps f a l=a∨bV hs ps f a l∈l
 |[],a=>.inl Z
 |x::l,a=>by
  have e:bV hs ps f a (x::l)=bV hs ps f (if 0<hX hs ps f a x then x else a) l:=rfl;rw[e];by_cases c:0<hX hs ps f a x
  ·rw[aA c];rcases Rg (hs:=hs) (ps:=ps) (f:=f) (l:=l) (a:=x) with h|h
   ·exact .inr (by rw[h];exact c8)
   ·exact .inr (dF _ h)
  ·rw[ao c];rcases Rg (hs:=hs) (ps:=ps) (f:=f) (l:=l) (a:=a) with h|h
   ·exact .inl h
   ·exact .inr (dF _ h)
variable{a:Str}{l:ae}
theorem V6{hs:Xa}{ps:aC}{f:ai}:bV hs ps f a (a::l)∈a::l:=by
 rcases Rg (hs:=hs) (ps:=ps) (f:=f) (l:=a::l) (a:=a) with h|h
 ·rw[h];exact c8
 ·exact h
def fZ(hs:Xa)(ps:aC)(f:ai):Nat->ae->ae
 |0,_=>[]
 |_+1,[]=>[]
 |n+1,a::l=>bV hs ps f a (a::l)::fZ hs ps f n ((a::l).erase (bV hs ps f a (a::l)))
def fq(hs:Xa)(ts:Xb)(ps:aC)(f:ai)(h:Str):ae:=fZ hs ps f (aV (c_ ts h)).length (aV (c_ ts h))
theorem fv_(hs:Xa)(ps:aC)(f:ai):∀(n:Nat) (l:ae),(fZ hs ps f n l).length<=n
 |0,_=>bo _
 |_+1,[]=>gx _
 |n+1,a::l=>Nat.succ_le_succ (fv_ hs ps f n _)
theorem _G{hs:Xa}{ps:aC}{f:ai}:∀{n:Nat} {l:ae} {x:Str},x∈fZ hs ps f n l->x∈l
 |0,_,_,h=>by cases h
 |_+1,[],_,h=>by cases h
 |n+1,a::l,x,h=>by
  rcases bW.mp h with h|h
  ·rw[h];exact V6
  ·exact L6 (_G h)
theorem Wh:∀{l:ae} {a:Str},a∈l->∃j,l[j]? = some a/\(∀i y,i<j->l[i]? = some y->y≠a)/\l.eraseIdx j=l.erase a
 |b::l,a,h=>by
  by_cases z:b=a
  ·subst z;exact#[0,Z,λi y h=>absurd h (Nat.not_lt_zero _),by simp]
  ·let#[j,h1,h2,h3]:=Wh (List.mem_of_ne_of_mem (λy=>z y.symm) h);apply#[j+1,h1,λi y hi e=>?_,?_]
   ·cases i with
    |zero=>cases e;exact z
    |succ i=>exact h2 i y Z1 e
   ·rw[List.eraseIdx_cons_succ,h3,List.erase_cons_tail (by simpa using z)]
theorem YO{α β:Type}(g:α->β):∀(l:List α) (j:Nat),(l.map g).eraseIdx j=(l.eraseIdx j).map g
 |[],_=>by simp
 |a::l,0=>by simp
 |a::l,j+1=>by simp[YO g l j]
theorem Rx(x y:Str):pW (.str x) (.str y)=decide (x=y):=by
 show (x == y)=_;by_cases h:x=y
 ·subst h;simp
 ·simp[h]
def zp(hs:Xa)(ts:Xb)(ps:aC)(f:ai)(gd h:Str):ae->ae->gX
 |_,[]=>[]
 |gv,o::l=>match Bu hs ts ps f gd gv h o with
  |some n=>(n,h,o)::zp hs ts ps f gd h (gv++[n]) l
  |none=>zp hs ts ps f gd h gv l
def wX(hs:Xa)(ts:Xb)(ps:aC)(f:ai)(w0 gd h:Str):gX:=zp hs ts ps f gd h [] (if w0="least" then (fq hs ts ps f h).take 1 else fq hs ts ps f h)
variable{x:Str}
theorem VB{hs:Xa}{ts:Xb}(G:Good hs ts){h:Str}(m:x∈c_ ts h):x∈hs.map (·.1):=by
 let#[t,ht,m]:=List.mem_flatMap.mp m;unfold F4 at m;rcases fM.mp m with m|m
 ·split at m
  ·rw[jd.mp m];exact (G.A6 t ht).2
  ·cases m
 ·split at m
  ·rw[jd.mp m];exact (G.A6 t ht).1
  ·cases m
variable{f0:Addr}{fd:Ae}
section
variable{P:Ad}{w:Af}{K:af}{mg:Str->Option Aa}{base:Heap}
abbrev rsN:ae:=[fU,iO,"_law_hand","_law_held_here","_law_left",BX,"_law_lowest",BV]
theorem K0:bD rsN LD (bb V7):=bJ
inductive XT (K:af) (vs:ag) (H:Hp) (Q:VK) (E:XK):Prop
 |mk:∀(wa sd:Addr) (h:Str) (hs:Xa) (ts:Xb) (ps:aC) (f:ai),vs=[.ref wa,.ref sd,.str h]->zq K H wa hs ts ps->Pw hs ts ps f->H sd=some (.dK (dH (ps.map (·.1)) f))->h∈hs.map (·.1)->(c_ ts h).length<64->(∀l H',aa H H'->H l=none->H' l=some (.lst ((fq hs ts ps f h).map V.str))->Q (.ref l) H')->XT K vs H Q E
theorem hw_(F:bp K "_law_rising" "_law_rising" V7 f0 fd)(B:Bi mg)(cD:!bt 1 "_law_drop" xv (O0 K))(cH:!bt 1 "_law_held" xt (O6 K)):!aj ba 2 f0 fd LD (XT K):=by
 apply F.bI K0 λaR A outer s H vs Q E hr h=>?_
 ·let#[wa,sd,h,hs,ts,ps,f,rfl,WA,Pp,ib,hh,EL,k]:=h;let#[ds,dn,lt,dh,dy,ad,gy,W]:=id WA;let hu:=eV hr;let sz:=ck;refine' #[_,?r0,?kk]
  case' r0=>refine' aq ?s1 ?r1
  case' r1=>refine' aq ?s2 ?r2
  case' r2=>refine' aq ?s3 (aq ?s4 (aH ?s5))
  case s1=>exact aX 3 K0.nd (bf cH hr %[0,1|0])
  case s2=>exact aX 4 K0.nd (cy Yy (by rfl) B.sorted GH %[cb hu (cb hu (pv 0) bZ) (pv 2)|0])
  case s3=>exact aX 5 K0.nd (cK aE)
  case' s4=>refine' R_ dX (cz (Sd (xV hr 0)) (pv 4) (cK aE)) (aq ?b1 (aq ?b2 (aq ?b3 (aH ?b4))))
  case b1=>exact aX 6 K0.nd (bO gg (pv 4) aK)
  case b2=>exact eF dX Z (dE (pv 4)) (cj 7 K0.nd) (aH (bN (cz BU (bf cD hr %[0,3,6,7|0]) aK) (aH (aX 6 K0.nd (pv 7))) bP))
  case b3=>exact h_ (gI h9 xY xZ xp (pv 5) %[6|0])
  case b4=>exact h_ (gI h9 PySem.F.slot_list_remove PySem.F.type_list_remove XU (pv 4) %[6|0])
  case s5=>exact bj (pv 5)
  apply#[_,Z,_,Z,wa,sd,hs,ts,ps,f,Z,WA,Pp,ib,λdd H1 s1 Ue e1=>?_];lk;let W1:=W.same s1;apply#[_,Z,wa,_,Z,W1.gN,_,Z,dn,_,Z,gm W1.nr hh,ad h,c_ ts h,Z,.of (W1.ls h hh),EL,λlx nx=>?_];lk;let#[s2,e2]:=aB (o:=.lst ((aV (c_ ts h)).map V.str)) nx;generalize upd H1 lx (.lst ((aV (c_ ts h)).map V.str))=H2 at s2 e2 ⊢;apply#[zl,λlf nf=>?_];lk;let#[s3,e3]:=aB (o:=.lst []) nf;generalize upd H2 lf (.lst [])=H3 at s3 e3 ⊢;have ZE:H lx=none:=s1.free nx;have Be:H lf=none:=(s1.trans s2).free nf;have xf:lx≠lf:=bx e2 nf;have gQ:∀x∈aV (c_ ts h),x∈hs.map (·.1):=λx hx=>VB Pp.Gd ((gO _).mem_iff.mp hx);have Lj:(aV (c_ ts h)).length<64:=by rw[(gO _).length_eq];exact EL
  let e33:=s3 _ _ e2;let wM:=(s1.trans s2).trans s3;let Ry:=(s2.trans s3) _ _ e1;have ddx:dd≠lx:=bx e1 nx;have ddf:dd≠lf:=bx (s2 _ _ e1) nf;unfold fq at k;generalize aV (c_ ts h)=L at gQ Lj k e33;clear e2 nx nf s1 s2 s3 W1;apply#[λm σ H'=>∃(v6 v7:aJ) (left done:ae),σ=[some (.ref wa),some (.ref sd),some (.str h),some (.ref dd),some (.ref lx),some (.ref lf),v6,v7]/\aa H H'/\H' dd=some (.dK (br (hs.map (·.1)) λn=>.int (EO ps f n)))/\H' lx=some (.lst (left.map V.str))/\H' lf=some (.lst (done.map V.str))/\m=left.length/\(∀x∈left,x∈hs.map (·.1))/\left.length+done.length<=64/\done++fZ hs ps f left.length left=fZ hs ps f L.length L,#[_,none,none,L,[],Z,wM,Ry,e33,e3,Z,gQ,by rw[zD];omega,Z],?_];rintro m σ H4 ⟨v6,v7,left,done,rfl,s4,d4,x4,f4,rfl,in4,l4,eq4⟩;apply#[_,Z,zl,λle ne=>?_];let#[s5,e5]:=aB (o:=.lst []) ne;generalize upd H4 le (.lst [])=H5 at s5 e5 ⊢;apply#[lx,le,left.map V.str,Z,Z,.of (s5 _ _ x4),.of e5,_,Z,?_];apply aM (λc=>?_) (λc=>?_)
  ·cases left with
   |nil=>simp at c
   |cons a l=>
    apply#[λσ H'=>∃(v6 v7:aJ) (left done:ae),left.length<(a::l).length/\σ=[some (.ref wa),some (.ref sd),some (.str h),some (.ref dd),some (.ref lx),some (.ref lf),v6,v7]/\aa H H'/\H' dd=some (.dK (br (hs.map (·.1)) λn=>.int (EO ps f n)))/\H' lx=some (.lst (left.map V.str))/\H' lf=some (.lst (done.map V.str))/\(∀x∈left,x∈hs.map (·.1))/\left.length+done.length<=64/\done++fZ hs ps f left.length left=fZ hs ps f L.length L,λbq H' ⟨v6,v7,left,done,lt,e,q1,q2,q3,q4,q5,q6,q7⟩=>#[left.length,lt,v6,v7,left,done,e,q1,q2,q3,q4,Z,q5,q6,q7],?_];let x5:=s5 _ _ x4;let d5:=s5 _ _ d4;let f5:=s5 _ _ f4;let W5:=W.same (s4.trans s5);apply#[_,Z,lx,_,_,_,Z,Z,.of x5,L2.iL (xs:=(a::l).map V.str) (j:=0) (v:=.str a) Z,?_];lk;apply dz (λσ H'=>∃v7:aJ,σ=[some (.ref wa),some (.ref sd),some (.str h),some (.ref dd),some (.ref lx),some (.ref lf),some (.str (bV hs ps f a (a::l))),v7]/\H'=H5) ?m2 ?m1
    case m1=>
     intro N1 hN;apply#[_,Z,lx,Z,#[_,.of x5],fW (K:=K) (a:=lx) (xs:=(a::l).map V.str) (λi σ H'=>∃v7:aJ,σ=[some (.ref wa),some (.ref sd),some (.str h),some (.ref dd),some (.ref lx),some (.ref lf),some (.str (bV hs ps f a ((a::l).take i))),v7]/\H'=H5) #[v7,Z,Z] (λi σ H' _ ⟨_,_,z⟩=>z▸.of x5) ?_ ?_]
     ·rintro i x σ H' hx ⟨v7,rfl,rfl⟩;let#[n,hn,rfl]:=iG hx
      have st:bV hs ps f a ((a::l).take (i+1))=if 0<hX hs ps f (bV hs ps f a ((a::l).take i)) n then n else bV hs ps f a ((a::l).take i):=by
       unfold bV;rw[eO hn,List.foldl_append];rfl
      have lm:bV hs ps f a ((a::l).take i)∈hs.map (·.1):=by
       rcases Rg (hs:=hs) (ps:=ps) (f:=f) (l:=(a::l).take i) (a:=a) with z|z
       ·rw[z];exact in4 a c8
       ·exact in4 _ (List.mem_of_mem_take z)
      rw[st];generalize bV hs ps f a ((a::l).take i)=lo at lm ⊢;lk;apply#[_,Z,_,Z,_,Z,_,Z,wa,dd,lo,n,hs,ts,ps,f,Z,#[ds,dn,lt,dh,dy,ad,gy,W5],Pp,d5,lm,in4 n (cu hn),_,_,Z,Z,_,Z,?_];apply aM (λc=>?_) (λc=>?_)
      ·have c:0<hX hs ps f lo n:=by simpa using c
       rw[aA c];exact#[_,Z,_,Z,Z]
      ·have c:¬0<hX hs ps f lo n:=by simpa using c
       rw[ao c];exact#[_,Z,Z]
     ·rintro σ H' ⟨v7,rfl,rfl⟩;rw[ak,dJ];exact hN _ _ #[_,Z,Z]
    rintro σ H6 ⟨v7,rfl,rfl⟩;let lm:=V6 (hs:=hs) (ps:=ps) (f:=f) (a:=a) (l:=l);generalize elo:bV hs ps f a (a::l)=lo at lm ⊢;rw[iE] at l4;apply#[_,Z,.inl #[Z,_,.of f5],_,Z,lf,_,_,Z,Z,f5,by rw[ak];omega,?_];have x6:upd H6 lf (.lst (done.map V.str++[.str lo])) lx=some (.lst ((a::l).map V.str)):=by rw[au xf];exact x5
    let#[j,j1,j2,j3]:=Wh lm;have QL:((a::l).erase lo).length=l.length:=by rw[List.length_erase_of_mem lm];rfl
    apply#[_,Z,.inl #[Z,_,.of x6],_,Z,lx,_,_,j,Z,Z,x6,Z,?_,#[.str lo,by rw[dQ,j1];rfl,by rw[Rx];simp],λi y hi e=>?_,?_]
    ·rw[List.all_eq_true];intro v hv;let#[_,_,rfl]:=bh.mp hv;rfl
    ·rw[dQ,Iy] at e;let#[x,hx,rfl]:=e;rw[Rx];simpa using j2 i x hi hx
    ·apply#[_,_,(a::l).erase lo,done++[lo],by rw[QL,iE];omega,Z,λb u e=>?_,?_,?_,?_,λx hx=>in4 x (L6 hx),by rw[QL,dY,K2];omega,?_]
     ·rw[au (bx e ZE),au (bx e Be)];exact s5 _ _ (s4 _ _ e)
     ·rw[au ddx,au ddf];exact d5
     ·rw[az,YO,j3]
     ·rw[au xf.symm,az,b_];rfl
     ·rw[QL,<- eq4,Fk];show done++(lo::fZ hs ps f l.length ((a::l).erase lo))=done++(bV hs ps f a (a::l)::fZ hs ps f l.length ((a::l).erase (bV hs ps f a (a::l))));rw[elo]
  ·have z:left=[]:=by
    cases left with
    |nil=>rfl
    |cons a l=>simp at c
   subst z;apply#[_,Z,k lf _ (s4.trans s5) Be ?_];rw[<- eq4,s5 _ _ f4];show _=some (HO.lst ((done++[]).map V.str));rw[gK]
end
variable{o:Str}{gv:ae}
theorem Sq{hs:Xa}{ts:Xb}{ps:aC}{f:ai}{gd h:Str}(e:Bu hs ts ps f gd gv h o=none):zp hs ts ps f gd h gv (o::l)=zp hs ts ps f gd h gv l:=by
 rw[zp,e]
variable{n:Str}
theorem Yz{hs:Xa}{ts:Xb}{ps:aC}{f:ai}{gd h:Str}(e:Bu hs ts ps f gd gv h o=some n):zp hs ts ps f gd h gv (o::l)=(n,h,o)::zp hs ts ps f gd h (gv++[n]) l:=by
 rw[zp,e]
theorem j7_(hs:Xa)(ts:Xb)(ps:aC)(f:ai)(h:Str):(fq hs ts ps f h).length<=(c_ ts h).length:=by
 have:=fv_ hs ps f (aV (c_ ts h)).length (aV (c_ ts h));rw[(gO _).length_eq] at this;unfold fq;rw[(gO _).length_eq];exact this
theorem V5{hs:Xa}{ts:Xb}{ps:aC}{f:ai}(G:Good hs ts){h:Str}(m:x∈fq hs ts ps f h):x∈hs.map (·.1):=VB G ((gO _).mem_iff.mp (_G m))
section
variable{P:Ad}{w:Af}{K:af}{mg:Str->Option Aa}{base:Heap}
abbrev blN:ae:=[fU,iO,"_law_hand","_law_words",BX,"_law_given","_law_some",xR,AL]
theorem KD:bD blN Ez (bb yU):=bJ
inductive Wv (K:af) (vs:ag) (H:Hp) (Q:VK) (E:XK):Prop
 |mk:∀(wa sd lw:Addr) (h w0 w1 gd:Str) (hs:Xa) (ts:Xb) (ps:aC) (f:ai),vs=[.ref wa,.ref sd,.str h,.ref lw]->zq K H wa hs ts ps->Pw hs ts ps f->H sd=some (.dK (dH (ps.map (·.1)) f))->h∈hs.map (·.1)->(c_ ts h).length<64->H lw=some (.lst [.str w0,.str w1,.str gd])->gd∈(xq:ae)->(∀l ys H',aa H H'->H l=none->H' l=some (.lst ys)->bg K H' ys ((wX hs ts ps f w0 gd h).map kM)->Q (.ref l) H')->Wv K vs H Q E
theorem jy_(F:bp K "_law_by_low" "_law_by_low" yU f0 fd)(cR:!bt 2 "_law_rising" LD (XT K))(cB:!bt 2 "_law_best" A3 (Q_ K)):!aj ba 3 f0 fd Ez (Wv K):=by
 apply F.bI KD λaR A outer s H vs Q E hr h=>?_
 ·let#[wa,sd,lw,h,w0,w1,gd,hs,ts,ps,f,rfl,WA,Pp,ib,hh,EL,hlw,J2,k]:=h;let hu:=eV hr;let sz:=ck;refine' #[_,?r0,?kk]
  case' r0=>refine' aq ?s1 ?r1
  case' r1=>refine' aq ?s2 ?r2
  case' r2=>refine' aq ?s3 ?r3
  case' r3=>refine' aq ?s4 (aq ?s5 (aH ?s6))
  case s1=>exact aX 4 KD.nd (cK aE)
  case s2=>exact aX 5 KD.nd (cK aE)
  case s3=>exact aX 6 KD.nd (bf cR hr %[0,1,2|0])
  case s4=>exact bN (cz hV (bO gg (pv 3) aK) bZ) (aH (aX 6 KD.nd (Ik Pt (pv 6) Iq (Iu aK)))) bP
  case' s5=>refine' eF dX Z (dE (pv 6)) (cj 7 KD.nd) (aq ?b1 (aH (bN (cz hp_ (pv 8) Kv) (aq ?b2 (aH ?b3)) bP)))
  case b1=>exact aX 8 KD.nd (bf cB hr %[0,1,fe %[2,7|0],bO gg (pv 3) aK,5|0])
  case b2=>exact h_ (gI h9 xY xZ xp (pv 5) %[8|0])
  case b3=>exact h_ (gI h9 xY xZ xp (pv 4) %[fe %[8,2,7|0]|0])
  case s6=>exact bj (pv 4)
  apply#[zl,λlf nf=>?_];lk;let#[s1,f1]:=aB (o:=.lst []) nf;generalize upd H lf (.lst [])=H1 at s1 f1 ⊢;apply#[zl,λlg ng=>?_];lk;let#[s2,g2]:=aB (o:=.lst []) ng;generalize upd H1 lg (.lst [])=H2 at s2 g2 ⊢;let f2:=s2 _ _ f1;have fg:lf≠lg:=bx f1 ng;have ng0:H lg=none:=s1.free ng;let ia:=s1.trans s2;apply#[_,Z,_,Z,_,Z,wa,sd,h,hs,ts,ps,f,Z,WA.nt (NT.of ia),Pp,ia _ _ ib,hh,EL,λlr H3 s3 nr r3=>?_];lk;let wM:=ia.trans s3;let rl:=j7_ hs ts ps f h;have ri:∀x∈fq hs ts ps f h,x∈hs.map (·.1):=λx hx=>V5 Pp.Gd hx
  let aQ:cn:=λσ H'=>∃(l6:Addr) (L:ae),σ=[some (.ref wa),some (.ref sd),some (.str h),some (.ref lw),some (.ref lf),some (.ref lg),some (.ref l6),none,none]/\aa H3 H'/\H2 l6=none/\H' l6=some (.lst (L.map V.str))/\L.length<64/\(∀x∈L,x∈hs.map (·.1))/\wX hs ts ps f w0 gd h=zp hs ts ps f gd h [] L
  apply dz aQ ?m2 ?m1
  case m1=>
   intro N1 hN;apply#[_,Z,lw,_,_,_,Z,Z,.of (wM _ _ hlw),L2.iL (xs:=[V.str w0,.str w1,.str gd]) (j:=0) (v:=.str w0) Z,Z,_,Z,?_];apply aM (λc=>?_) (λc=>?_)
   ·have c:w0="least":=by simpa using c
    apply#[_,Z,_,Z,lr,_,Z,.of r3,λlq nq=>?_];rw[show hJ ((fq hs ts ps f h).map V.str) none (some 1)=((fq hs ts ps f h).map V.str).take 1 from RO _ 1,<- List.map_take];apply hN _ _ #[lq,(fq hs ts ps f h).take 1,Z,aa.new nq,s3.free nq,az,by rw[cQ];omega,λx hx=>ri x (List.mem_of_mem_take hx),?_];unfold wX;rw[aA c]
   ·have c:¬w0="least":=by simpa using c
    apply hN _ _ #[lr,fq hs ts ps f h,Z,aa.refl _,nr,r3,by omega,ri,?_];unfold wX;rw[ao c]
  rintro σ H4 ⟨l6,L,rfl,s4,n6,e6,Lj,li,O1⟩;rw[O1] at k;clear O1;let i7:=wM.trans s4;let f4:=s4 _ _ (s3 _ _ f2);let g4:=s4 _ _ (s3 _ _ g2);have f6:l6≠lf:=(bx f2 n6).symm;have g6:l6≠lg:=(bx g2 n6).symm
  let bH:bL:=λi σ H'=>∃(v7 v8:aJ) (gv:ae) (done:gX) (ys:ag),σ=[some (.ref wa),some (.ref sd),some (.str h),some (.ref lw),some (.ref lf),some (.ref lg),some (.ref l6),v7,v8]/\aa H H'/\H' l6=some (.lst (L.map V.str))/\H' lg=some (.lst (gv.map V.str))/\H' lf=some (.lst ys)/\bg K H' ys (done.map kM)/\gv.length<=i/\done.length<=i/\done++zp hs ts ps f gd h gv (L.drop i)=zp hs ts ps f gd h [] L
  apply#[_,Z,l6,Z,#[_,.of e6],fW (K:=K) (a:=l6) (xs:=L.map V.str) bH #[none,none,[],[],[],Z,i7,e6,g4,f4,.nil,bo _,bo _,Z] (λi σ H' _ ⟨_,_,_,_,_,_,_,z,_⟩=>.of z) ?_ ?_]
  ·rintro i x σ H5 hx ⟨v7,v8,gv,done,ys,rfl,s5,e5,g5,f5,t5,lgv,ldn,eq5⟩;let#[o,ho,rfl]:=iG hx;have hi:i<L.length:=(cc.mp ho).1
   have dr:L.drop i=o::L.drop (i+1):=by
    let#[h1,h2]:=cc.mp ho;rw[List.drop_eq_getElem_cons h1,h2]
   rw[dr] at eq5;let ly:=bG t5;rw[ak] at ly;lk;apply#[_,Z,_,Z,_,Z,_,Z,zl,λt nt=>?_];let#[s6,e7]:=aB (o:=.tup [.str h,.str o]) nt;generalize upd H5 t (.tup [.str h,.str o])=H6 at s6 e7 ⊢;let TM:=s5.trans s6;apply#[_,Z,lw,_,_,_,Z,Z,.of (TM _ _ hlw),L2.iL (xs:=[V.str w0,.str w1,.str gd]) (j:=2) (v:=.str gd) Z,?_];apply#[_,Z,wa,sd,t,lg,h,o,gd,gv,hs,ts,ps,f,Z,WA.nt (NT.of TM),Pp,TM _ _ ib,e7,hh,li o (cu ho),J2,s6 _ _ g5,λH7 s7=>?_];lk;let An:=s6.trans s7;let Zt:=s5.trans An;apply#[_,Z,Z,_,Z,?_];cases eb:Bu hs ts ps f gd gv h o with
   |none=>
    rw[Sq eb] at eq5;apply aM (λc=>by simp[fu] at c) (λc=>?_);exact#[_,_,gv,done,ys,Z,Zt,An _ _ e5,An _ _ g5,An _ _ f5,t5.same An,by omega,by omega,eq5]
   |some n=>
    rw[Yz eb] at eq5;apply aM (λc=>?_) (λc=>by simp[fu] at c);rw[show fu (some n)=V.str n from Z];let g7:=An _ _ g5;apply#[_,Z,.inl #[Z,_,.of g7],_,Z,lg,_,_,Z,Z,g7,by rw[ak];omega,?_];have f8:upd H7 lg (.lst (gv.map V.str++[.str n])) lf=some (.lst ys):=by rw[au fg];exact An _ _ f5
    have g8:upd H7 lg (.lst (gv.map V.str++[.str n])) lg=some (.lst ((gv++[n]).map V.str)):=by rw[az,b_];rfl
    have e8:upd H7 lg (.lst (gv.map V.str++[.str n])) l6=some (.lst (L.map V.str)):=by rw[au g6];exact An _ _ e5
    have s8:aa H (upd H7 lg (.lst (gv.map V.str++[.str n]))):=fN Zt ng0;have t8:bg K (upd H7 lg (.lst (gv.map V.str++[.str n]))) ys (done.map kM):=iT (t5.same An) g7;generalize upd H7 lg (.lst (gv.map V.str++[.str n]))=H8 at f8 g8 e8 s8 t8 ⊢;apply#[_,Z,.inl #[Z,_,.of f8],_,Z,_,Z,_,Z,zl,λt2 QF=>?_];let s9:=aa.new (o:=.tup [.str n,.str h,.str o]) QF;have e9:upd H8 t2 (.tup [.str n,.str h,.str o]) t2=some (.tup ((kM (n,h,o)).map kV)):=az;generalize upd H8 t2 (.tup [.str n,.str h,.str o])=H9 at s9 e9 ⊢;let f9:=s9 _ _ f8;apply#[lf,_,_,Z,Z,f9,by omega,?_];apply#[_,_,gv++[n],done++[(n,h,o)],ys++[.ref t2],Z,fN (s8.trans s9) nf,by rw[au f6];exact s9 _ _ e8,by rw[au fg.symm];exact s9 _ _ g8,az,?_,by rw[dY,K2];omega,by rw[dY,K2];omega,?_]
    ·rw[b_];exact iT (Es (t8.same s9) e9) f9
    ·rw[Fk];exact eq5
  ·rintro σ H5 ⟨v7,v8,gv,done,ys,rfl,s5,e5,g5,f5,t5,_,_,eq5⟩;rw[ak,List.drop_length] at eq5;apply#[_,Z,k lf ys H5 s5 nf f5 ?_];rw[<- eq5];show bg K H5 ys ((done++[]).map kM);rw[gK];exact t5
end
variable{h:Str}
theorem Rz{t:Str × Str}:x∈F4 h t ↔ t=(h,x)∨t=(x,h):=by
 let#[a,b]:=t;unfold F4;rw[fM];constructor
 ·rintro (m|m)
  ·split at m
   ·rename_i z
    have z:a=h:=z;exact .inl (by rw[jd.mp m,z])
   ·cases m
  ·split at m
   ·rename_i z
    have z:b=h:=z;exact .inr (by rw[jd.mp m,z])
   ·cases m
 ·rintro (e|e)
  ·let#[rfl,rfl]:=Prod.mk.inj e;exact .inl (by rw[aA Z];exact jd.mpr Z)
  ·let#[rfl,rfl]:=Prod.mk.inj e;exact .inr (by rw[aA Z];exact jd.mpr Z)
variable{ts:Xb}
theorem Ax:x∈c_ ts h ↔ (h,x)∈ts∨(x,h)∈ts:=by
 unfold c_;rw[List.mem_flatMap];constructor
 ·rintro⟨t,ht,m⟩;rcases Rz.mp m with rfl|rfl
  ·exact .inl ht
  ·exact .inr ht
 ·rintro (m|m)
  ·exact#[_,m,Rz.mpr (.inl Z)]
  ·exact#[_,m,Rz.mpr (.inr Z)]
theorem _k{h:Str}:∀{ts:Xb},(∀t∈ts,t.1≠t.2)->(ts.map kO).Nodup->(c_ ts h).Nodup
 |[],_,_=>List.nodup_nil
 |t::ts,ne,nd=>by
  rw[el,Bz] at nd;let ih:=_k (h:=h) (λu hu=>ne u (dF _ hu)) nd.2;let nt:=ne t c8;show (F4 h t++c_ ts h).Nodup;rw[List.nodup_append];apply#[?_,ih,λa ha b hb e=>?_]
  ·unfold F4;by_cases z1:t.1=h
   ·rw[aA z1,ao (λz=>nt (z1.trans z.symm)),gK];simp
   ·rw[ao z1,List.nil_append];split
    ·simp
    ·exact List.nodup_nil
  ·subst e;apply nd.1 ?_;rcases Rz.mp ha with rfl|rfl<;>rcases Ax.mp hb with m|m
   ·exact bh.mpr #[_,m,Z]
   ·exact bh.mpr #[_,m,V1 _ _]
   ·exact bh.mpr #[_,m,V1 _ _]
   ·exact bh.mpr #[_,m,Z]
variable{hs:Xa}
theorem _r(G:Good hs ts):x∈nb hs ts h ↔ x∈c_ ts h:=by
 show x∈(aI hs).filter _ ↔ _;rw[BA,xW,Sj,Ax];constructor
 ·rintro⟨_,⟨a,b⟩,ht,e⟩;rcases VD (a:=a) (b:=b) (c:=h) (d:=x) (by show kT (aL a b)=kT (aL h x);rw[<- e]) with⟨rfl,rfl⟩|⟨rfl,rfl⟩
  ·exact .inl ht
  ·exact .inr ht
 ·rintro (m|m)
  ·exact#[(gf hs).mem_iff.mpr (G.A6 _ m).2,_,m,Z]
  ·exact#[(gf hs).mem_iff.mpr (G.A6 _ m).1,_,m,RW _ _]
theorem Rt(G:Good hs ts)(h:Str):aV (c_ ts h)=nb hs ts h:=by
 apply (dh_ ?_ ((_L hs).filter _) (RS _)).symm;apply ((List.perm_ext_iff_of_nodup (G.BF.filter _) (_k (λt ht=>(G.tok t ht).2.2) G.IQ)).mpr λx=>?_).trans (gO _).symm;exact _r G
variable{ps qs:aC}{f:ai}
theorem Ri(W:Pw hs ts ps f)(Q:Qs ps qs)(n:Str):EO ps f n=lo qs f n:=(ll_ f (Q.ws W.nd) n).symm
theorem V4(W:Pw hs ts ps f)(Q:Qs ps qs)(a b:Str):hX hs ps f a b=xm hs qs f a b:=by
 unfold hX xm;rw[Ri W Q,Ri W Q]
theorem iH_(G:Good hs ts):0<LF hs:=WV λn hn=>by
 let#[m,hm,rfl]:=bh.mp hn;have:=bM G hm;omega
theorem _l(G:Good hs ts)(h:n∈hs.map (·.1)):LF hs / strOf hs n * strOf hs n=LF hs:=by
 apply Int.ediv_mul_cancel (jH_ (λm hm=>?_) (bh.mpr #[n,(gf hs).mem_iff.mpr h,Z]));let#[k,hk,rfl]:=bh.mp hm;have:=bM G hk;omega
theorem DB(a b:Int):a<b∨b<=a:=by omega
theorem Pz{ha hb sa sb A B M:Int}(hM:0<M)(hA:A * sa=M)(hB:B * sb=M)(sa0:0<sa)(sb0:0<sb):0<ha * sb - hb * sa ↔ hb * B<ha * A:=by
 have A0:0<A:=by
  rcases DB 0 A with h|h
  ·exact h
  ·have:=R8 h (E_ sa0);omega
 have B0:0<B:=by
  rcases DB 0 B with h|h
  ·exact h
  ·have:=R8 h (E_ sb0);omega
 have e:(ha * A - hb * B) * M=(ha * sb - hb * sa) * (A * B):=by
  have e1:ha * A * M=ha * sb * (A * B):=by rw[<- hB];simp only[Int.mul_assoc,Int.mul_comm,Int.mul_left_comm]
  have e2:hb * B * M=hb * sa * (A * B):=by rw[<- hA];simp only[Int.mul_assoc,Int.mul_comm,Int.mul_left_comm]
  rw[Int.sub_mul,Int.sub_mul,e1,e2]
 let AB:=Int.mul_pos A0 B0;constructor
 ·intro h;let h1:=Int.mul_pos h AB;rw[<- e] at h1;rcases DB 0 (ha * A - hb * B) with h2|h2
  ·omega
  ·have:=R8 h2 (E_ hM);omega
 ·intro h;let h1:=Int.mul_pos (show 0<ha * A - hb * B by omega) hM;rw[e] at h1;rcases DB 0 (ha * sb - hb * sa) with h2|h2
  ·exact h2
  ·have:=R8 h2 (E_ AB);omega
variable{b:Str}
theorem lm_(W:Pw hs ts ps f)(Q:Qs ps qs)(ha:a∈hs.map (·.1))(hb:b∈hs.map (·.1)):0<hX hs ps f a b ↔ BH hs qs f b<BH hs qs f a:=by
 let s1:=W.bM ha;let s2:=W.bM hb;unfold hX BH;rw[Ri W Q,Ri W Q];exact Pz (iH_ W.Gd) (_l W.Gd ha) (_l W.Gd hb) Z1 Z1
theorem Ux(x y:Int)(a b:Str):bw [.inl x,.inr a] [.inl y,.inr b]=if x=y then gE a b else decide (x<y):=by
 by_cases h:x=y
 ·subst h;rw[aA Z];show (if (Sum.inl x:Key)=Sum.inl x then (if (Sum.inr a:Key)=Sum.inr b then false else gE a b) else _)=_;rw[aA Z];by_cases z:a=b
  ·subst z;rw[aA Z,VO]
  ·rw[ao λe=>z (hU e)]
 ·rw[ao h];show (if (Sum.inl x:Key)=Sum.inl y then _ else pO (Sum.inl x) (Sum.inl y))=_;rw[ao λe=>h (Sum.inl.inj e)];rfl
theorem Q3{x y:Int}(h:y<x∨(y<=x/\gE a b=false)):bw [.inl x,.inr a] [.inl y,.inr b]=false:=by
 rw[Ux];by_cases z:x=y
 ·rw[aA z];rcases h with h|h
  ·omega
  ·exact h.2
 ·rw[ao z];exact dR Z1
theorem VR(W:Pw hs ts ps f)(Q:Qs ps qs):∀{l:ae} {a:Str},gh (a::l)->(∀x∈a::l,x∈hs.map (·.1))->∀x∈a::l,bw (kR hs qs f x) (kR hs qs f (bV hs ps f a l))=false
 |[],a,_,_,x,hx=>by
  rw[jd.mp hx];exact L8 _
 |y::l,a,as,gQ,x,hx=>by
  have e:bV hs ps f a (y::l)=bV hs ps f (if 0<hX hs ps f a y then y else a) l:=rfl;rw[e];have hY:(∀z∈y::l,gE z a=false)/\gh (y::l):=Eu.mp as;have YV:(∀z∈l,gE z y=false)/\gh l:=Eu.mp hY.2;let iff:=lm_ W Q (gQ a c8) (gQ y Z2);by_cases c:0<hX hs ps f a y
  ·rw[aA c];let ih:=VR W Q hY.2 λz hz=>gQ z (dF _ hz);rcases bW.mp hx with rfl|hx
   ·exact L4 (ih y c8) (Q3 (.inl (iff.mp c)))
   ·exact ih x hx
  ·rw[ao c]
   let ih:=VR W Q (l:=l) (a:=a) (Eu.mpr #[λz hz=>hY.1 z (dF _ hz),YV.2]) λz hz=>by
    rcases bW.mp hz with rfl|hz
    ·exact gQ _ c8
    ·exact gQ z (by simp[hz])
   rcases bW.mp hx with rfl|hx
   ·exact ih x c8
   ·rcases bW.mp hx with rfl|hx
    ·apply L4 (ih a c8) (Q3 (.inr #[?_,hY.1 x c8]));rcases DB (BH hs qs f x) (BH hs qs f a) with h|h
     ·exact absurd (iff.mpr h) c
     ·exact h
    ·exact ih x (dF _ hx)
theorem iK_(a:Str)(l:ae):bV hs ps f a (a::l)=bV hs ps f a l:=by
 have e:bV hs ps f a (a::l)=bV hs ps f (if 0<hX hs ps f a a then a else a) l:=rfl;rw[e];split<;>rfl
theorem dG_(W:Pw hs ts ps f)(Q:Qs ps qs):∀(n:Nat) (l:ae),l.length=n->gh l->(∀x∈l,x∈hs.map (·.1))->(fZ hs ps f n l).Perm l/\zK ((fZ hs ps f n l).map (kR hs qs f))
 |0,l,e,_,_=>by
  rw[Fo.mp e];exact#[.refl _,.nil]
 |n+1,[],e,_,_=>by cases e
 |n+1,a::l,e,as,gQ=>by
  let lm:=V6 (hs:=hs) (ps:=ps) (f:=f) (a:=a) (l:=l)
  have mn:∀x∈a::l,bw (kR hs qs f x) (kR hs qs f (bV hs ps f a (a::l)))=false:=by
   rw[iK_];exact VR W Q as gQ
  show (bV hs ps f a (a::l)::fZ hs ps f n ((a::l).erase (bV hs ps f a (a::l)))).Perm (a::l)/\zK ((bV hs ps f a (a::l)::fZ hs ps f n ((a::l).erase (bV hs ps f a (a::l)))).map (kR hs qs f));generalize bV hs ps f a (a::l)=lo at lm mn ⊢;let ih:=dG_ W Q n ((a::l).erase lo) (by rw[List.length_erase_of_mem lm];exact Nat.succ.inj e) (as.sublist List.erase_sublist) λx hx=>gQ x (L6 hx);apply#[(ih.1.cons lo).trans (List.perm_cons_erase lm).symm,?_];rw[el];apply Eu.mpr #[λk hk=>?_,ih.2];let#[x,hx,rfl]:=bh.mp hk;exact mn x (L6 (ih.1.mem_iff.mp hx))
theorem _C(W:Pw hs ts ps f)(Q:Qs ps qs)(h:Str):fq hs ts ps f h=dN hs ts qs f h:=by
 let s:=dG_ W Q (aV (c_ ts h)).length (aV (c_ ts h)) Z (RS _) λx hx=>VB W.Gd ((gO _).mem_iff.mp hx);let e:=RN ((s.1.map (kR hs qs f)).trans (by rw[Rt W.Gd])) s.2;unfold fq dN;rw[<- e,cm];exact (List.map_id' _).symm
theorem ZS(Q:Qs ps qs)(h:n∈ps.map (·.1)):∃p∈ps,p.1=n/\F1 p∈qs:=by
 have m:n∈qs.map (·.1):=by
  rw[Q.Dy];exact (gO _).mem_iff.mpr h
 let#[q,hq,rfl]:=bh.mp m;let#[p,hp,e]:=Q.mem q hq;exact#[p,hp,by rw[e];rfl,by rw[<- e];exact hq]
theorem B_(W:Pw hs ts ps f)(Q:Qs ps qs)(h:n∈ps.map (·.1)):d6 qs n=d6 ps n:=by
 let#[p,hp,rfl,hq]:=ZS Q h;rw[Gx W.nd hp];exact Gx (q:=F1 p) (Q.nd W.nd) hq
theorem SR(W:Pw hs ts ps f)(Q:Qs ps qs)(h:n∈ps.map (·.1)):IL qs n=(IL ps n).map aD:=by
 let#[p,hp,rfl,hq]:=ZS Q h;rw[NY W.nd hp];exact NY (q:=F1 p) (Q.nd W.nd) hq
theorem Fy{ws:Xb}:aL a b∈aD ws ↔ (a,b)∈ws∨(b,a)∈ws:=by
 rw[Sj];constructor
 ·rintro⟨⟨x,y⟩,ht,e⟩;rcases VD (a:=x) (b:=y) (c:=a) (d:=b) (by show kT (aL x y)=kT (aL a b);rw[<- e]) with⟨rfl,rfl⟩|⟨rfl,rfl⟩
  ·exact .inl ht
  ·exact .inr ht
 ·rintro (m|m)
  ·exact#[_,m,Z]
  ·exact#[_,m,RW _ _]
theorem _p(W:Pw hs ts ps f)(Q:Qs ps qs)(h:n∈ps.map (·.1))(ha:a∈hs.map (·.1))(hb:b∈hs.map (·.1)):fB ts ps n a b=pL hs ts qs n a b:=by
 unfold fB pL J_;rw[Sw,cw ha,cw hb,Bool.true_and,Bool.true_and,SR W Q h,decide_eq_decide.mpr (_r W.Gd)];congr 1;cases IL ps n with
 |none=>rfl
 |some ws=>
  show (decide ((a,b)∈ws) || decide ((b,a)∈ws))=decide (aL a b∈aD ws);rw[Bool.eq_iff_iff,Bool.or_eq_true,xW,xW,xW];exact Fy.symm
variable{gd:Str}
theorem _w(W:Pw hs ts ps f)(Q:Qs ps qs)(h:n∈ps.map (·.1))(ha:a∈hs.map (·.1))(hb:b∈hs.map (·.1)):qb hs ts ps f gd gv a b n=(decide (f n=a)&&AD hs ts qs f gd gv a b n):=by
 unfold qb AD vK;rw[_p W Q h ha hb,V4 W Q,B_ W Q h,Int.mul_comm,Bool.and_comm (pL hs ts qs n a b)]
theorem WY{R:Str->Bool}{k:Str->aN}{n:Str}:∀{l:ae},zK (l.map k)->l.find? R=some n->∀m∈l,R m=true->bw (k m) (k n)=false
 |x::l,as,e,m,hm,r=>by
  rw[el] at as;have hY:(∀z∈l.map k,bw z (k x)=false)/\zK (l.map k):=Eu.mp as;cases c:R x with
  |true=>
   rw[List.find?_cons_of_pos c] at e;cases e;rcases bW.mp hm with rfl|hm
   ·exact L8 _
   ·exact hY.1 _ (bh.mpr #[m,hm,Z])
  |false=>
   rw[List.find?_cons_of_neg (by rw[c];exact gM)] at e;rcases bW.mp hm with rfl|hm
   ·rw[c] at r;cases r
   ·exact WY hY.2 e m hm r
theorem ha_(qs:aC):zK ((iZ qs).map (kN qs)):=by
 unfold iZ;rw[cm]
 have e:∀k∈aU ((qs.map (·.1)).map (kN qs)),(kN qs ∘ gC) k=id k:=λk hk=>by
  let#[n,_,rfl]:=bh.mp ((yb _).mem_iff.mp hk);rfl
 rw[BC e,List.map_id];exact Ss _
theorem DV:∀(l:ae) (a:Str),gh (a::l)->∃m,l.foldl (dS ps) (some a)=some m/\m∈a::l/\∀x∈a::l,bw (kN ps x) (kN ps m)=false
 |[],a,_=>#[a,Z,c8,λx hx=>by rw[jd.mp hx];exact L8 _]
 |y::l,a,as=>by
  have hY:(∀z∈y::l,gE z a=false)/\gh (y::l):=Eu.mp as;have YV:(∀z∈l,gE z y=false)/\gh l:=Eu.mp hY.2;have e:(y::l).foldl (dS ps) (some a)=l.foldl (dS ps) (if d6 ps a<d6 ps y then some y else some a):=rfl;rw[e];by_cases c:d6 ps a<d6 ps y
  ·rw[aA c];let#[m,e,hm,mn]:=DV l y hY.2;apply#[m,e,dF _ hm,λx hx=>?_];rcases bW.mp hx with rfl|hx
   ·exact L4 (mn y c8) (Q3 (.inl Z1))
   ·exact mn x hx
  ·rw[ao c];let#[m,e,hm,mn]:=DV l a (Eu.mpr #[λz hz=>hY.1 z (dF _ hz),YV.2]);apply#[m,e,?_,λx hx=>?_]
   ·rcases bW.mp hm with rfl|hm
    ·exact c8
    ·simp[hm]
   ·rcases bW.mp hx with rfl|hx
    ·exact mn x c8
    ·rcases bW.mp hx with rfl|hx
     ·exact L4 (mn a c8) (Q3 (.inr #[by omega,hY.1 x c8]))
     ·exact mn x (dF _ hx)
theorem Xp(ps:aC)(S:ae):(S=[]/\Bk ps S=none)∨∃m,Bk ps S=some m/\m∈S/\∀x∈S,bw (kN ps x) (kN ps m)=false:=by
 let p:=gO S;let as:=RS S;unfold Bk;generalize aV S=T at p as;cases T with
 |nil=>exact .inl #[List.nil_perm.mp p,Z]
 |cons a l=>
  let#[m,e,hm,mn]:=DV (ps:=ps) l a as;exact .inr #[m,e,p.mem_iff.mp hm,λx hx=>mn x (p.mem_iff.mpr hx)]
theorem V2(W:Pw hs ts ps f)(Q:Qs ps qs)(ha:a∈hs.map (·.1))(hb:b∈hs.map (·.1)):Bu hs ts ps f gd gv a b=(bQ qs f a).find? (AD hs ts qs f gd gv a b):=by
 have nm:∀{n:Str},n∈iZ qs ↔ n∈ps.map (·.1):=λ{n}=>by
  rw[(KW qs).mem_iff,Q.Dy,(gO _).mem_iff]
 have kq:∀{n:Str},n∈ps.map (·.1)->kN qs n=kN ps n:=λ{n} h=>by
  unfold kN;rw[B_ W Q h]
 unfold Bu bQ;rw[List.find?_filter]
 have sm:∀n,n∈(ps.map (·.1)).filter (qb hs ts ps f gd gv a b) ↔ n∈iZ qs/\(decide (f n=a)&&AD hs ts qs f gd gv a b n)=true:=λn=>by
  rw[BA,nm];constructor
  ·rintro⟨h1,h2⟩;exact#[h1,by rw[<- _w W Q h1 ha hb];exact h2]
  ·rintro⟨h1,h2⟩;exact#[h1,by rw[_w W Q h1 ha hb];exact h2]
 rcases Xp ps ((ps.map (·.1)).filter (qb hs ts ps f gd gv a b)) with⟨e,h⟩|⟨m,h,hm,mn⟩
 ·rw[h];symm;rw[Ip];intro x hx r;have:=(sm x).mpr #[hx,by simpa using r];rw[e] at this;cases this
 ·rw[h];let#[m1,m2]:=(sm m).mp hm;cases e:(iZ qs).find? λx=>decide ((decide (f x=a))=true/\AD hs ts qs f gd gv a b x=true) with
  |none=>
   have:=Ip.mp e m m1;exact absurd (by simpa using m2) this
  |some n=>
   let n1:=List.mem_of_find?_eq_some e;let n2:=List.find?_some e;let nS:=(sm n).mpr #[n1,by simpa using n2];let h1:=mn n nS;let h2:=WY (ha_ qs) e m m1 (by simpa using m2);rw[kq (nm.mp m1),kq (nm.mp n1)] at h2;have:=Pu h1 h2;have:gC (kN ps n)=gC (kN ps m):=by rw[this]
   exact dU some this.symm
theorem lN_(W:Pw hs ts ps f)(Q:Qs ps qs)(hh:h∈hs.map (·.1)):wX hs ts ps f "least" gd h=Iv hs ts qs f gd h:=by
 have gQ:∀x∈fq hs ts ps f h,x∈hs.map (·.1):=λx hx=>V5 W.Gd hx;unfold wX Iv;rw[aA Z,<- _C W Q];cases e:fq hs ts ps f h with
 |nil=>rfl
 |cons o l=>
  rw[e] at gQ;show zp hs ts ps f gd h [] [o]=iK hs ts qs f gd [] h o;unfold iK;rw[<- V2 W Q hh (gQ o c8)];cases eb:Bu hs ts ps f gd [] h o with
  |none=>rw[Sq eb];rfl
  |some n=>rw[Yz eb];rfl
theorem ki_{a b:Int}(h:pV gd a b=true)(hb:1<=b):0<a:=by
 unfold pV at h;split at h
 ·exact vJ h
 ·split at h
  ·have:=vJ h;omega
  ·have:=vJ h;omega
theorem gO_(W:Pw hs ts ps f)(ha:a∈hs.map (·.1))(hb:b∈hs.map (·.1))(h:¬0<hX hs ps f a b):Bu hs ts ps f gd gv a b=none:=by
 unfold Bu
 have e:(ps.map (·.1)).filter (qb hs ts ps f gd gv a b)=[]:=by
  rw[List.filter_eq_nil_iff];intro n hn r;unfold qb at r;simp only[Ft] at r;apply h (ki_ r.2.2.2 ?_);let h1:=W.wt hn;let h2:=W.bM ha;let h3:=W.bM hb;have:=Int.mul_le_mul (show (1:Int)<=strOf hs a+strOf hs b by omega) h1.1 (by decide) Z1;omega
 rw[e];rcases Xp ps [] with⟨_,e⟩|⟨m,_,hm,_⟩
 ·exact e
 ·cases hm
theorem Vt(W:Pw hs ts ps f)(Q:Qs ps qs){gd h:Str}(hh:h∈hs.map (·.1)):∀(l:ae) (ms:gX),(∀x∈l,x∈hs.map (·.1))->BW hs ts qs f gd h ms l=ms++zp hs ts ps f gd h (ms.map (·.1)) l
 |[],ms,_=>by
  rw[BW,zp,gK]
 |o::l,ms,gQ=>by
  let ho:=gQ o c8;have NP:∀x∈l,x∈hs.map (·.1):=λx hx=>gQ x (dF _ hx);rw[BW,<- V4 W Q];by_cases c:0<hX hs ps f h o
  ·rw[aA c,Vt W Q hh l _ NP];unfold iK;rw[<- V2 W Q hh ho];cases eb:Bu hs ts ps f gd (ms.map (·.1)) h o with
   |none=>
    rw[Sq eb];dsimp only;rw[gK]
   |some n=>
    rw[Yz eb];dsimp only;rw[Fk,b_];rfl
  ·rw[ao c,Vt W Q hh l ms NP,Sq (gO_ W hh ho c)]
theorem kA_(W:Pw hs ts ps f)(Q:Qs ps qs)(hh:h∈hs.map (·.1)):wX hs ts ps f "below" gd h=H_ hs ts qs f gd h:=by
 unfold wX H_;rw[ao Z0,<- _C W Q,Vt W Q hh _ [] λx hx=>V5 W.Gd hx];rfl
end Ev
namespace L2
open PySem PySem.Spec PyProof.Rows PySem.Builtin PySem.Builtin.Str
inductive Ao (x:V) (vs:ag) (H:Hp) (Q:VK):Prop
 |mk:∀(z y:Str) (c:Nat),x=.str z->vs=[.str y]->y=⟨(List.toArray [c])⟩->z.length<=50000->(∀l,H l=none->Q (.ref l) (upd H l (.lst ((Txt.split z y).map V.str))))->Ao x vs H Q
variable{X:Cx}
theorem hB_:Me X "str.split" Ao:=by
 intro pins s σ H x vs v us Q I rx rv h;let#[z,y,c,rfl,rfl,ey,hz,q]:=h;let#[t,rfl]:=rx;let#[u,rfl,t2,rfl]:=rv.one;let sz:=ck;have hy:(y.length == 0)=false:=by rw[ey];rfl
 have hn:(partsBetween z (occurrences z y 0 z.length (z.length+1)) y.length).length<=60000:=by
  rw[length_partsBetween];have:=StrLaws.occ_length_le z y 0 z.length (z.length+1);omega
 let sl:=PyProof.Rows.split_le z y
 have fin:∀(l:List (Str × Tok)) (k:Nat),l.map (·.1)=Txt.split z y->EP X pins σ Q (.ref s.heap.objs.size) { s with toks:=k,heap:=s.heap.push { cls:=.type "list",data:=.seq (strValues l).toArray } }:=λl k e=>by
  let vl:=et_ l;rw[e] at vl;apply#[.ref s.heap.objs.size,_,I.laid (t':=k) (o:=.lst ((Txt.split z y).map V.str)) (λb ob q=>cO _ q) (bo _) ?_,Z,q _ (I.aO.fresh (bo _))];apply#[?_,_,0,vl,e_ _ Z];rw[ak];omega
 cases hA:(decide (z.length<y.length) || decide (strKind z<strKind y)) with
 |true=>
  apply call_meets PySem.F.slot_str_split (typeIs_str _ _ _) PySem.F.entry_str_split (PySem.F.args_str_split_2 _ _) (meets_str_split_cannot_occur z y t t2 hA) ?_;exact fin [(z,t)] _ (by unfold Txt.split;rw[aA hA];rfl)
 |false=>
  cases hB:(occurrences z y 0 z.length (z.length+1)).isEmpty with
  |true=>
   apply call_meets PySem.F.slot_str_split (typeIs_str _ _ _) PySem.F.entry_str_split (PySem.F.args_str_split_2 _ _) (meets_str_split_not_found z y t t2 hA hy hB) ?_;exact fin [(z,t)] _ (by unfold Txt.split;rw[ao (by rw[hA];decide),aA hB];rfl)
  |false=>
   apply call_meets PySem.F.slot_str_split (typeIs_str _ _ _) PySem.F.entry_str_split (PySem.F.args_str_split_2 _ _) (meets_str_split_sep z y t t2 hA hy hB Z1 Z1) ?_;show wants _ _ _ { s with toks:=_,heap:=s.heap.push { cls:=.type "list",data:=.seq (strsFrom s.toks (partsBetween z (occurrences z y 0 z.length (z.length+1)) y.length)).toArray } };rw[strsFrom_eq];exact fin (numbered s.toks _) _ ((numbered_texts _ _).trans (by unfold Txt.split;rw[ao (by rw[hA];decide),ao (by rw[hB];decide)]))
end L2
namespace Ev
open PySem L2
variable{p:Addr}{fp:ay}
theorem gn.Gn{K:af}{C:Addr}{H:Hp}{hs:Xa}{ts:Xb}(W:gn K C H p hs ts fp){b:Addr}(hb:b∈fp):∃o,H b=some o/\∀vs,o≠.tbl vs:=by
 let#[dx,d1,l2,d3,zs,as,rfl,h1,h2,h3,h4,h5,h6,h7]:=W.ex;simp only[bW] at hb;rcases hb with rfl|rfl|rfl|rfl|hb
 ·exact#[_,h1,by intro vs z;cases z]
 ·exact#[_,h2,by intro vs z;cases z]
 ·exact#[_,h3,by intro vs z;cases z]
 ·exact#[_,h5,by intro vs z;cases z]
 ·let#[i,hi,e]:=BB hb;exact#[_,h7 i ((aI hs)[i]' Z1) b (dq Z1) (by rw[<- e];exact dq hi),by intro vs z;cases z]
theorem ij.Gn{K:af}{CG CW:Addr}{H:Hp}{g:Addr}{hs:Xa}{ts:Xb}{qs:aC}(G:ij K CG CW H g p hs ts qs fp):∃OW,ij K CG CW H g p hs ts qs OW/\(∀b∈OW,b∈fp)/\∀b∈OW,∃o,H b=some o/\∀vs,o≠.tbl vs:=by
 let#[dx,dw,dy,vs,cq,h1,h2,h3,h4,h5,m1,m2,m3,m4,m5]:=G.ex;apply#[g::dw::dy::(cq++vs.filterMap λv=>match v with | .ref a=>some a|_=>none),#[dx,dw,dy,vs,cq,h1,h2,h3,h4,h5,by simp,by simp,by simp,λb hb=>by simp[hb],λv hv a z=>?_],λb hb=>?_,λb hb=>?_]
 ·have:a∈vs.filterMap λv=>match v with | .ref a=>some a|_=>none:=GP.mpr #[v,hv,by rw[z]];simp only[bW,fM];exact .inr (.inr (.inr (.inr this)))
 ·simp only[bW,fM] at hb;rcases hb with rfl|rfl|rfl|hb|hb
  ·exact m1
  ·exact m2
  ·exact m3
  ·exact m4 b hb
  ·let#[v,hv,e]:=GP.mp hb;cases v with
   |ref a=>cases e;exact m5 _ hv _ Z
   |_=>cases e
 ·simp only[bW,fM] at hb;rcases hb with rfl|rfl|rfl|hb|hb
  ·exact#[_,h1,by intro vs z;cases z]
  ·exact#[_,h3,by intro vs z;cases z]
  ·exact#[_,h4,by intro vs z;cases z]
  ·exact h2.Gn hb
  ·let#[v,hv,e]:=GP.mp hb;let#[i,hi,ev]:=BB hv;let le:=bG h5;let w:=hZ h5 i hi Z1;rw[ev] at w;cases o:(qs[i]' Z1).2.2 with
   |none=>
    rw[o] at w;rw[show v=.non from w] at e;cases e
   |some ws=>
    rw[o] at w;let#[a,ys,ea,ha,_]:=w;rw[ea] at e;cases e;exact#[_,ha,by intro vs z;cases z]
variable{H':Hp}
theorem lT_{K:af}{H:Hp}{a:Addr}{xs:ag}(s:NT H H')(h:d9 K H a xs):d9 K H' a xs:=by
 rcases h with (h|⟨o,h⟩)|h
 ·exact .inl (.inl (s.lst h))
 ·exact .inl (.inr #[o,s _ _ h nofun])
 ·exact .inr h
variable{l:Addr}
theorem bc.same{H H1 H2:Hp}(b:bc l H1 H2)(n:H l=none)(s:aa H H1):aa H H2:=λc o e=>b c o (s c o e) (bx e n)
variable{G:Hp}
theorem Tb.same{H:Hp}{T1 T2:Addr}(t:Tb H T1 T2)(s:aa H G):Tb G T1 T2:=#[t.a.same s,t.b.same s,t.ne]
variable{ys:ag}
theorem hr_{K:af}{H:Hp}{ks:List aN}(t:bg K H ys ks)(s:NT H G):bg K G ys ks:=Paired.bu t λy k ⟨b,z,q⟩=>#[b,z,s.tup q]
theorem mk_{hs:Xa}{ts:Xb}(G:Good hs ts)(h:Str):(c_ ts h).length<=8:=by
 let e:=dU List.length (Rt G h);rw[(gO _).length_eq] at e;have:=Ii hs ts h;have:=G.fw;have:=G.h8;omega
theorem R0{wt:Str->Int}{p q:Str->Bool}:∀{ns:ae} {l:Int},(∀n∈ns,p n=q n)->eU wt p l ns=eU wt q l ns
 |[],_,_=>rfl
 |n::ns,l,h=>by
  rw[eU,eU,h n c8,R0 λm hm=>h m (dF _ hm),R0 λm hm=>h m (dF _ hm)]
theorem gU_{wt:Str->Int}{p:Str->Bool}{l:Int}:∀{ns:ae},(∀n∈ns,l<wt n)->eU wt p l ns=[]
 |[],_=>rfl
 |n::ns,h=>by
  have:=h n c8;rw[eU,dR Z1,AQ,ao (by decide)];exact gU_ λm hm=>h m (dF _ hm)
theorem fM_{wt:Str->Int}{p:Str->Bool}{l:Int}:∀{ns:ae},(∀n∈ns,p n=false)->eU wt p l ns=[]
 |[],_=>rfl
 |n::ns,h=>by
  rw[eU,h n c8,By,ao (by decide)];exact fM_ λm hm=>h m (dF _ hm)
theorem g7_{wt:Str->Int}{tr:ae}{m:Str}(nt:tr.Nodup):∀{ns:ae} {l:Int},ns.Nodup->ns.find? (λn=>decide (n∈tr))=some m->
  eU wt (λn=>decide (n∈tr)) l ns=if wt m<=l then m::eU wt (λn=>decide (n∈tr.erase m)) (l - wt m) ns else eU wt (λn=>decide (n∈tr.erase m)) l ns
 |[],_,_,h=>by cases h
 |n::ns,l,nd,h=>by
  let#[n1,n2]:=Bz.mp nd;by_cases c:n∈tr
  ·rw[List.find?_cons_of_pos (by exact cw c)] at h;obtain rfl:=ee h;have ne:¬n∈tr.erase n:=λz=>(nt.mem_erase_iff.mp z).1 Z
   have cg:∀{l:Int},eU wt (λx=>decide (x∈tr)) l ns=eU wt (λx=>decide (x∈tr.erase n)) l ns:=R0 λx hx=>by
    have:x≠n:=λz=>n1 (z▸hx);exact decide_eq_decide.mpr (by rw[nt.mem_erase_iff];simp[this])
   rw[eU,eU,eU];simp only[cw c,dR ne,Bool.true_and,By,xW,cg];simp
  ·rw[List.find?_cons_of_neg (by simpa using c)] at h;have ne:¬n∈tr.erase m:=λz=>c (L6 z);rw[eU,eU,eU];simp only[dR c,dR ne,By];simp only[GO,if_false];exact g7_ nt n2 h
variable{n:Str}
variable{tr:ae}
variable{gv:ae}
variable{m:Str}
variable{o:Str}
section
variable{hs:Xa}{ts:Xb}{ps qs:aC}{f:ai}
theorem PJ(Q:Qs ps qs){h:Str}:n∈bQ qs f h ↔ n∈ps.map (·.1)/\f n=h:=by
 unfold bQ;rw[BA,(KW qs).mem_iff,Q.Dy,(gO _).mem_iff,xW]
theorem lg_(W:Pw hs ts ps f)(Q:Qs ps qs)(h:Str):(bQ qs f h).Nodup:=by
 have e:(iZ qs).Nodup:=(KW qs).nodup_iff.mpr (by rw[Q.Dy];exact (gO _).nodup_iff.mpr W.nd);exact e.sublist List.filter_sublist
theorem jD_(W:Pw hs ts ps f)(Q:Qs ps qs){h:Str}(ht:∀x∈tr,x∈bQ qs f h):Bk ps tr=(bQ qs f h).find? λn=>decide (n∈tr):=by
 have kq:∀{n:Str},n∈ps.map (·.1)->kN qs n=kN ps n:=λ{n} h=>by
  unfold kN;rw[B_ W Q h]
 have asc:zK ((bQ qs f h).map (kN qs)):=List.Pairwise.sublist (List.filter_sublist.map _) (ha_ qs);rcases Xp ps tr with⟨e,z⟩|⟨m,z,hm,mn⟩
 ·rw[z,e];symm;rw[Ip];intro x hx r;simp at r
 ·rw[z];let m1:=ht m hm;cases e:(bQ qs f h).find? λn=>decide (n∈tr) with
  |none=>
   have:=Ip.mp e m m1;simp[hm] at this
  |some n=>
   let n1:=List.mem_of_find?_eq_some e;let n2:=List.find?_some e;have nS:n∈tr:=vJ n2;let h1:=mn n nS;let h2:=WY asc e m m1 (cw hm);rw[kq ((PJ Q).mp m1).1,kq ((PJ Q).mp n1).1] at h2;have:=Pu h1 h2;have:gC (kN ps n)=gC (kN ps m):=by rw[this]
   exact dU some this.symm
def dj(ps:aC)(f:ai)(h:Str)(gv:ae):ae:=(ps.map (·.1)).filter λn=>decide (f n=h)&&!decide (n∈gv)
theorem V_{h:Str}:n∈dj ps f h gv ↔ n∈ps.map (·.1)/\f n=h/\n∉gv:=by
 unfold dj;rw[BA];simp
theorem gd_(W:Pw hs ts ps f){h:Str}:(dj ps f h gv).erase m=dj ps f h (gv++[m]):=by
 have nd:(dj ps f h gv).Nodup:=W.nd.sublist List.filter_sublist;rw[nd.erase_eq_filter];unfold dj;rw[List.filter_filter];apply List.filter_congr λx _=>?_;by_cases c:x=m<;>simp[c]
def iV(ts:Xb)(ps:aC)(f:ai)(h o:Str)(gv:ae):ae:=(dj ps f h gv).filter λn=>fB ts ps n h o
theorem kN_(W:Pw hs ts ps f){h:Str}:(iV ts ps f h o gv).Nodup:=(W.nd.sublist List.filter_sublist).sublist List.filter_sublist
def dA(hs:Xa)(ts:Xb)(ps:aC)(f:ai)(a b:Str):Int:=(if hX hs ps f a b > 0 then hX hs ps f a b else 0) / ((strOf hs a+strOf hs b) * (1+hW hs ts))
theorem gm_(W:Pw hs ts ps f)(Q:Qs ps qs){h:Str}(hh:h∈hs.map (·.1))(ho:o∈hs.map (·.1))(ms:gX)(l:ae) :
  Bq hs ts qs f h ms (o::l)=Bq hs ts qs f h (ms++(eU (d6 qs) (λn=>decide (n∈iV ts ps f h o (ms.map (·.1)))) (dA hs ts ps f h o) (bQ qs f h)).map (to3 h o)) l:=by
 have cg:∀{x:Int},eU (d6 qs) (λn=>decide (n∈iV ts ps f h o (ms.map (·.1)))) x (bQ qs f h)=eU (d6 qs) (il hs ts qs (ms.map (·.1)) h o) x (bQ qs f h):=R0 λn hn=>by
  let nm:=(PJ Q).mp hn;unfold il iV;rw[<- _p W Q nm.1 hh ho]
  have:n∈(dj ps f h (ms.map (·.1))).filter (λn=>fB ts ps n h o) ↔ (n∉ms.map (·.1)/\fB ts ps n h o=true):=by
   rw[BA,V_];exact#[λz=>#[z.1.2.2,z.2],λz=>#[#[nm.1,nm.2,z.1],z.2]]
  by_cases c:n∈ms.map (·.1)<;>cases d:fB ts ps n h o<;>simp[this,c,d]
 rw[Bq];let de:=V4 W Q h o;by_cases c:0<xm hs qs f h o
 ·rw[aA c,cg];congr 2;unfold FI MO yx dA vK;rw[de,aA c,Int.add_comm 1]
 ·rw[ao c]
  have z:dA hs ts ps f h o=0:=by
   unfold dA;rw[de,ao c,Int.zero_ediv]
  rw[z,gU_ (λn hn=>?_),Fb,gK];let nm:=((PJ Q).mp hn).1;rw[B_ W Q nm];let#[q,hq,rfl]:=bh.mp nm;rw[Gx W.nd hq];have:=(W.gp q hq).w1;omega
end
theorem Wj{hs:Xa}{ts:Xb}(G:Good hs ts)(n:Str):(c_ ts n).length=(nb hs ts n).length:=by
 rw[<- Rt G n,(gO _).length_eq]
theorem lc_{hs:Xa}{ts:Xb}(G:Good hs ts):0<=hW hs ts/\hW hs ts<=8:=by
 unfold hW;cases e:(fF hs ts).max? with
 |none=>exact#[by decide,by decide]
 |some m=>exact he_ G (List.max?_eq_some_iff.mp e).1
theorem lu_{hs:Xa}{ts:Xb}{ps:aC}{f:ai}(W:Pw hs ts ps f){h:Str}:(dj ps f h gv).Nodup:=W.nd.sublist List.filter_sublist
theorem Z_{H:Hp}{Q:VK}(hl:H l=some (.lst (tr.map V.str)))(hm:m∈tr)(q:Q .non (upd H l (.lst ((tr.erase m).map V.str)))):XI (.ref l) [.str m] H Q:=by
 let#[j,j1,j2,j3]:=Wh hm;apply#[l,_,_,j,Z,Z,hl,Z,?_,#[.str m,by rw[dQ,j1];rfl,by rw[Rx];simp],λi y hi e=>?_,?_]
 ·rw[List.all_eq_true];intro v hv;let#[_,_,rfl]:=bh.mp hv;rfl
 ·rw[dQ,Iy] at e;let#[x,hx,rfl]:=e;rw[Rx];simpa using j2 i x hi hx
 ·rw[YO,j3];exact q
variable{hs:Xa}{ts:Xb}
variable{H:Hp}{h:Str}{ps:aC}{f:ai}{dd lf lh lx:Addr}{ms:gX}
section
variable{P:Ad}{w:Af}{K:af}{mg:Str->Option Aa}{base:Heap}
abbrev bsN:ae:=[fU,iO,"_law_hand","_law_held_by","_law_many",BX,"_law_held_here",xR,"_law_both","_law_left","_law_tried",AL]
theorem Ep:bD bsN LD (bb XQ):=bJ
inductive Xd (K:af) (vs:ag) (H:Hp) (Q:VK) (E:XK):Prop
 |mk:∀(wa sd:Addr) (h:Str) (hs:Xa) (ts:Xb) (ps qs:aC) (f:ai),vs=[.ref wa,.ref sd,.str h]->zq K H wa hs ts ps->Pw hs ts ps f->Qs ps qs->Wd hs ts qs f->H sd=some (.dK (dH (ps.map (·.1)) f))->h∈hs.map (·.1)->(∀l ys H',aa H H'->H l=none->H' l=some (.lst ys)->bg K H' ys ((KY hs ts qs f h).map kM)->Q (.ref l) H')->Xd K vs H Q E
theorem iR_(G:Good hs ts){m:Int}(h1:m∈(hs.map (·.1)).map λn=>((c_ ts n).length:Int))(h2:∀a∈(hs.map (·.1)).map λn=>((c_ ts n).length:Int),a<=m):m=hW hs ts:=by
 have e:∀a:Int,a∈(hs.map (·.1)).map (λn=>((c_ ts n).length:Int)) ↔ a∈fF hs ts:=λa=>by
  unfold fF;rw[bh,bh];constructor
  ·rintro⟨n,hn,rfl⟩;exact#[n,(gf hs).mem_iff.mpr hn,by rw[Wj G n]]
  ·rintro⟨n,hn,rfl⟩;exact#[n,(gf hs).mem_iff.mp hn,by rw[Wj G n]]
 exact h1_ ((e m).mp h1) λa ha=>h2 a ((e a).mpr ha)
structure GQ (K:af) (H:Hp) (hs:Xa) (ts:Xb) (ps:aC) (f:ai) (h:Str) (dd lx lf lh:Addr) (H':Hp) (ys:ag) (ms:gX):Prop where
 sm:aa H H'
 hd:H' dd=some (.dK (br (hs.map (·.1)) λn=>.int (EO ps f n)))
 hx:H' lx=some (.lst ((nb hs ts h).map V.str))
 hf:H' lf=some (.lst ys)
 ht:bg K H' ys (ms.map kM)
 hg:H' lh=some (.lst ((dj ps f h (ms.map (·.1))).map V.str))
theorem GQ.same{K:af}(I:GQ K H hs ts ps f h dd lx lf lh H' ys ms)(s:aa H' G):GQ K H hs ts ps f h dd lx lf lh G ys ms:=#[I.sm.trans s,s _ _ I.hd,s _ _ I.hx,s _ _ I.hf,I.ht.same s,s _ _ I.hg]
theorem GQ.put{K:af}{D:Addr}{o:HO}{zs:ag}(I:GQ K H hs ts ps f h dd lx lf lh H' ys ms)(n:H D=none)(hD:H' D=some (.lst zs))(n1:dd≠D)(n2:lx≠D)(n3:lf≠D)(n4:lh≠D):GQ K H hs ts ps f h dd lx lf lh (upd H' D o) ys ms:=#[fN I.sm n,(au n1).trans I.hd,(au n2).trans I.hx,(au n3).trans I.hf,iT I.ht hD,(au n4).trans I.hg]
theorem gn_{f0:Addr}{fd:Ae}(F:bp K "_law_by_share" "_law_by_share" XQ f0 fd)(B:Bi mg)(cD:!bt 1 "_law_drop" xv (O0 K))(cH:!bt 1 "_law_held" xt (O6 K))(cM:!bt 1 "_law_may" A2 (Rc K))(cV:!bt 1 "_law_heaviest" AZ (z_ K)) :
  aj P w K mg base ba 2 f0 fd LD (Xd K):=by
 apply F.bI Ep λaR A outer s H vs Q E hr h=>?_
 ·let#[wa,sd,h,hs,ts,ps,qs,f,rfl,WA,Pp,Qq,Wq,ib,hh,k]:=h;let#[ds,dn,lt,dh,dy,ad,gy,W]:=id WA;let hu:=eV hr;let sz:=ck;refine' #[_,?r0,?kk]
  case' r0=>refine' aq ?s1 ?r1
  case' r1=>refine' aq ?s2 ?r2
  case' r2=>refine' aq ?s3 ?r3
  case' r3=>refine' aq ?s4 (aq ?s5 (aH ?s6))
  case s1=>exact aX 3 Ep.nd (bf cH hr %[0,1|0])
  case s2=>exact aX 4 Ep.nd (bF iQ aK (cy (fx_ Z) (by rfl) B.max KC %[_N (iS ["_law_some"] 1 [] (hl_ (ep_ (cb hu (pv 0) bZ))) (λfp s H=>eZ (i:=0) (show (["_law_some"]:ae).Nodup by decide +kernel) Z (Or.inl Z)) (λfp s H=>iH)
   (λfp s H=>cy (PV (K:=K)) (by rfl) B.len i4 %[0|0]))|0]))
  case s3=>exact aX 5 Ep.nd (cK aE)
  case' s4=>refine' KN (RG (i:=6) [AL,"_law_hand",iO] 1 [2,1] Ep.nd Z (Or.inl Z) (Pr (pv 1)) (λfp s H=>eZ (i:=0) (show ([AL,"_law_hand",iO]:ae).Nodup by decide +kernel) Z (Or.inl Z)) ?d3 (λfp s H=>pv 0))
  case d3=>exact λfp s H=>VN (cz hV (cb hu (pv 2) (pv 0)) (pv 1))
  case' s5=>refine' eF dX Z (dE (cy Yy (by rfl) B.sorted GH %[cb hu (cb hu (pv 0) bZ) (pv 2)|0])) (cj 7 Ep.nd) ?b0
  case' b0=>refine' aq ?b1 (aq ?b2 (aq ?b3 (aH ?b4)))
  case b1=>exact aX 8 Ep.nd (bF iQ (cb hu (cb hu (pv 0) bZ) (pv 2)) (cb hu (cb hu (pv 0) bZ) (pv 7)))
  case b2=>exact aX 9 Ep.nd (bF E8 (cy (RR Z) (by rfl) B.max KC %[aK,bf cD hr %[0,3,2,7|0]|0]) (bF pY (pv 8) (pv 4)))
  case' b3=>refine' RG (i:=10) [AL,"_law_hand",xR,fU] 1 [2,7,0] Ep.nd Z (Or.inl Z) (dE (pv 6)) (λfp s H=>eZ (i:=0) (show ([AL,"_law_hand",xR,fU]:ae).Nodup by decide +kernel) Z (Or.inl Z)) ?e3 (λfp s H=>pv 0)
  case e3=>exact λfp s H=>VN (fR (bf cM hr %[3,0,1,2|0]))
  case' b4=>refine' R_ dX (cz (Sd (xV hr 0)) (pv 10) (cK aE)) (aq ?w1 (aq ?w2 (aH ?w3)))
  case w1=>exact aX 11 Ep.nd (bf cV hr %[0,10|0])
  case w2=>exact h_ (gI h9 PySem.F.slot_list_remove PySem.F.type_list_remove XU (pv 10) %[11|0])
  case' w3=>refine' bN (cz HP (cb hu (cb hu (pv 0) bZ) (pv 11)) (pv 9)) (aq ?x1 (aq ?x2 (aH ?x3))) bP
  case x1=>exact aX 9 Ep.nd (bF Re (pv 9) (cb hu (cb hu (pv 0) bZ) (pv 11)))
  case x2=>exact h_ (gI h9 PySem.F.slot_list_remove PySem.F.type_list_remove XU (pv 6) %[11|0])
  case x3=>exact h_ (gI h9 xY xZ xp (pv 5) %[fe %[11,2,7|0]|0])
  case s6=>exact bj (pv 5)
  let AC:=Pp.Gd.AC;have h8:(hs.map (·.1)).length<=8:=by rw[ak];exact Pp.Gd.h8
  have xP:1<=(hs.map (·.1)).length:=by rw[ak];exact Pp.Gd.h1
  let wR:=Pp.wR;apply#[_,Z,_,Z,wa,sd,hs,ts,ps,f,Z,WA,Pp,ib,λdd H1 s1 Ue e1=>?_];lk
  let aQ:cn:=λσ H'=>σ=[some (.ref wa),some (.ref sd),some (.str h),some (.ref dd),some (.int (1+hW hs ts)),none,none,none,none,none,none,none]/\aa H1 H'
  apply dz aQ ?m2 ?m1
  case m1=>
   intro N1 ie;let W1:=W.same s1;let nr:=W1.nr
   have at_:∀{i:Nat} {kk:Key} {x:V},(br (hs.map (·.1)) λh=>V.ref (ad h))[i]? = some (kk,x)->∃n,(hs.map (·.1))[i]? = some n/\x=.ref (ad n):=λhx=>by
    let#[n,hn,_,rfl]:=GE hx;exact#[n,hn,Z]
   have lk:(br (hs.map (·.1)) λh=>V.ref (ad h)).length=(hs.map (·.1)).length:=by rw[gq]
   let gN:=W1.gN;let ls:=W1.ls;generalize (br (hs.map (·.1)) λh=>V.ref (ad h))=KV at nr at_ lk;apply#[dn,_,nr,_,Z,wa,_,Z,gN,dn,_,Z,nr,λv hv=>?_];have TK:aa H1 (upd H1 v (Ek v dn)):=aa.new hv;apply#[v,dn,_,Z,az,TK _ _ nr,λo D hD=>?_]
   have Ej:∀{b:Addr} {xs:ag},H1 b=some (.lst xs)->upd (upd H1 v (Ek v dn)) dn (.frz o (.dK KV)) b=some (.lst xs):=λe=>by
    rw[au (cU e nr nofun)];exact TK _ _ e
   have fz0:upd (upd H1 v (Ek v dn)) dn (.frz o (.dK KV)) dn=some (.frz o (.dK KV)):=az;have lL:((hs.map (·.1)).map λn=>((c_ ts n).length:Int)).length=(hs.map (·.1)).length:=ak ..;let ml:=λm h1 h2=>iR_ (m:=m) Pp.Gd h1 h2;have gL:∀{i:Nat} {n:Str},(hs.map (·.1))[i]? = some n->((hs.map (·.1)).map λn=>((c_ ts n).length:Int))[i]? = some ((c_ ts n).length:Int):=λhn=>by rw[dQ,hn];rfl
   generalize ((hs.map (·.1)).map λn=>((c_ ts n).length:Int))=LL at lL ml gL;apply GF (own:=1) (fv:=[]) Z dP (hs.map (·.1)).length (λi out H'=>aa (upd (upd H1 v (Ek v dn)) dn (.frz o (.dK KV))) H'/\H' D=some (.lst out)/\out=(LL.take i).map V.int) #[aa.new hD,az,Z] (λout H' ⟨sm,eI,eo⟩=>?_) (λi out H' hi ⟨sm,eI,eo⟩=>?_)
   ·let hf:=sm _ _ fz0;have Dd:D≠dn:=cU eI hf nofun;rw[<- lL,dJ] at eo;apply#[#[hf,by omega],o,hf,D,LL,Z,.of (by rw[au Dd,eI,eo]),by omega,λm hm hle=>#[_,_,Z,Z,?_]];rw[ml m hm hle];apply ie _ _ #[Z,λb u e=>?_];by_cases z:b=dn
    ·rw[z] at e ⊢;rw[nr] at e;rw[az];exact e
    ·rw[au z];exact sm _ _ (by rw[au z];exact TK _ _ e)
   ·let hf:=sm _ _ fz0;apply#[#[hf,by omega],λx H2 y=>?_];let#[eH,kk,hk]:=y;subst eH;let#[n,hn,rfl]:=at_ hk;let JO:=ls n (cu hn);apply#[_,Z,Z,λNx hN=>dM ?_];apply#[_,Z,_,_,Z,.inl (.of (sm _ _ (Ej JO))),out,eI,?_,hN _ _ #[fN sm hD,az,?_]]
    ·rw[eo,ak,cQ];omega
    ·rw[Iz _ (gL hn),eo,ak]
  rintro σ H2 ⟨rfl,fY⟩;let s2:=s1.trans fY;apply#[zl,λlf nf=>?_];lk;let#[pJ,e3]:=aB (o:=.lst []) nf;generalize upd H2 lf (.lst [])=H3 at pJ e3 ⊢;let s3:=s2.trans pJ
  let bH:cn:=λσ H'=>∃lh:Addr,σ=[some (.ref wa),some (.ref sd),some (.str h),some (.ref dd),some (.int (1+hW hs ts)),some (.ref lf),some (.ref lh),none,none,none,none,none]/\aa H3 H'/\H3 lh=none/\H' lh=some (.lst ((dj ps f h []).map V.str))
  apply dz bH ?m4 ?m3
  case m3=>
   intro N1 ie;let w_:=s3 _ _ ib;apply#[sd,_,w_,?_];apply#[_,Z,sd,_,Z,w_,λo D hD=>?_]
   have GS:D≠sd:=by
    intro z;rw[z,az] at hD;cases hD
   have J9:H3 D=none:=by rw[au GS] at hD;exact hD
   let eX:dG:=λi out H'=>Fz sd o (dH (ps.map (·.1)) f) H3 H'/\H' D=some (.lst out)/\out=(((ps.map (·.1)).take i).filter λn=>decide (f n=h)).map V.str
   apply eH_ (own:=1) (fv:=[some (.str h),some (.ref sd)]) Z dP eX #[Fz.start.put J9 GS,az,Z] (λi out H' _ ⟨z,_,_⟩=>z.at_) (λout H4 ⟨fz,Bo,eo⟩=>?_) (λi ky x out H' hx ⟨fz,eI,eo⟩=>?_)
   ·rw[gq,dJ] at eo;lk;apply#[o,fz.at_,ie _ _ #[D,Z,fz.pG w_,J9,?_]];rw[au GS,Bo,eo];apply dU (λx=>some (HO.lst (List.map V.str x))) (List.filter_congr λn _=>?_);simp
   ·let#[n,hn,rfl,rfl]:=GE hx;let nm:=cu hn;apply#[_,Z,Z,λNx hN=>?_];apply#[_,Z,_,Z,sd,.str (f n),Z,L0 (UH fz) nm,_,Z,Z,_,Z,?_]
    have lo:out.length<=64:=by
     rw[eo,ak];have:=Fm (λn=>decide (f n=h)) ((ps.map (·.1)).take i);rw[cQ,ak] at this;omega
    apply aM (λc=>?_) (λc=>?_)
    ·have c:f n=h:=by simpa using c
     apply#[_,Z,out,eI,by omega,hN _ _ #[fz.put J9 GS,az,?_]];rw[eO hn,GN,b_,eo];simp[c];rfl
    ·have c:¬f n=h:=by simpa using c
     apply hN out _ #[fz,eI,?_];rw[eO hn,GN,b_,eo];simp[c]
  rintro σ H4 ⟨lh,rfl,eY,Lh,g_⟩;let s4:=s3.trans eY;let W4:=W.same s4
  have n8:(nb hs ts h).length<=8:=by
   have:=Ii hs ts h;have:=Pp.Gd.fw;have:=Pp.Gd.h8;omega
  have EL:(c_ ts h).length<64:=by
   rw[Wj Pp.Gd];omega
  apply#[_,Z,wa,_,Z,W4.gN,_,Z,dn,_,Z,gm W4.nr hh,ad h,c_ ts h,Z,.of (W4.ls h hh),EL,λlx nx=>?_];rw[Rt Pp.Gd h];let#[xH,e5]:=aB (o:=.lst ((nb hs ts h).map V.str)) nx;generalize upd H4 lx (.lst ((nb hs ts h).map V.str))=H5 at xH e5 ⊢;have Be:H lf=none:=s2.free nf;have T9:H lh=none:=s3.free Lh;have ZE:H lx=none:=s4.free nx;have ND:lf≠lh:=bx e3 Lh;have Uw:lf≠lx:=bx (eY _ _ e3) nx;have Uu:lh≠lx:=bx g_ nx;let D_:=fY _ _ e1;have Xg:dd≠lf:=bx D_ nf;have Xf:dd≠lh:=bx (pJ _ _ D_) Lh;have ddlx:dd≠lx:=bx (eY _ _ (pJ _ _ D_)) nx;let d5:=xH _ _ (eY _ _ (pJ _ _ D_));let f5:=xH _ _ (eY _ _ e3);let g5:=xH _ _ g_;let s5:=s4.trans xH;clear xH eY fY pJ D_ e1 e3 g_ nf Lh nx s2 s3 s4 W4 s1 Ue
  let qf:bL:=λi σ H'=>∃(v7 v8 v9 v10 v11:aJ) (ys:ag) (ms:gX),σ=[some (.ref wa),some (.ref sd),some (.str h),some (.ref dd),some (.int (1+hW hs ts)),some (.ref lf),some (.ref lh),v7,v8,v9,v10,v11]/\GQ K H hs ts ps f h dd lx lf lh H' ys ms/\ms.length<=63 * i/\Bq hs ts qs f h ms ((nb hs ts h).drop i)=KY hs ts qs f h
  apply#[lx,Z,#[_,.of e5],fW (K:=K) (a:=lx) (xs:=(nb hs ts h).map V.str) qf #[none,none,none,none,none,[],[],Z,#[s5,d5,e5,f5,.nil,g5],bo _,Z] (λi σ H' _ ⟨_,_,_,_,_,_,_,_,z,_⟩=>.of z.hx) ?_ ?_]
  ·rintro i x σ H6 hx ⟨v7,v8,v9,v10,v11,ys,ms,rfl,I6,NB,HN⟩;let#[o,ho,rfl]:=iG hx;have hi:i<(nb hs ts h).length:=(cc.mp ho).1;have om:o∈hs.map (·.1):=(gf hs).mem_iff.mp (OI (cu ho));rw[VX ho,gm_ Pp Qq hh om] at HN;let W6:=W.same I6.sm;let WA6:=WA.nt (NT.of I6.sm);let e1:=Pp.bM hh;let e2:=Pp.bM om;have mo:0<=hW hs ts/\hW hs ts<=8:=lc_ Pp.Gd;have pp:0<(strOf hs h+strOf hs o) * (1+hW hs ts):=Int.mul_pos Z1 Z1
   have pl:(strOf hs h+strOf hs o) * (1+hW hs ts)<1073741824:=by
    have:=Int.mul_le_mul (show strOf hs h+strOf hs o<=2000 by omega) (show 1+hW hs ts<=9 by omega) Z1 (by decide);omega
   lk;apply#[_,Z,wa,_,Z,W6.gS,_,Z,ds,_,Z,gm W6.sg hh,_,Z,wa,_,Z,W6.gS,_,Z,ds,_,Z,gm W6.sg om,_,_,Z,Z,?_];lk;apply#[_,Z,_,Z,_,Z,_,Z,wa,dd,h,o,hs,ts,ps,f,Z,WA6,Pp,I6.hd,hh,om,_,_,Z,_,Z,_,Z,_,_,Z,Z,.inl #[by omega,by omega],_,_,Z,Z,#[pp,pl],?_];lk;have AG:∀{gv:ae} {n:Str},n∈dj ps f h gv->n∈ps.map (·.1):=λhn=>(V_.mp hn).1
   have hlen:∀gv:ae,(dj ps f h gv).length<=30:=λgv=>by
    have:=Fm (λn=>decide (f n=h)&&!decide (n∈gv)) (ps.map (·.1));rw[ak] at this;show ((ps.map (·.1)).filter _).length<=30;omega
   apply#[_,Z,lh,Z,#[_,.of I6.hg],λD hD=>?_];apply yd (own:=1) (fv:=[some (.str h),some (.str o),some (.ref wa)]) (xs:=(dj ps f h (ms.map (·.1))).map V.str) Z dP (λj out H'=>aa H6 H'/\H' D=some (.lst out)/\out=(((dj ps f h (ms.map (·.1))).take j).filter λn=>fB ts ps n h o).map V.str) #[aa.new hD,az,Z] (λj out H' _ ⟨sm,_⟩=>.of (sm _ _ I6.hg)) (λout H7 ⟨Jt,D7,eo⟩=>?_) (λj x out H' hx ⟨sm,hd,eo⟩=>?_);rotate_left
   ·let#[n,hn,rfl]:=iG hx;let nm:=AG (cu hn)
    have lo:out.length<=30:=by
     rw[eo,ak];have:=Fm (λn=>fB ts ps n h o) ((dj ps f h (ms.map (·.1))).take j);rw[cQ] at this;have:=hlen (ms.map (·.1));omega
    apply#[_,Z,Z,λNx hN=>?_];apply#[_,Z,_,Z,_,Z,_,Z,wa,n,h,o,hs,ts,ps,f,Z,WA6.nt (NT.of sm),Pp,nm,hh,λH7 s7=>#[_,Z,?_]];apply aM (λc=>?_) (λc=>?_)
    ·apply#[_,Z,out,s7 _ _ hd,by omega,hN _ _ #[fN (sm.trans s7) hD,az,?_]];rw[eO hn,GN,b_,eo,List.filter_cons_of_pos (by exact c)];rfl
    ·apply hN out _ #[sm.trans s7,s7 _ _ hd,?_];rw[eO hn,GN,b_,eo,List.filter_cons_of_neg (by exact c),List.filter_nil,Fb,gK]
   rw[ak,dJ] at eo;subst eo;lk;let I7:=I6.same Jt;have hD0:H D=none:=I6.sm.free hD;let Dlf:=bx I6.hf hD;let Dlh:=bx I6.hg hD;let Dlx:=bx I6.hx hD;let Ddd:=bx I6.hd hD;clear Jt hD I6;change H7 D=some (.lst ((iV ts ps f h o (ms.map (·.1))).map V.str)) at D7;have A6:∀x∈iV ts ps f h o (ms.map (·.1)),x∈dj ps f h (ms.map (·.1)):=λx hx=>(BA.mp hx).1;let IQ:=kN_ (o:=o) (h:=h) (gv:=ms.map (·.1)) Pp
   have t0:∀l:Int,(eU (d6 qs) (λn=>decide (n∈iV ts ps f h o (ms.map (·.1)))) l (bQ qs f h)).length<=63:=λl=>by
    let h1:=(Rq (d6 qs) (λn=>decide (n∈iV ts ps f h o (ms.map (·.1)))) l (bQ qs f h)).length_le;let h2:=WT Wq h;omega
   let t0:=t0 (dA hs ts ps f h o);have l0:dA hs ts ps f h o=(if hX hs ps f h o > 0 then hX hs ps f h o else 0) / ((strOf hs h+strOf hs o) * (1+hW hs ts)):=rfl
   have tl:(iV ts ps f h o (ms.map (·.1))).length<=30:=by
    let h1:=Fm (λn=>fB ts ps n h o) (dj ps f h (ms.map (·.1)));let h2:=hlen (ms.map (·.1));show ((dj ps f h (ms.map (·.1))).filter _).length<=30;omega
   generalize iV ts ps f h o (ms.map (·.1))=Zc at D7 A6 IQ t0 HN tl;rw[<- l0];generalize dA hs ts ps f h o=Hq at t0 HN;generalize eT:ms++(eU (d6 qs) (λn=>decide (n∈Zc)) Hq (bQ qs f h)).map (to3 h o)=GW at HN
   have lt0:GW.length<=63 * (i+1):=by
    rw[<- eT,dY,ak];omega
   apply#[λm σ H'=>∃(v11:aJ) (left:Int) (tr:ae) (ms:gX) (ys:ag),σ=[some (.ref wa),some (.ref sd),some (.str h),some (.ref dd),some (.int (1+hW hs ts)),some (.ref lf),some (.ref lh),some (.str o),some (.int (strOf hs h+strOf hs o)),some (.int left),some (.ref D),v11]/\GQ K H hs ts ps f h dd lx lf lh H' ys ms/\H' D=some (.lst (tr.map V.str))/\m=tr.length/\tr.length<=30/\tr.Nodup/\(∀x∈tr,x∈dj ps f h (ms.map (·.1)))/\ms++(eU (d6 qs) (λn=>decide (n∈tr)) left (bQ qs f h)).map (to3 h o)=GW,#[_,v11,Hq,Zc,ms,ys,Z,I7,D7,Z,tl,IQ,A6,eT],?_];clear I7 D7 tl IQ A6 eT t0;rintro m σ H8 ⟨v11,left,tr,ms,ys,rfl,I8,D8,rfl,l30,Ud,JK,HM⟩;apply#[_,Z,zl,λle ne=>?_];let#[Bb,e9]:=aB (o:=.lst []) ne;generalize upd H8 le (.lst [])=H9 at Bb e9 ⊢;apply#[D,le,tr.map V.str,Z,Z,.of (Bb _ _ D8),.of e9,_,Z,?_];let I9:=I8.same Bb;let D9:=Bb _ _ D8
   have Ur:ms.length<=63 * (i+1):=by
    have:=dU List.length HM;rw[dY] at this;omega
   clear I8 D8 Bb e9 ne;apply aM (λc=>?_) (λc=>?_)
   ·apply#[λσ H'=>∃(v11:aJ) (left:Int) (FB:ae) (ms:gX) (ys:ag),FB.length<tr.length/\σ=[some (.ref wa),some (.ref sd),some (.str h),some (.ref dd),some (.int (1+hW hs ts)),some (.ref lf),some (.ref lh),some (.str o),some (.int (strOf hs h+strOf hs o)),some (.int left),some (.ref D),v11]/\GQ K H hs ts ps f h dd lx lf lh H' ys ms/\H' D=some (.lst (FB.map V.str))/\FB.length<=30/\FB.Nodup/\(∀x∈FB,x∈dj ps f h (ms.map (·.1)))/\ms++(eU (d6 qs) (λn=>decide (n∈FB)) left (bQ qs f h)).map (to3 h o)=GW,λbq H' ⟨v11,left,FB,ms,ys,lt,e,q1,q2,q3⟩=>#[FB.length,lt,v11,left,FB,ms,ys,e,q1,q2,Z,q3],?_];apply#[_,Z,_,Z,wa,D,tr,hs,ts,ps,Z,WA.nt (NT.of I9.sm),D9,λn hn=>AG (JK n hn),by omega,λHA TH=>?_];lk;have inv:∀x∈tr,x∈bQ qs f h:=λx hx=>(PJ Qq).mpr #[AG (JK x hx),(V_.mp (JK x hx)).2.1];rw[jD_ Pp Qq inv];let IA:=I9.same TH;let DA:=TH _ _ D9;clear I9 D9 TH;cases em:(bQ qs f h).find? (λn=>decide (n∈tr)) with
    |none=>
     cases tr with
     |nil=>simp at c
     |cons a l=>
      have:=Ip.mp em a (inv a c8);simp at this
    |some m=>
     rw[show fu (some m)=V.str m from Z];let mt:=List.find?_some em;have mt:m∈tr:=vJ mt;let mp:=AG (JK m mt);rw[g7_ Ud (lg_ Pp Qq h) em] at HM;apply#[_,Z,.inl #[Z,_,.of DA],_,Z,F3 ?_];apply Z_ DA mt ?_;have eD:upd HA D (.lst ((tr.erase m).map V.str)) D=some (.lst ((tr.erase m).map V.str)):=az;let IB:=IA.put (o:=.lst ((tr.erase m).map V.str)) hD0 DA Ddd Dlx Dlf Dlh;have QL:(tr.erase m).length=tr.length - 1:=List.length_erase_of_mem mt;have lp:0<tr.length:=List.length_pos_of_mem mt;let ZK:=Ud.erase m;generalize upd HA D (.lst ((tr.erase m).map V.str))=HB at eD IB ⊢;dsimp only;let WB:=W.same IB.sm;let wm:=B_ Pp Qq mp;apply#[_,Z,wa,_,Z,WB.gH,_,Z,dh,_,Z,gm WB.hv mp,_,Z,_,_,Z,Z,_,Z,?_];apply aM (λc2=>?_) (λc2=>?_)
     ·have c2:d6 ps m<=left:=by simpa using c2
      rw[aA (by rw[wm];exact c2),wm,el,List.append_cons] at HM;apply#[_,Z,_,Z,wa,_,Z,WB.gH,_,Z,dh,_,Z,gm WB.hv mp,_,_,Z,Z,?_];lk;apply#[_,Z,.inl #[Z,_,.of IB.hg],_,Z,F3 ?_];apply Z_ IB.hg (JK m mt) ?_;have eg:(dj ps f h (ms.map (·.1))).erase m=dj ps f h ((ms++[to3 h o m]).map (·.1)):=by rw[gd_ Pp,b_];rfl
      rw[eg];generalize eh:dj ps f h ((ms++[to3 h o m]).map (·.1))=BL at eg ⊢;have eC:upd HB lh (.lst (BL.map V.str)) lh=some (.lst (BL.map V.str)):=az;have sC:aa H (upd HB lh (.lst (BL.map V.str))):=fN IB.sm T9;let dC:=(au (o:=.lst (BL.map V.str)) Xf).trans IB.hd;let xC:=(au (o:=.lst (BL.map V.str)) Uu.symm).trans IB.hx;let fC:=(au (o:=.lst (BL.map V.str)) ND).trans IB.hf;let DC:=(au (o:=.lst (BL.map V.str)) Dlh.symm).trans eD;let tC:=iT (o:=.lst (BL.map V.str)) IB.ht IB.hg;generalize upd HB lh (.lst (BL.map V.str))=HC at eC sC dC xC fC DC tC ⊢;dsimp only;apply#[_,Z,.inl #[Z,_,.of fC],_,Z,_,Z,_,Z,zl,λt nt=>?_];let#[Hf,et]:=aB (o:=.tup [.str m,.str h,.str o]) nt;generalize upd HC t (.tup [.str m,.str h,.str o])=HE at Hf et ⊢;let ly:=bG tC;rw[ak] at ly;let fE:=Hf _ _ fC;apply#[lf,_,_,Z,Z,fE,by omega,?_];apply#[_,_,tr.erase m,ms++[to3 h o m],ys++[.ref t],by omega,Z,#[fN (sC.trans Hf) Be,(au Xg).trans (Hf _ _ dC),(au Uw.symm).trans (Hf _ _ xC),az,?_,?_],(au Dlf.symm).trans (Hf _ _ DC),by omega,ZK,λx hx=>?_,HM]
      ·rw[b_];exact iT (Es (tC.same Hf) et) fE
      ·rw[au ND.symm,Hf _ _ eC,eh]
      ·let Lm:=Ud.mem_erase_iff.mp hx;rw[eh,<- eg];exact (lu_ Pp).mem_erase_iff.mpr #[Lm.1,JK x Lm.2]
     ·have c2:¬d6 ps m<=left:=by simpa using c2
      rw[ao (by rw[wm];exact c2)] at HM;exact#[_,left,tr.erase m,ms,ys,by omega,Z,IB,eD,by omega,ZK,λx hx=>JK x (L6 hx),HM]
   ·have z:tr=[]:=by
     cases tr with
     |nil=>rfl
     |cons a l=>simp at c
    subst z;rw[fM_ (λn _=>by simp),Fb,gK] at HM;subst HM;exact#[_,_,_,_,_,ys,_,Z,I9,Ur,HN]
  ·rintro σ H6 ⟨v7,v8,v9,v10,v11,ys,ms,rfl,I6,NB,HN⟩;rw[ak,List.drop_length] at HN;apply#[_,Z,k lf ys H6 I6.sm Be I6.hf ?_];rw[<- HN];exact I6.ht
end
end Ev
namespace L2
open PySem PySem.Spec PyProof.Rows PySem.W
variable{x y:Str}{t u:Tok}{prog:Ad}{w:Af}{A:Ag}{E:Aa->Ab->Prop}{s:Ab}
theorem kC_{Q:Aa->Ab->Prop}(h:Q (.bool (decide (y.cps.toList<x.cps.toList))) s):wpAny (model prog w) A (richCompare .Gt (.str x t) (.str y u)) Q E s:=
 richCompare_gives (op:=.Gt) (typeIs_str s x t) (typeIs_str s y u) PySem.F.slot_str_gt PySem.F.entry_str_gt (PySem.F.args_str_gt_2 _ _) (gives_str_gt x y t u) (λe=>nomatch e) h
theorem l2_{Q:Aa->Ab->Prop}(h:Q (.bool (decide (x.cps.toList<y.cps.toList))) s):wpAny (model prog w) A (richCompare .Lt (.str x t) (.str y u)) Q E s:=
 richCompare_gives (op:=.Lt) (typeIs_str s x t) (typeIs_str s y u) PySem.F.slot_str_lt PySem.F.entry_str_lt (PySem.F.args_str_lt_2 _ _) (gives_str_lt x y t u) (λe=>nomatch e) h
def fO(x y:Str)(i:Nat):Str:=if i=0 then x else y
theorem LR{i:Nat}{v:Aa}(h:((List.toArray [Value.str x t,.str y u]):Array Aa)[i]? = some v):∃tk,v=.str (fO x y i) tk:=by
 match i,h with
 |0,h=>exact#[t,by simpa [fO] using h.symm]
 |1,h=>exact#[u,by simpa [fO] using h.symm]
 |_+2,h=>simp at h
variable{p:Addr}{a b:Str}
theorem ke_{Q:Aa->Ab->Prop}(hh:A.handled=none)(hT:s.heap.IsTuple p (List.toArray [.str a t,.str b u]))(h:∀h' tk EI,(∀c o,s.heap.get? c=some o->h'.get? c=some o)->Q (.str (if a.cps.toList<b.cps.toList then b else a) EI) { s with heap:=h',toks:=tk }):wpAny (model prog w) A (call (.builtin "max") [.ref p]) Q E s:=by
 have pl:p<s.heap.objs.size:=by
  let#[o,ho,_]:=id hT;exact cE ho
 apply call_max_walk (wpAny_pyIter_tuple hT #[_,[_,p],[_],_,_,_,λi j=>decide ((fO a b j).cps.toList<(fO a b i).cps.toList),Z,Walks.tuple (A:=A.in1) hh s.heap.objs.size p (eM pl) (List.toArray [.str a t,.str b u]),#[#[_,e_ _ Z,Z,Z],hT.push _],λc hc=>?_,by simp,λi j vi vj s' Q' E' hi hj h'=>?_,λv h' tk hP hk=>?_])
 ·show c<(s.heap.push _).objs.size;rw[Heap.size_push];rcases bW.mp hc with e1|hc
  ·rw[e1];exact Nat.lt_succ_self _
  ·rw[jd.mp hc];exact Nat.lt_succ_of_lt pl
 ·let#[_,rfl]:=LR hi;let#[_,rfl]:=LR hj;exact kC_ h'
 ·have hold:∀c o,s.heap.get? c=some o->h'.get? c=some o:=λc o e=>by
   apply hk c o (λhm=>?_) (cO _ e);let q:=cE e;rw[jd.mp hm] at q;exact Ei _ q
  let#[EI,rfl]:=LR hP
  have e:fO a b (argBest (λi j=>decide ((fO a b j).cps.toList<(fO a b i).cps.toList)) (((List.toArray [Value.str a t,.str b u]):Array Aa).size - 1))=if a.cps.toList<b.cps.toList then b else a:=by
   show fO a b (if decide (a.cps.toList<b.cps.toList)=true then 1 else 0)=_;by_cases c:a.cps.toList<b.cps.toList
   ·rw[aA (cw c),aA c];rfl
   ·rw[ao (by simpa using c),ao c];rfl
  rw[e];exact h h' tk EI hold
theorem kw_{Q:Aa->Ab->Prop}(hh:A.handled=none)(hT:s.heap.IsTuple p (List.toArray [.str a t,.str b u]))(h:∀h' tk EI,(∀c o,s.heap.get? c=some o->h'.get? c=some o)->Q (.str (if b.cps.toList<a.cps.toList then b else a) EI) { s with heap:=h',toks:=tk }):wpAny (model prog w) A (call (.builtin "min") [.ref p]) Q E s:=by
 have pl:p<s.heap.objs.size:=by
  let#[o,ho,_]:=id hT;exact cE ho
 apply call_min_walk (wpAny_pyIter_tuple hT #[_,[_,p],[_],_,_,_,λi j=>decide ((fO a b i).cps.toList<(fO a b j).cps.toList),Z,Walks.tuple (A:=A.in1) hh s.heap.objs.size p (eM pl) (List.toArray [.str a t,.str b u]),#[#[_,e_ _ Z,Z,Z],hT.push _],λc hc=>?_,by simp,λi j vi vj s' Q' E' hi hj h'=>?_,λv h' tk hP hk=>?_])
 ·show c<(s.heap.push _).objs.size;rw[Heap.size_push];rcases bW.mp hc with e1|hc
  ·rw[e1];exact Nat.lt_succ_self _
  ·rw[jd.mp hc];exact Nat.lt_succ_of_lt pl
 ·let#[_,rfl]:=LR hi;let#[_,rfl]:=LR hj;exact l2_ h'
 ·have hold:∀c o,s.heap.get? c=some o->h'.get? c=some o:=λc o e=>by
   apply hk c o (λhm=>?_) (cO _ e);let q:=cE e;rw[jd.mp hm] at q;exact Ei _ q
  let#[EI,rfl]:=LR hP
  have e:fO a b (argBest (λi j=>decide ((fO a b i).cps.toList<(fO a b j).cps.toList)) (((List.toArray [Value.str a t,.str b u]):Array Aa).size - 1))=if b.cps.toList<a.cps.toList then b else a:=by
   show fO a b (if decide (b.cps.toList<a.cps.toList)=true then 1 else 0)=_;by_cases c:b.cps.toList<a.cps.toList
   ·rw[aA (cw c),aA c];rfl
   ·rw[ao (by simpa using c),ao c];rfl
  rw[e];exact h h' tk EI hold
inductive yZ (K:af) (xs:ag) (H:Hp) (Q:VK):Prop
 |mk:∀p a b,xs=[.ref p]->iI K H p [.str a,.str b]->Q (.str (if a.cps.toList<b.cps.toList then b else a)) H->yZ K xs H Q
inductive yY (K:af) (xs:ag) (H:Hp) (Q:VK):Prop
 |mk:∀p a b,xs=[.ref p]->iI K H p [.str a,.str b]->Q (.str (if b.cps.toList<a.cps.toList then b else a)) H->yY K xs H Q
theorem fV_{its:ax}(r:Vals [.str a,.str b] its):∃t u,its=[.str a t,.str b u]:=by
 cases r with
 |cons h r=>
  let#[t,rfl]:=h;cases r with
  |cons h r=>
   let#[u,rfl]:=h;cases r;exact#[t,u,Z]
variable{X:Cx}
theorem gB_(hc:X.calm=true):gJ X (.builtin "max") (yZ X.K):=by
 intro pins s σ H xs us Q I r h;let#[p,a,b,rfl,hp,q]:=h;let#[v,rfl,rv]:=vals1 r;cases rv;let#[its,r',hT,_]:=I.tuple hp;let#[t,u,rfl]:=fV_ r';exact ke_ (I.ok.hd hc) hT λh' tk EI k=>#[V.str _,H,I.kept k,#[_,Z],q]
theorem gc_(hc:X.calm=true):gJ X (.builtin "min") (yY X.K):=by
 intro pins s σ H xs us Q I r h;let#[p,a,b,rfl,hp,q]:=h;let#[v,rfl,rv]:=vals1 r;cases rv;let#[its,r',hT,_]:=I.tuple hp;let#[t,u,rfl]:=fV_ r';exact kw_ (I.ok.hd hc) hT λh' tk EI k=>#[V.str _,H,I.kept k,#[_,Z],q]
end L2
namespace Ev
open PySem L2
variable{lr:Addr}
theorem iM_{K:af}{H H':Hp}{ln a:Addr}{as:ay}{rs:List Xb}{t:Str × Str}(R:x_ K H lr as rs)(fa:∀b∈as,b≠lr)(e1:H' lr=some (.lst (as.map V.ref++[.ref ln])))(e2:H' ln=some (.lst [.ref a]))(e3:H' a=some (.tup [.str t.1,.str t.2]))(k:∀b o,H b=some o->b≠lr->H' b=some o):x_ K H' lr (as++[ln]) (rs++[[t]]):=by
 let la:=bG R.2;have kt:∀b xs,H b=some (.tup xs)->H' b=some (.tup xs):=λb xs e=>k b _ e (cU e R.1 nofun);apply#[by rw[b_];exact e1,d8_ (RZ la λj h1 h2=>?_) #[_,e2,.cons #[a,Z,e3] .nil]];let#[zz,e,tt]:=hZ R.2 j h1 h2;exact#[zz,k _ _ e (fa _ (jg h1)),Paired.bu tt λy q ⟨c,z,e⟩=>#[c,z,kt _ _ e]]
theorem iP_(a b:Str):(if gE b a=true then b else a,if gE a b=true then b else a)=aL a b∨a=b:=by
 unfold aL;by_cases c:gE a b=true
 ·have n:¬gE b a=true:=λz=>by
   have:=f2_ c;rw[z] at this;cases this
  rw[aA c,aA c,ao n];exact .inl Z
 ·by_cases d:gE b a=true
  ·rw[aA d,ao c,ao c];exact .inl Z
  ·exact .inr (hZ_ (by simpa using c) (by simpa using d))
variable{f0:Addr}{fd:Ae}
section
variable{P:Ad}{w:Af}{K:af}{mg:Str->Option Aa}{base:Heap}
abbrev rwN:ae:=[fU,"_law_rows_here",BV,xR,"_law_at"]
theorem LX:bD rwN [fU] (bb yK):=bJ
inductive RL (K:af) (vs:ag) (H:Hp) (Q:VK) (E:XK):Prop
 |mk:∀(wa:Addr) (hs:Xa) (ts:Xb) (ps:aC),vs=[.ref wa]->zq K H wa hs ts ps->Good hs ts->(∀(l:Addr) (as:ay) (H':Hp),aa H H'->H l=none->(∀a∈as,H a=none)->x_ K H' l as (turnsOf (aD ts))->Q (.ref l) H')->RL K vs H Q E
theorem jz_(F:bp K "_law_rows" "_law_rows" yK f0 fd)(B:Bi mg):!aj ba 1 f0 fd [fU] (RL K):=by
 apply F.bI LX λaR A outer s H vs Q E hr h=>?_
 ·let#[wa,hs,ts,ps,rfl,#[ds,dn,lt,dh,dy,ad,gy,W],Gd,k]:=h;let hu:=eV hr;let sz:=ck;refine' #[_,aq ?s1 (aq ?s2 (aH ?s3)),?kk]
  case s1=>exact aX 1 LX.nd (cK aE)
  case' s2=>refine' eF dX Z (dE (cy gt_ (by rfl) B.sorted GH %[?c0|0])) (xk Z (dZ (cj 2 LX.nd) (dZ (cj 3 LX.nd) jf))) ?b0
  case' c0=>refine' iS ["_law_pair"] 1 [] (dE (cb hu (pv 0) bZ)) (λfp s H=>eZ (i:=0) (show (["_law_pair"]:ae).Nodup by decide +kernel) Z (Or.inl Z)) (λfp s H=>iH) ?c1
  case c1=>exact λfp s H=>fe %[cy (Ed (K:=K) yY (gc_ Z)) (by rfl) B.min PyProof.Rows.Boot.«min» %[0|0],cy (Ed (K:=K) yZ (gB_ Z)) (by rfl) B.max KC %[0|0]|0]
  case' b0=>refine' aq ?b1 (aq ?b2 (aq ?b3 (aH ?b4)))
  case b1=>exact aX 4 LX.nd aK
  case' b2=>refine' R_ dX (PW.pt (E7 ?w1 (Ir ?w2))) (aH ?w3)
  case w1=>exact cz UE (pv 4) (cy xo (by rfl) B.len i4 %[1|0])
  case' w2=>refine' fR (cy (fK_ Z) (by rfl) B.any PyProof.Rows.Boot.«any» %[?w4|0])
  case' w4=>refine' iS ["_law_row",BV,xR] 1 [2,3] (dE (bO gg (pv 1) (pv 4))) (λfp s H=>eZ (i:=0) (show (["_law_row",BV,xR]:ae).Nodup by decide +kernel) Z (Or.inl Z)) (λfp s H=>iH) ?w5
  case w5=>exact λfp s H=>Lz (iR (Lc (K:=K) (λK=>La K false) RQ) (pv 1) (pv 0) (by with_unfolding_all rfl)) (AO (iR (Lc (K:=K) (λK=>La K false) RQ) (pv 2) (pv 0) (by with_unfolding_all rfl)))
  case w3=>exact aX 4 LX.nd (bF iQ (pv 4) aK)
  case b3=>exact bN (cz hV (pv 4) (cy xo (by rfl) B.len i4 %[1|0])) (aH (h_ (gI h9 xY xZ xp (pv 1) %[cK aE|0]))) bP
  case b4=>exact h_ (gI h9 xY xZ xp (bO gg (pv 1) (pv 4)) %[fe %[2,3|0]|0])
  case s3=>exact bj (pv 1)
  let#[zt,dc,tt]:=W.tl;let wC:=Gd.wC;let ZV:=bG tt;rw[ak] at ZV;apply#[zl,λlr nr=>?_];lk;let#[s1,e1]:=aB (o:=.lst []) nr;generalize upd H lr (.lst [])=H1 at s1 e1 ⊢;let W1:=W.same s1;have gT:bU H1 wa (.str "ties") (some (.ref lt)):=bU.k (k:=Sum.inr "ties") W1.top;apply#[_,Z,wa,_,Z,gT,lt,Z,#[_,.of (s1 _ _ dc)],λD hD=>?_]
  let aQ:dG:=λj out H'=>aa H1 H'/\H' D=some (.lst out)/\bg K H' out ((ts.take j).map λt=>kT (aL t.1 t.2))
  apply yd (own:=1) (fv:=[]) (xs:=zt) Z dP aQ #[aa.new hD,az,.nil] (λj out H' _ ⟨sm,_⟩=>.of (sm _ _ (s1 _ _ dc))) (λout H2 ⟨fY,d2,t2⟩=>?_) (λj x out H' hx ⟨sm,hd,to⟩=>?_);rotate_left
  ·let#[t,ht,a,rfl,ha]:=qc tt hx;have hj:j<ts.length:=(cc.mp ht).1;let ne:=(Gd.tok t (cu ht)).2.2;have ON:H' a=some (.tup [.str t.1,.str t.2]):=sm _ _ (s1 _ _ ha);let lo:=bG to;rw[ak,cQ] at lo;apply#[_,Z,Z,λNx hN=>dM ?_];apply#[_,Z,a,t.1,t.2,Z,.of ON,_,Z,a,t.1,t.2,Z,.of ON,zl,λu nu=>?_]
   have po:((if t.2.cps.toList<t.1.cps.toList then t.2 else t.1),(if t.1.cps.toList<t.2.cps.toList then t.2 else t.1))=aL t.1 t.2:=by
    rcases iP_ t.1 t.2 with h|h
    ·rw[<- h];unfold gE;simp only[xW]
    ·exact absurd h ne
   let o1:=dU Prod.fst po;let o2:=dU Prod.snd po;dsimp only at o1 o2;rw[o1,o2];let#[s3,e3]:=aB (o:=.tup [.str (aL t.1 t.2).1,.str (aL t.1 t.2).2]) nu;generalize upd H' u (.tup [.str (aL t.1 t.2).1,.str (aL t.1 t.2).2])=H3 at s3 e3 ⊢;apply#[out,s3 _ _ hd,by omega,hN _ _ #[fN (sm.trans s3) hD,az,?_]];rw[show ts.take (j+1)=ts.take j++[t] by rw[iF,ht];rfl,b_];exact iT (Es (to.same s3) e3) (s3 _ _ hd)
  rw[ZV,dJ] at t2;let Uz:=bG t2;rw[ak] at Uz
  apply#[D,out,_,[true,true],Z,.of d2,t2,#[by decide,λk hk=>by
   let#[t,_,rfl]:=bh.mp hk;rfl],by rw[ak];exact wC,λls zs T8 tz pz=>?_]
  rw[<- P7] at tz;let#[Qx,e3]:=aB (o:=.lst zs) T8;let t3:=bg.same tz Qx;have sls:lr≠ls:=bx (fY _ _ e1) T8;let r3:=Qx _ _ (fY _ _ e1);let s3:=(s1.trans fY).trans Qx;generalize upd H2 ls (.lst zs)=H3 at s3 e3 t3 r3 ⊢;clear s1 fY Qx d2 t2 e1 hD tz T8;let lz:=bG t3;rw[ak] at lz;let F7:=Il ts
  let bH:bL:=λi σ H'=>∃(v2 v3 v4:aJ) (as:ay),σ=[some (.ref wa),some (.ref lr),v2,v3,v4]/\bc lr H3 H'/\(∀a∈as,H3 a=none/\a≠lr)/\as.Nodup/\x_ K H' lr as (turnsOf ((aD ts).take i))/\(turnsOf ((aD ts).take i)).length<=i/\∀r∈turnsOf ((aD ts).take i),r.length<=i
  apply#[ls,Z,#[_,.of e3],fW (K:=K) (a:=ls) (xs:=zs) bH #[none,none,none,[],Z,bc.refl _ _,by simp,.nil,#[r3,.nil],bo _,by intro r hr;simp[turnsOf] at hr] (λi σ H' _ ⟨_,_,_,_,_,b,_⟩=>.of (b _ _ e3 sls.symm)) ?_ ?_]
  ·rintro i x σ H4 hx ⟨v2,v3,v4,as,rfl,b4,fa,nd,R,l1,l2⟩;let#[t,ht,a,rfl,ha]:=qc t3 hx;have hi:i<(aD ts).length:=(cc.mp ht).1;have Vz:H4 a=some (.tup [.str t.1,.str t.2]):=b4 _ _ ha (cU ha r3 nofun);let la:=bG R.2
   have EU:turnsOf ((aD ts).take (i+1))=gG (turnsOf ((aD ts).take i)) t:=by
    unfold turnsOf;rw[iF,ht,List.foldl_append];rfl
   generalize turnsOf ((aD ts).take i)=rs at R l1 l2 la EU;apply#[a,_,Z,.of Vz,Z,_,_,Z,_,_,Z,Z,?_];dsimp only;apply setG (i:=4) (v:=.int 0) ?_;dsimp only
   let eX:cn:=λσ H'=>σ=[some (.ref wa),some (.ref lr),some (.str t.1),some (.str t.2),some (.int (cZ rs t))]/\aa H4 H'
   apply dz eX ?q2 ?q1
   case q1=>
    intro N1 ie;apply#[λm σ H'=>∃j:Nat,σ=[some (.ref wa),some (.ref lr),some (.str t.1),some (.str t.2),some (.int j)]/\aa H4 H'/\j<=rs.length/\m=rs.length - j/\∀r∈rs.take j,r.any (hit t)=true,#[_,0,Z,aa.refl _,gx _,Z,by simp],?_];rintro m σ H5 ⟨j,rfl,s5,jl,rfl,past⟩;let R5:=R.same s5;apply#[_,Z,_,Z,lr,_,Z,.inl (.of R5.1),_,_,Z,Z,_,Z,?_];rw[ak,la];apply aM (λc=>?_) (λc=>?_)
    ·have c:j<rs.length:=by simpa using c
     have hja:j<as.length:=by omega
     let#[zr,hz,tz]:=hZ R5.2 j hja c;let ZW:=bG tz;rw[ak] at ZW;let lr1:=l2 rs[j] (jg c);have GL:gY (as.map V.ref) (j:Int)=some (.ref as[j]):=L2.iL (by rw[dQ,dq hja];rfl);apply#[_,Z,_,Z,lr,_,_,_,Z,Z,.of R5.1,GL,as[j],Z,#[_,.of hz],λD hD=>?_]
     let qf:dG:=λq out H'=>aa H5 H'/\H' D=some (.lst out)/\out=((rs[j].take q).map (hit t)).map V.bl
     apply yd (own:=1) (fv:=[some (.str t.1),some (.str t.2)]) (xs:=zr) Z dP qf #[aa.new hD,az,Z] (λq out H' _ ⟨sm,_,_⟩=>.of (sm _ _ hz)) (λout H6 ⟨s6,VE,eo⟩=>?_) (λq y out H' hy ⟨sm,eI,eo⟩=>?_)
     ·rw[ZW,dJ] at eo;subst eo;apply#[D,rs[j].map (hit t),Z,.of VE,#[_,Z,?_]];have D4:(rs[j].map (hit t)).any id=rs[j].any (hit t):=by rw[List.any_map];rfl
      apply aM (λc2=>?_) (λc2=>?_)
      ·have c2:rs[j].any (hit t)=true:=by rw[<- D4];exact c2
       apply#[λσ H'=>∃j':Nat,rs.length - j'<rs.length - j/\σ=[some (.ref wa),some (.ref lr),some (.str t.1),some (.str t.2),some (.int j')]/\aa H4 H'/\j'<=rs.length/\∀r∈rs.take j',r.any (hit t)=true,λbq H' ⟨j',q0,q1,q2,q3,q4⟩=>#[_,q0,j',q1,q2,q3,Z,q4],?_];apply#[_,Z,_,_,Z,Z,?_];lk;apply#[j+1,by omega,Z,s5.trans s6,c,λr hr=>?_];rw[iF,dq c] at hr;rcases fM.mp hr with hr|hr
       ·exact past r hr
       ·obtain rfl:r=rs[j]:=by simpa using hr
        exact c2
      ·have c2:rs[j].any (hit t)=false:=by
        rw[<- D4];simpa using c2
       have e:cZ rs t=j:=by
        unfold cZ;rw[List.findIdx_eq c];apply#[by rw[c2];rfl,λj' hj=>?_];have:=past (rs[j']' Z1) (List.mem_iff_getElem?.mpr #[j',by rw[List.getElem?_take_of_lt hj,dq Z1]]);rw[this];rfl
       exact ie _ _ #[by rw[e],s5.trans s6]
     ·let#[u,_X,b,rfl,hb]:=qc tz hy;have DY:H' b=some (.tup [.str u.1,.str u.2]):=sm _ _ hb
      have lo:out.length<sizeLine:=by
       rw[eo,ak,ak,cQ];omega
      apply#[_,Z,Z,λNx hN=>dM ?_];have nx:Nx (upd H' D (.lst (out++[.bl (hit t u)]))):=hN _ _ #[fN sm hD,az,by rw[Iz _ _X,b_,eo];rfl];apply#[_,Z,_,Z,b,_,Z,.inr (.of DY),Z,Z,_,Z,?_];apply aM (λc=>?_) (λc=>?_)
      ·have c:(decide (u.1=t.1) || decide (u.2=t.1))=true:=by rw[<- LO];exact c
       apply#[out,eI,lo,?_];rwa [show hit t u=true by unfold hit;rw[c];rfl] at nx
      ·have c:(decide (u.1=t.1) || decide (u.2=t.1))=false:=by
        rw[<- LO];simpa using c
       apply#[_,Z,_,Z,b,_,Z,.inr (.of DY),Z,Z,out,eI,lo,?_];rw[show hit t u=Ll (.str t.2) [.str u.1,.str u.2] by unfold hit;rw[c,LO];rfl] at nx;exact nx
    ·have c:j=rs.length:=by
      have:¬j<rs.length:=by simpa using c
      omega
     have e:cZ rs t=j:=by
      unfold cZ;rw[c,List.findIdx_eq_length];intro r hr;rw[c,dJ] at past;rw[past r hr];rfl
     exact ie _ _ #[by rw[e],s5]
   rintro σ H5 ⟨rfl,s5⟩;let R5:=R.same s5;have b5:bc lr H3 H5:=b4.trans (bc.of s5);let rle:=fU_ rs t
   have fin:∀(H6:Hp) (hY:ay),bc lr H3 H6->(∀a∈hY,H3 a=none/\a≠lr)->hY.Nodup->x_ K H6 lr hY (gG rs t)->∃(v2 v3 v4:aJ) (as:ay),[some (V.ref wa),some (V.ref lr),some (V.str t.1),some (V.str t.2),some (V.int (cZ rs t))]=[some (V.ref wa),some (V.ref lr),v2,v3,v4]/\bc lr H3 H6/\(∀a∈as,H3 a=none/\a≠lr)/\as.Nodup/\x_ K H6 lr as (turnsOf ((aD ts).take (i+1)))/\(turnsOf ((aD ts).take (i+1))).length<=i+1/\∀r∈turnsOf ((aD ts).take (i+1)),r.length<=i+1:=λH6 hY b f n r=>by
    rw[EU];exact#[_,_,_,hY,Z,b,f,n,r,by have:=So rs t;omega,Sv l2]
   apply#[_,Z,_,Z,lr,_,Z,.inl (.of R5.1),Z,_,Z,?_];apply aM (λc=>?_) (λc=>?_)
   ·have c:cZ rs t=rs.length:=by
     have:V.int (cZ rs t)=V.int ((as.map V.ref).length:Nat):=by simpa using c
     rw[ak,la] at this;have:=V.int.inj this;omega
    apply#[_,Z,.inl #[Z,_,.of R5.1],zl,λln AF=>?_];let#[Bc,e6]:=aB (o:=.lst []) AF;generalize upd H5 ln (.lst [])=H6 at Bc e6 ⊢;have BG:ln≠lr:=(bx R5.1 AF).symm;apply#[lr,_,_,Z,Z,Bc _ _ R5.1,by rw[ak];omega,?_]
    have VW:H3 ln=none:=by
     cases z:H3 ln with
     |none=>rfl
     |some o=>
      have:=b5 _ _ z BG;rw[AF] at this;cases this
    have Np:ln∉as:=λm=>by
     let#[j,hj,e]:=BB m;let#[zz,e2,_]:=hZ R5.2 j hj Z1;rw[e,AF] at e2;cases e2
    have GL:gY (as.map V.ref++[V.ref ln]) (cZ rs t:Int)=some (.ref ln):=L2.iL (by rw[c,IC (by rw[ak];omega),ak,la,Nat.sub_self];rfl);have e7:upd H6 lr (.lst (as.map V.ref++[.ref ln])) lr=some (.lst (as.map V.ref++[.ref ln])):=az;have n7:upd H6 lr (.lst (as.map V.ref++[.ref ln])) ln=some (.lst []):=(au BG).trans e6;have k7:∀{b o},H5 b=some o->b≠lr->upd H6 lr (.lst (as.map V.ref++[.ref ln])) b=some o:=λe ne=>(au ne).trans (Bc _ _ e);generalize upd H6 lr (.lst (as.map V.ref++[.ref ln]))=H7 at e7 n7 k7 ⊢;dsimp only;apply#[_,Z,_,Z,lr,_,_,_,Z,Z,.of e7,GL,.inl #[Z,_,.of n7],_,Z,_,Z,zl,λu nu=>?_];let#[vF,e8]:=aB (o:=.tup [.str t.1,.str t.2]) nu;generalize upd H7 u (.tup [.str t.1,.str t.2])=H8 at vF e8 ⊢;let n8:=vF _ _ n7;apply#[ln,_,_,Z,Z,n8,by show 0<sizeLine;decide,?_];have uln:u≠ln:=λz=>by rw[z,n7] at nu;cases nu
    have k9:∀b o,H5 b=some o->b≠lr->upd H8 ln (.lst ([]++[.ref u])) b=some o:=λb o e ne=>(au (bx e AF)).trans (vF _ _ (k7 e ne));apply fin _ (as++[ln]) (λb o e ne=>k9 b o (b5 _ _ e ne) ne) (λx hx=>?_) ?_ ?_
    ·rcases fM.mp hx with m|m
     ·exact fa x m
     ·obtain rfl:x=ln:=by simpa using m
      exact#[VW,BG]
    ·rw[List.nodup_append]
     exact#[nd,by simp,λx hx z hz=>by
      obtain rfl:z=ln:=by simpa using hz
      exact λq=>Np (q▸hx)]
    ·have ep:gG rs t=rs++[[t]]:=by
      unfold gG;rw[dif_neg Z1]
     rw[ep];exact iM_ R5 (λb hb=>(fa b hb).2) ((au BG.symm).trans (vF _ _ e7)) az ((au uln).trans e8) k9
   ·have c:cZ rs t<rs.length:=by
     have:¬cZ rs t=rs.length:=λe=>c (by
      rw[ak,la,e];simp)
     omega
    have BJ:cZ rs t<as.length:=by omega
    have nl:as[cZ rs t]≠lr:=(fa _ (jg BJ)).2;let#[zz,ez,Mo]:=hZ R5.2 (cZ rs t) BJ c;let Um:=bG Mo;rw[ak] at Um;let Uq:=l2 _ (jg c);have GL:gY (as.map V.ref) (cZ rs t:Int)=some (.ref as[cZ rs t]):=L2.iL (by rw[dQ,dq BJ];rfl);apply#[_,Z,_,Z,lr,_,_,_,Z,Z,.of R5.1,GL,.inl #[Z,_,.of ez],_,Z,_,Z,zl,λu nu=>?_];let#[Bc,e6]:=aB (o:=.tup [.str t.1,.str t.2]) nu;generalize upd H5 u (.tup [.str t.1,.str t.2])=H6 at Bc e6 ⊢;let ez6:=Bc _ _ ez;apply#[_,_,_,Z,Z,ez6,by omega,?_];have k7:∀{b o},H5 b=some o->b≠as[cZ rs t]->upd H6 as[cZ rs t] (.lst (zz++[.ref u])) b=some o:=λe ne=>(au ne).trans (Bc _ _ e);have h7:upd H6 as[cZ rs t] (.lst (zz++[.ref u])) as[cZ rs t]=some (.lst (zz++[.ref u])):=az;have u7:upd H6 as[cZ rs t] (.lst (zz++[.ref u])) u=some (.tup [.str t.1,.str t.2]):=(au (cU e6 ez6 nofun)).trans e6;generalize upd H6 as[cZ rs t] (.lst (zz++[.ref u]))=H7 at k7 h7 u7 ⊢;have kt:∀b xs,H5 b=some (.tup xs)->H7 b=some (.tup xs):=λb xs e=>k7 e (cU e ez nofun);apply fin _ as (λb o e ne=>k7 (b5 _ _ e ne) (bx e (fa _ (jg BJ)).1)) fa nd ?_
    have ep:gG rs t=rs.set (cZ rs t) (rs[cZ rs t]++[t]):=by
     unfold gG;rw[dif_pos c]
    rw[ep];apply R5.add nd c (dq BJ) (k7 R5.1 nl.symm) h7 ?_ (λb o e _ ne=>k7 e ne) (λb hb=>(fa b hb).2) kt;rw[b_];exact Es (Paired.bu Mo λy q ⟨c,z,e⟩=>#[c,z,kt _ _ e]) u7
  ·rintro σ H4 ⟨v2,v3,v4,as,rfl,b4,fa,nd,R,_,_⟩;rw[lz,dJ] at R;have s4:aa H H4:=λb o e=>b4 _ _ (s3 _ _ e) (bx e nr);exact#[_,Z,k lr as H4 s4 nr (λa ha=>s3.free (fa a ha).1) R]
end
theorem kb_{K:af}{H:Hp}{le:Addr}{as:ay}{ts:Xb}{m:Int}(R:x_ K H lr as (turnsOf (aD ts)))(he:H le=some (.lst [])):∃ar zs,gY (as.map V.ref++[V.ref le]) (m % (if ((as.map V.ref).length:Int) > 1 then ((as.map V.ref).length:Int) else 1))=some (.ref ar)/\H ar=some (.lst zs)/\bg K H zs ((gU ts m).map kT)/\(ar∈as∨ar=le):=by
 let la:=bG R.2;rw[ak];by_cases c:as.length=0
 ·have z:turnsOf (aD ts)=[]:=Fo.mp Z1;have z2:as=[]:=Fo.mp c;subst z2;rw[ao Z2,Int.emod_one];apply#[le,[],Z,he,?_,.inr Z];unfold gU;rw[z];exact .nil
 ·have e:(if ((as.length:Nat):Int) > 1 then ((as.length:Nat):Int) else 1)=((turnsOf (aD ts)).length:Int):=by
   by_cases d:((as.length:Nat):Int) > 1
   ·rw[aA d,la]
   ·rw[ao d];omega
  rw[e];let h0:=GJ m (show (((turnsOf (aD ts)).length:Nat):Int)≠0 by omega);let h1:=ID m (show 0<(((turnsOf (aD ts)).length:Nat):Int) by omega);have lt:(m % ((turnsOf (aD ts)).length:Int)).toNat<as.length:=by omega
  have lt':(m % ((turnsOf (aD ts)).length:Int)).toNat<(turnsOf (aD ts)).length:=by omega
  let#[zs,hz,tz]:=hZ R.2 _ lt lt'
  have er:gU ts m=(turnsOf (aD ts))[(m % ((turnsOf (aD ts)).length:Int)).toNat]:=by
   unfold gU;rw[dq lt'];rfl
  apply#[_,zs,?_,hz,by rw[er];exact tz,.inl (jg lt)];rw[iL h0 (by rw[dY,ak];show _<((as.length+1:Nat):Int);omega),K1 (by rw[ak];exact lt),dQ,dq lt];rfl
section
variable{P:Ad}{w:Af}{K:af}{mg:Str->Option Aa}{base:Heap}
abbrev byN:ae:=[fU,iO,"_law_moment","_law_guard","_law_rows_here",BX,BV,xR,"_law_pair",AL]
theorem KZ:bD byN EB (bb Wc):=bJ
inductive Xy (K:af) (vs:ag) (H:Hp) (Q:VK) (E:XK):Prop
 |mk:∀(wa sd:Addr) (m:Int) (gd:Str) (hs:Xa) (ts:Xb) (ps qs:aC) (f:ai),vs=[.ref wa,.ref sd,.int m,.str gd]->zq K H wa hs ts ps->Pw hs ts ps f->Qs ps qs->H sd=some (.dK (dH (ps.map (·.1)) f))->gd∈(xq:ae)->(∀l ys H',aa H H'->H l=none->H' l=some (.lst ys)->bg K H' ys ((Pj hs ts qs f gd m).map kM)->Q (.ref l) H')->Xy K vs H Q E
theorem kq_{hs:Xa}{ts:Xb}{ps qs:aC}{f:ai}(W:Pw hs ts ps f)(Q:Qs ps qs){gd a b:Str}(ha:a∈hs.map (·.1))(hb:b∈hs.map (·.1)):iK hs ts qs f gd [] a b=match Bu hs ts ps f gd [] a b with
  |some n=>[(n,a,b)]
  |none=>[]:=by
 rw[V2 W Q ha hb];rfl
theorem hC_(F:bp K "_law_by_turn" "_law_by_turn" Wc f0 fd)(B:Bi mg)(cR:!bt 1 "_law_rows" [fU] (RL K))(cB:!bt 2 "_law_best" A3 (Q_ K)):!aj ba 3 f0 fd EB (Xy K):=by
 apply F.bI KZ λaR A outer s H vs Q E hr h=>?_
 ·let#[wa,sd,m,gd,hs,ts,ps,qs,f,rfl,WA,Pp,Qq,ib,J2,k]:=h;let sz:=ck;refine' #[_,aq ?s1 (aq ?s2 (aq ?s3 (aH ?s4))),?kk]
  case s1=>exact aX 4 KZ.nd (bf cR hr %[0|0])
  case s2=>exact aX 5 KZ.nd (cK aE)
  case' s3=>refine' eF dX Z (dE (bO gg ?x1 ?x2)) (xk Z (dZ (cj 6 KZ.nd) (dZ (cj 7 KZ.nd) jf))) (aH ?b0)
  case x1=>exact bF Kz (pv 4) (cK %[cK aE|0])
  case x2=>exact bF El (pv 2) (cy (RR Z) (by rfl) B.max KC %[aK,cy xo (by rfl) B.len i4 %[4|0]|0])
  case' b0=>refine' eF dX Z (dE (cK %[fe %[6,7|0],fe %[7,6|0]|0])) (cj 8 KZ.nd) (aq ?b1 (aH ?b2))
  case b1=>exact aX 9 KZ.nd (bf cB hr %[0,1,8,3,cK aE|0])
  case b2=>exact bN (cz hp_ (pv 9) Kv) (aH (h_ (gI h9 xY xZ xp (pv 5) %[fe %[9,bO eJ (pv 8) aK,bO eJ (pv 8) aK|0]|0]))) bP
  case s4=>exact bj (pv 5)
  apply#[_,Z,wa,hs,ts,ps,Z,WA,Pp.Gd,λlr as H1 s1 BG _ R=>?_];lk;apply#[zl,λlf nf=>?_];lk;let#[fY,e2]:=aB (o:=.lst []) nf;generalize upd H1 lf (.lst [])=H2 at fY e2 ⊢;let s2:=s1.trans fY;have Be:H lf=none:=s1.free nf;apply#[_,Z,zl,λle ne=>?_];let#[pJ,e3]:=aB (o:=.lst []) ne;generalize upd H2 le (.lst [])=H3 at pJ e3 ⊢;apply#[zl,λlo no=>?_];let#[eY,e4]:=aB (o:=.lst [.ref le]) no;generalize upd H3 lo (.lst [.ref le])=H4 at eY e4 ⊢;let R4:=((R.same fY).same pJ).same eY;let la:=bG R4.2;let tl:=R6 (aD ts) [];rw[Il] at tl;let wC:=Pp.Gd.wC
  have lr64:(turnsOf (aD ts)).length<64:=by
   show ((aD ts).foldl gG []).length<64;rw[zD] at tl;omega
  apply#[lr,lo,_,_,Z,Z,R4.1,e4,by rw[ak];show as.length+1<=_;omega,λlc nc=>?_];let#[xH,e5]:=aB (o:=.lst (as.map V.ref++[.ref le])) nc;generalize upd H4 lc (.lst (as.map V.ref++[.ref le]))=H5 at xH e5 ⊢;let yW:=(pJ.trans eY).trans xH;let R5:=R4.same xH;let s5:=s2.trans yW;let f5:=yW _ _ e2;let#[ar,zs,at5,hz,tz,EN]:=kb_ (m:=m) R5 ((eY.trans xH) _ _ e3)
  have arf:lf≠ar:=by
   rcases EN with h|h
   ·let#[j,hj,e]:=BB h;let#[zz,e2',_]:=hZ R.2 j hj Z1;rw[e] at e2';exact (bx e2' nf).symm
   ·rw[h];exact bx e2 ne
  have mp:0<(if ((as.map V.ref).length:Int) > 1 then ((as.map V.ref).length:Int) else 1):=by split<;>omega
  apply#[_,Z,_,Z,lr,_,Z,.inl (.of R5.1),_,_,Z,_,_,Z,Z,mp,lc,_,_,_,Z,Z,.of e5,at5,ar,Z,#[_,.of hz],?_];let lz:=bG tz;rw[ak] at lz;let r64:=d9_ Pp.Gd m;have TN:∀u∈gU ts m,u.1∈hs.map (·.1)/\u.2∈hs.map (·.1):=λu hu=>#[(gf hs).mem_iff.mp (Xt Pp.Gd (Yh hu)).1,(gf hs).mem_iff.mp (Xt Pp.Gd (Yh hu)).2];clear e5 at5 R R4 R5 e3 e4 fY pJ eY xH yW EN e2;apply fW (K:=K) (a:=ar) (xs:=zs) (λi σ H'=>∃(v6 v7 v8 v9:aJ) (ys:ag),σ=[some (.ref wa),some (.ref sd),some (.int m),some (.str gd),some (.ref lr),some (.ref lf),v6,v7,v8,v9]/\aa H H'/\bc lf H5 H'/\H' lf=some (.lst ys)/\bg K H' ys ((((gU ts m).take i).flatMap (Er hs ts qs f gd)).map kM)) #[none,none,none,none,[],Z,s5,bc.refl _ _,f5,.nil] (λi σ H' _ ⟨_,_,_,_,_,_,_,b,_⟩=>.of (b _ _ hz arf.symm)) ?_ ?_
  ·rintro i x σ H6 hx ⟨v6,v7,v8,v9,ys,rfl,s6,b6,f6,t6⟩;let#[u,hu,a,rfl,ha]:=qc tz hx;have hi:i<(gU ts m).length:=(cc.mp hu).1;let#[n1,n2]:=TN u (cu hu);have OM:H6 a=some (.tup [.str u.1,.str u.2]):=b6 _ _ ha (cU ha f5 nofun);apply#[a,_,Z,.of OM,Z,_,_,Z,_,_,Z,Z,?_];dsimp only;let ly:=bG t6;rw[ak] at ly;let bl:=Xm (dB_ hs ts qs f gd) ((gU ts m).take i);rw[cQ] at bl;apply#[_,Z,_,Z,zl,λt1 m1=>?_];let#[Jt,e7]:=aB (o:=.tup [.str u.1,.str u.2]) m1;generalize upd H6 t1 (.tup [.str u.1,.str u.2])=H7 at Jt e7 ⊢;apply#[_,Z,_,Z,zl,λt2 m2=>?_];let#[vF,e8]:=aB (o:=.tup [.str u.2,.str u.1]) m2;generalize upd H7 t2 (.tup [.str u.2,.str u.1])=H8 at vF e8 ⊢;apply#[zl,λlp np=>?_];let#[Bb,e9]:=aB (o:=.lst [.ref t1,.ref t2]) np;generalize upd H8 lp (.lst [.ref t1,.ref t2])=H9 at Bb e9 ⊢;let MY:=(Jt.trans vF).trans Bb;let s9:=s6.trans MY;let f9:=MY _ _ f6;let t9:=t6.same MY;let a9:=(vF.trans Bb) _ _ e7;let c9:=Bb _ _ e8;have lpf:lp≠lf:=λz=>by rw[z,(Jt.trans vF) _ _ f6] at np;cases np
   have b9:bc lf H5 H9:=λb o e n=>MY _ _ (b6 _ _ e n);clear Jt vF Bb MY e7 e8 f6 t6;apply#[lp,Z,#[_,.of e9],fW (K:=K) (a:=lp) (xs:=[.ref t1,.ref t2]) (λj σ H'=>∃(v8 v9:aJ) (ys:ag),σ=[some (.ref wa),some (.ref sd),some (.int m),some (.str gd),some (.ref lr),some (.ref lf),some (.str u.1),some (.str u.2),v8,v9]/\aa H H'/\bc lf H9 H'/\H' lf=some (.lst ys)/\bg K H' ys ((((gU ts m).take i).flatMap (Er hs ts qs f gd)++(([(u.1,u.2),(u.2,u.1)]:Xb).take j).flatMap λp=>iK hs ts qs f gd [] p.1 p.2).map kM)/\ys.length<=128+j) #[_,_,ys,Z,s9,bc.refl _ _,f9,by simpa using t9,by omega] (λj σ H' _ ⟨_,_,_,_,_,b,_⟩=>.of (b _ _ e9 lpf)) ?_ ?_]
   ·rintro j x σ HA hx ⟨v8,v9,ys,rfl,sA,bA,fA,tA,lA⟩
    obtain⟨p,tp,rfl,hp,_Y,pj⟩:∃(p:Str × Str) (tp:Addr),x=.ref tp/\(p.1∈hs.map (·.1)/\p.2∈hs.map (·.1))/\H9 tp=some (.tup [.str p.1,.str p.2])/\([(u.1,u.2),(u.2,u.1)]:Xb)[j]? = some p:=by
     match j,hx with
     |0,hx=>exact#[(u.1,u.2),t1,(ee hx).symm,#[n1,n2],a9,Z]
     |1,hx=>exact#[(u.2,u.1),t2,(ee hx).symm,#[n2,n1],c9,Z]
     |_+2,hx=>cases hx
    have hj2:j<2:=(cc.mp pj).1;let htA:=bA _ _ _Y (cU _Y f9 nofun)
    have st:(([(u.1,u.2),(u.2,u.1)]:Xb).take (j+1)).flatMap (λp=>iK hs ts qs f gd [] p.1 p.2)=(([(u.1,u.2),(u.2,u.1)]:Xb).take j).flatMap (λp=>iK hs ts qs f gd [] p.1 p.2)++iK hs ts qs f gd [] p.1 p.2:=by
     rw[iF,pj,Option.toList_some,IE,Fj,List.flatMap_nil,gK]
    rw[st,<- Fk];let bm:=kq_ Pp Qq (gd:=gd) hp.1 hp.2;lk;apply#[_,Z,_,Z,_,Z,_,Z,zl,λlg ng=>?_];let#[Qu,eB]:=aB (o:=.lst []) ng;generalize upd HA lg (.lst [])=HB at Qu eB ⊢;let sB:=sA.trans Qu;apply#[wa,sd,tp,lg,p.1,p.2,gd,[],hs,ts,ps,f,Z,WA.nt (NT.of sB),Pp,sB _ _ ib,Qu _ _ htA,hp.1,hp.2,J2,eB,λHC sBC=>?_];lk;let K9:=Qu.trans sBC;let fC:=K9 _ _ fA;let tC:=tA.same K9;have bC:bc lf H9 HC:=λb o e n=>K9 _ _ (bA _ _ e n);apply#[_,Z,Z,_,Z,?_];cases eb:Bu hs ts ps f gd [] p.1 p.2 with
    |none=>
     rw[eb] at bm;dsimp only at bm;apply aM (λc=>by simp[fu] at c) (λc=>?_);rw[bm,gK];exact#[_,_,ys,Z,sA.trans K9,bC,fC,tC,by omega]
    |some n=>
     rw[eb] at bm;dsimp only at bm;apply aM (λc=>?_) (λc=>by simp[fu] at c);rw[bm,show fu (some n)=V.str n from Z];have htC:HC tp=some (.tup [.str p.1,.str p.2]):=K9 _ _ htA;apply#[_,Z,.inl #[Z,_,.of fC],_,Z,_,Z,tp,_,0,.str p.1,Z,Z,.of htC,L2.iL (j:=0) Z,_,Z,tp,_,1,.str p.2,Z,Z,.of htC,L2.iL (j:=1) Z,zl,λt nt=>?_];let#[MW,eD]:=aB (o:=.tup [.str n,.str p.1,.str p.2]) nt;generalize upd HC t (.tup [.str n,.str p.1,.str p.2])=HD at MW eD ⊢;let fD:=MW _ _ fC;apply#[lf,_,_,Z,Z,fD,by omega,?_];apply#[_,_,ys++[.ref t],Z,fN (sA.trans (K9.trans MW)) Be,λb o e n=>(au n).trans (MW _ _ (bC _ _ e n)),az,?_,by rw[dY];show ys.length+1<=_;omega];rw[b_];exact iT (Es (tC.same MW) eD) fD
   ·rintro σ HA ⟨v8,v9,ys,rfl,sA,bA,fA,tA,lA⟩;apply#[_,_,_,_,ys,Z,sA,λb o e n=>bA _ _ (b9 _ _ e n) n,fA,?_]
    have e:((gU ts m).take (i+1)).flatMap (Er hs ts qs f gd)=((gU ts m).take i).flatMap (Er hs ts qs f gd)++(([(u.1,u.2),(u.2,u.1)]:Xb).take 2).flatMap λp=>iK hs ts qs f gd [] p.1 p.2:=by
     rw[iF,hu,Option.toList_some,IE];simp[Er]
    rw[e];exact tA
  ·rintro σ H6 ⟨v6,v7,v8,v9,ys,rfl,s6,b6,f6,t6⟩;rw[lz,dJ] at t6;exact#[_,Z,k lf ys H6 s6 Be f6 t6]
end
def ET:ae:=xq
def iJ(i:Nat):ae:=(["shares one","shares all"]:ae)++(ET.take i).flatMap λg=>[("turns ":Str)++g,("least one ":Str)++g,("least all ":Str)++g,("below one ":Str)++g,("below all ":Str)++g]
theorem _g:∀x∈iJ 3,∃r∈rl,r.1=x:=by decide +kernel
theorem lq_:(iJ 3).length=17:=by decide +kernel
theorem ly_:∀g∈ET,g.length<=10:=by decide +kernel
theorem l8_:("turns ":Str).length<=20/\("least one ":Str).length<=20/\("least all ":Str).length<=20/\("below one ":Str).length<=20/\("below all ":Str).length<=20:=by decide +kernel
theorem lB_(i:Nat)(h:i<=3):(iJ i).length<=17:=by
 have:i=0∨i=1∨i=2∨i=3:=by omega
 rcases this with rfl|rfl|rfl|rfl<;>decide +kernel
section
variable{P:Ad}{w:Af}{K:af}{mg:Str->Option Aa}{base:Heap}
theorem Px:bD [BX,"_law_guard"] [] (bb WR):=bJ
def fe':Sp:=λvs H Q _=>vs=[]/\∀l H',aa H H'->H l=none->H' l=some (.lst ((iJ 3).map V.str))->Q (.ref l) H'
theorem i0_(F:bp K "_law_rules" "_law_rules" WR f0 fd):!aj ba 1 f0 fd [] fe':=by
 apply F.bI Px λaR A outer s H vs Q E hr h=>?_
 ·let#[rfl,k]:=h;let sz:=ck;refine' #[_,aq ?s1 (aq ?s2 (aH (bj (pv 0)))),?kk]
  case s1=>exact aX 0 Px.nd (cK %[bZ,bZ|0])
  case' s2=>refine' eF dX Z (dE (cK %[bZ,bZ,bZ|0])) (cj 1 Px.nd) (aq ?b1 (aH ?b2))
  case b1=>exact aX 0 Px.nd (bF Kz (pv 0) (cK %[bF Im bZ (pv 1),bF Im bZ (pv 1),bF Im bZ (pv 1)|0]))
  case b2=>exact aX 0 Px.nd (bF Kz (pv 0) (cK %[bF Im bZ (pv 1),bF Im bZ (pv 1)|0]))
  apply#[zl,λl0 n0=>?_];let#[s0,e0]:=aB (o:=.lst [.str "shares one",.str "shares all"]) n0;generalize upd H l0 (.lst [.str "shares one",.str "shares all"])=H0 at s0 e0 ⊢;lk;apply#[zl,λlg ng=>?_];let#[s1,e1]:=aB (o:=.lst [.str "high",.str "fall",.str "calm"]) ng;generalize upd H0 lg (.lst [.str "high",.str "fall",.str "calm"])=H1 at s1 e1 ⊢;have e1:H1 lg=some (.lst (ET.map V.str)):=e1;let QA:=s0.trans s1;let n0':=n0
  let aQ:bL:=λi σ H'=>∃(l:Addr) (v1:aJ),σ=[some (.ref l),v1]/\aa H H'/\aa H1 H'/\H l=none/\H' l=some (.lst ((iJ i).map V.str))
  apply#[lg,Z,#[_,.of e1],fW (K:=K) (a:=lg) (xs:=ET.map V.str) aQ #[l0,none,Z,QA,aa.refl _,n0,s1 _ _ e0] (λi σ H' _ ⟨_,_,_,_,z,_⟩=>.of (z _ _ e1)) ?_ ?_]
  ·rintro i x σ H2 hx ⟨l,v1,rfl,s2,fY,nl,e2⟩;let#[g,hg,rfl]:=iG hx;have hi:i<3:=(cc.mp hg).1;let gl:=ly_ g (cu hg);let pl:=l8_;let rl':=lB_ i Z1;lk;apply#[_,Z,_,Z,_,_,Z,Z,by omega,_,Z,_,_,Z,Z,by omega,_,Z,_,_,Z,Z,by omega,zl,λa na=>?_];let#[s3,e3]:=aB (o:=.lst [.str (("turns ":Str)++g),.str (("least one ":Str)++g),.str (("least all ":Str)++g)]) na;generalize upd H2 a (.lst [.str (("turns ":Str)++g),.str (("least one ":Str)++g),.str (("least all ":Str)++g)])=H3 at s3 e3 ⊢;apply#[l,a,_,_,Z,Z,s3 _ _ e2,e3,by rw[ak];show _+3<=sizeLine;omega,λb nb=>?_];let#[s4,e4]:=aB (o:=.lst ((iJ i).map V.str++[.str (("turns ":Str)++g),.str (("least one ":Str)++g),.str (("least all ":Str)++g)])) nb;generalize upd H3 b (.lst ((iJ i).map V.str++[.str (("turns ":Str)++g),.str (("least one ":Str)++g),.str (("least all ":Str)++g)]))=H4 at s4 e4 ⊢;lk;apply#[_,Z,_,Z,_,_,Z,Z,by omega,_,Z,_,_,Z,Z,by omega,zl,λc nc=>?_];let#[s5,e5]:=aB (o:=.lst [.str (("below one ":Str)++g),.str (("below all ":Str)++g)]) nc;generalize upd H4 c (.lst [.str (("below one ":Str)++g),.str (("below all ":Str)++g)])=H5 at s5 e5 ⊢;apply#[b,c,_,_,Z,Z,s5 _ _ e4,e5,by rw[dY,ak];show _+3+2<=sizeLine;omega,λe ne=>?_];let yW:=(s3.trans s4).trans s5;apply#[e,_,Z,(s2.trans yW).trans (aa.new ne),(fY.trans yW).trans (aa.new ne),(s2.trans yW).free ne,?_]
   rw[az,show iJ (i+1)=iJ i++[("turns ":Str)++g,("least one ":Str)++g,("least all ":Str)++g,("below one ":Str)++g,("below all ":Str)++g] by
    unfold iJ;rw[iF,hg,Option.toList_some,IE,Fj,List.flatMap_nil,gK,Fk],b_,Fk]
   rfl
  ·rintro σ H2 ⟨l,v1,rfl,s2,_,nl,e2⟩;exact#[_,Z,k l H2 s2 nl e2]
end
def HL(r:Rl):Bool:=match Txt.split r.1 " " with
 |[a,b]=>(decide (a="turns")&&(decide (r.2.1="turns")&&(decide (r.2.2.2=some b)&&decide (b∈ET)))) || (decide (a="shares")&&(decide (r.2.1="shares")&&decide (b=r.2.2.1)))
 |[a,b,c]=>decide (a=r.2.1)&&((decide (r.2.1="least") || decide (r.2.1="below"))&&(decide (b=r.2.2.1)&&(decide (r.2.2.2=some c)&&decide (c∈ET))))
 |_=>false
theorem jF_:rl.all HL=true:=by decide +kernel
inductive RF (r:Rl) (ws:ae):Prop
 |t (gd:Str) (e:ws=([("turns":Str),gd]:ae)) (h:r.2.1="turns") (hg:r.2.2.2=some gd) (hm:gd∈ET)
 |s (e:ws=([("shares":Str),r.2.2.1]:ae)) (h:r.2.1="shares")
 |l (gd:Str) (e:ws=[r.2.1,r.2.2.1,gd]) (h:r.2.1="least"∨r.2.1="below") (hg:r.2.2.2=some gd) (hm:gd∈ET)
theorem kj_{r:Rl}(h:r∈rl):RF r (Txt.split r.1 " "):=by
 have:=List.all_eq_true.mp jF_ r h;unfold HL at this;revert this;split
 ·rename_i a b e
  intro q;simp only[Ft,Bool.or_eq_true,xW] at q;rcases q with⟨q1,q2,q3,q4⟩|⟨q1,q2,q3⟩
  ·exact .t b (by rw[e,q1]) q2 q3 q4
  ·exact .s (by rw[e,q1,q3]) q2
 ·rename_i a b c e
  intro q;simp only[Ft,Bool.or_eq_true,xW] at q;let#[q1,q2,q3,q4,q5]:=q;exact .l c (by rw[e,q1,q3]) q2 q4 q5
 ·intro q;cases q
theorem XB:∀r∈rl,r.1.length<=1000:=by decide +kernel
theorem VQ(r:Rl)(hs:Xa)(ts:Xb)(qs:aC)(f:ai)(h:Str)(W:Wd hs ts qs f):(Br r hs ts qs f h).length<=1000:=by
 unfold Br;split
 ·exact AR (hY_ r hs ts qs f h) (by decide)
 ·split
  ·exact AR (hU_ r hs ts qs f h W) (by decide)
  ·exact gJ_ r hs ts qs f h W
theorem hV_{α β:Type}{g:α->List β}{k:Nat}:∀{l:List α},(∀x∈l,(g x).length<=k)->(l.flatMap g).length<=k * l.length
 |[],_=>by simp
 |x::l,h=>by
  rw[Fj,dY,iE,Nat.mul_succ];let a:=h x c8;let b:=hV_ (l:=l) λy hy=>h y (dF _ hy);omega
theorem str0(a b:Str):decide (V.str a=V.str b)=decide (a=b):=by
 by_cases h:a=b
 ·rw[h];simp
 ·rw[dR h,dR λz=>h (V.str.inj z)]
section
variable{P:Ad}{w:Af}{K:af}{mg:Str->Option Aa}{base:Heap}
abbrev lmN:ae:=[fU,iO,"_law_rule","_law_moment","_law_words",BX,"_law_hand"]
theorem LS:bD lmN EA (bb WN):=bJ
structure EE (K:af) (H:Hp) (wa sd:Addr) (hs:Xa) (ts:Xb) (ps qs:aC) (f:ai):Prop where
 W:zq K H wa hs ts ps
 P:Pw hs ts ps f
 Q:Qs ps qs
 D:Wd hs ts qs f
 hs:H sd=some (.dK (dH (ps.map (·.1)) f))
theorem EE.nt{H G:Hp}{wa sd:Addr}{hs:Xa}{ts:Xb}{ps qs:aC}{f:ai}(L:EE K H wa sd hs ts ps qs f)(s:NT H G):EE K G wa sd hs ts ps qs f:=#[L.W.nt s,L.P,L.Q,L.D,s.dK L.hs]
inductive XH (K:af) (vs:ag) (H:Hp) (Q:VK) (E:XK):Prop
 |mk:∀(wa sd:Addr) (m:Int) (hs:Xa) (ts:Xb) (ps qs:aC) (f:ai),∀r∈rl,vs=[.ref wa,.ref sd,.str r.1,.int m]->EE K H wa sd hs ts ps qs f->(∀l ys H',aa H H'->H l=none->H' l=some (.lst ys)->bg K H' ys ((Bg r hs ts qs f m).map kM)->Q (.ref l) H')->XH K vs H Q E
theorem hg_(F:bp K "_law_moves" "_law_moves" WN f0 fd)(B:Bi mg)(cT:!bt 3 "_law_by_turn" EB (Xy K))(cS:!bt 2 "_law_by_share" LD (Xd K))(cB:!bt 3 "_law_by_low" Ez (Wv K)):!aj ba 4 f0 fd EA (XH K):=by
 apply F.bI LS λaR A outer s H vs Q E hr h=>?_
 ·let#[wa,sd,m,hs,ts,ps,qs,f,r,xN,rfl,L,k]:=h;let hu:=eV hr;let sz:=ck;refine' #[_,aq ?s1 (aq ?s2 (aq ?s3 (aq ?s4 (aH ?s5)))),?kk]
  case s1=>exact aX 4 LS.nd (gI PySem.F.plainAttrs_str PySem.F.slot_str_split PySem.F.type_str_split hB_ (pv 2) %[bZ|0])
  case s2=>exact aX 5 LS.nd (cK aE)
  case s3=>exact bN (cz hV (bO gg (pv 4) aK) bZ) (aH (bj (bf cT hr %[0,1,3,bO gg (pv 4) aK|0]))) bP
  case' s4=>refine' eF dX Z (dE (cy (d7_ Z) (by rfl) B.sorted GH %[cb hu (pv 0) bZ|0])) (cj 6 LS.nd) (aH (bN ?c1 (aH ?b1) (aH ?b2)))
  case c1=>exact cz hV (bO gg (pv 4) aK) bZ
  case b1=>exact aX 5 LS.nd (bF Kz (pv 5) (bf cS hr %[0,1,6|0]))
  case b2=>exact aX 5 LS.nd (bF Kz (pv 5) (bf cB hr %[0,1,6,4|0]))
  case s5=>exact bj (g8_ (cz hV (bO gg (pv 4) aK) bZ) (Ik Pt (pv 5) Iq (Iu aK)) (pv 5))
  let Zu:=XB r xN;let rf:=kj_ xN;let h8:=L.P.Gd.h8;let nl:=L.P.Gd.fw;apply#[_,Z,Z,r.1," ",32,Z,Z,Z,by omega,λlw nlw=>?_];have V9:∃ws,ws=Txt.split r.1 " ":=#[_,Z];let#[ws,V9]:=V9;rw[<- V9] at rf ⊢;let#[s1,e1]:=aB (o:=.lst (ws.map V.str)) nlw;generalize upd H lw (.lst (ws.map V.str))=H1 at s1 e1 ⊢;lk;apply#[zl,λlf nf=>?_];lk;let#[s2,f2]:=aB (o:=.lst []) nf;generalize upd H1 lf (.lst [])=H2 at s2 f2 ⊢;let ia:=s1.trans s2;let e2:=s2 _ _ e1;have Be:H lf=none:=s1.free nf
  obtain⟨w0,w1,wr,ew⟩:∃w0 w1 wr,ws=w0::w1::wr:=by
   rcases rf with⟨gd,e,_⟩|⟨e,_⟩|⟨gd,e,_⟩
   ·exact#[_,_,_,e]
   ·exact#[_,_,_,e]
   ·exact#[_,_,_,e]
  have at0:gY (ws.map V.str) 0=some (.str w0):=by rw[ew];exact L2.iL (j:=0) Z
  have SG:gY (ws.map V.str) 1=some (.str w1):=by rw[ew];exact L2.iL (j:=1) Z
  have e0:w0=r.2.1:=by
   rcases rf with⟨gd,e,h,_⟩|⟨e,h⟩|⟨gd,e,_⟩
   ·rw[ew] at e;rw[h];exact (zv e).1
   ·rw[ew] at e;rw[h];exact (zv e).1
   ·rw[ew] at e;exact (zv e).1
  have ha0:r.2.1≠"turns"->w1=r.2.2.1:=λnt=>by
   rcases rf with⟨gd,e,h,_⟩|⟨e,h⟩|⟨gd,e,_⟩
   ·exact absurd h nt
   ·rw[ew] at e;exact (zv (zv e).2).1
   ·rw[ew] at e;exact (zv (zv e).2).1
  subst e0
  let aQ:cn:=λσ H'=>r.2.1≠"turns"/\H2=H'/\σ=[some (.ref wa),some (.ref sd),some (.str r.1),some (.int m),some (.ref lw),some (.ref lf),none]
  apply dz aQ ?m2 (λN1 ie=>?m1)
  case m1=>
   apply#[_,Z,lw,_,_,_,Z,Z,.of e2,at0,Z,_,Z,?_];rw[str0];apply aM (λc=>?_) (λc=>?_)
   ·have c:r.2.1="turns":=vJ c
    obtain⟨gd,hg,hm,D_⟩:∃gd,r.2.2.2=some gd/\gd∈ET/\w1=gd:=by
     rcases rf with⟨gd,e,h,hg,hm⟩|⟨e,h⟩|⟨gd,e,h,_⟩
     ·rw[ew] at e;exact#[gd,hg,hm,(zv (zv e).2).1]
     ·rw[h] at c;exact absurd c Z0
     ·rcases h with h|h
      ·rw[h] at c;exact absurd c Z0
      ·rw[h] at c;exact absurd c Z0
    subst D_;apply#[_,Z,_,Z,_,Z,_,Z,lw,_,_,_,Z,Z,.of e2,SG,wa,sd,m,w1,hs,ts,ps,qs,f,Z,L.W.nt (NT.of ia),L.P,L.Q,ia _ _ L.hs,hm,λl ys H3 s3 nl3 l3 t3=>?_];apply k l ys H3 (ia.trans s3) (ia.free nl3) l3 ?_;unfold Bg;rw[aA c,hg];exact t3
   ·have c:r.2.1≠"turns":=λz=>c (cw z);exact ie _ _ #[c,Z,Z]
  rintro σ _ ⟨nt,rfl,rfl⟩;let w1e:=ha0 nt;subst w1e;let#[ds,dn,lt,dh,dy,ad,gy,W]:=id (L.W.nt (NT.of ia));apply#[_,Z,wa,_,Z,W.gS,ds,_,hs.map (·.1),Z,W.sg,L7 _ _,by rw[ak];omega,λln nn=>?_];rw[<- gs_];let#[s3,e3]:=aB (o:=.lst ((aI hs).map V.str)) nn;generalize upd H2 ln (.lst ((aI hs).map V.str))=H3 at s3 e3 ⊢;let wM:=ia.trans s3
  let bH:bL:=λi σ H'=>∃(v6:aJ) (lf:Addr) (ys:ag),σ=[some (.ref wa),some (.ref sd),some (.str r.1),some (.int m),some (.ref lw),some (.ref lf),v6]/\aa H3 H'/\H lf=none/\H' lf=some (.lst ys)/\bg K H' ys ((((aI hs).take i).flatMap (Br r hs ts qs f)).map kM)
  apply#[ln,Z,#[_,.of e3],fW (K:=K) (a:=ln) (xs:=(aI hs).map V.str) bH #[none,lf,[],Z,aa.refl _,Be,s3 _ _ f2,.nil] (λi σ H' _ ⟨_,_,_,_,z,_⟩=>.of (z _ _ e3)) ?_ ?_]
  ·rintro i x σ H4 hx ⟨v6,lf,ys,rfl,s4,nf,f4,t4⟩;let#[h,hh,rfl]:=iG hx;have hi:i<(aI hs).length:=(cc.mp hh).1;have hm:h∈hs.map (·.1):=(gf hs).mem_iff.mp (cu hh);let i7:=wM.trans s4;let l3:=hV_ (g:=Br r hs ts qs f) (l:=(aI hs).take i) (k:=1000) λx _=>VQ r hs ts qs f x L.D;let l4:=VQ r hs ts qs f h L.D;rw[cQ] at l3;let l1:=bG t4;rw[ak] at l1
   have fin:∀lq zs H5,aa H4 H5->H5 lq=some (.lst zs)->bg K H5 zs ((Br r hs ts qs f h).map kM)->(lf:Addr)=lf->Jz (.ref lf) (.ref lq) H5 (λv H'=>∃(v6:aJ) (lf:Addr) (ys:ag),[some (V.ref wa),some (.ref sd),some (.str r.1),some (.int m),some (.ref lw),some v,some (.str h)]=[some (.ref wa),some (.ref sd),some (.str r.1),some (.int m),some (.ref lw),some (.ref lf),v6]/\aa H3 H'/\H lf=none/\H' lf=some (.lst ys)/\bg K H' ys ((((aI hs).take (i+1)).flatMap (Br r hs ts qs f)).map kM)):=λlq zs H5 s5 q5 t5 _=>by
    let l2:=bG t5;rw[ak] at l2;apply#[lf,lq,ys,zs,Z,Z,s5 _ _ f4,q5,by omega,λlz nz=>?_];let s6:=aa.new (o:=.lst (ys++zs)) nz;apply#[_,lz,ys++zs,Z,(s4.trans s5).trans s6,(i7.trans s5).free nz,az,?_];rw[eO hh,IE,b_,Fj,List.flatMap_nil,gK];exact vM (t4.same (s5.trans s6)) (t5.same s6)
   lk;let e4:=s4 _ _ (s3 _ _ e2);apply#[_,Z,lw,_,_,_,Z,Z,.of e4,at0,Z,_,Z,?_];rw[str0];apply aM (λc=>?_) (λc=>?_)
   ·have c:r.2.1="shares":=vJ c;apply#[_,Z,_,Z,_,Z,_,Z,wa,sd,h,hs,ts,ps,qs,f,Z,L.W.nt (NT.of i7),L.P,L.Q,L.D,i7 _ _ L.hs,hm,λlq zs H5 s5 nq q5 t5=>?_];exact fin lq zs H5 s5 q5 (by rw[dF_ c];exact t5) Z
   ·have c:r.2.1≠"shares":=λz=>c (cw z)
    obtain⟨gd,hg,J2,D_,lb⟩:∃gd,r.2.2.2=some gd/\gd∈ET/\ws=[r.2.1,r.2.2.1,gd]/\(r.2.1="least"∨r.2.1="below"):=by
     rcases rf with⟨gd,e,h,hg,hm⟩|⟨e,h⟩|⟨gd,e,h,hg,hm⟩
     ·exact absurd h nt
     ·exact absurd h c
     ·exact#[gd,hg,hm,e,h]
    rw[D_] at e4;have EL:(c_ ts h).length<64:=by have:=mk_ L.P.Gd h;omega
    apply#[_,Z,_,Z,_,Z,_,Z,_,Z,wa,sd,lw,h,r.2.1,r.2.2.1,gd,hs,ts,ps,f,Z,L.W.nt (NT.of i7),L.P,i7 _ _ L.hs,hm,EL,e4,J2,λlq zs H5 s5 nq q5 t5=>?_];apply fin lq zs H5 s5 q5 ?_ Z;rcases lb with lb|lb
    ·rw[ey_ lb];rw[lb,lN_ L.P L.Q hm] at t5;unfold Ie;rw[hg];exact t5
    ·rw[eC_ lb];rw[lb,kA_ L.P L.Q hm] at t5;unfold Ia;rw[hg];exact t5
  ·rintro σ H4 ⟨v6,lf,ys,rfl,s4,nf,f4,t4⟩;rw[ak,dJ] at t4;let i7:=wM.trans s4;apply#[_,Z,lw,_,_,_,Z,Z,.of (s4 _ _ (s3 _ _ e2)),SG,Z,_,Z,?_];rw[str0];apply aM (λc=>?_) (λc=>?_)
   ·have c:r.2.2.1="one":=vJ c;apply#[_,Z,_,Z,lf,_,Z,.of f4,λlq nq=>?_];rw[show hJ ys none (some 1)=ys.take 1 from RO ys 1];let s5:=aa.new (o:=.lst (ys.take 1)) nq;apply k lq _ _ (i7.trans s5) (i7.free nq) az ?_;unfold Bg Kx;rw[ao nt,aA c,List.map_take];exact Sx 1 (t4.same s5)
   ·have c:¬r.2.2.1="one":=λz=>c (cw z);apply#[_,Z,k lf ys H4 i7 nf f4 ?_];unfold Bg Kx;rw[ao nt,ao c];exact t4
end
theorem kM_:∀r∈rl,decide (Txt.slice r.1 none (some 5)="turns")=decide (r.2.1="turns"):=by decide +kernel
theorem kQ_{hs:Xa}{ts:Xb}(G:Good hs ts)(r:Rl):xS r ts<=64:=by
 let tl:=R6 (aD ts) [];rw[Il,zD] at tl;let wC:=G.wC
 have:(turnsOf (aD ts)).length<=64:=by
  show ((aD ts).foldl gG []).length<=64;omega
 unfold xS;split<;>omega
section
variable{P:Ad}{w:Af}{K:af}{mg:Str->Option Aa}{base:Heap}
abbrev duN:ae:=["_law_moment",fU,iO,"_law_rule"]
theorem yB:bD [fU,iO,"_law_rule","_law_many"] Ex (bb Dh):=bJ
inductive yw (K:af) (vs:ag) (H:Hp) (Q:VK) (E:XK):Prop
 |mk:∀(wa sd:Addr) (hs:Xa) (ts:Xb) (ps qs:aC) (f:ai),∀r∈rl,vs=[.ref wa,.ref sd,.str r.1]->EE K H wa sd hs ts ps qs f->(∀H',aa H H'->Q (.bl (BR r hs ts qs f)) H')->yw K vs H Q E
theorem kE_(F:bp K "_law_due" "_law_due" Dh f0 fd)(B:Bi mg)(cR:!bt 1 "_law_rows" [fU] (RL K))(cM:!bt 4 "_law_moves" EA (XH K)):!aj ba 5 f0 fd Ex (yw K):=by
 apply F.bI yB λaR A outer s H vs Q E hr h=>?_
 ·let#[wa,sd,hs,ts,ps,qs,f,r,xN,rfl,L,k]:=h;let sz:=ck;have hr4:aY 4 _:=hr.mono (by decide);refine' #[_,aq ?s1 (aq ?s2 (aH ?s3)),?kk]
  case s1=>exact aX 3 yB.nd aK
  case s2=>exact bN (cz hV (Ik VJ (pv 2) Iq (Iu aK)) bZ) (aH (aX 3 yB.nd (cy (RR Z) (by rfl) B.max KC %[aK,cy xo (by rfl) B.len i4 %[bf cR hr %[0|0]|0]|0]))) bP
  case' s3=>refine' bj (cy (fR_ Z) (by rfl) B.all PyProof.Rows.Boot.«all» %[iS duN 1 [0,1,2] (L3 (by rfl) B.range %[3|0]) (λfp s H=>eZ (i:=0) (show duN.Nodup by decide +kernel) Z (Or.inl Z)) (λfp s H=>iH) (λfp s H=>?te)|0])
  case te=>exact iR (Lc (K:=K) y_ (fy_ (xV hr4 0))) (bf cM hr %[1,2,3,0|0]) (cK aE)
  let rn:=kQ_ L.P.Gd r;let Zu:=XB r xN;lk
  let aQ:cn:=λσ H'=>aa H H'/\σ=[some (.ref wa),some (.ref sd),some (.str r.1),some (.int ((xS r ts:Nat):Int))]
  apply dz aQ ?m2 (λN1 ie=>?m1)
  case m1=>
   apply#[_,Z,_,Z,r.1,Z,by omega,Z,_,Z,?_];rw[str0,kM_ r xN];apply aM (λc=>?_) (λc=>?_)
   ·have c:r.2.1="turns":=vJ c;apply#[_,Z,wa,hs,ts,ps,Z,L.W,L.P.Gd,λl as H1 s1 _ _ R=>?_];apply#[l,_,Z,.inl (.of R.1),_,_,Z,?_];lk;let la:=bG R.2;apply ie _ _ #[s1,?_];unfold xS;rw[aA c,<- la,ak,show (if ((as.length:Nat):Int) > 1 then ((as.length:Nat):Int) else 1)=((max 1 as.length:Nat):Int) by split<;>omega]
    rfl
   ·have c:¬r.2.1="turns":=λz=>c (cw z);apply ie _ _ #[aa.refl _,?_];unfold xS;rw[ao c];rfl
  rintro σ H1 ⟨s1,rfl⟩;apply#[_,Z,((xS r ts:Nat):Int),Z,by omega,by omega,λD hD=>?_]
  let bH:dG:=λj out H'=>aa H1 H'/\H' D=some (.lst out)/\out=((List.range j).map λm:Nat=>(Bg r hs ts qs f m).isEmpty).map V.bl
  apply GF (own:=1) (fv:=[some (.ref wa),some (.ref sd),some (.str r.1)]) Z dP (xS r ts) bH #[aa.new hD,az,Z] (λout H2 ⟨s2,d2,eo⟩=>#[bo _,?_]) (λj out H2 hj ⟨s2,d2,eo⟩=>#[hj,λx H3 ⟨e7,ex⟩=>?_])
  ·subst eo;apply#[D,_,Z,.of d2,?_]
   rw[show (((List.range (xS r ts)).map λm:Nat=>(Bg r hs ts qs f m).isEmpty).all id)=BR r hs ts qs f by
    unfold BR;rw[List.all_map];rfl]
   exact k _ (s1.trans s2)
  ·subst e7;subst ex;apply#[_,Z,Z,λNx hN=>dM ?_];let ia:=s1.trans s2;apply#[_,Z,_,Z,_,Z,_,Z,wa,sd,0+(j:Int),hs,ts,ps,qs,f,r,xN,Z,L.nt (NT.of ia),λl ys H4 s4 nl hl tu=>?_];apply#[zl,λle ne'=>?_];let s5:=aa.new (o:=.lst []) ne';let yW:=s4.trans s5;let eD:=yW _ _ d2;have ely:upd H4 le (.lst []) le=some (.lst []):=az;let DS:=s5 _ _ hl;generalize upd H4 le (.lst [])=H5 at s5 yW eD ely DS ⊢;apply#[l,le,ys,Z,Z,.of DS,.of ely,out,eD,by rw[eo,ak,ak,List.length_range];omega,hN (out++[.bl ys.isEmpty]) _ #[fN (s2.trans yW) hD,az,?_]];let ly:=bG tu;rw[ak,Int.zero_add] at ly
   have e6:ys.isEmpty=(Bg r hs ts qs f j).isEmpty:=by
    rw[Bool.eq_iff_iff,List.isEmpty_iff,List.isEmpty_iff,<- Fo,<- Fo,ly]
   rw[List.range_succ,b_,b_,eo,e6];rfl
end
end Ev
namespace L2
open PySem PySem.Spec PyProof.Rows PySem.W
variable{pos:Pos}{v:V}
section
variable{X:Cx}{pins:List (Addr × Obj)}{σ:St}{H:Hp}{s:Ab}
theorem Q5{i:Nat}{x:Str}{Q:Aa->Ab->Prop}(hN:X.N[i]? = some x)(hv:Mc X.env.scope x)(I:Inv X pins σ H s)(e:σ[i]? = some (some v))(h:∀u,RelV v u->Q u s)(hd:(x == ("__debug__":Str))=false)(hE:(x == ("__classdict__":Str))=false):wpAny (model X.prog X.w) X.A (eval (.Name x pos) X.env) Q X.xe s:=by
 let#[m,hn,hl]:=I.loc;let#[u,r,l]:=hl i x v hN e hv;let fin:=h u r;rcases l with⟨hk,hm⟩|⟨hk,c,hc,iB⟩
 ·exact wpAny_Name (wpAny_loadName_local I.ok.kind hk hn hm fin) hd
 ·rcases hk with hk|hk
  ·exact wpAny_Name (wpAny_loadName_cell I.ok.kind hk hc iB fin) hd
  ·exact wpAny_Name (wpAny_loadName_free I.ok.kind hk hc iB fin hE) hd
theorem _v{a:Addr}{k:Str}{t:Tok}{Q:Aa->Ab->Prop}(I:Inv X pins σ H s)(g:bU H a (.str k) (some v))(h:∀w' s',Inv X pins σ H s'->s'.toks≠0->RelV v w'->Q w' s'):wpAny (model X.prog X.w) X.A (getItem (.ref a) (.str k t)) Q X.xe s:=by
 rcases g with⟨kvs,ky,e,ey,l⟩|⟨kvs,ky,b,e,ey,eb,l⟩
 ·let#[z,hd,vs,rel,dd]:=Bv I.aO e;let#[w',hw,pK]:=eW.some_of (v:=v) (o:=valueAt vs ky) (by rw[l];exact rel.val ky);apply wpAny_getItem_of (EV (u:=.str k t) (by rw[<- ey];exact#[t,Z])) dd.mapOf hw (h w' _ (I.tok _) (Nat.succ_ne_zero _) pK)
 ·cases ey
inductive Zg (i j:Nat) (y z:Str) (σ:St) (H:Hp) (Q:Bool->Hp->Prop):Prop
 |mk:∀(d:Addr) (r:Str) (b c:Bool),σ[i]? = some (some (.ref d))->σ[j]? = some (some (.str r))->r.length<=1000->bU H d (.str r) (some (.bl b))->bU H d (.str (Txt.replace r y z)) (some (.bl c))->Q (!decide (b=c)) H->Zg i j y z σ H Q
theorem hA_{i j:Nat}{f r y z:Str}{p1 p2 p3 p4 p5 p6 p7 p8 p9 p10:Pos}{c1 c2:Nat}(hyz:(y == z)=false)(hz:z.length<=14)(hNf:X.N[i]? = some f:=by rfl)(_S:Mc X.env.scope f:=by first|exact Or.inl rfl|exact Or.inr (Or.inl rfl)|exact Or.inr (Or.inr rfl))(hNr:X.N[j]? = some r:=by rfl)(_R:Mc X.env.scope r:=by first|exact Or.inl rfl|exact Or.inr (Or.inl rfl)|exact Or.inr (Or.inr rfl))(Bn:(f == ("__debug__":Str))=false:=by decide)(hc1:(f == ("__classdict__":Str))=false:=by decide)(hd2:(r == ("__debug__":Str))=false:=by decide)(Gj:(r == ("__classdict__":Str))=false:=by decide)(iC:attributeBase (.Name r p5) "replace" X.env (eval (.Name r p5) X.env)=eval (.Name r p5) X.env:=by rfl)(J3:((backTo p9 (starEach [.Constant (.str y) c1 p7,.Constant (.str z) c2 p8] X.env)).all (λx=>!x.1)&&(backToKw p9 (keywordEach [] X.env)).all (λx=>x.1.isSome)&&decide (([.Constant (.str y) c1 p7,.Constant (.str z) c2 p8]:List Expr).length+([]:List Keyword).length+(if ([]:List Keyword).isEmpty then 0 else 1)<30))=true:=by rfl)(iA:(p6.endLine == p9.line)=true:=by rfl)(F9:starEach [.Constant (.str y) c1 p7,.Constant (.str z) c2 p8] X.env=[(false,eval (.Constant (.str y) c1 p7) X.env),(false,eval (.Constant (.str z) c2 p8) X.env)]:=by rfl) :
  PT X (.Compare (.Subscript (.Name f p1) (.Name r p2) p3) [.NotEq] [.Subscript (.Name f p4) (.Call (.Attribute (.Name r p5) "replace" p6) [.Constant (.str y) c1 p7,.Constant (.str z) c2 p8] [] p9) p10] pos) (Zg i j y z):=by
 intro pins s σ H Q I h;let#[d,rr,b,c,e1,e2,hl,g1,g2,q]:=h;apply wpAny_isTrue_Compare1 (Rn PySem.F.slot_dict_getitem.lookup (λ_ _=>rfl) (Q5 hNf _S I e1 (λu ru=>?_) Bn hc1)) (zd _);cases ru;apply Q5 hNr _R I e2 (λiv ri=>?_) hd2 Gj;let#[t,rfl]:=ri;apply⟨YI I g1,_v I g1 λw1 s1 I1 n1 r1=>?_⟩;apply Rn PySem.F.slot_dict_getitem.lookup (λ_ _=>rfl) (Q5 hNf _S I1 e1 (λu ru=>?_) Bn hc1);cases ru;apply wpAny_Call_method_late iC J3 iA rfl (Q5 hNr _R I1 e2 (λv rv=>?_) hd2 Gj);let#[t',rfl]:=rv;apply⟨"str","str.replace",PySem.F.plainAttrs_str,PySem.F.slot_str_replace,PySem.F.type_str_replace,typeIs_str _ _ _,(λa z=>by cases z),?_⟩;rw[F9];apply Calls.callWith_builtin rfl (Calls.evalArgs_plain ?_);apply Calls.spliced_cons (Calls.Constant_str (k:=c1) (pos:=p7) (Calls.spliced_cons (Calls.Constant_str (k:=c2) (pos:=p8) (Calls.spliced_nil ?_))));apply SC.replaceW n1 (Nat.succ_ne_zero _) (eM (Nat.lt_succ_self _)) hyz Z1 hz λt2 k=>?_;have I2:Inv X pins σ H { s1 with toks:=k }:=I1.tok _;apply#[YI I2 g2,_v I2 g2 λw2 s3 I3 n3 r3=>?_];apply aZ (EW pins s3 σ H (.bl b) (.bl c) w1 w2 (λx H'=>x=.bl (!decide (b=c))/\Q (!decide (b=c)) H') I3 r1 r3 #[Z,?_]) λc' s4 ⟨x,H4,I4,r4,e4,q4⟩=>?_
 ·exact#[by cases b<;>cases c<;>rfl,q]
 ·subst e4;cases r4;exact BO #[H4,I4,q4]
end
end L2
namespace Ev
open PySem L2
variable{ps:aC}
theorem Qs.inp{qs:aC}(Q:Qs ps qs){n:Str}(h:n∈qs.map (·.1)):n∈ps.map (·.1):=by
 rw[Q.Dy] at h;exact (gO _).mem_iff.mp h
variable{hs:Xa}{ts:Xb}{f:ai}
theorem Pw.take(P:Pw hs ts ps f)(n:Nat):Pw hs ts (ps.take n) f:=#[P.Gd,λq hq=>P.gp q (List.mem_of_mem_take hq),P.nd.sublist ((List.take_sublist n ps).map _),by rw[cQ];have:=P.wR;omega,λm hm=>P.at_ m (((List.take_sublist n ps).map _).subset hm)]
variable{ns:ae}
theorem m2_(h:ns.Nodup)(f:ai):zy [] (dH ns f)=dH ns f:=Fi (by
 unfold dH br;rw[cm];exact zE.mpr (h.imp λq e=>q (hU e)))
theorem hD_{α β:Type}{F:α->β->Prop}{ys:List α}{ts:List β}(t:Paired F ys ts){i:Nat}{y:α}(h:ys[i]? = some y):∃x,ts[i]? = some x/\F y x:=by
 rw[<- List.map_id ts] at t;exact qc t h
variable{K:af}{d lp:Addr}{yp:ag}{H:Hp}
theorem iN_{D:Addr}{te:TE}{Q:VK}{yg:St}(DM:yg=[none,some (.ref d)])(hl:H lp=some (.lst yp))(pc:Kn K H yp ps)(hd:H d=some (.dK (dH ns f)))(sub:∀n∈ps.map (·.1),n∈ns)(wR:ps.length<=30)(hD:H D=none)(h:∀a n x y H' Q',H' a=some (.tup [.str n,x,y])->bU H' d (.str n) (some (.str (f n)))->(∀t,H' t=none->Q' (.ref t) (upd H' t (.tup [.str n,.str (f n)])))->te [some (.ref a),some (.ref d)] H' Q')(k:∀out H',aa H H'->H' D=some (.lst out)->i_ K H' out (dH (ps.map (·.1)) f)->Q (.ref D) H'):Ki (II K lp) (xT 0) Cc te yg D H Q:=by
 let sz:=ck
 let aQ:dG:=λi out H'=>aa H H'/\H' D=some (.lst out)/\i_ K H' out (dH ((ps.map (·.1)).take i) f)
 apply yd (own:=1) (fv:=[some (.ref d)]) (xs:=yp) DM dP aQ #[aa.new hD,az,.nil] (λi out H' _ ⟨sm,_⟩=>.of (sm _ _ hl)) (λout H2 ⟨s2,hd2,pa⟩=>?_) (λi x out H' hx ⟨sm,pS,pa⟩=>?_)
 ·rw[bG pc,show ps.length=(ps.map (·.1)).length by rw[ak],dJ] at pa;exact k out H2 s2 hd2 pa
 ·let#[p,hp,t,v,rfl,ht,wy]:=hD_ pc hx;have hn:(ps.map (·.1))[i]? = some p.1:=by rw[dQ,hp];rfl
  have gd:bU H' d (.str p.1) (some (.str (f p.1))):=by
   rw[<- Pe (g:=λn=>V.str (f n)) (sub p.1 (cu hn))];exact .k (k:=Sum.inr p.1) (sm _ _ hd)
  apply#[_,Z,Z,λNx hN=>dM ?_];apply h t p.1 _ _ H' _ (sm _ _ ht) gd λa na=>?_;let#[s3,e3]:=aB (o:=.tup [.str p.1,.str (f p.1)]) na;generalize upd H' a (.tup [.str p.1,.str (f p.1)])=H3 at s3 e3 ⊢;let d3:=s3 _ _ pS;let lo:=bG pa
  have pD:∀{b:Addr} {zs:ag},H3 b=some (.tup zs)->b≠D:=λhb z=>by
   rw[z,d3] at hb;cases hb
  apply#[out,d3,?_,hN (out++[.ref a]) _ #[fN (sm.trans s3) hD,az,?_]]
  ·rw[lo,gq,cQ,ak];omega
  ·rw[eO hn];unfold dH br;rw[b_];exact vM (Paired.bu pa λy kv ⟨b,z,hb⟩=>#[b,z,by rw[au (pD (s3 _ _ hb))];exact s3 _ _ hb]) (.cons #[a,Z,by rw[au (pD e3)];exact e3] .nil)
variable{k:Nat}{x:Str}{sp:Sp}
theorem md_{n_:Nat}{X:Cx}{p pos:Pos}(c:bt X.prog X.w X.K X.mg X.base k x [] sp)(hr:aY n_ X.A)(hg:Gl X x:=by rfl)(zh:(x == ("__debug__":Str))=false:=by decide)(hk:k<=n_:=by decide):PE X (.Call (.Name x p) [] [] pos) (zR sp [] E0 pH):=by
 let#[f,fd,F,m,kp,b]:=c.ex;exact j0_ F (hr.mono hk) hg m kp b .nil wQ zh
structure IK (K:af) (H:Hp) (lh lt lp d:Addr) (yh zt yp:ag) (hs:Xa) (ts:Xb) (ps:aC) (f:ai):Prop where
 hh:H lh=some (.lst yh)
 th:bg K H yh (hs.map kH)
 ht:H lt=some (.lst zt)
 tt:bg K H zt (ts.map kT)
 hp:H lp=some (.lst yp)
 pc:Kn K H yp ps
 hd:H d=some (.dK (dH (ps.map (·.1)) f))
variable{G:Hp}{lh lt:Addr}{yh zt:ag}
theorem IK.nt(W:IK K H lh lt lp d yh zt yp hs ts ps f)(s:NT H G):IK K G lh lt lp d yh zt yp hs ts ps f:=
 #[s.lst W.hh,hr_ W.th s,s.lst W.ht,hr_ W.tt s,s.lst W.hp,Paired.bu W.pc λy q ⟨t,v,e,ht,wy⟩=>#[t,v,e,s.tup ht,wy.nt s],s.dK W.hd]
theorem IK.mv{l:Addr}(W:IK K H lh lt lp d yh zt yp hs ts ps f)(b:bc l H G)(st:eK H l)(n1:lh≠l)(n2:lt≠l)(n3:lp≠l)(n4:d≠l):IK K G lh lt lp d yh zt yp hs ts ps f:=by
 let#[xs,hl]:=st.some;exact#[b _ _ W.hh n1,Fg W.th b hl,b _ _ W.ht n2,Fg W.tt b hl,b _ _ W.hp n3,Paired.bu W.pc λy q ⟨t,v,e,ht,wy⟩=>#[t,v,e,b _ _ ht (cU ht hl nofun),wy.mv b st],b _ _ W.hd n4]
variable{T a:Addr}{q:Str}
theorem _Q(t:d8 H T q)(b:bc a H G)(h:∀vs,H a≠some (.tbl vs))(h2:∀c q,H a≠some (Gu c q)):d8 G T q:=by
 let#[es,e,z]:=t;exact#[es,b _ _ e (λy=>h _ (y▸e)),λx hx=>b _ _ (z x hx) (λy=>h2 x.2 q (y▸z x hx))]
variable{T1 T2:Addr}
theorem m8_{o:HO}(t:Tb H T1 T2)(b:bc a H G)(e:H a=some o)(h:∀vs,o≠.tbl vs)(h2:∀c q,o≠Gu c q):Tb G T1 T2:=#[_Q t.a b (λvs z=>h vs (ee (e.symm.trans z))) (λc q z=>h2 c q (ee (e.symm.trans z))),_Q t.b b (λvs z=>h vs (ee (e.symm.trans z))) (λc q z=>h2 c q (ee (e.symm.trans z))),t.ne]
def Bs(hs:Xa)(ts:Xb)(qs:aC)(f:ai)(x:Str):Bool:=match rl.find? (λr=>r.1 == x) with
 |some r=>BR r hs ts qs f
 |none=>false
theorem kW_:∀r∈rl,rl.find? (λq=>q.1 == r.1)=some r:=by decide +kernel
variable{r:Rl}
theorem Sa(h:r∈rl)(hs:Xa)(ts:Xb)(qs:aC)(f:ai):Bs hs ts qs f r.1=BR r hs ts qs f:=by
 unfold Bs;rw[kW_ r h]
theorem ZP:∀r∈rl,r.1∈iJ 3:=by decide +kernel
theorem m6_:(iJ 3).Nodup:=by decide +kernel
theorem kL_:∀r∈rl,(Builtin.Str.occurrences r.1 " one" 0 r.1.length 1).isEmpty=false->∃q∈rl,Txt.replace r.1 " one" " all"=q.1/\q.2.1=r.2.1/\q.2.2.2=r.2.2.2/\r.2.2.1="one"/\¬q.2.2.1="one"/\¬r.2.1="turns":=by decide +kernel
theorem iD_{α:Type}(l:List α):(l.take 1).isEmpty=l.isEmpty:=by cases l<;>rfl
theorem jq_(h:r∈rl)(o:(Builtin.Str.occurrences r.1 " one" 0 r.1.length 1).isEmpty=false)(hs:Xa)(ts:Xb)(qs:aC)(f:ai):Txt.replace r.1 " one" " all"∈iJ 3/\Bs hs ts qs f r.1=Bs hs ts qs f (Txt.replace r.1 " one" " all"):=by
 let#[q,hq,e1,e2,e3,e4,e5,e6]:=kL_ r h o;rw[e1];apply#[ZP q hq,?_];rw[Sa h,Sa hq];let#[a,b,c,d]:=r;let#[a',b',c',d']:=q;dsimp only at e2 e3 e4 e5 e6;subst e2 e3;unfold BR xS Bg Kx;dsimp only;rw[ao e6];simp only[ao e6,aA e4,ao e5,iD_];rfl
abbrev lwN:ae:=[Gv,"_law_k",xj,"_law_hands","_law_ties","_law_pieces",iO,fU,"_law_goods_here",BX,"_law_rule","_law_due_here"]
theorem zo:bD lwN [Gv] (bb ip):=bJ
def zW(K:af)(T1 T2:Addr):Sp:=λvs H Q _=>∃(a:Addr) (ns:List Int),vs=[.ref a]/\Tb H T1 T2/\d9 K H a (ns.map V.int)/\ns.length<=63/\∀H',Q (.bl true) H'
variable{P:Ad}{w:Af}{mg:Str->Option Aa}{base:Heap}{CG CW:Addr}
theorem lP_{f0:Addr}{fd:Ae}(F:bp K "law" "law" ip f0 fd)(B:Bi mg)(cC:!bt 1 "_law_cell_at" AS (CA K))(Ya:!bt 1 "_law_state" ["_law_cell","_law_k"] zU)(cD:!bt 2 Gy HW KG)(cL:!bt 4 "_law_web" [xj] (Cw K))(Ys:!bt 4 "_law_goods" Ey (XO K))(X8:!bt 1 "_law_world" Ew (WS K))(Ye:!bt 1 "_law_rules" [] fe')(Yw:!bt 5 "_law_due" Ex (yw K))
  (Yg:!zJ CW 5 "Web" ["self","hands","ties"] (yt K CW)) (Yt:!zJ CG 7 "Goods" ["self","web","pieces"] (Ws K CG CW)) (cAR:!bt 10 "at_rest" HS (WW K CG CW T1 T2)):!aj ba 11 f0 fd [Gv] (zW K T1 T2):=by
 apply F.bI zo λaR A outer s H vs Q E hr h=>?_
 ·let#[ls,ns,rfl,tb,Gb,h63,k]:=h;let sz:=ck;let hu:=eV hr;let hun:=hr.IM;refine' #[_,aq ?s1 (aH (bj Gq)),?kk]
  case' s1=>refine' eF dX Z ?i3 (cj 1 zo.nd) ?b0
  case i3=>exact L3 (by rfl) B.range %[bF iQ aK (cy (h5_ Z) (by rfl) B.min PyProof.Rows.Boot.«min» %[cy xo (by rfl) B.len i4 %[0|0],aK|0])|0]
  case' b0=>refine' aq ?b1 ?c1
  case' c1=>refine' aq ?b2 ?c2
  case' c2=>refine' aq ?b3 ?c3
  case' c3=>refine' aq ?b4 ?c4
  case' c4=>refine' aq ?b5 ?c5
  case' c5=>refine' aq ?b6 ?c6
  case' c6=>refine' aq ?b7 ?c7
  case' c7=>refine' aq ?b8 (aH ?b9)
  case b1=>exact aX 2 zo.nd (bf Ya hr %[bf cC hr %[0,1|0],1|0])
  case b2=>exact O7 (bf cL hr %[2|0]) (xk Z (dZ (cj 3 zo.nd) (dZ (cj 4 zo.nd) jf)))
  case b3=>exact O7 (bf Ys hr %[2,3,4|0]) (xk Z (dZ (cj 5 zo.nd) (dZ (cj 6 zo.nd) jf)))
  case' b4=>refine' bN (cz hV (bf cD hr %[2,aK|0]) aK) (aq ?d1 (aH ?d2)) bP
  case d1=>exact aX 5 zo.nd (Ik Pt (pv 5) Iq (Iu aK))
  case' d2=>refine' aX 6 zo.nd (qe (Fl Z) (by rfl) B.dict BZ %[iS [AL,iO] 1 [6] (dE (pv 5)) (λfp s H=>eZ (i:=0) (show ([AL,iO]:ae).Nodup by decide +kernel) Z (Or.inl Z)) (λfp s H=>iH) (λfp s H=>?te)|0])
  case te=>exact fe %[bO (JJ (K:=K) wO eJ) (pv 0) aK,cb hu (pv 1) (bO (JJ (K:=K) wO eJ) (pv 0) aK)|0]
  case b5=>exact aX 7 zo.nd (bf X8 hr %[3,4,5|0])
  case b6=>exact aX 8 zo.nd (UC Yt hr %[UC Yg hr %[3,4|0],5|0])
  case b7=>exact aX 9 zo.nd Ij
  case' b8=>refine' eF dX Z (dE (md_ Ye hr)) (cj 10 zo.nd) (aq ?e1 (aq ?e2 (aH ?e3)))
  case e1=>exact B1 hu (pv 9) (pv 10) (bf cAR hr %[8,6,10|0]) Z
  case e2=>exact aX 11 zo.nd (bf Yw hr %[7,6,10|0])
  case e3=>exact bN (Gw (cz EW (cb hu (pv 9) (pv 10)) (pv 11)) (Gw (gZ (fR (cy zC (by rfl) B.xK yc %[cb hu (pv 9) (pv 10),zw (v:=.ty "bool") (by rfl) B.bool PyProof.Rows.Boot.«bool» rfl|0]))) (Ig (cz EW (bf cAR hr %[8,qe go_ (by rfl) B.dict BZ %[6|0],10|0]) (pv 11))))).pt fJ bP
  case b9=>exact KN (eF dX Z (Pr (pv 9)) (cj 10 zo.nd) (aH (bN (E7 (cz gT_ bZ (pv 10) (by with_unfolding_all rfl)) (Ir (hA_ (i:=9) (j:=10) Z0 Z0))).pt fJ bP)))
  have AF:(ns.map V.int).length<=63:=by rw[ak];exact h63
  apply dz (λσ H'=>True) (λσ H' _=>k _) (λN hN=>?_)
  obtain⟨cnt,c4,ec⟩:∃c:Nat,c<=4/\(1+(if (1:Int)<((ns.map V.int).length:Int) then (1:Int) else ((ns.map V.int).length:Int)))=(c:Int):=by
   by_cases c:(1:Int)<((ns.map V.int).length:Int)
   ·rw[aA c];exact#[2,by decide,Z]
   ·rw[ao c];exact#[1+(ns.map V.int).length,by omega,by omega]
  apply#[_,Z,ls,_,Z,.inl Gb,_,_,Z,_,_,Z,Z,(cnt:Int),dU (λz=>[V.int z]) ec,by omega,by omega,?_]
  let aQ:bL:=λi σ H'=>NT H H'/\Tb H' T1 T2/\∃v1 v2 v3 v4 v5 v6 v7 v8 v9 v10 v11:aJ,σ=[some (.ref ls),v1,v2,v3,v4,v5,v6,v7,v8,v9,v10,v11]
  apply eG_ aQ #[NT.refl H,tb,none,none,none,none,none,none,none,none,none,none,none,Z] ?_ (λσ H' _=>hN _ _ trivial);rintro i σ H0 hi ⟨ZG,tb0,v1,v2,v3,v4,v5,v6,v7,v8,v9,v10,v11,rfl⟩;lk;rw[Io] at hi
  let bH:cn:=λσ H'=>∃l,aa H0 H'/\H0 l=none/\eK H' l/\σ=[some (.ref ls),some (.int i),some (.ref l),v3,v4,v5,v6,v7,v8,v9,v10,v11]
  apply dz bH ?m2 (λN1 ie=>?m1)
  case m1=>
   apply#[_,Z,_,Z,ls,ns,_,Z,by omega,lT_ ZG Gb,λc=>?_];apply#[_,Z,c,i,by rw[Int.zero_add];rfl,by omega,λl H1 s1 nl st=>ie _ _ #[l,s1,nl,st,?_]];show [some (V.ref ls),some (V.int (0+(i:Int))),some (V.ref l),v3,v4,v5,v6,v7,v8,v9,v10,v11]=_;rw[Int.zero_add]
  rintro σ H1 ⟨l,s1,nl,xG,rfl⟩
  let eX:cn:=λσ H'=>∃(lh lt:Addr) (ys zs:ag) (hs:Xa) (ts:Xb),aa H0 H'/\eK H' l/\lh≠l/\lt≠l/\H' lh=some (.lst ys)/\bg K H' ys (hs.map kH)/\H' lt=some (.lst zs)/\bg K H' zs (ts.map kT)/\Good hs ts/\σ=[some (.ref ls),some (.int i),some (.ref l),some (.ref lh),some (.ref lt),v5,v6,v7,v8,v9,v10,v11]
  apply dz eX ?m4 (λN1 ie=>?m3)
  case m3=>
   apply#[_,Z,l,Z,xG,λt lh lt ys zs hs ts H2 b2 fj ht fh ft nht Nq Nh h1 h2 h3 h4 G=>?_];exact#[t,_,Z,.of ht,Z,_,_,Z,_,_,Z,Z,ie _ _ #[lh,lt,ys,zs,hs,ts,b2.same nl s1,fj,Nq,Nh,h1,h2,h3,h4,G,Z]]
  rintro σ H2 ⟨lh,lt,yh,zt,hs,ts,s2,fj,Nq,Nh,h1,h2,h3,h4,G,rfl⟩
  let qf:cn:=λσ H'=>∃(lp d:Addr) (yp:ag) (ps:aC) (f:ai),aa H0 H'/\eK H' l/\lp≠l/\d≠l/\IK K H' lh lt lp d yh zt yp hs ts ps f/\Pw hs ts ps f/\σ=[some (.ref ls),some (.int i),some (.ref l),some (.ref lh),some (.ref lt),some (.ref lp),some (.ref d),v7,v8,v9,v10,v11]
  apply dz qf ?m6 (λN1 ie=>?m5)
  case m5=>
   apply#[_,Z,_,Z,_,Z,l,lh,lt,yh,zt,hs,ts,Z,fj,h1,Nq,h2,h3,Nh,h4,G,λt lp d yp ps f H3 b3 wF ht fp fd Lf Hm h5 h6 h7 gp nd wR at_=>?_];let#[SQ,Hy]:=fj.some;exact#[t,_,Z,.of ht,Z,_,_,Z,_,_,Z,Z,ie _ _ #[lp,d,yp,ps,f,b3.same nl s2,wF,Lf,Hm,#[b3 _ _ h1 Nq,Fg h2 b3 Hy,b3 _ _ h3 Nh,Fg h4 b3 Hy,h5,h6,h7],#[G,gp,nd,wR,at_],Z]]
  clear h1 h2 h3 h4 xG fj s1 s2;rintro σ Ha ⟨lp,d,yp,ps,f,sa,Ti,Lf,Hm,Da,Pp,rfl⟩
  let EC:cn:=λσ H'=>∃(lp d:Addr) (yp:ag) (ps:aC),aa H0 H'/\eK H' l/\lp≠l/\d≠l/\IK K H' lh lt lp d yh zt yp hs ts ps f/\Pw hs ts ps f/\σ=[some (.ref ls),some (.int i),some (.ref l),some (.ref lh),some (.ref lt),some (.ref lp),some (.ref d),v7,v8,v9,v10,v11]
  apply dz EC ?F6 (λN1 ie=>?Ul)
  case Ul=>
   apply#[_,Z,l,3,Z,by decide,by decide,Ti,λa3 H5 p4 p5 b5 gB=>?_];let s5:=b5.same nl sa;let D5:=Da.mv b5 Ti Nq Nh Lf Hm;apply#[Z,_,Z,?_];apply aM (λc=>?_) (λc=>?_)
   ·apply#[_,Z,_,Z,lp,_,Z,.of D5.hp,λlq nq=>?_];rw[show hJ yp none (some 1)=yp.take 1 from RO yp 1];let#[s6,e6]:=aB (o:=.lst (yp.take 1)) nq;generalize upd H5 lq (.lst (yp.take 1))=H6 at s6 e6 ⊢;lk;let D6:=D5.nt (NT.of s6);let P2:=Pp.take 1;have ZC:Kn K H6 (yp.take 1) (ps.take 1):=Sx 1 D6.pc;let#[xs5,DS]:=gB.some;apply#[_,Z,lq,Z,#[_,.of e6],λD hD=>?_];apply iN_ Z e6 ZC D6.hd (λn hn=>((List.take_sublist 1 ps).map _).subset hn) P2.wR hD (λa n x y H' Q' ha gd k=>?_) (λout H7 s7 d7 pa=>?_)
    ·exact#[_,Z,a,_,0,_,Z,Z,.of ha,Z,_,Z,_,Z,a,_,0,_,Z,Z,.of ha,Z,d,_,Z,gd,zl,k]
    ·have lk:(dH ((ps.take 1).map (·.1)) f).length<=1000:=by
      have:=P2.wR;rw[gq,ak];omega
     apply#[D,out,_,Z,d7,pa,lk,λd2 ZL=>?_];rw[m2_ P2.nd];let#[s8,e8]:=aB (o:=.dK (dH ((ps.take 1).map (·.1)) f)) ZL;generalize upd H7 d2 (.dK (dH ((ps.take 1).map (·.1)) f))=H8 at s8 e8 ⊢;apply setG ?_;let vF:=s7.trans s8;let TJ:=s6.trans vF;let D8:=D5.nt (NT.of TJ);exact ie _ _ #[lq,d2,_,_,s5.trans TJ,gB.same TJ,(bx DS nq).symm,(bx DS ((s6.trans s7).free ZL)).symm,#[D8.hh,D8.th,D8.ht,D8.tt,vF _ _ e6,Paired.bu ZC λy q x=>x.same vF,e8],P2,Z]
   ·exact ie _ _ #[lp,d,yp,ps,s5,gB,Lf,Hm,D5,Pp,Z]
  clear Da sa Ti Lf Hm Pp;rintro σ H6 ⟨lp,d,yp,ps,s6,xF,Lf,Hm,D6,Pp,rfl⟩;apply#[_,Z,_,Z,_,Z,lh,lt,lp,yh,zt,yp,hs,ts,ps,Z,D6.hh,D6.th,D6.ht,D6.tt,D6.hp,D6.pc,G,Pp.nd,Pp.wR,λwa H3 Qw nwa WA=>?_];lk;let D3:=D6.nt (NT.of Qw);let wF:=xF.same Qw;let s3:=s6.trans Qw;clear D6 xF s6 Qw nwa
  let K6:cn:=λσ H'=>∃(g p:Addr) (qs:aC) (fp:ay),aa H3 H'/\Qa K CG CW H' g p d hs ts qs fp (ps.map (·.1)) f/\Qs ps qs/\l∉fp/\σ=[some (.ref ls),some (.int i),some (.ref l),some (.ref lh),some (.ref lt),some (.ref lp),some (.ref d),some (.ref wa),some (.ref g),v9,v10,v11]
  apply dz K6 ?ZU (λN1 ie=>?Uk)
  case Uk=>
   let h7:=D3.hd;apply#[_,Z,_,Z,λp dx hp Vq ne=>?_];have s4:aa H3 (upd (upd H3 dx (.own p)) p (.ins CW dx [])):=(aa.new Vq).trans (aa.new (by rw[au ne.symm];exact hp));apply#[p,dx,lh,lt,yh,zt,hs,ts,Z,az,s4 _ _ D3.hh,D3.th.same s4,s4 _ _ D3.ht,D3.tt.same s4,G,λcq H5 kp W fr=>#[Z,?_]];have yV:aa H3 H5:=λb o e=>kp b o (s4 _ _ e) (bx e hp)
   have dfw:d∉cq:=λm=>by
    rcases fr d m with z|z
    ·rw[z] at h7;rw[h7] at hp;cases hp
    ·rw[s4 _ _ h7] at z;cases z
   apply#[_,Z,λg HY hg Vp ne2=>?_];have s6:aa H5 (upd (upd H5 HY (.own g)) g (.ins CG HY [])):=(aa.new Vp).trans (aa.new (by rw[au ne2.symm];exact hg));let K_:=yV.trans s6;have e6:upd (upd H5 HY (.own g)) g (.ins CG HY []) g=some (.ins CG HY []):=az
   have gfw:g∉cq:=λm=>by
    let#[o,e,_]:=W.Gn m;rw[e] at hg;cases hg
   generalize upd (upd H5 HY (.own g)) g (.ins CG HY [])=H6 at s6 e6 K_ ⊢;apply#[g,HY,p,lp,yp,ps,hs,ts,cq,Z,e6,W.same s6,gfw,G,K_ _ _ D3.hp,Paired.bu D3.pc λy q x=>x.same K_,Pp.gp,Pp.nd,by have:=Pp.wR;omega,λqs fp H7 kg GA Qq fg=>#[Z,?_]];have Zr:aa H3 H7:=λb o e=>kg b o (K_ _ _ e) (λz=>by rw[z] at e;rw[yV _ _ e] at hg;cases hg)
   have Eb:d∉fp:=λm=>by
    rcases fg d m with z|z|z
    ·rw[z] at h7;rw[yV _ _ h7] at hg;cases hg
    ·exact dfw z
    ·rw[K_ _ _ h7] at z;cases z
   let#[xs3,Bm]:=wF.some
   have lfp:l∉fp:=λm=>by
    rcases fg l m with z|z|z
    ·rw[z] at Bm;rw[yV _ _ Bm] at hg;cases hg
    ·rcases fr l z with z|z
     ·rw[z] at Bm;rw[Bm] at hp;cases hp
     ·rw[s4 _ _ Bm] at z;cases z
    ·rw[K_ _ _ Bm] at z;cases z
   let#[OW,GA',sub,has]:=GA.Gn;apply ie _ _ #[g,p,qs,OW,Zr,#[GA',λm=>Eb (sub d m),Zr _ _ h7,#[?_,λn hn=>Pp.at_ n hn],has],Qq,λm=>lfp (sub l m),Z];rw[Qq.Dy];exact (gO _).symm
  rintro σ H4 ⟨g,p,qs,fp,eY,S,Qq,lfp,rfl⟩
  have wd:Wd hs ts qs f:=#[G,Qq.nd Pp.nd,by rw[Qq.len];have:=Pp.wR;omega,λn hn=>Pp.at_ n (Qq.inp hn),λq hq=>by
   let#[p,hp,e]:=Qq.mem q hq;have:=Pp.gp p hp;rw[e];exact#[by have:=this.w1;show 0<=p.2.1;omega,this.w2]]
  let i7:=s3.trans eY;let W4:=WA.nt (NT.of eY);clear D3 WA wF;intro df Dz;let#[s5,e5]:=aB (o:=.dK []) Dz;generalize upd H4 df (.dK [])=H5 at s5 e5 ⊢;apply setG (i:=9) (v:=.ref df) ?_;dsimp only
  let Y1:cn:=λσ H'=>NT H4 H'/\Tb H' T1 T2/\H' df=some (.dK (br (iJ 3) λx=>.bl (Bs hs ts qs f x)))/\∃v10 v11:aJ,σ=[some (.ref ls),some (.int i),some (.ref l),some (.ref lh),some (.ref lt),some (.ref lp),some (.ref d),some (.ref wa),some (.ref g),some (.ref df),v10,v11]
  apply dz Y1 ?ZT (λN1 ie=>?Uj)
  case Uj=>
   apply#[Z,λlr H6 s6 BG er=>?_];apply#[lr,Z,#[_,.of er],?_];have ldf:lr≠df:=(bx e5 BG).symm;let Ju:=s5.trans s6;apply fW (λi' σ H'=>NT H4 H'/\Tb H' T1 T2/\H' lr=some (.lst ((iJ 3).map V.str))/\H' df=some (.dK (br ((iJ 3).take i') λx=>.bl (Bs hs ts qs f x)))/\∃v10 v11:aJ,σ=[some (.ref ls),some (.int i),some (.ref l),some (.ref lh),some (.ref lt),some (.ref lp),some (.ref d),some (.ref wa),some (.ref g),some (.ref df),v10,v11]) #[NT.of Ju,tb0.same (i7.trans Ju),er,s6 _ _ e5,_,_,Z] (λi' σ H' _ ⟨_,_,hl,_⟩=>.of hl) ?_ ?_
   ·rintro j x σ H7 hx ⟨n7,FC,Ou,Gg,Mm,Ml,rfl⟩;rw[dQ] at hx;let#[y,hy,rfl]:=Iy.mp hx;let#[r,xN,rfl]:=_g y (cu hy);lk;let lj:=(cc.mp hy).1;rw[lq_] at lj;apply#[_,Z,_,Z,_,Z,g,p,d,hs,ts,qs,fp,_,f,r,xN,Z,S.nt n7,wd,FC,λH8 b8 tb8=>?_];let n8:=b8.nt FC;apply#[_,Z,_,Z,df,_,Z,xB.k (k:=Sum.inr r.1) (n8.dK Gg) (by rw[gq,cQ];omega),?_]
    have Np:r.1∉(iJ 3).take j:=λm=>by
     let#[q,hq,e]:=List.mem_take_iff_getElem.mp m;let h2:=(cc.mp hy).2;have:=(List.getElem_inj m6_).mp (e.trans h2.symm);omega
    rw[Pd Np,<- eO hy,show (λm=>if m=r.1 then V.bl (BR r hs ts qs f) else V.bl (Bs hs ts qs f m))=λm=>V.bl (Bs hs ts qs f m) from funext λm=>by
     split
     ·rename_i z;rw[z,Sa xN]
     ·rfl]
    let n48:=n7.trans n8;let hl8:=n8.lst Ou;have b9:bc df H8 (upd H8 df (.dK (br ((iJ 3).take (j+1)) λx=>.bl (Bs hs ts qs f x)))):=bc.upd;have e9:upd H8 df (.dK (br ((iJ 3).take (j+1)) λx=>.bl (Bs hs ts qs f x))) df=some (.dK (br ((iJ 3).take (j+1)) λx=>.bl (Bs hs ts qs f x))):=az;let Ze:=m8_ tb8 b9 (n8.dK Gg) nofun (by intro c q z;cases z);generalize upd H8 df (.dK (br ((iJ 3).take (j+1)) λx=>.bl (Bs hs ts qs f x)))=H9 at b9 e9 Ze ⊢;have n9:NT H4 H9:=λb o e n=>b9 b o (n48 b o e n) (bx e Dz);let hl9:=b9 _ _ hl8 ldf;apply#[_,Z,_,Z,_,Z,wa,d,hs,ts,ps,qs,f,r,xN,Z,#[W4.nt n9,Pp,Qq,wd,n9.dK S.hd],λHA sA=>?_];lk;let nA:=n9.trans (NT.of sA);let Zd:=Ze.same sA;let eA:=sA _ _ e9
    have gA:bU HA df (.str r.1) (some (.bl (BR r hs ts qs f))):=by
     have:=L0 (.inl eA) (n:=r.1) (by rw[eO hy];simp);rw[Sa xN] at this;exact this
    apply#[_,Z,_,Z,df,_,Z,gA,_,Z,?_];apply#[Z,_,Z,aM (λc=>by simp at c) (λ_=>?_)];apply#[_,Z,_,Z,df,_,Z,gA,_,_,_,true,Z,.bl _,Z,_,Z,aM (λc=>by simp at c) (λ_=>?_)];apply#[_,Z,_,Z,d,_,Z,.inl (nA.dK S.hd),λdh Uc=>?_];let#[sB,eB]:=aB (o:=.dK (dH (ps.map (·.1)) f)) Uc;generalize upd HA dh (.dK (dH (ps.map (·.1)) f))=HB at sB eB ⊢;let nB:=nA.trans (NT.of sB);let SB:=S.nt nB;let SA:=S.nt nA
    have dhf:dh∉fp:=λm=>by
     let#[o,e,_]:=SA.has _ m;rw[e] at Uc;cases Uc
    apply#[_,Z,g,p,dh,hs,ts,qs,fp,_,f,r,xN,Z,#[SB.G,dhf,eB,S.so,SB.has],wd,Zd.same sB,λHC bC tbC=>?_];let nC:=bC.nt (Zd.same sB);apply#[_,Z,Z,_,Z,aM (λc=>by simp at c) (λ_=>?_)];exact#[nB.trans nC,tbC,nC.lst (sB _ _ (sA _ _ hl9)),nC.dK (sB _ _ eA),_,_,Z]
   ·rintro σ H7 ⟨n7,FC,Ou,Gg,Mm,Ml,rfl⟩;rw[ak,dJ] at Gg;exact ie _ _ #[n7,FC,Gg,Mm,Ml,Z]
  rintro σ H7 ⟨n7,FC,Gg,Mm,Ml,rfl⟩;apply#[df,_,Gg,?_];apply#[_,Z,df,_,Z,Gg,λo=>?_];apply WX (λi' σ H'=>Fz df o (br (iJ 3) λx=>.bl (Bs hs ts qs f x)) H7 H'/\∃v10 v11:aJ,σ=[some (.ref ls),some (.int i),some (.ref l),some (.ref lh),some (.ref lt),some (.ref lp),some (.ref d),some (.ref wa),some (.ref g),some (.ref df),v10,v11]) #[Fz.start,_,_,Z] (λi' σ H' _ ⟨z,_⟩=>z.at_) ?_ ?_
  ·rintro j ky x σ H8 hx ⟨fz,Mm,Ml,rfl⟩;let#[n,hn,rfl,rfl]:=GE hx;let#[r,xN,rfl]:=_g n (cu hn);lk;apply#[_,Z,_,_,Z,Z,_,Z,?_];apply aM (λc=>?_) (λc=>?_)
   ·have c:(Builtin.Str.occurrences r.1 " one" 0 r.1.length 1).isEmpty=false:=by
     revert c;cases (Builtin.Str.occurrences r.1 " one" 0 r.1.length 1).isEmpty<;>simp
    let#[m1,e1]:=jq_ xN c hs ts qs f;let Zu:=XB r xN;apply#[df,r.1,_,_,Z,Z,by omega,L0 (UH fz) (ZP r xN),L0 (UH fz) m1,aM (λc=>?_) (λ_=>#[fz,_,_,Z])];rw[e1] at c;simp at c
   ·exact aM (λc=>by simp at c) (λ_=>#[fz,_,_,Z])
  ·rintro σ H8 ⟨fz,Mm,Ml,rfl⟩;let s8:=fz.pG Gg;exact#[o,fz.at_,(ZG.trans (NT.of i7)).trans (n7.trans (NT.of s8)),FC.same s8,_,_,_,_,_,_,_,_,_,_,_,Z]
structure Fd (K:af) (mg:Str->Option Aa) (x:Str) (st:Stmt):Prop where
 ex:∃f fd,bp K x x st f fd/\mg x=some (.ref f)/\PySem.W.keepIn K (.ref f)=true
variable{f:Addr}{h:Heap}{st:Stmt}{aR ct doc oc pm:Aa}{an od:Option Addr}{xJ:Array (Option Aa)}
theorem OX(X:K.In h)(G:h.Ns mainGlobals mg){kV:Aa}(a:PySem.W.nsIn K mainGlobals x=some (some (.ref f)))(l:K.lookup f=some #[oc,od,.func (PySem.W.fnOf x x (vI st) (iM st) (bb st) .none kV doc pm an aR ct),xJ])(c:PySem.W.codeIn K aR x=true)(k:PySem.W.keepIn K (.ref f)=true):Fd K mg x st:=#[_,_,VC l c k,PySem.W.mg_of X G a,k]
structure Md (K:af) (C:Addr) (m qual:Str) (st:Stmt):Prop where
 ex:∃f fd,bp K m qual st f fd/\Meth K C m f
variable{C:Addr}{m qual:Str}
theorem Nu{kV:Aa}(a:PySem.W.findIn K (.ref C) m=some (some (.ref f)))(i:PySem.W.isFn K (.ref f)=true)(l:K.lookup f=some #[oc,od,.func (PySem.W.fnOf m qual (vI st) (iM st) (bb st) .none kV doc pm an aR ct),xJ])(c:PySem.W.codeIn K aR qual=true)(k:PySem.W.keepIn K (.ref f)=true):Md K C m qual st:=#[_,_,VC l c k,a,i,k]
variable{ps:ae}
theorem cal(d:Fd K mg x st)(ok:∀f fd,bp K x x st f fd->!aj ba k f fd ps sp)(h:∀(kV doc pm:Aa) (an:Option Addr) (aR ct:Aa) (us:ax),us.length=ps.length->bindArgs (PySem.W.fnOf x x (vI st) (iM st) (bb st) .none kV doc pm an aR ct) #[us,[]]=pure (ps.zip us)):!bt k x ps sp:=by
 let#[f,fd,F,m,kp]:=d.ex;exact#[f,fd,ok f fd F,m,kp,F.binds h]
theorem X3(d:Md K C m qual st)(ok:∀f fd,bp K m qual st f fd->!aj ba k f fd ps sp)(h:∀(kV doc pm:Aa) (an:Option Addr) (aR ct:Aa) (us:ax),us.length=ps.length->bindArgs (PySem.W.fnOf m qual (vI st) (iM st) (bb st) .none kV doc pm an aR ct) #[us,[]]=pure (ps.zip us)):!bB C k m ps sp:=by
 let#[f,fd,F,m]:=d.ex;exact#[f,fd,ok f fd F,m,F.binds h]
theorem X4(d:Md K C "__init__" qual st)(hx:mg x=some (.ref C))(mk:PySem.W.makesIn K C=true)(kc:PySem.W.keepIn K (.ref C)=true)(ok:∀f fd,bp K "__init__" qual st f fd->!aj ba k f fd ps sp)(h:∀(kV doc pm:Aa) (an:Option Addr) (aR ct:Aa) (us:ax),us.length=ps.length->bindArgs (PySem.W.fnOf "__init__" qual (vI st) (iM st) (bb st) .none kV doc pm an aR ct) #[us,[]]=pure (ps.zip us)):!zJ C k x ps sp:=by
 let#[f,fd,F,m]:=d.ex;exact#[f,fd,ok f fd F,#[mk,m.1,m.2,kc],hx,F.binds h]
theorem eR{p:Str}{x y:Tok}{z:Aa}{u:V}{n:Nat}{sl:Array (Option Aa)}(h:K.lookup a=some #[.type "tuple",od,.seq (List.toArray [.str p x,.str q y,z]) n,sl])(r:RelV u z):∀H,iI K H a [.str p,.str q,u]:=λH=>
 .inr #[_,_,_,h,Z,Z,(show 3<=sizeLine by decide),.cons #[x,Z] (.cons #[y,Z] (.cons r .nil))]
variable{Te Td t8 t9:Tok}
theorem rules_at{es:Array DictEntry}{ep:Nat}{t0 t1 t2 t3 t4 t5 t6 t7 Zn Zm Zl Zk Zj:Tok}{b0 b1 b2 b3 b4 b5 b6 b7 b8 b9 zB SE SD Sz Fh GK Sy:Addr}{od0 od1 od2 od3 od4 od5 od6 od7 od8 od9 T3 TZ TY TX TV TU TR:Option Addr}{x0 y0 n0 v0 x1 y1 n1 v1 x2 y2 n2 v2 x3 y3 n3 v3 x4 y4 n4 v4 x5 y5 n5 v5 x6 y6 n6 v6 x7 y7 n7 v7 x8 y8 n8 v8 x9 y9 n9 v9 x10 y10 n10 v10 x11 y11 n11 v11 x12 y12 Uh x13 y13 Ug x14 y14 n14 v14 x15 y15 n15 v15 x16 y16 n16 v16:Nat}{sl0 sl1 sl2 sl3 sl4 sl5 sl6 sl7 sl8 sl9 Tw Tu Tt Ts Tr Tq Tp:Array (Option Aa)}(m:mg "RULES"=some (.ref d))(hs:(d == sysModules)=false)(hl:K.lookup d=some #[.type "dict",none,.dict es ep,#[]])(he:es.toList=Rb w [("least one high",t0,.ref b0),("least one fall",t1,.ref b1),("least one calm",t2,.ref b2),("least all high",t3,.ref b3),("least all fall",t4,.ref b4),("least all calm",t5,.ref b5),("below one high",t6,.ref b6),("below one fall",t7,.ref b7),("below one calm",t8,.ref b8),("below all high",t9,.ref b9),("below all fall",Te,.ref zB),("below all calm",Td,.ref SE),("shares one",Zn,.ref SD),("shares all",Zm,.ref Sz),("turns high",Zl,.ref Fh),("turns fall",Zk,.ref GK),("turns calm",Zj,.ref Sy)])(u0:K.lookup b0=some #[.type "tuple",od0,.seq (List.toArray [.str "least" x0,.str "one" y0,.str "high" v0]) n0,sl0])(u1:K.lookup b1=some #[.type "tuple",od1,.seq (List.toArray [.str "least" x1,.str "one" y1,.str "fall" v1]) n1,sl1])(u2:K.lookup b2=some #[.type "tuple",od2,.seq (List.toArray [.str "least" x2,.str "one" y2,.str "calm" v2]) n2,sl2])(u3:K.lookup b3=some #[.type "tuple",od3,.seq (List.toArray [.str "least" x3,.str "all" y3,.str "high" v3]) n3,sl3])(u4:K.lookup b4=some #[.type "tuple",od4,.seq (List.toArray [.str "least" x4,.str "all" y4,.str "fall" v4]) n4,sl4])(u5:K.lookup b5=some #[.type "tuple",od5,.seq (List.toArray [.str "least" x5,.str "all" y5,.str "calm" v5]) n5,sl5])(u6:K.lookup b6=some #[.type "tuple",od6,.seq (List.toArray [.str "below" x6,.str "one" y6,.str "high" v6]) n6,sl6])(u7:K.lookup b7=some #[.type "tuple",od7,.seq (List.toArray [.str "below" x7,.str "one" y7,.str "fall" v7]) n7,sl7])(u8:K.lookup b8=some #[.type "tuple",od8,.seq (List.toArray [.str "below" x8,.str "one" y8,.str "calm" v8]) n8,sl8])(u9:K.lookup b9=some #[.type "tuple",od9,.seq (List.toArray [.str "below" x9,.str "all" y9,.str "high" v9]) n9,sl9])(u10:K.lookup zB=some #[.type "tuple",T3,.seq (List.toArray [.str "below" x10,.str "all" y10,.str "fall" v10]) n10,Tw])(u11:K.lookup SE=some #[.type "tuple",TZ,.seq (List.toArray [.str "below" x11,.str "all" y11,.str "calm" v11]) n11,Tu])(u12:K.lookup SD=some #[.type "tuple",TY,.seq (List.toArray [.str "shares" x12,.str "one" y12,.none]) Uh,Tt])(u13:K.lookup Sz=some #[.type "tuple",TX,.seq (List.toArray [.str "shares" x13,.str "all" y13,.none]) Ug,Ts])(u14:K.lookup Fh=some #[.type "tuple",TV,.seq (List.toArray [.str "turns" x14,.str "all" y14,.str "high" v14]) n14,Tr])(u15:K.lookup GK=some #[.type "tuple",TU,.seq (List.toArray [.str "turns" x15,.str "all" y15,.str "fall" v15]) n15,Tq])(u16:K.lookup Sy=some #[.type "tuple",TR,.seq (List.toArray [.str "turns" x16,.str "all" y16,.str "calm" v16]) n16,Tp]) :
  RJ K w mg d [b0,b1,b2,b3,b4,b5,b6,b7,b8,b9,zB,SE,SD,Sz,Fh,GK,Sy]:=by
 apply#[m,Z,#[hs,?_,[("least one high",t0,.ref b0),("least one fall",t1,.ref b1),("least one calm",t2,.ref b2),("least all high",t3,.ref b3),("least all fall",t4,.ref b4),("least all calm",t5,.ref b5),("below one high",t6,.ref b6),("below one fall",t7,.ref b7),("below one calm",t8,.ref b8),("below all high",t9,.ref b9),("below all fall",Te,.ref zB),("below all calm",Td,.ref SE),("shares one",Zn,.ref SD),("shares all",Zm,.ref Sz),("turns high",Zl,.ref Fh),("turns fall",Zk,.ref GK),("turns calm",Zj,.ref Sy)],_,es,ep,hl,#[Z,Z,Z],Z,he,?_],?_]
 ·rw[ex_ Z];exact hS_
 ·exact .cons #[Z,Z] (.cons #[Z,Z] (.cons #[Z,Z] (.cons #[Z,Z] (.cons #[Z,Z] (.cons #[Z,Z] (.cons #[Z,Z] (.cons #[Z,Z] (.cons #[Z,Z] (.cons #[Z,Z] (.cons #[Z,Z] (.cons #[Z,Z] (.cons #[Z,Z] (.cons #[Z,Z] (.cons #[Z,Z] (.cons #[Z,Z] (.cons #[Z,Z] (.nil)))))))))))))))))
 ·exact .cons (eR u0 #[_,Z]) (.cons (eR u1 #[_,Z]) (.cons (eR u2 #[_,Z]) (.cons (eR u3 #[_,Z]) (.cons (eR u4 #[_,Z]) (.cons (eR u5 #[_,Z]) (.cons (eR u6 #[_,Z]) (.cons (eR u7 #[_,Z]) (.cons (eR u8 #[_,Z]) (.cons (eR u9 #[_,Z]) (.cons (eR u10 #[_,Z]) (.cons (eR u11 #[_,Z]) (.cons (eR u12 Z) (.cons (eR u13 Z) (.cons (eR u14 #[_,Z]) (.cons (eR u15 #[_,Z]) (.cons (eR u16 #[_,Z]) (.nil)))))))))))))))))
structure Tg (P:Ad) (w:Af) (b:Heap):Prop where
theorem bY(q:Tg P w base)(d:Fd K mg x st)(ok:∀f fd,bp K x x st f fd->!aj ba k f fd ps sp)(h:∀(kV doc pm:Aa) (an:Option Addr) (aR ct:Aa) (us:ax),us.length=ps.length->bindArgs (PySem.W.fnOf x x (vI st) (iM st) (bb st) .none kV doc pm an aR ct) #[us,[]]=pure (ps.zip us):=by first|(exact λ_ _ _ _ _ _ us (hl:us.length=1)=>match us,hl with | [_],_=>rfl)|(exact λ_ _ _ _ _ _ us (hl:us.length=2)=>match us,hl with | [_,_],_=>rfl)|(exact λ_ _ _ _ _ _ us (hl:us.length=3)=>match us,hl with | [_,_,_],_=>rfl)|(exact λ_ _ _ _ _ _ us (hl:us.length=4)=>match us,hl with | [_,_,_,_],_=>rfl)|(exact λ_ _ _ _ _ _ us (hl:us.length=5)=>match us,hl with | [_,_,_,_,_],_=>rfl)|(exact λ_ _ _ _ _ _ us (hl:us.length=0)=>match us,hl with | [],_=>rfl)):!bt k x ps sp:=cal d ok h
theorem zu(q:Tg P w base)(d:Md K C m qual st)(ok:∀f fd,bp K m qual st f fd->!aj ba k f fd ps sp)(h:∀(kV doc pm:Aa) (an:Option Addr) (aR ct:Aa) (us:ax),us.length=ps.length->bindArgs (PySem.W.fnOf m qual (vI st) (iM st) (bb st) .none kV doc pm an aR ct) #[us,[]]=pure (ps.zip us):=by first|(exact λ_ _ _ _ _ _ us (hl:us.length=1)=>match us,hl with | [_],_=>rfl)|(exact λ_ _ _ _ _ _ us (hl:us.length=2)=>match us,hl with | [_,_],_=>rfl)|(exact λ_ _ _ _ _ _ us (hl:us.length=3)=>match us,hl with | [_,_,_],_=>rfl)|(exact λ_ _ _ _ _ _ us (hl:us.length=4)=>match us,hl with | [_,_,_,_],_=>rfl)|(exact λ_ _ _ _ _ _ us (hl:us.length=5)=>match us,hl with | [_,_,_,_,_],_=>rfl)|(exact λ_ _ _ _ _ _ us (hl:us.length=0)=>match us,hl with | [],_=>rfl)):!bB C k m ps sp:=X3 d ok h
theorem X6(q:Tg P w base)(d:Md K C "__init__" qual st)(hx:mg x=some (.ref C))(mk:PySem.W.makesIn K C=true)(kc:PySem.W.keepIn K (.ref C)=true)(ok:∀f fd,bp K "__init__" qual st f fd->!aj ba k f fd ps sp)(h:∀(kV doc pm:Aa) (an:Option Addr) (aR ct:Aa) (us:ax),us.length=ps.length->bindArgs (PySem.W.fnOf "__init__" qual (vI st) (iM st) (bb st) .none kV doc pm an aR ct) #[us,[]]=pure (ps.zip us):=by first|(exact λ_ _ _ _ _ _ us (hl:us.length=1)=>match us,hl with | [_],_=>rfl)|(exact λ_ _ _ _ _ _ us (hl:us.length=2)=>match us,hl with | [_,_],_=>rfl)|(exact λ_ _ _ _ _ _ us (hl:us.length=3)=>match us,hl with | [_,_,_],_=>rfl)|(exact λ_ _ _ _ _ _ us (hl:us.length=4)=>match us,hl with | [_,_,_,_],_=>rfl)|(exact λ_ _ _ _ _ _ us (hl:us.length=5)=>match us,hl with | [_,_,_,_,_],_=>rfl)|(exact λ_ _ _ _ _ _ us (hl:us.length=0)=>match us,hl with | [],_=>rfl)):!zJ C k x ps sp:=X4 d hx mk kc ok h
variable{l:PySem.W.OpenLaw}{as:ay}
theorem all_mk{fa CS fl fh fr c1 c2:Addr}{X1:Aa}(X:K.In h)(G:h.Ns mainGlobals mg)(hfa:mg "law"=some (.ref fa))(f0:Fd K mg "is_whole" Jp)(f1:Fd K mg "is_whole_within" yE)(f2:Fd K mg "is_name" C3)(f3:Fd K mg "lesser_first" Wt)(f4:Fd K mg "is_pair_of_names" C0)(f5:Fd K mg "sorted_ties" Wr)(f6:Fd K mg "greatest_divisor" TC)(f7:Fd K mg "least_multiple" TB)(f8:Fd K mg "is_hand_with_strength" Dc)(f9:Fd K mg "checked_strengths" Jn)(f10:Fd K mg "checked_ties" CY)(f11:Fd K mg "neighbours_of_all" C1)(f12:Fd K mg "checked_ways" yT)(f13:Fd K mg "checked_piece" WK)(f14:Fd K mg "checked_pieces" Xs)(f15:Fd K mg "checked_stand" WE)(f16:Fd K mg "loads_at" Xw)(f17:Fd K mg "multiple_of_strengths" C4)(f18:Fd K mg "levels_at" Wy)(f19:Fd K mg "is_rule" WG)(f20:Fd K mg Km yD)(f21:Fd K mg "fits" Dg)(f22:Fd K mg "heaviest_move" Jq)(f23:Fd K mg "moves_by_least" XE)(f24:Fd K mg "moves_by_below" Xu)(f25:Fd K mg "share_moves" Jo)(f26:Fd K mg "moves_by_shares" Xj)(f27:Fd K mg "moves_from" Pk)(f28:Fd K mg "ties_anew" Dn)(f29:Fd K mg "first_row_without" YG)(f30:Fd K mg "moves_by_turns" XF)(f31:Fd K mg "moves_seen" wJ)(f32:Fd K mg "checked_start" WJ)(f33:Fd K mg "rows_by" Wn)(f34:Fd K mg "rests_at" XN)(f35:Fd K mg "at_rest" Wp)(f36:Fd K mg "_law_cell_at" Dk)(f37:Fd K mg "_law_mixed" yN)(f38:Fd K mg "_law_state" yI)(f39:Fd K mg Gy yS)(f40:Fd K mg "_law_named" yM)(f41:Fd K mg "_law_web" C8)(f42:Fd K mg "_law_weight" XJ)(f43:Fd K mg "_law_ways" yF)(f44:Fd K mg "_law_goods" Wb)(f45:Fd K mg "_law_world" yC)(f46:Fd K mg "_law_held" C_)(f47:Fd K mg "_law_drop" Di)(f48:Fd K mg "_law_may" C6)(f49:Fd K mg "_law_is_fit" yP)(f50:Fd K mg "_law_heaviest" Jr)(f51:Fd K mg "_law_best" Dm)(f52:Fd K mg "_law_rising" V7)(f53:Fd K mg "_law_by_low" yU)(f54:Fd K mg "_law_by_share" XQ)(f55:Fd K mg "_law_rows" yK)(f56:Fd K mg "_law_by_turn" Wc)(f57:Fd K mg "_law_moves" WN)(f58:Fd K mg "_law_rules" WR)(f59:Fd K mg "_law_due" Dh)(m0:Md K CW "__init__" "Web.__init__" C9)(m1:Md K CW "has_hand" "Web.has_hand" FV)(m2:Md K CW "hands" "Web.hands" yQ)(m3:Md K CW "strength" "Web.strength" Xe)(m4:Md K CW "neighbours" "Web.neighbours" yL)(m5:Md K CW "are_tied" "Web.are_tied" CZ)(m6:Md K CW "ties" "Web.ties" yH)(m7:Md K CW "most_neighbours" "Web.most_neighbours" C5)(m8:Md K CW "turns" "Web.turns" yG)(m9:Md K CG "__init__" "Goods.__init__" yR)(m10:Md K CG "has_piece" "Goods.has_piece" Df)(Ul:Md K CG "names" "Goods.names" WL)(F6:Md K CG "weight" "Goods.weight" Wl)(Uk:Md K CG "may_go" "Goods.may_go" De)(ZU:Md K CS "__init__" "Sight.__init__" yJ)(Uj:Md K CS "lead" "Sight.lead" C7)(ZT:Md K CS "joint_strength" "Sight.joint_strength" yO){ocl _c dcl Zy ctl:Aa}{odl anl:Option Addr}{sll:Array (Option Aa)}{och kVh dch pmh cth:Aa}{odh anh:Option Addr}{slh:Array (Option Aa)}{ocr kVr dcr pmr ctr:Aa}{odr anr:Option Addr}{slr:Array (Option Aa)}(al:W.nsIn K mainGlobals "law"=some (some (.ref fl)))(ll:K.lookup fl=some #[ocl,odl,.func (W.fnOf "law" "law" (vI ip) (iM ip) (bb ip) .none _c dcl Zy anl X1 ctl),sll])(cl:W.codeIn K X1 "law"=true)(kl:W.keepIn K (.ref fl)=true)(ah:W.nsIn K mainGlobals BY=some (some (.ref fh)))(lh:K.lookup fh=some #[och,odh,.func (W.fnOf BY BY (vI iY) (iM iY) (bb iY) .none kVh dch pmh anh (.ref c1) cth),slh])(hE:W.codeIn K (.ref c1) BY=true)(kh:W.keepIn K (.ref fh)=true)(h1:W.codeHdIn K c1 T1=true)(aW:W.nsIn K mainGlobals "Web"=some (some (.ref CW)))(aG:W.nsIn K mainGlobals "Goods"=some (some (.ref CG)))(aS:W.nsIn K mainGlobals "Sight"=some (some (.ref CS)))(ar:W.findIn K (.ref CS) Kq=some (some (.ref fr)))(ir:W.isFn K (.ref fr)=true)(lr:K.lookup fr=some #[ocr,odr,.func (W.fnOf Kq "Sight.rising_neighbours" (vI EY) (iM EY) (bb EY) .none kVr dcr pmr anr (.ref c2) ctr),slr])(rcd:W.codeIn K (.ref c2) "Sight.rising_neighbours"=true)(kr:W.keepIn K (.ref fr)=true)(h2:W.codeHdIn K c2 T2=true)(c8_:W.nsIn K mainGlobals "MOST_LETTERS"=some (some (.int 8 t8)))(c9_:W.nsIn K mainGlobals "MOST_HANDS"=some (some (.int 8 t9)))(YK:W.nsIn K mainGlobals "MOST_STRENGTH"=some (some (.int 1000 Te)))(YJ:W.nsIn K mainGlobals "MOST_WEIGHT"=some (some (.int 1000000000 Td)))(wpg:W.plainGet K CW Str.empty=true)(whd:W.hasDictIn K CW=true)(wpo:W.plainOver K CW=true)(wsa:W.findIn K (.ref CW) "__setattr__"=some (some (.builtin "object.__setattr__")))(wmk:W.makesIn K CW=true)(wkc:W.keepIn K (.ref CW)=true)(wn0:W.findIn K (.ref CW) E1=some none)(wn1:W.findIn K (.ref CW) "sorted_pairs"=some none)(wn2:W.findIn K (.ref CW) Kl=some none)(gpg:W.plainGet K CG Str.empty=true)(ghd:W.hasDictIn K CG=true)(gpo:W.plainOver K CG=true)(gsa:W.findIn K (.ref CG) "__setattr__"=some (some (.builtin "object.__setattr__")))(gmk:W.makesIn K CG=true)(gkc:W.keepIn K (.ref CG)=true)(gn0:W.findIn K (.ref CG) "web"=some none)(gn1:W.findIn K (.ref CG) BP=some none)(gn2:W.findIn K (.ref CG) Ks=some none)(spg:W.plainGet K CS Str.empty=true)(shd:W.hasDictIn K CS=true)(spo:W.plainOver K CS=true)(ssa:W.findIn K (.ref CS) "__setattr__"=some (some (.builtin "object.__setattr__")))(smk:W.makesIn K CS=true)(skc:W.keepIn K (.ref CS)=true)(sn0:W.findIn K (.ref CS) "wares"=some none)(sn1:W.findIn K (.ref CS) jb=some none)(sn2:W.findIn K (.ref CS) AK=some none)(sn3:W.findIn K (.ref CS) Kr=some none)(iha:W.findIn K (.ref CW) "__class__"=some (some (.builtin "object.__class__")))(ihn:W.specialIn K (.builtin "object.__class__") "__get__"=some (some (.builtin "getset_descriptor.__get__")))(itk:W.takesIn K (.builtin "object.__class__")=some true)(imo:W.mroIn K CW (.type "object")=some true)(z0:W.nsIn K mainGlobals "isinstance"=some none)(z1:W.nsIn K mainGlobals "int"=some none)(z2:W.nsIn K mainGlobals "bool"=some none)(z3:W.nsIn K mainGlobals "str"=some none)(z4:W.nsIn K mainGlobals "tuple"=some none)(z5:W.nsIn K mainGlobals "list"=some none)(z6:W.nsIn K mainGlobals "dict"=some none)(z7:W.nsIn K mainGlobals "len"=some none)(z8:W.nsIn K mainGlobals "all"=some none)(z9:W.nsIn K mainGlobals "sorted"=some none)(z10:W.nsIn K mainGlobals "max"=some none)(z11:W.nsIn K mainGlobals "range"=some none)(z12:W.nsIn K mainGlobals "any"=some none)(z13:W.nsIn K mainGlobals "enumerate"=some none)(z14:W.nsIn K mainGlobals "min"=some none)(z15:W.nsIn K mainGlobals "abs"=some none)(R:RJ K w mg d as) :
  ∃fd:Ae,(∀(s:Ab) (v:Aa),BindsTo s fd #[[v],[]] [(Gv,v)])/\(∀T'∈[T2,T1],isCodeTable h T')/\∀base:Heap,K.In base->base.Ns mainGlobals mg->(∀T'∈[T2,T1],base.BuiltinsAt mg T')->aj l.prog w K mg base ba 11 fa fd [Gv] (zW K T1 T2):=by
 let e:=hfa.symm.trans (W.mg_of X G al);cases e;have B:Bi mg:=#[xX X G z0,xX X G z1,xX X G z2,xX X G z3,xX X G z4,xX X G z5,xX X G z6,xX X G z7,xX X G z8,xX X G z9,xX X G z10,xX X G z11,xX X G z12,xX X G z13,xX X G z14,xX X G z15];have TW:Txt K mg CW:=#[#[wpg,whd,wpo,wsa],wn0,wn1,wn2];have TG:eE K CG:=#[#[gpg,ghd,gpo,gsa],gn0,gn1,gn2];have TS:gP K CS:=#[#[spg,shd,spo,ssa],sn0,sn1,sn2,sn3];have IW:Qh K CW:=#[iha,ihn,itk,imo];let FL:=VC (st:=ip) ll cl kl;have FH:xA K BY BY iY fh c1 _:=#[#[_,_,_,_,_,_,_,_,Z,lh,hE],kh];have FR:xA K Kq "Sight.rising_neighbours" EY fr c2 _:=#[#[_,_,_,_,_,_,_,_,Z,lr,rcd],kr];apply#[W.fnOf "law" "law" (vI ip) (iM ip) (bb ip) .none _c dcl Zy anl X1 ctl,λs v=>.of_eq Z,λT' Lv=>?_,λbase KB _ DX=>?_]
 ·have cd:∀{c T0:Addr},W.codeHdIn K c T0=true->isCodeTable h T0:=λ{c _} z=>by
   let#[o,Qk,file,tf,flags,tg,inF,text,tt,q1,q2,q3,q4,_]:=W.codeHd_of_K X z;exact#[c,o,Qk,q1,q2,q3,q4]
  have Lv:T'=T2∨T'=T1:=by simpa using Lv
  rcases Lv with rfl|rfl
  ·exact cd h2
  ·exact cd h1
 have q:Tg l.prog w base:=⟨⟩;let Yn:=bY q f0 λ_ _ F=>lL_ F B;let Ef:=bY q f1 λ_ _ F=>iJ_ F Yn;let Eg:=bY q f2 λ_ _ F=>kz_ F B (W.mg_of X G c8_);let KJ:=bY q f3 λ_ _ F=>hX_ F;let PR:=bY q f4 λ_ _ F=>ln_ F B Eg;let Ic:=bY q f5 λ_ _ F=>hn_ F B PR KJ;let PX:=bY q f8 λ_ _ F=>ls_ F B Eg Ef (W.mg_of X G YK);let cStr:=bY q f9 λ_ _ F=>lO_ F B PX (W.mg_of X G c9_);let PQ:=bY q f10 λ_ _ F=>km_ F B Ic;let PU:=bY q f11 λ_ _ F=>kP_ F KJ;let X7:=X6 q m0 (W.mg_of X G aW) wmk wkc λ_ _ F=>l0_ F TW B cStr PQ PU;let JF:=zu q m1 λ_ _ F=>lH_ F TW B;let Nw:=zu q m1 λ_ _ F=>ks_ F TW B;let pM:=zu q m2 λ_ _ F=>jv_ F TW B;let F5:=zu q m3 λ_ _ F=>fg_ F TW JF;let Nv:=zu q m4 λ_ _ F=>iw_ F TW B JF;let Ho:=zu q m5 λ_ _ F=>iy_ F TW Nw;let YA:=bY q f12 λ_ _ F=>jh_ F TW Ic Ho;let cCP:=bY q f13 λ_ _ F=>h7_ F B Eg Ef YA (W.mg_of X G YJ);let YB:=bY q f14 λ_ _ F=>gA_ F B cCP;let KL:=X6 q m9 (W.mg_of X G aG) gmk gkc λ_ _ F=>j6_ F TG TW IW B (W.mg_of X G aW) YB;let Kb:=zu q m10 λ_ _ F=>kR_ (CW:=CW) F TG B;let Ka:=zu q Ul λ_ _ F=>hT_ (CW:=CW) F TG B;let ig:=zu q F6 λ_ _ F=>gr_ (CP:=CW) F TG Kb;let OR:=zu q Uk λ_ _ F=>kY_ (CP:=CW) F TG TW Kb Ho KJ;let Yt:=bY q f6 λ_ _ F=>ml_ F;let cLM:=bY q f7 λ_ _ F=>mi_ F Yt;let cCS:=bY q f15 λ_ _ F=>hx_ F B TG TW Kb JF Ka;let Se:=bY q f16 λ_ _ F=>gb_ F B TG TW pM ig;let cMu:=bY q f17 λ_ _ F=>lj_ F TW cLM pM F5;let Yi:=bY q f18 λ_ _ F=>hi_ F TG TW Se cMu F5;have Yr:bt l.prog w K mg base 6 BY Ea (Ac K CG CW T1):=#[_,_,m4_ FH B TG TW (W.codeHd_of_K KB h1) (DX T1 Z2) pM ig,W.mg_of X G ah,kh,FH.fn.binds (λ_ _ _ _ _ _ us (hl:us.length=2)=>match us,hl with | [_,_],_=>rfl)];let KI:=X6 q ZU (W.mg_of X G aS) smk skc λ_ _ F=>jc_ F TS Se Yi Yr;let Qt:=zu q Uj λ_ _ F=>kF_ F TS TG TW F5;let Zq:=zu q ZT λ_ _ F=>jo_ F TS TG TW F5;have Zp:bB l.prog w K mg base CS 4 Kq vL (O5 K CS CG CW T2):=#[_,_,kx_ FR B TS TG TW (W.codeHd_of_K KB h2) (DX T2 Z2) Nv,#[ar,ir,kr],FR.fn.binds (λ_ _ _ _ _ _ us (hl:us.length=2)=>match us,hl with | [_,_],_=>rfl)];let cIR:=bY q f19 λ_ _ F=>h6_ F B R;let Sb:=bY q f20 λ_ _ F=>js_ F R cIR;let cFi:=bY q f21 λ_ _ F=>lh_ F;let Yq:=bY q f22 λ_ _ F=>lA_ F TS TG Qt Zq cFi ig OR;let cBL:=bY q f23 λ_ _ F=>gw_ F TS Zp Yq;let cBB:=bY q f24 λ_ _ F=>gu_ F TS Zp Qt Yq;let mMo:=zu q m7 λ_ _ F=>lr_ F TW B;let Yb:=bY q f25 λ_ _ F=>ma_ F TS TG TW Qt Zq mMo ig OR;let cBS:=bY q f26 λ_ _ F=>fk_ F TS TG TW Nv Qt Yb;let cMF:=bY q f27 λ_ _ F=>gI_ (gC_ F cBL) (gg_ F cBB) (gx_ F cBS);let cAn:=bY q f28 λ_ _ F=>le_ F;let mTi:=zu q m6 λ_ _ F=>j9_ F TW cAn;let Yd:=bY q f29 λ_ _ F=>lC_ F B;let ZR:=zu q m8 λ_ _ F=>iU_ F B TW mTi Yd;let cBT:=bY q f30 λ_ _ F=>gi_ F B TS TG TW ZR Yq;let Yc:=bY q f31 λ_ _ F=>jt_ (lb_ F TS TG TW (λr z=>z) VQ Sb pM cMF) (jl_ F Sb cBT);let X_:=bY q f32 λ_ _ F=>h4_ F Sb cCS;let cRB:=bY q f33 λ_ _ F=>gS_ F B TW Sb ZR;let cRA:=bY q f34 λ_ _ F=>iZ_ F B TG KI Yc cRB;let Yf:=bY q f35 λ_ _ F=>jn_ F X_ cRA;let P0:=bY q f36 λ_ _ F=>ky_ F B;let cMx:=bY q f37 λ_ _ F=>iT_ F;let X9:=bY q f38 λ_ _ F=>iO_ F;let Bw:=bY q f39 λ_ _ F=>jB_ F cMx;let cNm:=bY q f40 λ_ _ F=>jw_ F B Bw;let cLW:=bY q f41 λ_ _ F=>kH_ F B Bw cNm;let cWt:=bY q f42 λ_ _ F=>gF_ F Bw;let cWy:=bY q f43 λ_ _ F=>iX_ F B Bw;let Ys:=bY q f44 λ_ _ F=>ig_ F B Bw cNm cWt cWy;let X8:=bY q f45 λ_ _ F=>iA_ F B;let Yp:=bY q f46 λ_ _ F=>l1_ F B;let Yx:=bY q f47 λ_ _ F=>kg_ F;let cMa:=bY q f48 λ_ _ F=>kS_ F;let cIF:=bY q f49 λ_ _ F=>j3_ F;let cHL:=bY q f50 λ_ _ F=>lJ_ F B;let cBe:=bY q f51 λ_ _ F=>kd_ F Yx Yp cMa cIF cHL;let cRi:=bY q f52 λ_ _ F=>hw_ F B Yx Yp;let cBy:=bY q f53 λ_ _ F=>jy_ F cRi cBe;let YE:=bY q f54 λ_ _ F=>gn_ F B Yx Yp cMa cHL;let cRw:=bY q f55 λ_ _ F=>jz_ F B;let YC:=bY q f56 λ_ _ F=>hC_ F B cRw cBe;let Yk:=bY q f57 λ_ _ F=>hg_ F B YC YE cBy;let Ye:=bY q f58 λ_ _ F=>i0_ F;let Yw:=bY q f59 λ_ _ F=>kE_ F B cRw Yk;exact lP_ FL B P0 X9 Bw cLW Ys X8 Ye Yw X7 KL Yf
theorem hO_(h:H T=some (.tbl #[])):d8 H T q:=#[[],h,λe he=>by cases he]
theorem walk{q:Ad}{loose:ae}{XP:(Str->Option Aa)->Heap->Prop}{d:DefRec}{K:Params->af}{Rr:∀P:Params,as=(K P).map (·.1)}(hn:l.most=some 63)(xb:d.params.defaults=[])(UX:([T2,T1].all λT=>!as.contains T)=true)(ne:T1≠T2)(F:∀(w:Af) (mg:Str->Option Aa) (fa:Addr) (h:Heap),(K w.params).In h->h.Ns mainGlobals mg->mg d.name=some (.ref fa)->
   ∃fd:Ae,(∀(s:Ab) (u:Aa),BindsTo s fd #[[u],[]] [(Gv,u)])/\(∀T'∈[T2,T1],isCodeTable h T')/\∀base:Heap,(K w.params).In base->base.Ns mainGlobals mg->(∀T'∈[T2,T1],base.BuiltinsAt mg T')->aj l.prog w (K w.params) mg base ba 11 fa fd [Gv] (zW (K w.params) T1 T2)) :
  PySem.W.WalkO q loose XP (PySem.W.kmHook K as Rr [T2,T1]).says l.row.toRowW d [] (λf vs=>PySem.call f vs):=
 L2.Cb (n:=63) (k:=11) (x:=Gv) (CX:=λ_=>ba) (sp:=λw=>zW (K w.params) T1 T2) hn (by decide) xb #[Z,by decide,by decide] UX F (λ_ _ a ns hl hT hS=>#[a,ns,Z,#[hO_ (hT T1 Z2),hO_ (hT T2 Z2),ne],hS,hl,λ_=>rfl]) λ_ _ _ _ _ z=>z
end Ev
namespace PySem.W.Fast
universe tw10235254612925434144 tw2116522884780695873 tw2974259751074960161 tw12611272420118989986 tw1007894885219084706 tw6206188612616771171 tw17941962445194285348 tw15806279907725450533 tw16548378277525145990 tw12307786257551965766 tw11674615974542454919 tw17575795634370157032 tw7285710535553541096 tw8714427685401900363 tw12121225955091822604 tw3562711311803444493 tw1751602161729725933 tw8370099526022318829 tw15106285509208046062 tw2153707018763745966 tw1942457913359332463 tw16322099121923463599 tw2721688882345073202 tw8693573107126300212 tw13248921358102571445 tw13557872851626037141 tw18144427751409451223 tw2948695566633318935 tw18073124244769015864 tw9845235409858138584 tw3617429278869537913 tw14434762992236141081 tw17123201950720064281 tw8710419597642373402 tw4672389023499375098 tw16487227286470460731 tw12504931382426215452 tw2714396266405875452 tw1711372483597060477 tw12345323756527066077 tw15419211404976113535 tw2670905380726538854 tw7993540966113743036 tw13971300655665145997 tw12696861130153403015 tw17550085006910913856 tw4758752352504039410 tw6682544621300687603 tw5028585633867559859 tw7159270284720558546 tw6056494510155889910 tw16405875206530347416 tw4511193629305343518 tw3521681491211922410 tw13524663416395286709 tw15559391414534902001 tw13797113999361570365 tw7411059298338574567 tw14192254079765755678 tw9880985505591520557 tw4411306391486408001 tw15625452819269869424 tw4751845087878386845 tw12138968613214131521 tw7476371570902971246 tw7454041217629162157 tw5253338276569855558 tw8043981665565976370 tw13273369273551870333 tw17335474139798017406 tw341145786391354560 tw5900780019517183162 tw10147615729462725135 tw14541365926217681774 tw17981596355486563496 tw6398587112882516742 tw11979851678210948944 tw17179212388892236429 tw7509765199803222927 tw16134716054643364596 tw18348007110160636989 tw10203169188872735919 tw16621986513006761515 tw3314326303225812764 tw8548609345827223693 tw9900540774858717689 tw1841111194029482492 tw13351119006401989927 tw11152507161777064631 tw1054772680025708042 tw10036701648239525594 tw7226465820370740749 tw14369229004465280319 tw1563848325376721564 tw13189853611601140833 tw13192426632210085209 tw12463581361316176742 tw7427166017594446962 tw4612571282538443148 tw17205610631624604363 tw1915075516474860576 tw6835597902058352227 tw9812216818253650310 tw130227020220245842 tw4466362651678300547 tw10568475704449477244 tw17064554911788016671 tw15262920353937539274 tw6474374218555034807 tw9858091841409955842 tw4599383218899045544 tw11849362139300157742 tw996397658854310591 tw3380995439351235647 tw6093985689375091997 tw3022445672820245189 tw3264215474461581723 tw3526863382499331140 tw16462352117169578374 tw5978704742565480997 tw10073362703709649349 tw15825074402072464284 tw2961494619393068985 tw1902961407320632303 tw15927578558368457663 tw11082240745076053505 tw476104061443439701 tw11532641739829924859 tw11293076159385198280 tw2995829379207973658 tw1499057907471327805 tw2664717108280481836 tw15010242641092614716 tw11631638009358814293 tw13965445795243289996 tw17817351887096035544 tw17224719943420175044 tw13458932243038474702 tw1546406473243325242 tw2187544414151469413 tw7302709903504552134 tw5903096088228135760 tw11699491830260394833 tw10068681214812706885 tw6270696320842470895 tw12188815916734923513 tw4615922972363452109 tw8043176905408847686 tw3922983660648884698 tw11553632453218180642 tw1906465273084254744 tw15899119641477159674 tw14064798393763213378 tw13752926069714704507 tw4172867973139483804 tw14811192734081937523 tw7148731739007855488 tw4109248194496006951 tw13797423000000864260 tw665010318569799713 tw2854401937719652198 tw17505701280910970971 tw17646618525824864658 tw12206903807417783253 tw236037696528206490 tw8580649576525416657 tw10016824794521183016 tw4466197010444462658 tw224162829554166810 tw2102175381641492370 tw14033388741797524994 tw11381601709365950073 tw2561915752380631750 tw4967655468173510332 tw14359023405076021952 tw12872234884076841179 tw3636525919186119534 tw12954242209251014364 tw12256112341702944474 tw7500953975238612198 tw1636021952719553097 tw11146940932872994030 tw666253018371890084 tw10858255563512533700 tw6378632568158459302 tw8258717123714653236 tw4376392726711297092 tw9355684847300368424 tw7721319569934284069 tw11347734478562301133 tw7534374168448628880 tw5491300004462759112 tw9421554843999485447 tw9143279209941102667 tw16586441378314264075 tw10124186789444451001 tw2894035993322312515 tw14471325805767508379 tw12004310971423584478 tw2625216991785345326 tw12796686381350892441 tw18171723095387834530 tw13207952395938537124 tw17087765078153774963 tw7474157681580366994 tw11129068373163456882 tw10870759133370708579 tw15220832199280482436 tw10831137884555816770 tw13412466077914229313 tw1377039211882173267 tw13104418634952916247 tw3165913617830492402 tw8648070680188807190 tw11689382061231458105 tw7351091050664217122 tw2166223619220619956 tw13997597771334741049 tw1372990395606670805 tw11580513385056895995 tw7140864451596627465 tw11747008574947197193 tw14763213971301193153 tw7078573913521319842 tw11150141220857910536 tw15574145863661632372 tw233116730373108358 tw11978778624523505044 tw12202462842382893466 tw1203176595896979856 tw4575676058381311495 tw16627095972488904165 tw6918843554860226005 tw11320167416586107181 tw9928431772595389462 tw8184419103580358890 tw1832608342398084639 tw17868646668689295114 tw7074326413887413182 tw16213825627479817060 tw11268447752757526337 tw2260891611042410229 tw12324448882337862101 tw16303086954555866666 tw14903018191302532138 tw12076722352702131870 tw15704454236057822876 tw2000492188509784941 tw6639822667975103241 tw10011466252442291771 tw4732453515584972809 tw756743312587658130 tw13879704240064139747 tw81445654022383194 tw6761042162297998983 tw17346023740080371519 tw331206688872148818 tw5199196598889096257 tw9293846488480874163 tw2960048313869442640 tw5914407034619755369 tw13452187492531372955 tw3979913938800744907 tw17871209735835125845 tw5700866074451943083 tw14328068639436213022 tw9727983586006402868 tw321884884507510470 tw622431200072807098 tw5513854170235820945 tw8104841248275742466 tw12289007866616696543 tw6453135268082307105 tw15219960846443233341 tw13000424165203738363 tw10866937718160515801 tw7694294107552749518 tw1098470228287224090 tw308719987208398007 tw3669311066532562610 tw5841958450903100442 tw5388312604549568599 tw16753235813268769665 tw2776404266656228015 tw12269946425612164673 tw6752853183458336180 tw11568671642663071808 tw847711916736511525 tw312881346805706133 tw11445180207043069944 tw11397501622250905493 tw7323549958488848848 tw3872693538868996657 tw18358486727568065069 tw11852045181420845879 tw12159980118925754329 tw12338686452809933563 tw9162091454063105299 tw4460924198694318248 tw11672897942945575113 tw11934761701316999355 tw17359734499186896912 tw7838310051708830879 tw110513459823356498 tw12516032461811192224 tw11019912519596278853 tw10812274805225859339 tw2315127793749695805 tw11957461387067441837 tw2262137665121930914 tw13767516557353524020 tw14929707412915661652 tw6263207671231972594 tw6301077160863304805 tw13042196942406463596 tw5865455647219553013 tw8398381582067200207 tw8115275896632799218 tw10220400738243229078 tw6443084727629369059 tw5033069835725004581 tw3674389998544675249 tw17957566547190618144 tw5366044670371812883 tw11142125916485218820 tw3163918342352097634 tw3993185902114366709 tw7358237078224445316 tw5527635541026506705 tw13811362720425523425 tw1752074687231151300 tw10213859064877366692 tw2890546244334804890 tw12505959927190200763 tw5146318908324938302 tw11082985193058647644 tw4746092767780972979 tw3267422611922876347 tw11183132368812591359 tw4295745377772918041 tw16576172607167825410 tw5485735589673769389 tw378488999511324537 tw7523338683527870601 tw17216884947466812326 tw15061456410848931732 tw2584572694225363991 tw411585533580388384 tw9028175786082102686 tw11024045598853112590 tw4156034987685745763 tw6089646445825666960 tw2976400189168074218 tw4217432928502266587 tw1401122610858183495 tw9350543477852220236 tw11397545026020272217 tw1947253443520527540 tw1991364623297924077 tw3247333991172046961 tw6991505267826185900 tw11276993523964599143 tw13131985398794862507 tw6202302951506078674 tw12051859497803033073 tw17050489075660407899 tw13770957755705668446 tw17389638899411923186 tw17328130990455514086 tw18201093990071944021 tw1807824118020581984 tw15297966551263804082 tw9749334571841190468 tw4535998311476937593 tw12499693275363604593 tw10511067982950007446 tw12651833447010689162 tw14762960526081108407 tw8554980290312279360 tw12393342139074682794 tw4570840118926440326 tw7612582492850578769 tw6325589732124773997 tw15001962015865873166 tw16685101299815804638 tw12493060994200862081 tw13985294217024338094 tw15494884211356374441 tw10726402718198220969 tw9913572582404261975 tw2799190819690151728 tw4522624441589337776 tw10635787567034830960 tw14963437530811921989 tw16778808393547241035 tw11238934076436635746 tw16530139301006652823 tw17014597613693243221 tw15699152780524735420 tw8478509229984025170 tw1558637683398447288 tw5964199480919220503 tw10206538941755906646 tw2108909975752138023 tw7555660208566934869 tw4714945718978956607 tw1715350115457832554 tw9659059550220034795 tw2457472495885001817 tw15178969409565868088 tw1133291332046304449 tw2950130003417451771 tw3896885711205901062 tw1364581453252580462 tw18176345829662244711 tw7846711830460420397 tw10504604459996278536 tw11891837110062688028 tw17889134000888443246 tw5043990642236619827 tw9516158170884619576 tw10068134054671686245 tw14743270548362961124
end PySem.W.Fast
open PySem PySem.W PyProof.Rows
set_option maxRecDepth 100000 in
local macro_rules|`(%[|$k:num])=>let i:=Lean.mkIdent;if k.getNat==1 then`(Ev.OX $(i `KX) $(i `G) ?_ ?_ ?_ ?_)else`(Ev.Nu ?_ ?_ ?_ ?_ ?_)
theorem PySem.Challenge.cw_evenpieces_k31_rest_is_no_move_holds : PySem.Challenge.rw_evenpieces_k31_rest_is_no_move.Holds := by
 w_on;o_law;k_head;(case hw=>w_witness2)
 k_fill
 apply Ev.walk (l:=PySem.Challenge.rw_evenpieces_k31_rest_is_no_move) rfl rfl (by rfl) (by decide) ?F
 case F=>
  intro w mg fa h KX G hmg;refine' Ev.all_mk KX G hmg %[|1] %[|1] %[|1] %[|1] %[|1] %[|1] %[|1] %[|1] %[|1] %[|1] %[|1] %[|1] %[|1] %[|1] %[|1] %[|1] %[|1] %[|1] %[|1] %[|1] %[|1] %[|1] %[|1] %[|1] %[|1] %[|1] %[|1] %[|1] %[|1] %[|1] %[|1] %[|1] %[|1] %[|1] %[|1] %[|1] %[|1] %[|1] %[|1] %[|1] %[|1] %[|1] %[|1] %[|1] %[|1] %[|1] %[|1] %[|1] %[|1] %[|1] %[|1] %[|1] %[|1] %[|1] %[|1] %[|1] %[|1] %[|1] %[|1] %[|1] %[|2] %[|2] %[|2] %[|2] %[|2] %[|2] %[|2] %[|2] %[|2] %[|2] %[|2] %[|2] %[|2] %[|2] %[|2] %[|2] %[|2] ?_ ?_ ?_ ?_ ?_ ?_ ?_ ?_ ?h1 ?aW ?aG ?aS ?_ ?_ ?_ ?_ ?_ ?h2 ?_ ?_ ?_ ?_ ?_ ?_ ?_ ?_ ?_ ?_ ?_ ?_ ?_ ?_ ?_ ?_ ?_ ?_ ?_ ?_ ?_ ?_ ?_ ?_ ?_ ?_ ?_ ?_ ?_ ?_ ?_ ?_ ?_ ?_ ?_ ?_ ?_ ?_ ?_ ?_ ?_ ?_ ?_ ?_ ?_ ?_ ?_ ?_ ?_ ?_ ?_ ?_ (Ev.rules_at ?rm ?rs ?rl ?re ?_ ?_ ?_ ?_ ?_ ?_ ?_ ?_ ?_ ?_ ?_ ?_ ?_ ?_ ?_ ?_ ?_)
  (case aW=>k_is);(case aG=>k_is);(case aS=>k_is)
  any_goals k_is
  (case h1=>kernel_rfl);(case h2=>kernel_rfl)
  case' rm=>refine' PySem.W.mg_of KX G ?rmn
  (first|(case rmn=>k_is)|(case rm=>k_is))
  (try (case rl=>k_is))
  (case rs=>rfl)
  (case re=>rfl)
  any_goals k_is

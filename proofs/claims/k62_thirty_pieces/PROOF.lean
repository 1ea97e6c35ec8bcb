import PyProof.Rows.All
import Wide.All
import OpenK.AllK
import Wide.FinOn
import Lean
import PyProof.EqAt
import PyProof.EqKinds
import PyProof.TupleCall
import PyProof.Rows.SeqMore
import KE.KLam
import KE.KSortTup
import PyProof.FitsReplace
import KE.KEqDict
import PyProof.NeKinds
import PySem.Challenge.RW_evenpieces_k62_thirty_pieces
set_option maxHeartbeats 0
set_option Elab.async false
set_option linter.all false
noncomputable section
local macro_rules|`(inductive $x:declId $a*:$t|k:$c)=>if t.raw.getId==`Sp then let i:=Lean.mkIdent;`(inductive $x:declId $a* ($(i `vs):ident:$(i `ag)) ($(i `H):ident:$(i `Hp)) ($(i `Q):ident:$(i `VK)) ($(i `E):ident:$(i `XK)):Prop|$(i `mk):ident:$c)else Lean.Macro.throwUnsupported
local macro_rules|`(!$f:ident $a*)=>if f.getId==`In then let i:=Lean.mkIdent;`($(i `Inv) $(i `X) $(i `π) $(i `σ) $a*)else Lean.Macro.throwUnsupported
local macro_rules|`(def $x:declId $s:optDeclSig $v:declVal)=>if"A1 AP AQ AS AX AZ Ax Ay BD BT BV Bd BdW Be Bh Bm Bn Bo Bp Bq Br Bs Bv Bw CE CR C_ Cb Ci DG DH DL DY DZ Dc Dh Dj Down Dv Dx E2 EM EP EU EY Eb Ec Ed Ee Ends.gone FN FO FP Fk Fl Fq Fs GJ GK GN GR GT GV Gg Gh Gi Gj Gl Gm Gn Good Gp Gq Gr Gs Gu Gv Gw Gx Gy HP HQ HS HU Hj Ic Ie Ig Ih Ii Itm Itv J7 K2 K3 K4 K5 K6 K7 KV Ke Kf Kg Kk Ks Kx Ky L8 Lc Loc Look MR MtR N4 N8 NN NT Nk Nl O0 OA OB OC OU OZ Ob Oi Ok Ov Ow Ox Oy Oz PA PC PE PG PI PIE PK PO PS PT PW PcY Qi Qr RI RM Raw Rd RelV SB SP Si SlR So TL TP Th Tl TrE U0 U1 U2 U5 U6 UO UP UQ UR US UT UW UX UZ Up VB VR Vw Vz WE XP ZL ZS _n a9 aB aL aM aN aO aP aa apart bK bO bZ bf bj cB cU cu cy d5 d8 dA dM dP dQ dR dU dX dY dc dg di eB eD eG eN eX eY ee fA fJ fe fg fq gF gI gM gP gY gZ gi gm gx h_ hit i5 iB iC iN iQ ip iw iy iz j7 j9 jC jD jE jJ jV jX ja ji jw kA kF kG kH kM kN kO kQ kR kT kV kX ki ku lF lH lQ lS ld mh mj nF nI nK nO nQ near oQ oU oV oh oq ou ow p5 pF pU putK qH qM qU qW qX qY qZ q_ qb qg qu qv qz r2 rD rE rEq rJ rL rNe rO rS rZ rg rh rl sP sU start strOf tB tC tE tF tIf tJ tL tM tN tO tOr tP tQ tR tS tSl tT tU tUn tj tm top turnsOf uR upd vP vR va wA wB wC wD wN wR xF xG xH xI xt xy yF yQ yX yY ye zE zF zH zI zM zO zP zR zX zZ zi zj zk zu".splitOn.contains (x.raw[0].getId.toString (escape:=false)) then`(noncomputable def $x:declId $s:optDeclSig $v:declVal)else`(theorem $x:declId $(⟨.node .none ``Lean.Parser.Command.declSig #[s.raw[0],s.raw[1][0]]⟩):declSig $v:declVal)
local macro_rules|`(abbrev $x:declId $s:optDeclSig $v:declVal)=>`(noncomputable abbrev $x:declId $s:optDeclSig $v:declVal)
local macro_rules|`(universe $x*)=>return Lean.mkNullNode (←x.mapM λa=>let n:=(a.getId.toString.toList.drop 1).foldl (λn c=>n*62+c.toNat-(if c.isDigit then 48 else if c.isLower then 87 else 29)) 0;let b:=Lean.mkIdent (.mkSimple s!"tw{n}");do return(←`(theorem $b:ident:True:=⟨⟩)).raw)
abbrev Xa:=List (PySem.Str × Int)
abbrev Xb:=List (PySem.Str × PySem.Str)
set_option compiler.extract_closed false
set_option maxRecDepth 100000
def au:type_of% @PySem.wpAny_bind:=@PySem.wpAny_bind
def b_:type_of% @PySem.Heap.get?_push_of_some:=@PySem.Heap.get?_push_of_some
abbrev Aa:=PySem.Value
abbrev Ab:=PySem.Shared
def bG:type_of% @PySem.Paired.length:=@PySem.Paired.length
def bu:type_of% @PySem.wpAny_pure:=@PySem.wpAny_pure
def c7:type_of% @Option.some.inj:=@Option.some.inj
def cj:type_of% @decide_eq_true:=@decide_eq_true
abbrev Ad:=PySem.Program
def eL:type_of% @PySem.Heap.get?_push_size:=@PySem.Heap.get?_push_size
abbrev Ae:=PySem.FuncData
def bW:type_of% @PySem.Heap.lt_size:=@PySem.Heap.lt_size
def aA:type_of% @if_neg:=@if_neg
def aF:type_of% @if_pos:=@if_pos
def d7:type_of% @decide_eq_false:=@decide_eq_false
def cX:type_of% @PySem.sizeLine_eq:=@PySem.sizeLine_eq
def jI:type_of% @PySem.F.plainAttrs_list:=@PySem.F.plainAttrs_list
def je:type_of% @PySem.Heap.get?_update_other:=@PySem.Heap.get?_update_other
def fV:type_of% @PySem.PassesOwn.never:=@PySem.PassesOwn.never
abbrev Af:=PySem.World
abbrev Ag:=PySem.Around
def jY:type_of% @PySem.W.mg_none_of:=@PySem.W.mg_none_of
def dH:type_of% @congrArg:=@congrArg
def xq:type_of% @PySem.F.type_list_append:=@PySem.F.type_list_append
def xo:type_of% @PySem.F.slot_list_append:=@PySem.F.slot_list_append
def jH:type_of% @PySem.boot_len:=@PySem.boot_len
def qT:type_of% @PySem.mem_of_lookup:=@PySem.mem_of_lookup
def jG:type_of% @PySem.W.mg_of:=@PySem.W.mg_of
def gX:type_of% @Sum.inr.inj:=@Sum.inr.inj
def gD:type_of% @PySem.wpAny_mono:=@PySem.wpAny_mono
def rX:type_of% @PySem.wpAny_loadPart':=@PySem.wpAny_loadPart'
def DE:type_of% @PySem.F.excBase_ValueError:=@PySem.F.excBase_ValueError
def vW:type_of% @PySem.wpAny_truthy_bool:=@PySem.wpAny_truthy_bool
def vV:type_of% @PySem.wpAny_newObj_type:=@PySem.wpAny_newObj_type
def DD:type_of% @PySem.F.type_list_extend:=@PySem.F.type_list_extend
def DC:type_of% @PySem.F.slot_list_extend:=@PySem.F.slot_list_extend
def rW:type_of% @PySem.W.kia_one:=@PySem.W.kia_one
def pV:type_of% @PySem.wpAny_holding:=@PySem.wpAny_holding
def DB:type_of% @decide_eq_false_iff_not:=@decide_eq_false_iff_not
def zd:type_of% @of_decide_eq_true:=@of_decide_eq_true
def Du:type_of% @PySem.Heap.get?_update_self:=@PySem.Heap.get?_update_self
def Z0{p:Prop}[Decidable p](h:decide p=true:=by decide +kernel):p:=of_decide_eq_true h
def Z1{p:Prop}(h:p:=by omega):p:=h
def Z2{p:Prop}(h:p:=by simp):p:=h
local macro_rules|`(tactic|let $x:ident:=$e)=>`(tactic|have $x:ident:=$e)
local macro_rules|`($a\$b)=>`($a=some $b)
local macro_rules|`(⇑$h)=>`(by simpa using $h)
local macro_rules|`(tactic|exists $e)=>let i:=Lean.mkIdent;`(tactic|refine $e λ$(i `aC) $(i `A) $(i `outer) $(i `s) $(i `H) $(i `vs) $(i `Q) $(i `E) $(i `hr) $(i `h)=>?_)
local macro_rules|`(section v)=>let i:=Lean.mkIdent;return Lean.mkNullNode #[←`(section),←`(variable{$(i `P):ident:$(i `Ad)}{$(i `w):ident:$(i `Af)}{$(i `K):ident:$(i `af)}{$(i `mg):ident:$(i `Str)->$(i `Option) $(i `Aa)}{$(i `base):ident:$(i `Heap)})]
local macro_rules|`(tactic|apply $e)=>`(tactic|refine $e)
local macro_rules|`(#[$x,$xs,*])=>`(⟨$x,$xs,*⟩)
local macro_rules|`(tactic|let $p:term:=$e)=>let g:=λ(x:Lean.Syntax)=>(if x.isIdent then`(rcasesPat|$(⟨x⟩):ident) else if x.isOfKind ``Lean.Parser.Term.hole then`(rcasesPat|_) else pure ⟨x⟩:Lean.MacroM (Lean.TSyntax `rcasesPat));p.raw.rewriteBottomUpM (λn=>if n.isOfKind `«term#[_,]» then n[1].getSepArgs.mapM (λx=>g x>>=λy=>`(Lean.Parser.Tactic.rcasesPatLo|$y:rcasesPat))>>=λs=>`(rcasesPat|⟨$s,*⟩)>>=λt=>pure t.raw else pure n)>>=λq=>`(tactic|obtain $(⟨q⟩):rcasesPat:=$e)
def Z{α:Sort _}{a:α}:a=a:=rfl
abbrev af:=PySem.W.Frag
def aq:type_of% @List.length_map:=@List.length_map
def cK:type_of% @List.getElem?_eq_some_iff:=@List.getElem?_eq_some_iff
def cE:type_of% @List.getElem?_eq_getElem:=@List.getElem?_eq_getElem
def bo:type_of% @List.mem_map:=@List.mem_map
def dz:type_of% @List.mem_of_getElem?:=@List.mem_of_getElem?
def bD:type_of% @Nat.le_refl:=@Nat.le_refl
def c_:type_of% @List.size_toArray:=@List.size_toArray
def dE:type_of% @List.length_append:=@List.length_append
def cZ:type_of% @List.map_append:=@List.map_append
def bU:type_of% @List.map_map:=@List.map_map
def cc:type_of% @List.mem_cons:=@List.mem_cons
def fj:type_of% @List.mem_cons_of_mem:=@List.mem_cons_of_mem
def d0:type_of% @List.getElem?_map:=@List.getElem?_map
def dZ:type_of% @List.length_take:=@List.length_take
def fi:type_of% @List.mem_cons_self:=@List.mem_cons_self
def dD:type_of% @Nat.ne_of_lt:=@Nat.ne_of_lt
def fB:type_of% @List.mem_append:=@List.mem_append
def iT:type_of% @List.mem_append_right:=@List.mem_append_right
def gO:type_of% @Nat.lt_of_lt_of_le:=@Nat.lt_of_lt_of_le
def iu:type_of% @Bool.false_ne_true:=@Bool.false_ne_true
def gG:type_of% @List.take_length:=@List.take_length
def fK:type_of% @List.map_cons:=@List.map_cons
def j3:type_of% @List.getElem_of_mem:=@List.getElem_of_mem
def jf:type_of% @List.length_cons:=@List.length_cons
def wk:type_of% @List.nodup_iff_pairwise_ne:=@List.nodup_iff_pairwise_ne
def lB:type_of% @List.take_add_one:=@List.take_add_one
def wg:type_of% @Option.isSome_iff_exists:=@Option.isSome_iff_exists
def oC:type_of% @List.mem_singleton:=@List.mem_singleton
def p4:type_of% @List.map_congr_left:=@List.map_congr_left
def md:type_of% @List.pairwise_map:=@List.pairwise_map
def lA:type_of% @List.getElem_mem:=@List.getElem_mem
def j5:type_of% @List.nodup_cons:=@List.nodup_cons
def gQ:type_of% @Nat.zero_le:=@Nat.zero_le
def xw:type_of% @Int.eq_ofNat_of_zero_le:=@Int.eq_ofNat_of_zero_le
def xv:type_of% @List.take_of_length_le:=@List.take_of_length_le
def A9:type_of% @Array.getElem?_eq_some_iff:=@Array.getElem?_eq_some_iff
def pZ:type_of% @Bool.and_eq_true:=@Bool.and_eq_true
def we:type_of% @Array.length_toList:=@Array.length_toList
def wc:type_of% @List.mem_filterMap:=@List.mem_filterMap
def D9:type_of% @List.getElem?_append_right:=@List.getElem?_append_right
def ma:type_of% @Nat.le_trans:=@Nat.le_trans
def A8:type_of% @List.length_replicate:=@List.length_replicate
def wb:type_of% @List.lookup_cons:=@List.lookup_cons
def D8:type_of% @List.filter_cons_of_pos:=@List.filter_cons_of_pos
def D7:type_of% @List.filter_cons_of_neg:=@List.filter_cons_of_neg
def D6:type_of% @List.length_eq_zero_iff:=@List.length_eq_zero_iff
def wa:type_of% @List.append_nil:=@List.append_nil
def FK:type_of% @List.getElem?_append_left:=@List.getElem?_append_left
def vZ:type_of% @List.length_nil:=@List.length_nil
def D0:type_of% @List.length_singleton:=@List.length_singleton
def zC:type_of% @List.nodup_append:=@List.nodup_append
def Ba:type_of% @Bool.false_eq_true:=@Bool.false_eq_true
def zB:type_of% @List.length_drop:=@List.length_drop
def A_:type_of% @Int.toNat_natCast:=@Int.toNat_natCast
def zA:type_of% @Nat.lt_irrefl:=@Nat.lt_irrefl
def xx:type_of% @Nat.ne_of_gt:=@Nat.ne_of_gt
abbrev aj:=List PySem.Value
abbrev az:=PySem.Str->PySem.Str
abbrev ai:=List PySem.Addr
abbrev ae:=List PySem.Str
namespace L2
open PySem PySem.Spec PyProof.Rows
abbrev Key:=Sum Int Str
def yX:Key->Aa->Bool
 |.inl k,v=>Value.isInt k v
 |.inr x,v=>Value.isStrOf x v
def Qi(w:Af):Key->Int
 |.inl k=>hashInt k
 |.inr x=>hashStr w x
def sI:∀{k:Key}{v:Aa},yX k v=true->(∃i t,k=Sum.inl i/\v=Value.int i t)∨(∃x t,k=Sum.inr x/\v=Value.str x t)
 |.inl i,v,h=>by
  let#[t,e]:=Value.isInt_shape (k:=i) (v:=v) h;exact .inl #[i,t,Z,e]
 |.inr x,v,h=>by
  let#[t,e]:=Value.isStrOf_shape (x:=x) (v:=v) h;exact .inr #[x,t,Z,e]
def hX_(i:Int)(t:Tok):yX (.inl i) (.int i t)=true:=by simp[yX,Value.isInt]
def gY_(x:Str)(t:Tok):yX (.inr x) (.str x t)=true:=by simp[yX,Value.isStrOf]
def lz_(a b:Int):decide ((Sum.inl a:Key)=Sum.inl b)=(a == b):=by
 by_cases e:a=b
 ·subst e;simp
 have h:¬(Sum.inl a:Key)=Sum.inl b:=λq=>e (Sum.inl.inj q);rw[d7 h];exact (beq_eq_false_iff_ne.mpr e).symm
def lA_(a b:Str):decide ((Sum.inr a:Key)=Sum.inr b)=decide (a=b):=by
 by_cases e:a=b
 ·subst e;simp
 have h:¬(Sum.inr a:Key)=Sum.inr b:=λq=>e (gX q);rw[d7 h,d7 e]
def lK_(a:Int)(b:Str):decide ((Sum.inl a:Key)=Sum.inr b)=false:=d7 (λq=>nomatch q)
def lk_(a:Str)(b:Int):decide ((Sum.inr a:Key)=Sum.inl b)=false:=d7 (λq=>nomatch q)
def eD(prog:Ad)(w:Af):PySem.KeyKind prog w Key where
 is:=yX
 hash:=Qi w
 inj:=λv a b ha hb=>by
  rcases sI ha with⟨i,t,rfl,rfl⟩|⟨x,t,rfl,rfl⟩
  ·rcases sI hb with⟨j,u,rfl,e⟩|⟨y,u,rfl,e⟩
   ·injection e with e1 _;rw[e1]
   exact nomatch e
  rcases sI hb with⟨j,u,rfl,e⟩|⟨y,u,rfl,e⟩
  ·exact nomatch e
  injection e with e1 _;rw[e1]
 byValue:=λk v h=>by
  rcases sI h with⟨i,t,rfl,rfl⟩|⟨x,t,rfl,rfl⟩<;>rfl
 pyHash:=λhv h=>by
  rcases sI hv with⟨i,t,rfl,rfl⟩|⟨x,t,rfl,rfl⟩
  ·exact wpAny_pyHash_int h
  exact wpAny_pyHash_str h
 eqBool:=λhu hv h=>by
  rcases sI hu with⟨i,t,rfl,rfl⟩|⟨x,t,rfl,rfl⟩
  ·rcases sI hv with⟨j,u,rfl,rfl⟩|⟨y,u,rfl,rfl⟩
   ·rw[lz_] at h;exact wpAny_eqBool_int h
   rw[lK_] at h;exact SeqAt.EqAt.int_str i t y u _ _ _ _ h
  rcases sI hv with⟨j,u,rfl,rfl⟩|⟨y,u,rfl,rfl⟩
  ·rw[lk_] at h;exact SeqAt.EqAt.str_int x t j u _ _ _ _ h
  rw[lA_] at h;exact wpAny_eqBool_str h
 «strs»:=λk x t v h=>by
  rcases sI h with⟨i,u,rfl,e⟩|⟨y,u,rfl,e⟩
  ·exact nomatch e
  injection e with e1 _
  subst e1;cases v<;>rfl
def eU_(prog:Ad)(w:Af)(i:Int)(t:Tok):(eD prog w).is (.inl i) (.int i t)=true:=hX_ i t
def UB(prog:Ad)(w:Af)(x:Str)(t:Tok):(eD prog w).is (.inr x) (.str x t)=true:=gY_ x t
end L2
abbrev ax:=List L2.Key
namespace L2
open PySem PySem.Spec PyProof.Rows
inductive V where
 |non|bl (b:Bool)|int (i:Int)|str (x:Str)|byt (b:Array UInt8)|flt (b:UInt64)|ref (a:Addr)|ty (n:String)
 deriving DecidableEq
def RelV:V->Aa->Prop
 |.non,u=>u=Value.none
 |.bl b,u=>u=Value.bool b
 |.int i,u=>∃t,u=Value.int i t
 |.str x,u=>∃t,u=Value.str x t
 |.byt b,u=>∃t,u=Value.bytes b t
 |.flt b,u=>∃t,u=Value.float b t
 |.ref a,u=>u=Value.ref a
 |.ty n,u=>u=Value.type n
abbrev Vals:List V->aj->Prop:=Paired RelV
def Vals.length{xs:List V}{us:aj}(r:Vals xs us):xs.length=us.length:=bG r
def Vals.get:∀{xs:List V}{us:aj}{i:Nat}{x:V},Vals xs us->xs[i]? = some x->∃u,us[i]? = some u/\RelV x u
 |_,_,_,_,.nil,e=>by simp at e
 |_,_,0,_,.cons r _,e=>by simp at e;subst e;exact#[_,Z,r]
 |_,_,i+1,x,.cons _ t,e=>by
  let#[u,h1,h2]:=Vals.get (i:=i) (x:=x) t ⇑e;exact#[u,by simpa using h1,h2]
def Vals.set{x:V}{u:Aa}(r:RelV x u):∀{xs:List V}{us:aj}(i:Nat),Vals xs us->Vals (xs.set i x) (us.set i u)
 |_,_,_,.nil=>.nil
 |_,_,0,.cons _ t=>.cons r t
 |_,_,i+1,.cons q t=>.cons q (Vals.set r i t)
def Vals.append:∀{xs ys:List V}{us ws:aj},Vals xs us->Vals ys ws->Vals (xs++ys) (us++ws)
 |_,_,_,_,.nil,s=>s
 |_,_,_,_,.cons r t,s=>.cons r (Vals.append t s)
def Vals.take:∀{xs:List V}{us:aj}(n:Nat),Vals xs us->Vals (xs.take n) (us.take n)
 |_,_,0,_=>.nil
 |_,_,_+1,.nil=>.nil
 |_,_,n+1,.cons r t=>.cons r (Vals.take n t)
def Vals.drop:∀{xs:List V}{us:aj}(n:Nat),Vals xs us->Vals (xs.drop n) (us.drop n)
 |_,_,0,r=>r
 |_,_,_+1,.nil=>.nil
 |_,_,n+1,.cons _ t=>Vals.drop n t
def d5:Option V->Option Aa->Prop
 |some v,some u=>RelV v u
 |none,none=>True
 |_,_=>False
def KV{κ:Type}:List (κ × V)->List (κ × Aa)->Prop:=Paired λ(p:κ × V) (q:κ × Aa)=>p.1=q.1/\RelV p.2 q.2
def kV:Key->V
 |.inl i=>.int i
 |.inr x=>.str x
inductive HO where
  |lst (xs:List V)
  |tup (xs:List V)
  |dK (kvs:List (Key × V))|dT (kvs:List (ax × V))
  |set (S:Int->Bool) (n:Nat)
  |ins (C dx:Addr) (fs:List (Str × V))
  |own (x:Addr)
  |xd (fs:List (Str × V))
  |met (f x:Addr)
  |rng (lo hi:Int)
  |frz (o:Obj) (u:HO)
  |tbl (ps:Array Aa)
  |ext (φ:Heap->Prop)
abbrev Hp:=Addr->Option HO
def upd(H:Hp)(a:Addr)(o:HO):Hp:=λb=>if b=a then some o else H b
def aE{H:Hp}{a:Addr}{o:HO}:upd H a o a\o:=by unfold upd;rw[aF Z]
def aD{H:Hp}{a b:Addr}{o:HO}(h:b≠a):upd H a o b=H b:=by unfold upd;rw[aA h]
def kS_{H:Hp}{a:Addr}{o u:HO}:upd (upd H a o) a u=upd H a u:=by
 funext b;unfold upd;split<;>rfl
def aR{H:Hp}{a b:Addr}{o u:HO}(h:H a\o)(h':H b\u)(d:o≠u):a≠b:=by
 intro e;subst e;rw[h] at h';exact d (c7 h')
def bB{H:Hp}{a b:Addr}{o:HO}(h:H a\o)(h':H b=none):a≠b:=by
 intro e;subst e;rw[h] at h';cases h'
section
variable(P:Ad)(w:Af)
def eX(H:Hp)(h:Heap)(a:Addr):HO->Prop
 |.lst xs=>xs.length<=sizeLine/\∃(its:aj)(n:Nat),Vals xs its/\h.get? a=some { cls:=.type "list",data:=.seq its.toArray n }
 |.tup xs=>xs.length<=sizeLine/\∃its:aj,Vals xs its/\IsTup h a its.toArray/\∃o,h.get? a\o/\o.dict=none
 |.dK kvs=>kvs.length<=sizeLine/\(a == sysModules)=false/\∃vs,KV kvs vs/\h.DictOf (eD P w) a vs
 |.dT kvs=>kvs.length<=sizeLine/\(a == sysModules)=false/\∃xs:List (ax × Addr × Aa),
   Paired (λ(p:ax × V)(q:ax × Addr × Aa)=>p.1=q.1/\H q.2.1\.tup (p.1.map kV)/\RelV p.2 q.2.2) kvs xs /\
   ∃o es ep,h.get? a\o/\o.ExactDict/\o.data=.dict es ep/\es.toList=xs.map (entryOfKey (tupleKind (eD P w)))/\(xs.map (·.1)).Nodup
 |.set S n=>h.SetOf (intKind P w) a S n
 |.ins C dx fs=>H dx\.own a/\fs.length<=1000/\dx≠a/\h.get? a\PySem.W.instObj C dx /\
   ∃mA,h.Ns1 dx mA/\(∀f,d5 (fs.lookup f) (mA f))/\PySem.Within mA (fs.map (·.1))
 |.own _=>∃o,h.get? a\o
 |.xd fs=>∃mA,h.Ns1 a mA/\∀f,d5 (fs.lookup f) (mA f)
 |.rng lo hi=>∃t u v,h.get? a=some { cls:=.type "range",data:=.fields (List.toArray [.int lo t,.int hi u,.int 1 v]) }
 |.frz o u=>h.get? a\o/\eX H h a u
 |.tbl ps=>h.get? a=some { cls:=.none,data:=.fields ps }
 |.met f x=>h.get? a\PySem.W.methodObj (.ref f) (.ref x)
 |.ext φ=>φ h/\(∃o,h.get? a\o)/\∀h1 h2:Heap,φ h1->(∀o,h1.get? a\o->h2.get? a\o)->φ h2
def dP(H:Hp)(h:Heap):Prop:=∀a o,H a\o->eX P w H h a o
end
section
variable{P:Ad}{w:Af}{H H':Hp}{h h':Heap}{a:Addr}{o:HO}
def eX.lt(x:eX P w H h a o):a<h.objs.size:=by
 cases o with
 |lst xs=>let#[_,_,_,_,e]:=x;exact bW e
 |tup xs=>let#[_,_,_,p,_]:=x;exact p.lt
 |dK kvs=>let#[_,_,_,_,o,_,_,e,_]:=x;exact bW e
 |dT kvs=>let#[_,_,_,_,o,_,_,e,_]:=x;exact bW e
 |set S n=>let#[o,_,_,_,e,_]:=x;exact bW e
 |ins C dx fs=>let#[_,_,_,e,_]:=x;exact bW e
 |own y=>let#[_,e]:=x;exact bW e
 |xd fs=>let#[_,#[_,_,_,e,_],_]:=x;exact bW e
 |rng lo hi=>let#[_,_,_,e]:=x;exact bW e
 |frz ob u=>let#[e,_]:=x;exact bW e
 |tbl ps=>exact bW (show h.get? a\_ from x)
 |met f y=>exact bW (show h.get? a\_ from x)
 |ext φ=>let#[_,#[_,e],_]:=x;exact bW e
def Paired.bJ{α β:Type}{F G:α->β->Prop}:∀{HK:List α}{HJ:List β},Paired F HK HJ->(∀a b,F a b->G a b)->Paired G HK HJ
 |_,_,.nil,_=>.nil
 |_,_,.cons r t,f=>.cons (f _ _ r) (Paired.bJ t f)
def eX.dJ(x:eX P w H h a o)(k:∀b u,(b=a∨H b\.own a)->h.get? b\u->h'.get? b\u)
 (ho:∀b,H b\.own a->H' b\.own a)(ht:∀b xs,H b\.tup xs->H' b\.tup xs):eX P w H' h' a o:=by
 induction o with
 |lst xs=>let#[z,its,n,r,e]:=x;exact#[z,its,n,r,k _ _ (.inl Z) e]
 |tup xs=>let#[z,its,r,#[ob,e,c],o2,e2,c2]:=x;exact#[z,its,r,#[ob,k _ _ (.inl Z) e,c],o2,k _ _ (.inl Z) e2,c2]
 |dK kvs=>let#[z,y,vs,r,ob,es,ep,e,c]:=x;exact#[z,y,vs,r,ob,es,ep,k _ _ (.inl Z) e,c]
 |dT kvs=>
  let#[z,y,xs,r,ob,es,ep,e,c]:=x;exact#[z,y,xs,Paired.bJ r λp q z=>#[z.1,ht _ _ z.2.1,z.2.2],ob,es,ep,k _ _ (.inl Z) e,c]
 |set S n=>let#[ob,es,ep,t,e,c]:=x;exact#[ob,es,ep,t,k _ _ (.inl Z) e,c]
 |ins C dx fs=>
  let#[d,z,ne,e,mA,#[od,es,ep,e2,c],r]:=x;exact#[ho _ d,z,ne,k _ _ (.inl Z) e,mA,#[od,es,ep,k _ _ (.inr d) e2,c],r]
 |own y=>let#[ob,e]:=x;exact#[ob,k _ _ (.inl Z) e]
 |xd fs=>let#[mA,#[od,es,ep,e,c],r]:=x;exact#[mA,#[od,es,ep,k _ _ (.inl Z) e,c],r]
 |rng lo hi=>let#[t,u,v,e]:=x;exact#[t,u,v,k _ _ (.inl Z) e]
 |frz ob u ih=>let#[e,q]:=x;exact#[k _ _ (.inl Z) e,ih q]
 |tbl ps=>
  have e:h.get? a=some { cls:=.none,data:=.fields ps }:=x;show h'.get? a=some { cls:=.none,data:=.fields ps };exact k a _ (.inl Z) e
 |met f y=>
  have e:h.get? a\PySem.W.methodObj (.ref f) (.ref y):=x;show h'.get? a\PySem.W.methodObj (.ref f) (.ref y);exact k a _ (.inl Z) e
 |ext φ=>let#[p,#[o,e],st]:=x;exact#[st _ _ p λo q=>k _ _ (.inl Z) q,#[o,k _ _ (.inl Z) e],st]
def dP.lt(x:dP P w H h)(e:H a\o):a<h.objs.size:=(x a o e).lt
def dP.fresh(x:dP P w H h)(e:h.objs.size<=a):H a=none:=by
 cases q:H a with
 |none=>rfl
 |some u=>exact absurd (gO (x.lt q) e) (zA _)
def dP.kept(x:dP P w H h)(k:∀b u,h.get? b\u->h'.get? b\u):dP P w H h':=λa o e=>
 (x a o e).dJ (λb u _ q=>k b u q) (λ_ q=>q) λ_ _ q=>q
def dP.laid(x:dP P w H h)(k:∀b u,h.get? b\u->h'.get? b\u)(hp:h.objs.size<=a)(new:eX P w (upd H a o) h' a o):dP P w (upd H a o) h':=λb u e=>by
 let hn:=x.fresh hp;by_cases hb:b=a
 ·subst hb;rw[aE] at e;cases e;exact new
 rw[aD hb] at e;exact (x b u e).dJ (λc v _ q=>k c v q) (λc q=>by rw[aD (bB q hn)];exact q) λc xs q=>by rw[aD (bB q hn)];exact q
end
def Rd(H:Hp)(a:Addr)(u:HO):Prop:=H a=some u∨∃o,H a\.frz o u
def Rd.of{H:Hp}{a:Addr}{u:HO}(h:H a\u):Rd H a u:=.inl h
def Rd.ok{P:Ad}{w:Af}{H:Hp}{h:Heap}{a:Addr}{u:HO}(r:Rd H a u)(x:dP P w H h):eX P w H h a u:=by
 rcases r with r|⟨o,r⟩
 ·exact x a u r
 let#[_,q]:=x a _ r;exact q
def K6:Option HO->Prop
 |some (.lst _)=>True
 |some (.dK _)=>True
 |some (.dT _)=>True
 |some (.set _ _)=>True
 |some (.ins _ _ _)=>True
 |some (.ext _)=>True
 |_=>False
section
variable{P:Ad}{w:Af}{H:Hp}{h h':Heap}{x e:Addr}{o':HO}
def dP.write(ok:dP P w H h)(mu:K6 (H x))(he:e=x∨H e\.own x)(k:∀b u,b≠e->h.get? b\u->h'.get? b\u)(EG:∃u,h'.get? e\u)
 (new:eX P w (upd H x o') h' x o'):dP P w (upd H x o') h':=λb u q=>by
 have Hl:∀c y,H c\.own y->c≠x:=λc y r z=>by subst z;rw[r] at mu;exact mu
 have Pr:∀c xs,H c\.tup xs->c≠x:=λc xs r z=>by subst z;rw[r] at mu;exact mu
 by_cases hb:b=x
 ·subst hb;rw[aE] at q;cases q;exact new
 rw[aD hb] at q;by_cases CM:b=e
 ·have q':H b\.own x:=by
   rcases he with z|z
   ·exact absurd (CM.trans z) hb
   rw[CM];exact z
  rw[q] at q';cases q';let#[v,hv]:=EG;exact#[v,by rw[CM];exact hv]
 apply (ok b u q).dJ (λc v hc r=>k c v ?_ r) (λc r=>by rw[aD (Hl c b r)];exact r) λc xs r=>by rw[aD (Pr c xs r)];exact r
 rcases hc with rfl|hc
 ·exact CM
 rintro rfl;rcases he with z|z
 ·exact Hl c b hc z
 rw[hc] at z;cases z;exact hb Z
end
structure Un(fs ex:ai)(H H':Hp)(h h':Heap):Prop where
 keep:∀b o,h.get? b\o->H b=none->b∉fs->b∉ex->h'.get? b\o
 slot:∀b o,h.get? b\o->H b=none->b∈fs->b∉ex->∃sl,h'.get? b=some { o with slots:=sl }
 free:∀b o,h.get? b\o->H b=none->b∉ex->H' b=none
 there:∀b o,h.get? b\o->b∉ex->∃o',h'.get? b\o'
 d9:∀b xs,H b\.tup xs->H' b\.tup xs
 e_:∀b o u,H b\.frz o u->H' b\.frz o u
 fQ:∀b ps,H b\.tbl ps->∃more,H' b\.tbl (ps++more)
section
variable{fs fs' ex ex':ai}{H H1 H2:Hp}{h h1 h2 h':Heap}{a x e:Addr}{o:HO}
def Un.any(u:Un fs ex H H1 h h1){b:Addr}{ob:Obj}(q:h.get? b\ob)(n:H b=none)(hx:b∉ex):∃sl,h1.get? b=some { ob with slots:=sl }:=by
 by_cases hb:b∈fs
 ·exact u.slot b ob q n hb hx
 exact#[ob.slots,u.keep b ob q n hb hx]
def Un.kept(k:∀b u,h.get? b\u->h'.get? b\u):Un fs ex H H h h':=
 #[λb ob q _ _ _=>k b ob q,λb ob q _ _ _=>#[ob.slots,k b ob q],λ_ _ _ n _=>n,λb ob q _=>#[ob,k b ob q],λ_ _ q=>q,λ_ _ _ q=>q,λ_ ps q=>#[#[],by rw[q];simp]]
def Un.refl:Un fs ex H H h h:=Un.kept λ_ _ q=>q
def Un.laid(k:∀b u,h.get? b\u->h'.get? b\u)(hp:h.objs.size<=a)(hn:H a=none):Un fs ex H (upd H a o) h h' where
 keep:=λb u q _ _ _=>k b u q
 slot:=λb u q _ _ _=>#[u.slots,k b u q]
 free:=λb u q n _=>by rw[aD (dD (gO (bW q) hp))];exact n
 there:=λb u q _=>#[u,k b u q]
 d9:=λb xs q=>by rw[aD (bB q hn)];exact q
 e_:=λb u xs q=>by rw[aD (bB q hn)];exact q
 fQ:=λb ps q=>#[#[],by rw[aD (bB q hn),q];simp]
def Un.write(mu:K6 (H x))(he:e=x∨H e\.own x)(k:∀b u,b≠e->h.get? b\u->h'.get? b\u)(EG:∃u,h'.get? e\u):Un fs ex H (upd H x o) h h':=by
 have hx:∀b,H b=none->b≠x:=λb n z=>by subst z;rw[n] at mu;exact mu
 have hb:∀b,H b=none->b≠e:=λb n z=>by
  subst z;rcases he with r|r
  ·exact hx b n r
  rw[n] at r;cases r
 have hm:∀b u,H b\u->¬K6 (some u)->b≠x:=λb u q nm z=>by subst z;rw[q] at mu;exact nm mu
 apply#[λb u q n _ _=>k b u (hb b n) q,λb u q n _ _=>#[u.slots,k b u (hb b n) q],λb u q n _=>by rw[aD (hx b n)];exact n,λb u q _=>?_,
  λb xs q=>by rw[aD (hm b _ q λz=>z)];exact q,λb u xs q=>by rw[aD (hm b _ q λz=>z)];exact q,λb ps q=>#[#[],by rw[aD (hm b _ q λz=>z),q];simp]]
 by_cases CM:b=e
 ·subst CM;exact EG
 exact#[u,k b u CM q]
end
def Lc(h:Heap)(H:Hp):ai:=(List.range h.objs.size).filter λa=>(H a).isSome
def iN(h:Heap)(H:Hp):Heap:=PySem.W.hideAll h (Lc h H)
def hR_(h:Heap)(H:Hp):(iN h H).objs.size=h.objs.size:=PySem.W.hideAll_size _ _
def iy_{h:Heap}{H:Hp}{b:Addr}{o:Obj}(e:h.get? b\o)(n:H b=none):(iN h H).get? b\o:=
 PySem.W.hideAll_get _ e λhm=>by
  have q:(H b).isSome=true:=(List.mem_filter.mp hm).2;rw[n] at q;simp at q
def kZ_{h:Heap}{H:Hp}{b:Addr}{o:Obj}(e:(iN h H).get? b\o):h.get? b\o/\H b=none:=by
 have e':h.get? b\o:=PySem.W.of_hideAll (Lc h H) e;apply#[e',?_];cases q:H b with
 |none=>rfl
 |some x=>
  have hm:b∈Lc h H:=List.mem_filter.mpr #[List.mem_range.mpr (bW e'),by simp[q]];have z:(iN h H).get? b=none:=PySem.W.hideAll_none (Lc h H) hm;rw[z] at e;cases e
end L2
abbrev ag:=List L2.V
abbrev aQ:=Option L2.V
namespace L2
open PySem PySem.Spec PyProof.Rows
structure Mod(K:af)(mg:Str->Option Aa)(base:Heap):Prop where
 Cd:K.In base
 glob:base.Ns mainGlobals mg
 blt:∃mb,base.Ns builtinsNs mb/\∀x:Str,x≠"__name__"->mb x=bootBuiltins x
 nolimit:base.NoLimit
structure Cx where
 prog:Ad
 w:Af
 K:af
 mg:Str->Option Aa
 base:Heap
 A:Ag
 N:ae
 cw:Ab
 iZ:Hp
 env:Env
 outer:List Env
 stack:List Env
 ex:ai
 fn:Str->Bool
 calm:Bool
 pn:List (Addr × Obj)
 xe:Aa->Ab->Prop
def eB(l:List Env):ai:=l.filterMap (·.frame)
abbrev Cx.fs(X:Cx):ai:=eB X.outer
def UP(sc:Scope)(x:Str):Prop:=sc.names.lookup x=some .local∨sc.names.lookup x\.cell∨sc.names.lookup x\.free
def Loc(sc:Scope)(x:Str):Prop:=sc.names.lookup x=some .local∨sc.names.lookup x\.cell
def Look(env:Env)(h:Heap)(m:Str->Option Aa)(x:Str)(u:Aa):Prop:=
 (env.kindOf x\.local/\m x\u)∨((env.kindOf x\.cell∨env.kindOf x\.free)/\∃c,env.cells.lookup x\c/\h.IsCell c (some u))
structure Cx.Ok(X:Cx):Prop where
 mod:Mod X.K X.mg X.base
 kind:X.env.scope.kind=.function
 glob:X.env.globals=mainGlobals
 blt:X.env.builtins=builtinsNs
 above:X.cw.heap.objs.size<=X.env.locals
 inj:∀x y c,X.env.cells.lookup x\c->X.env.cells.lookup y\c->x=y
 has:∀x,(X.env.kindOf x\.cell∨X.env.kindOf x\.free)->∃c,X.env.cells.lookup x\c
 DA:∀x c,X.fn x=true->X.env.cells.lookup x\c->X.cw.heap.objs.size<=c
 hd:X.calm=true->X.A.handled=none
 frames:X.A.frames\X.stack
 Gz:X.stack=X.outer∨(X.stack=X.env::X.outer/\X.env.frame\X.env.locals)
 JG:∀b∈X.ex,b≠X.env.locals/\∀x c,X.env.cells.lookup x\c->c≠b
 bs:∀b o,X.base.get? b\o->X.cw.heap.get? b\o/\X.iZ b=none
 r_:X.base.objs.size<=X.cw.heap.objs.size
 qo:∀b o,X.base.get? b\o->b∉X.ex
 qI:∀b∈X.ex,b∉X.fs
 fI:X.cw.heap.FunFrames X.base X.outer
 w4:∀b∈X.fs,X.iZ b=none
structure Inv(X:Cx)(π:List (Addr × Obj))(σ:List aQ)(H:Hp)(s:Ab):Prop where
 ok:X.Ok
 os:s.os=X.cw.os
 bare:AllBare s.gens
 base:Un X.fs X.ex X.iZ H X.cw.heap s.heap
 loc:∃m,s.heap.Ns X.env.locals m/\∀(i:Nat) (x:Str) (v:V),X.N[i]? = some x->σ[i]? = some (some v)->UP X.env.scope x->∃u,RelV v u/\Look X.env s.heap m x u
 cell:∀x c,X.env.cells.lookup x\c->∃v,s.heap.IsCell c v
 free:H X.env.locals=none
 dk:∀x c,X.env.cells.lookup x\c->H c=none
 pin:∀p∈X.pn++π,s.heap.get? p.1\p.2/\H p.1=none/\p.1≠X.env.locals/\p.1∉X.fs/\∀v,p.2.data≠.cell v
 ay:dP X.prog X.w H s.heap
 len:σ.length=X.N.length
section
variable{X:Cx}{π:List (Addr × Obj)}{σ:List aQ}{H H':Hp}{s:Ab}{h':Heap}
def Cx.Ok.Pu(ok:X.Ok){b:Addr}{o:Obj}(e:X.base.get? b\o):b∉X.fs:=λhb=>by
 have:=(ok.fI.mem hb).1;rw[e] at this;cases this
def Inv.bs(I:!In H s):∀b o,X.base.get? b\o->s.heap.get? b\o/\H b=none:=λb o e=>
 #[I.base.keep b o (I.ok.bs b o e).1 (I.ok.bs b o e).2 (I.ok.Pu e) (I.ok.qo b o e),I.base.free b o (I.ok.bs b o e).1 (I.ok.bs b o e).2 (I.ok.qo b o e)]
def Inv.bk(I:!In H s):∀b o,X.base.get? b\o->s.heap.get? b\o:=λb o e=>(I.bs b o e).1
def Inv.mod(I:!In H s):Mod X.K X.mg X.base:=I.ok.mod
def Inv.fG(I:!In H s):X.K.In s.heap:=I.ok.mod.Cd.keeps I.bk
def Inv.lt(I:!In H s):X.env.locals<s.heap.objs.size:=let #[_,hn,_]:=I.loc;hn.lt
def Inv.sz(I:!In H s):X.cw.heap.objs.size<=s.heap.objs.size:=ma I.ok.above (Nat.le_of_lt I.lt)
def Inv.Pt(I:!In H s){a:Addr}(h:s.heap.objs.size<=a):a∉X.fs:=λhb=>by
 let#[_,o,ho,_]:=I.ok.fI.mem hb;exact absurd (gO (bW ho) (ma I.sz h)) (zA _)
def Inv.pT(I:!In H s):∀x c,X.env.cells.lookup x\c->c≠X.env.locals:=λx c e z=>by
 let#[v,o,ho,hd]:=I.cell x c e;let#[m,#[o',es,ep,kI,pN,_],_]:=I.loc;rw[z,kI] at ho;cases ho;rw[pN] at hd;cases hd
def Inv.fI(I:!In H s):s.heap.FunFrames X.base X.outer:=by
 have all:∀(l:List Env),(∀b∈eB l,b∈X.fs)->X.cw.heap.FunFrames X.base l->s.heap.FunFrames X.base l:=by
  intro l
  induction l with
  |nil=>intro _ _;trivial
  |cons env r ih=>
   intro hs hl;let#[hk,#[L,o,hf,hn,ho,hd],hr]:=hl;have hL:L∈X.fs:=hs L (by unfold eB;rw[List.filterMap_cons,hf];exact fi);let#[sl,e]:=I.base.slot L o ho (I.ok.w4 L hL) hL λz=>I.ok.qI L z hL;exact#[hk,#[L,_,hf,hn,e,hd],ih (λb hb=>hs b (by unfold eB;rw[List.filterMap_cons,hf];exact fj _ hb)) hr]
 exact all X.outer (λ_ hb=>hb) I.ok.fI
def Inv.stack(I:!In H s):s.heap.FunFrames X.base X.stack:=by
 rcases I.ok.Gz with e|⟨e,hf⟩
 ·rw[e];exact I.fI
 rw[e];let#[m,hn,_]:=I.loc;apply .cons (by rw[I.ok.kind];decide) hf hn ?_ I.fI;exact Heap.get?_none_of_le (ma I.ok.r_ I.ok.above)
def Inv.hU(I:!In H s):∀b∈eB X.stack,b∈X.env.locals::X.fs:=λb hb=>by
 rcases I.ok.Gz with e|⟨e,hf⟩
 ·rw[e] at hb;exact fj _ hb
 rw[e] at hb;unfold eB at hb;rw[List.filterMap_cons,hf] at hb;exact hb
def Inv.jr(I:!In H s):∀b∈eB X.stack,H b=none:=λb hb=>by
 rcases cc.mp (I.hU b hb) with e|hb
 ·rw[e];exact I.free
 let#[_,o,ho,_]:=I.ok.fI.mem hb;exact I.base.free b o ho (I.ok.w4 b hb) λz=>I.ok.qI b z hb
def Inv.step{g':Array GenState}{t':Nat}{d':Drawn}{ch:ai}(I:!In H s)
 (wZ:∀b∈ch,(b∈X.ex∨X.cw.heap.objs.size<=b)/\b≠X.env.locals/\(∀x c,X.env.cells.lookup x\c->c≠b)/\∀p∈X.pn++π,p.1≠b)
 (keep:∀b o,b≠X.env.locals->b∉X.fs->b∉ch->s.heap.get? b\o->H b=none->h'.get? b\o)
 (slot:∀b o,b≠X.env.locals->b∈X.fs->b∉ch->s.heap.get? b\o->H b=none->∃sl,h'.get? b=some { o with slots:=sl })(free:∀b o,b∉ch->s.heap.get? b\o->H b=none->H' b=none)
 (there:∀b o,b∉ch->s.heap.get? b\o->∃o',h'.get? b\o')
 (d9:∀b xs,H b\.tup xs->H' b\.tup xs)(e_:∀b o u,H b\.frz o u->H' b\.frz o u)(fQ:∀b ps,H b\.tbl ps->∃more,H' b\.tbl (ps++more))
 (ns:∀m,s.heap.Ns X.env.locals m->h'.Ns X.env.locals m)(ay:dP X.prog X.w H' h')(hg:AllBare g'):
  !In H' { s with heap:=h',gens:=g',drawn:=d',toks:=t' }:=by
 have V7:∀b o,X.cw.heap.get? b\o->b≠X.env.locals:=λb o e=>dD (gO (bW e) I.ok.above)
 have LN:∀b o,X.cw.heap.get? b\o->b∉X.ex->b∉ch:=λb o e hx hb=>by
  rcases (wZ b hb).1 with z|z
  ·exact hx z
  exact absurd (gO (bW e) z) (zA _)
 have cellK:∀x c,X.env.cells.lookup x\c->∀v,s.heap.IsCell c v->h'.IsCell c v:=λx c e v ⟨o,ho,hd⟩=>by
  have HE:c∉ch:=λz=>(wZ c z).2.2.1 x c e Z;by_cases hc:c∈X.fs
  ·let#[sl,q]:=slot c o (I.pT x c e) hc HE ho (I.dk x c e);exact#[_,q,hd]
  exact#[o,keep c o (I.pT x c e) hc HE ho (I.dk x c e),hd]
 apply#[I.ok,I.os,hg,#[λb o e n hb hx=>?_,λb o e n hb hx=>?_,λb o e n hx=>?_,λb o e hx=>?_,λb xs e=>d9 b xs (I.base.d9 b xs e),λb o xs e=>e_ b o xs (I.base.e_ b o xs e),λb ps e=>?_],?_,λx c e=>?_,?_,λx c e=>?_,λp hp=>?_,ay,I.len]
 ·exact keep b o (V7 b o e) hb (LN b o e hx) (I.base.keep b o e n hb hx) (I.base.free b o e n hx)
 ·let#[sl,e1]:=I.base.slot b o e n hb hx;let#[OP,e2]:=slot b _ (V7 b o e) hb (LN b o e hx) e1 (I.base.free b o e n hx);exact#[OP,e2]
 ·let#[o',e1]:=I.base.there b o e hx;exact free b o' (LN b o e hx) e1 (I.base.free b o e n hx)
 ·let#[o',e1]:=I.base.there b o e hx;exact there b o' (LN b o e hx) e1
 ·let#[m1,e1]:=I.base.fQ b ps e;let#[m2,e2]:=fQ b _ e1;exact#[m1++m2,by rw[e2,Array.append_assoc]]
 ·let#[m,hn,hl]:=I.loc;apply#[m,ns m hn,λi x v e1 e2 e3=>?_];let#[u,r,l]:=hl i x v e1 e2 e3;apply#[u,r,?_];rcases l with l|⟨k,c,e,z⟩
  ·exact .inl l
  exact .inr #[k,c,e,cellK x c e _ z]
 ·let#[v,z]:=I.cell x c e;exact#[v,cellK x c e v z]
 ·let#[m,#[o,_,_,ho,_],_]:=I.loc;exact free _ o (λz=>(wZ _ z).2.1 Z) ho I.free
 ·let#[v,o,ho,hd]:=I.cell x c e;exact free c o (λz=>(wZ c z).2.2.1 x c e Z) ho (I.dk x c e)
 let#[e,n,ne,nf,d]:=I.pin p hp;have HE:p.1∉ch:=λz=>(wZ p.1 z).2.2.2 p hp Z;exact#[keep p.1 p.2 ne nf HE e n,free p.1 p.2 HE e n,ne,nf,d]
def Inv.un{t':Nat}(I:!In H s)(u:Un X.fs [] H H' s.heap h')(ay:dP X.prog X.w H' h'):!In H' { s with heap:=h',toks:=t' }:=by
 let#[m,#[o,es,ep,ho,r],_]:=id I.loc;let#[sl,hL]:=u.any ho I.free Z2
 exact I.step (g':=s.gens) (d':=s.drawn) (ch:=[]) (λ_ z=>nomatch z) (λb o _ hb _ e n=>u.keep b o e n hb Z2) (λb o _ hb _ e n=>u.slot b o e n hb Z2) (λb o _ e n=>u.free b o e n Z2) (λb o _ e=>u.there b o e Z2) u.d9 u.e_ u.fQ (λm' hm=>by
  let#[o',ML,MM,kI,r']:=hm;rw[ho] at kI;cases kI;exact#[_,ML,MM,hL,r']) ay I.bare
def Inv.call{g':Array GenState}{t':Nat}{d':Drawn}{ch:ai}(I:!In H s)(u:Un (eB X.stack) ch H H' s.heap h')(ay:dP X.prog X.w H' h')(hg:AllBare g')
 (wZ:∀b∈ch,(b∈X.ex∨X.cw.heap.objs.size<=b)/\b≠X.env.locals/\(∀x c,X.env.cells.lookup x\c->c≠b)/\∀p∈X.pn++π,p.1≠b):
  !In H' { s with heap:=h',gens:=g',drawn:=d',toks:=t' }:=by
 let#[m,#[o,es,ep,ho,r],_]:=id I.loc;let#[sl,hL]:=u.any ho I.free λz=>(wZ _ z).2.1 Z
 exact I.step (ch:=ch) wZ (λb o hL hb hc e n=>u.keep b o e n (λz=>(cc.mp (I.hU b z)).elim hL hb) hc) (λb o _ _ hc e n=>u.any e n hc) (λb o hc e n=>u.free b o e n hc) (λb o hc e=>u.there b o e hc) u.d9 u.e_ u.fQ (λm' hm=>by
  let#[o',ML,MM,kI,r']:=hm;rw[ho] at kI;cases kI;exact#[_,ML,MM,hL,r']) ay hg
def Inv.turned{t':Nat}{it:Addr}(I:!In H s)(k:∀b o,b≠it->s.heap.get? b\o->h'.get? b\o)(hn:H it=none)(hL:it≠X.env.locals)
 (h1:it∈X.ex∨X.cw.heap.objs.size<=it)(h2:∀x c,X.env.cells.lookup x\c->c≠it)(h3:∀p∈X.pn++π,p.1≠it):!In H { s with heap:=h',toks:=t' }:=by
 have V5:∀b u,H b\u->b≠it:=λb u e z=>by rw[z,hn] at e;cases e
 apply I.step (g':=s.gens) (d':=s.drawn) (ch:=[it]) (λb hb=>?_) (λb o _ _ hc e _=>k b o (λz=>hc (by simp[z])) e) (λb o _ _ hc e _=>#[o.slots,k b o (λz=>hc (by simp[z])) e]) (λ_ _ _ _ n=>n)
  (λb o hc e=>#[o,k b o (λz=>hc (by simp[z])) e]) (λ_ _ e=>e) (λ_ _ _ e=>e) (λb ps e=>#[#[],by rw[e];simp]) (λm hm=>?_) (λb u e=>?_) I.bare
 ·have e:b=it:=⇑hb
  subst e;exact#[h1,hL,h2,h3]
 ·let#[o,es,ep,ho,r]:=hm;exact#[o,es,ep,k _ o (Ne.symm hL) ho,r]
 apply (I.ay b u e).dJ (λc v hc q=>k c v ?_ q) (λ_ q=>q) λ_ _ q=>q;rcases hc with z|z
 ·rw[z];exact V5 b u e
 exact V5 c _ z
def Inv.tok(I:!In H s)(t:Nat):!In H { s with toks:=t }:=I.un (h':=s.heap) (t':=t) Un.refl I.ay
def Inv.kept{t':Nat}(I:!In H s)(k:∀b u,s.heap.get? b\u->h'.get? b\u):!In H { s with heap:=h',toks:=t' }:=I.un (Un.kept k) (I.ay.kept k)
def Inv.laid{a:Addr}{o:HO}{t':Nat}(I:!In H s)(k:∀b u,s.heap.get? b\u->h'.get? b\u)(hp:s.heap.objs.size<=a)(new:eX X.prog X.w (upd H a o) h' a o):
  !In (upd H a o) { s with heap:=h',toks:=t' }:=I.un (Un.laid k hp (I.ay.fresh hp)) (I.ay.laid k hp new)
def Inv.write{x e:Addr}{o:HO}{t':Nat}(I:!In H s)(mu:K6 (H x))(he:e=x∨H e\.own x)(k:∀b u,b≠e->s.heap.get? b\u->h'.get? b\u)(EG:∃u,h'.get? e\u)
 (new:eX X.prog X.w (upd H x o) h' x o):!In (upd H x o) { s with heap:=h',toks:=t' }:=I.un (Un.write mu he k EG) (I.ay.write mu he k EG new)
def Inv.pf{Ap:List (Addr × Obj)}(I:!In H s)(h:∀p∈Ap,s.heap.get? p.1\p.2/\H p.1=none/\p.1≠X.env.locals/\p.1∉X.fs/\∀v,p.2.data≠.cell v):Inv X Ap σ H s:=
 #[I.ok,I.os,I.bare,I.base,I.loc,I.cell,I.free,I.dk,λp hp=>(fB.mp hp).elim (λz=>I.pin p (List.mem_append_left _ z)) (h p),I.ay,I.len]
def SF{N:ae}(hN:N.Nodup){i j:Nat}{x:Str}(a:N[i]? = some x)(b:N[j]? = some x):i=j:=by
 let#[h1,e1]:=cK.mp a;let#[h2,e2]:=cK.mp b;exact (List.getElem_inj hN).mp (e1.trans e2.symm)
def ZO{M:Model}{A:Ag}{E:Aa->Ab->Prop}{i:Nat}{x:Str}{v:V}{u:Aa}{Q:Unit->Ab->Prop}(I:!In H s)(hN:X.N.Nodup)(hi:X.N[i]? = some x)(hx:Loc X.env.scope x)(r:RelV v u)
 (h:∀s',Inv X π (σ.set i (some v)) H s'->(∃a,Heap.SameBut a s.heap s'.heap/\(a=X.env.locals∨X.env.cells.lookup x\a))->Q () s')(hf:X.fn x=true∨X.env.scope.names.lookup x\.local:=by first|exact .inl Z|exact .inr Z|assumption):wpAny M A (storeName X.env x u) Q E s:=by
 let#[m,hn,hl]:=id I.loc;have CL:(X.env.scope.kind == .class || (X.env.scope.kind == .module&&X.env.locals != X.env.globals))=false:=by rw[I.ok.kind];rfl
 have yK:i<σ.length:=by rw[I.len];exact (cK.mp hi).1
 let pT:=I.pT
 have tracked:∀{a:Addr} {h':Heap},(∃o,s.heap.get? a\o/\H a=none)->Heap.SameBut a s.heap h'->dP X.prog X.w H h':=λ{a h'} ha hs b ob e=>by
  let#[_,_,AI]:=ha;apply (I.ay b ob e).dJ (λc w' hc q=>(hs.2 c ?_).trans q) (λ_ q=>q) λ_ _ q=>q;rintro rfl;rcases hc with rfl|hc
  ·rw[AI] at e;cases e
  rw[AI] at hc;cases hc
 rcases hx with hk|hk
 ·apply wpAny_storeName_local hk hn (λh' yC hs=>?_) CL;let#[oL,_,_,IG,_]:=id hn;apply h _ #[I.ok,I.os,I.bare,#[λb o e n hb hx=>?_,λb o e n hb hx=>?_,I.base.free,λb o e hx=>?_,I.base.d9,I.base.e_,I.base.fQ],#[_,yC,λj y v' e1 e2 e3=>?_],λy c e=>?_,I.free,I.dk,λp hp=>?_,tracked #[oL,IG,I.free] hs,by simpa using I.len] #[_,hs,.inl Z]
  ·exact (hs.2 b (dD (gO (bW e) I.ok.above))).trans (I.base.keep b o e n hb hx)
  ·let#[sl,e1]:=I.base.slot b o e n hb hx;exact#[sl,(hs.2 b (dD (gO (bW e) I.ok.above))).trans e1]
  ·let#[o',e1]:=I.base.there b o e hx;exact#[o',(hs.2 b (dD (gO (bW e) I.ok.above))).trans e1]
  ·by_cases hj:j=i
   ·subst hj;rw[hi] at e1;cases e1;rw[List.getElem?_set_self yK] at e2;cases e2;exact#[u,r,.inl #[hk,by simp]]
   rw[List.getElem?_set_ne (Ne.symm hj)] at e2;let#[u',r',q]:=hl j y v' e1 e2 e3;apply#[u',r',?_];rcases q with⟨k,e⟩|⟨k,c,e,z⟩
   ·apply .inl #[k,?_];have:y≠x:=λe=>hj (SF hN e1 (e▸hi));simp[this,e]
   exact .inr #[k,c,e,z.sameBut hs (pT y c e)]
  ·let#[w',z]:=I.cell y c e;exact#[w',z.sameBut hs (pT y c e)]
  let#[e,n,ne,nf,d]:=I.pin p hp;exact#[(hs.2 p.1 ne).trans e,n,ne,nf,d]
 have Q_:X.fn x=true:=by
  rcases hf with z|z
  ·exact z
  rw[z] at hk;cases hk
 let#[c,hc]:=I.ok.has x (.inl hk);let#[w',z]:=I.cell x c hc;apply wpAny_storeName_cell I.ok.kind hk hc z (λh' EJ hs=>?_);let#[oc,IF,QJ]:=id z;apply h { s with heap:=h' } #[I.ok,I.os,I.bare,#[λb o e n hb hx=>?_,λb o e n hb hx=>?_,I.base.free,λb o e hx=>?_,I.base.d9,I.base.e_,I.base.fQ],#[m,hn.sameBut hs (Ne.symm (pT x c hc)),λj y v' e1 e2 e3=>?_],λy c' e=>?_,I.free,I.dk,λp hp=>?_,tracked #[oc,IF,I.dk x c hc] hs,by simpa using I.len] #[c,hs,.inr hc]
 ·exact (hs.2 b (dD (gO (bW e) (I.ok.DA x c Q_ hc)))).trans (I.base.keep b o e n hb hx)
 ·let#[sl,e1]:=I.base.slot b o e n hb hx;exact#[sl,(hs.2 b (dD (gO (bW e) (I.ok.DA x c Q_ hc)))).trans e1]
 ·let#[o',e1]:=I.base.there b o e hx;exact#[o',(hs.2 b (dD (gO (bW e) (I.ok.DA x c Q_ hc)))).trans e1]
 ·by_cases hj:j=i
  ·subst hj;rw[hi] at e1;cases e1;rw[List.getElem?_set_self yK] at e2;cases e2;exact#[u,r,.inr #[.inl hk,c,hc,EJ]]
  rw[List.getElem?_set_ne (Ne.symm hj)] at e2;let#[u',r',q]:=hl j y v' e1 e2 e3;apply#[u',r',?_];rcases q with q|⟨k,c',e,z'⟩
  ·exact .inl q
  apply .inr #[k,c',e,z'.sameBut hs ?_];rintro rfl;exact hj (SF hN e1 (I.ok.inj _ _ _ e hc▸hi))
 ·by_cases X1:c'=c
  ·subst X1;exact#[_,EJ]
  let#[w2,z2]:=I.cell y c' e;exact#[w2,z2.sameBut hs X1]
 let#[e,n,ne,nf,d]:=I.pin p hp;apply#[(hs.2 p.1 ?_).trans e,n,ne,nf,d];intro q;rw[q,IF] at e;have q':oc=p.2:=c7 e;exact d w' (by rw[<- q'];exact QJ)
def NF{M:Model}{A:Ag}{E:Aa->Ab->Prop}{i:Nat}{x:Str}{v:V}{u:Aa}{Q:Unit->Ab->Prop}(I:!In H s)(hN:X.N.Nodup)(hi:X.N[i]? = some x)(hx:Loc X.env.scope x)(r:RelV v u)
 (h:∀s',Inv X π (σ.set i (some v)) H s'->Q () s')(hf:X.fn x=true∨X.env.scope.names.lookup x\.local:=by first|exact .inl Z|exact .inr Z|assumption):wpAny M A (storeName X.env x u) Q E s:=
 ZO I hN hi hx r (λs' I' _=>h s' I') hf
def Inv.jb{s':Ab}{ch:ai}(I:!In H s)(ho:s'.os=s.os)(u:Un (eB X.stack) ch H H' s.heap s'.heap)(ay:dP X.prog X.w H' s'.heap)(hg:AllBare s'.gens)
 (wZ:∀b∈ch,(b∈X.ex∨X.cw.heap.objs.size<=b)/\b≠X.env.locals/\(∀x c,X.env.cells.lookup x\c->c≠b)/\∀p∈X.pn++π,p.1≠b):!In H' s':=by
 let#[h',g',d',t',o']:=s';have e:o'=s.os:=ho;subst e;exact I.call (g':=g') (t':=t') (d':=d') u ay hg wZ
end
abbrev XK:=Aa->Option Addr->Hp->Prop
abbrev St:=List aQ
abbrev VK:=V->Hp->Prop
abbrev TE:=St->Hp->VK->Prop
abbrev TT:=St->Hp->(Bool->Hp->Prop)->Prop
abbrev TA:=St->Hp->(ag->Hp->Prop)->Prop
structure Ends where
 nx:St->Hp->Prop
 rt:VK
 bk:St->Hp->Prop:=λ_ _=>False
 ct:St->Hp->Prop:=λ_ _=>False
abbrev TS:=Ends->St->Hp->Prop
def EP(X:Cx)(π:List (Addr × Obj))(σ:St)(Q:VK)(u:Aa)(s':Ab):Prop:=∃v H',!In H' s'/\RelV v u/\Q v H'
def TP(X:Cx)(π:List (Addr × Obj))(σ:St)(Q:Bool->Hp->Prop)(b:Bool)(s':Ab):Prop:=∃H',!In H' s'/\Q b H'
def AP(X:Cx)(π:List (Addr × Obj))(σ:St)(Q:ag->Hp->Prop)(us:aj)(s':Ab):Prop:=∃vs H',!In H' s'/\Vals vs us/\Q vs H'
def SP(X:Cx)(π:List (Addr × Obj))(D:Ends)(f:Flow)(s':Ab):Prop:=
 match f with
 |.next=>∃bh H',Inv X π bh H' s'/\D.nx bh H'
 |.brk=>∃bh H',Inv X π bh H' s'/\D.bk bh H'
 |.cont=>∃bh H',Inv X π bh H' s'/\D.ct bh H'
 |.ret u=>∃v bh H',Inv X π bh H' s'/\RelV v u/\D.rt v H'
def PE(X:Cx)(e:Expr)(t:TE):Prop:=
 ∀(π:List (Addr × Obj)) (s:Ab) (σ:St) (H:Hp) (Q:VK),!In H s->t σ H Q->wpAny (model X.prog X.w) X.A (eval e X.env) (EP X π σ Q) X.xe s
def PT(X:Cx)(e:Expr)(t:TT):Prop:=
 ∀(π:List (Addr × Obj)) (s:Ab) (σ:St) (H:Hp) (Q:Bool->Hp->Prop),!In H s->t σ H Q->wpAny (model X.prog X.w) X.A (isTrue e X.env (eval e X.env)) (TP X π σ Q) X.xe s
def PW(X:Cx)(e:Expr)(t:TT):Prop:=
 ∀(whole:Sem Aa) (π:List (Addr × Obj)) (s:Ab) (σ:St) (H:Hp) (Q:Bool->Hp->Prop),!In H s->t σ H Q->wpAny (model X.prog X.w) X.A (isTrue e X.env whole) (TP X π σ Q) X.xe s
def PW.pt{X:Cx}{e:Expr}{t:TT}(h:PW X e t):PT X e t:=h _
def PA(X:Cx)(es:List Expr)(t:TA):Prop:=
 ∀(pos:Pos) (π:List (Addr × Obj)) (s:Ab) (σ:St) (H:Hp) (Q:ag->Hp->Prop),!In H s->t σ H Q->wpAny (model X.prog X.w) X.A (spliced (backTo pos (starEach es X.env))) (AP X π σ Q) X.xe s
def PS(X:Cx)(st:Stmt)(t:TS):Prop:=
 ∀(π:List (Addr × Obj)) (s:Ab) (σ:St) (H:Hp) (D:Ends),!In H s->t D σ H->wpAny (model X.prog X.w) X.A (exec st X.env) (SP X π D) X.xe s
def iy(X:Cx)(st:List Stmt)(t:TS):Prop:=
 ∀(π:List (Addr × Obj)) (s:Ab) (σ:St) (H:Hp) (D:Ends),!In H s->t D σ H->wpAny (model X.prog X.w) X.A (execs st X.env) (SP X π D) X.xe s
def aU{α:Type}{t:Sem α}{Q Q':α->Ab->Prop}{M:Model}{A:Ag}{E:Aa->Ab->Prop}{s:Ab}(h:wpAny M A t Q E s)(hQ:∀a s,Q a s->Q' a s):wpAny M A t Q' E s:=gD h hQ λ_ _ x=>x
end L2
abbrev oG:=L2.St->L2.Hp->Prop
abbrev bX:=Nat->L2.St->L2.Hp->Prop
abbrev eI:=Nat->List L2.V->L2.Hp->Prop
namespace L2
open PySem PySem.Spec PyProof.Rows
section
variable{X:Cx}
inductive sW(i:Nat)(σ:St)(H:Hp)(Q:VK):Prop
 |mk:∀v,σ[i]? = some (some v)->Q v H->sW i σ H Q
def tC(v:V):TE:=λ_ H Q=>Q v H
def li_{i:Nat}{x:Str}{pos:Pos}(hN:X.N[i]? = some x)(hv:UP X.env.scope x)(hd:(x == ("__debug__":Str))=false:=by decide)(fY:(x == ("__classdict__":Str))=false:=by decide):PE X (.Name x pos) (sW i):=by
 intro π s σ H Q I h;let#[v,e,h]:=h;let#[m,hn,hl]:=I.loc;let#[u,r,l]:=hl i x v hN e hv;have fin:EP X π σ Q u s:=#[v,H,I,r,h];rcases l with⟨hk,hm⟩|⟨hk,c,hc,pO⟩
 ·exact wpAny_Name (wpAny_loadName_local I.ok.kind hk hn hm fin) hd
 rcases hk with hk|hk
 ·exact wpAny_Name (wpAny_loadName_cell I.ok.kind hk hc pO fin) hd
 exact wpAny_Name (wpAny_loadName_free I.ok.kind hk hc pO fin fY) hd
def aH{i j pos}:PE X (.Constant (.int i) j pos) (tC (.int i)):=λ_ _ _ H _ I h=>wpAny_Constant_int #[.int i,H,I.tok _,#[_,Z],h]
def w9{b j pos}:PE X (.Constant (.bool b) j pos) (tC (.bl b)):=λ_ _ _ H _ I h=>Constant_bool #[.bl b,H,I,Z,h]
def vY{j pos}:PE X (.Constant .none j pos) (tC .non):=λ_ _ _ H _ I h=>Constant_none #[.non,H,I,Z,h]
def bL{x j pos}:PE X (.Constant (.str x) j pos) (tC (.str x)):=λ_ _ _ H _ I h=>Calls.Constant_str #[.str x,H,I.tok _,#[_,Z],h]
def Gl(X:Cx)(x:Str):Prop:=X.env.kindOf x=some .globalImplicit
def JW{E:Aa->Ab->Prop}{π:List (Addr × Obj)}{s:Ab}{σ:St}{H:Hp}{x:Str}{u:Aa}{pos:Pos}{Q:Aa->Ab->Prop}(I:!In H s)(hg:Gl X x)(hm:X.mg x\u)(h:Q u s)
 (hd:(x == ("__debug__":Str))=false:=by decide):wpAny (model X.prog X.w) X.A (eval (.Name x pos) X.env) Q E s:=
 Calls.Name_function_global I.ok.kind hg (Calls.loadGlobal_global (by rw[I.ok.glob];exact I.mod.glob.keeps I.bk) hm h) hd
def E7{E:Aa->Ab->Prop}{π:List (Addr × Obj)}{s:Ab}{σ:St}{H:Hp}{x:Str}{u:Aa}{pos:Pos}{Q:Aa->Ab->Prop}(I:!In H s)(hg:Gl X x)(hm:X.mg x=none)(hv:bootBuiltins x\u)(h:Q u s)
 (hn:x≠"__name__":=by decide)(hd:(x == ("__debug__":Str))=false:=by decide):wpAny (model X.prog X.w) X.A (eval (.Name x pos) X.env) Q E s:=by
 let#[mb,h1,h2]:=I.mod.blt;exact Calls.Name_function_global I.ok.kind hg (Calls.loadGlobal_builtin (by rw[I.ok.glob];exact I.mod.glob.keeps I.bk) hm (by rw[I.ok.blt];exact h1.keeps I.bk) ((h2 x hn).trans hv) h) hd
def qR{x:Str}{v:V}{u:Aa}{pos:Pos}(hg:Gl X x)(hm:X.mg x\u)(r:RelV v u)(hd:(x == ("__debug__":Str))=false:=by decide):PE X (.Name x pos) (tC v):=
 λ_ _ _ H _ I h=>JW I hg hm #[v,H,I,r,h] hd
def l7{x:Str}{v:V}{u:Aa}{pos:Pos}(hg:Gl X x)(hm:X.mg x=none)(hv:bootBuiltins x\u)(r:RelV v u)(hn:x≠"__name__":=by decide)(hd:(x == ("__debug__":Str))=false:=by decide):PE X (.Name x pos) (tC v):=
 λ_ _ _ H _ I h=>E7 I hg hm hv #[v,H,I,r,h] hn hd
variable{a b:Expr}{ta tb:TE}{pos:Pos}
def PC(X:Cx)(op:CmpOp)(a b:Expr)(t:TE):Prop:=
 ∀(π:List (Addr × Obj)) (s:Ab) (σ:St) (H:Hp) (Q:VK),!In H s->t σ H Q->
  wpAny (model X.prog X.w) X.A (eval a X.env) (λv aV=>wpAny (model X.prog X.w) X.A (eval b X.env) (λu fR=>wpAny (model X.prog X.w) X.A (compareOp op v u) (EP X π σ Q) X.xe fR) X.xe aV) X.xe s
def kC(b:Expr){op:CmpOp}(h:op≠.In)(h2:op≠.NotIn):behindInMarks op b=false:=by
 have e1:(op == CmpOp.In)=false:=by cases op<;>first|rfl|exact absurd Z h
 have e2:(op == CmpOp.NotIn)=false:=by cases op<;>first|rfl|exact absurd Z h2
 cases b<;>simp[behindInMarks,e1,e2]
def Oy(ta:TE):TE:=λσ H Q=>ta σ H λx H1=>Q (.bl (decide (x=.non))) H1
def RelV.vd{x:V}{v:Aa}(r:RelV x v):(v == Value.none)=decide (x=.non):=by
 cases x with
 |non=>cases r;rfl
 |bl _=>cases r;rfl
 |int _=>let#[t,rfl]:=r;rfl
 |str _=>let#[t,rfl]:=r;rfl
 |byt _=>let#[t,rfl]:=r;rfl
 |flt _=>let#[t,rfl]:=r;rfl
 |ref _=>cases r;rfl
 |ty _=>cases r;rfl
def MI{j pos'}(ha:PE X a ta):PC X .Is a (.Constant .none j pos') (Oy ta):=by
 intro π s σ H Q I h;apply aU (ha π s σ H _ I h) λv s1 ⟨x,H1,I1,r1,q1⟩=>?_;exact Constant_none (is_none_gen #[.bl _,H1,I1,by rw[r1.vd];rfl,q1])
inductive VA(Q:Bool->Hp->Prop)(x:V)(H1:Hp):Prop
 |mk:∀c,x=.bl c->Q c H1->VA Q x H1
def tB(t:TE):TT:=λσ H Q=>t σ H λx H1=>VA Q x H1
def JH{op:CmpOp}{t:TE}(h:PC X op a b t)(h1:behindInMarks op b=false:=by first|exact kC _ (by decide) (by decide)|rfl):PE X (.Compare a [op] [b] pos) t:=λπ s σ H Q I hw=>wpAny_Compare1 (h π s σ H Q I hw) h1
def xj{op:CmpOp}{t:TE}(h:PC X op a b t)(h1:behindInMarks op b=false:=by first|exact kC _ (by decide) (by decide)|rfl):PT X (.Compare a [op] [b] pos) (tB t):=by
 intro π s σ H Q I hw;apply wpAny_isTrue_Compare1 (aU (h π s σ H _ I hw) λv s1 h1=>aU h1 λu s2 h2=>aU h2 λc s3 ⟨x,H1,I1,r1,q1⟩=>?_) h1;let#[d,rfl,q]:=q1;cases r1;exact vW #[H1,I1,q]
def fo{e:Expr}{t:TE}(h:PE X e t)(he:∀whole,isTrue e X.env whole=(do let v <- whole;standAt e.pos;holding [v] (truthy v)):=by intro _;rfl):PT X e (tB t):=by
 intro π s σ H Q I hw;apply isTrue_plain (aU (h π s σ H _ I hw) λv s1 ⟨x,H1,I1,r1,q1⟩=>?_) (he _);let#[d,rfl,q]:=q1;cases r1;exact vW #[H1,I1,q]
variable{tA Lh:TT}{rest:List Expr}
def OC(t u:TT):TT:=λσ H Q=>t σ H λc H1=>if c=true then u σ H1 Q else Q false H1
def tOr(t u:TT):TT:=λσ H Q=>t σ H λc H1=>if c=true then Q true H1 else u σ H1 Q
def Ow(t:TT):TT:=λσ H Q=>t σ H λc H1=>Q (!c) H1
def Nh(ha:PT X a tA):PW X (.BoolOp .And [a] pos) tA:=by
 intro wh π s σ H Q I h;apply isTrue_and (aU (ha π s σ H Q I h) λc s1 e=>?_);cases c with
 |true=>exact isTrue_and_nil e
 |false=>exact e
def sr(ha:PT X a tA):PW X (.BoolOp .Or [a] pos) tA:=by
 intro wh π s σ H Q I h;apply isTrue_or (aU (ha π s σ H Q I h) λc s1 e=>?_);cases c with
 |false=>exact isTrue_or_nil e
 |true=>exact e
def JI(ha:PT X a tA)(hb:PW X (.BoolOp .And (b::rest) pos) Lh):PW X (.BoolOp .And (a::b::rest) pos) (OC tA Lh):=by
 intro wh π s σ H Q I h;apply isTrue_and (aU (ha π s σ H _ I h) λc s1 ⟨H1,I1,q1⟩=>?_);cases c with
 |true=>exact hb wh π s1 σ H1 Q I1 q1
 |false=>exact#[H1,I1,q1]
def rY(ha:PT X a tA)(hb:PW X (.BoolOp .Or (b::rest) pos) Lh):PW X (.BoolOp .Or (a::b::rest) pos) (tOr tA Lh):=by
 intro wh π s σ H Q I h;apply isTrue_or (aU (ha π s σ H _ I h) λc s1 ⟨H1,I1,q1⟩=>?_);cases c with
 |true=>exact#[H1,I1,q1]
 |false=>exact hb wh π s1 σ H1 Q I1 q1
def fP(ha:PT X a tA):PT X (.UnaryOp .Not a pos) (Ow tA):=by
 intro π s σ H Q I h;exact isTrue_not (ha π s σ H (λc H1=>Q (!c) H1) I h)
inductive tG(tb:TE)(σ:St)(Q:VK)(x:V)(H1:Hp):Prop
 |mk:∀c,x=.bl c->(if c=true then tb σ H1 Q else Q (.bl false) H1)->tG tb σ Q x H1
def Gy(ta tb:TE):TE:=λσ H Q=>ta σ H λx H1=>tG tb σ Q x H1
inductive zQ(tb:TE)(σ:St)(Q:VK)(x:V)(H1:Hp):Prop
 |mk:∀c,x=.bl c->(if c=true then Q (.bl true) H1 else tb σ H1 Q)->zQ tb σ Q x H1
def Ov(ta tb:TE):TE:=λσ H Q=>ta σ H λx H1=>zQ tb σ Q x H1
inductive s_(Q:VK)(x:V)(H1:Hp):Prop
 |mk:∀c,x=.bl c->Q (.bl (!c)) H1->s_ Q x H1
def Gn(ta:TE):TE:=λσ H Q=>ta σ H λx H1=>s_ Q x H1
def qQ{op}{t:TE}(h:PE X a t):PE X (.BoolOp op [a] pos) t:=λπ s σ H Q I hw=>BoolOp_one (h π s σ H Q I hw)
def qO(ha:PE X a ta)(hb:PE X (.BoolOp .And (b::rest) pos) tb):PE X (.BoolOp .And (a::b::rest) pos) (Gy ta tb):=by
 intro π s σ H Q I h;apply BoolOp_and (aU (ha π s σ H _ I h) λv s1 ⟨x,H1,I1,r1,q1⟩=>?_);let#[c,rfl,q1]:=q1;cases r1;apply vW ?_;cases c with
 |true=>exact hb π s1 σ H1 Q I1 q1
 |false=>exact#[.bl false,H1,I1,Z,q1]
def Wz(ha:PE X a ta)(hb:PE X (.BoolOp .Or (b::rest) pos) tb):PE X (.BoolOp .Or (a::b::rest) pos) (Ov ta tb):=by
 intro π s σ H Q I h;apply BoolOp_or (aU (ha π s σ H _ I h) λv s1 ⟨x,H1,I1,r1,q1⟩=>?_);let#[c,rfl,q1]:=q1;cases r1;apply vW ?_;cases c with
 |false=>exact hb π s1 σ H1 Q I1 q1
 |true=>exact#[.bl true,H1,I1,Z,q1]
def lO_(ha:PE X a ta):PE X (.UnaryOp .Not a pos) (Gn ta):=by
 intro π s σ H Q I h;apply UnaryOp_ (aU (ha π s σ H _ I h) λv s1 ⟨x,H1,I1,r1,q1⟩=>?_);let#[c,rfl,q1]:=q1;cases r1;exact not_of (vW #[.bl (!c),H1,I1,Z,q1])
def tIf(t:TT)(ta tb:TE):TE:=λσ H Q=>t σ H λc H1=>if c=true then ta σ H1 Q else tb σ H1 Q
def j6_{c:Expr}(hc:PT X c tA)(ha:PE X a ta)(hb:PE X b tb):PE X (.IfExp c a b pos) (tIf tA ta tb):=by
 intro π s σ H Q I h;apply wpAny_IfExp (aU (hc π s σ H _ I h) λd s1 ⟨H1,I1,q1⟩=>?_);cases d with
 |true=>exact ha π s1 σ H1 Q I1 q1
 |false=>exact hb π s1 σ H1 Q I1 q1
end
def dU(K:af)(H:Hp)(a:Addr)(xs:ag):Prop:=
 Rd H a (.lst xs) ∨
  ∃(o:Obj) (its:Array Aa) (n:Nat),K.lookup a\o/\o.cls=.type "list"/\o.dict=none/\o.data=.seq its n/\its.size<=sizeLine/\Vals xs its.toList
def iw(K:af)(H:Hp)(a:Addr)(xs:ag):Prop:=
 Rd H a (.tup xs) ∨
  ∃(o:Obj) (its:Array Aa) (n:Nat),K.lookup a\o/\o.cls=.type "tuple"/\o.data=.seq its n/\its.size<=sizeLine/\Vals xs its.toList
def UO:Aa->aQ
 |.none=>some .non
 |.bool b=>some (.bl b)
 |.int i _=>some (.int i)
 |.str x _=>some (.str x)
 |.bytes b _=>some (.byt b)
 |.float b _=>some (.flt b)
 |.ref a=>some (.ref a)
 |.type n=>some (.ty n)
 |_=>none
def RelV.abs{x:V}{u:Aa}(r:RelV x u):UO u\x:=by
 cases x with
 |non=>cases r;rfl
 |bl _=>cases r;rfl
 |int _=>let#[t,rfl]:=r;rfl
 |str _=>let#[t,rfl]:=r;rfl
 |byt _=>let#[t,rfl]:=r;rfl
 |flt _=>let#[t,rfl]:=r;rfl
 |ref _=>cases r;rfl
 |ty _=>cases r;rfl
def RelV.inj{x y:V}{u:Aa}(r:RelV x u)(q:RelV y u):x=y:=c7 (r.abs.symm.trans q.abs)
def Vals.inj:∀{xs ys:ag}{us:aj},Vals xs us->Vals ys us->xs=ys
 |_,_,_,.nil,.nil=>rfl
 |_,_,_,.cons r t,.cons r' t'=>by rw[r.inj r',Vals.inj t t']
section
variable{X:Cx}{π:List (Addr × Obj)}{σ:St}{H:Hp}{s:Ab}{a:Addr}{xs ys:ag}
def dU.of{K:af}(h:H a\.lst xs):dU K H a xs:=.inl (.inl h)
def iw.of{K:af}(h:H a\.tup xs):iw K H a xs:=.inl (.inl h)
def Inv.list(I:!In H s)(h:dU X.K H a xs):∃its:aj,Vals xs its/\PlainL s.heap a its.toArray/\xs.length<=sizeLine:=by
 rcases h with h|⟨o,its,n,hk,hc,hd,hs,hz,r⟩
 ·let#[z,its,n,r,e]:=h.ok I.ay;exact#[its,r,#[_,n,e,Z,Z,Z],z]
 apply#[its.toList,r,#[o,n,I.fG a o hk,hc,hd,by simpa using hs],?_];let e:=r.length;simp only[we] at e;omega
def Inv.tuple(I:!In H s)(h:iw X.K H a xs):∃its:aj,Vals xs its/\IsTup s.heap a its.toArray/\xs.length<=sizeLine:=by
 rcases h with h|⟨o,its,n,hk,hc,hs,hz,r⟩
 ·let#[z,its,r,p,_]:=h.ok I.ay;exact#[its,r,p,z]
 apply#[its.toList,r,#[o,I.fG a o hk,hc,n,by simpa using hs],?_];let e:=r.length;simp only[we] at e;omega
def Inv.kE(I:!In H s)(h:dU X.K H a xs)(h':dU X.K H a ys):xs=ys:=by
 let#[its,r,#[o,n,e,_,_,d],_]:=I.list h;let#[its',r',#[o',n',e',_,_,d'],_]:=I.list h';rw[e] at e';cases e';rw[d] at d'
 injection d' with d1 _
 have:its=its':=⇑(dH Array.toList d1)
 subst this;exact r.inj r'
def Inv.i4(I:!In H s)(h:iw X.K H a xs)(h':iw X.K H a ys):xs=ys:=by
 let#[its,r,#[o,e,_,n,d],_]:=I.tuple h;let#[its',r',#[o',e',_,n',d'],_]:=I.tuple h';rw[e] at e';cases e';rw[d] at d'
 injection d' with d1 _
 have:its=its':=⇑(dH Array.toList d1)
 subst this;exact r.inj r'
end
abbrev Cx.eM(X:Cx)(E:Aa->Ab->Prop):Cx:={ X with xe:=E }
abbrev Cx.pB(X:Cx):Cx:=X.eM λ_ _=>False
def Cx.Ok.eM{X:Cx}(ok:X.Ok)(E:Aa->Ab->Prop):(X.eM E).Ok:=
 #[ok.mod,ok.kind,ok.glob,ok.blt,ok.above,ok.inj,ok.has,ok.DA,ok.hd,ok.frames,ok.Gz,ok.JG,ok.bs,ok.r_,ok.qo,ok.qI,ok.fI,ok.w4]
def Cx.Ok.bM{X:Cx}{E:Aa->Ab->Prop}(ok:(X.eM E).Ok):X.Ok:=
 #[ok.mod,ok.kind,ok.glob,ok.blt,ok.above,ok.inj,ok.has,ok.DA,ok.hd,ok.frames,ok.Gz,ok.JG,ok.bs,ok.r_,ok.qo,ok.qI,ok.fI,ok.w4]
section
variable{X:Cx}{π:List (Addr × Obj)}{σ:St}{H:Hp}{s:Ab}{E:Aa->Ab->Prop}
def Inv.eM(I:!In H s)(E:Aa->Ab->Prop):Inv (X.eM E) π σ H s:=#[I.ok.eM E,I.os,I.bare,I.base,I.loc,I.cell,I.free,I.dk,I.pin,I.ay,I.len]
def Inv.bM(I:Inv (X.eM E) π σ H s):!In H s:=#[I.ok.bM,I.os,I.bare,I.base,I.loc,I.cell,I.free,I.dk,I.pin,I.ay,I.len]
def SP.bM{D:Ends}{f:Flow}{s':Ab}(h:SP (X.eM E) π D f s'):SP X π D f s':=by
 cases f with
 |next=>let#[bh,H',I,q]:=h;exact#[bh,H',I.bM,q]
 |brk=>let#[bh,H',I,q]:=h;exact#[bh,H',I.bM,q]
 |cont=>let#[bh,H',I,q]:=h;exact#[bh,H',I.bM,q]
 |ret u=>let#[v,bh,H',I,r,q]:=h;exact#[v,bh,H',I.bM,r,q]
def iy.pB{st:List Stmt}{t:TS}(h:iy X.pB st t):iy X st t:=λπ s σ H D I hw=>
 gD (h π s σ H D (I.eM _) hw) (λ_ _ q=>q.bM) λ_ _ z=>False.elim z
end
section
variable{X:Cx}{st:Stmt}{rest:List Stmt}{t u:TS}{e:Expr}{te:TE}{pos:Pos}
def Gp:TS:=λD σ H=>D.nx σ H
def Bn(t u:TS):TS:=λD σ H=>t { D with nx:=u D } σ H
def bR:iy X [] Gp:=λ_ _ σ H _ I h=>wpAny_execs_nil #[σ,H,I,h]
def ao(h1:PS X st t)(h2:iy X rest u):iy X (st::rest) (Bn t u):=by
 intro π s σ H D I h;apply wpAny_execs_cons (aU (h1 π s σ H { D with nx:=u D } I h) λf s1 q=>?_);cases f with
 |next=>
  let#[bh,H',I',q]:=q;exact h2 π s1 bh H' D I' q
 |ret v=>exact q
 |brk=>exact q
 |cont=>exact q
def aK(h1:PS X st t):iy X [st] t:=by
 intro π s σ H D I h;apply wpAny_execs_cons (aU (h1 π s σ H D I h) λf s1 q=>?_);cases f with
 |next=>exact wpAny_execs_nil q
 |ret v=>exact q
 |brk=>exact q
 |cont=>exact q
def Inv.quiet{π:List (Addr × Obj)}{σ:St}{H:Hp}{s:Ab}(I:!In H s):interactive X.env=false:=by simp[interactive,I.ok.kind]
def Gv(te:TE):TS:=λD σ H=>te σ H λ_ H1=>D.nx σ H1
def iX(he:PE X e te)(hs:swapsWith e none pos.line X.env=pure false:=by rfl):PS X (.Expr e pos) (Gv te):=by
 intro π s σ H D I h;exact wpAny_Expr_any (aU (he π s σ H _ I h) λv s1 ⟨x,H1,I1,r1,q1⟩=>#[σ,H1,I1,q1]) I.quiet hs
def Gi(te:TE):TS:=λD σ H=>te σ H D.rt
def bw(he:PE X e te):PS X (.Return (some e) pos) (Gi te):=by
 intro π s σ H D I h;exact wpAny_Return_some (aU (he π s σ H _ I h) λv s1 ⟨x,H1,I1,r1,q1⟩=>#[x,σ,H1,I1,r1,q1])
def Gu(c:TT)(t u:TS):TS:=λD σ H=>c σ H λb H1=>if b=true then t D σ H1 else u D σ H1
def bQ{c:Expr}{a b:List Stmt}{tc:TT}(hc:PT X c tc)(ha:iy X a t)(hb:iy X b u):PS X (.If c a b pos) (Gu tc t u):=by
 intro π s σ H D I h;apply wpAny_If (aU (hc π s σ H _ I h) λd s1 ⟨H1,I1,q1⟩=>?_);cases d with
 |true=>exact ha π s1 σ H1 D I1 q1
 |false=>exact hb π s1 σ H1 D I1 q1
def tj:TS:=λ_ _ _=>False
def jE_:PS X st tj:=λ_ _ _ _ _ _ h=>h.elim
def fC{sts:List Stmt}:iy X sts tj:=λ_ _ _ _ _ _ h=>h.elim
end
abbrev TG:=V->St->Hp->(St->Hp->Prop)->Prop
abbrev Ea:=ag->St->Hp->(St->Hp->Prop)->Prop
def PG(X:Cx)(target:Expr)(t:TG):Prop:=
 ∀(π:List (Addr × Obj)) (s:Ab) (σ:St) (H:Hp) (v:V) (u:Aa) (Q:oG),!In H s->RelV v u->t v σ H Q->
  wpAny (model X.prog X.w) X.A (assign target X.env u) (λ_ s'=>∃bh H',Inv X π bh H' s'/\Q bh H') X.xe s
def K5(X:Cx)(ts:List Expr)(t:Ea):Prop:=
 ∀(π:List (Addr × Obj)) (s:Ab) (σ:St) (H:Hp) (vs:ag) (us:aj) (Q:oG),!In H s->Vals vs us->t vs σ H Q->
  wpAny (model X.prog X.w) X.A (assignInOrder ((assignEach ts X.env).map (·.2)) us) (λ_ s'=>∃bh H',Inv X π bh H' s'/\Q bh H') X.xe s
abbrev D_:=V->V->V->Hp->(Hp->Prop)->Prop
def K4(X:Cx)(t:D_):Prop:=
 ∀(π:List (Addr × Obj)) (s:Ab) (σ:St) (H:Hp) (o i v:V) (ov iv u:Aa) (Q:Hp->Prop),!In H s->RelV o ov->RelV i iv->RelV v u->t o i v H Q->
  wpAny (model X.prog X.w) X.A (setItem ov iv u) (λ_ s'=>∃H',!In H' s'/\Q H') X.xe s
section
variable{X:Cx}{pos:Pos}
def gZ(i:Nat):TG:=λv σ H Q=>Q (σ.set i (some v)) H
def gy{i:Nat}{x:Str}(hN:X.N.Nodup)(hi:X.N[i]? = some x)(hx:Loc X.env.scope x)(hf:X.fn x=true∨X.env.scope.names.lookup x\.local:=by first|exact .inl Z|exact .inr Z|assumption):PG X (.Name x pos) (gZ i):=by
 intro π s σ H v u Q I r h;exact wpAny_assign_Name (NF I hN hi hx r (λs' I'=>#[_,H,I',h]) hf)
def iV:type_of% PyProof.Rows.Boot.«isinstance»:=PyProof.Rows.Boot.«isinstance»
def Fb:type_of% PyProof.Rows.Boot.«str»:=PyProof.Rows.Boot.«str»
def NI:type_of% PyProof.Rows.Boot.«tuple»:=PyProof.Rows.Boot.«tuple»
def A6:type_of% PyProof.Rows.Boot.«list»:=PyProof.Rows.Boot.«list»
def Fu:type_of% PyProof.Rows.Boot.«sorted»:=PyProof.Rows.Boot.«sorted»
def Fp:type_of% PyProof.Rows.Boot.«dict»:=PyProof.Rows.Boot.«dict»
def Rq:type_of% PyProof.Rows.Boot.«max»:=PyProof.Rows.Boot.«max»
def VU(i:Nat){x:Str}(hN:X.N.Nodup:=by first|(show ([_]:List Str).Nodup;decide +kernel)|(show ([_,_]:List Str).Nodup;decide +kernel)|(show ([_,_,_]:List Str).Nodup;decide +kernel)|(show ([_,_,_,_]:List Str).Nodup;decide +kernel))(hi:X.N[i]? = some x:=by rfl)(hx:Loc X.env.scope x:=by first|exact Or.inl Z|exact Or.inr Z)(hf:X.fn x=true∨X.env.scope.names.lookup x\.local:=by first|exact .inl Z|exact .inr Z|assumption):PG X (.Name x pos) (gZ i):=gy hN hi hx hf
def dF(i:Nat){x:Str}(hN:X.N.Nodup)(hi:X.N[i]? = some x:=by rfl)(hx:Loc X.env.scope x:=by first|exact Or.inl Z|exact Or.inr Z)(hf:X.fn x=true∨X.env.scope.names.lookup x\.local:=by first|exact .inl Z|exact .inr Z|assumption):PG X (.Name x pos) (gZ i):=gy hN hi hx hf
def yQ:Ea:=λvs σ H Q=>vs=[]/\Q σ H
inductive xk(t:TG)(u:Ea)(vs:ag)(σ:St)(H:Hp)(Q:oG):Prop
 |mk:∀v r,vs=v::r->(t v σ H λbh H'=>u r bh H' Q)->xk t u vs σ H Q
def kZ:K5 X [] yQ:=by
 intro π s σ H vs us Q I r h;let#[e,h]:=h;subst e;cases r;exact assignInOrder_nil ⟨σ,H,I,h⟩
def eF{e:Expr}{es:List Expr}{t:TG}{u:Ea}(h1:PG X e t)(h2:K5 X es u)
 (hs:(assignEach (e::es) X.env).map (·.2)=assign e X.env::(assignEach es X.env).map (·.2):=by rfl):K5 X (e::es) (xk t u):=by
 intro π s σ H vs us Q I r h;let#[v,vr,e1,h]:=h;subst e1;cases r with
 |cons r rr=>
  rw[hs];apply assignInOrder_cons (aU (h1 π s σ H _ _ _ I r h) λ_ s1 ⟨oJ,H1,I1,q1⟩=>?_);exact h2 π s1 oJ H1 _ _ Q I1 rr q1
inductive kK(K:af)(n:Nat)(t:Ea)(v:V)(σ:St)(H:Hp)(Q:oG):Prop
 |mk:∀a xs,v=.ref a->iw K H a xs->xs.length=n->t xs σ H Q->kK K n t v σ H Q
def qP{es:List Expr}{k:Nat}{t:Ea}{n:Nat}(hc:X.calm=true)(h:K5 X es t)
 (hn:(assignEach es X.env).length=n:=by rfl)(gT:(assignEach es X.env).findIdx? (·.1)=none:=by rfl):PG X (.Tuple es k pos) (kK X.K n t):=by
 intro π s σ H v u Q I r hw;let#[a,xs,e1,hq,hl,hw]:=hw;subst e1;cases r;let#[its,rv,ht,hz]:=I.tuple hq;apply assign_Tuple_tuple (I.ok.hd hc) ht (by simp[hn,<- hl,rv.length]) gT λh' hx=>?_;have I1:!In H { s with heap:=h' }:=I.kept (t':=s.toks) λb o e=>hx b o (dD (bW e)) e;exact h π _ σ H xs _ Q I1 ⇑rv hw
def RI(to ti:TE)(t:D_):TG:=λv σ H Q=>to σ H λo H1=>ti σ H1 λi H2=>t o i v H2 λH3=>Q σ H3
def Qo{o i:Expr}{to ti:TE}{t:D_}(ho:PE X o to)(hi:PE X i ti)(hs:K4 X t)
 (ha:∀v,assign (.Subscript o i pos) X.env v=(do
   let ov <- holding [v] (eval o X.env)
   let iv <- holding [v,ov] (eval i X.env)
   standAt pos
   holding [v,ov,iv] (setItem ov iv v)
   release [v,ov,iv] []):=by intro _;rfl):PG X (.Subscript o i pos) (RI to ti t):=by
 intro π s σ H v u Q I r h;rw[ha];apply au (pV (aU (ho π s σ H _ I h) λov s1 ⟨x,H1,I1,r1,q1⟩=>?_));apply au (pV (aU (hi π s1 σ H1 _ I1 q1) λiv s2 ⟨y,H2,I2,r2,q2⟩=>?_));apply au (wpAny_standAt (au (pV (aU (hs π s2 σ H2 x y v ov iv u _ I2 r1 r2 r q2) λ_ s3 ⟨H3,I3,q3⟩=>?_))));exact wpAny_release #[σ,H3,I3,q3]
def xI(te:TE)(g:TG):TS:=λD σ H=>te σ H λx H1=>g x σ H1 D.nx
def JJ{tg e:Expr}{te:TE}{g:TG}(he:PE X e te)(hg:PG X tg g)(hs:swapsWithSole [tg] e pos.line X.env=pure false:=by rfl)(hw:swappedStores [tg] e X.env=pure none:=by rfl)
 (h1:(assignEach [tg] X.env).map (·.2)=[assign tg X.env]:=by rfl):PS X (.Assign [tg] e pos) (xI te g):=by
 intro π s σ H D I h;apply wpAny_Assign_stores (aU (he π s σ H _ I h) λv s1 ⟨x,H1,I1,r1,q1⟩=>?_) hs hw;rw[h1];exact aU (hg π s1 σ H1 x v _ I1 r1 q1) λ_ s2 q=>q
def E_{i:Nat}{x:Str}{e:Expr}{te:TE}{pos':Pos}(hN:X.N.Nodup)(hi:X.N[i]? = some x)(hx:Loc X.env.scope x)(he:PE X e te)(hs:swapsWith e (some (.Name x pos')) pos.line X.env=pure false:=by rfl)(hf:X.fn x=true∨X.env.scope.names.lookup x\.local:=by first|exact .inl Z|exact .inr Z|assumption):
  PS X (.Assign [.Name x pos'] e pos) (xI te (gZ i)):=by
 intro π s σ H D I h;apply wpAny_Assign_Name (aU (he π s σ H _ I h) λv s1 ⟨y,H1,I1,r1,q1⟩=>?_) hs;exact NF I1 hN hi hx r1 (λs2 I2=>#[_,H1,I2,q1]) hf
def bC(i:Nat){x:Str}{e:Expr}{te:TE}{pos':Pos}(hN:X.N.Nodup)(he:PE X e te)(hi:X.N[i]? = some x:=by rfl)(hx:Loc X.env.scope x:=by first|exact Or.inl Z|exact Or.inr Z)(hs:swapsWith e (some (.Name x pos')) pos.line X.env=pure false:=by rfl)(hf:X.fn x=true∨X.env.scope.names.lookup x\.local:=by first|exact .inl Z|exact .inr Z|assumption):PS X (.Assign [.Name x pos'] e pos) (xI te (gZ i)):=E_ hN hi hx he hs hf
def sU(c:TT)(tb:TS):TS:=λD σ H=>∃W:Nat->St->Hp->Prop,(∃m,W m σ H)/\∀m σ H,W m σ H->
 c σ H λb H1=>if b=true then ∃N:St->Hp->Prop,(∀bh H',N bh H'->∃m',m'<m/\W m' bh H')/\tb { D with nx:=N,ct:=N,bk:=D.nx } σ H1 else D.nx σ H1
def Yv{c:Expr}{body:List Stmt}{tc:TT}{tb:TS}(hp:PassesOwn (model X.prog X.w) X.A X.env X.xe)(hc:PT X c tc)(hb:iy X body tb):PS X (.While c body [] pos) (sU tc tb):=by
 intro π s σ H D I h;let#[W,#[m0,w0],turn]:=h;apply wpAny_While (codeAny_whileLoop (λn s'=>∃bh H',Inv X π bh H' s'/\W n bh H') ?_ m0 #[σ,H,I,w0]);rintro n s1 ⟨oJ,H1,I1,w1⟩;apply wpAny_passesOwn hp (aU (hc π s1 oJ H1 _ I1 (turn n oJ H1 w1)) λb s2 ⟨H2,I2,q2⟩=>?_);cases b with
 |true=>
  let#[N,hN,q2]:=q2;rw[aF Z];apply wpAny_passesOwn hp (aU (hb π s2 oJ H2 _ I2 q2) λf s3 q3=>?_);cases f with
  |next=>
   let#[lL,H3,I3,n3]:=q3;let#[m',hm,w3]:=hN lL H3 n3;exact#[m',hm,lL,H3,I3,w3]
  |cont=>
   let#[lL,H3,I3,n3]:=q3;let#[m',hm,w3]:=hN lL H3 n3;exact#[m',hm,lL,H3,I3,w3]
  |brk=>exact q3
  |ret v=>exact q3
 |false=>
  rw[aA iu];exact wpAny_execs_nil #[oJ,H2,I2,q2]
end
structure It where
 go:Nat->Hp->Prop
 iG:Nat->Hp->V->Hp->Prop
 stop:Nat->Hp->Prop
def dc(X:Cx)(π:List (Addr × Obj))(H:Hp)(b:Addr):Prop:=
 H b=none/\b≠X.env.locals/\b∉X.fs/\(b∈X.ex∨X.cw.heap.objs.size<=b)/\(∀x c,X.env.cells.lookup x\c->c≠b)/\∀p∈X.pn++π,p.1≠b
def Inv.kL{X:Cx}{π:List (Addr × Obj)}{σ:St}{H H':Hp}{s:Ab}{b:Addr}(I:!In H s)(hb:s.heap.objs.size<=b)(hn:H' b=none):dc X π H' b:=by
 apply#[hn,xx (gO I.lt hb),I.Pt hb,.inr (ma I.sz hb),λx c e z=>?_,λp hp z=>?_]
 ·let#[v,q]:=I.cell x c e;exact absurd (gO q.lt (by rw[z];exact hb)) (zA _)
 exact absurd (gO (bW (I.pin p hp).1) (by rw[z];exact hb)) (zA _)
structure Turn(P:Ad)(w:Af)(K:af)(tg:Expr)(J:It)(fp:ai)(it:Addr)(tn:Nat->Heap->Prop):Prop where
 mem:it∈fp
 obj:∀i h,tn i h->∀b∈fp,∃o,h.get? b\o/\∀v,o.data≠.cell v
 keep:∀i h h',tn i h->(∀b∈fp,∀o,h.get? b\o->h'.get? b\o)->tn i h'
 item:∀(X:Cx),X.prog=P->X.w=w->X.K=K->X.calm=true->∀(i:Nat) (π:List (Addr × Obj)) (s:Ab) (σ:St) (H:Hp) (E:Aa->Ab->Prop),!In H s->(∀b∈fp,dc X π H b)->tn i s.heap->J.go i H->
  wpAny (model P w) X.A (pyNext (.ref it)) (λr s1=>∃u,r\u /\
   wpAny (model P w) X.A (letOwnedTupleGo tg (.ref it) u) (λ_ s2=>∃x H',!In H' s2/\RelV x u/\J.iG i H x H'/\tn (i+1) s2.heap/\∀b∈fp,H' b=none) E s1) E s
 done:∀(X:Cx),X.prog=P->X.w=w->X.K=K->X.calm=true->∀(i:Nat) (π:List (Addr × Obj)) (s:Ab) (σ:St) (H:Hp) (E:Aa->Ab->Prop),!In H s->(∀b∈fp,dc X π H b)->tn i s.heap->J.stop i H->
  wpAny (model P w) X.A (pyNext (.ref it)) (λr s1=>r=none/\!In H s1) E s
 self:∀(A:Ag) (i:Nat) (s:Ab) (Q:Aa->Ab->Prop) (E:Aa->Ab->Prop),tn i s.heap->Q (.ref it) s->wpAny (model P w) A (pyIter (.ref it)) Q E s
abbrev TI:=St->Hp->(It->Hp->Prop)->Prop
def PIE(X:Cx)(π:List (Addr × Obj))(σ:St)(tg:Expr)(R:It->Hp->Prop)(LZ:Aa)(s2:Ab):Prop:=
 ∃(it:Addr) (fp:ai) (tn:Nat->Heap->Prop) (J:It) (H':Hp),LZ=.ref it/\!In H' s2/\Turn X.prog X.w X.K tg J fp it tn/\tn 0 s2.heap/\(∀b∈fp,dc X π H' b)/\R J H'
def PI(X:Cx)(tg iter:Expr)(wi:TI):Prop:=
 ∀(π:List (Addr × Obj)) (s:Ab) (σ:St) (H:Hp) (R:It->Hp->Prop),!In H s->wi σ H R->
  wpAny (model X.prog X.w) X.A (eval iter X.env) (λv s1=>wpAny (model X.prog X.w) X.A (pyIter v) (PIE X π σ tg R) X.xe s1) X.xe s
def Ia{M:Model}{A:Ag}{E:Aa->Ab->Prop}{s:Ab}{tg:Expr}{it:Addr}{u:Aa}{o:Obj}{n:String}{vs:Array Aa}{Q:Unit->Ab->Prop}(ho:s.heap.get? it\o)(hc:o.cls=.type n)(hd:o.data=.fields vs)
 (hn:["enumerate","zip","dict_itemiterator","dict_reverseitemiterator","odict_iterator","itertools.zip_longest","itertools.pairwise"].contains n=false)(hQ:Q () s):wpAny M A (letOwnedTupleGo tg (.ref it) u) Q E s:=by
 unfold letOwnedTupleGo
 cases tg<;>first
  |exact bu hQ
  |(cases u<;>first
    |exact bu hQ
    |(apply au (wpAny_load ho ?_)
      rw[hc,hd];show wpAny M A (if (["enumerate","zip","dict_itemiterator","dict_reverseitemiterator","odict_iterator","itertools.zip_longest","itertools.pairwise"].contains n&&vs[0]? == some (rawInt _))=true then _ else _) Q E s;rw[aA (by intro h;rw[hn,Bool.false_and] at h;cases h)];exact bu hQ))
def Ed(K:af)(a:Addr):It:=
 ⟨λi H=>∃xs x,dU K H a xs/\xs[i]? = some x,λi H x H'=>H'=H/\∀xs,dU K H a xs->xs[i]? = some x,λi H=>∃xs,dU K H a xs/\xs.length<=i⟩
def FO(lo:Int)(n:Nat):It:=⟨λi _=>i<n,λi H x H'=>H'=H/\x=.int (lo+i),λi _=>n<=i⟩
def hH_{P:Ad}{w:Af}{K:af}{tg:Expr}(a it:Addr):Turn P w K tg (Ed K a) [it] it (λi h=>h.IsListIter it a i) where
 mem:=by simp
 obj:=λi h st b hb=>by
  have e:b=it:=⇑hb
  subst e;let#[o,e,c,d]:=st;exact#[o,e,λv z=>by rw[d] at z;cases z]
 keep:=λi h h' st k=>st.at λo e=>k it Z2 o e
 item:=by
  intro X hP hw hK hc i π s σ H E I hf st hg;subst hP hw hK;let#[xs,x,hq,hx]:=hg;let#[its,rv,p,hz]:=I.list hq;let#[u,hu,ru]:=rv.get hx;let#[f0,f1,f2,f3,f4,f5]:=hf it Z2;apply wpAny_pyNext_list_item st p.isList (x:=u) ⇑hu λh' fu sb=>?_;have I1:!In H { s with heap:=h' }:=I.turned (t':=s.toks) (λb o hb e=>(sb.2 b hb).trans e) f0 f1 f3 f4 f5;let#[o,e,c,d]:=id fu;exact#[u,Z,Ia (s:={ s with heap:=h' }) e c d (by decide) #[x,H,I1,ru,#[Z,λys hy=>by rw[I.kE hy hq];exact hx],fu,λb hb=>(hf b hb).1]]
 done:=by
  intro X hP hw hK hc i π s σ H E I hf st hg;subst hP hw hK;let#[xs,hq,hx]:=hg;let#[its,rv,p,hz]:=I.list hq;let#[f0,f1,f2,f3,f4,f5]:=hf it Z2;let hl:=rv.length;exact wpAny_pyNext_list_end (I.ok.hd hc) st p.isList (by simp;omega) λh' eb=>#[Z,I.turned (t':=s.toks) (λb o hb e=>eb b o hb e) f0 f1 f3 f4 f5]
 self:=λ_ _ _ _ _ st h=>wpAny_pyIter_listiter st h
def gn_{P:Ad}{w:Af}{K:af}{tg:Expr}(it:Addr)(lo:Int)(n:Nat):Turn P w K tg (FO lo n) [it] it (λi h=>IsRangeIter h it (lo+(i:Nat) * 1) ((n:Int) - (i:Nat)) 1) where
 mem:=by simp
 obj:=λi h st b hb=>by
  have e:b=it:=⇑hb
  subst e
  exact#[_,st,λv z=>by
   have z':Data.fields _=Data.cell v:=z;cases z']
 keep:=λi h h' st k=>k it Z2 _ st
 item:=by
  intro X hP hw hK hc i π s σ H E I hf st hg;subst hP hw hK;let#[f0,f1,f2,f3,f4,f5]:=hf it Z2;let W:=Walks.range (prog:=X.prog) (w:=X.w) (I.ok.hd hc) it lo 1 n;apply W.item i s _ _ hg st λv h' tk hv fu kk=>?_;let#[t,rfl]:=hv;have I1:!In H { s with heap:=h',toks:=tk }:=I.turned (λb o hb e=>kk b o ⇑hb e) f0 f1 f3 f4 f5;apply#[_,Z,Ia (s:={ s with heap:=h',toks:=tk }) (n:="range_iterator") fu Z Z (by decide) #[.int (lo+i),H,I1,#[t,?_],#[Z,Z],fu,λb hb=>(hf b hb).1]];rw[Int.mul_one]
 done:=by
  intro X hP hw hK hc i π s σ H E I hf st hg;subst hP hw hK;let#[f0,f1,f2,f3,f4,f5]:=hf it Z2;exact wpAny_pyNext_range_end (I.ok.hd hc) st (by have:n<=i:=hg;omega) λh' eb=>#[Z,I.turned (t':=s.toks) (λb o hb e=>eb b o hb e) f0 f1 f3 f4 f5]
 self:=λ_ _ _ _ _ st h=>wpAny_pyIter_rangeiter st h
section
variable{X:Cx}{tg:Expr}
inductive vy(K:af)(R:It->Hp->Prop)(x:V)(H1:Hp):Prop
 |mk:∀a,x=.ref a->(∃xs,dU K H1 a xs)->R (Ed K a) H1->vy K R x H1
def Ih(K:af)(tl:TE):TI:=λσ H R=>tl σ H λx H1=>vy K R x H1
def eS{l:Expr}{tl:TE}(hl:PE X l tl):PI X tg l (Ih X.K tl):=by
 intro π s σ H R I h;apply aU (hl π s σ H _ I h) λv s1 ⟨x,H1,I1,r1,q1⟩=>?_;let#[a,e,#[xs,hq],q]:=q1;subst e;cases r1;let#[its,rv,p,hz]:=I1.list hq;apply wpAny_pyIter_list p.isList ?_;apply#[s1.heap.objs.size,[s1.heap.objs.size],_,_,H1,Z,I1.kept (t':=s1.toks) λb o e=>b_ _ e,hH_ a _,#[_,eL _ Z,Z,Z],λb hb=>?_,q];have e:b=s1.heap.objs.size:=⇑hb
 subst e;exact I1.kL (bD _) (I1.ay.fresh (bD _))
def js_{π:List (Addr × Obj)}{σ:St}{H:Hp}{s:Ab}{R:It->Hp->Prop}{E:Aa->Ab->Prop}{lo hi:Int}{t u v:Tok}{tk:Nat}(I:!In H s)(h1:-(2 ^ 62)<=lo)(h2:lo<2 ^ 62)(h3:-(2 ^ 62)<=hi)(h4:hi<2 ^ 62)
 (q:R (FO lo (hi - lo).toNat) H):wpAny (model X.prog X.w) X.A (pyIter (.ref s.heap.objs.size)) (PIE X π σ tg R) E { s with heap:=s.heap.push { cls:=.type "range",data:=.fields (List.toArray [.int lo t,.int hi u,.int 1 v]) },toks:=tk }:=by
 apply wpAny_pyIter_range (IsRange.new ..) (small_one h1 h2 h3 h4) ?_;have I1:!In H { s with heap:=s.heap.push { cls:=.type "range",data:=.fields (List.toArray [.int lo t,.int hi u,.int 1 v]) },toks:=tk }:=I.kept λb o e=>b_ _ e
 apply#[(s.heap.push { cls:=.type "range",data:=.fields (List.toArray [.int lo t,.int hi u,.int 1 v]) }).objs.size,[(s.heap.push { cls:=.type "range",data:=.fields (List.toArray [.int lo t,.int hi u,.int 1 v]) }).objs.size],_,_,H,Z,
  I1.kept (t':=tk) λb o e=>b_ _ e,gn_ _ lo (hi - lo).toNat,?_,λb hb=>?_,q]
 ·have e1:lo+((0:Nat):Int) * 1=lo:=by simp
  have e2:(((hi - lo).toNat:Nat):Int) - ((0:Nat):Int)=Builtin.Range.rangeSize lo hi 1:=by rw[rangeSize_one];split<;>omega
  show IsRangeIter _ _ (lo+((0:Nat):Int) * 1) ((((hi - lo).toNat:Nat):Int) - ((0:Nat):Int)) 1;rw[e1,e2];exact eL _ Z
 have e:b=(s.heap.push { cls:=.type "range",data:=.fields (List.toArray [.int lo t,.int hi u,.int 1 v]) }).objs.size:=⇑hb
 subst e;exact I1.kL (bD _) (I1.ay.fresh (bD _))
inductive vx(R:It->Hp->Prop)(vs:ag)(H1:Hp):Prop
 |mk:∀j:Int,vs=[.int j]->-(2 ^ 62)<=j->j<2 ^ 62->R (FO 0 j.toNat) H1->vx R vs H1
def Ig(ta:TA):TI:=λσ H R=>ta σ H λvs H1=>vx R vs H1
def Nz{a:Expr}{ta:TA}{p pos:Pos}(hg:Gl X "range")(hm:X.mg "range"=none)(ha:PA X [a] ta)(hs:starEach [a] X.env=[(false,eval a X.env)]:=by rfl):PI X tg (.Call (.Name "range" p) [a] [] pos) (Ig ta):=by
 intro π s σ H R I h;apply Call_ (E7 I hg hm boot_range (PyProof.Rows.callWith_type1 (aU (ha pos π s σ H _ I h) λus s1 ⟨vs,H1,I1,r1,q1⟩=>?_) hs Z));let#[j,e,q1,q2,q]:=q1;subst e;cases r1 with
 |cons r rr=>
  cases rr;let#[t,rfl]:=r;exact call_range_1 (js_ I1 Z1 Z1 q1 q2 ⇑q)
def Oz(wi:TI)(g:TG)(tb:TS):TS:=λD σ H=>wi σ H λJ H1=>∃W:Nat->Nat->St->Hp->Prop,(∃m,W 0 m σ H1)/\∀i m σ H,W i m σ H->
 (J.stop i H/\D.nx σ H)∨(J.go i H/\∃N:St->Hp->Prop,(∀bh H',N bh H'->∃m',m'<m/\W (i+1) m' bh H')/\∀x H',J.iG i H x H'->g x σ H' λg_ H2=>tb { D with nx:=N,ct:=N,bk:=D.nx } g_ H2)
def zk(fp:ai)(h:Heap):List (Addr × Obj):=fp.filterMap λb=>(h.get? b).map λo=>(b,o)
def NR{fp:ai}{h:Heap}{b:Addr}{o:Obj}(hb:b∈fp)(e:h.get? b\o):(b,o)∈zk fp h:=wc.mpr #[b,hb,by rw[e];rfl]
def hx_{fp:ai}{h:Heap}{p:Addr × Obj}(hp:p∈zk fp h):p.1∈fp/\h.get? p.1\p.2:=by
 let#[b,hb,e]:=wc.mp hp;cases q:h.get? b with
 |none=>rw[q] at e;cases e
 |some o=>
  rw[q] at e;have e':(b,o)=p:=c7 e;subst e';exact#[hb,q]
def Inv.pinned{π:List (Addr × Obj)}{σ:St}{H:Hp}{s:Ab}{fp:ai}(I:!In H s)(hf:∀b∈fp,dc X π H b)(ho:∀b∈fp,∃o,s.heap.get? b\o/\∀v,o.data≠.cell v):Inv X (π++zk fp s.heap) σ H s:=
 I.pf λp hp=>(fB.mp hp).elim (λz=>I.pin p (iT _ z)) λz=>by
  let#[hb,e]:=hx_ z;let#[f0,f1,f2,_]:=hf p.1 hb;let#[o,e',d]:=ho p.1 hb;rw[e] at e';cases e';exact#[e,f0,f1,f2,d]
def Inv.eO{π pl:List (Addr × Obj)}{σ:St}{H:Hp}{s:Ab}(I:Inv X (π++pl) σ H s):!In H s:=I.pf λp hp=>I.pin p (iT _ (List.mem_append_left _ hp))
def gc{iter:Expr}{body:List Stmt}{wi:TI}{g:TG}{tb:TS}{pos:Pos}(hp:PassesOwn (model X.prog X.w) X.A X.env X.xe)(hc:X.calm=true)(hi:PI X tg iter wi)(hg:PG X tg g)(hb:iy X body tb)
 (hs:∀x,foldedSetIterable iter X.env x=pure x:=by intro _;rfl):PS X (.For tg iter body [] pos) (Oz wi g tb):=by
 intro π s σ H D I h;apply wpAny_For (aU (hi π s σ H _ I h) λv s1 h1=>aU h1 λLZ s2 h2=>?_) hs;let#[it,fp,tn,J,H2,e,I2,T,d_,f2,W,#[m0,w0],turn]:=h2;subst e;have Bt:∀{H':Hp},(∀b∈fp,H' b=none)->∀b∈fp,dc X π H' b:=λhn b hb=>#[hn b hb,(f2 b hb).2];apply codeAny_forLoop_any (λn s'=>∃i bh H',Inv X π bh H' s'/\tn i s'.heap/\(∀b∈fp,H' b=none)/\W i n bh H') ?_ m0 #[0,σ,H2,I2,d_,λb hb=>(f2 b hb).1,w0];rintro n s3 ⟨i,lL,H3,I3,j_,JE,w3⟩;rcases turn i n lL H3 w3 with⟨stop,qn⟩|⟨go,N,hN,step⟩
 ·apply wpAny_passesOwn hp (aU (T.done X Z Z Z hc i π s3 lL H3 X.xe I3 (Bt JE) j_ stop) λr s4 ⟨hr,I4⟩=>?_);subst hr;exact wpAny_execs_nil #[lL,H3,I4,qn]
 apply wpAny_passesOwn hp (aU (T.item X Z Z Z hc i π s3 lL H3 X.xe I3 (Bt JE) j_ go) λr s4 ⟨u,hr,h4⟩=>?_);subst hr;apply wpAny_passesOwn hp (aU h4 λ_ s5 ⟨x,H5,I5,r5,y5,jT,pS⟩=>?_);let I5':=I5.pinned (Bt pS) (T.obj _ _ jT);apply wpAny_passesOwn hp (aU (hg _ s5 lL H5 x u _ I5' r5 (step x H5 y5)) λ_ s6 ⟨σ6,H6,I6,q6⟩=>?_);apply wpAny_passesOwn hp (aU (hb _ s6 σ6 H6 _ I6 q6) λf s7 q7=>?_)
 have again:∀{sJ:St} {H7:Hp},Inv X (π++zk fp s5.heap) sJ H7 s7->N sJ H7->∃m,m<n/\∃i bh H',Inv X π bh H' s7/\tn i s7.heap/\(∀b∈fp,H' b=none)/\W i m bh H':=λ{sJ H7} I7 n7=>by
  let#[m',hm,w7]:=hN sJ H7 n7;apply#[m',hm,i+1,sJ,H7,I7.eO,T.keep _ _ _ jT λb hb o e=>(I7.pin (b,o) (iT _ (iT _ (NR hb e)))).1,λb hb=>?_,w7];let#[o,e,d]:=T.obj _ _ jT b hb;exact (I7.pin (b,o) (iT _ (iT _ (NR hb e)))).2.1
 cases f with
 |next=>let#[sJ,H7,I7,n7]:=q7;exact again I7 n7
 |cont=>let#[sJ,H7,I7,n7]:=q7;exact again I7 n7
 |brk=>let#[sJ,H7,I7,q7]:=q7;exact#[sJ,H7,I7.eO,q7]
 |ret v=>let#[x7,sJ,H7,I7,r7,q7]:=q7;exact#[x7,sJ,H7,I7.eO,r7,q7]
end
def jh{K:af}{a:Addr}{xs:ag}{g:TG}{tb:TS}{D:Ends}{σ:St}{H:Hp}(Pv:bX)(h0:Pv 0 σ H)(hl:∀i σ H,i<=xs.length->Pv i σ H->dU K H a xs)
 (hs:∀i x σ H,xs[i]? = some x->Pv i σ H->g x σ H λg_ H2=>tb { D with nx:=Pv (i+1),ct:=Pv (i+1),bk:=D.nx } g_ H2)(hd:∀σ H,Pv xs.length σ H->D.nx σ H):
  ∃W:Nat->Nat->St->Hp->Prop,(∃m,W 0 m σ H)/\∀i m σ H,W i m σ H->
   ((Ed K a).stop i H/\D.nx σ H)∨((Ed K a).go i H/\∃N:St->Hp->Prop,(∀bh H',N bh H'->∃m',m'<m/\W (i+1) m' bh H')/\∀x H',(Ed K a).iG i H x H'->g x σ H' λg_ H2=>tb { D with nx:=N,ct:=N,bk:=D.nx } g_ H2):=by
 apply#[λi m σ H=>m=xs.length - i/\i<=xs.length/\Pv i σ H,#[xs.length,by simp,gQ _,h0],?_];rintro i m σ H ⟨rfl,hi,p⟩;let q:=hl i σ H hi p;by_cases dB:i<xs.length
 ·apply .inr #[#[xs,xs[i],q,by simp[dB]],Pv (i+1),λbh H' p'=>#[xs.length - (i+1),by omega,Z,dB,p'],λx H' y=>?_];let#[e,y]:=y;subst e;exact hs i x σ _ (y xs q) p
 have e:i=xs.length:=by omega
 subst e;exact .inl #[#[xs,q,bD _],hd σ H p]
def Nw{lo:Int}{n:Nat}{g:TG}{tb:TS}{D:Ends}{σ:St}{H:Hp}(Pv:bX)(h0:Pv 0 σ H)
 (hs:∀i σ H,i<n->Pv i σ H->g (.int (lo+i)) σ H λg_ H2=>tb { D with nx:=Pv (i+1),ct:=Pv (i+1),bk:=D.nx } g_ H2)(hd:∀σ H,Pv n σ H->D.nx σ H):
  ∃W:Nat->Nat->St->Hp->Prop,(∃m,W 0 m σ H)/\∀i m σ H,W i m σ H->
   ((FO lo n).stop i H/\D.nx σ H)∨((FO lo n).go i H/\∃N:St->Hp->Prop,(∀bh H',N bh H'->∃m',m'<m/\W (i+1) m' bh H')/\∀x H',(FO lo n).iG i H x H'->g x σ H' λg_ H2=>tb { D with nx:=N,ct:=N,bk:=D.nx } g_ H2):=by
 apply#[λi m σ H=>m=n - i/\i<=n/\Pv i σ H,#[n,by simp,gQ _,h0],?_];rintro i m σ H ⟨rfl,hi,p⟩;by_cases dB:i<n
 ·apply .inr #[dB,Pv (i+1),λbh H' p'=>#[n - (i+1),by omega,Z,dB,p'],λx H' y=>?_];let#[e,y]:=y;subst e y;exact hs i σ _ dB p
 have e:i=n:=by omega
 subst e;exact .inl #[bD _,hd σ H p]
def ja_{c:TT}{tb:TS}{D:Ends}{σ:St}{H:Hp}(Pv:oG)(μ:St->Hp->Nat)(h0:Pv σ H)
 (hs:∀σ H,Pv σ H->c σ H λb H1=>if b=true then tb { D with nx:=λbh H'=>Pv bh H'/\μ bh H'<μ σ H,ct:=λbh H'=>Pv bh H'/\μ bh H'<μ σ H,bk:=D.nx } σ H1 else D.nx σ H1)
 (mono:∀σ H Q Q',(∀b H1,Q b H1->Q' b H1)->c σ H Q->c σ H Q'):sU c tb D σ H:=by
 apply#[λm σ H=>m=μ σ H/\Pv σ H,#[_,Z,h0],?_];rintro m σ H ⟨rfl,p⟩;apply mono σ H _ _ (λb H1 q=>?_) (hs σ H p);cases b with
 |true=>exact#[_,λbh H' ⟨p',l⟩=>#[_,l,Z,p'],q]
 |false=>exact q
abbrev R2:=V->V->Hp->VK->Prop
def eG(X:Cx)(f:Aa->Aa->Sem Aa)(r:R2):Prop:=
 ∀(π:List (Addr × Obj)) (s:Ab) (σ:St) (H:Hp) (x y:V) (v u:Aa) (Q:VK),!In H s->RelV x v->RelV y u->r x y H Q->
  wpAny (model X.prog X.w) X.A (f v u) (EP X π σ Q) X.xe s
def UQ(X:Cx)(f:Aa->Sem Aa)(r:V->Hp->VK->Prop):Prop:=
 ∀(π:List (Addr × Obj)) (s:Ab) (σ:St) (H:Hp) (x:V) (v:Aa) (Q:VK),!In H s->RelV x v->r x H Q->
  wpAny (model X.prog X.w) X.A (f v) (EP X π σ Q) X.xe s
def gF(X:Cx)(f:Aa)(r:ag->Hp->VK->Prop):Prop:=
 ∀(π:List (Addr × Obj)) (s:Ab) (σ:St) (H:Hp) (xs:ag) (us:aj) (Q:VK),!In H s->Vals xs us->r xs H Q->
  wpAny (model X.prog X.w) X.A (call f us) (EP X π σ Q) X.xe s
def Gm(r:R2)(ta tb:TE):TE:=λσ H Q=>ta σ H λx H1=>tb σ H1 λy H2=>r x y H2 Q
def tUn(r:V->Hp->VK->Prop)(ta:TE):TE:=λσ H Q=>ta σ H λx H1=>r x H1 Q
inductive rI(C:Int->Int->Prop)(g:Int->Int->V)(x:V)(y:V)(H:Hp)(Q:VK):Prop
 |mk:∀i j,x=.int i->y=.int j->C i j->Q (g i j) H->rI C g x y H Q
inductive yb(g:Int->Int->V)(x:V)(y:V)(H:Hp)(Q:VK):Prop
 |mk:∀i j,x=.int i->y=.int j->Q (g i j) H->yb g x y H Q
inductive rU(g:Int->V)(x:V)(H:Hp)(Q:VK):Prop
 |mk:∀i,x=.int i->Q (g i) H->rU g x H Q
section
variable{X:Cx}{a b c:Expr}{ta tb tc:TE}{pos:Pos}
def DR(ha:PE X a ta)(hb:PE X b tb){π:List (Addr × Obj)}{s:Ab}{σ:St}{H:Hp}{R:V->V->Hp->Prop}(I:!In H s)
 (h:ta σ H λx H1=>tb σ H1 λy H2=>R x y H2){Q:Aa->Ab->Prop}{f:Aa->Aa->Sem Aa}
 (hf:∀v u s2 x y H2,!In H2 s2->RelV x v->RelV y u->R x y H2->wpAny (model X.prog X.w) X.A (f v u) Q X.xe s2):
  wpAny (model X.prog X.w) X.A (eval a X.env) (λv aV=>wpAny (model X.prog X.w) X.A (eval b X.env) (λu fR=>wpAny (model X.prog X.w) X.A (f v u) Q X.xe fR) X.xe aV) X.xe s:=by
 apply aU (ha π s σ H _ I h) λv s1 ⟨x,H1,I1,r1,q1⟩=>?_;apply aU (hb π s1 σ H1 _ I1 q1) λu s2 ⟨y,H2,I2,r2,q2⟩=>?_;exact hf v u s2 x y H2 I2 r1 r2 q2
def bV{op:Operator}{r:R2}(ho:eG X (binaryOp op) r)(ha:PE X a ta)(hb:PE X b tb):PE X (.BinOp a op b pos) (Gm r ta tb):=by
 intro π s σ H Q I h;exact wpAny_BinOp (DR ha hb I h λv u s2 x y H2 I2 rx ry q=>ho π s2 σ H2 x y v u Q I2 rx ry q)
def Ws{op:UnaryOp}{r:V->Hp->VK->Prop}(ho:UQ X (unaryOp op) r)(ha:PE X a ta):PE X (.UnaryOp op a pos) (tUn r ta):=by
 intro π s σ H Q I h;exact UnaryOp_ (aU (ha π s σ H _ I h) λv s1 ⟨x,H1,I1,r1,q1⟩=>ho π s1 σ H1 x v Q I1 r1 q1)
def LF{f:Aa->Aa->Sem Aa}{C:Int->Int->Prop}{g:Int->Int->Int}
 (rule:∀(i j:Int)(t u:Tok)(s:Ab)(Q:Aa->Ab->Prop)(E:Aa->Ab->Prop),C i j->Q (.int (g i j) s.toks) { s with toks:=s.toks+1 }->wpAny (model X.prog X.w) X.A (f (.int i t) (.int j u)) Q E s):
  eG X f (rI C λi j=>.int (g i j)):=by
 intro π s σ H x y v u Q I rx ry h;let#[i,j,rfl,rfl,hc,q]:=h;let#[t,rfl]:=rx;let#[t',rfl]:=ry;exact rule i j t t' s _ _ hc #[.int (g i j),H,I.tok _,#[_,Z],q]
def Hg{f:Aa->Aa->Sem Aa}{g:Int->Int->Int}
 (rule:∀(i j:Int)(t u:Tok)(s:Ab)(Q:Aa->Ab->Prop)(E:Aa->Ab->Prop),Q (.int (g i j) s.toks) { s with toks:=s.toks+1 }->wpAny (model X.prog X.w) X.A (f (.int i t) (.int j u)) Q E s):
  eG X f (yb λi j=>.int (g i j)):=by
 intro π s σ H x y v u Q I rx ry h;let#[i,j,rfl,rfl,q]:=h;let#[t,rfl]:=rx;let#[t',rfl]:=ry;exact rule i j t t' s _ _ #[.int (g i j),H,I.tok _,#[_,Z],q]
def ym{f:Aa->Aa->Sem Aa}{g:Int->Int->Bool}
 (rule:∀(i j:Int)(t u:Tok)(s:Ab)(Q:Aa->Ab->Prop)(E:Aa->Ab->Prop),Q (.bool (g i j)) s->wpAny (model X.prog X.w) X.A (f (.int i t) (.int j u)) Q E s):
  eG X f (yb λi j=>.bl (g i j)):=by
 intro π s σ H x y v u Q I rx ry h;let#[i,j,rfl,rfl,q]:=h;let#[t,rfl]:=rx;let#[t',rfl]:=ry;exact rule i j t t' s _ _ #[.bl (g i j),H,I,Z,q]
def U2(i j:Int):Prop:=0<j/\j<1073741824
def U1(i j:Int):Prop:=0<=j/\j<=1000000/\i.natAbs<2 ^ 64
def Ee(i j:Int):Prop:=(-(2 ^ 64)<i/\i<2 ^ 64)∨(-(2 ^ 64)<j/\j<2 ^ 64)
def Ee.ok{i j:Int}(h:Ee i j):IntMulOk i j:=by
 rcases h with⟨h1,h2⟩|⟨h1,h2⟩
 ·exact .of_left (intBits_le_64 h1 h2)
 exact .of_right (intBits_le_64 h1 h2)
def jM:eG X (binaryOp .Add) (yb λi j=>.int (i+j)):=Hg λ_ _ _ _ _ _ _ q=>add_int q
def MF:eG X (binaryOp .Sub) (yb λi j=>.int (i - j)):=Hg λ_ _ _ _ _ _ _ q=>sub_int q
def sk:eG X (binaryOp .Mult) (rI Ee λi j=>.int (i * j)):=LF λ_ _ _ _ _ _ _ hc q=>mul_int q hc.ok
def zv:eG X (binaryOp .FloorDiv) (rI U2 λi j=>.int (i / j)):=LF λi j _ _ _ _ _ hc q=>by
 have h1:(0:Int)<j:=hc.1;have h2:j<1073741824:=hc.2;exact floordiv_int Z1 (by rw[Int.fdiv_eq_ediv_of_nonneg i Z1];exact q) (.inl (PyProof.noPylong_small Z1))
def zo:eG X (binaryOp .Mod) (rI (λ_ j=>0<j) λi j=>.int (i % j)):=LF λi j _ _ _ _ _ hc q=>by
 have h1:(0:Int)<j:=hc;exact mod_int' Z1 (by rw[Int.fmod_eq_emod_of_nonneg i Z1];exact q)
def W8:eG X (binaryOp .Pow) (rI U1 λi j=>.int (i ^ j.toNat)):=LF λ_ _ _ _ _ _ _ hc q=>pow_int_small hc.1 hc.2.1 hc.2.2 q
def unI{f:Aa->Sem Aa}{g:Int->Int}
 (rule:∀(i:Int)(t:Tok)(s:Ab)(Q:Aa->Ab->Prop)(E:Aa->Ab->Prop),Q (.int (g i) s.toks) { s with toks:=s.toks+1 }->wpAny (model X.prog X.w) X.A (f (.int i t)) Q E s):
  UQ X f (rU λi=>.int (g i)):=by
 intro π s σ H x v Q I rx h;let#[i,rfl,q]:=h;let#[t,rfl]:=rx;exact rule i t s _ _ #[.int (g i),H,I.tok _,#[_,Z],q]
def WO:UQ X (unaryOp .USub) (rU λi=>.int (-i)):=unI λ_ _ _ _ _ q=>neg_int q
end
def GR:V->V->Bool
 |.non,.non=>true | .non,.int _=>true | .int _,.non=>true | .non,.bl _=>true | .bl _,.non=>true | .non,.str _=>true | .str _,.non=>true
 |.int _,.int _=>true | .bl _,.bl _=>true | .str _,.str _=>true | .byt _,.byt _=>true
 |.int _,.str _=>true | .str _,.int _=>true | .bl _,.str _=>true | .str _,.bl _=>true
 |_,_=>false
def rEq:R2:=λx y H Q=>GR x y=true/\Q (.bl (decide (x=y))) H
def rNe:R2:=λx y H Q=>GR x y=true/\Q (.bl (!decide (x=y))) H
def Ye{i j:Int}:decide (V.int i=V.int j)=(i == j):=by
 rw[Bool.eq_iff_iff];simp
def WZ{i j:Bool}:decide (V.bl i=V.bl j)=(i == j):=by
 rw[Bool.eq_iff_iff];simp
def XU{i j:Str}:decide (V.str i=V.str j)=(i == j):=by
 rw[Bool.eq_iff_iff];simp
def Yn{i j:Array UInt8}:decide (V.byt i=V.byt j)=(i.toList == j.toList):=by
 rw[Bool.eq_iff_iff];cases i;cases j;simp
section
variable{X:Cx}{a b c:Expr}{ta tb tc:TE}{pos:Pos}
def fL{π:List (Addr × Obj)}{σ:St}{H:Hp}{s:Ab}{Q:VK}{k k':Bool}(I:!In H s)(q:Q (.bl k) H)(e:k=k'):EP X π σ Q (.bool k') s:=by
 subst e;exact#[.bl k,H,I,Z,q]
def jZ:eG X (compareOp .Eq) rEq:=by
 intro π s σ H x y v u Q I rx ry h;let#[hs,q]:=h;cases x with
 |non=>
  cases rx;cases y with
  |non=>cases ry;exact PySem.EqNone.eq_none_none (fL I q Z2)
  |bl j=>cases ry;exact PySem.EqNone.eq_none_bool (fL I q Z2)
  |int j=>let#[t',rfl]:=ry;exact PySem.EqNone.eq_none_int (fL I q Z2)
  |str j=>let#[t',rfl]:=ry;exact PySem.EqNone.eq_none_str (fL I q Z2)
  |_=>exact absurd (show false=true from hs) iu
 |bl i=>
  cases rx;cases y with
  |non=>cases ry;exact PySem.EqNone.eq_bool_none (fL I q Z2)
  |bl j=>cases ry;exact eq_bool (fL I q WZ)
  |str j=>let#[t',rfl]:=ry;exact PySem.EqMixed.eq_bool_str (fL I q Z2)
  |_=>exact absurd (show false=true from hs) iu
 |int i=>
  let#[t,rfl]:=rx;cases y with
  |non=>cases ry;exact PySem.EqNone.eq_int_none (fL I q Z2)
  |int j=>let#[t',rfl]:=ry;exact eq_int (fL I q Ye)
  |str j=>let#[t',rfl]:=ry;exact PySem.EqMixed.eq_int_str (fL I q Z2)
  |_=>exact absurd (show false=true from hs) iu
 |str i=>
  let#[t,rfl]:=rx;cases y with
  |non=>cases ry;exact PySem.EqNone.eq_str_none (fL I q Z2)
  |bl j=>cases ry;exact PySem.EqMixed.eq_str_bool (fL I q Z2)
  |int j=>let#[t',rfl]:=ry;exact PySem.EqMixed.eq_str_int (fL I q Z2)
  |str j=>let#[t',rfl]:=ry;exact eq_str (fL I q XU)
  |_=>exact absurd (show false=true from hs) iu
 |byt i=>
  let#[t,rfl]:=rx;cases y with
  |byt j=>let#[t',rfl]:=ry;exact PySem.W.eq_bytes (fL I q Yn)
  |_=>exact absurd (show false=true from hs) iu
 |_=>cases y<;>exact absurd (show false=true from hs) iu
def ze:eG X (compareOp .NotEq) rNe:=by
 intro π s σ H x y v u Q I rx ry h;let#[hs,q]:=h;cases x with
 |non=>
  cases rx;cases y with
  |non=>cases ry;exact PySem.EqNone.ne_none_none (fL I q Z2)
  |bl j=>cases ry;exact PySem.EqNone.ne_none_bool (fL I q Z2)
  |int j=>let#[t',rfl]:=ry;exact PySem.EqNone.ne_none_int (fL I q Z2)
  |str j=>let#[t',rfl]:=ry;exact PySem.EqNone.ne_none_str (fL I q Z2)
  |_=>exact absurd (show false=true from hs) iu
 |bl i=>
  cases rx;cases y with
  |non=>cases ry;exact PySem.EqNone.ne_bool_none (fL I q Z2)
  |bl j=>cases ry;exact ne_bool (fL I q (dH not WZ))
  |str j=>let#[t',rfl]:=ry;exact PySem.EqMixed.ne_bool_str (fL I q Z2)
  |_=>exact absurd (show false=true from hs) iu
 |int i=>
  let#[t,rfl]:=rx;cases y with
  |non=>cases ry;exact PySem.EqNone.ne_int_none (fL I q Z2)
  |int j=>let#[t',rfl]:=ry;exact ne_int (fL I q (dH not Ye))
  |str j=>let#[t',rfl]:=ry;exact PySem.EqMixed.ne_int_str (fL I q Z2)
  |_=>exact absurd (show false=true from hs) iu
 |str i=>
  let#[t,rfl]:=rx;cases y with
  |non=>cases ry;exact PySem.EqNone.ne_str_none (fL I q Z2)
  |bl j=>cases ry;exact PySem.EqMixed.ne_str_bool (fL I q Z2)
  |int j=>let#[t',rfl]:=ry;exact PySem.EqMixed.ne_str_int (fL I q Z2)
  |str j=>let#[t',rfl]:=ry;exact ne_str (fL I q (dH not XU))
  |_=>exact absurd (show false=true from hs) iu
 |byt i=>
  let#[t,rfl]:=rx;cases y with
  |byt j=>let#[t',rfl]:=ry;exact PySem.W.ne_bytes (fL I q (dH not Yn))
  |_=>exact absurd (show false=true from hs) iu
 |_=>cases y<;>exact absurd (show false=true from hs) iu
def Wi:eG X (compareOp .Lt) (yb λi j=>.bl (decide (i<j))):=ym λ_ _ _ _ _ _ _ q=>lt_int q
def AU:eG X (compareOp .LtE) (yb λi j=>.bl (decide (i<=j))):=ym λ_ _ _ _ _ _ _ q=>le_int q
def C5:eG X (compareOp .Gt) (yb λi j=>.bl (decide (j<i))):=ym λ_ _ _ _ _ _ _ q=>gt_int q
def Qj:eG X (compareOp .GtE) (yb λi j=>.bl (decide (j<=i))):=ym λ_ _ _ _ _ _ _ q=>ge_int q
inductive _S(x:V)(y:V)(H:Hp)(Q:VK):Prop
 |mk:∀i j,x=.str i->y=.str j->Q (.bl (decide (i.cps.toList<j.cps.toList))) H->_S x y H Q
def ip_:eG X (compareOp .Lt) _S:=by
 intro π s σ H x y v u Q I rx ry h;let#[i,j,rfl,rfl,q]:=h;let#[t,rfl]:=rx;let#[t',rfl]:=ry;exact lt_str (fL I q rfl)
def ve(b:Expr){op:CmpOp}(h:op≠.In:=by decide)(h2:op≠.NotIn:=by decide):behindInMarks op b=false:=by
 have e1:(op == CmpOp.In)=false:=by cases op<;>first|rfl|exact absurd rfl h
 have e2:(op == CmpOp.NotIn)=false:=by cases op<;>first|rfl|exact absurd rfl h2
 cases b<;>simp[behindInMarks,e1,e2]
def sd{op:CmpOp}{r:R2}(ho:eG X (compareOp op) r)(ha:PE X a ta)(hb:PE X b tb)(hm:behindInMarks op b=false:=by exact ve _):PE X (.Compare a [op] [b] pos) (Gm r ta tb):=by
 intro π s σ H Q I h;exact wpAny_Compare1 (DR ha hb I h λv u s2 x y H2 I2 rx ry q=>ho π s2 σ H2 x y v u Q I2 rx ry q) hm
inductive sY(Q:Bool->Hp->Prop)(x:V)(H':Hp):Prop
 |mk:∀k,x=.bl k->Q k H'->sY Q x H'
def zO(t:TE):TT:=λσ H Q=>t σ H λx H'=>sY Q x H'
def dm{op:CmpOp}{r:R2}(ho:eG X (compareOp op) r)(ha:PE X a ta)(hb:PE X b tb)(hm:behindInMarks op b=false:=by exact ve _):PT X (.Compare a [op] [b] pos) (zO (Gm r ta tb)):=by
 intro π s σ H Q I h
 apply wpAny_isTrue_Compare1 (aU (ha π s σ H _ I h) λv s1 ⟨x,H1,I1,r1,q1⟩=>aU (hb π s1 σ H1 _ I1 q1) λu s2 ⟨y,H2,I2,r2,q2⟩=>
  aU (ho π s2 σ H2 x y v u _ I2 r1 r2 q2) λc s3 ⟨z,H3,I3,r3,k,e,q3⟩=>?_) hm
 subst e;cases r3;exact vW #[H3,I3,q3]
inductive oR(r':R2)(tc:TE)(σ:St)(Q:VK)(y:V)(z:V)(H3:Hp):Prop
 |mk:∀k,z=.bl k->(if k=true then tc σ H3 λw' H4=>r' y w' H4 Q else Q (.bl false) H3)->oR r' tc σ Q y z H3
def tE(r r':R2)(ta tb tc:TE):TE:=λσ H Q=>ta σ H λx H1=>tb σ H1 λy H2=>r x y H2 λz H3=>oR r' tc σ Q y z H3
def YJ{op BX:CmpOp}{r r':R2}(ho:eG X (compareOp op) r)(kI:eG X (compareOp BX) r')(ha:PE X a ta)(hb:PE X b tb)(hc:PE X c tc)
 (hm:lastMarks [op,BX] [b,c]=false:=by with_unfolding_all rfl):PE X (.Compare a [op,BX] [b,c] pos) (tE r r' ta tb tc):=by
 intro π s σ H Q I h
 apply Compare_chain (aU (ha π s σ H _ I h) λv s1 ⟨x,H1,I1,r1,q1⟩=>chain_link (aU (hb π s1 σ H1 _ I1 q1) λu s2 ⟨y,H2,I2,r2,q2⟩=>
  aU (ho π s2 σ H2 x y v u _ I2 r1 r2 q2) λd s3 ⟨z,H3,I3,r3,k,e,q3⟩=>?_)) hm
 subst e;cases r3;apply vW ?_;cases k with
 |false=>exact ite_ff #[.bl false,H3,I3,Z,q3]
 |true=>exact ite_tt (chain_last (aU (hc π s3 σ H3 _ I3 q3) λw' s4 ⟨z',H4,I4,r4,q4⟩=>kI π s4 σ H4 y z' u w' Q I4 r2 r4 q4))
def YB{op BX:CmpOp}{r r':R2}(ho:eG X (compareOp op) r)(kI:eG X (compareOp BX) r')(ha:PE X a ta)(hb:PE X b tb)(hc:PE X c tc)
 (hm:lastMarks [op,BX] [b,c]=false:=by with_unfolding_all rfl):PT X (.Compare a [op,BX] [b,c] pos) (zO (tE r r' ta tb tc)):=by
 intro π s σ H Q I h
 apply isTrue_chain (aU (ha π s σ H _ I h) λv s1 ⟨x,H1,I1,r1,q1⟩=>test_link (aU (hb π s1 σ H1 _ I1 q1) λu s2 ⟨y,H2,I2,r2,q2⟩=>
  aU (ho π s2 σ H2 x y v u _ I2 r1 r2 q2) λd s3 ⟨z,H3,I3,r3,k,e,q3⟩=>?_)) hm
 subst e;cases r3;apply vW ?_;cases k with
 |false=>
  let#[k',e',q']:=q3;cases e';exact ite_ff #[H3,I3,q']
 |true=>
  apply ite_tt (test_last (aU (hc π s3 σ H3 _ I3 q3) λw' s4 ⟨z',H4,I4,r4,q4⟩=>aU (kI π s4 σ H4 y z' u w' _ I4 r2 r4 q4) λd' s5 ⟨z2,H5,I5,r5,k2,e2,q5⟩=>?_));subst e2;cases r5;exact vW #[H5,I5,q5]
def gj:(sizeLine:Nat)<2 ^ 63:=by rw[cX];decide
inductive _M(x:V)(y:V)(H:Hp)(Q:VK):Prop
 |mk:∀i j,x=.str i->y=.str j->i.length+j.length<=sizeLine->Q (.str (i++j)) H->_M x y H Q
def Uy:eG X (binaryOp .Add) _M:=by
 intro π s σ H x y v u Q I rx ry h;let#[i,j,rfl,rfl,hz,q]:=h;let#[t,rfl]:=rx;let#[t',rfl]:=ry;exact add_str (λt' tk=>⟨.str (i++j),H,I.tok _,⟨_,rfl⟩,q⟩) hz
def vals1{x:V}{us:aj}(r:Vals [x] us):∃u,us=[u]/\RelV x u:=by
 cases r with
 |cons r1 r2=>cases r2;exact#[_,Z,r1]
def vals2{x y:V}{us:aj}(r:Vals [x,y] us):∃u w',us=[u,w']/\RelV x u/\RelV y w':=by
 cases r with
 |cons r1 r2=>
  cases r2 with
  |cons r3 r4=>cases r4;exact#[_,_,Z,r1,r3]
inductive _Q(xs:ag)(H:Hp)(Q:VK):Prop
 |mk:∀i j,xs=[.int i,.int j]->Q (.int (if j > i then j else i)) H->_Q xs H Q
def gD_(hc:X.calm=true):gF X (.builtin "max") _Q:=by
 intro π s σ H xs us Q I r h;let#[i,j,rfl,q]:=h;let#[u,w',rfl,#[t,rfl],#[t',rfl]]:=vals2 r;apply max_two_ints (I.ok.hd hc) λh' tk k=>#[_,H,I.kept k,?_,q];by_cases hj:j > i
 ·rw[aF hj,aF hj];exact#[_,Z]
 rw[aA hj,aA hj];exact#[_,Z]
def hk_:gF X (.type "int") (λxs H Q=>(∃i,xs=[.int i]/\Q (.int i) H)∨∃k,xs=[.bl k]/\Q (.int (if k then 1 else 0)) H):=by
 intro π s σ H xs us Q I r h;rcases h with⟨i,rfl,q⟩|⟨k,rfl,q⟩
 ·let#[u,rfl,t,rfl]:=vals1 r;exact call_int_int #[.int i,H,I,#[_,Z],q]
 let#[u,rfl,r1]:=vals1 r;cases r1;exact call_int_bool #[.int (if k then 1 else 0),H,I.tok _,#[_,Z],q]
end
structure oF(h:Heap)(x dx C:Addr)(mA:Str->Option Aa):Prop where
 obj:h.get? x\PySem.W.instObj C dx
 ns:h.Ns1 dx mA
 ne:dx≠x
def i1_{h:Heap}{dx:Addr}{mA:Str->Option Aa}(n:h.Ns1 dx mA):∃od,h.get? dx\od/\∀name,PySem.W.lookIn name od\mA name:=by
 let#[o,es,ep,ho,hd,hk,_,hm]:=n;apply#[o,ho,λname=>?_];let e:=hm name;unfold nsFind findBy at e;rw[<- Array.find?_toList] at e;unfold PySem.W.lookIn;rw[hd];dsimp only;split
 ·rename_i y q
  rw[q] at e;exact dH some e
 rename_i q
 rw[q] at e
 have a:es.toList.any (·.refKey)=false:=by
  rw[List.any_eq_false];intro y hy;let#[z,t,QY]:=hk y (Array.mem_toList_iff.mp hy);simp[DictEntry.refKey,QY]
 have a':¬es.toList.any (·.refKey)=true:=by rw[a];exact iu
 rw[aA a'];exact dH some e
def oF.look{h:Heap}{x dx C:Addr}{mA:Str->Option Aa}(I:oF h x dx C mA):∃od,PySem.W.InstAt h x (PySem.W.instObj C dx) C (some od)/\∀name,PySem.W.lookIn name od\mA name:=
 let #[od,ho,hl]:=i1_ I.ns
 #[od,#[I.obj,Z,Z,ho],hl]
section
variable{prog:Ad}{w:Af}{A:Ag}{E:Aa->Ab->Prop}{s:Ab}{K:af}{x dx C f:Addr}{mA:Str->Option Aa}{name:Str}{v:Aa}
def l2_{expr:Bool}{Q:Aa->Ab->Prop}(X:K.In s.heap)(I:oF s.heap x dx C mA)(hg:PySem.W.plainGet K C name=true)(hh:PySem.W.hasDictIn K C=true)
 (ha:PySem.W.findIn K (.ref C) name\none)(hv:mA name\v)(Im:PySem.W.handedIn v=true)(h:Q v { s with toks:=s.toks+1 }):
  wpAny (model prog w) A (getAttr (.ref x) name expr) Q E s:=by
 let#[od,J,hl]:=I.look;exact PySem.W.get_value X J (PySem.W.plainGet_of hg).1 (PySem.W.findObj_own hh ha Z (by rw[hl,hv])) Im h
def iY_{pl:Sem Bool}{Q:Aa × aj->Ab->Prop}(X:K.In s.heap)(I:oF s.heap x dx C mA)(hg:PySem.W.plainGet K C name=true)
 (hf:PySem.W.findIn K (.ref C) name\some (.ref f))(ht:PySem.W.isFn K (.ref f)=true)(hv:mA name=none)(h:Q (.ref f,[.ref x]) s):
  wpAny (model prog w) A (getMethod (.ref x) name pl) Q E s:=by
 let#[od,J,hl]:=I.look;exact PySem.W.method_fn X J (PySem.W.plainGet_of hg).1 (PySem.W.plainGet_of hg).2 hf (beq_iff_eq.mp ht) (by show (PySem.W.lookIn name od).map (·.isSome)=some false;rw[hl,hv];rfl) h
def kc_{ns:ae}{Q:Unit->Ab->Prop}(X:K.In s.heap)(I:oF s.heap x dx C mA)
 (hs:PySem.W.findIn K (.ref C) "__setattr__"\some (.builtin "object.__setattr__"))(hp:PySem.W.plainOver K C=true)(ht:PySem.W.takerIn K C name\none)(hh:PySem.W.hasDictIn K C=true)
 (hw:PySem.Within mA ns)(hsz:ns.length<=sizeLine)
 (h:∀h',oF h' x dx C (λy=>if y=name then some v else mA y)->Heap.SameBut dx s.heap h'->Q () { s with heap:=h',toks:=s.toks+2 }):
  wpAny (model prog w) A (setAttr (.ref x) name v) Q E s:=by
 let#[od,J,hl]:=I.look;apply PySem.W.set_plain X J hs (PySem.W.osa_open (s:={ s with toks:=s.toks+1 }) (r:=none) X J hp ht λb=>?_);let#[cd,hc,pN]:=PySem.W.any_some hh;have hx:s.heap.get? x=some #[.ref C,some dx,.plain,#[]]:=I.obj;apply au (bu (au (au (wpAny_loadPart hx (au (PySem.W.Looks.here (s:={ s with toks:=s.toks+1 }) (PySem.W.looks_clsIn X hc) ?_))))));rw[pN];apply bu (a:=some dx) (au (bu (au ?_)));apply wpAny_nsSet1 (s:={ s with toks:=s.toks+1 }) I.ns λh' AD Co=>?_;let#[oD,esD,epD,hoD,hdD,yP]:=AD.count (PySem.Within.cons name v hw);apply au (wpAny_lookBehind hoD (by rw[hdD];exact pastItsLine_dict (ma yP (by rw[jf];omega))) ?_);exact bu (h _ #[(Co.2 _ (Ne.symm I.ne)).trans I.obj,AD,I.ne] Co)
def jd_{R:Result->Ab->Prop}{vs:aj}{kw:List (Str × Aa)}(X:K.In s.heap)(hm:PySem.W.makesIn K C=true)
 (hi:PySem.W.findIn K (.ref C) "__init__"\some (.ref f))(hf:PySem.W.typeIn K (.ref f)\.type "function")
 (h:codeAny (model prog w) (A.under (.builtin "type.__call__" #[.ref C::vs,kw])) (.call (.ref f) #[.ref (s.heap.objs.size+1)::vs,kw]) (PySem.W.InitBack (s.heap.objs.size+1) R)
   { s with heap:=(s.heap.push PySem.W.emptyDict).push (PySem.W.instObj C s.heap.objs.size) }):
  codeAny (model prog w) A (.call (.ref C) #[vs,kw]) R s:=by
 let#[hh,g,d,t,os]:=s;exact PySem.W.make_core (PySem.W.makes_of X hm) (PySem.W.looks_findIn X hi) (λself=>PySem.W.bind_fn X self hf) (.inl Z) h
end
def aL(f:Str)(v:V):List (Str × V)->List (Str × V)
 |[]=>[(f,v)]
 |(g,x)::r=>if g=f then (g,v)::r else (g,x)::aL f v r
def eZ(f g:Str)(v:V):∀fs:List (Str × V),(aL f v fs).lookup g=if g=f then some v else fs.lookup g
 |[]=>by
  show List.lookup g [(f,v)]=_;by_cases h:g=f
  ·have hb:(g == f)=true:=beq_iff_eq.mpr h;simp only[List.lookup,hb,aF h]
  ·have hb:(g == f)=false:=beq_eq_false_iff_ne.mpr h;simp only[List.lookup,hb,aA h]
 |(k,x)::r=>by
  let ih:=eZ f g v r;rw[show aL f v ((k,x)::r)=(if k=f then (k,v)::r else (k,x)::aL f v r) from Z];by_cases hk:k=f
  ·rw[aF hk];by_cases h:g=k
   ·have hb:(g == k)=true:=beq_iff_eq.mpr h;simp only[List.lookup,hb,aF (h.trans hk)]
   have hb:(g == k)=false:=beq_eq_false_iff_ne.mpr h;simp only[List.lookup,hb,aA (λe:g=f=>h (e.trans hk.symm))]
  rw[aA hk];by_cases h:g=k
  ·have hb:(g == k)=true:=beq_iff_eq.mpr h;simp only[List.lookup,hb,aA (λe:g=f=>hk (h.symm.trans e))]
  have hb:(g == k)=false:=beq_eq_false_iff_ne.mpr h;simp only[List.lookup,hb];exact ih
def SX(f:Str)(v:V):∀fs:List (Str × V),f∈(aL f v fs).map (·.1)/\∀g,g∈fs.map (·.1)->g∈(aL f v fs).map (·.1)
 |[]=>#[by simp[aL],λg h=>by simp at h]
 |(k,x)::r=>by
  let#[i1,i2]:=SX f v r;rw[show aL f v ((k,x)::r)=(if k=f then (k,v)::r else (k,x)::aL f v r) from Z];by_cases hk:k=f
  ·rw[aF hk];subst hk;exact#[by simp,λg h=>by simpa using h]
  rw[aA hk];apply#[?_,λg h=>?_]
  ·rw[fK];exact fj _ i1
  rw[fK] at h ⊢;rcases cc.mp h with e|e
  ·exact cc.mpr (.inl e)
  exact fj _ (i2 g e)
def _s(f:Str)(v:V):∀fs:List (Str × V),(aL f v fs).length<=fs.length+1
 |[]=>by simp[aL]
 |(k,x)::r=>by
  let ih:=_s f v r;rw[show aL f v ((k,x)::r)=(if k=f then (k,v)::r else (k,x)::aL f v r) from Z];by_cases hk:k=f
  ·rw[aF hk,jf,jf];omega
  rw[aA hk,jf,jf];omega
def d5.some_of{v:V}{o:Option Aa}(r:d5 (some v) o):∃u,o\u/\RelV v u:=by
 cases o with
 |none=>exact (show False from r).elim
 |some u=>exact#[u,Z,r]
def d5.none_of{o:Option Aa}(r:d5 none o):o=none:=by
 cases o with
 |none=>rfl
 |some u=>exact (show False from r).elim
def he_{v:V}{u:Aa}(r:RelV v u):PySem.W.handedIn u=true:=by
 cases v with
 |non=>cases (show u=Value.none from r);rfl
 |bl b=>cases (show u=Value.bool b from r);rfl
 |int i=>let#[t,e]:=(show ∃t,u=Value.int i t from r);cases e;rfl
 |str x=>let#[t,e]:=(show ∃t,u=Value.str x t from r);cases e;rfl
 |byt b=>let#[t,e]:=(show ∃t,u=Value.bytes b t from r);cases e;rfl
 |flt b=>let#[t,e]:=(show ∃t,u=Value.float b t from r);cases e;rfl
 |ref a=>cases (show u=Value.ref a from r);rfl
 |ty n=>cases (show u=Value.type n from r);rfl
section
variable{P:Ad}{w:Af}{H H':Hp}{h h':Heap}{a C dx:Addr}{fs fs':List (Str × V)}
def Ng(ay:dP P w H h)(e:H a\.ins C dx fs):∃mA,oF h a dx C mA/\(∀f,d5 (fs.lookup f) (mA f))/\PySem.Within mA (fs.map (·.1))/\fs.length<=1000/\H dx\.own a:=by
 let#[d,z,ne,ob,mA,n,r,q]:=(show eX P w H h a (.ins C dx fs) from ay a _ e);exact#[mA,#[ob,n,ne],r,q,z,d]
end
structure j6(K:af)(C:Addr):Prop where
 pg:PySem.W.plainGet K C Str.empty=true
 hd:PySem.W.hasDictIn K C=true
 po:PySem.W.plainOver K C=true
 sa:PySem.W.findIn K (.ref C) "__setattr__"\some (.builtin "object.__setattr__")
def j6.get{K:af}{C:Addr}(c:j6 K C)(f:Str):PySem.W.plainGet K C f=true:=c.pg
def ip(K:af)(C:Addr)(f:Str):Prop:=PySem.W.findIn K (.ref C) f=some none
def ip.Gf{K:af}{C:Addr}{f:Str}(n:ip K C f):PySem.W.takerIn K C f\none:=by
 unfold PySem.W.takerIn;rw[show PySem.W.findIn K (.ref C) f\none from n];rfl
structure Con(K:af)(C:Addr)(f:Str)(v:V)(u:Aa):Prop where
 at_:PySem.W.findIn K (.ref C) f\some u
 rel:RelV v u
 get:PySem.W.specialIn K u "__get__"\none
 cp:PySem.W.copiedNames.contains f=false
structure Meth(K:af)(C:Addr)(m:Str)(f:Addr):Prop where
 at_:PySem.W.findIn K (.ref C) m\some (.ref f)
 fn:PySem.W.isFn K (.ref f)=true
 kp:PySem.W.keepIn K (.ref f)=true
section
variable{X:Cx}{π:List (Addr × Obj)}{σ:St}{H:Hp}{s:Ab}{a C dx:Addr}{fs:List (Str × V)}{f:Str}{v:V}{A:Ag}{E:Aa->Ab->Prop}
def g4_{b:Bool}{Q:Aa->Ab->Prop}(I:!In H s)(e:H a\.ins C dx fs)(c:j6 X.K C)(n:ip X.K C f)(l:fs.lookup f\v)
 (h:∀u s',!In H s'->RelV v u->Q u s'):wpAny (model X.prog X.w) A (getAttr (.ref a) f b) Q E s:=by
 let#[mA,O,r,_,_,_]:=Ng I.ay e;let#[u,hu,ru]:=d5.some_of (v:=v) (o:=mA f) (by rw[<- l];exact r f);exact l2_ I.fG O (c.get f) c.hd n hu (he_ ru) (h u _ (I.tok _) ru)
def TB{m:Str}{g:Addr}{pl:Sem Bool}{Q:Aa × aj->Ab->Prop}(I:!In H s)(e:H a\.ins C dx fs)(c:j6 X.K C)(k:Meth X.K C m g)(l:fs.lookup m=none)
 (h:Q (.ref g,[.ref a]) s):wpAny (model X.prog X.w) A (getMethod (.ref a) m pl) Q E s:=by
 let#[mA,O,r,_,_,_]:=Ng I.ay e;have hn:mA m=none:=d5.none_of (by rw[<- l];exact r m);exact iY_ I.fG O (c.get m) k.at_ k.fn hn h
def gb_{y:V}{u:Aa}{Q:Unit->Ab->Prop}(I:!In H s)(e:H a\.ins C dx fs)(c:j6 X.K C)(n:ip X.K C f)(hl:fs.length<1000)(ry:RelV y u)
 (h:∀s',!In (upd H a (.ins C dx (aL f y fs))) s'->Q () s'):wpAny (model X.prog X.w) A (setAttr (.ref a) f u) Q E s:=by
 let#[mA,O,r,wi,_,ho]:=Ng I.ay e;have hz:(fs.map (·.1)).length<=sizeLine:=by rw[aq,cX];omega
 apply kc_ I.fG O c.sa c.po n.Gf c.hd wi hz λh' O' sb=>h _ ?_;have hd:∃o,h'.get? dx\o:=let #[o,_,_,e',_]:=O'.ns;#[o,e'];apply I.write (x:=a) (e:=dx) (by rw[e];exact True.intro) (.inr ho) (λb q hb z=>(sb.2 b hb).trans z) hd ?_;apply#[by rw[aD O.ne];exact ho,?_,O.ne,O'.obj,_,O'.ns,λg=>?_,λg hg=>?_]
 ·have:=_s f y fs;omega
 ·show d5 ((aL f y fs).lookup g) (if g=f then some u else mA g);rw[eZ];by_cases q:g=f
  ·rw[aF q,aF q];exact ry
  rw[aA q,aA q];exact r g
 by_cases q:g=f
 ·rw[q];exact (SX f y fs).1
 apply (SX f y fs).2 g (wi g λz=>hg ?_);show (if g=f then some u else mA g)=none;rw[aA q];exact z
def Inv.made(I:!In H s):!In (upd (upd H s.heap.objs.size (.own (s.heap.objs.size+1))) (s.heap.objs.size+1) (.ins C s.heap.objs.size []))
  { s with heap:=(s.heap.push PySem.W.emptyDict).push (PySem.W.instObj C s.heap.objs.size) }:=by
 have e1:(s.heap.push PySem.W.emptyDict).get? s.heap.objs.size\PySem.W.emptyDict:=eL s.heap Z
 have e2:((s.heap.push PySem.W.emptyDict).push (PySem.W.instObj C s.heap.objs.size)).get? (s.heap.objs.size+1)\PySem.W.instObj C s.heap.objs.size:=by
  have:=eL (s.heap.push PySem.W.emptyDict) (o:=PySem.W.instObj C s.heap.objs.size) Z;rwa [Heap.size_push] at this
 have e3:(s.heap.push PySem.W.emptyDict).Ns s.heap.objs.size (λ_=>none):=#[PySem.W.emptyDict,#[],_,e1,Z,(λe he=>absurd he Z2),λ_=>rfl];let I1:=I.laid (a:=s.heap.objs.size) (o:=.own (s.heap.objs.size+1)) (h':=s.heap.push PySem.W.emptyDict) (t':=s.toks) (λb u q=>b_ _ q) (bD _) #[_,e1];apply I1.laid (a:=s.heap.objs.size+1) (o:=.ins C s.heap.objs.size []) (t':=s.toks) (λb u q=>b_ _ q) (Nat.le_of_eq (Heap.size_push _ _)) ?_;have ne:s.heap.objs.size≠s.heap.objs.size+1:=dD (Nat.lt_succ_self _);apply#[by rw[aD ne,aE],gQ _,ne,e2,λ_=>none,(Heap.Ns1.of_empty e3).at λo q=>b_ _ q,λ_=>True.intro,λy hy=>absurd Z hy]
def kl_{prog:Ad}{w:Af}{env:Env}{e:Expr}{f:Str}{pos:Pos}{s:Ab}{Q:Aa->Ab->Prop}(hb:attributeBase e f env (eval e env)=eval e env)
 (h:wpAny (model prog w) A (eval e env) (λo aV=>wpAny (model prog w) A (getAttr o f true) Q E aV) E s):wpAny (model prog w) A (eval (.Attribute e f pos) env) Q E s:=
 Attribute_any_ h (by rw[arm_eval_Attribute,hb])
end
inductive zV(K:af)(f:Str)(Q:VK)(x:V)(H1:Hp):Prop
 |mk:∀a C dx fs v,x=.ref a->H1 a\.ins C dx fs->j6 K C->ip K C f->fs.lookup f\v->Q v H1->zV K f Q x H1
def OA(K:af)(ta:TE)(f:Str):TE:=λσ H Q=>ta σ H λx H1=>zV K f Q x H1
inductive Ac(K:af)(f:Str)(D:Ends)(σ:St)(y:V)(x:V)(H2:Hp):Prop
 |mk:∀a C dx fs,x=.ref a->H2 a\.ins C dx fs->j6 K C->ip K C f->fs.length<1000->D.nx σ (upd H2 a (.ins C dx (aL f y fs)))->Ac K f D σ y x H2
def OU(K:af)(ta tv:TE)(f:Str):TS:=λD σ H=>tv σ H λy H1=>ta σ H1 λx H2=>Ac K f D σ y x H2
section
variable{X:Cx}{o e value:Expr}{f:Str}{pos pos' F6:Pos}{ta tv:TE}
def bP(he:PE X e ta)(hb:attributeBase e f X.env (eval e X.env)=eval e X.env):PE X (.Attribute e f pos) (OA X.K ta f):=by
 intro π s σ H Q I h;apply kl_ hb (aU (he π s σ H _ I h) λu s1 ⟨x,H1,I1,rx,a,C,dx,fs,v,ex,ea,c,n,l,q⟩=>?_);subst ex;obtain rfl:u=Value.ref a:=rx;exact g4_ I1 ea c n l λu' s2 I2 ru=>#[v,H1,I2,ru,q]
def iS(ha:PE X o ta)(hv:PE X value tv)(hs:swapsWith value (some (.Attribute o f pos')) pos.line X.env=pure false):PS X (.Assign [.Attribute o f pos'] value pos) (OU X.K ta tv f):=by
 intro π s σ H D I h;apply plainObj_wpAny_Assign_Attribute (aU (hv π s σ H _ I h) λu s1 ⟨y,H1,I1,ry,q⟩=>aU (ha π s1 σ H1 _ I1 q) λov s2 ⟨x,H2,I2,rx,a,C,dx,fs,ex,ea,c,n,l,q2⟩=>?_) hs;subst ex;obtain rfl:ov=Value.ref a:=rx;exact gb_ I2 ea c n l ry λs3 I3=>#[σ,_,I3,q2]
end
section
variable{X:Cx}{π:List (Addr × Obj)}{σ:St}{H:Hp}{s:Ab}{A:Ag}{E:Aa->Ab->Prop}{Q:Aa->Ab->Prop}{c:Aa}{b:Bool}
inductive fM(K:af)(H:Hp):V->Aa->Prop where
 |non:fM K H .non (.type "NoneType")
 |bl (x:Bool):fM K H (.bl x) (.type "bool")
 |int (i:Int):fM K H (.int i) (.type "int")
 |str (x:Str):fM K H (.str x) (.type "str")
 |flt (x:UInt64):fM K H (.flt x) (.type "float")
 |lst {a:Addr} {xs:ag} (e:H a\.lst xs):fM K H (.ref a) (.type "list")
 |frz {a:Addr} {o:Obj} {xs:ag} (e:H a\.frz o (.lst xs)):fM K H (.ref a) (.type "list")
 |tup {a:Addr} {xs:ag} (e:H a\.tup xs):fM K H (.ref a) (.type "tuple")
 |dK {a:Addr} {kvs:List (Key × V)} (e:H a\.dK kvs):fM K H (.ref a) (.type "dict")
 |dT {a:Addr} {kvs:List (ax × V)} (e:H a\.dT kvs):fM K H (.ref a) (.type "dict")
 |ins {a C dx:Addr} {fs:List (Str × V)} (e:H a\.ins C dx fs) (cl:j6 K C) (ha:PySem.W.findIn K (.ref C) "__class__"\some (.builtin "object.__class__"))
   (hn:PySem.W.specialIn K (.builtin "object.__class__") "__get__"\some (.builtin "getset_descriptor.__get__")) (Me:PySem.W.takesIn K (.builtin "object.__class__")\true)
   (hm:PySem.W.mroIn K C (.type "object")\true):fM K H (.ref a) (.ref C)
def Zj{x:V}{u t:Aa}(I:!In H s)(rx:RelV x u)(ty:fM X.K H x t)(e:PySem.W.kitOne X.K t c\b)(h:∀tk,Q (.bool b) { s with toks:=tk }):
  wpAny (model X.prog X.w) A (call (.builtin "isinstance") [u,c]) Q E s:=by
 cases ty with
 |non=>cases (show u=Value.none from rx);exact rW PySem.W.kitx_none I.fG True.intro e nofun h
 |bl y=>cases (show u=Value.bool y from rx);exact rW PySem.W.kitx_bool I.fG True.intro e nofun h
 |int i=>let#[t,q]:=(show ∃t,u=Value.int i t from rx);cases q;exact rW PySem.W.kitx_int I.fG True.intro e nofun h
 |str y=>let#[t,q]:=(show ∃t,u=Value.str y t from rx);cases q;exact rW PySem.W.kitx_str I.fG True.intro e nofun h
 |flt y=>let#[t,q]:=(show ∃t,u=Value.float y t from rx);cases q;exact rW PySem.W.kitx_float I.fG True.intro e nofun h
 |@lst a xs ea=>
  cases (show u=Value.ref a from rx);let#[_,_,n,_,h1]:=(show eX X.prog X.w H s.heap a (.lst xs) from I.ay a _ ea);exact rW PySem.W.kitx_list I.fG #[_,h1,Z] e nofun h
 |@frz a ob xs ea=>
  cases (show u=Value.ref a from rx);let#[_,_,_,n,_,h1]:=(show eX X.prog X.w H s.heap a (.frz ob (.lst xs)) from I.ay a _ ea);exact rW PySem.W.kitx_list I.fG #[_,h1,Z] e nofun h
 |@tup a xs ea=>
  cases (show u=Value.ref a from rx);let#[_,_,_,p,_]:=(show eX X.prog X.w H s.heap a (.tup xs) from I.ay a _ ea);let#[o,h1,h2,_]:=p;exact rW PySem.W.kitx_tuple I.fG #[o,h1,h2] e nofun h
 |@dK a kvs ea=>
  cases (show u=Value.ref a from rx);let#[_,_,vs,_,p]:=(show eX X.prog X.w H s.heap a (.dK kvs) from I.ay a _ ea);let#[o,es,ep,h1,h2,_]:=p;exact rW PySem.W.kitx_dict I.fG #[o,h1,h2.1] e nofun h
 |@dT a kvs ea=>
  cases (show u=Value.ref a from rx);let#[_,_,xs,_,o,es,ep,h1,h2,_]:=(show eX X.prog X.w H s.heap a (.dT kvs) from I.ay a _ ea);exact rW PySem.W.kitx_dict I.fG #[o,h1,h2.1] e nofun h
 |@ins a C dx fs ea cl ha hn Me hm=>
  cases (show u=Value.ref a from rx);let#[mA,O,_]:=Ng I.ay ea;let#[od,J,_]:=O.look;exact rW (PySem.W.kitx_own (cl.get _) cl.hd ha hn Me hm) I.fG J e nofun h
end
structure aI(k:Nat)(A:Ag):Prop where
 hd:A.handled=none
 dp:A.depth+3 * k+5<recursionLimit
 un:A.units+16 * k+200<cLine
def aI.mono{j k:Nat}{A:Ag}(r:aI k A)(h:j<=k):aI j A:=#[r.hd,by have:=r.dp;omega,by have:=r.un;omega]
def aI.deeper{k:Nat}{A:Ag}(r:aI (k+1) A)(env:Env):aI k (A.deeper env):=
 #[r.hd,by have:=r.dp;show A.depth+1+3 * k+5<_;omega,by have:=r.un;show A.units+3+16 * k+200<_;omega]
def aI.in1{k:Nat}{A:Ag}(r:aI (k+1) A):aI k A.in1:=
 #[r.hd,by have:=r.dp;show A.depth+3 * k+5<_;omega,by have:=r.un;show A.units+1+16 * k+200<_;omega]
def gk_{A:Ag}{C:Addr}{us:aj}{kw:List (Str × Aa)}:(A.under (.builtin "type.__call__" #[.ref C::us,kw])).depth=A.depth+1:=by
 first|rfl|simp[Around.under,Code.weight,Code.isCreation,Code.isGuard,Code.isCaller,Code.frames,Code.isFrame,guardIds]
def gg_{A:Ag}{C:Addr}{us:aj}{kw:List (Str × Aa)}:(A.under (.builtin "type.__call__" #[.ref C::us,kw])).units=A.units+1:=by
 first|rfl|simp[Around.under,Code.cUnits,Code.frames,Code.isFrame]
def aI.make{k:Nat}{A:Ag}(r:aI (k+1) A)(C:Addr)(us:aj)(kw:List (Str × Aa)):aI k (A.under (.builtin "type.__call__" #[.ref C::us,kw])):=
 #[r.hd,by have:=r.dp;rw[gk_];omega,by have:=r.un;rw[gg_];omega]
def aI.depth{k:Nat}{A:Ag}(r:aI k A):A.depth<recursionLimit:=by have:=r.dp;omega
def aI.units{k:Nat}{A:Ag}(r:aI k A):A.units+64<cLine:=by have:=r.un;omega
def mj:TA:=λ_ H Q=>Q [] H
def j9(ta:TE)(tr:TA):TA:=λσ H Q=>ta σ H λx H1=>tr σ H1 λxs H2=>Q (x::xs) H2
section
variable{X:Cx}{e:Expr}{es:List Expr}{te:TE}{t:TA}{pos:Pos}
def aX:PA X [] mj:=λ_ _ _ _ H Q I h=>Calls.spliced_nil #[[],H,I,.nil,h]
def eV(ha:PE X e te)(hr:PA X es t)(hs:starEach (e::es) X.env=(false,eval e X.env)::starEach es X.env:=by rfl):PA X (e::es) (j9 te t):=by
 intro pos π s σ H Q I h;rw[hs];show wpAny _ _ (spliced ((false,eval e X.env)::backTo pos (starEach es X.env))) _ _ s;apply Calls.spliced_cons (aU (ha π s σ H _ I h) λu s1 ⟨x,H1,I1,r1,q1⟩=>?_);exact aU (hr pos π s1 σ H1 _ I1 q1) λus s2 ⟨xs,H2,I2,r2,q2⟩=>#[x::xs,H2,I2,.cons r1 r2,q2]
def Gg(t:TA):TE:=λσ H Q=>t σ H λxs H1=>xs.length<=sizeLine/\∀p,H1 p=none->Q (.ref p) (upd H1 p (.tup xs))
def Gq(t:TA):TE:=λσ H Q=>t σ H λxs H1=>xs.length<=sizeLine/\∀p,H1 p=none->Q (.ref p) (upd H1 p (.lst xs))
def dS{x1}(h:PA X es t):PE X (.Tuple es x1 pos) (Gg t):=by
 intro π s σ H Q I hq;apply wpAny_Tuple_spliced (aU (h pos π s σ H _ I hq) λus s1 ⟨xs,H1,I1,r,z,q⟩=>#[by rw[<- r.length];exact z,?_]);have hf:H1 s1.heap.objs.size=none:=I1.ay.fresh (bD _);apply#[.ref s1.heap.objs.size,upd H1 s1.heap.objs.size (.tup xs),I1.laid (t':=s1.toks) (λb u e=>b_ _ e) (bD _) ?_,Z,q _ hf];exact#[z,us,r,#[_,eL _ Z,Z,_,Z],_,eL _ Z,Z]
def dI(h:PA X es t):PE X (.List es pos) (Gq t):=by
 intro π s σ H Q I hq;apply wpAny_List_spliced (aU (h pos π s σ H _ I hq) λus s1 ⟨xs,H1,I1,r,z,q⟩=>#[by rw[<- r.length];exact z,?_]);have hf:H1 s1.heap.objs.size=none:=I1.ay.fresh (bD _);apply#[.ref s1.heap.objs.size,upd H1 s1.heap.objs.size (.lst xs),I1.laid (t':=s1.toks) (λb u e=>b_ _ e) (bD _) ?_,Z,q _ hf];exact#[z,us,0,r,eL _ Z]
end
abbrev Sp:=ag->Hp->VK->XK->Prop
abbrev jm:=List Env->Hp->Ab->XK->Aa->Ab->Prop
structure i3(P:Ad)(w:Af)(K:af)(mg:Str->Option Aa)(base:Heap)(A:Ag)(outer:List Env)(s:Ab)(H:Hp):Prop where
 frames:A.frames\outer
 mod:Mod K mg base
 bs:∀b o,base.get? b\o->s.heap.get? b\o/\H b=none
 r_:base.objs.size<=s.heap.objs.size
 fI:s.heap.FunFrames base outer
 w4:∀b∈eB outer,H b=none
 ay:dP P w H s.heap
 bare:AllBare s.gens
def CE(outer:List Env)(P:Ad)(w:Af)(H:Hp)(s:Ab)(Q:VK)(u:Aa)(s':Ab):Prop:=
 ∃v H',s'.os=s.os/\AllBare s'.gens/\Un (eB outer) [] H H' s.heap s'.heap/\dP P w H' s'.heap/\RelV v u/\Q v H'
def CR(CX:jm)(outer:List Env)(P:Ad)(w:Af)(H:Hp)(s:Ab)(Q:VK)(E:XK)(r:Result)(s':Ab):Prop:=
 match r with
 |.ok (.ret u)=>CE outer P w H s Q u s'
 |.ok _=>False
 |.error e=>CX outer H s E e s'
structure ak(P:Ad)(w:Af)(K:af)(mg:Str->Option Aa)(base:Heap)(CX:jm)(k:Nat)(f:Addr)(fd:Ae)(ps:ae)(sp:Sp):Prop where
 len:∀vs H Q E,sp vs H Q E->vs.length=ps.length
 run:∀(A:Ag) (outer:List Env) (s:Ab) (H:Hp) (args:Args) (us:aj) (vs:ag) (Q:VK) (E:XK),aI k A->i3 P w K mg base A outer s H->BindsTo s fd args (ps.zip us)->Vals vs us->sp vs H Q E->
  codeAny (model P w) A (.call (.ref f) args) (CR CX outer P w H s Q E) s
def ak.mono{P:Ad}{w:Af}{K:af}{mg:Str->Option Aa}{base:Heap}{CX:jm}{j k:Nat}{f:Addr}{fd:Ae}{ps:ae}{sp:Sp}(F:ak P w K mg base CX j f fd ps sp)(h:j<=k):
  ak P w K mg base CX k f fd ps sp:=#[F.len,λA outer s H args us vs Q E hr=>F.run A outer s H args us vs Q E (hr.mono h)]
def i3.make{P:Ad}{w:Af}{K:af}{mg:Str->Option Aa}{base:Heap}{A:Ag}{outer:List Env}{s:Ab}{H:Hp}(e:i3 P w K mg base A outer s H)(C:Addr)(us:aj)(kw:List (Str × Aa)):
  i3 P w K mg base (A.under (.builtin "type.__call__" #[.ref C::us,kw])) outer s H:=#[by first|exact e.frames|(simpa [Around.under,Code.envs,Code.isFrame,pushEnvs] using e.frames),e.mod,e.bs,e.r_,e.fI,e.w4,e.ay,e.bare]
section
variable{X:Cx}{π:List (Addr × Obj)}{σ:St}{H:Hp}{s s':Ab}
def Inv.yV(I:!In H s):i3 X.prog X.w X.K X.mg X.base X.A X.stack s H:=
 #[I.ok.frames,I.ok.mod,I.bs,ma I.ok.r_ I.sz,I.stack,I.jr,I.ay,I.bare]
def Inv.after{Q:VK}{u:Aa}(I:!In H s)(h:CE X.stack X.prog X.w H s Q u s'):EP X π σ Q u s':=by
 let#[v,H',os,bare,un,ay,r,q]:=h;let#[hh,g,d,t,os']:=s';obtain rfl:os'=s.os:=os;exact#[v,H',I.call (h':=hh) (g':=g) (d':=d) (t':=t) (ch:=[]) un ay bare (λb z=>absurd z Z2),r,q]
end
def tF(sp:Sp)(eK:ag)(E:XK)(t:TA):TE:=λσ H Q=>t σ H λvs H1=>sp (vs++eK) H1 Q E
inductive tq(C:Addr)(m:Str)(sp:Sp)(eK:ag)(E:XK)(t:TA)(σ:St)(Q:VK)(x:V)(H1:Hp):Prop
 |mk:∀a dx fs,x=.ref a->H1 a\.ins C dx fs->fs.lookup m=none->(t σ H1 λvs H2=>sp (x::(vs++eK)) H2 Q E)->tq C m sp eK E t σ Q x H1
def oQ(C:Addr)(m:Str)(sp:Sp)(eK:ag)(E:XK)(ta:TE)(t:TA):TE:=λσ H Q=>ta σ H λx H1=>tq C m sp eK E t σ Q x H1
def zR(C:Addr)(sp:Sp)(eK:ag)(E:XK)(t:TA):TE:=λσ H Q=>t σ H λvs H1=>∀x dx,H1 x=none->H1 dx=none->dx≠x->
 sp (.ref x::(vs++eK)) (upd (upd H1 dx (.own x)) x (.ins C dx [])) (λv H2=>v=.non/\Q (.ref x) H2) E
def kX(K:af)(fd:Ae)(ps:ae)(ds:aj):Prop:=
 ∀(s:Ab) (us:aj),K.In s.heap->(us++ds).length=ps.length->BindsTo s fd #[us,[]] (ps.zip (us++ds))
def kX.all{K:af}{fd:Ae}{ps:ae}(h:∀us:aj,us.length=ps.length->bindArgs fd #[us,[]]=pure (ps.zip us)):kX K fd ps []:=λs us _ hl=>by
 rw[wa] at hl ⊢;exact .of_eq (h us hl)
def oq(CX:jm)(X:Cx)(E:XK):Prop:=∀(π:List (Addr × Obj)) (σ:St) (H:Hp) (s:Ab) (e:Aa) (s':Ab),!In H s->CX X.stack H s E e s'->X.xe e s'
section
variable{X:Cx}{CX:jm}{k:Nat}{f C:Addr}{fd:Ae}{ps:ae}{sp:Sp}{eK:ag}{ds:aj}{E:XK}{x m:Str}{p pos apos:Pos}{e o:Expr}{es:List Expr}{ta:TE}{t:TA}
def Rw{π:List (Addr × Obj)}{σ:St}{H:Hp}{s:Ab}{Q:VK}{us:aj}{vs:ag}(F:ak X.prog X.w X.K X.mg X.base CX k f fd ps sp)(hr:aI k X.A)(hb:kX X.K fd ps ds)(hd:Vals eK ds)(hx:oq CX X E)
 (I:!In H s)(r:Vals vs us)(h:sp (vs++eK) H Q E):wpAny (model X.prog X.w) X.A (call (.ref f) us) (EP X π σ Q) X.xe s:=by
 have r2:Vals (vs++eK) (us++ds):=r.append hd;have hl:(us++ds).length=ps.length:=by rw[<- r2.length];exact F.len _ _ _ _ h
 apply wpAny_call (codeAny_mono (F.run X.A X.stack s H #[us,[]] (us++ds) (vs++eK) Q E hr I.yV (hb s us I.fG hl) r2 h) λr s' hq=>?_);cases r with
 |error e=>exact hx π σ H s e s' I hq
 |ok fl=>
  cases fl with
  |ret u=>exact I.after hq
  |next=>exact False.elim hq
  |brk=>exact False.elim hq
  |cont=>exact False.elim hq
def Yr(F:ak X.prog X.w X.K X.mg X.base CX k f fd ps sp)(hr:aI k X.A)(hg:Gl X x)(hm:X.mg x\.ref f)(hk:PySem.W.keepIn X.K (.ref f)=true)(hb:kX X.K fd ps ds)(hd:Vals eK ds)(hx:oq CX X E)
 (ha:PA X (e::es) t)(qG:(x == ("__debug__":Str))=false:=by decide)(he:starEach (e::es) X.env=(false,eval e X.env)::starEach es X.env:=by rfl)(fX:(backTo pos (starEach es X.env)).any (·.1)=false:=by rfl):
  PE X (.Call (.Name x p) (e::es) [] pos) (tF sp eK E t):=by
 intro π s σ H Q I h;apply wpAny_Call_Name_kw (JW I hg hm ?_ qG);apply PySem.W.callWith_K (h₀:=X.base) I.ok.mod.Cd hk (aU (ha pos π s σ H _ I h) λus s1 ⟨vs,H1,I1,r,q⟩=>#[I1.fG,?_]) he fX;exact Rw F hr hb hd hx I1 r q
def ke_{pl:Sem Bool}(he:PE X o ta)(c:j6 X.K C)(hm:Meth X.K C m f)(F:ak X.prog X.w X.K X.mg X.base CX k f fd ps sp)(hr:aI k X.A)(hb:kX X.K fd ps ds)(hd:Vals eK ds)(hx:oq CX X E)(ha:PA X (e::es) t)
 (gT:starEach (e::es) X.env=(false,eval e X.env)::starEach es X.env:=by rfl)(fX:(backTo pos (starEach es X.env)).any (·.1)=false:=by rfl)
 (ht:eval (.Call (.Attribute o m apos) (e::es) [] pos) X.env=(do
   let ov <- eval o X.env
   standAt apos.atName
   let (f,first) <- holding [ov] (getMethod ov m pl)
   callWith pos f first (backTo pos (starEach (e::es) X.env)) (backToKw pos (keywordEach [] X.env))):=by rfl):
  PE X (.Call (.Attribute o m apos) (e::es) [] pos) (oQ C m sp eK E ta t):=by
 intro π s σ H Q I h;apply PySem.W.methodCall_KW (pl:=pl) (aU (he π s σ H _ I h) λu s1 ⟨x,H1,I1,rx,a,dx,fs,ex,ea,l,q⟩=>?_) ht;subst ex;obtain rfl:u=Value.ref a:=rx;apply TB I1 ea c hm l ?_;apply PySem.W.callWith_K (first:=[.ref a]) (h₀:=X.base) I.ok.mod.Cd hm.kp (aU (ha pos π s1 σ H1 _ I1 q) λus s2 ⟨vs,H2,I2,r,q2⟩=>#[I2.fG,?_]) gT fX;exact Rw (us:=.ref a::us) (vs:=.ref a::vs) F hr hb hd hx I2 (.cons Z r) q2
def j1_{pl:Sem Bool}(he:PE X o ta)(c:j6 X.K C)(hm:Meth X.K C m f)(F:ak X.prog X.w X.K X.mg X.base CX k f fd ps sp)(hr:aI k X.A)(hb:kX X.K fd ps ds)(hd:Vals eK ds)(hx:oq CX X E)
 (ht:eval (.Call (.Attribute o m apos) [] [] pos) X.env=(do
   let ov <- eval o X.env
   standAt apos.atName
   let (f,first) <- holding [ov] (getMethod ov m pl)
   callWith pos f first (backTo pos (starEach [] X.env)) (backToKw pos (keywordEach [] X.env))):=by rfl):
  PE X (.Call (.Attribute o m apos) [] [] pos) (oQ C m sp eK E ta mj):=by
 intro π s σ H Q I h;apply PySem.W.methodCall_KW (pl:=pl) (aU (he π s σ H _ I h) λu s1 ⟨x,H1,I1,rx,a,dx,fs,ex,ea,l,q⟩=>?_) ht;subst ex;obtain rfl:u=Value.ref a:=rx;apply TB I1 ea c hm l ?_;exact PySem.W.callWith_K0 (first:=[.ref a]) I1.fG hm.kp (Rw (us:=[.ref a]) (vs:=[.ref a]) F hr hb hd hx I1 (.cons Z .nil) q)
structure Mk(K:af)(C f:Addr):Prop where
 makes:PySem.W.makesIn K C=true
 init:PySem.W.findIn K (.ref C) "__init__"\some (.ref f)
 fn:PySem.W.isFn K (.ref f)=true
 kp:PySem.W.keepIn K (.ref C)=true
def jz_{π:List (Addr × Obj)}{σ:St}{H:Hp}{s:Ab}{Q:VK}{us:aj}{vs:ag}(M:Mk X.K C f)(F:ak X.prog X.w X.K X.mg X.base CX k f fd ps sp)(hr:aI (k+1) X.A)(hb:kX X.K fd ps ds)(hd:Vals eK ds)
 (hx:oq CX X E)(I:!In H s)(r:Vals vs us)
 (h:∀x dx,H x=none->H dx=none->dx≠x->sp (.ref x::(vs++eK)) (upd (upd H dx (.own x)) x (.ins C dx [])) (λv H2=>v=.non/\Q (.ref x) H2) E):
  wpAny (model X.prog X.w) X.A (call (.ref C) us) (EP X π σ Q) X.xe s:=by
 let hq:=h (s.heap.objs.size+1) s.heap.objs.size (I.ay.fresh (Nat.le_succ _)) (I.ay.fresh (bD _)) (dD (Nat.lt_succ_self _));let I2:=Inv.made (C:=C) I;have r2:Vals (V.ref (s.heap.objs.size+1)::(vs++eK)) (Value.ref (s.heap.objs.size+1)::(us++ds)):=.cons Z (r.append hd)
 have hl:(Value.ref (s.heap.objs.size+1)::us++ds).length=ps.length:=by
  let e:=r2.length;rw[F.len _ _ _ _ hq] at e;exact e.symm
 apply wpAny_call (jd_ (f:=f) I.fG M.makes M.init (beq_iff_eq.mp M.fn) (codeAny_mono (F.run _ X.stack _ _ #[Value.ref (s.heap.objs.size+1)::us,[]] (Value.ref (s.heap.objs.size+1)::(us++ds)) _ _ E (hr.make C us [])
  (I2.yV.make C us []) (hb _ (Value.ref (s.heap.objs.size+1)::us) I2.fG hl) r2 hq) λr s' hq'=>?_))
 cases r with
 |error e=>exact hx π σ _ _ e s' I2 hq'
 |ok fl=>
  cases fl with
  |ret u=>
   let#[v,H',I3,rv,ev,q3]:=I2.after hq';subst ev;exact#[rv,#[V.ref (s.heap.objs.size+1),H',I3,Z,q3]]
  |next=>exact False.elim hq'
  |brk=>exact False.elim hq'
  |cont=>exact False.elim hq'
def kp_(M:Mk X.K C f)(F:ak X.prog X.w X.K X.mg X.base CX k f fd ps sp)(hr:aI (k+1) X.A)(hg:Gl X x)(hm:X.mg x\.ref C)(hb:kX X.K fd ps ds)(hd:Vals eK ds)(hx:oq CX X E)
 (ha:PA X (e::es) t)(qG:(x == ("__debug__":Str))=false:=by decide)(he:starEach (e::es) X.env=(false,eval e X.env)::starEach es X.env:=by rfl)(fX:(backTo pos (starEach es X.env)).any (·.1)=false:=by rfl):
  PE X (.Call (.Name x p) (e::es) [] pos) (zR C sp eK E t):=by
 intro π s σ H Q I h;apply wpAny_Call_Name_kw (JW I hg hm ?_ qG);apply PySem.W.callWith_K (h₀:=X.base) I.ok.mod.Cd M.kp (aU (ha pos π s σ H _ I h) λus s1 ⟨vs,H1,I1,r,q⟩=>#[I1.fG,?_]) he fX;exact jz_ M F hr hb hd hx I1 r q
end
def PK(X:Cx)(Et:List Keyword)(t:TA):Prop:=
 ∀(pos:Pos) (π:List (Addr × Obj)) (s:Ab) (σ:St) (H:Hp) (Q:ag->Hp->Prop),!In H s->t σ H Q->wpAny (model X.prog X.w) X.A (evalAll ((backToKw pos (keywordEach Et X.env)).map (·.2))) (AP X π σ Q) X.xe s
section
variable{X:Cx}{CX:jm}{k:Nat}{f C:Addr}{fd:Ae}{ps ks:ae}{sp:Sp}{E:XK}{x m:Str}{p pos apos Qe:Pos}{e o:Expr}{es:List Expr}{Et:List Keyword}{te ta:TE}{t tk:TA}{nm:Option Str}
def WL:PK X [] mj:=λ_ _ _ _ H Q I h=>wpAny_evalAll_nil #[[],H,I,.nil,h]
def Xp(ha:PE X e te)(hr:PK X Et t):PK X (#[nm,e,Qe]::Et) (j9 te t):=by
 intro pos π s σ H Q I h;show wpAny _ _ (evalAll ((do let v <- eval e X.env;standAt pos;pure v)::(backToKw pos (keywordEach Et X.env)).map (·.2))) _ _ s;apply wpAny_evalAll_cons (au (aU (ha π s σ H _ I h) λu s1 ⟨x,H1,I1,r1,q1⟩=>au (wpAny_standAt (bu ?_))));exact aU (hr pos π s1 σ H1 _ I1 q1) λus s2 ⟨xs,H2,I2,r2,q2⟩=>#[x::xs,H2,I2,.cons r1 r2,q2]
structure UV(K:af)(fd:Ae)(ps ks:ae)(g:aj->aj->aj)(gV:ag->ag->ag):Prop where
 to:∀(s:Ab) (us ws:aj),K.In s.heap->(g us ws).length=ps.length->BindsTo s fd #[us,ks.zip ws] (ps.zip (g us ws))
 rel:∀{vs:ag} {us:aj} {zs:ag} {ws:aj},Vals vs us->Vals zs ws->Vals (gV vs zs) (g us ws)
variable{g:aj->aj->aj}{gV:ag->ag->ag}
end
structure bA(N P:ae)(sc:Scope):Prop where
 kind:sc.kind=.function
 co:sc.isCoroutine=false
 gen:sc.isGenerator=false
 nd:N.Nodup
 pre:N.take P.length=P
 par:∀x∈P,sc.names.lookup x\.local∨sc.names.lookup x\.cell
 B0:∀y∈sc.names,y.2≠.free
def Zq{kindOf:Str->Option NameKind}{x:Str}:∀{binds:List (Str × Aa)}{m:Str->Option Aa},(∀v,(x,v)∉binds)->bindL kindOf binds m x=m x
 |[],_,_=>rfl
 |(n,v)::r,m,h=>by
  unfold bindL;rw[Zq λw hw=>h w (fj _ hw)];split
  ·have:x≠n:=by rintro rfl;exact h v fi
   simp[this]
  rfl
def Zz{kindOf:Str->Option NameKind}{x:Str}:∀{binds:List (Str × Aa)}{m:Str->Option Aa},(∀v,(x,v)∉binds)->bindC kindOf binds m x=m x
 |[],_,_=>rfl
 |(n,v)::r,m,h=>by
  unfold bindC;rw[Zz λw hw=>h w (fj _ hw)];split
  ·rfl
  have:x≠n:=by rintro rfl;exact h v fi
  simp[this]
def ZK{kindOf:Str->Option NameKind}{x:Str}{v:Aa}:∀{P:ae}{vs:aj}{i:Nat}{m:Str->Option Aa},P.Nodup->P[i]? = some x->vs[i]? = some v->kindOf x\.local->
  bindL kindOf (P.zip vs) m x\v
 |[],_,_,_,_,h,_,_=>by simp at h
 |_::_,[],_,_,_,_,h,_=>by simp at h
 |p::P,w::vs,0,m,nd,h1,h2,hk=>by
  simp at h1 h2;subst h1;subst h2;show bindL kindOf ((p,w)::P.zip vs) m p=_;unfold bindL;rw[Zq λv hv=>(j5.mp nd).1 (List.of_mem_zip hv).1,aF hk];simp
 |p::P,w::vs,i+1,m,nd,h1,h2,hk=>by
  show bindL kindOf ((p,w)::P.zip vs) m x=_;unfold bindL;exact ZK (i:=i) (j5.mp nd).2 ⇑h1 ⇑h2 hk
def ZJ{kindOf:Str->Option NameKind}{x:Str}{v:Aa}:∀{P:ae}{vs:aj}{i:Nat}{m:Str->Option Aa},P.Nodup->P[i]? = some x->vs[i]? = some v->kindOf x≠some .local->
  bindC kindOf (P.zip vs) m x\v
 |[],_,_,_,_,h,_,_=>by simp at h
 |_::_,[],_,_,_,_,h,_=>by simp at h
 |p::P,w::vs,0,m,nd,h1,h2,hk=>by
  simp at h1 h2;subst h1;subst h2;show bindC kindOf ((p,w)::P.zip vs) m p=_;unfold bindC;rw[Zz λv hv=>(j5.mp nd).1 (List.of_mem_zip hv).1,aA hk];simp
 |p::P,w::vs,i+1,m,nd,h1,h2,hk=>by
  show bindC kindOf ((p,w)::P.zip vs) m x=_;unfold bindC;exact ZJ (i:=i) (j5.mp nd).2 ⇑h1 ⇑h2 hk
def start(N:ae)(vs:ag):St:=vs.map some++List.replicate (N.length - vs.length) none
def dY(CX:jm)(P:Ad)(w:Af)(K:af)(mg:Str->Option Aa)(base:Heap)(N:ae)(qual:Str)(scope:Scope)(f:Addr)(cd:Aa)(A:Ag)(outer:List Env)(s:Ab)(H:Hp)(E:XK):Cx where
 prog:=P
 w:=w
 K:=K
 mg:=mg
 base:=base
 A:=A.deeper (envOfC qual scope s.heap.objs.size f cd)
 N:=N
 cw:=s
 iZ:=H
 env:=envOfC qual scope s.heap.objs.size f cd
 outer:=outer
 stack:=envOfC qual scope s.heap.objs.size f cd::outer
 ex:=[]
 calm:=true
 fn:=λ_=>true
 pn:=[]
 xe:=λe s'=>wpAny (model P w) (A.deeper (envOfC qual scope s.heap.objs.size f cd)) (leaving (envOfC qual scope s.heap.objs.size f cd) e) (λ_ rC=>CX outer H s E e rC) (λe' rC=>CX outer H s E e' rC) s'
def YG{sc:Scope}{n:Nat}{x:Str}(h:sc.names.lookup x\.cell):∃c,(cellsFrom n sc.names []).lookup x\c:=by
 let q:=PySem.W.cellsFrom_some sc.names n [] (.inl h);exact wg.mp q
def ih_{CX:jm}{P:Ad}{w:Af}{K:af}{mg:Str->Option Aa}{base:Heap}{N ps:ae}{qual:Str}{scope:Scope}{f:Addr}{cd:Aa}{A:Ag}{outer:List Env}{s s1:Ab}{H:Hp}{E:XK}{us:aj}{vs:ag}
 (S:bA N ps scope)(hd:A.handled=none)(e0:i3 P w K mg base A outer s H)(hl:vs.length=ps.length)(r:Vals vs us)
 (x:InCallC s s.heap.objs.size (bindL (envOfC qual scope s.heap.objs.size f cd).kindOf (ps.zip us) λ_=>none) (cellsFrom (s.heap.objs.size+1) scope.names []) (bindC (envOfC qual scope s.heap.objs.size f cd).kindOf (ps.zip us) λ_=>none) s1):
  Inv (dY CX P w K mg base N qual scope f cd A outer s H E) [] (start N vs) H s1:=by
 have fX:ps.length<=N.length:=by have:=dH List.length S.pre;rw[dZ] at this;omega
 let#[h1,tk,rfl,hk]:=x.done;have yo:∀b:Addr,b∉(dY CX P w K mg base N qual scope f cd A outer s H E).ex:=λb z=>absurd (show b∈([]:ai) from z) Z2
 apply#[#[e0.mod,S.kind,Z,Z,bD _,λy z c h1 h2=>?_,λy hy=>?_,λy c _ h=>?_,λ_=>hd,Around.frames_deeper e0.frames,.inr #[Z,Z],λb z=>absurd z (yo b),e0.bs,e0.r_,λb _ _=>yo b,λb z=>absurd z (yo b),e0.fI,e0.w4],
  rfl,e0.bare,Un.kept hk,#[_,x.toInCall.ns,λi y v h1 h2 h3=>?_],λy c h=>#[_,x.cell y c h],e0.ay.fresh (bD _),λy c h=>?_,λp hp=>absurd (show p∈([]:List (Addr × Obj)) from hp) Z2,e0.ay.kept hk,?_]
 ·exact name_of_addr x.apart (qT h1) (qT h2)
 ·have hy:scope.names.lookup y\.cell∨scope.names.lookup y\.free:=hy;rcases hy with hy|hy
  ·exact YG hy
  exact absurd Z (S.B0 _ (qT hy))
 ·exact Nat.le_of_lt (x.above y c (qT h))
 ·have hi:i<vs.length:=by
   unfold start at h2;by_cases hi:i<vs.length
   ·exact hi
   rw[D9 ⇑hi] at h2;rw[List.getElem?_replicate] at h2;split at h2<;>cases h2
  have ha:vs[i]? = some v:=by
   unfold start at h2;rw[FK ⇑hi,d0] at h2;cases e:vs[i]? with
   |none=>rw[e] at h2;cases h2
   |some a=>rw[e] at h2;cases h2;rfl
  let#[u,hu,rv]:=r.get ha
  have hp:ps[i]? = some y:=by
   rw[<- S.pre,List.getElem?_take_of_lt Z1];exact h1
  have LP:ps.Nodup:=by rw[<- S.pre];exact S.nd.sublist (List.take_sublist _ _)
  apply#[u,rv,?_];rcases S.par y (dz hp) with k|k
  ·exact .inl #[k,ZK LP hp hu k]
  let#[c,e]:=YG (n:=s.heap.objs.size+1) k;apply .inr #[.inl k,c,e,?_];let q:=x.cell y c e;rw[ZJ LP hp hu (by show scope.names.lookup y≠_;rw[k];decide)] at q;exact q
 ·exact e0.ay.fresh (Nat.le_of_lt (x.above y c (qT h)))
 unfold start;show _=N.length;rw[dE,aq,A8];omega
def L_{CX:jm}{P:Ad}{w:Af}{K:af}{mg:Str->Option Aa}{base:Heap}{k:Nat}{f:Addr}{name qual:Str}{params:Arguments}{body:List Stmt}{scope:Scope}{dV kV doc pm aC ct oc:Aa}{an od:Option Addr}
 {gK:Array (Option Aa)}{N ps:ae}{sp:Sp}(lk:K.lookup f=some #[oc,od,.func (PySem.W.fnOf name qual params body scope dV kV doc pm an aC ct),gK])(fY:PySem.W.codeIn K aC qual=true)(S:bA N ps scope)
 (len:∀vs H Q E,sp vs H Q E->vs.length=ps.length)
 (bY:∀(A:Ag)(outer:List Env)(s:Ab)(H:Hp)(vs:ag)(Q:VK)(E:XK),aI k (A.deeper (envOfC qual scope s.heap.objs.size f aC))->sp vs H Q E->
   ∃t,iy (dY CX P w K mg base N qual scope f aC A outer s H E) body t/\t { nx:=λ_ H'=>Q .non H',rt:=Q } (start N vs) H):
  ak P w K mg base CX (k+1) f (PySem.W.fnOf name qual params body scope dV kV doc pm an aC ct) ps sp:=by
 apply#[len,λA outer s H args us vs Q E hr e0 hb r iA=>?_];let hl:=len _ _ _ _ iA;have KX:K.In s.heap:=e0.mod.Cd.keeps λb o e=>(e0.bs b o e).1;have lim:s.heap.NoLimit:=e0.mod.nolimit.keeps λb o e=>(e0.bs b o e).1
 have Jb:∀y∈ps.zip us,scope.names.lookup y.1\.local∨(scope.names.lookup y.1\.cell/\((cellsFrom (s.heap.objs.size+1) scope.names []).lookup y.1).isSome=true):=λ⟨n,v⟩ hy=>by
  rcases S.par n (List.of_mem_zip hy).1 with q|q
  ·exact .inl q
  exact .inr #[q,PySem.W.cellsFrom_some _ _ _ (.inl q)]
 apply codeAny_call_function hr.depth (KX _ _ lk) Z S.co S.gen Z (PySem.W.codeRec_of KX fY) (hb _ _ _ _ ?_);apply wpAny_newFunctionEnv_cells S.kind Jb λenv he s1 x=>?_;subst he;apply#[lim.keeps x.toInCall.keep,codeAny_func ?_];let#[t,ht,hq]:=bY A outer s H vs Q E (hr.deeper _) iA;have I:Inv (dY CX P w K mg base N qual scope f aC A outer s H E) [] (start N vs) H s1:=ih_ S hr.hd e0 hl r x;apply gD (ht [] s1 (start N vs) H _ I hq) (λfl s' hs=>?_) λe s' hs=>hs
 have fin:∀{bh:St} {H':Hp} {v:V} {u:Aa},Inv (dY CX P w K mg base N qual scope f aC A outer s H E) [] bh H' s'->RelV v u->Q v H'->CE outer P w H s Q u s':=
  λ{bh H' v u} J rv q=>#[v,H',J.os,J.bare,J.base,J.ay,rv,q]
 cases fl with
 |ret u=>
  let#[v,bh,H',J,rv,q]:=hs;exact fin J rv q
 |next=>
  let#[bh,H',J,q]:=hs;exact fin (v:=V.non) (u:=Value.none) J Z q
 |brk=>
  let#[_,_,_,q]:=hs;exact False.elim q
 |cont=>
  let#[_,_,_,q]:=hs;exact False.elim q
end L2
local macro_rules|`(!$f:ident $a*)=>if [`bH,`jQ,`rp,`aZ,`lK,`ak,`ji].contains f.getId then let i:=Lean.mkIdent;`($f $(i `P) $(i `w) $(i `K) $(i `mg) $(i `base) $a*)else Lean.Macro.throwUnsupported
namespace L2
open PySem PySem.Spec PyProof.Rows
section
variable{X:Cx}{x:Str}{p pos:Pos}{e:Expr}{es:List Expr}{t:TA}{id T:String}{r:ag->Hp->VK->Prop}
def Vz(r:ag->Hp->VK->Prop)(t:TA):TE:=λσ H Q=>t σ H λvs H1=>r vs H1 Q
def cO(hc:gF X (.builtin id) r)(hg:Gl X x)(hm:X.mg x=none)(hv:bootBuiltins x\.builtin id)(ha:PA X (e::es) t)(hn:x≠"__name__":=by decide)(qG:(x == ("__debug__":Str))=false:=by decide)
 (he:starEach (e::es) X.env=(false,eval e X.env)::starEach es X.env:=by rfl)(fX:(backTo pos (starEach es X.env)).any (·.1)=false:=by rfl):PE X (.Call (.Name x p) (e::es) [] pos) (Vz r t):=by
 intro π s σ H Q I h;apply wpAny_Call_Name_kw (E7 I hg hm hv ?_ hn qG);exact PyProof.Rows.callWith_builtin1 (aU (ha pos π s σ H _ I h) λus s1 ⟨vs,H1,I1,r1,q1⟩=>hc π s1 σ H1 vs us Q I1 r1 q1) he fX
def sy(hc:gF X (.type T) r)(hg:Gl X x)(hm:X.mg x=none)(hv:bootBuiltins x\.type T)(ha:PA X (e::es) t)(hn:x≠"__name__":=by decide)(qG:(x == ("__debug__":Str))=false:=by decide)
 (he:starEach (e::es) X.env=(false,eval e X.env)::starEach es X.env:=by rfl)(fX:(backTo pos (starEach es X.env)).any (·.1)=false:=by rfl):PE X (.Call (.Name x p) (e::es) [] pos) (Vz r t):=by
 intro π s σ H Q I h;apply wpAny_Call_Name_kw (E7 I hg hm hv ?_ hn qG);exact PyProof.Rows.callWith_type1 (aU (ha pos π s σ H _ I h) λus s1 ⟨vs,H1,I1,r1,q1⟩=>hc π s1 σ H1 vs us Q I1 r1 q1) he fX
end
end L2
namespace HT
open PySem PyProof.Rows
section
open PySem.SeqAt
open PySem.AutoSeq1 (wpAny_loadPart')
open PySem.MeetsSeq PySem.MeetsSeq2 PySem.MeetsSeq3
end
section
variable{prog:Ad}{w:Af}{A:Ag}{E:Aa->Ab->Prop}{s:Ab}
def ku(n d:Nat):Option Int->Nat
 |none=>d
 |some v=>if v<0 then (v+(n:Int)).toNat else min v.toNat n
def hW(n d:Nat):ku n d none=d:=rfl
def ju(n d k:Nat):ku n d (some (k:Int))=min k n:=by
 show (if (k:Int)<0 then ((k:Int)+(n:Int)).toNat else min (k:Int).toNat n)=min k n;rw[aA Z1,A_]
end
end HT
namespace L2
open PySem PySem.Spec PyProof.Rows
abbrev TO:=St->Hp->(Option Int->Hp->Prop)->Prop
def PO(X:Cx)(e:Option Expr)(t:TO):Prop:=
 ∀(π:List (Addr × Obj)) (s:Ab) (σ:St) (H:Hp) (Q:Option Int->Hp->Prop),!In H s->t σ H Q->
  wpAny (model X.prog X.w) X.A (evalPart e X.env) (λu s'=>∃o H',!In H' s'/\IsPart u o/\Q o H') X.xe s
def xG:TO:=λ_ H Q=>Q none H
inductive sZ(Q:Option Int->Hp->Prop)(x:V)(H1:Hp):Prop
 |mk:∀i,x=.int i->Q (some i) H1->sZ Q x H1
def Gj(t:TE):TO:=λσ H Q=>t σ H λx H1=>sZ Q x H1
section
variable{X:Cx}{e:Expr}{te:TE}{lo hi:Option Expr}{tl th:TO}{pos p2:Pos}
def Fo:PO X none xG:=by
 intro π s σ H Q I h;rw[evalPart_none];exact bu #[none,H,I,.none,h]
def Fn(h:PE X e te):PO X (some e) (Gj te):=by
 intro π s σ H Q I hw;rw[evalPart_some];apply aU (h π s σ H _ I hw) λu s1 ⟨x,H1,I1,r1,q1⟩=>?_;let#[i,rfl,q]:=q1;let#[t,rfl]:=r1;exact#[some i,H1,I1,.int i t,q]
def SlR(X:Cx)(r:V->Option Int->Option Int->Hp->VK->Prop):Prop:=
 ∀(π:List (Addr × Obj)) (s:Ab) (σ:St) (H:Hp) (x:V) (v vl vu:Aa) (lo hi:Option Int) (sl:Addr) (Q:VK),!In H s->RelV x v->s.heap.IsSliceOf sl vl vu .none->IsPart vl lo->IsPart vu hi->r x lo hi H Q->
  ∃T id,typeLookup (.type T) "__getitem__"=pure (some (.builtin id))/\s.TypeIs v T/\wpAny (model X.prog X.w) X.A (getItem v (.ref sl)) (EP X π σ Q) X.xe s
def tSl(r:V->Option Int->Option Int->Hp->VK->Prop)(te:TE)(tl th:TO):TE:=λσ H Q=>te σ H λx H1=>tl σ H1 λl H2=>th σ H2 λu H3=>r x l u H3 Q
def FF{r:V->Option Int->Option Int->Hp->VK->Prop}(hr:SlR X r)(he:PE X e te)(hl:PO X lo tl)(hu:PO X hi th):PE X (.Subscript e (.Slice lo hi none p2) pos) (tSl r te tl th):=by
 intro π s σ H Q I h;apply Subscript_ (aU (he π s σ H _ I h) λv s1 ⟨x,H1,I1,r1,q1⟩=>?_);apply wpAny_Slice (aU (hl π s1 σ H1 _ I1 q1) λvl s2 ⟨l,H2,I2,pl,q2⟩=>aU (hu π s2 σ H2 _ I2 q2) λvu s3 ⟨u,H3,I3,pu,q3⟩=>?_);rw[evalPart_none];apply bu ?_;have I4:!In H3 { s3 with heap:=s3.heap.push { cls:=.type "slice",data:=.fields (List.toArray [vl,vu,.none]) } }:=I3.kept (t':=s3.toks) λb ob q=>b_ _ q;let#[T,id,hT,ht,hg]:=hr π { s3 with heap:=s3.heap.push { cls:=.type "slice",data:=.fields (List.toArray [vl,vu,.none]) } } σ H3 x v vl vu l u s3.heap.objs.size Q I4 r1 (Heap.IsSliceOf.new ..) pl pu q3;show wpAny (model X.prog X.w) X.A (subscriptTail e (.Slice lo hi none p2) v (.ref s3.heap.objs.size)) (EP X π σ Q) X.xe { s3 with heap:=s3.heap.push { cls:=.type "slice",data:=.fields (List.toArray [vl,vu,.none]) } };exact tail_any (ops:=[.ref s3.heap.objs.size,v]) ht hT hg (by with_unfolding_all rfl)
def fe(xs:ag)(lo hi:Option Int):ag:=(xs.drop (HT.ku xs.length 0 lo)).take (HT.ku xs.length xs.length hi - HT.ku xs.length 0 lo)
def f7_(xs:ag)(lo hi:Option Int):(fe xs lo hi).length<=xs.length:=by
 unfold fe;rw[dZ,zB];omega
end
def Ax(n:Nat)(i:Int):Option Nat:=if 0<=i then (if i<n then some i.toNat else none) else if -(n:Int)<=i then some (i+n).toNat else none
def gP{α:Type}(xs:List α)(i:Int):Option α:=(Ax xs.length i).bind λj=>xs[j]?
def Xg{n:Nat}{i:Int}{j:Nat}(h:Ax n i\j):seqIndex? i n\j/\j<n/\-(n:Int)<=i/\i<n:=by
 unfold Ax at h;by_cases h0:0<=i
 ·rw[aF h0] at h;by_cases h1:i<n
  ·rw[aF h1] at h;have e:i.toNat=j:=c7 h;exact#[by rw[seqIndex_of h0 h1,e],by omega,by omega,h1]
  rw[aA h1] at h;cases h
 rw[aA h0] at h;by_cases h1:-(n:Int)<=i
 ·rw[aF h1] at h;have e:(i+n).toNat=j:=c7 h;exact#[by rw[seqIndex_neg Z1 h1,e],by omega,h1,by omega]
 rw[aA h1] at h;cases h
def RQ{α:Type}{xs:List α}{i:Int}{v:α}(h:gP xs i\v):∃j,seqIndex? i xs.length\j/\xs[j]? = some v/\j<xs.length/\-(xs.length:Int)<=i/\i<xs.length:=by
 unfold gP at h;cases e:Ax xs.length i with
 |none=>rw[e] at h;cases h
 |some j=>
  rw[e] at h;let#[h1,h2,h3,h4]:=Xg e;exact#[j,h1,h,h2,h3,h4]
def fU{α:Type}{xs:List α}{j:Nat}{v:α}(h:xs[j]? = some v):gP xs (j:Int)\v:=by
 have hj:j<xs.length:=(cK.mp h).1
 have e:Ax xs.length (j:Int)\j:=by
  unfold Ax;rw[aF Z1,aF Z1];simp
 unfold gP;rw[e];exact h
def zE(b:Expr):Prop:=∀o i,subscripted b false o i=operate [o,i] (getItem o i)
def FN(X:Cx)(r:R2):Prop:=
 ∀(value slice:Expr) (π:List (Addr × Obj)) (s:Ab) (σ:St) (H:Hp) (x y:V) (v u:Aa) (Q:VK),!In H s->RelV x v->RelV y u->r x y H Q->
  subscripted slice false v u=operate [v,u] (getItem v u)->wpAny (model X.prog X.w) X.A (subscriptTail value slice v u) (EP X π σ Q) X.xe s
def MtR(X:Cx)(id:String)(r:V->ag->Hp->VK->Prop):Prop:=
 ∀(π:List (Addr × Obj)) (s:Ab) (σ:St) (H:Hp) (x:V) (xs:ag) (v:Aa) (us:aj) (Q:VK),!In H s->RelV x v->Vals xs us->r x xs H Q->
  wpAny (model X.prog X.w) X.A (call (.builtin id) (v::us)) (EP X π σ Q) X.xe s
section
variable{X:Cx}{a b:Expr}{ta tb:TE}{pos:Pos}
def bE{r:R2}(hr:FN X r)(ha:PE X a ta)(hb:PE X b tb)(hs:zE b:=by exact λ_ _=>rfl):PE X (.Subscript a b pos) (Gm r ta tb):=by
 intro π s σ H Q I h;exact Subscript_ (DR ha hb I h λv u s2 x y H2 I2 rx ry q=>hr a b π s2 σ H2 x y v u Q I2 rx ry q (hs _ _))
inductive uX(K:af)(x:V)(y:V)(H:Hp)(Q:VK):Prop
 |mk:∀p xs i v,x=.ref p->y=.int i->dU K H p xs->gP xs i\v->Q v H->uX K x y H Q
inductive ql(K:af)(x:V)(y:V)(H:Hp)(Q:VK):Prop
 |mk:∀p xs i v,x=.ref p->y=.int i->iw K H p xs->gP xs i\v->Q v H->ql K x y H Q
inductive GZ(x:V)(y:V)(H:Hp)(Q:VK):Prop
 |mk:∀z i c,x=.str z->y=.int i->z.length<=sizeLine->gP z.cps.toList i\c->Q (.str ⟨(List.toArray [c])⟩) H->GZ x y H Q
def iF:FN X (uX X.K):=by
 intro value slice π s σ H x y v u Q I rx ry h hs;let#[p,xs,i,z,rfl,rfl,hq,he,q]:=h;cases rx;let#[t,rfl]:=ry;let#[its,r,pl,hz]:=I.list hq;let#[j,h1,h2,h3,h4,h5]:=RQ he;let#[w,ew,hX]:=r.get h2;let hl:=r.length;let hn:=gj;have fin:EP X π σ Q w s:=⟨z,H,I,hX,q⟩;by_cases h0:0<=i
 ·have hj:i.toNat=j:=by
   rw[seqIndex_of h0 h5] at h1;exact c7 h1
  exact item_listR pl.isList h0 Z1 (by rw[hj];simpa using ew) fin hs
 have hj:(i+(its.toArray.size:Int)).toNat=j:=by
  rw[seqIndex_neg Z1 h4] at h1;rw[c_,<- hl];exact c7 h1
 exact subscriptTail_builtinR (x:=w) pl.isList.typeIs slot_list_getitem.lookup
  (wpAny_getItem_list_neg (Q:=λr s'=>r=w/\EP X π σ Q r s') pl.isList Z1 (by rw[c_]<;>omega) Z1 (by rw[hj];simpa using ew) ⟨rfl,fin⟩) hs
def cg:FN X (ql X.K):=by
 intro value slice π s σ H x y v u Q I rx ry h hs;let#[p,xs,i,z,rfl,rfl,hq,he,q]:=h;cases rx;let#[t,rfl]:=ry;let#[its,r,pl,hz]:=I.tuple hq;let#[j,h1,h2,h3,h4,h5]:=RQ he;let#[w,ew,hX]:=r.get h2;let hl:=r.length;let hn:=gj;have fin:EP X π σ Q w s:=⟨z,H,I,hX,q⟩
 exact subscriptTail_builtinR (x:=w) pl.typeIs slot_tuple_getitem.lookup
  (getItem_tuple (j:=j) (Q:=λr s'=>r=w/\EP X π σ Q r s') pl Z1 Z1 (by rw[c_,<- hl];exact h1) ⇑ew ⟨rfl,fin⟩) hs
def Ru:FN X GZ:=by
 intro value slice π s σ H x y v u Q I rx ry h hs;let#[z,i,c,rfl,rfl,hz,he,q]:=h;let#[t,rfl]:=rx;let#[t',rfl]:=ry;let#[j,h1,h2,h3,h4,h5]:=RQ he;have hl:z.cps.toList.length=z.length:=by simp[Str.length]
 rw[hl] at h1 h4 h5;let hn:=gj
 exact tail_any (typeIs_str s z t) slot_str_getitem.lookup (getItem_str (c:=c) (by
  have e1:decide (i < -(2 ^ 63:Int))=false:=d7 Z1;have e2:decide (i ≥ 2 ^ 63)=false:=d7 Z1;rw[e1,e2,Bool.or_false]) (by rw[h1];simpa using h2) ⟨.str ⟨(List.toArray [c])⟩,H,I.tok _,⟨_,rfl⟩,q⟩) hs
def gu_(its:aj)(n j:Nat)(u:Aa):Obj.mapSeq (·.setIfInBounds j u) { cls:=.type "list",data:=.seq its.toArray n }={ cls:=.type "list",data:=.seq (its.set j u).toArray n }:=by
 simp[Obj.mapSeq]
def Inv.lst{π:List (Addr × Obj)}{σ:St}{H:Hp}{s:Ab}{p:Addr}{xs:ag}(I:!In H s)(h:H p\.lst xs):
  ∃(its:aj)(n:Nat),Vals xs its/\s.heap.get? p=some { cls:=.type "list",data:=.seq its.toArray n }/\xs.length<=sizeLine:=by
 let#[z,its,n,r,e]:=I.ay p _ h;exact⟨its,n,r,e,z⟩
def Inv.B8{π:List (Addr × Obj)}{σ:St}{H:Hp}{s:Ab}{p:Addr}{xs ys:ag}{its its':aj}{n n':Nat}{f:Obj->Obj}(I:!In H s)(h:H p\.lst xs)
 (ho:s.heap.get? p=some { cls:=.type "list",data:=.seq its.toArray n })(hf:f { cls:=.type "list",data:=.seq its.toArray n }={ cls:=.type "list",data:=.seq its'.toArray n' })(r:Vals ys its')(hz:ys.length<=sizeLine)(t:Nat):
  !In (upd H p (.lst ys)) { s with heap:=s.heap.update p f,toks:=t }:=by
 have e:(s.heap.update p f).get? p=some { cls:=.type "list",data:=.seq its'.toArray n' }:=by
  rw[Du f ho (by rw[hf]<;>rfl),hf]
 apply I.write (x:=p) (e:=p) (by rw[h];trivial) (.inl rfl) (λb u hb q=>(je _ _ (Ne.symm hb)).trans q) ⟨_,e⟩ ?_;exact⟨hz,its',n',r,e⟩
inductive Aj(o:V)(i:V)(v:V)(H:Hp)(Q:Hp->Prop):Prop
 |mk:∀p xs k j,o=.ref p->i=.int k->H p\.lst xs->Ax xs.length k\j->Q (upd H p (.lst (xs.set j v)))->Aj o i v H Q
def Sw:K4 X Aj:=by
 intro π s σ H o i v ov iv u Q I ro ri rv h;let#[p,xs,k,j,rfl,rfl,hp,hj,q]:=h;cases ro;let#[t,rfl]:=ri;let#[its,n,r,ho,hz]:=I.lst hp;let#[h1,h2,h3,h4]:=Xg hj;let hl:=r.length;let hn:=gj
 have I':!In (upd H p (.lst (xs.set j v))) { s with heap:=s.heap.update p (Obj.mapSeq (·.setIfInBounds j u)) }:=
  I.B8 hp ho (gu_ its n j u) (r.set rv j) (by rw[List.length_set];exact hz) s.toks
 by_cases h0:0<=k
 ·have hk:k.toNat=j:=by
   rw[seqIndex_of h0 h4] at h1;exact c7 h1
  exact PySem.W.ki_setAt ho h0 Z1 (by rw[c_,<- hl];exact h4) (by rw[hk];exact⟨_,I',q⟩)
 have hk:(k+(its.toArray.size:Int)).toNat=j:=by
  rw[seqIndex_neg Z1 h3] at h1;rw[c_,<- hl];exact c7 h1
 exact PySem.W.ki_setBack ho Z1 (by rw[c_,<- hl];exact h3) Z1 (by rw[hk];exact⟨_,I',q⟩)
def eu_(lo hi:Option Int)(n:Nat):(sliceBounds lo hi none n).1=((HT.ku n 0 lo:Nat):Int)/\(sliceBounds lo hi none n).2.1=((HT.ku n n hi:Nat):Int)/\(sliceBounds lo hi none n).2.2=1:=by
 apply⟨?_,?_,rfl⟩
 ·cases lo with
  |none=>simp[sliceBounds,HT.ku]
  |some i=>
   simp only[sliceBounds,HT.ku,Option.getD_none,show (1:Int) > 0 by decide,if_true];by_cases h:i<0
   ·simp only[h,if_true]<;>omega
   simp only[h,if_false]<;>omega
 cases hi with
 |none=>simp[sliceBounds,HT.ku]
 |some i=>
  simp only[sliceBounds,HT.ku,Option.getD_none,show (1:Int) > 0 by decide,if_true];by_cases h:i<0
  ·simp only[h,if_true]<;>omega
  simp only[h,if_false]<;>omega
def dV_(its:aj)(lo hi:Option Int):slicePick its.toArray lo hi none=((its.drop (HT.ku its.length 0 lo)).take (HT.ku its.length its.length hi - HT.ku its.length 0 lo)).toArray:=by
 let#[h1,h2,h3]:=eu_ lo hi its.toArray.size;unfold slicePick;rw[h1,h2,h3];simp only[sliceRange_one,pick_run,c_]<;>rfl
inductive GW(K:af)(x:V)(lo:Option Int)(hi:Option Int)(H:Hp)(Q:VK):Prop
 |mk:∀a xs,x=.ref a->dU K H a xs->(∀p,H p=none->Q (.ref p) (upd H p (.lst (fe xs lo hi))))->GW K x lo hi H Q
def Fg:SlR X (GW X.K):=by
 intro π s σ H x v vl vu lo hi sl Q I rx hs pl pu h;let#[a,xs,rfl,hx,q]:=h;cases rx;let#[its,r,ht,hz]:=I.list hx;let hlen:=r.length;apply⟨"list",_,slot_list_getitem.lookup,ht.isList.typeIs,?_⟩;apply wpAny_getItem_list_slice ht.isList hs pl pu .none Z2 ?_ (by rw[c_]<;>omega)
 rw[dV_,<- hlen];apply⟨.ref s.heap.objs.size,_,I.laid (t':=s.toks) (o:=.lst (fe xs lo hi)) (λb ob q=>b_ _ q) (bD _) ?_,rfl,q _ (I.ay.fresh (bD _))⟩;exact⟨ma (f7_ xs lo hi) hz,_,0,(r.drop (HT.ku xs.length 0 lo)).take (HT.ku xs.length xs.length hi - HT.ku xs.length 0 lo),eL _ rfl⟩
def lQ:V->Bool
 |.non=>true
 |.bl _=>true
 |.int _=>true
 |.str _=>true
 |_=>false
def ja:V->V->Bool
 |.non,.non=>true
 |.bl a,.bl b=>a == b
 |.bl a,.int b=>(if a then 1 else 0) == b
 |.int a,.bl b=>a == (if b then 1 else 0)
 |.int a,.int b=>a == b
 |.str a,.str b=>a == b
 |_,_=>false
def MB{A:Ag}{s:Ab}{y x:V}{u v:Aa}(ry:RelV y u)(rx:RelV x v)(fy:lQ y=true)(fx:lQ x=true):SeqAt.EqAt A s u v (ja y x):=by
 cases y with
 |non=>
  cases ry;cases x with
  |non=>cases rx;exact SeqAt.EqAt.same _
  |bl b=>cases rx;exact SeqAt.EqAt.none_bool b
  |int b=>let#[t,rfl]:=rx;exact SeqAt.EqAt.none_int b t
  |str b=>let#[t,rfl]:=rx;exact SeqAt.EqAt.none_str b t
  |_=>exact absurd (show false=true from fx) iu
 |bl a=>
  cases ry;cases x with
  |non=>cases rx;exact SeqAt.EqAt.bool_none a
  |bl b=>cases rx;exact SeqAt.EqAt.bool_bool a b
  |int b=>let#[t,rfl]:=rx;exact SeqAt.EqAt.bool_int a b t
  |str b=>let#[t,rfl]:=rx;exact SeqAt.EqAt.bool_str a b t
  |_=>exact absurd (show false=true from fx) iu
 |int a=>
  let#[t',rfl]:=ry;cases x with
  |non=>cases rx;exact SeqAt.EqAt.int_none a t'
  |bl b=>cases rx;exact SeqAt.EqAt.int_bool a t' b
  |int b=>let#[t,rfl]:=rx;exact SeqAt.EqAt.int_int a t' b t
  |str b=>let#[t,rfl]:=rx;exact SeqAt.EqAt.int_str a t' b t
  |_=>exact absurd (show false=true from fx) iu
 |str a=>
  let#[t',rfl]:=ry;cases x with
  |non=>cases rx;exact SeqAt.EqAt.str_none a t'
  |bl b=>cases rx;exact SeqAt.EqAt.str_bool a t' b
  |int b=>let#[t,rfl]:=rx;exact SeqAt.EqAt.str_int a t' b t
  |str b=>let#[t,rfl]:=rx;exact SeqAt.EqAt.str_str a t' b t
  |_=>exact absurd (show false=true from fx) iu
 |_=>exact absurd (show false=true from fy) iu
def oh(x:V)(u:Aa):Bool:=match u with
 |.none=>ja .non x
 |.bool b=>ja (.bl b) x
 |.int i _=>ja (.int i) x
 |.str z _=>ja (.str z) x
 |_=>false
def ME{x y:V}{u:Aa}(r:RelV y u)(f:lQ y=true):oh x u=ja y x:=by
 cases y with
 |non=>cases r;rfl
 |bl b=>cases r;rfl
 |int i=>let#[t,rfl]:=r;rfl
 |str z=>let#[t,rfl]:=r;rfl
 |_=>exact absurd (show false=true from f) iu
def RX{x:V}:∀{xs:ag}{us:aj},Vals xs us->xs.all lQ=true->us.any (oh x)=xs.any λy=>ja y x
 |_,_,.nil,_=>rfl
 |y::xs,u::us,.cons r t,f=>by
  rw[List.all_cons,pZ] at f;rw[List.any_cons,List.any_cons,ME r f.1,RX t f.2]
def Ko{A:Ag}{s:Ab}{x:V}{v:Aa}(rx:RelV x v)(fx:lQ x=true):∀{xs:ag}{us:aj},Vals xs us->xs.all lQ=true->∀u∈us,SeqAt.EqAt A s u v (oh x u)
 |_,_,.nil,_=>λu hu=>by cases hu
 |y::xs,u::us,.cons r t,f=>λu' hu=>by
  rw[List.all_cons,pZ] at f;rcases cc.mp hu with rfl|hu
  ·rw[ME r f.1];exact MB r rx f.1 fx
  exact Ko rx fx t f.2 u' hu
def Ic(x:V)(xs:ag):Bool:=xs.any λy=>ja y x
inductive Lx(K:af)(neg:Bool)(x:V)(y:V)(H:Hp)(Q:VK):Prop
 |mk:∀p xs,y=.ref p->(dU K H p xs∨iw K H p xs)->lQ x=true->xs.all lQ=true->Q (.bl (if neg then !Ic x xs else Ic x xs)) H->Lx K neg x y H Q
def ZF:eG X (compareOp .In) (Lx X.K false):=by
 intro π s σ H x y v u Q I rx ry h;let#[p,xs,rfl,hq,fx,fs,q]:=h;cases ry;rcases hq with hq|hq
 ·let#[its,r,pl,hz]:=I.list hq;apply SeqAt.in_listAt (oh x) pl.isList (λw hw=>Ko rx fx r fs w ⇑hw) ⟨.bl _,H,I,rfl,?_⟩;rw[show its.toArray.any (oh x)=its.any (oh x) by simp,RX r fs];exact q
 let#[its,r,pl,hz]:=I.tuple hq;apply SeqAt.in_tupleAt (oh x) pl (λw hw=>Ko rx fx r fs w ⇑hw) ⟨.bl _,H,I,rfl,?_⟩;rw[show its.toArray.any (oh x)=its.any (oh x) by simp,RX r fs];exact q
inductive UF(K:af)(xs:ag)(H:Hp)(Q:VK):Prop
 |mk:∀p ys,xs=[.ref p]->(dU K H p ys∨iw K H p ys)->Q (.int ys.length) H->UF K xs H Q
def l0:gF X (.builtin "len") (UF X.K):=by
 intro π s σ H xs us Q I r h;let#[p,ys,rfl,hq,q]:=h;let#[u,rfl,rx]:=vals1 r;cases rx;let hn:=gj;rcases hq with hq|hq
 ·let#[its,r',pl,hz]:=I.list hq;let hlen:=r'.length;exact Calls.call_len_list pl.isList (by simp only[c_]<;>omega) ⟨.int ys.length,H,I.tok _,⟨s.toks+1,by rw[c_,hlen]⟩,q⟩
 let#[its,r',pl,hz]:=I.tuple hq;let hlen:=r'.length;exact len_tuple pl (by simp only[c_]<;>omega) ⟨.int ys.length,H,I.tok _,⟨s.toks+1,by rw[c_,hlen]⟩,q⟩
inductive _A(xs:ag)(H:Hp)(Q:VK):Prop
 |mk:∀z,xs=[.str z]->z.length<=sizeLine->Q (.int z.length) H->_A xs H Q
def eo_:gF X (.builtin "len") _A:=by
 intro π s σ H xs us Q I r h;let#[z,rfl,hz,q]:=h;let#[u,rfl,t,rfl]:=vals1 r;let hn:=gj;exact len_str Z1 ⟨.int z.length,H,I.tok _,⟨_,rfl⟩,q⟩
inductive _C(K:af)(xs:ag)(H:Hp)(Q:VK):Prop
 |mk:∀p ys,xs=[.ref p]->(dU K H p ys∨iw K H p ys)->(∀l,H l=none->Q (.ref l) (upd H l (.lst ys)))->_C K xs H Q
def es_:gF X (.type "list") (_C X.K):=by
 intro π s σ H xs us Q I r h;let#[p,ys,rfl,hq,q]:=h;let#[u,rfl,rx]:=vals1 r;cases rx
 have fin:∀(its:aj),Vals ys its->ys.length<=sizeLine->∀(h':Heap) (c':Nat),(∀b o',s.heap.get? b\o'->h'.get? b\o')->
   h'.get? s.heap.objs.size=some { cls:=.type "list",dict:=none,data:=.seq its.toArray c',slots:=#[] }->EP X π σ Q (.ref s.heap.objs.size) { s with heap:=h' }:=λits r' hz h' c' kp e=>
  #[.ref s.heap.objs.size,_,I.laid (t':=s.toks) kp (bD _) (show eX X.prog X.w _ h' _ (.lst ys) from #[hz,its,c',r',e]),Z,q _ (I.ay.fresh (bD _))]
 rcases hq with hq|hq
 ·let#[its,r',pl,hz]:=I.list hq;let hlen:=r'.length;let#[o,ho,hc,n,hd]:=pl.isList;exact call_list_seq p (.inl Z) ho hc hd (λh' c' kp e=>fin its r' hz h' c' kp e) (by simp only[c_]<;>omega)
 let#[its,r',pl,hz]:=I.tuple hq;let hlen:=r'.length;let#[o,ho,hc,n,hd]:=pl;exact call_list_seq p (.inr Z) ho hc hd (λh' c' kp e=>fin its r' hz h' c' kp e) (by simp only[c_]<;>omega)
def Vw(K:af)(T:String)(x:V)(H:Hp):Prop:=match x with
 |.str _=>T="str"
 |.int _=>T="int"
 |.ref p=>(T="list"/\∃xs,dU K H p xs)∨(T="tuple"/\∃o,K.lookup p\o/\o.cls=.type "tuple"/\o.dict=none) ∨
   (T="dict"/\((∃kvs,H p\.dK kvs)∨∃kvs,H p\.dT kvs))∨(T="set"/\∃S n,H p\.set S n)
 |_=>False
def lJ_{π:List (Addr × Obj)}{σ:St}{H:Hp}{s:Ab}{T:String}{x:V}{v:Aa}(I:!In H s)(r:RelV x v)(ty:Vw X.K T x H):
  s.TypeIs v T/\∀a,v=.ref a->∃ob,s.heap.get? a\ob/\ob.dict=none:=by
 cases x with
 |str z=>
  let#[t,rfl]:=r;cases (show T="str" from ty);exact#[typeIs_str s z t,λ_ e=>nomatch e]
 |int i=>
  let#[t,rfl]:=r;cases (show T="int" from ty);exact#[typeIs_int s i t,λ_ e=>nomatch e]
 |ref p=>
  cases r;rcases ty with⟨rfl,xs,hq⟩|⟨rfl,o,hk,hc,hd⟩|⟨rfl,hk⟩|⟨rfl,S,n,hk⟩
  ·let#[its,_,pl,_]:=I.list hq;apply#[pl.isList.typeIs,λa e=>?_];cases e;let#[o,n,e,c,hd,_]:=pl;exact#[o,e,hd]
  ·apply#[#[o,I.fG p o hk,hc],λa e=>?_];cases e;exact#[o,I.fG _ o hk,hd]
  ·have z:∃o,s.heap.get? p\o/\o.ExactDict:=by
    rcases hk with⟨kvs,hk⟩|⟨kvs,hk⟩
    ·let#[_,_,_,_,o,_,_,e,ex,_]:=I.ay p _ hk;exact#[o,e,ex]
    let#[_,_,_,_,o,_,_,e,ex,_]:=I.ay p _ hk;exact#[o,e,ex]
   let#[o,e,ex]:=z;apply#[#[o,e,ex.1],λa e2=>?_];cases e2;exact#[o,e,ex.2.1]
  ·let#[o,_,_,_,e,ex,_]:=I.ay p _ hk;apply#[#[o,e,ex.1],λa e2=>?_];cases e2;exact#[o,e,ex.2.1]
 |_=>exact False.elim ty
def VB(K:af)(T:String)(r:V->ag->Hp->VK->Prop)(to:TE)(t:TA):TE:=λσ H Q=>to σ H λx H1=>Vw K T x H1/\t σ H1 λxs H2=>r x xs H2 Q
variable{o e:Expr}{es:List Expr}{to:TE}{t:TA}{name:Str}{apos bF:Pos}{T id:String}{r:V->ag->Hp->VK->Prop}
def jL(pa:PlainAttrs T)(slot:Slot T name id)(QB:typeOf (.builtin id)=pure (.type "method_descriptor"))(hm:MtR X id r)(ho:PE X o to)(ha:PA X (e::es) t)
 (eQ:attributeBase o name X.env (eval o X.env)=eval o X.env:=by rfl)
 (CD:((backTo bF (starEach (e::es) X.env)).all (λx=>!x.1)&&(backToKw bF (keywordEach [] X.env)).all (λx=>x.1.isSome)
   && decide ((e::es).length+([]:List Keyword).length+(if ([]:List Keyword).isEmpty then 0 else 1)<30))=true:=by rfl)
 (ie:(apos.endLine == bF.line)=true:=by rfl)(hs:starEach (e::es) X.env=(false,eval e X.env)::starEach es X.env:=by rfl)(nX:(backTo bF (starEach es X.env)).any (·.1)=false:=by rfl):
  PE X (.Call (.Attribute o name apos) (e::es) [] bF) (VB X.K T r to t):=by
 intro π s σ H Q I h;apply wpAny_Call_method_late eQ CD ie Z (aU (ho π s σ H _ I h) λv s1 ⟨x,H1,I1,r1,ty,q1⟩=>?_);let#[h1,h2]:=lJ_ I1 r1 ty;apply#[T,id,pa,slot,QB,h1,h2,?_];let hA:=ha bF π s1 σ H1 _ I1 q1;rw[hs] at hA ⊢;apply Calls.callWith_builtin (by show (false || (backTo bF (starEach es X.env)).any (·.1))=false;rw[nX]<;>rfl) (Calls.evalArgs_plain ?_)
 exact aU hA λus s2 ⟨vs,H2,I2,r2,q2⟩=>hm π s2 σ H2 x vs v us Q I2 r1 r2 q2
end
def N4(X:Cx)(id:String)(r:V->ag->Hp->VK->Prop):Prop:=
 ∀(π:List (Addr × Obj)) (s:Ab) (σ:St) (H:Hp) (x:V) (xs:ag) (v:Aa) (us:aj) (Q:VK),!In H s->RelV x v->Vals xs us->r x xs H Q->
  wpAny (model X.prog X.w) X.A (call (.builtin id) (v::us)) (EP X π σ Q) X.xe s
def Vals.one:∀{x:V}{us:aj},Vals [x] us->∃u,us=[u]/\RelV x u
 |_,_,.cons r .nil=>#[_,Z,r]
def Vals.two:∀{x y:V}{us:aj},Vals [x,y] us->∃u v,us=[u,v]/\RelV x u/\RelV y v
 |_,_,_,.cons r (.cons q .nil)=>#[_,_,Z,r,q]
section
variable{X:Cx}{π:List (Addr × Obj)}{σ:St}{H:Hp}{s:Ab}{l b:Addr}{xs ys zs:ag}
def Inv.HL{its its':aj}{n:Nat}{f:Array Aa->Array Aa}{t':Nat}(I:!In H s)(hH:H l\.lst xs)
 (e:s.heap.get? l=some { cls:=.type "list",data:=.seq its.toArray n })(hf:f its.toArray=its'.toArray)(hv:Vals ys its')(hz:ys.length<=sizeLine):
  !In (upd H l (.lst ys)) { s with heap:=s.heap.update l (Obj.mapSeq f),toks:=t' }:=by
 let q:=PySem.IsL.update e f;rw[hf] at q;apply I.write (x:=l) (e:=l) (by rw[hH];exact trivial) (.inl Z) (λb' u hb hu=>(je s.heap (Obj.mapSeq f) (Ne.symm hb)).trans hu) #[_,q] ?_;exact#[hz,its',_,hv,q]
def Inv.B9{its:aj}{t':Nat}(I:!In H s)(hv:Vals ys its)(hz:ys.length<=sizeLine):
  !In (upd H s.heap.objs.size (.lst ys)) { s with heap:=s.heap.push { cls:=.type "list",data:=.seq its.toArray },toks:=t' }:=
 I.laid (λ_ _ q=>b_ _ q) (bD _) #[hz,its,0,hv,eL _ Z]
def Inv.fresh(I:!In H s):H s.heap.objs.size=none:=I.ay.fresh (bD _)
def Inv.kD(I:!In H s)(hH:H l\.lst xs):xs.length<=sizeLine/\∃(its:aj)(n:Nat),Vals xs its/\xs.length=its.length/\s.heap.get? l=some { cls:=.type "list",data:=.seq its.toArray n }:=by
 let#[z,its,n,r,e]:=I.ay l _ hH;exact#[z,its,n,r,r.length,e]
def vc{n:Nat}(h:n<=sizeLine):Builtin.List.listTooLong n=false:=by
 unfold Builtin.List.listTooLong;exact d7 Z1
end
section
variable{X:Cx}
inductive Tr(x:V)(vs:ag)(H:Hp)(Q:VK):Prop
 |mk:∀l xs y,x=.ref l->vs=[y]->H l\.lst xs->xs.length<sizeLine->Q .non (upd H l (.lst (xs++[y])))->Tr x vs H Q
def v_:N4 X "list.append" Tr:=by
 intro π s σ H x vs v us Q I rx rv h;let#[l,xs,y,rfl,rfl,hH,hz,q]:=h;cases rx;let#[u,rfl,ru]:=rv.one;let#[z,its,n,r,hl,e]:=I.kD hH;apply call_meets F.slot_list_append ⟨_,e,rfl⟩ F.entry_list_append (F.args_list_append_2 _ _) (PySem.list_append l its.toArray n u (by rw[c_];omega)) ⟨e,?_⟩;apply⟨.non,_,I.HL (its':=its++[u]) hH e Z2 (r.append (.cons ru .nil)) ?_,rfl,q⟩;rw[dE,D0];omega
inductive o_(x:V)(vs:ag)(H:Hp)(Q:VK):Prop
 |mk:∀l b xs zs,x=.ref l->vs=[.ref b]->H l\.lst xs->H b\.lst zs->xs.length+zs.length<=sizeLine->Q .non (upd H l (.lst (xs++zs)))->o_ x vs H Q
def DP:N4 X "list.extend" o_:=by
 intro π s σ H x vs v us Q I rx rv h;let#[l,b,xs,zs,rfl,rfl,hH,hB,hz,q]:=h;cases rx;let#[u,rfl,ru]:=rv.one;cases ru;let#[z,its,n,r,hl,e]:=I.kD hH;let#[z2,jx,n2,r2,jy,e2]:=I.kD hB;have hsz:its.toArray.size+jx.toArray.size<=sizeLine:=by rw[c_,c_];omega
 have IQ:¬(!its.toArray.isEmpty&&Builtin.List.listTooLong (its.toArray.size+jx.toArray.size))=true:=by
  rw[vc hsz,Bool.and_false];exact iu
 apply call_meets F.slot_list_extend ⟨_,e,rfl⟩ F.entry_list_extend (F.args_list_extend_2 _ _)
  (AutoSeq1.list_extend_list_list_0 l its.toArray n b jx.toArray n2 IQ (by rw[c_];omega) Z1) ⟨e,e2,?_⟩
 apply⟨.non,_,I.HL (its':=its++jx) hH e Z2 (r.append r2) ?_,rfl,q⟩;rw[dE];omega
inductive uZ(x:V)(y:V)(H:Hp)(Q:VK):Prop
 |mk:∀l b xs zs,x=.ref l->y=.ref b->H l\.lst xs->H b\.lst zs->xs.length+zs.length<=sizeLine->(∀p,H p=none->Q (.ref p) (upd H p (.lst (xs++zs))))->uZ x y H Q
def Fc:eG X (binaryOp .Add) uZ:=by
 intro π s σ H x y v u Q I rx ry h;let#[l,b,xs,zs,rfl,rfl,hH,hB,hz,q]:=h;cases rx;cases ry;let#[z,its,n,r,hl,e]:=I.kD hH;let#[z2,jx,n2,r2,jy,e2]:=I.kD hB;apply PySem.P.add_list e e2 ?_ (by rw[c_,c_];omega);have ea:its.toArray++jx.toArray=(its++jx).toArray:=by simp
 rw[ea];exact⟨.ref _,_,I.B9 (t':=s.toks) (r.append r2) (by rw[dE];omega),rfl,q _ I.fresh⟩
end
section
variable{prog:Ad}{w:Af}{A:Ag}{E:Aa->Ab->Prop}{s:Ab}
end
section
variable{X:Cx}
end
section
variable{κ:Type}[DecidableEq κ]
def a9(kvs:List (κ × V))(k:κ):aQ:=(kvs.find? λkv=>decide (kv.1=k)).map (·.2)
def putK(kvs:List (κ × V))(k:κ)(v:V):List (κ × V):=
 if (kvs.any λkv=>decide (kv.1=k))=true then kvs.map (λkv=>if kv.1=k then (kv.1,v) else kv) else kvs++[(k,v)]
def Dj(kvs:List (κ × V))(k:κ):List (κ × V):=kvs.filter λkv=>decide (kv.1≠k)
def l_{p:κ × V}{r:List (κ × V)}{k:κ}(e:p.1=k):a9 (p::r) k\p.2:=by simp[a9,List.find?_cons,e]
def l8{p:κ × V}{r:List (κ × V)}{k:κ}(e:¬p.1=k):a9 (p::r) k=a9 r k:=by simp[a9,List.find?_cons,e]
def DW(k:κ):∀kvs:List (κ × V),(kvs.any λkv=>decide (kv.1=k))=(a9 kvs k).isSome
 |[]=>rfl
 |p::r=>by
  rw[List.any_cons];by_cases e:p.1=k
  ·simp only[l_ e,cj e,Bool.true_or,Option.isSome_some]
  rw[l8 e,d7 e,Bool.false_or];exact DW k r
def Yz(k j:κ)(y:V):∀kvs:List (κ × V),a9 (kvs.map λkv=>if kv.1=k then (kv.1,y) else kv) j=(a9 kvs j).map λx=>if j=k then y else x
 |[]=>rfl
 |p::r=>by
  let ih:=Yz k j y r;rw[fK];by_cases h:p.1=k
  ·rw[aF h];by_cases e:p.1=j
   ·rw[l_ (p:=(p.1,y)) e,l_ e,Option.map_some,aF (e.symm.trans h)]
   rw[l8 (p:=(p.1,y)) e,l8 e,ih]
  rw[aA h];by_cases e:p.1=j
  ·rw[l_ (p:=p) e,l_ e,Option.map_some,aA (λz=>h (e.trans z))]
  rw[l8 (p:=p) e,l8 e,ih]
def Zd(k j:κ)(y:V):∀kvs:List (κ × V),a9 kvs k=none->a9 (kvs++[(k,y)]) j=if j=k then some y else a9 kvs j
 |[],_=>by
  by_cases e:k=j
  ·rw[aF e.symm];exact l_ (p:=(k,y)) e
  ·rw[aA (λz=>e z.symm)];exact l8 (p:=(k,y)) e
 |p::r,hn=>by
  rw[List.cons_append];have hk:¬p.1=k:=λz=>by rw[l_ z] at hn;cases hn
  rw[l8 hk] at hn;let ih:=Zd k j y r hn;by_cases e:p.1=j
  ·rw[l_ e,l_ e,aA (λz=>hk (e.trans z))]
  rw[l8 e,l8 e,ih]
def iJ_(kvs:List (κ × V))(k j:κ)(y:V):a9 (putK kvs k y) j=if j=k then some y else a9 kvs j:=by
 unfold putK;by_cases a:(kvs.any λkv=>decide (kv.1=k))=true
 ·rw[aF a,Yz];rw[DW] at a;by_cases e:j=k
  ·let#[x,hx]:=wg.mp a;rw[aF e,e,hx,Option.map_some,aF Z]
  rw[aA e];cases a9 kvs j with
  |none=>rfl
  |some x=>rw[Option.map_some,aA e]
 rw[aA a];apply Zd k j y kvs ?_;rw[DW] at a;cases q:a9 kvs k with
 |none=>rfl
 |some x=>rw[q] at a;exact (a Z).elim
def NX(kvs:List (κ × V))(k:κ)(v:V):(putK kvs k v).length<=kvs.length+1:=by
 unfold putK;split
 ·rw[aq];omega
 rw[dE,jf,vZ];omega
def DV{kvs:List (κ × V)}{k:κ}(v:V)(h:a9 kvs k=none):putK kvs k v=kvs++[(k,v)]:=by
 unfold putK;rw[DW,h];exact aA (by decide)
def d5.dN{o:aQ}{u:Option Aa}(r:d5 o u):o.isSome=u.isSome:=by
 cases o with
 |none=>cases u with
  |none=>rfl
  |some _=>exact (show False from r).elim
 |some _=>cases u with
  |none=>exact (show False from r).elim
  |some _=>rfl
def d5.getD{o:aQ}{u:Option Aa}{d:V}{d':Aa}(r:d5 o u)(rd:RelV d d'):RelV (o.getD d) (u.getD d'):=by
 cases o with
 |none=>cases u with
  |none=>exact rd
  |some _=>exact (show False from r).elim
 |some _=>cases u with
  |none=>exact (show False from r).elim
  |some _=>exact r
def KV.val{kvs:List (κ × V)}{vs:List (κ × Aa)}(r:KV kvs vs)(k:κ):d5 (a9 kvs k) (valueAt vs k):=by
 unfold KV at r
 induction r with
 |nil=>exact True.intro
 |@cons p q ps qs h t ih=>
  let#[h1,h2]:=h;by_cases e:p.1=k
  ·have e':q.1=k:=h1.symm.trans e;have b:valueAt (q::qs) k\q.2:=by simp[valueAt,List.find?_cons,e']
   rw[l_ e,b];exact h2
  have e':¬q.1=k:=λz=>e (h1.trans z);have b:valueAt (q::qs) k=valueAt qs k:=by simp[valueAt,List.find?_cons,e']
  rw[l8 e,b];exact ih
def KV.any{kvs:List (κ × V)}{vs:List (κ × Aa)}(r:KV kvs vs)(k:κ):(kvs.any λkv=>decide (kv.1=k))=vs.any λkv=>decide (kv.1=k):=by
 unfold KV at r
 induction r with
 |nil=>rfl
 |cons h t ih=>rw[List.any_cons,List.any_cons,ih,h.1]
def KV.BU{kvs:List (κ × V)}{vs:List (κ × Aa)}(r:KV kvs vs)(k:κ){y:V}{u:Aa}(ry:RelV y u):
  KV (kvs.map λkv=>if kv.1=k then (kv.1,y) else kv) (vs.map λkv=>if kv.1=k then (kv.1,u) else kv):=by
 unfold KV at r ⊢
 induction r with
 |nil=>exact .nil
 |@cons p q ps qs h t ih=>
  rw[fK,fK];apply .cons ?_ ih;let#[h1,h2]:=h;by_cases e:p.1=k
  ·rw[aF e,aF (h1.symm.trans e)];exact#[h1,ry]
  rw[aA e,aA (λz=>e (h1.trans z))];exact#[h1,h2]
def KV.put{kvs:List (κ × V)}{vs:List (κ × Aa)}(r:KV kvs vs)(k:κ){y:V}{u:Aa}(ry:RelV y u):KV (putK kvs k y) (stored vs k u):=by
 unfold putK stored;rw[r.any k];by_cases e:(vs.any λkv=>decide (kv.1=k))=true
 ·rw[aF e,aF e];exact r.BU k ry
 rw[aA e,aA e];exact Paired.snoc r #[Z,ry]
def KV.drop{kvs:List (κ × V)}{vs:List (κ × Aa)}(r:KV kvs vs)(k:κ):KV (Dj kvs k) (without vs k):=by
 unfold KV at r ⊢;unfold Dj without
 induction r with
 |nil=>exact .nil
 |@cons p q ps qs h t ih=>
  let#[h1,h2]:=h;rw[List.filter_cons,List.filter_cons];by_cases e:p.1=k
  ·have a:¬decide (p.1≠k)=true:=by simp[e]
   have b:¬decide (q.1≠k)=true:=by simp[h1.symm.trans e]
   rw[aA a,aA b];exact ih
  have e':¬q.1=k:=λz=>e (h1.trans z);have a:decide (p.1≠k)=true:=by simp[e]
  have b:decide (q.1≠k)=true:=by simp[e']
  rw[aF a,aF b];exact .cons #[h1,h2] ih
def KV.keys{kvs:List (κ × V)}{vs:List (κ × Aa)}(r:KV kvs vs):kvs.map (·.1)=vs.map (·.1):=by
 unfold KV at r
 induction r with
 |nil=>rfl
 |cons h t ih=>rw[fK,fK,ih,h.1]
def KV.length{kvs:List (κ × V)}{vs:List (κ × Aa)}(r:KV kvs vs):kvs.length=vs.length:=bG r
def jq_(kvs:List (κ × V))(k:κ):(Dj kvs k).length<=kvs.length:=List.length_filter_le _ _
end
def w_{P:Ad}{w:Af}{k:Key}{u:Aa}(r:RelV (kV k) u):(eD P w).is k u=true:=by
 cases k with
 |inl i=>let#[t,e]:=(show ∃t,u=Value.int i t from r);subst e;exact eU_ P w i t
 |inr x=>let#[t,e]:=(show ∃t,u=Value.str x t from r);subst e;exact UB P w x t
def Zg{P:Ad}{w:Af}:∀{ks:ax}{us:aj},Vals (ks.map kV) us->ItemsAre (eD P w) ks us
 |[],_,r=>by rw[List.map_nil] at r;cases r;exact .nil
 |k::ks,_,r=>by
  rw[fK] at r;cases r with
  |cons h t=>exact .cons (w_ h) (Zg t)
abbrev KT(H:Hp):List (ax × V)->List (ax × Addr × Aa)->Prop:=Paired λp q=>p.1=q.1/\H q.2.1\.tup (p.1.map kV)/\RelV p.2 q.2.2
def KT.val{H:Hp}{kvs:List (ax × V)}{xs:List (ax × Addr × Aa)}(r:KT H kvs xs)(k:ax):d5 (a9 kvs k) ((atKey xs k).map (·.2)):=by
 induction r with
 |nil=>exact True.intro
 |@cons p q ps qs h t ih=>
  let#[h1,_,h2]:=h;by_cases e:p.1=k
  ·have e':q.1=k:=h1.symm.trans e;have b:atKey (q::qs) k\q.2:=by simp[atKey,List.find?_cons,e']
   rw[l_ e,b];exact h2
  have e':¬q.1=k:=λz=>e (h1.trans z);have b:atKey (q::qs) k=atKey qs k:=by simp[atKey,List.find?_cons,e']
  rw[l8 e,b];exact ih
def KT.BU{H:Hp}{kvs:List (ax × V)}{xs:List (ax × Addr × Aa)}(r:KT H kvs xs)(k:ax){y:V}{u:Aa}(ry:RelV y u):
  KT H (kvs.map λkv=>if kv.1=k then (kv.1,y) else kv) (xs.map (putAt k u)):=by
 induction r with
 |nil=>exact .nil
 |@cons p q ps qs h t ih=>
  rw[fK,fK];apply .cons ?_ ih;let#[h1,h2,h3]:=h;unfold putAt;by_cases e:p.1=k
  ·rw[aF e,aF (h1.symm.trans e)];exact#[h1,h2,ry]
  rw[aA e,aA (λz=>e (h1.trans z))];exact#[h1,h2,h3]
def KT.put{H:Hp}{kvs:List (ax × V)}{xs:List (ax × Addr × Aa)}(r:KT H kvs xs)(k:ax){b:Addr}{y:V}{u:Aa}(hb:H b\.tup (k.map kV))(ry:RelV y u):
  KT H (putK kvs k y) (storedH xs k b u):=by
 have e:(kvs.any λkv=>decide (kv.1=k))=(atKey xs k).isSome:=by
  rw[DW,(r.val k).dN,Option.isSome_map]
 unfold putK storedH;rw[e];by_cases q:(atKey xs k).isSome=true
 ·rw[aF q,aF q];exact r.BU k ry
 rw[aA q,aA q];exact Paired.snoc r #[Z,hb,ry]
def KT.keeps{H H':Hp}{kvs:List (ax × V)}{xs:List (ax × Addr × Aa)}(r:KT H kvs xs)(ht:∀b ys,H b\.tup ys->H' b\.tup ys):KT H' kvs xs:=
 Paired.bJ r λ_ _ z=>#[z.1,ht _ _ z.2.1,z.2.2]
section
variable{P:Ad}{w:Af}{H:Hp}{h:Heap}{a:Addr}
def WC{u:HO}(ok:dP P w H h)(e:Rd H a u):eX P w H h a u:=e.ok ok
def oo{kvs:List (Key × V)}(ok:dP P w H h)(e:Rd H a (.dK kvs)):kvs.length<=sizeLine/\(a == sysModules)=false/\∃vs,KV kvs vs/\h.DictOf (eD P w) a vs:=
 show eX P w H h a (.dK kvs) from WC ok e
def C7{kvs:List (Key × V)}(ok:dP P w H h)(e:H a\.dK kvs):kvs.length<=sizeLine/\(a == sysModules)=false/\∃vs,KV kvs vs/\h.DictOf (eD P w) a vs:=oo ok (.inl e)
def E4{ks:ax}(ok:dP P w H h)(e:H a\.tup (ks.map kV)):(tupleKind (eD P w)).is h ks a:=by
 let#[_,its,r,#[o,h1,h2,n,h3],_]:=(show eX P w H h a (.tup (ks.map kV)) from ok a _ e);exact#[o,its.toArray,n,h1,h2,h3,by simpa using Zg r]
def Do{kvs:List (ax × V)}(ok:dP P w H h)(e:Rd H a (.dT kvs)):kvs.length<=sizeLine/\(a == sysModules)=false /\
  ∃xs,KT H kvs xs/\h.DictOfH (tupleKind (eD P w)) a xs:=by
 let#[z,y,xs,r,o,es,ep,h1,h2,h3,h4,h5]:=(show eX P w H h a (.dT kvs) from WC ok e);apply#[z,y,xs,r,o,es,ep,h1,h2,h3,h4,λx hx=>?_,h5]
 have all:∀{l:List (ax × V)} {m:List (ax × Addr × Aa)},KT H l m->∀x∈m,(tupleKind (eD P w)).is h x.1 x.2.1:=by
  intro l m q
  induction q with
  |nil=>intro x hx;exact nomatch hx
  |@cons p q ps qs hq t ih=>
   intro x hx;rcases cc.mp hx with e|hx
   ·subst e;exact E4 ok (by rw[<- hq.1];exact hq.2.1)
   exact ih x hx
 exact all r x hx
def m5_{kvs:List (ax × V)}(ok:dP P w H h)(e:H a\.dT kvs):kvs.length<=sizeLine/\(a == sysModules)=false /\
  ∃xs,KT H kvs xs/\h.DictOfH (tupleKind (eD P w)) a xs:=Do ok (.inl e)
end
def fq(H:Hp)(a:Addr)(y:V)(r:aQ):Prop:=
 (∃kvs k,Rd H a (.dK kvs)/\y=kV k/\r=a9 kvs k)∨∃kvs k b,Rd H a (.dT kvs)/\y=.ref b/\H b\.tup (k.map kV)/\r=a9 kvs k
def rh(H:Hp)(a:Addr)(y v:V)(H':Hp):Prop:=
 (∃kvs k,H a\.dK kvs/\y=kV k/\kvs.length<sizeLine/\H'=upd H a (.dK (putK kvs k v))) ∨
 ∃kvs k b,H a\.dT kvs/\y=.ref b/\H b\.tup (k.map kV)/\kvs.length<sizeLine/\H'=upd H a (.dT (putK kvs k v))
def fq.k{H:Hp}{a:Addr}{kvs:List (Key × V)}{k:Key}(e:H a\.dK kvs):fq H a (kV k) (a9 kvs k):=.inl #[kvs,k,.inl e,Z,Z]
def fq.t{H:Hp}{a b:Addr}{kvs:List (ax × V)}{k:ax}(e:H a\.dT kvs)(eb:H b\.tup (k.map kV)):fq H a (.ref b) (a9 kvs k):=.inr #[kvs,k,b,.inl e,Z,eb,Z]
def rh.k{H:Hp}{a:Addr}{kvs:List (Key × V)}{k:Key}{v:V}(e:H a\.dK kvs)(hl:kvs.length<sizeLine):rh H a (kV k) v (upd H a (.dK (putK kvs k v))):=.inl #[kvs,k,e,Z,hl,Z]
def rh.t{H:Hp}{a b:Addr}{kvs:List (ax × V)}{k:ax}{v:V}(e:H a\.dT kvs)(eb:H b\.tup (k.map kV))(hl:kvs.length<sizeLine):
  rh H a (.ref b) v (upd H a (.dT (putK kvs k v))):=.inr #[kvs,k,b,e,Z,eb,hl,Z]
section
variable{X:Cx}{π:List (Addr × Obj)}{σ:St}{H:Hp}{s:Ab}{a:Addr}{y v:V}{u r:Aa}{o:aQ}{A:Ag}{E:Aa->Ab->Prop}
def Inv.big(I:!In H s):sysModules<s.heap.objs.size:=by
 have h:mainGlobals<s.heap.objs.size:=(I.mod.glob.keeps I.bk).lt;exact Nat.lt_trans (by decide) h
def i8_{Q:Aa->Ab->Prop}(hu:A.units+1<cLine)(I:!In H s)(g:fq H a y (some v))(ry:RelV y u)(h:∀w' s',!In H s'->RelV v w'->Q w' s'):
  wpAny (model X.prog X.w) A (getItem (.ref a) u) Q E s:=by
 rcases g with⟨kvs,k,e,ey,l⟩|⟨kvs,k,b,e,ey,eb,l⟩
 ·subst ey;let#[z,hd,vs,rel,dd]:=oo I.ay e;let#[w',hw,hX]:=d5.some_of (v:=v) (o:=valueAt vs k) (by rw[l];exact rel.val k);exact wpAny_getItem_of (w_ ry) dd.mapOf hw (h w' _ (I.tok _) hX)
 subst ey;cases (show u=Value.ref b from ry);let#[z,hd,xs,rel,dd]:=Do I.ay e;let#[w',hw,hX]:=d5.some_of (v:=v) (o:=(atKey xs k).map (·.2)) (by rw[l];exact rel.val k);let#[p,hp,lO]:=Option.map_eq_some_iff.mp hw;apply wpAny_getItem_heap (tupleKind_room_in1 hu) (E4 I.ay eb) dd hp ?_;rw[lO];exact h w' _ (I.tok _) hX
def SY{Q:Aa->Ab->Prop}(hu:A.units+1<cLine)(I:!In H s)(g:fq H a y o)(ry:RelV y u)(h:∀s',!In H s'->Q (.bool o.isSome) s'):
  wpAny (model X.prog X.w) A (compareOp .In u (.ref a)) Q E s:=by
 rcases g with⟨kvs,k,e,ey,l⟩|⟨kvs,k,b,e,ey,eb,l⟩
 ·subst ey;let#[z,hd,vs,rel,dd]:=oo I.ay e;apply wpAny_in_of (w_ ry) hd dd.mapOf ?_;rw[<- (rel.val k).dN,<- l];exact h _ (I.tok _)
 subst ey;cases (show u=Value.ref b from ry);let#[z,hd,xs,rel,dd]:=Do I.ay e;apply wpAny_in_heap (tupleKind_room_in1 hu) (E4 I.ay eb) hd dd ?_;let q:=(rel.val k).dN;rw[Option.isSome_map] at q;rw[<- q,<- l];exact h _ (I.tok _)
def kT_{Q:Aa->Ab->Prop}(hu:A.units+1<cLine)(I:!In H s)(g:fq H a y o)(ry:RelV y u)(h:∀s',!In H s'->Q (.bool (!o.isSome)) s'):
  wpAny (model X.prog X.w) A (compareOp .NotIn u (.ref a)) Q E s:=by
 rcases g with⟨kvs,k,e,ey,l⟩|⟨kvs,k,b,e,ey,eb,l⟩
 ·subst ey;let#[z,hd,vs,rel,dd]:=oo I.ay e;apply wpAny_notIn_of (w_ ry) hd dd.mapOf ?_;rw[<- (rel.val k).dN,<- l];exact h _ (I.tok _)
 subst ey;cases (show u=Value.ref b from ry);let#[z,hd,xs,rel,dd]:=Do I.ay e;apply wpAny_notIn_heap (tupleKind_room_in1 hu) (E4 I.ay eb) hd dd ?_;let q:=(rel.val k).dN;rw[Option.isSome_map] at q;rw[<- q,<- l];exact h _ (I.tok _)
def RU{h':Heap}{t':Nat}{ob:HO}(I:!In H s)(mu:K6 (H a))(hs:Heap.SameBut a s.heap h')(he:∃q,h'.get? a\q)(new:eX X.prog X.w (upd H a ob) h' a ob):
  !In (upd H a ob) { s with heap:=h',toks:=t' }:=
 I.write (x:=a) (e:=a) mu (.inl Z) (λb q hb z=>(hs.2 b hb).trans z) he new
def Rh{P:Ad}{w:Af}{H':Hp}{h':Heap}{kvs:List (Key × V)}{vs:List (Key × Aa)}(z:kvs.length<=sizeLine)(hd:(a == sysModules)=false)(rel:KV kvs vs)(dd:h'.DictOf (eD P w) a vs):
  eX P w H' h' a (.dK kvs):=#[z,hd,vs,rel,dd]
def hd_{H':Hp}{Q:Unit->Ab->Prop}(hu:A.units+1<cLine)(I:!In H s)(g:rh H a y v H')(ry:RelV y u)(rv:RelV v r)(h:∀s',!In H' s'->Q () s'):
  wpAny (model X.prog X.w) A (setItem (.ref a) u r) Q E s:=by
 rcases g with⟨kvs,k,e,ey,l,eH⟩|⟨kvs,k,b,e,ey,eb,l,eH⟩
 ·subst ey eH;let#[z,hd,vs,rel,dd]:=C7 I.ay e;have hz:vs.length<=sizeLine:=by rw[<- rel.length];exact z
  have hl:(putK kvs k v).length<=sizeLine:=by have:=NX kvs k v;omega
  apply wpAny_setItem_pairs (hsz:=hz) (w_ ry) dd λh' Dt hs=>h _ ?_;have he:∃q,h'.get? a\q:=let #[q,_,_,hq,_]:=Dt;#[q,hq];exact RU I (by rw[e];exact True.intro) hs he (Rh hl hd (rel.put k rv) Dt)
 subst ey eH;cases (show u=Value.ref b from ry);let#[z,hd,xs,rel,dd]:=m5_ I.ay e;have hz:xs.length<=sizeLine:=by rw[<- bG rel];exact z
 have hl:(putK kvs k v).length<=sizeLine:=by have:=NX kvs k v;omega
 apply wpAny_setItem_heap (hsz:=hz) (tupleKind_room_in1 hu) (E4 I.ay eb) dd λh' Dt hs=>h _ ?_;let#[q,es,ep,hq,h2,h3,h4,_,h5]:=Dt;apply RU I (by rw[e];exact True.intro) hs #[q,hq] #[hl,hd,_,(rel.put k eb rv).keeps λc ys ec=>?_,q,es,ep,hq,h2,h3,h4,h5];rw[aD (aR ec e nofun)];exact ec
end
section
variable{X:Cx}{π:List (Addr × Obj)}{σ:St}{H:Hp}{s:Ab}{a:Addr}{kvs:List (Key × V)}{k:Key}{u:Aa}{A:Ag}{E:Aa->Ab->Prop}
def m6_{v:V}{more:aj}{Q:Aa->Ab->Prop}(I:!In H s)(e:H a\.dK kvs)(ry:RelV (kV k) u)(l:a9 kvs k\v)(hm:more=[]∨∃x,more=[x])
 (h:∀w' s',!In (upd H a (.dK (Dj kvs k))) s'->RelV v w'->Q w' s'):wpAny (model X.prog X.w) A (call (.builtin "dict.pop") (.ref a::u::more)) Q E s:=by
 let#[z,hd,vs,rel,dd]:=C7 I.ay e;let#[w',hw,hX]:=d5.some_of (v:=v) (o:=valueAt vs k) (by rw[<- l];exact rel.val k)
 have hp:(keyPart u).isSome=true:=by
  cases k with
  |inl i=>let#[t,q]:=(show ∃t,u=Value.int i t from ry);subst q;rfl
  |inr x=>let#[t,q]:=(show ∃t,u=Value.str x t from ry);subst q;rfl
 have ha:argsOk "dict.pop" #[.ref a::u::more,[]]:=by
  rcases hm with q|⟨x,q⟩
  ·subst q;exact PySem.F.args_dict_pop_2 _ _
  subst q;exact PySem.F.args_dict_pop_3 _ _ _
 apply call_meetsIn PySem.F.slot_dict_pop dd.typeIs PySem.F.entry_dict_pop ha (meets_dict_pop_there (eD X.prog X.w) a (w_ ry) more hm hp)
  #[vs,w',dd,by rw[<- rel.length];exact z,hw,λh' Dt hs=>h w' _ ?_ hX]
 have he:∃q,h'.get? a\q:=let #[q,_,_,hq,_]:=Dt;#[q,hq];exact RU I (by rw[e];exact True.intro) hs he (Rh (ma (jq_ kvs k) z) hd (rel.drop k) Dt)
def m8_{Q:Aa->Ab->Prop}(I:!In H s)(e:Rd H a (.dK kvs))(h:∀t s',!In H s'->Q (.int kvs.length t) s'):wpAny (model X.prog X.w) A (call (.builtin "len") [.ref a]) Q E s:=by
 let#[z,hd,vs,rel,dd]:=oo I.ay e;apply call_len_dict hd dd (by rw[<- rel.length];rw[cX] at z;omega) ?_;rw[<- rel.length];exact h _ _ (I.tok _)
end
def Eb(i:Expr):Prop:=∀ov iv,subscripted i false ov iv=operate [ov,iv] (getItem ov iv)
def Yj{prog:Ad}{w:Af}{A:Ag}{E:Aa->Ab->Prop}{s:Ab}{env:Env}{value slice:Expr}{pos:Pos}{T id:String}{Q:Aa->Ab->Prop}
 (hl:typeLookup (.type T) "__getitem__"=pure (some (.builtin id)))(hs:Eb slice)
 (h:wpAny (model prog w) A (eval value env) (λo aV=>wpAny (model prog w) A (eval slice env) (λi fR=>fR.TypeIs o T/\wpAny (model prog w) A (getItem o i) Q E fR) E aV) E s):
  wpAny (model prog w) A (eval (.Subscript value slice pos) env) Q E s:=by
 apply Subscript_ (gD h (λo aV ba=>gD ba (λi fR Cj=>?_) λ_ _ x=>x) λ_ _ x=>x);let#[hT,Cj]:=Cj;unfold subscriptTail;apply au ?_;rw[getitemInPython_of_ne hT.not_modules];apply au (wpAny_specialOf hT hl ?_)
 have fin:wpAny (model prog w) A (subscripted slice false o i) (λr xJ=>wpAny (model prog w) A (letTemporaryGo value o r >>= λ_=>pure r) Q E xJ) E fR:=by
  rw[hs o i];exact wpAny_operating (gD Cj (λr xJ Qu=>au (wpAny_letTemporaryGo (bu Qu))) λ_ _ x=>x)
 first
  |exact bu (au fin)
  |exact au (bu (au fin))
  |exact au fin
def fc_{X:Cx}{π:List (Addr × Obj)}{σ:St}{H:Hp}{s:Ab}{a:Addr}{y:V}{o:aQ}(I:!In H s)(g:fq H a y o):s.TypeIs (.ref a) "dict":=by
 rcases g with⟨kvs,k,e,_,_⟩|⟨kvs,k,b,e,_,_,_⟩
 ·let#[_,_,vs,_,dd]:=oo I.ay e;exact dd.typeIs
 let#[_,_,xs,_,dd]:=Do I.ay e;exact dd.typeIs
inductive tD(Q:VK)(x:V)(y:V)(H2:Hp):Prop
 |mk:∀a v,x=.ref a->fq H2 a y (some v)->Q v H2->tD Q x y H2
def Gw(td ty:TE):TE:=λσ H Q=>td σ H λx H1=>ty σ H1 λy H2=>tD Q x y H2
inductive zW(Q:VK)(y:V)(x:V)(H2:Hp):Prop
 |mk:∀a o,x=.ref a->fq H2 a y o->Q (.bl o.isSome) H2->zW Q y x H2
def OB(ty td:TE):TE:=λσ H Q=>ty σ H λy H1=>td σ H1 λx H2=>zW Q y x H2
inductive ZI(Q:VK)(y:V)(x:V)(H2:Hp):Prop
 |mk:∀a o,x=.ref a->fq H2 a y o->Q (.bl (!o.isSome)) H2->ZI Q y x H2
def xH(ty td:TE):TE:=λσ H Q=>ty σ H λy H1=>td σ H1 λx H2=>ZI Q y x H2
inductive uK(D:Ends)(σ:St)(v:V)(x:V)(y:V)(H3:Hp):Prop
 |mk:∀a H4,x=.ref a->rh H3 a y v H4->D.nx σ H4->uK D σ v x y H3
def GT(td ty tv:TE):TS:=λD σ H=>tv σ H λv H1=>td σ H1 λx H2=>ty σ H2 λy H3=>uK D σ v x y H3
section
variable{X:Cx}{o i e value:Expr}{pos pos' F6:Pos}{td ty tv:TE}
def lU(hu:X.A.units+1<cLine)(ho:PE X o td)(hi:PE X i ty)(hs:Eb i:=by exact λ_ _=>rfl):PE X (.Subscript o i pos) (Gw td ty):=by
 intro π s σ H Q I h;apply Yj PySem.F.slot_dict_getitem.lookup hs (aU (ho π s σ H _ I h) λu s1 ⟨x,H1,I1,rx,q1⟩=>aU (hi π s1 σ H1 _ I1 q1) λiv s2 ⟨y,H2,I2,ry,a,v,ex,g,q2⟩=>?_);subst ex;obtain rfl:u=Value.ref a:=rx;exact#[fc_ I2 g,i8_ hu I2 g ry λw' s3 I3 hX=>#[v,H2,I3,hX,q2]]
def Dr(hu:X.A.units+1<cLine)(hi:PE X i ty)(ho:PE X o td):PC X .In i o (OB ty td):=by
 intro π s σ H Q I h;apply aU (hi π s σ H _ I h) λiv s1 ⟨y,H1,I1,ry,q1⟩=>aU (ho π s1 σ H1 _ I1 q1) λu s2 ⟨x,H2,I2,rx,a,ov,ex,g,q2⟩=>?_;subst ex;obtain rfl:u=Value.ref a:=rx;exact SY hu I2 g ry λs3 I3=>#[.bl ov.isSome,H2,I3,Z,q2]
def Tn(hu:X.A.units+1<cLine)(hi:PE X i ty)(ho:PE X o td):PC X .NotIn i o (xH ty td):=by
 intro π s σ H Q I h;apply aU (hi π s σ H _ I h) λiv s1 ⟨y,H1,I1,ry,q1⟩=>aU (ho π s1 σ H1 _ I1 q1) λu s2 ⟨x,H2,I2,rx,a,ov,ex,g,q2⟩=>?_;subst ex;obtain rfl:u=Value.ref a:=rx;exact kT_ hu I2 g ry λs3 I3=>#[.bl (!ov.isSome),H2,I3,Z,q2]
def xn(hu:X.A.units+1<cLine)(ho:PE X o td)(hi:PE X i ty)(hv:PE X value tv)(hs:swapsWith value (some (.Subscript o i pos')) pos.line X.env=pure false):
  PS X (.Assign [.Subscript o i pos'] value pos) (GT td ty tv):=by
 intro π s σ H D I h;apply wpAny_Assign_Subscript (aU (hv π s σ H _ I h) λr s1 ⟨v,H1,I1,rv,q1⟩=>aU (ho π s1 σ H1 _ I1 q1) λu s2 ⟨x,H2,I2,rx,q2⟩=>aU (hi π s2 σ H2 _ I2 q2) λiv s3 ⟨y,H3,I3,ry,a,H4,ex,g,q3⟩=>?_) hs;subst ex;obtain rfl:u=Value.ref a:=rx;exact hd_ hu I3 g ry rv λs4 I4=>#[σ,H4,I4,q3]
end
def ju_{P:Ad}{w:Af}{H:Hp}(h:Heap)(hb:sysModules<h.objs.size):eX P w H (h.push { cls:=.type "dict",data:=.dict #[] }) h.objs.size (.dK []):=
 #[gQ _,beq_eq_false_iff_ne.mpr (Ne.symm (dD hb)),[],.nil,Heap.DictOf.new h]
def iZ_{P:Ad}{w:Af}{H:Hp}(h:Heap)(hb:sysModules<h.objs.size):eX P w H (h.push { cls:=.type "dict",data:=.dict #[] }) h.objs.size (.dT []):=
 #[gQ _,beq_eq_false_iff_ne.mpr (Ne.symm (dD hb)),[],.nil,_,#[],0,eL _ Z,#[Z,Z,Z],Z,Z,List.nodup_nil]
def Br:TE:=λ_ H Q=>∀p,H p=none->Q (.ref p) (upd H p (.dK []))
def Bq:TE:=λ_ H Q=>∀p,H p=none->Q (.ref p) (upd H p (.dT []))
section
variable{X:Cx}{pos:Pos}
def DT:PE X (.Dict [] [] pos) Br:=λπ s σ H Q I h=>
 wpAny_Dict_empty #[.ref s.heap.objs.size,_,I.laid (a:=s.heap.objs.size) (o:=.dK []) (t':=s.toks) (λ_ _ q=>b_ _ q) (bD _) (ju_ s.heap I.big),Z,h _ (I.ay.fresh (bD _))]
def jo_:PE X (.Dict [] [] pos) Bq:=λπ s σ H Q I h=>
 wpAny_Dict_empty #[.ref s.heap.objs.size,_,I.laid (a:=s.heap.objs.size) (o:=.dT []) (t':=s.toks) (λ_ _ q=>b_ _ q) (bD _) (iZ_ s.heap I.big),Z,h _ (I.ay.fresh (bD _))]
end
def DH(kvs more:List (Key × V)):List (Key × V):=more.foldl (λacc kv=>putK acc kv.1 kv.2) kvs
def _z:∀(more kvs:List (Key × V)),(DH kvs more).length<=kvs.length+more.length
 |[],kvs=>by show kvs.length<=kvs.length+0;omega
 |p::r,kvs=>by
  let h1:=_z r (putK kvs p.1 p.2);let h2:=NX kvs p.1 p.2;show (DH (putK kvs p.1 p.2) r).length<=_;rw[jf];omega
structure M1(X:Cx)(o:Expr)(m:Str)(apos:Pos)(e:Expr)(bF:Pos):Prop where
 base:attributeBase o m X.env (eval o X.env)=eval o X.env
 RR:((backTo bF (starEach [e] X.env)).all (λx=>!x.1)&&(backToKw bF (keywordEach [] X.env)).all (λx=>x.1.isSome)
  && decide (([e]:List Expr).length+([]:List Keyword).length+(if ([]:List Keyword).isEmpty then 0 else 1)<30))=true
 line:(apos.endLine == bF.line)=true
 trees:backTo bF (starEach [e] X.env)=[(false,eval e X.env)]
structure M2(X:Cx)(o:Expr)(m:Str)(apos:Pos)(e f:Expr)(bF:Pos):Prop where
 base:attributeBase o m X.env (eval o X.env)=eval o X.env
 RR:((backTo bF (starEach [e,f] X.env)).all (λx=>!x.1)&&(backToKw bF (keywordEach [] X.env)).all (λx=>x.1.isSome)
  && decide (([e,f]:List Expr).length+([]:List Keyword).length+(if ([]:List Keyword).isEmpty then 0 else 1)<30))=true
 line:(apos.endLine == bF.line)=true
 trees:backTo bF (starEach [e,f] X.env)=[(false,eval e X.env),(false,eval f X.env)]
def UX(H:Hp)(a:Addr):Prop:=(∃kvs,Rd H a (.dK kvs))∨∃kvs,Rd H a (.dT kvs)
def MC{X:Cx}{π:List (Addr × Obj)}{σ:St}{H:Hp}{s:Ab}{a:Addr}(I:!In H s)(d:UX H a):
  s.TypeIs (.ref a) "dict"/\(∀b,Value.ref a=.ref b->∃ob,s.heap.get? b\ob/\ob.dict=none)/\(a == sysModules)=false:=by
 rcases d with⟨kvs,e⟩|⟨kvs,e⟩
 ·let#[_,hd,vs,_,dd]:=oo I.ay e;apply#[dd.typeIs,λb q=>?_,hd];cases q;let#[ob,_,_,h1,h2,_]:=dd;exact#[ob,h1,h2.2.1]
 let#[_,hd,xs,_,dd]:=Do I.ay e;apply#[dd.typeIs,λb q=>?_,hd];cases q;let#[ob,_,_,h1,h2,_]:=dd;exact#[ob,h1,h2.2.1]
section
variable{X:Cx}{π:List (Addr × Obj)}{σ:St}{H:Hp}{s:Ab}{a:Addr}{y d:V}{u r:Aa}{o:aQ}{A:Ag}{E:Aa->Ab->Prop}
def lH_{Q:Aa->Ab->Prop}(hu:A.units+1<cLine)(I:!In H s)(g:fq H a y o)(ry:RelV y u)(rd:RelV d r)(h:∀w' s',!In H s'->RelV (o.getD d) w'->Q w' s'):
  wpAny (model X.prog X.w) A (call (.builtin "dict.get") [.ref a,u,r]) Q E s:=by
 rcases g with⟨kvs,k,e,ey,l⟩|⟨kvs,k,b,e,ey,eb,l⟩
 ·subst ey;let#[z,hd,vs,rel,dd]:=oo I.ay e;apply call_meetsIn PySem.F.slot_dict_get dd.typeIs PySem.F.entry_dict_get (PySem.F.args_dict_get_3 _ _ _) (meets_dict_get_default (eD X.prog X.w) a (w_ ry) hd r) #[_,dd.mapOf,h _ _ (I.tok _) ?_];rw[l];exact (rel.val k).getD rd
 subst ey;cases (show u=Value.ref b from ry);let#[z,hd,xs,rel,dd]:=Do I.ay e;apply call_meetsIn PySem.F.slot_dict_get dd.typeIs PySem.F.entry_dict_get (PySem.F.args_dict_get_3 _ _ _) (meetsH_dict_get_default (tupleKind (eD X.prog X.w)) a b hd r) #[tupleKind_room_in1 hu,k,xs,E4 I.ay eb,dd,h _ _ (I.tok _) ?_];rw[l];exact (rel.val k).getD rd
end
def Bs(td ty tx:TE):TE:=λσ H Q=>td σ H λx H1=>∃a,x=.ref a/\UX H1 a/\ty σ H1 λy H2=>tx σ H2 λz H3=>∃o,fq H3 a y o/\Q (o.getD z) H3
def Bp(td ty:TE):TE:=λσ H Q=>td σ H λx H1=>∃a,x=.ref a/\UX H1 a/\ty σ H1 λy H2=>∃kvs k v,H2 a\.dK kvs/\y=kV k/\a9 kvs k\v/\Q v (upd H2 a (.dK (Dj kvs k)))
section
variable{X:Cx}{o e f:Expr}{apos bF:Pos}{td ty tx:TE}
def Yx(hu:X.A.units+1<cLine)(ho:PE X o td)(he:PE X e ty)(hf:PE X f tx)(m:M2 X o "get" apos e f bF):PE X (.Call (.Attribute o "get" apos) [e,f] [] bF) (Bs td ty tx):=by
 intro π s σ H Q I h;apply wpAny_Call_method m.base m.RR m.line PySem.F.plainAttrs_dict PySem.F.slot_dict_get PySem.F.type_dict_get (aU (ho π s σ H _ I h) λu s1 ⟨x,H1,I1,rx,a,ex,d,q1⟩=>?_);subst ex;obtain rfl:u=Value.ref a:=rx;let#[t1,t2,_]:=MC I1 d;apply#[t1,t2,?_];rw[m.trees]
 apply Calls.callWith_builtin Z (Calls.evalArgs_plain (Calls.spliced_cons (aU (he π s1 σ H1 _ I1 q1) λiv s2 ⟨y,H2,I2,ry,q2⟩=>
  Calls.spliced_cons (aU (hf π s2 σ H2 _ I2 q2) λfv s3 ⟨z,H3,I3,rz,ov,g,q3⟩=>Calls.spliced_nil ?_))))
 exact lH_ hu I3 g ry rz λw' s4 I4 hX=>#[_,H3,I4,hX,q3]
def YY(ho:PE X o td)(he:PE X e ty)(m:M1 X o "pop" apos e bF):PE X (.Call (.Attribute o "pop" apos) [e] [] bF) (Bp td ty):=by
 intro π s σ H Q I h;apply wpAny_Call_method m.base m.RR m.line PySem.F.plainAttrs_dict PySem.F.slot_dict_pop PySem.F.type_dict_pop (aU (ho π s σ H _ I h) λu s1 ⟨x,H1,I1,rx,a,ex,d,q1⟩=>?_);subst ex;obtain rfl:u=Value.ref a:=rx;let#[t1,t2,_]:=MC I1 d;apply#[t1,t2,?_];rw[m.trees];apply Calls.callWith_builtin Z (Calls.evalArgs_plain (Calls.spliced_cons (aU (he π s1 σ H1 _ I1 q1) λiv s2 ⟨y,H2,I2,ry,kvs,k,v,ea,ey,l,q2⟩=>Calls.spliced_nil ?_)));subst ey;exact m6_ I2 ea ry l (.inl Z) λw' s3 I3 hX=>#[v,_,I3,hX,q2]
end
section
variable{X:Cx}{π:List (Addr × Obj)}{σ:St}{H:Hp}{s:Ab}{a:Addr}{kvs:List (Key × V)}{A:Ag}{E:Aa->Ab->Prop}
end
section
variable{X:Cx}{π:List (Addr × Obj)}{σ:St}{H:Hp}{s:Ab}{a:Addr}{y:V}{u:Aa}{A:Ag}{E:Aa->Ab->Prop}
end
end L2
namespace Att
open PySem PySem.W PySem.Calls PyProof.Rows
def dd_{P:Params}{h:Heap}:∀(ns:List Int)(vs:aj),WellAll P h vs (ns.map WData.int)->IntsAre vs ns:=by
 intro ns
 induction ns with
 |nil=>
  intro vs w;rw[List.map_nil] at w;cases w;exact .nil
 |cons n ns ih=>
  intro vs w;rw[fK] at w;cases w with
  |cons a b=>
   cases a;exact .cons _ _ (ih _ b)
def hw_{l:OpenLaw}{n:Nat}(hn:l.most\n){P:Params}{h:Heap}{args:List WData}{vals:aj}
 (yA:l.row.toRowW.claim.pre args=true)(Qx:WellAll P h vals args):
  ∃a vs ns,vals=[Value.ref a]/\args=[WData.list (ns.map WData.int)]/\h.get? a=some { cls:=.type "list",data:=.seq vs.toArray }/\IntsAre vs ns/\ns.length<=n:=by
 have hsh:WShape.hasAll [] args [.list .int]=true:=(pre_splitW yA).1;have hc:l.pre.holds [] { args:=args }=true:=(pre_splitW yA).2;let#[d,r,rfl,h1,h2]:=hasAllW_cons hsh;obtain rfl:=hasAllW_nil h2;let#[xs,rfl,h3]:=hasW_list h1;let#[ns,rfl]:=items_int h3
 have hlen:ns.length<=n:=by
  unfold OpenLaw.pre at hc
  have h4:(WTm.not (.lt (.lit (.int (n:Int))) (.len (.arg 0)))).holds [] { args:=[.list (ns.map .int)] }=true:=by
   let h4:=(holds_andW hc).1;rw[hn] at h4;exact h4
  let h5:=condW_of h4 (w_not (w_lt w_lit (w_len_list (w_arg Z))));rw[aq] at h5;apply Nat.le_of_not_lt λq=>?_;have q':(n:Int)<((ns.length:Nat):Int):=by omega
  first
   |(rw[cj q'] at h5;exact absurd h5 (by decide))
   |(simp at h5;omega)
 cases Qx with
 |cons w1 w2=>
  cases w2;cases w1 with
  |list ho CO=>exact#[_,_,ns,Z,Z,ho,dd_ ns _ CO,hlen]
def gG_(l:OpenLaw)(args:List WData):l.row.toRowW.claim.post args (.bool true) args=true:=
 postW_of (r:=l.row.toRowW) (X:=(true == true))
  (show WShape.has [] (.bool true) .bool=true by first|rfl|decide|simp[WShape.has,WShape.arms,WShape.armsAll])
  (show (WTm.eq .res (.lit (.bool true))).value [] { args:=args,res:=some (.bool true),after:=args }=some (.bool (true == true)) from w_eq_bool (w_res Z) w_lit) Z
def kY{l:OpenLaw}{n:Nat}{q:Ad}{loose:ae}{XP:(Str->Option Aa)->Heap->Prop}{YP:Af->Heap->Prop}{d:DefRec}
 (hn:l.most\n)(vK:d.params.defaults=[])
 (call:∀(w:Af)(cw aV:Ab)(mg mb:Str->Option Aa)(fa:Addr)(o:Obj)(pm cd doc:Aa)(a:Addr)(vs:aj)(ns:List Int),
   Ground q loose [] XP w cw mg mb aV.heap->YP w aV.heap->
   aV.heap.get? fa\o->o.data=.func (docDef d.name d.params d.body d.scope pm cd doc)->aV.heap.CodeRec cd d.name->mg d.name\.ref fa->
   aV.heap.get? a=some { cls:=.type "list",data:=.seq vs.toArray }->IntsAre vs ns->ns.length<=n->aV.gens=#[]->
   codeAny (model l.prog w) callerA (.call (.ref fa) #[[.ref a],[]]) (λr s'=>r=.ok (.ret (.bool true))/\OldK aV.heap s'.heap/\s'.os=aV.os/\AllBare s'.gens) aV):
  WalkO q loose XP YP l.row.toRowW d [] (λf vs=>PySem.call f vs):=by
 intro w cw aV mg mb G Y fa o pm cd doc dV kV ho hd fY hD hmg hg args vals as yA hlay hrd Qx hlo;obtain rfl:dV=.none:=Dflts.none hD vK;obtain rfl:kV=.none:=Dflts.noKw hD;let#[a,vs,ns,rfl,rfl,Cs,hints,hlen]:=hw_ hn yA Qx;apply enter_call (codeAny_mono (call w cw aV mg mb fa o pm cd doc a vs ns G Y ho (fd_plain hd) fY hmg Cs hints hlen hg) λr s' hq=>?_);let#[rfl,h2,h3,h4]:=hq;exact#[.inl #[.bool true,.bool true,[],Z,λ_=>rfl,.bool true,gG_ l _,λ_=>#[List.Pairwise.nil,λ_ hm=>(nomatch hm)]],h2,h3,h4]
section
variable{prog:Ad}{w:Af}{A:Ag}{E:Aa->Ab->Prop}{s:Ab}{K:Frag}
end
end Att
namespace L2
open PySem PySem.Spec PyProof.Rows
def Zv:∀{vs:aj}{ns:List Int},IntsAre vs ns->Vals (ns.map V.int) vs
 |_,_,.nil=>.nil
 |_,_,.cons n t h=>.cons #[t,Z] (Zv h)
def gx(s:Stmt)(j:Nat):Stmt:=match s with
 |.ClassDef _ _ _ body _ _ _ _ _ _ _=>body.getD j (.Pass #[0,0,0,0])
 |_=>.Pass #[0,0,0,0]
def gY(s:Stmt):Arguments:=match s with
 |.FunctionDef _ a _ _ _ _ _ _ _ _=>a
 |_=>{ posonlyargs:=[],args:=[],vararg:=none,kwonlyargs:=[],kw_defaults:=[],kwarg:=none,defaults:=[] }
def fg(s:Stmt):List Stmt:=match s with
 |.FunctionDef _ _ b _ _ _ _ _ _ _=>b
 |_=>[]
def aM(s:Stmt):Scope:=match s with
 |.FunctionDef _ _ _ _ _ _ sc _ _ _=>sc
 |_=>{ kind:=.function,names:=[],isGenerator:=false,isCoroutine:=false }
abbrev bg:jm:=λ_ _ _ _ _ _=>False
abbrev E0:XK:=λ_ _ _=>False
def pA{X:Cx}:oq bg X E0:=λ_ _ _ _ _ _ _ h=>h.elim
structure bc(K:af)(x qual:Str)(st:Stmt)(f:Addr)(fd:Ae):Prop where
 ex:∃(oc:Aa) (od:Option Addr) (kV doc pm:Aa) (an:Option Addr) (aC ct:Aa) (gK:Array (Option Aa)),
  fd=PySem.W.fnOf x qual (gY st) (fg st) (aM st) .none kV doc pm an aC ct/\K.lookup f=some #[oc,od,.func fd,gK]/\PySem.W.codeIn K aC qual=true
 kp:PySem.W.keepIn K (.ref f)=true
section v
def bc.ok{x qual:Str}{st:Stmt}{f:Addr}{fd:Ae}{N ps:ae}{k:Nat}{sp:Sp}(F:bc K x qual st f fd)(S:bA N ps (aM st))(len:∀vs H Q E,sp vs H Q E->vs.length=ps.length)
 (bY:∀(aC:Aa)(A:Ag)(outer:List Env)(s:Ab)(H:Hp)(vs:ag)(Q:VK)(E:XK),aI k (A.deeper (envOfC qual (aM st) s.heap.objs.size f aC))->sp vs H Q E->
   ∃t,iy (dY bg P w K mg base N qual (aM st) f aC A outer s H E).pB (fg st) t/\t { nx:=λ_ H'=>Q .non H',rt:=Q } (start N vs) H):!ak bg (k+1) f fd ps sp:=by
 let#[oc,od,kV,doc,pm,an,aC,ct,gK,rfl,lk,fY]:=F.ex;apply L_ lk fY S len λA outer s H vs Q E hr iA=>?_;let#[t,h,q]:=bY aC A outer s H vs Q E hr iA;exact#[t,h.pB,q]
def bc.bN{x qual:Str}{st:Stmt}{f:Addr}{fd:Ae}{N ps:ae}{k:Nat}{sp:Sp}(F:bc K x qual st f fd)(S:bA N ps (aM st))(bY:∀(aC:Aa)(A:Ag)(outer:List Env)(s:Ab)(H:Hp)(vs:ag)(Q:VK)(E:XK),aI k (A.deeper (envOfC qual (aM st) s.heap.objs.size f aC))->sp vs H Q E->
   ∃t,iy (dY bg P w K mg base N qual (aM st) f aC A outer s H E).pB (fg st) t/\t { nx:=λ_ H'=>Q .non H',rt:=Q } (start N vs) H)(len:∀vs H Q E,sp vs H Q E->vs.length=ps.length:=by intro vs H Q E h;first|(cases h;subst_vars;rfl)|(let#[rfl,_]:=h;rfl)|(let#[_,rfl,_]:=h;rfl)|(let#[_,_,rfl,_]:=h;rfl)|(let#[_,_,_,rfl,_]:=h;rfl)|(let#[_,_,_,_,rfl,_]:=h;rfl)|(let#[_,_,_,_,_,_,_,_,_,rfl,_]:=h;rfl)):!ak bg (k+1) f fd ps sp:=F.ok S len bY
def bc.binds{x qual:Str}{st:Stmt}{f:Addr}{fd:Ae}{ps:ae}(F:bc K x qual st f fd)
 (h:∀(kV doc pm:Aa)(an:Option Addr)(aC ct:Aa)(us:aj),us.length=ps.length->bindArgs (PySem.W.fnOf x qual (gY st) (fg st) (aM st) .none kV doc pm an aC ct) #[us,[]]=pure (ps.zip us)):kX K fd ps []:=by
 let#[oc,od,kV,doc,pm,an,aC,ct,gK,rfl,lk,fY]:=F.ex;exact .all (h kV doc pm an aC ct)
def QF{x qual:Str}{st:Stmt}{f:Addr}{oc:Aa}{od an:Option Addr}{gK:Array (Option Aa)}{kV doc pm aC ct:Aa}(l:K.lookup f=some #[oc,od,.func (PySem.W.fnOf x qual (gY st) (fg st) (aM st) .none kV doc pm an aC ct),gK])
 (c:PySem.W.codeIn K aC qual=true)(k:PySem.W.keepIn K (.ref f)=true):bc K x qual st f (PySem.W.fnOf x qual (gY st) (fg st) (aM st) .none kV doc pm an aC ct):=#[#[oc,od,kV,doc,pm,an,aC,ct,gK,Z,l,c],k]
end
def gE{A:Ag}{k:Nat}(hr:aI k A):A.units+1<cLine:=Nat.lt_of_le_of_lt (Nat.add_le_add_left (by decide:1<=64) _) hr.units
section
variable{X:Cx}
def pv(i:Nat){x:Str}{pos:Pos}(hN:X.N[i]? = some x:=by rfl)(hv:UP X.env.scope x:=by first|exact Or.inl Z|exact Or.inr (Or.inl Z)|exact Or.inr (Or.inr Z))(hd:(x == ("__debug__":Str))=false:=by decide)
 (fY:(x == ("__classdict__":Str))=false:=by decide):PE X (.Name x pos) (sW i):=li_ hN hv hd fY
inductive _R(xs:ag)(H:Hp)(Q:VK):Prop
 |mk:∀a kvs,xs=[V.ref a]->H a\.dK kvs->Q (.int kvs.length) H->_R xs H Q
def ZT:gF X (.builtin "len") _R:=by
 intro π s σ H xs us Q I r h;let#[a,kvs,rfl,ha,q]:=h;let#[u,rfl,ru]:=vals1 r;cases ru;exact m8_ I (.inl ha) λt s' I'=>#[.int kvs.length,H,I',#[t,Z],q]
end
def a_{A B:Prop}(h:B):if false=true then A else B:=by
 rw[aA iu];exact h
def cz{A B:Prop}(h:A):if true=true then A else B:=by
 rw[aF Z];exact h
def br{c A B:Prop}[Decidable c](h1:c->A)(h2:¬c->B):if c then A else B:=by
 by_cases h:c
 ·rw[aF h];exact h1 h
 rw[aA h];exact h2 h
def Dn{c A B:Prop}[Decidable c](hc:c)(h:B):if (!decide c)=true then A else B:=by
 rw[cj hc];exact a_ h
def aa(H H':Hp):Prop:=∀b o,H b\o->H' b\o
def aa.refl(H:Hp):aa H H:=λ_ _ h=>h
def aa.trans{H H1 H2:Hp}(a:aa H H1)(b:aa H1 H2):aa H H2:=λc o h=>b c o (a c o h)
def aa.free{H H':Hp}(e:aa H H'){l:Addr}(h:H' l=Option.none):H l=Option.none:=by
 cases q:H l with
 |none=>rfl
 |some o=>
  rw[e l o q] at h;cases h
section
variable{κ:Type}[DecidableEq κ]
def kK_{kvs:List (κ × V)}{k:κ}{v:V}(h:a9 kvs k\v):k∈kvs.map (·.1):=by
 have q:(kvs.any λkv=>decide (kv.1=k))=true:=by
  rw[DW,h]
  all_goals rfl
 let#[p,hp,e]:=List.any_eq_true.mp q;exact bo.mpr #[p,hp,zd e]
def X8:∀{l:List κ}{k:κ},l.Nodup->¬k∈l->(l++[k]).Nodup
 |[],k,_,_=>by simp
 |a::r,k,h,hk=>by
  let#[h1,h2]:=j5.mp h;show (a::(r++[k])).Nodup;apply j5.mpr #[λm=>?_,X8 h2 λm=>hk (cc.mpr (Or.inr m))];rcases fB.mp m with q|q
  ·exact h1 q
  exact hk (cc.mpr (Or.inl (oC.mp q).symm))
end
end L2
local macro_rules|`(%[$x,*|$_])=>do return (<-x.getElems.foldrM (λe (a:Lean.Term)=>if e.raw.isNatLit?.isSome then`(L2.eV (L2.pv $e) $a)else`(L2.eV $e $a)) (<-`(L2.aX)))
namespace L2
open PySem PySem.Spec PyProof.Rows
def jE(env:Env):List (Str × NameKind)->List (Str × Addr)->List (Str × Addr)
 |[],cs=>cs
 |(n,k)::r,cs=>jE env r (if k == .free then (n,(env.cells.lookup n).getD 0)::cs else cs)
def UG{env:Env}(f:Str × NameKind->List (Str × Addr)->Sem (ForInStep (List (Str × Addr))))
 (hf:∀n k cs,f (n,k) cs=if (k == .free)=true then (do let a <- cellOf env n;pure (.yield ((n,a)::cs))) else pure (.yield cs)):
  ∀(names:List (Str × NameKind))(cs:List (Str × Addr)),(∀x∈names,x.2=.free->∃c,env.cells.lookup x.1\c)->forIn names cs f=(pure (jE env names cs):Sem _)
 |[],cs,_=>by rw[List.forIn_nil];rfl
 |(n,k)::r,cs,h=>by
  rw[List.forIn_cons,hf];have hr:∀x∈r,x.2=.free->∃c,env.cells.lookup x.1\c:=λx hx=>h x (fj _ hx);unfold jE;by_cases hk:(k == NameKind.free)=true
  ·let#[c,hc]:=h (n,k) fi ⇑hk;have hc:env.cells.lookup n\c:=hc;rw[aF hk,aF hk];have e:cellOf env n=pure c:=by unfold cellOf;rw[hc]
   rw[e];simp only[pure_bind];rw[UG f hf r _ hr,hc];rfl
  rw[aA hk,aA hk];simp only[pure_bind];exact UG f hf r _ hr
def _y{scope:Scope}{env:Env}(h:∀x∈scope.names,x.2=.free->∃c,env.cells.lookup x.1\c):closureFor scope env=pure (jE env scope.names []):=by
 simp only[closureFor];rw[UG (env:=env) _ (λn k cs=>by by_cases hk:(k == NameKind.free)=true<;>simp[hk]) scope.names [] h]
 simp only[pure_bind]
def _q{env:Env}:∀{names:List (Str × NameKind)}{cs:List (Str × Addr)}{x:Str}{c:Addr},(x,c)∈jE env names cs->(x,c)∈cs∨((x,NameKind.free)∈names/\c=(env.cells.lookup x).getD 0)
 |[],cs,x,c,h=>.inl h
 |(n,k)::r,cs,x,c,h=>by
  unfold jE at h;rcases _q h with h|⟨h,e⟩
  ·by_cases hk:(k == NameKind.free)=true
   ·rw[aF hk] at h;rcases cc.mp h with q|q
    ·cases q;have:k=.free:=⇑hk
     subst this;exact .inr #[fi,Z]
    exact .inl q
   rw[aA hk] at h;exact .inl h
  exact .inr #[fj _ h,e]
def Um{env:Env}:∀{names:List (Str × NameKind)}{cs:List (Str × Addr)}{x:Str},(x,NameKind.free)∈names∨(∃c,(x,c)∈cs)->∃c,(x,c)∈jE env names cs
 |[],cs,x,h=>by
  rcases h with h|h
  ·cases h
  ·exact h
 |(n,k)::r,cs,x,h=>by
  unfold jE;apply Um ?_;rcases h with h|⟨c,h⟩
  ·rcases cc.mp h with e|h
   ·cases e;exact .inr #[(env.cells.lookup n).getD 0,by rw[aF (by decide)];exact fi]
   exact .inl h
  apply .inr #[c,?_];split
  ·exact fj _ h
  exact h
def UH:∀(names:List (Str × NameKind))(n:Nat)(acc cl:List (Str × Addr)),cellsFrom n names (acc++cl)=cellsFrom n names acc++cl
 |[],_,_,_=>rfl
 |(x,k)::r,n,acc,cl=>by
  unfold cellsFrom;split
  ·exact UH r (n+1) ((x,n)::acc) cl
  exact UH r n acc cl
def UJ:∀{names:List (Str × NameKind)}{n:Nat}{acc:List (Str × Addr)}{x:Str}{c:Addr},(x,c)∈cellsFrom n names acc->(x,c)∈acc∨(x,NameKind.cell)∈names
 |[],_,_,_,_,h=>.inl h
 |(y,k)::r,n,acc,x,c,h=>by
  unfold cellsFrom at h;by_cases hk:(k == NameKind.cell)=true
  ·rw[aF hk] at h;rcases UJ h with h|h
   ·rcases cc.mp h with e|h
    ·cases e;have:k=.cell:=⇑hk
     subst this;exact .inr fi
    exact .inl h
   exact .inr (fj _ h)
  rw[aA hk] at h;rcases UJ h with h|h
  ·exact .inl h
  exact .inr (fj _ h)
def UI{α:Type}:∀{l:List (Str × α)}{x:Str}{c:α},(x,c)∈l->∃c',l.lookup x\c'
 |(k,v)::r,x,c,h=>by
  rw[wb];cases hb:x == k with
  |true=>exact#[v,Z]
  |false=>
   rcases cc.mp h with e|h
   ·cases e;simp at hb
   exact UI h
def kQ(scope:Scope)(C:Addr)(env:Env):Env:=
 { scope:=relabel scope env,locals:=C,globals:=env.globals,cells:=cellsFrom (C+1) scope.names (jE env scope.names []),qual:=env.qual,func:=none,code:=env.code,frame:=env.frame,builtins:=env.builtins }
def _h{M:Model}{A:Ag}{E:Aa->Ab->Prop}{s:Ab}{scope:Scope}{cl:List (Str × Addr)}{env:Env}{Q:Env->Ab->Prop}
 (h:Q { scope:=scope,locals:=s.heap.objs.size,globals:=env.globals,cells:=cellsFrom (s.heap.objs.size+1) scope.names cl,qual:=env.qual,func:=none,code:=env.code,frame:=env.frame,builtins:=env.builtins }
   { s with heap:=pushCells (s.heap.push { cls:=.type "dict",data:=.dict #[] }) scope.names }):
  wpAny M A (newFunctionEnv scope env.globals cl [] env.qual none .none (some env)) Q E s:=by
 simp only[newFunctionEnv,Option.isSome_some,if_true];apply au (wpAny_alloc ?_);apply au (wpAny_layCells _ (λname kind cells=>by cases hkc:kind == NameKind.cell<;>simp[hkc]) _ _ _ _ ?_)
 rw[show ({ s with heap:=s.heap.push { cls:=.type "dict",data:=.dict #[] } }:Ab).heap.objs.size=s.heap.objs.size+1 from Heap.size_push ..];rw[List.forIn_nil];exact au (bu (bu h))
def Nk(PN:ae)(ps:Scope)(N:ae)(own:Nat)(fr:List Nat)(scope:Scope):Bool:=
 decide (scope.kind=.function)&&decide N.Nodup&&decide (own+fr.length=N.length)
 && (scope.names.all λy=>decide (scope.names.lookup y.1\y.2))
 && (scope.names.all λy=>if y.2=.free then decide (ps.names.lookup y.1\.cell) || decide (ps.names.lookup y.1\.free) else true)
 && ((fr.map λj=>PN[j]?) == (N.drop own).map some)
 && ((N.drop own).all λx=>decide (scope.names.lookup x\.free))
structure oI(PN:ae)(ps:Scope)(N:ae)(own:Nat)(fr:List Nat)(scope:Scope):Prop where
 kind:scope.kind=.function
 nd:N.Nodup
 len:own+fr.length=N.length
 look:∀y∈scope.names,scope.names.lookup y.1\y.2
 par:∀y∈scope.names,y.2=.free->ps.names.lookup y.1\.cell∨ps.names.lookup y.1\.free
 eB:(fr.map λj=>PN[j]?)=(N.drop own).map some
 frk:∀x∈N.drop own,scope.names.lookup x\.free
def oI.of{PN:ae}{ps:Scope}{N:ae}{own:Nat}{fr:List Nat}{scope:Scope}(h:Nk PN ps N own fr scope=true):oI PN ps N own fr scope:=by
 unfold Nk at h;simp only[pZ,decide_eq_true_eq,List.all_eq_true,beq_iff_eq] at h;let#[#[#[#[#[#[h1,h2],h3],h4],h5],h6],h7]:=h;apply#[h1,h2,h3,h4,λy hy e=>?_,h6,h7];let q:=h5 y hy;rw[aF e] at q;simpa using q
def DY(own:Nat)(fr:List Nat)(σ:St):St:=List.replicate own none++fr.map λj=>(σ[j]?).join
def iC(X:Cx)(N:ae)(scope:Scope)(fp:ai)(s:Ab)(H:Hp):Cx where
 prog:=X.prog
 w:=X.w
 K:=X.K
 mg:=X.mg
 base:=X.base
 A:=X.A
 N:=N
 cw:=s
 iZ:=H
 env:=kQ scope s.heap.objs.size X.env
 outer:=X.stack
 stack:=X.stack
 ex:=fp
 fn:=λx=>decide (scope.names.lookup x\.local) || decide (scope.names.lookup x\.cell)
 calm:=X.calm
 pn:=[]
 xe:=λ_ _=>False
def _I{ps:Scope}{env:Env}(he:env.scope=ps){x:Str}:∀{names:List (Str × NameKind)}{k:NameKind},names.lookup x\k->
  (names.map λ(n,k)=>if (k == NameKind.free&&env.scope.kind == .function&&env.kindOf n == some .cell) then (n,NameKind.cell) else (n,k)).lookup x =
   some (if (k == NameKind.free&&env.scope.kind == .function&&env.kindOf x == some .cell) then .cell else k)
 |(n,k')::r,k,h=>by
  rw[wb] at h;rw[fK];cases hb:x == n with
  |true=>
   rw[hb] at h;cases h;have e:x=n:=⇑hb
   subst e;dsimp only;split<;>simp[wb]
  |false=>
   rw[hb] at h;let ih:=_I he (env:=env) h;dsimp only;split<;>(rw[wb,hb];exact ih)
def TC{env:Env}{x:Str}:∀{names:List (Str × NameKind)}{k:NameKind},(names.map λ(n,k)=>if (k == NameKind.free&&env.scope.kind == .function&&env.kindOf n == some .cell) then (n,NameKind.cell) else (n,k)).lookup x\k->∃k',names.lookup x\k'/\(k'=k∨(k'=.free/\k=.cell))
 |(n,k')::r,k,h=>by
  rw[fK] at h;rw[wb];dsimp only at h;cases hb:x == n with
  |true=>
   apply#[k',Z,?_];by_cases hc:(k' == NameKind.free&&env.scope.kind == .function&&env.kindOf n == some .cell)=true
   ·rw[aF hc,wb,hb] at h;cases h;simp only[pZ,beq_iff_eq] at hc;exact .inr #[hc.1.1,Z]
   ·rw[aA hc,wb,hb] at h;cases h;exact .inl Z
  |false=>
   have h':(r.map λ(n,k)=>if (k == NameKind.free&&env.scope.kind == .function&&env.kindOf n == some .cell) then (n,NameKind.cell) else (n,k)).lookup x\k:=by
    split at h<;>(rw[wb,hb] at h;exact h)
   exact TC h'
def dW_{α:Type}{x:Str}{c:α}:∀{l r:List (Str × α)},(l++r).lookup x\c->(x,c)∈l∨(x,c)∈r:=λh=>fB.mp (qT h)
section
variable{X:Cx}{π:List (Addr × Obj)}{σ:St}{H:Hp}{s:Ab}{N:ae}{own:Nat}{fr:List Nat}{scope:Scope}{fp:ai}
def ZN(I:!In H s)(S:oI X.N X.env.scope N own fr scope){x:Str}{c:Addr}(h:(x,c)∈jE X.env scope.names []):X.env.cells.lookup x\c/\(x,NameKind.free)∈scope.names:=by
 rcases _q h with h|⟨h,e⟩
 ·cases h
 let#[c',hc]:=I.ok.has x (S.par _ h Z);apply#[?_,h];rw[e,hc];rfl
def Inv.block(I:!In H s)(S:oI X.N X.env.scope N own fr scope)(Mq:∀b∈fp,dc X π H b)(hfo:∀b∈fp,∃o,s.heap.get? b\o):
  Inv (iC X N scope fp s H) [] (DY own fr σ) H { s with heap:=pushCells (s.heap.push { cls:=.type "dict",data:=.dict #[] }) scope.names }:=by
 have kept:∀b o,s.heap.get? b\o->(pushCells (s.heap.push { cls:=.type "dict",data:=.dict #[] }) scope.names).get? b\o:=λb o e=>pushCells_keeps _ _ b o (b_ _ e);let Nr:=cellsFrom_ok scope.names (s.heap.push { cls:=.type "dict",data:=.dict #[] }) (s.heap.objs.size+1) [] #[λ_ _ hm=>(nomatch hm),List.Pairwise.nil] (by rw[Heap.size_push];exact bD _);rw[Heap.size_push] at Nr;have ecs:cellsFrom (s.heap.objs.size+1) scope.names (jE X.env scope.names [])=cellsFrom (s.heap.objs.size+1) scope.names []++jE X.env scope.names []:=UH _ _ [] _
 have ia:∀{x c},(cellsFrom (s.heap.objs.size+1) scope.names (jE X.env scope.names [])).lookup x\c->((x,c)∈cellsFrom (s.heap.objs.size+1) scope.names []/\(x,NameKind.cell)∈scope.names/\s.heap.objs.size+1<=c)∨(X.env.cells.lookup x\c/\(x,NameKind.free)∈scope.names):=λ{x c} h=>by
  rw[ecs] at h;rcases dW_ h with h|h
  ·apply .inl #[h,?_,(Nr.empty _ _ h).2];rcases UJ h with q|q
   ·cases q
   exact q
  exact .inr (ZN I S h)
 have Hh:∀{x c},X.env.cells.lookup x\c->c<s.heap.objs.size:=λ{x c} h=>by
  let#[v,hv]:=I.cell x c h;exact hv.lt
 have hb:∀b∈fp,b<s.heap.objs.size:=λb hb=>let #[o,e]:=hfo b hb;bW e
 apply#[#[I.ok.mod,S.kind,I.ok.glob,I.ok.blt,bD _,λx y c h1 h2=>?_,λx hx=>?_,λx c hf h=>?_,I.ok.hd,I.ok.frames,.inl Z,λb AM=>#[dD (hb b AM),λx c h=>?_],I.bs,?_,λb o e AM=>?_,λb AM hs=>?_,I.stack,I.jr],
  rfl,I.bare,Un.kept kept,#[_,(Heap.Ns.new s.heap (.type "dict")).keeps (pushCells_keeps _ _),λi x v h1 h2 h3=>?_],λx c h=>?_,I.ay.fresh (bD _),λx c h=>?_,λp hp=>absurd (show p∈([]:List (Addr × Obj)) from hp) Z2,I.ay.kept kept,?_]
 ·-- inj
  rcases ia h1 with⟨m1,k1,l1⟩|⟨m1,k1⟩<;>rcases ia h2 with⟨m2,k2,l2⟩|⟨m2,k2⟩
  ·exact name_of_addr Nr.apart m1 m2
  ·exact absurd (Hh m2) (Nat.not_lt.mpr (Nat.le_of_succ_le l1))
  ·exact absurd (Hh m1) (Nat.not_lt.mpr (Nat.le_of_succ_le l2))
  exact I.ok.inj x y c m1 m2
 ·-- has
  have key:(x,NameKind.cell)∈scope.names∨(x,NameKind.free)∈scope.names:=by
   rcases hx with hx|hx
   ·let#[k',e,q]:=TC (env:=X.env) (show _\NameKind.cell from hx);let m:=qT e;rcases q with q|⟨q,_⟩
    ·exact .inl (q▸m)
    exact .inr (q▸m)
   let#[k',e,q]:=TC (env:=X.env) (show _\NameKind.free from hx);let m:=qT e;rcases q with q|⟨_,q⟩
   ·exact .inr (q▸m)
   cases q
  show ∃c,(cellsFrom (s.heap.objs.size+1) scope.names (jE X.env scope.names [])).lookup x\c
  have:((cellsFrom (s.heap.objs.size+1) scope.names (jE X.env scope.names [])).lookup x).isSome=true:=by
   apply PySem.W.cellsFrom_some _ _ _ ?_;rcases key with q|q
   ·exact .inl (S.look _ q)
   let#[c,m]:=Um (env:=X.env) (names:=scope.names) (cs:=[]) (x:=x) (.inl q);let#[c',e]:=UI m;exact .inr (by rw[e];rfl)
  exact wg.mp this
 ·-- DA
  rcases ia h with⟨_,_,l⟩|⟨_,k⟩
  ·exact Nat.le_of_succ_le l
  let e:=S.look _ k;have hf:(decide (scope.names.lookup x\.local) || decide (scope.names.lookup x\.cell))=true:=hf;rw[show scope.names.lookup x\.free from e] at hf;exact absurd hf (by decide)
 ·rcases ia h with⟨_,_,l⟩|⟨q,_⟩
  ·exact xx (gO (hb b AM) (Nat.le_of_succ_le l))
  exact (Mq b AM).2.2.2.2.1 x c q
 ·exact ma I.ok.r_ I.sz
 ·rcases (Mq b AM).2.2.2.1 with q|q
  ·exact I.ok.qo b o e q
  exact absurd (gO (bW e) I.ok.r_) Z1
 ·rcases cc.mp (I.hU b hs) with q|q
  ·exact (Mq b AM).2.1 q
  exact (Mq b AM).2.2.1 q
 ·-- names
  have hi:own<=i:=by
   apply Nat.le_of_not_lt λdB=>?_;unfold DY at h2;rw[FK (by rw[A8];exact dB),List.getElem?_replicate,aF dB] at h2;cases h2
  have jW:(fr.map λj=>(σ[j]?).join)[i - own]? = some (some v):=by
   unfold DY at h2;rw[D9 (by rw[A8];exact hi),A8] at h2;exact h2
  have h1:N[i]? = some x:=h1;have hx:(N.drop own)[i - own]? = some x:=by rw[List.getElem?_drop,show own+(i - own)=i by omega];exact h1
  rw[d0] at jW;cases ej:fr[i - own]? with
  |none=>rw[ej] at jW;cases jW
  |some j=>
   rw[ej] at jW;have jW:(σ[j]?).join\v:=c7 jW
   have yx:σ[j]? = some (some v):=by
    cases q:σ[j]? with
    |none=>rw[q] at jW;cases jW
    |some o=>rw[q] at jW;exact dH some jW
   have hN:X.N[j]? = some x:=by
    let q:=dH (λl=>l[i - own]?) S.eB;simp only[d0,ej,hx,Option.map_some] at q;exact c7 q
   let kf:=S.frk x (dz hx);let mf:=qT kf;let#[m,hm,hv]:=I.loc;let pk:=S.par _ mf Z;let#[u,ru,lk]:=hv j x v hN yx (pk.elim (λq=>.inr (.inl q)) λq=>.inr (.inr q));apply#[u,ru,?_];have VT:X.env.kindOf x\.cell∨X.env.kindOf x\.free:=pk;rcases lk with⟨k,_⟩|⟨_,c,hc,pO⟩
   ·rw[k] at VT;rcases VT with q|q<;>cases q
   let#[c',m1]:=Um (env:=X.env) (names:=scope.names) (cs:=[]) (x:=x) (.inl mf);let e1:=(ZN I S m1).1;rw[hc] at e1;cases e1;apply .inr #[?_,c,?_,pO.keeps kept]
   ·let q:=_I (env:=X.env) Z kf;show (relabel scope X.env).names.lookup x\.cell∨(relabel scope X.env).names.lookup x\.free;unfold relabel;rw[q];split
    ·exact .inl Z
    exact .inr Z
   let#[c2,e2]:=wg.mp (PySem.W.cellsFrom_some (x:=x) scope.names (s.heap.objs.size+1) (jE X.env scope.names []) (.inr (by let#[c',e]:=UI m1;rw[e];rfl)));show (cellsFrom (s.heap.objs.size+1) scope.names (jE X.env scope.names [])).lookup x\c;rcases ia e2 with⟨_,q,_⟩|⟨q,_⟩
   ·have:=S.look _ q;rw[show scope.names.lookup x\.free from kf] at this;cases this
   rw[hc] at q;cases q;exact e2
 ·-- cells
  rcases ia h with⟨q,_,_⟩|⟨q,_⟩
  ·exact#[_,(Nr.empty _ _ q).1]
  let#[v,hv]:=I.cell x c q;exact#[v,hv.keeps kept]
 ·rcases ia h with⟨q,_,l⟩|⟨q,_⟩
  ·exact I.ay.fresh Z1
  exact I.dk x c q
 show (DY own fr σ).length=N.length;unfold DY;rw[dE,A8,aq];exact S.len
end
def K3(X:Cx)(ifs:List Expr)(t:TT):Prop:=
 ∀(π:List (Addr × Obj)) (s:Ab) (σ:St) (H:Hp) (Q:Bool->Hp->Prop),!In H s->t σ H Q->
  wpAny (model X.prog X.w) X.A (forIn ifs true λc r=>if r=true then do let ok <- isTrue c X.env (eval c X.env);pure (ForInStep.yield ok) else pure (ForInStep.yield r)) (TP X π σ Q) X.xe s
def xF:TT:=λ_ H Q=>Q true H
def fD{σ:St}{H:Hp}{A B:Hp->Prop}(h:A H):xF σ H λb H4=>if b=true then A H4 else B H4:=by
 unfold xF;exact cz h
def lW{X:Cx}:K3 X [] xF:=λ_ _ _ H _ I h=>wpAny_tests_nil #[H,I,h]
def XO{X:Cx}{c:Expr}{t:TT}(h:PT X c t):K3 X [c] t:=λπ s σ H Q I q=>wpAny_tests_one (h π s σ H Q I q)
def EU(J:It)(g:TG)(tc:TT)(te:TE)(qc:St)(D:Addr)(H1:Hp)(Q:VK):Prop:=∃W:Nat->Nat->St->Hp->Prop,
 (∃m,W 0 m qc (upd H1 D (.lst [])))/\∀i m bh H',W i m bh H'->(J.stop i H'/\Q (.ref D) H') ∨
  (J.go i H'/\∃Nx:St->Hp->Prop,(∀g_ H2,Nx g_ H2->∃m',m'<m/\W (i+1) m' g_ H2) /\
   ∀x H2,J.iG i H' x H2->g x bh H2 λlL H3=>tc lL H3 λb H4=>if b=true then te lL H4 λy H5=>∃out,H5 D\.lst out/\out.length<sizeLine/\Nx lL (upd H5 D (.lst (out++[y]))) else Nx lL H4)
def zX(wi:TI)(own:Nat)(fr:List Nat)(g:TG)(tc:TT)(te:TE):TE:=λσ H Q=>wi σ H λJ H1=>∀D,H1 D=none->EU J g tc te (DY own fr σ) D H1 Q
section
variable{X:Cx}{tg iter elt:Expr}{ifs:List Expr}{scope:Scope}{pos:Pos}{wi:TI}{g:TG}{tc:TT}{te:TE}{N:ae}
def XB{R:Result->Ab->Prop}{own:Nat}{fr:List Nat}{π:List (Addr × Obj)}{σ:St}{H1:Hp}{s2:Ab}{it:Addr}{fp:ai}{tn:Nat->Heap->Prop}{J:It}{D:Addr}{Q:VK}
 (S:oI X.N X.env.scope N own fr scope)(hc:X.calm=true)(hg:∀fp s H,PG (iC X N scope fp s H) tg g)(ht:∀fp s H,K3 (iC X N scope fp s H) ifs tc)(he:∀fp s H,PE (iC X N scope fp s H) elt te)
 (I3:!In (upd H1 D (.lst [])) s2)(T:Turn X.prog X.w X.K tg J fp it tn)(st:tn 0 s2.heap)(f2:∀b∈fp,dc X π (upd H1 D (.lst [])) b)
 (k:EU J g tc te (DY own fr σ) D H1 Q)
 (hR:∀H' s',!In H' s'->(∃m,s'.heap.Ns s2.heap.objs.size m)->H' s2.heap.objs.size=none->Q (.ref D) H'->R (.ok .next) s'):
  codeAny (model X.prog X.w) X.A (.compStart (.ListComp elt [#[tg,iter,ifs,0]] scope pos) 0 (.ref it) (.ref D) (kQ scope s2.heap.objs.size X.env)) R
   { s2 with heap:=pushCells (s2.heap.push { cls:=.type "dict",data:=.dict #[] }) scope.names }:=by
 let#[W,#[m0,w0],turn]:=k;let I4:=I3.block (N:=N) S f2 (λb hb=>let #[o,e,_]:=T.obj _ _ st b hb;#[o,e]);have kept:∀b o,s2.heap.get? b\o->(pushCells (s2.heap.push { cls:=.type "dict",data:=.dict #[] }) scope.names).get? b\o:=λb o e=>pushCells_keeps _ _ b o (b_ _ e);have js:tn 0 (pushCells (s2.heap.push { cls:=.type "dict",data:=.dict #[] }) scope.names):=T.keep _ _ _ st λb hb o e=>kept b o e
 have fx:∀{H':Hp},(∀b∈fp,H' b=none)->∀b∈fp,dc (iC X N scope fp s2 (upd H1 D (.lst []))) [] H' b:=λhn b hb=>
  #[hn b hb,(I4.ok.JG b hb).1,I4.ok.qI b hb,.inl hb,(I4.ok.JG b hb).2,λp hp=>absurd (show p∈([]:List (Addr × Obj)) from hp) Z2]
 have loop:codeAny (model X.prog X.w) X.A (.compLoop (.ListComp elt [#[tg,iter,ifs,0]] scope pos) 0 (.ref it) (.ref D) (kQ scope s2.heap.objs.size X.env)) R
   { s2 with heap:=pushCells (s2.heap.push { cls:=.type "dict",data:=.dict #[] }) scope.names }:=by
  apply codeAny_loop Z (λn s'=>∃i bh H',Inv (iC X N scope fp s2 (upd H1 D (.lst []))) [] bh H' s'/\tn i s'.heap/\(∀b∈fp,H' b=none)/\W i n bh H') (λn s' hI=>?_) m0 #[0,_,_,I4,js,λb hb=>(f2 b hb).1,w0];let#[i,bh,H',I5,jT,pS,w5]:=hI;show wpAny _ X.A ((compTurn (.ListComp elt [#[tg,iter,ifs,0]] scope pos) 0 (.ref it) (.ref D) (kQ scope s2.heap.objs.size X.env)).onRaise (λx=>do noteFrame x (kQ scope s2.heap.objs.size X.env);theTreesLotGoes x)) _ _ s';apply wpAny_noted (gD (E:=λ_ _=>False) ?_ (λ_ _ q=>q) λ_ _ q=>q.elim);rw[compTurn_list];apply au (wpAny_standAt (au ?_));rcases turn i n bh H' w5 with⟨stop,q⟩|⟨go,Nx,hN,step⟩
  ·apply aU (T.done (iC X N scope fp s2 (upd H1 D (.lst []))) Z Z Z hc i [] s' bh H' _ I5 (fx pS) jT stop) λr s6 ⟨hr,I6⟩=>?_;subst hr;apply bu (hR H' s6 (I3.jb I6.os I6.base I6.ay I6.bare λb hb=>?_) ?_ I6.free q)
   ·exact#[(f2 b hb).2.2.2.1,(f2 b hb).2.1,(f2 b hb).2.2.2.2.1,(f2 b hb).2.2.2.2.2]
   let#[m,hm,_]:=I6.loc;exact#[m,hm]
  apply aU (T.item (iC X N scope fp s2 (upd H1 D (.lst []))) Z Z Z hc i [] s' bh H' _ I5 (fx pS) jT go) λr s6 ⟨u,hr,h6⟩=>?_;subst hr;apply au (aU h6 λ_ s7 ⟨x,H7,I7,r7,y7,Ej,fr7⟩=>?_);let I7':=I7.pinned (fx fr7) (T.obj _ _ Ej)
  have back:∀{wH:St} {H8:Hp} {s8:Ab},Inv (iC X N scope fp s2 (upd H1 D (.lst []))) ([]++zk fp s7.heap) wH H8 s8->Nx wH H8->∃m,m<n/\∃i bh H',Inv (iC X N scope fp s2 (upd H1 D (.lst []))) [] bh H' s8/\tn i s8.heap/\(∀b∈fp,H' b=none)/\W i m bh H':=λ{wH H8 s8} I8 n8=>by
   let#[m',hm,w8]:=hN wH H8 n8;apply#[m',hm,i+1,wH,H8,I8.eO,T.keep _ _ _ Ej λb hb o e=>(I8.pin (b,o) (iT _ (iT _ (NR hb e)))).1,λb hb=>?_,w8];let#[o,e,d]:=T.obj _ _ Ej b hb;exact (I8.pin (b,o) (iT _ (iT _ (NR hb e)))).2.1
  apply au (aU (hg fp s2 (upd H1 D (.lst [])) _ s7 bh H7 x u _ I7' r7 (step x H7 y7)) λ_ s8 ⟨wH,H8,I8,q8⟩=>?_);apply au (aU (ht fp s2 (upd H1 D (.lst [])) _ s8 wH H8 _ I8 q8) λb s9 ⟨H9,I9,q9⟩=>?_);cases b with
  |false=>
   simp only[Ba,if_false] at q9 ⊢;exact bu #[Z,back I9 q9]
  |true=>
   simp only[if_true] at q9 ⊢;apply au (au (aU (he fp s2 (upd H1 D (.lst [])) _ s9 wH H9 _ I9 q9) λy iJ ⟨yv,jk,zG,O5,out,hD,hz,Ph⟩=>?_));apply au (aU (v_ (X:=iC X N scope fp s2 (upd H1 D (.lst []))) _ iJ wH jk (.ref D) [yv] (.ref D) [y] (λ_ H'=>Nx wH H') zG Z (.cons O5 .nil) #[D,out,yv,Z,Z,hD,hz,Ph]) λ_ Ah ⟨_,UY,I11,_,Pb⟩=>?_);exact bu (bu #[Z,back I11 Pb])
 exact codeAny_compStart_list loop (T.self _ 0 _ _ _ js loop)
def pX(N:ae)(own:Nat)(fr:List Nat)(hi:PI X tg iter wi)(hg:∀fp s H,PG (iC X N scope fp s H) tg g)(ht:∀fp s H,K3 (iC X N scope fp s H) ifs tc)(he:∀fp s H,PE (iC X N scope fp s H) elt te)
 (S:Nk X.N X.env.scope N own fr scope=true:=by kernel_rfl)(hc:X.calm=true:=by rfl)(hs:∀x,foldedSetIterable iter X.env x=pure x:=by intro _;rfl):
  PE X (.ListComp elt [#[tg,iter,ifs,0]] scope pos) (zX wi own fr g tc te):=by
 intro π s σ H Q I h;let S':=oI.of S;rw[eval_ListComp];have vM:closureFor scope X.env=pure (jE X.env scope.names []):=_y λx hx e=>I.ok.has x.1 (S'.par x hx e);apply wpAny_comprehension_free (use:=none) Z hs vM S'.kind (λx hx e=>by rw[S'.look x hx,e]) (aU (hi π s σ H _ I h) λv s1 h1=>aU h1 λLZ s2 h2=>?_);let#[it,fp,tn,J,H1,rfl,I2,T,d_,f2,k]:=h2;apply vV (_h ?_);have hD:H1 s2.heap.objs.size=none:=I2.fresh;let I3:=I2.B9 (ys:=[]) (its:=[]) (t':=s2.toks) .nil (gQ _);have kept:∀b o,s2.heap.get? b\o->(s2.heap.push { cls:=.type "list",data:=.seq ([]:aj).toArray }).get? b\o:=λb o e=>b_ _ e;apply XB (own:=own) (fr:=fr) (Q:=Q) S' hc hg ht he I3 T (T.keep _ _ _ d_ λb hb o e=>kept b o e) (λb hb=>?_) (k _ hD) ?_
 ·apply#[?_,(f2 b hb).2];let#[o,e,_]:=T.obj _ _ d_ b hb;rw[aD (dD (bW e))];exact (f2 b hb).1
 rintro H' s' I' ⟨m,hm⟩ hn q;apply#[m,hm,λh' rG=>#[.ref s2.heap.objs.size,H',?_,Z,q]]
 exact I'.turned (t':=s'.toks) (λb o hb e=>rG.extBut b o hb e) hn (xx I3.lt) (.inr I3.sz) (λx c Js e=>by
  let#[v,hv]:=I3.cell x c Js
  exact absurd hv.lt (by rw[e];exact zA _)) λp hp e=>by
   have:=(I3.pin p hp).1;rw[e] at this;exact absurd (bW this) (zA _)
def Gx(i:Nat)(te:TE):TS:=λD σ H=>te σ H λx H1=>D.nx (σ.set i (some x)) H1
def Nj{i:Nat}{x:Str}{px:Pos}(N:ae)(own:Nat)(fr:List Nat)(hN:X.N.Nodup)(hi':X.N[i]? = some x)(hx:Loc X.env.scope x)
 (hi:PI X tg iter wi)(hg:∀fp s H,PG (iC X N scope fp s H) tg g)(ht:∀fp s H,K3 (iC X N scope fp s H) ifs tc)(he:∀fp s H,PE (iC X N scope fp s H) elt te){pos':Pos}
 (S:Nk X.N X.env.scope N own fr scope=true:=by kernel_rfl)(hc:X.calm=true:=by rfl)(hs:∀x,foldedSetIterable iter X.env x=pure x:=by intro _;rfl)
 (hf:X.fn x=true∨X.env.scope.names.lookup x\.local:=by first|exact .inl Z|exact .inr Z|assumption)
 (hsw:swapsWith (.ListComp elt [#[tg,iter,ifs,0]] scope pos) (some (.Name x px)) pos'.line X.env=pure true:=by rfl):
  PS X (.Assign [.Name x px] (.ListComp elt [#[tg,iter,ifs,0]] scope pos) pos') (Gx i (zX wi own fr g tc te)):=by
 intro π s σ H E I h;let S':=oI.of S;rw[exec_Assign_Name_used _ _ _ _ hsw];apply au (wpAny_standAt (au ?_));show wpAny _ X.A (do let _ <- comprehension (.ListComp elt [#[tg,iter,ifs,0]] scope pos) scope X.env _ (newList []) false (eval iter X.env) (some (assign (.Name x px) X.env))) _ _ s;have vM:closureFor scope X.env=pure (jE X.env scope.names []):=_y λx hx e=>I.ok.has x.1 (S'.par x hx e)
 apply au (gD (wpAny_comprehension_free (use:=some (assign (.Name x px) X.env)) (Q:=λ_ s'=>SP X π E .next s') Z hs vM S'.kind (λx hx e=>by rw[S'.look x hx,e]) (aU (hi π s σ H _ I h) λv s1 h1=>aU h1 λLZ s2 h2=>?_))
  (λ_ s' hq=>bu (bu hq)) λ_ _ e=>e)
 let#[it,fp,tn,J,H1,rfl,I2,T,d_,f2,k]:=h2;apply vV (_h ?_);have hD:H1 s2.heap.objs.size=none:=I2.fresh;let I3:=I2.B9 (ys:=[]) (its:=[]) (t':=s2.toks) .nil (gQ _);have kept:∀b o,s2.heap.get? b\o->(s2.heap.push { cls:=.type "list",data:=.seq ([]:aj).toArray }).get? b\o:=λb o e=>b_ _ e;apply XB (own:=own) (fr:=fr) (Q:=λx H1=>E.nx (σ.set i (some x)) H1) S' hc hg ht he I3 T (T.keep _ _ _ d_ λb hb o e=>kept b o e) (λb hb=>?_) (k _ hD) ?_
 ·apply#[?_,(f2 b hb).2];let#[o,e,_]:=T.obj _ _ d_ b hb;rw[aD (dD (bW e))];exact (f2 b hb).1
 rintro H' s' I' ⟨m,hm⟩ hn q
 have pT:∀y c,X.env.cells.lookup y\c->c≠(s2.heap.push { cls:=.type "list",data:=.seq ([]:aj).toArray }).objs.size:=λy c Js e=>by
  let#[v,hv]:=I3.cell y c Js;exact absurd hv.lt (by rw[e];exact zA _)
 show wpAny _ X.A (assign (.Name x px) X.env (.ref s2.heap.objs.size)) _ _ s';apply wpAny_assign_Name (ZO (v:=V.ref s2.heap.objs.size) I' hN hi' hx Z (λrC I'' ⟨a,Co,ha⟩=>?_) hf)
 have hCa:(s2.heap.push { cls:=.type "list",data:=.seq ([]:aj).toArray }).objs.size≠a:=by
  rcases ha with e|e
  ·rw[e];exact xx I3.lt
  exact (pT x a e).symm
 apply#[m,hm.sameBut Co hCa,λh' rG=>#[_,H',?_,q]]
 exact I''.turned (t':=rC.toks) (λb o hb e=>rG.extBut b o hb e) hn (xx I3.lt) (.inr I3.sz) pT λp hp e=>by
   have:=(I3.pin p hp).1;rw[e] at this;exact absurd (bW this) (zA _)
end
def FP(g:TG)(own:Nat)(fv:List aQ)(dec:V->Hp->List aQ->Prop):Prop:=
 ∀(x:V) (o:List aQ) (H:Hp) (k:oG) (o3:List aQ),o.length=own->dec x H o3->k (o3++fv) H->g x (o++fv) H k
def gr{fv:List aQ}:FP (gZ 0) 1 fv (λx _ o3=>o3=[some x]):=λx o H k o3 hl e h=>by
 subst e
 match o,hl with
 |[a],_=>exact h
inductive J1(K:af)(x:V)(H:Hp)(o3:List aQ):Prop
 |mk:∀p u v,x=.ref p->iw K H p [u,v]->o3=[some u,some v]->J1 K x H o3
inductive JZ(K:af)(x:V)(H:Hp)(o3:List aQ):Prop
 |mk:∀p u v w,x=.ref p->iw K H p [u,v,w]->o3=[some u,some v,some w]->JZ K x H o3
def CV{K:af}{fv:List aQ}:FP (kK K 2 (xk (gZ 0) (xk (gZ 1) yQ))) 2 fv (J1 K):=λx o H k o3 hl e h=>by
 let#[p,u,v,rfl,hp,rfl]:=e
 match o,hl with
 |[a,b],_=>exact#[p,[u,v],Z,hp,Z,u,[v],Z,v,[],Z,Z,h]
def RE{K:af}{fv:List aQ}:FP (kK K 3 (xk (gZ 0) (xk (gZ 1) (xk (gZ 2) yQ)))) 3 fv (JZ K):=λx o H k o3 hl e h=>by
 let#[p,u,v,w,rfl,hp,rfl]:=e
 match o,hl with
 |[a,b,c],_=>exact#[p,[u,v,w],Z,hp,Z,u,[v,w],Z,v,[w],Z,w,[],Z,Z,h]
def M0{J:It}{g:TG}{tc:TT}{te:TE}{own:Nat}{fv:List aQ}{dec:V->Hp->List aQ->Prop}{D:Addr}{H:Hp}{Q:VK}{qc:St}(yx:qc=List.replicate own none++fv)(G:FP g own fv dec)(n:Nat)(Pv:eI)
 (h0:Pv 0 [] (upd H D (.lst [])))(Iw:∀out H',Pv n out H'->J.stop n H'/\Q (.ref D) H')
 (Jf:∀i out H',i<n->Pv i out H'->J.go i H'/\∀x H2,J.iG i H' x H2->∃o3,dec x H2 o3/\o3.length=own/\∀Nx:Hp->Prop,(∀nJ H2,Pv (i+1) nJ H2->Nx H2)->
   tc (o3++fv) H2 λb H4=>if b=true then te (o3++fv) H4 λy H5=>∃gg,H5 D\.lst gg/\gg.length<sizeLine/\Nx (upd H5 D (.lst (gg++[y]))) else Nx H4):
  EU J g tc te qc D H Q:=by
 subst yx;apply#[λi m bh H'=>m=n - i/\i<=n/\(∃o:List aQ,bh=o++fv/\o.length=own)/\∃out,Pv i out H',#[n,by simp,gQ _,#[_,Z,A8],_,h0],?_];rintro i m bh H' ⟨rfl,hi,⟨o,rfl,ho⟩,out,p⟩;by_cases dB:i<n
 ·let#[go,k]:=Jf i out H' dB p;apply .inr #[go,λg_ H2=>(∃o:List aQ,g_=o++fv/\o.length=own)/\∃out,Pv (i+1) out H2,λg_ H2 q=>#[n - (i+1),by omega,Z,dB,q],λx H2 y=>?_];let#[o3,d,l3,q]:=k x H2 y;exact G x o H2 _ o3 ho d (q (λH2=>(∃o:List aQ,o3++fv=o++fv/\o.length=own)/\∃out,Pv (i+1) out H2) λnJ H2 z=>#[#[o3,Z,l3],nJ,z])
 have e:i=n:=by omega
 subst e;exact .inl (Iw out H' p)
def p0{K:af}{a:Addr}{xs:ag}{g:TG}{tc:TT}{te:TE}{own:Nat}{fv:List aQ}{dec:V->Hp->List aQ->Prop}{D:Addr}{H:Hp}{Q:VK}{qc:St}(yx:qc=List.replicate own none++fv)(G:FP g own fv dec)(Pv:eI)
 (h0:Pv 0 [] (upd H D (.lst [])))(hl:∀i out H',i<=xs.length->Pv i out H'->dU K H' a xs)(hd:∀out H',Pv xs.length out H'->Q (.ref D) H')
 (Jf:∀i x out H',xs[i]? = some x->Pv i out H'->∃o3,dec x H' o3/\o3.length=own/\∀Nx:Hp->Prop,(∀nJ H2,Pv (i+1) nJ H2->Nx H2)->
   tc (o3++fv) H' λb H4=>if b=true then te (o3++fv) H4 λy H5=>∃gg,H5 D\.lst gg/\gg.length<sizeLine/\Nx (upd H5 D (.lst (gg++[y]))) else Nx H4):
  EU (Ed K a) g tc te qc D H Q:=by
 apply M0 yx G xs.length Pv h0 (λout H' p=>#[#[xs,hl _ _ _ (bD _) p,bD _],hd out H' p]) λi out H' hi p=>?_;let q:=hl i out H' (Nat.le_of_lt hi) p;apply#[#[xs,xs[i],q,by simp[hi]],λx H2 y=>?_];let#[e,y]:=y;subst e;exact Jf i x out _ (y xs q) p
end L2
namespace oH
open PySem PySem.W PyProof.Rows
def Ok{α:Type}(f:Nat->Nat->Bool)(n:Nat):KasT α->(α->Prop)->Prop
 |.ret a,Q=>Q a
 |.ask i j k,Q=>i<n/\j<n/\Ok f n (k (f i j)) Q
def Ok.bind{α β:Type}{f:Nat->Nat->Bool}{n:Nat}{g:α->KasT β}{Q:β->Prop}:∀{t:KasT α}{R:α->Prop},Ok f n t R->(∀a,R a->Ok f n (g a) Q)->Ok f n (t.bind g) Q
 |.ret a,R,h,k=>k a h
 |.ask i j t,R,h,k=>#[h.1,h.2.1,Ok.bind h.2.2 k]
def Ok.imp{α:Type}{f:Nat->Nat->Bool}{n:Nat}{Q R:α->Prop}(k:∀a,Q a->R a):∀{t:KasT α},Ok f n t Q->Ok f n t R
 |.ret a,h=>k a h
 |.ask i j t,h=>#[h.1,h.2.1,Ok.imp k h.2.2]
def Ok.wp{α:Type}{f:Nat->Nat->Bool}{n:Nat}{cmp:Nat->Nat->(Bool->Ab->Prop)->Ab->Prop}{s:Ab}(hc:∀i j C,i<n->j<n->C (f i j) s->cmp i j C s){Q:α->Prop}{G:α->Ab->Prop}(k:∀a,Q a->G a s):
  ∀{t:KasT α},Ok f n t Q->t.kasWp cmp G s
 |.ret a,h=>k a h
 |.ask i j t,h=>hc i j _ h.1 h.2.1 (Ok.wp hc k h.2.2)
structure Ord(f:Nat->Nat->Bool):Prop where
 fE:∀i,f i i=false
 trans:∀{i j k},f j i=false->f k j=false->f k i=false
 Ld:∀{i j},f i j=true->f j i=false
section
variable{f:Nat->Nat->Bool}(O:Ord f){N:Nat}
abbrev at'(p:Array Nat)(i:Nat):Nat:=p.getD i 0
def Up(f:Nat->Nat->Bool)(p:Array Nat)(k:Nat):Prop:=∀i j,i<=j->j<k->f (at' p j) (at' p i)=false
def Down(f:Nat->Nat->Bool)(p:Array Nat)(k:Nat):Prop:=∀i j,i<=j->j<k->f (at' p i) (at' p j)=false
def rg(f:Nat->Nat->Bool)(p:Array Nat)(lo k:Nat):Prop:=∀i,lo<=i->i<k->f (at' p i) (at' p (k - 1))=false/\f (at' p (k - 1)) (at' p i)=false
def Good(N:Nat)(p:Array Nat):Prop:=p.Perm (List.range N).toArray
def Good.size{p:Array Nat}(h:Good N p):p.size=N:=by
 have:=h.size_eq;simpa using this
def Good.lt{p:Array Nat}(h:Good N p)(hN:0<N)(i:Nat):at' p i<N:=by
 unfold at';by_cases hi:i<p.size
 ·have e:p.getD i 0=p[i]:=by simp[Array.getD,hi]
  rw[e];have m:p[i]∈(List.range N).toArray:=h.mem_iff.mp (Array.getElem_mem hi);simpa using m
 have e:p.getD i 0=0:=by simp[Array.getD,hi]
 rw[e];exact hN
def Good.rev{p:Array Nat}(h:Good N p)(i j:Nat):Good N (kas_rev p i j):=(mirror_perm _ _ _ _).trans h
def Good.bub{p:Array Nat}(h:Good N p)(i j:Nat):Good N (bubble p i j):=(bubble_perm _ _ _).trans h
def Kr{p q:Array Nat}{i j:Nat}(h:p[i]? = q[j]?):at' p i=at' q j:=by
 unfold at';rw[Array.getD_eq_getD_getElem?,Array.getD_eq_getD_getElem?,h]
def DF{p:Array Nat}{i j:Nat}(hj:j<=p.size)(k:Nat):at' (kas_rev p i j) k=if i<=k/\k<j then at' p (i+j - 1 - k) else at' p k:=by
 let e:=getElem?_mirror_all (i:=i) hj k;unfold kas_rev;split
 ·rename_i c
  rw[aF c] at e;exact Kr e
 rename_i c
 rw[aA c] at e;exact Kr e
def WY{p:Array Nat}{k l:Nat}(hk:k<p.size)(hl:l<=k)(i:Nat):at' (bubble p k (k - l)) i=if i=l then at' p k else if l<i/\i<=k then at' p (i - 1) else at' p i:=by
 let e:=getElem?_bubble hk (k - l) Z1 i;rw[show k - (k - l)=l by omega] at e;by_cases c:i=l
 ·rw[aF c] at e ⊢;exact Kr e
 rw[aA c] at e ⊢;split
 ·rename_i d
  rw[aF d] at e;exact Kr e
 rename_i d
 rw[aA d] at e;exact Kr e
include O
def Up.more{p:Array Nat}{n:Nat}(h:Up f p n)(h1:1<=n)(c:f (at' p n) (at' p (n - 1))=false):Up f p (n+1):=λi j pL hj=>by
 by_cases e:j<n
 ·exact h i j pL e
 have e:j=n:=by omega
 subst e;by_cases e2:i=j
 ·subst e2;exact O.fE _
 exact O.trans (h i (j - 1) Z1 Z1) c
def Down.more{p:Array Nat}{n:Nat}(h:Down f p n)(h1:1<=n)(c:f (at' p (n - 1)) (at' p n)=false):Down f p (n+1):=λi j pL hj=>by
 by_cases e:j<n
 ·exact h i j pL e
 have e:j=n:=by omega
 subst e;by_cases e2:i=j
 ·subst e2;exact O.fE _
 exact O.trans c (h i (j - 1) Z1 Z1)
def RC{p:Array Nat}(g:Good N p)(hN:0<N):∀(m n:Nat),1<=n->Up f p n->Ok f N (kas_asc p m n) λr=>n<=r/\r<=n+m/\Up f p r/\(r<n+m->f (at' p r) (at' p (r - 1))=true)
 |0,n,_,h=>#[bD _,bD _,h,λq=>absurd q Z1]
 |m+1,n,h1,h=>by
  apply#[g.lt hN _,g.lt hN _,?_];dsimp only;by_cases c:f (at' p n) (at' p (n - 1))=true
  ·rw[aF c];exact#[bD _,by omega,h,λ_=>c]
  rw[aA c];apply (RC g hN m (n+1) Z1 (h.more O h1 ⇑c)).imp λr ⟨a,b,u,z⟩=>#[by omega,by omega,u,λq=>z Z1]
def rg.rev{p:Array Nat}{lo k:Nat}(h:rg f p lo k)(hk:k<=p.size)(i:Nat):f (at' (kas_rev p lo k) i) (at' p i)=false/\f (at' p i) (at' (kas_rev p lo k) i)=false:=by
 rw[DF hk];split
 ·rename_i c
  let#[a1,a2]:=h i c.1 c.2;let#[b1,b2]:=h (lo+k - 1 - i) Z1 Z1;exact#[O.trans a2 b1,O.trans b2 a1]
 exact#[O.fE _,O.fE _]
def Down.rev{p:Array Nat}{lo k n:Nat}(h:Down f p n)(l:rg f p lo k)(hk:k<=p.size):Down f (kas_rev p lo k) n:=λi j pL hj=>by
 let#[a1,_]:=l.rev O hk i;let#[_,b2]:=l.rev O hk j;exact O.trans (O.trans b2 (h i j pL hj)) a1
def MY(hN:0<N):∀(m:Nat)(p:Array Nat)(n q:Nat),Good N p->1<=n->q+1<=n->n+m<=N->Down f p n->rg f p (n - (q+1)) n->
  Ok f N (kas_desc m p n q) λr=>Good N r.1/\n<=r.2.1/\r.2.1<=n+m/\Down f r.1 r.2.1/\r.2.2+1<=r.2.1/\rg f r.1 (r.2.1 - (r.2.2+1)) r.2.1
 |0,p,n,q,g,h1,hq,hn,d,l=>#[g,bD _,bD _,d,hq,l]
 |m+1,p,n,q,g,h1,hq,hn,d,l=>by
  apply#[g.lt hN _,g.lt hN _,?_];dsimp only;by_cases c:f (at' p n) (at' p (n - 1))=true
  ·rw[aF c];have d2:Down f p (n+1):=d.more O h1 (O.Ld c)
   have one:∀p':Array Nat,rg f p' (n+1 - (0+1)) (n+1):=λp' i h2 h3=>by
    have e:i=n+1 - 1:=by omega
    subst e;exact#[O.fE _,O.fE _]
   by_cases Xy:q > 0
   ·rw[aF Xy];have hk:n<=p.size:=by rw[g.size];omega
    exact (MY hN m _ (n+1) 0 (g.rev _ _) Z1 Z1 Z1 (d2.rev O l hk) (one _)).imp λr ⟨a,b,b2,z⟩=>#[a,by omega,by omega,z]
   rw[aA Xy];exact (MY hN m _ (n+1) 0 g Z1 Z1 Z1 d2 (one _)).imp λr ⟨a,b,b2,z⟩=>#[a,by omega,by omega,z]
  rw[aA c];apply#[g.lt hN _,g.lt hN _,?_];dsimp only;have c:f (at' p n) (at' p (n - 1))=false:=⇑c
  by_cases e:f (at' p (n - 1)) (at' p n)=true
  ·rw[aF e];exact#[g,bD _,by show n<=n+(m+1);omega,d,hq,l]
  rw[aA e];have e:f (at' p (n - 1)) (at' p n)=false:=⇑e
  apply (MY hN m p (n+1) (q+1) g Z1 Z1 Z1 (d.more O h1 e) λi h2 h3=>?_).imp λr ⟨a,b,b2,z⟩=>#[a,by omega,by omega,z];show f (at' p i) (at' p n)=false/\f (at' p n) (at' p i)=false;by_cases ei:i=n
  ·subst ei;exact#[O.fE _,O.fE _]
  let#[a1,a2]:=l i Z1 Z1;exact#[O.trans e a1,O.trans a2 c]
def SB(f:Nat->Nat->Bool)(N c8:Nat)(r:Nat × Array Nat):Prop:=Good N r.2/\1<=r.1/\r.1<=c8/\Up f r.2 r.1
def Yg(hN:0<N){p:Array Nat}{n c8:Nat}(g:Good N p)(h1:1<=n)(hn:n<=c8)(hr:c8<=N)(d:Down f p n):Ok f N (kas_tail3 n c8 p) (SB f N c8):=by
 unfold kas_tail3
 have u:Up f (kas_rev p 0 n) n:=λi j pL hj=>by
  rw[DF (by rw[g.size];omega),DF (by rw[g.size];omega),aF Z1,aF Z1];exact d _ _ Z1 Z1
 exact (RC O (g.rev _ _) hN (c8 - n) n h1 u).bind λm ⟨a,b,u,_⟩=>#[g.rev _ _,by show 1<=m;omega,by show m<=c8;omega,u]
def _k(hN:0<N){p:Array Nat}{n c8:Nat}(g:Good N p)(hn:n+1<=c8)(hr:c8<=N)(d:Down f p (n+1)):Ok f N (kas_descPart n c8 p) (SB f N c8):=by
 unfold kas_descPart;apply (MY O hN (c8 - (n+1)) p (n+1) 0 g Z1 Z1 Z1 d λi h2 h3=>?_).bind λr ⟨g',a,b,d',hq,l⟩=>?_
 ·have e:i=n+1 - 1:=by omega
  subst e;exact#[O.fE _,O.fE _]
 split
 ·exact Yg O hN (g'.rev _ _) Z1 Z1 hr (d'.rev O l (by rw[g'.size];omega))
 exact Yg O hN g' Z1 Z1 hr d'
def iN_(hN:0<N){p:Array Nat}{c8:Nat}(g:Good N p)(h1:1<=c8)(hr:c8<=N):Ok f N (kas_count c8 p) (SB f N c8):=by
 unfold kas_count;apply (RC O g hN (c8 - 1) 1 (bD _) λi j pL hj=>?_).bind λn ⟨a,b,u,st⟩=>?_
 ·have e:i=j:=by omega
  subst e;exact O.fE _
 by_cases e:(n == c8)=true
 ·rw[aF e];exact#[g,a,by show n<=c8;omega,u]
 rw[aA e];have e:n≠c8:=⇑e
 let c:=st Z1;by_cases h2:n > 1
 ·rw[aF h2];apply#[g.lt hN _,g.lt hN _,?_];dsimp only;by_cases c2:f (at' p 0) (at' p (n - 1))=true
  ·rw[aF c2];exact#[g,a,by show n<=c8;omega,u]
  rw[aA c2];have c2:f (at' p 0) (at' p (n - 1))=false:=⇑c2
  apply _k O hN (g.rev _ _) Z1 hr λi j pL hj=>?_;by_cases ej:j<n
  ·rw[DF (by rw[g.size];omega),DF (by rw[g.size];omega),aF Z1,aF Z1];exact u _ _ Z1 Z1
  have ej:j=n:=by omega
  subst ej;by_cases ei:i=j
  ·subst ei;exact O.fE _
  rw[DF (by rw[g.size];omega),DF (by rw[g.size];omega),aF Z1,aA Z1];exact O.trans (O.trans (O.Ld c) c2) (u 0 _ Z1 Z1)
 rw[aA h2];have e1:n=1:=by omega
 subst e1;apply _k O hN g Z1 hr λi j pL hj=>?_;by_cases ei:i=j
 ·subst ei;exact O.fE _
 have q1:i=0:=by omega
 have q2:j=1:=by omega
 subst q1;subst q2;exact O.Ld c
def S9(hN:0<N){p:Array Nat}{k:Nat}(g:Good N p)(u:Up f p k):∀(m l r:Nat),r - l<=m->l<=r->r<=k->(∀i,i<l->f (at' p k) (at' p i)=false)->(∀i,r<=i->i<k->f (at' p k) (at' p i)=true)->
  Ok f N (kas_place p k m l r) λx=>x<=k/\(∀i,i<x->f (at' p k) (at' p i)=false)/\∀i,x<=i->i<k->f (at' p k) (at' p i)=true
 |0,l,r,hm,hl,hr,h1,h2=>by
  have e:l=r:=by omega
  subst e;exact#[hr,h1,h2]
 |m+1,l,r,hm,hl,hr,h1,h2=>by
  unfold kas_place;by_cases e:l ≥ r
  ·rw[aF e];have e:l=r:=by omega
   subst e;exact#[hr,h1,h2]
  rw[aA e];apply#[g.lt hN _,g.lt hN _,?_];dsimp only;by_cases c:f (at' p k) (at' p ((l+r) / 2))=true
  ·rw[aF c];apply S9 hN g u m l _ Z1 Z1 Z1 h1 λi h3 h4=>?_;by_cases ei:f (at' p k) (at' p i)=true
   ·exact ei
   have ei:f (at' p k) (at' p i)=false:=⇑ei
   have:=O.trans (u _ i h3 h4) ei;rw[c] at this;cases this
  rw[aA c];have c:f (at' p k) (at' p ((l+r) / 2))=false:=⇑c
  exact S9 hN g u m _ r Z1 Z1 hr (λi h3=>O.trans (u i _ Z1 Z1) c) h2
def WV(hN:0<N):∀(m:Nat)(p:Array Nat)(k:Nat),Good N p->k+m=N->Up f p k->Ok f N (kas_bin m p k) λr=>Good N r/\Up f r N
 |0,p,k,g,e,u=>by
  have e:k=N:=by omega
  subst e;exact#[g,u]
 |m+1,p,k,g,e,u=>by
  unfold kas_bin;apply (S9 O hN g u k 0 k Z1 Z1 (bD _) (λi h=>absurd h Z1) λi h1 h2=>absurd h2 Z1).bind λl ⟨hl,h1,h2⟩=>?_;have hk:k<p.size:=by rw[g.size];omega
  apply WV hN m _ (k+1) (g.bub _ _) Z1 λi j pL hj=>?_;rw[WY hk hl,WY hk hl];by_cases ej:j=l
  ·rw[aF ej];by_cases ei:i=l
   ·rw[aF ei];exact O.fE _
   rw[aA ei,aA Z1];exact h1 i Z1
  rw[aA ej];by_cases Zw:l<j/\j<=k
  ·rw[aF Zw];by_cases ei:i=l
   ·rw[aF ei];exact O.Ld (h2 (j - 1) Z1 Z1)
   rw[aA ei];by_cases Zy:l<i/\i<=k
   ·rw[aF Zy];exact u _ _ Z1 Z1
   rw[aA Zy];exact u _ _ Z1 Z1
  rw[aA Zw];rw[aA (show ¬i=l by omega),aA (show ¬(l<i/\i<=k) by omega)];exact u _ _ Z1 Z1
def Xe(hN:0<N):Ok f N (kas_sort N) λp=>Good N p/\Up f p N:=by
 unfold kas_sort;apply (iN_ O hN (p:=(List.range N).toArray) (Array.Perm.refl _) hN (bD _)).bind λr ⟨g,h1,h2,u⟩=>?_;split
 ·rename_i c
  rw[show max r.1 1=r.1 by omega];exact WV O hN _ _ _ g Z1 u
 rename_i c
 have e:r.1=N:=by omega
 exact#[g,e▸u]
end
section
variable{prog:Ad}{w:Af}{A:Ag}{E:Aa->Ab->Prop}{s:Ab}
def zH(prog:Ad)(w:Af)(A:Ag)(f:Nat->Nat->Bool)(vs:aj)(s:Ab):Prop:=
 ∃κ,(∀Q:SortKind->Ab->Prop,Q κ s->wpAny (model prog w) A (keyKind' vs.toArray) Q (λ_ _=>False) s)/\∀i j C,i<vs.length->j<vs.length->C (f i j) s->kas_ask prog w A κ vs i j C s
def Ks(a:Addr)(h h':Heap):Prop:=∀b o,b≠a->h.get? b\o->h'.get? b\o
def ou(p:Array Nat)(vs:aj):aj:=p.toList.map λi=>vs.getD i Value.none
def _l(vs:aj):ou (List.range vs.length).toArray vs=vs:=by
 unfold ou;apply List.ext_getElem? ?_;intro i;simp only[d0];by_cases h:i<vs.length
 ·simp[h]
 simp[Nat.le_of_not_lt h]
def jm_{a:Addr}{vs:aj}{n:Nat}{f:Nat->Nat->Bool}{P:Fin->Ab->Prop}(O:Ord f)(ho:s.heap.get? a\seqObj "list" vs.toArray n)(dC:vs.length<64)
 (CN:2<=vs.length->∀h',Ks a s.heap h'->zH prog w A f vs { s with heap:=h' })
 (h:∀(p:Array Nat)(h':Heap)(e:Nat),Good vs.length p->Up f p vs.length->h'.get? a\seqObj "list" (ou p vs).toArray e->Ks a s.heap h'->P (.done (.ret .none)) { s with heap:=h' }):
  wpAny (model prog w) A (Builtin.«list.sort» #[[.ref a],[]]) P E s:=by
 have haz:a<s.heap.objs.size:=bW ho;obtain⟨e1,ED⟩:∃e1,(s.heap.update a (Obj.mapSeq λ_=>(#[]:Array Aa))).get? a\seqObj "list" #[] e1:=#[_,get?_update_seq ho (λ_=>#[])]
 have P7:vs.length<=sizeLine:=by
  have:=cX;omega
 rw[list_sort_plain];apply au (listItems_at ho Z (au (listUpdate_at ho Z (au (seqEpoch_at ED Z (au (wpAny_newTuple (au (wpAny_newList (pV ?_) (gQ _))) P7)))) ⇑P7 (gQ _))))
 have keep:∀g:Array Aa->Array Aa,Ks a s.heap ((((s.heap.update a (Obj.mapSeq λ_=>(#[]:Array Aa))).push (seqObj "tuple" vs.toArray 0)).push (seqObj "list" #[] 0)).update a (Obj.mapSeq g)):=λg b o hb e=>by
  apply (je _ _ (Ne.symm hb)).trans (b_ _ (b_ _ ?_));exact (je _ _ (Ne.symm hb)).trans e
 have HW:Ks a s.heap (((s.heap.update a (Obj.mapSeq λ_=>(#[]:Array Aa))).push (seqObj "tuple" vs.toArray 0)).push (seqObj "list" #[] 0)):=λb o hb e=>
  b_ _ (b_ _ ((je _ _ (Ne.symm hb)).trans e))
 have EC:(((s.heap.update a (Obj.mapSeq λ_=>(#[]:Array Aa))).push (seqObj "tuple" vs.toArray 0)).push (seqObj "list" #[] 0)).get? a\seqObj "list" #[] e1:=b_ _ (b_ _ ED);show wpAny (model prog w) A _ P E { s with heap:=((s.heap.update a (Obj.mapSeq λ_=>(#[]:Array Aa))).push (seqObj "tuple" vs.toArray 0)).push (seqObj "list" #[] 0) };dsimp only;by_cases h2:vs.toArray.size<2
 ·rw[aF h2,aF h2];apply au (bu ?_);rw[StateT.run_pure]
  have yU:((vs.toArray.zip vs.toArray).map λx:Keyed=>x.2)=(ou (List.range vs.length).toArray vs).toArray:=by
   rw[_l];apply Array.ext' ?_;simp[List.map_snd_zip]
  apply au (bu (au (seqEpoch_at EC Z (au (listUpdate_at EC Z ?_ (gQ _) ?_)))))
  ·simp only[bne_self_eq_false,Ba,if_false];apply bu (h (List.range vs.length).toArray _ _ (Array.Perm.refl _) (λi j pL hj=>?_) ((get?_update_seq EC _).trans (dH (λz=>some (seqObj "list" z _)) yU)) (keep _))
   have e:i=j:=by
    simp only[c_] at h2;omega
   subst e;exact O.fE _
  have e:((vs.toArray.zip vs.toArray).map λx:Keyed=>x.2).size<=sizeLine+1:=by
   simp only[Array.size_map,Array.size_zip,c_];omega
  exact e
 rw[aA h2,aA h2]
 have jW:2<=vs.length:=by
  simp only[c_] at h2;omega
 let#[κ,hk,hc]:=CN jW _ HW;apply au (gD (hk (λk s'=>k=κ/\s'=_) #[Z,Z]) (λk s' Ja=>?_) λ_ _ x=>x.elim);let#[rfl,rfl]:=Ja
 apply au (gD (kat_run (ks:=vs) (vs:=vs) (G:=λp s'=>s'={ s with heap:=((s.heap.update a (Obj.mapSeq λ_=>(#[]:Array Aa))).push (seqObj "tuple" vs.toArray 0)).push (seqObj "list" #[] 0) }/\Good vs.length p/\Up f p vs.length)
  (Q:=λfu s'=>∃p:Array Nat,arrOf fu=p.map (kas_item (vs.toArray.zip vs.toArray))/\failedOf fu=none/\s'={ s with heap:=((s.heap.update a (Obj.mapSeq λ_=>(#[]:Array Aa))).push (seqObj "tuple" vs.toArray 0)).push (seqObj "list" #[] 0) }/\Good vs.length p/\Up f p vs.length)
  rfl jW dC (λp fu s' _ q1 q2 q3=>#[p,q1,q2,q3]) (Ok.wp hc (λp q=>#[Z,q]) (Xe O Z1))) ?_ λ_ _ x=>x)
 rintro⟨⟨⟩,fu⟩ s' ⟨p,Rj,hf,rG,g,u⟩;have rG:s'={ s with heap:=((s.heap.update a (Obj.mapSeq λ_=>(#[]:Array Aa))).push (seqObj "tuple" vs.toArray 0)).push (seqObj "list" #[] 0) }:=rG;subst rG
 have yU:((arrOf fu).map λx:Keyed=>x.2)=(ou p vs).toArray:=by
  rw[Rj];apply Array.ext' ?_;unfold ou;simp only[Array.map_map,Array.toList_map,List.toList_toArray];apply p4 λi _=>?_;show (kas_item (vs.toArray.zip vs.toArray) i).2=_;unfold kas_item;by_cases hi:i<vs.length
  ·simp[Array.getD,hi]
  simp[Array.getD,hi,Nat.le_of_not_lt hi]
 have esz:((arrOf fu).map λx:Keyed=>x.2).size=vs.length:=by
  rw[yU];unfold ou;simp only[c_,aq,we];exact g.size
 apply au (seqEpoch_at EC Z (au (listUpdate_at EC Z ?_ (gQ _) (by rw[esz];omega))));rw[hf];simp only[bne_self_eq_false,Ba,if_false];exact bu (h p _ _ g u ((get?_update_seq EC _).trans (dH (λz=>some (seqObj "list" z _)) yU)) (keep _))
def Z9{x:Aa}{f:Nat->Nat->Bool}{Q:Aa->Ab->Prop}(O:Ord f)
 (og:wpAny (model prog w) A.in1 (collect x) (λvs s1=>vs.length<64/\(2<=vs.length->∀h':Heap,(∀b o,s1.heap.get? b\o->h'.get? b\o)->zH prog w A.in1.in1 f vs { s1 with heap:=h' }) /\
   ∀(p:Array Nat)(h':Heap)(e:Nat),Good vs.length p->Up f p vs.length->h'.get? s1.heap.objs.size\seqObj "list" (ou p vs).toArray e->(∀b o,s1.heap.get? b\o->h'.get? b\o)->Q (.ref s1.heap.objs.size) { s1 with heap:=h' }) E s):
  wpAny (model prog w) A (call (.builtin "sorted") [x]) Q E s:=by
 apply Calls.call_function_entry kind_sorted plain_sorted entry_sorted (args_sorted1 _) ?_;unfold Builtin.«sorted»;apply au (m:=checkCount "sorted" 1 1 _) (bu (au (gD og (λvs s1 q=>?_) λ_ _ z=>z)));let#[dC,CN,hQ]:=q;apply au (wpAny_newList ?_ (by have:=cX;omega));have hn:(s1.heap.push (seqObj "list" vs.toArray 0)).get? s1.heap.objs.size\seqObj "list" vs.toArray 0:=eL _ Z
 have old:∀h',Ks s1.heap.objs.size (s1.heap.push (seqObj "list" vs.toArray 0)) h'->∀b o,s1.heap.get? b\o->h'.get? b\o:=λh' k b o e=>
  k b o (dD (bW e)) (b_ _ e)
 apply au (pV (wpAny_call_entry slot_list_sort #[_,hn,Z] entry_list_sort (jm_ O hn dC (λh2 h' k=>CN h2 h' (old h' k)) λp h' e g u q k=>#[_,Z,?_]) (args_list_sort _)));exact bu #[_,Z,hQ p h' e g u q (old h' k)]
end
end oH
namespace L2
open PySem PySem.Spec PyProof.Rows PySem.W oH
def jV:Key->Key->Bool
 |.inl i,.inl j=>decide (i<j)
 |.inl _,.inr _=>true
 |.inr _,.inl _=>false
 |.inr x,.inr y=>decide (x.cps.toList<y.cps.toList)
def bK:ax->ax->Bool
 |[],[]=>false
 |[],_::_=>true
 |_::_,[]=>false
 |a::r,b::q=>if a=b then bK r q else jV a b
def Xi:∀a:Key,jV a a=false
 |.inl i=>by simp[jV]
 |.inr x=>by simp[jV,List.lt_irrefl]
def Zu:∀{a b:Key},jV a b=true->jV b a=false
 |.inl i,.inl j,h=>by
  simp only[jV,decide_eq_true_eq,DB] at *;omega
 |.inl _,.inr _,_=>rfl
 |.inr _,.inl _,h=>by cases h
 |.inr x,.inr y,h=>by
  simp only[jV,decide_eq_true_eq,DB] at *;exact λq=>List.lt_irrefl _ (List.lt_trans h q)
def Yd:∀{a b:Key},jV a b=false->jV b a=false->a=b
 |.inl i,.inl j,h,h2=>by
  simp only[jV,DB] at *;rw[show i=j by omega]
 |.inl _,.inr _,h,_=>by cases h
 |.inr _,.inl _,_,h=>by cases h
 |.inr x,.inr y,h,h2=>by
  simp only[jV,DB] at *;rw[ext_toList (List.le_antisymm (List.not_lt.mp h2) (List.not_lt.mp h))]
def ib_:∀{a b c:Key},jV a b=true->jV b c=true->jV a c=true
 |.inl i,.inl j,.inl k,h,h2=>by
  simp only[jV,decide_eq_true_eq] at *;omega
 |.inl _,.inl _,.inr _,_,_=>rfl
 |.inl _,.inr _,.inr _,_,_=>rfl
 |.inl _,.inr _,.inl _,_,h=>by cases h
 |.inr _,.inl _,_,h,_=>by cases h
 |.inr _,.inr _,.inl _,_,h=>by cases h
 |.inr x,.inr y,.inr z,h,h2=>by
  simp only[jV,decide_eq_true_eq] at *;exact List.lt_trans h h2
def S8:∀a:ax,bK a a=false
 |[]=>rfl
 |a::r=>by
  unfold bK;rw[aF Z];exact S8 r
def Us:∀{a b:ax},bK a b=true->bK b a=false
 |[],[],h=>by cases h
 |[],_::_,_=>rfl
 |_::_,[],h=>by cases h
 |a::r,b::q,h=>by
  unfold bK at h ⊢;by_cases e:a=b
  ·rw[aF e] at h;rw[aF e.symm];exact Us h
  rw[aA e] at h;rw[aA (Ne.symm e)];exact Zu h
def S_:∀{a b:ax},bK a b=false->bK b a=false->a=b
 |[],[],_,_=>rfl
 |[],_::_,h,_=>by cases h
 |_::_,[],_,h=>by cases h
 |a::r,b::q,h,h2=>by
  unfold bK at h h2;by_cases e:a=b
  ·rw[aF e] at h;rw[aF e.symm] at h2;rw[e,S_ h h2]
  rw[aA e] at h;rw[aA (Ne.symm e)] at h2;exact absurd (Yd h h2) e
def _K:∀{a b c:ax},bK a b=true->bK b c=true->bK a c=true
 |[],_,[],h,h2=>by
  rename_i b
  cases b with
  |nil=>cases h
  |cons _ _=>cases h2
 |[],_,_::_,_,_=>rfl
 |_::_,[],_,h,_=>by cases h
 |_::_,_::_,[],_,h=>by cases h
 |a::r,b::q,c::t,h,h2=>by
  unfold bK at h h2 ⊢;by_cases e:a=b
  ·subst e;rw[aF Z] at h;by_cases e2:a=c
   ·rw[aF e2] at h2 ⊢;exact _K h h2
   rw[aA e2] at h2 ⊢;exact h2
  rw[aA e] at h;by_cases e2:b=c
  ·subst e2;rw[aA e];exact h
  rw[aA e2] at h2;let h3:=ib_ h h2;rw[aA (λq=>by rw[q,Xi] at h3;cases h3)];exact h3
def _r{a b c:ax}(h:bK b a=false)(h2:bK c b=false):bK c a=false:=by
 cases e:bK c a with
 |false=>rfl
 |true=>
  by_cases e1:bK a b=true
  ·have:=_K e e1;rw[h2] at this;cases this
  have e1:bK a b=false:=⇑e1
  have:=S_ e1 h;subst this;rw[h2] at e;cases e
def zI(ks:List ax):Prop:=ks.Pairwise λa b=>bK b a=false
def Tz:∀{a b:List ax},a.Perm b->zI a->zI b->a=b
 |[],b,p,_,_=>by
  have:=p.length_eq;cases b with
  |nil=>rfl
  |cons _ _=>cases this
 |x::r,[],p,_,_=>by
  have:=p.length_eq;cases this
 |x::r,y::q,p,h1,h2=>by
  let#[a1,a2]:=List.pairwise_cons.mp h1;let#[b1,b2]:=List.pairwise_cons.mp h2
  have e:x=y:=by
   rcases cc.mp (p.mem_iff.mp fi) with m|m
   ·exact m
   rcases cc.mp (p.mem_iff.mpr fi) with m2|m2
   ·exact m2.symm
   exact S_ (b1 _ m) (a1 _ m2)
  subst e;rw[Tz ((List.perm_cons _).mp p) a2 b2]
def aN(ks:List ax):List ax:=ks.mergeSort λa b=>!bK b a
def jN(ks:List ax):(aN ks).Perm ks:=List.mergeSort_perm _ _
def Ux(ks:List ax):zI (aN ks):=by
 have:=List.pairwise_mergeSort (le:=λa b=>!bK b a) (λa b c h1 h2=>by
  simp only[Bool.not_eq_true'] at *;exact _r h1 h2) (λa b=>by
  simp only[Bool.or_eq_true,Bool.not_eq_true'];by_cases e:bK b a=true
  ·exact .inr (Us e)
  exact .inl ⇑e) ks
 exact this.imp λh=>by simpa using h
def SQ{ks vq:List ax}(p:vq.Perm ks)(h:zI vq):vq=aN ks:=Tz (p.trans (jN ks).symm) h (Ux ks)
def KN{α:Type}{p:Array Nat}{n:Nat}(g:Good n p)(F:Nat->α):(p.toList.map F).Perm ((List.range n).map F):=by
 have e:p.toList.Perm (List.range n):=by
  have:=Array.perm_iff_toList_perm.mp g;simpa using this
 exact e.map F
def RO{p:Array Nat}{ks:List ax}{f:Nat->Nat->Bool}(hf:∀i j,i<ks.length->j<ks.length->f i j=bK (ks.getD i []) (ks.getD j []))(g:Good ks.length p)(u:Up f p ks.length):zI (p.toList.map λi=>ks.getD i []):=by
 unfold zI;rw[md,List.pairwise_iff_getElem];intro i j hi hj pL;let hs:=g.size;rw[we] at hi hj;have hj':j<ks.length:=by omega
 let q:=u i j (Nat.le_of_lt pL) hj';have hN:0<ks.length:=by omega
 rw[hf _ _ (g.lt hN _) (g.lt hN _)] at q;have e1:at' p i=p.toList[i]:=by simp[at',Array.getD,hi]
 have e2:at' p j=p.toList[j]:=by simp[at',Array.getD,hj]
 rw[e1,e2] at q;exact q
def S6(ks:List ax):Ord λi j=>bK (ks.getD i []) (ks.getD j []):=#[λ_=>S8 _,λh h2=>_r h h2,λh=>Us h]
def KZ{α:Type}(d:α)(l:List α):((List.range l.length).map λi=>l.getD i d)=l:=by
 apply List.ext_getElem? ?_;intro i;simp only[d0];by_cases h:i<l.length
 ·simp[h]
 simp[Nat.le_of_not_lt h]
def S5{ys:ag}{vs:aj}(r:Vals ys vs){p:Array Nat}(g:Good vs.length p):Vals (p.toList.map λi=>ys.getD i .non) (ou p vs):=by
 unfold ou
 have key:∀l:List Nat,(∀i∈l,i<vs.length)->Vals (l.map λi=>ys.getD i .non) (l.map λi=>vs.getD i Value.none):=λl=>by
  induction l with
  |nil=>exact λ_=>.nil
  |cons i l ih=>
   intro h;apply .cons ?_ (ih λj hj=>h j (fj _ hj));let hi:=h i fi;have hy:i<ys.length:=by rw[r.length];exact hi
   let#[u,hu,ru]:=r.get (cE hy);have e1:ys.getD i .non=ys[i]:=by simp[hy]
   have e2:vs.getD i Value.none=u:=by simp[hu]
   show RelV (ys.getD i .non) (vs.getD i Value.none);rw[e1,e2];exact ru
 apply key p.toList λi hi=>?_;have m:i∈(List.range vs.length).toArray:=g.mem_iff.mp ⇑hi;simpa using m
def Yl:∀{ss:ae}{vs:aj},Vals (ss.map V.str) vs->StrsAre vs ss
 |[],_,.nil=>.nil
 |x::r,_,.cons h t=>by
  let#[tk,rfl]:=h;exact .cons x tk (Yl t)
def fA(ss:ae):ae:=(aN (ss.map λx=>[Sum.inr x])).map λk=>match k with
 |[.inr x]=>x
 |_=>⟨#[]⟩
def cy(x:Str):ax:=[Sum.inr x]
def hY_{prog:Ad}{w:Af}{A:Ag}{s:Ab}{ss:ae}{vs:aj}(r:StrsAre vs ss)(h2:2<=vs.length):zH prog w A (λi j=>bK ((ss.map cy).getD i []) ((ss.map cy).getD j [])) vs s:=by
 apply#[oneType',λQ q=>?_,λi j C hi hj hC=>?_]
 ·match vs,h2 with
  |v₁::v₂::t,_=>
   rw[keyKind_strs r];exact bu q
 unfold kas_ask;rw[keyLt'_oneType]
 have look:∀k,k<vs.length->∃x t,vs.getD k Value.none=.str x t/\(ss.map cy).getD k []=[Sum.inr x]:=λk hk=>by
  let e:=r.strs;let#[x,t,q]:=r.all vs[k] (lA hk);apply#[x,t,by simp[hk,q],?_]
  have XM:k<ss.length:=by
   rw[<- e,aq];exact hk
  have e2:ss[k]=x:=by
   have e3:(vs.map strOf)[k]? = ss[k]?:=by rw[e]
   rw[d0,cE hk,cE XM,q] at e3;exact (c7 e3).symm
  simp[XM,e2,cy]
 let#[x,t,e1,e2]:=look i hi;let#[y,u,e3,e4]:=look j hj;rw[e1,e3];dsimp only at hC;rw[e2,e4] at hC;apply oneLt_str ?_;unfold bK at hC;by_cases e:x=y
 ·subst e;rw[aF Z] at hC;have:decide (x.cps.toList<x.cps.toList)=false:=by simp[List.lt_irrefl]
  rw[this];exact hC
 rw[aA (λq=>e (gX q))] at hC;exact hC
def Ay:Key->Bool
 |.inl _=>false
 |.inr _=>true
def id_{prog:Ad}{w:Af}{A:Ag}{E:Aa->Ab->Prop}{s:Ab}{c:Bool}{a b:Key}{p q:Aa}{Q:Bool->Ab->Prop}(ra:RelV (kV a) p)(rb:RelV (kV b) q)(hk:Ay a=Ay b)(h:Q (jV a b) s):
  wpAny (model prog w) A (oneLt' c p q) Q E s:=by
 cases a with
 |inl i=>
  cases b with
  |inr y=>cases hk
  |inl j=>
   let#[t,rfl]:=ra;let#[u,rfl]:=rb;cases c with
   |true=>exact oneLt_int h
   |false=>exact kat_one _ _ (lt_int (show PySem.W.BoolBack Q (.bool _) s from h))
 |inr x=>
  cases b with
  |inl j=>cases hk
  |inr y=>
   let#[t,rfl]:=ra;let#[u,rfl]:=rb;cases c with
   |true=>exact oneLt_str h
   |false=>exact kat_one _ _ (PyProof.Rows.lt_str (show PySem.W.BoolBack Q (.bool _) s from h))
def Yh{a b:Key}(hk:Ay a=Ay b):ja (kV a) (kV b)=decide (a=b):=by
 cases a with
 |inl i=>
  cases b with
  |inr y=>cases hk
  |inl j=>
   show (i == j)=_;by_cases e:i=j
   ·subst e;simp
   ·rw[d7 (λq=>e (Sum.inl.inj q))];simpa using e
 |inr x=>
  cases b with
  |inl j=>cases hk
  |inr y=>
   show (x == y)=_;by_cases e:x=y
   ·subst e;simp
   rw[d7 (λq=>e (gX q))];simpa using e
def YV(a:Key):lQ (kV a)=true:=by cases a<;>rfl
def _t{prog:Ad}{w:Af}{A:Ag}{s:Ab}{Q:Bool->Ab->Prop}:∀{k1 k2:ax}{us vs:aj}(i:Nat),Vals (k1.map kV) us->Vals (k2.map kV) vs->k1.map Ay=k2.map Ay->Q (bK k1 k2) s->KatLex prog w A true false Q (us.zip vs) i s
 |[],[],_,_,i,.nil,.nil,_,h=>h
 |[],_::_,_,_,_,_,_,h,_=>by cases h
 |_::_,[],_,_,_,_,_,h,_=>by cases h
 |a::k1,b::k2,u::us,v::vs,i,.cons ra r1,.cons rb r2,hk,h=>by
  let#[e1,e2]:=List.cons.inj hk;apply kat_cons ?_;apply MB ra rb (YV a) (YV b) prog w _ _ ?_;rw[Yh e1];unfold bK at h;by_cases e:a=b
  ·rw[aF e] at h;rw[cj e];exact kat_yes (_t (i+1) r1 r2 e2 h)
  rw[aA e] at h;rw[d7 e];exact kat_no (id_ ra rb e1 h)
def bj(K:af)(H:Hp):ag->List ax->Prop:=Paired λy k=>∃a,y=V.ref a/\H a\.tup (k.map kV)
def Dh(ks:List ax)(sh:List Bool):Prop:=sh≠[]/\∀k∈ks,k.map Ay=sh
def ZW{X:Cx}{π:List (Addr × Obj)}{σ:St}{H:Hp}{s s':Ab}{A:Ag}{ys:ag}{ks:List ax}{sh:List Bool}{vs:aj}(I:!In H s)(r:Vals ys vs)(t:bj X.K H ys ks)(al:Dh ks sh)(h2:2<=vs.length)
 (kp:∀b o,s.heap.get? b\o->s'.heap.get? b\o):zH X.prog X.w A (λi j=>bK (ks.getD i []) (ks.getD j [])) vs s':=by
 have look:∀k,k<vs.length->∃a its,vs.getD k Value.none=.ref a/\Vals ((ks.getD k []).map kV) its/\IsTup s'.heap a its.toArray/\ks.getD k []∈ks:=λk hk=>by
  have hy:k<ys.length:=by rw[r.length];exact hk
  have AH:k<ks.length:=by rw[<- bG t];exact hy
  let#[u,hu,ru]:=r.get (cE hy)
  have gen:∀{ys:ag} {ks:List ax} (k:Nat) (hy:k<ys.length) (AH:k<ks.length),bj X.K H ys ks->∃a,ys[k]=V.ref a/\H a\.tup (ks[k].map kV):=λ{ys ks} k hy AH t=>by
   induction t generalizing k with
   |nil=>exact absurd hy Z2
   |cons h t ih=>
    cases k with
    |zero=>exact h
    |succ k=>exact ih k ⇑hy ⇑AH
  let#[a,e,sq]:=gen k hy AH t;let#[its,ri,ti,_]:=I.tuple (iw.of sq);rw[e] at ru;cases ru;have e2:ks.getD k []=ks[k]:=by simp[AH]
  apply#[a,its,by simp[hu],by rw[e2];exact ri,ti.keeps kp,?_];rw[e2];exact lA AH
 let#[nZ,Jv]:=al
 obtain⟨c,GO,rfl⟩:∃c GO,sh=c::GO:=by
  cases sh with
  |nil=>exact absurd Z nZ
  |cons c GO=>exact#[c,GO,Z]
 apply#[tuples' true,λQ q=>?_,λi j C hi hj hC=>?_]
 ·have C6:∀l:aj,(∀v∈l,∃(a:Addr) (its:aj) (k:ax),v=.ref a/\Vals (k.map kV) its/\IsTup s'.heap a its.toArray/\k.map Ay=c::GO)->∃fs,KatTups s'.heap l fs/\fs.length=l.length/\∀v∈fs,Looks (model X.prog X.w) s'.heap (typeOf v) (.type (if c then "str" else "int")):=λl=>by
   induction l with
   |nil=>exact λ_=>#[[],.nil,Z,λ_ h=>nomatch h]
   |cons v l ih=>
    intro h;let#[fs,h1,h2,h3]:=ih λv hv=>h v (fj _ hv);let#[a,its,k,rfl,rv,#[o,ho,hc,n,hd],hk]:=h v fi
    match k,its,rv,hk with
    |k0::k,u::its,.cons r0 _,hk=>
     apply#[u::fs,.cons ho hc hd Z2 h1,by simp[h2],λv hv=>?_];rcases cc.mp hv with e|hv
     ·subst e;let e0:=(List.cons.inj hk).1;cases k0 with
      |inl i=>
       let#[t,rfl]:=r0;rw[<- e0];exact .now
      |inr x=>
       let#[t,rfl]:=r0;rw[<- e0];exact .now
     exact h3 v hv
  let#[fs,h1,h3,h4]:=C6 vs λv hv=>by
   let#[k,hk,rfl]:=j3 hv;let#[a,its,e,rv,ti,m]:=look k hk;apply#[a,its,_,?_,rv,ti,Jv _ m];rw[<- e];simp[hk]
  apply kat_kind h1 Z1 h4 (by cases c<;>decide) ?_
  have e:((Value.type (if c then "str" else "int")) != Value.type "tuple")=true:=by cases c<;>decide
  rw[e];exact q
 unfold kas_ask;let#[a,its,e1,r1,#[o,ho,_,n,hd],m1]:=look i hi;let#[b,jx,e2,r2,#[o2,Ct,_,n2,hd2],m2]:=look j hj;rw[e1,e2];apply kat_lt ho hd Ct hd2 ?_;let l1:=r1.length;let l2:=r2.length;let l3:=dH List.length ((Jv _ m1).trans (Jv _ m2).symm);simp only[aq] at l1 l2 l3;rw[show decide (its.toArray.size<jx.toArray.size)=false by simp;omega];exact _t 0 r1 r2 ((Jv _ m1).trans (Jv _ m2).symm) hC
end L2
namespace g0
open PySem PySem.W PyProof.Rows
section
variable{prog:Ad}{w:Af}{A:Ag}{E:Aa->Ab->Prop}{s:Ab}
def Raw(h:Heap)(d:Addr)(es:Array DictEntry)(ep:Nat):Prop:=∃o,h.get? d\o/\o.ExactDict/\o.data=.dict es ep
def Raw.dJ{h h':Heap}{d:Addr}{es:Array DictEntry}{ep:Nat}(x:Raw h d es ep)(k:∀o,h.get? d\o->h'.get? d\o):Raw h' d es ep:=let #[o,e,r]:=x;#[o,k o e,r]
def Raw.ty{d:Addr}{es:Array DictEntry}{ep:Nat}(x:Raw s.heap d es ep):s.TypeIs (.ref d) "dict":=let #[o,e,c,_]:=x;#[o,e,c.1]
def iP_{d:Addr}{es:Array DictEntry}{ep:Nat}{Q:Aa->Ab->Prop}(hd:(d == sysModules)=false)(x:Raw s.heap d es ep)
 (q:Q (.ref s.heap.objs.size) { s with heap:=s.heap.push { cls:=.type "dict_keyiterator",data:=.fields (List.toArray [.ref d,.int 0 0,.int es.size 0,.int ep 0]) } }):
  wpAny (model prog w) A (pyIter (.ref d)) Q E s:=by
 let#[o,ho,hc,yN]:=id x;apply wpAny_pyIter_slot x.ty F.slot_dict_iter (wpAny_call_entry F.slot_dict_iter x.ty F.entry_dict_iter ?_ (F.args_dict_iter_1 _));unfold Builtin.«dict.__iter__» Builtin.Dict.dictSlotNone;apply au (au (wpAny_notOrdered_dict x.ty (show wpAny _ _ (pure (Value.ref d)) _ _ s from bu (show wpAny _ _ (Builtin.Dict.showsAll d >>= _) _ _ s from ?_))));unfold Builtin.Dict.showsAll;rw[aA (by rw[hd];decide)];apply au (bu (au (wpAny_dictEntries ho yN (au (wpAny_dictEpoch ho yN (au (vV (bu #[_,Z,"dict_keyiterator",_,#[_,eL _ Z,Z],F.slot_dict_keyiterator_next.lookup,?_]))))))));exact q
def jy_{it d:Addr}{i ep:Nat}{es:Array DictEntry}{Q:Option Aa->Ab->Prop}(hit:s.heap.IsKeyIter it d i es.size ep)(x:Raw s.heap d es ep)(hi:i<es.size)
 (q:∀h',h'.IsKeyIter it d (i+1) es.size ep->Heap.SameBut it s.heap h'->Q (some es[i].key) { s with heap:=h' }):wpAny (model prog w) A (pyNext (.ref it)) Q E s:=by
 let#[o,ho,hc,hd]:=id hit;let#[od,IE,fY,qF]:=id x;unfold pyNext;apply au (wpAny_attempt (wpAny_callSpecial?_slot (name:=Str.ofString "__next__") hit.typeIs F.slot_dict_keyiterator_next (wpAny_call_entry F.slot_dict_keyiterator_next hit.typeIs F.entry_dict_keyiterator_next ?_ (F.args_dict_keyiterator_next_1 _))));apply au (bu (au (au ?_)))
 first|refine au (wpAny_typeNameOfWhole_keyiter hit.typeIs (bu (au (wpAny_fieldsOf ho hd ?_))))|refine au (wpAny_typeNameOf_keyiter hit.typeIs (bu (au (wpAny_fieldsOf ho hd ?_))))
 simp only[show Builtin.Dict_items.ownsTuple "dict_keyiterator"=false by decide,Ba,if_false];apply (show wpAny _ _ (if (Value.ref d == Value.none)=true then _ else _) _ _ s from ?_);rw[aA (λz=>by cases z)];apply au (bu (au (wpAny_dictEntries IE qF ?_)));rw[aA Z2];apply au (bu (au (wpAny_dictEpoch IE qF ?_)));rw[aA Z2];apply bu ?_;simp only[show ¬((i:Int)<0) from by omega,if_false,A_,Array.getElem?_eq_getElem hi];apply au ?_
 first|refine au (wpAny_typeNameOfWhole_keyiter hit.typeIs (bu (au (wpAny_isOneOf_keyiter hit.typeIs ?_))))|refine au (wpAny_typeNameOf_keyiter hit.typeIs (bu (au (wpAny_isOneOf_keyiter hit.typeIs ?_))))
 apply (show wpAny _ _ (setField (.ref it) 1 (rawInt ((i:Int)+1)) >>= _) _ _ s from au (wpAny_setField ho hd Z2 ?_))
 have turned:(s.heap.update it (Obj.mapFields (·.setIfInBounds 1 (rawInt ((i:Int)+1))))).IsKeyIter it d (i+1) es.size ep:=
  #[_,Du _ ho (Obj.isFreed_of_fields (Obj.data_mapFields hd _)),(Obj.cls_mapFields ..).trans hc,by rw[Obj.data_mapFields hd];simp[rawInt]]
 apply au (pV (au (wpAny_isOneOf_keyiter (s:={ s with heap:=s.heap.update it (Obj.mapFields (·.setIfInBounds 1 (rawInt ((i:Int)+1)))) }) turned.typeIs ?_)));exact (show wpAny _ _ (pure es[i].key) _ _ _ from bu (bu #[_,Z,bu (q _ turned (Heap.SameBut.update ..))]))
def j3_{it d:Addr}{ep:Nat}{es:Array DictEntry}{Q:Option Aa->Ab->Prop}(hh:A.handled=none)(hit:s.heap.IsKeyIter it d es.size es.size ep)(x:Raw s.heap d es ep)
 (q:∀h',Heap.ExtBut it s.heap h'->Q none { s with heap:=h' }):wpAny (model prog w) A (pyNext (.ref it)) Q E s:=by
 let#[o,ho,hc,hd]:=id hit;let#[od,IE,fY,qF]:=id x;unfold pyNext;apply au (wpAny_attempt (wpAny_callSpecial?_slot (name:=Str.ofString "__next__") hit.typeIs F.slot_dict_keyiterator_next (wpAny_call_entry F.slot_dict_keyiterator_next hit.typeIs F.entry_dict_keyiterator_next ?_ (F.args_dict_keyiterator_next_1 _))));apply au (bu (au (au ?_)))
 first|refine au (wpAny_typeNameOfWhole_keyiter hit.typeIs (bu (au (wpAny_fieldsOf ho hd ?_))))|refine au (wpAny_typeNameOf_keyiter hit.typeIs (bu (au (wpAny_fieldsOf ho hd ?_))))
 simp only[show Builtin.Dict_items.ownsTuple "dict_keyiterator"=false by decide,Ba,if_false];apply (show wpAny _ _ (if (Value.ref d == Value.none)=true then _ else _) _ _ s from ?_);rw[aA (λz=>by cases z)];apply au (bu (au (wpAny_dictEntries IE qF ?_)));rw[aA Z2];apply au (bu (au (wpAny_dictEpoch IE qF ?_)));rw[aA Z2];apply bu ?_;simp only[show ¬((es.size:Int)<0) from by omega,if_false,A_,Array.getElem?_eq_none (bD _)];apply au ?_
 first|refine au (wpAny_typeNameOfWhole_keyiter hit.typeIs (bu ?g))|refine au (wpAny_typeNameOf_keyiter hit.typeIs (bu ?g))
 apply (show wpAny _ _ (setField (.ref it) 0 .none >>= _) _ _ s from au (wpAny_setField ho hd Z2 (show wpAny _ _ (newExc (.type "StopIteration") [] >>= _) _ _ _ from au ?_)));simp only[newExc,newTuple];apply au (vV (au (m:=firstArgMember _ _) (wpAny_of_eq (a:=Value.none) (by first|rfl|(simp only[firstArgMember];rfl)) (vV ?_ (by size_fits)))) (by size_fits));simp only[raiseNew];apply au (wpAny_handled ?_);rw[show A.in1.handled=none from hh];apply au (bu (wpAny_throw ?_));exact au (wpAny_isInstance (T:="StopIteration") (b:=true) #[_,eL _ Z,Z] isSubtype_stop (bu (q _ (((Heap.SameBut.update ..).extBut.push _).push _))))
def gT_(hh:A.handled=none)(I d:Addr)(nZ:d≠I)(es:Array DictEntry)(ep:Nat):
  Walks prog w A I [I,d] [I] es.size (λi v=>∃h:i<es.size,v=es[i].key) (λi h=>h.IsKeyIter I d i es.size ep/\Raw h d es ep) where
 sub:=λb hb=>by simp only[oC] at hb;simp[hb]
 frame:=λ_ _ _ st k=>#[st.1.at λo e=>k I Z2 o e,st.2.dJ λo e=>k d Z2 o e]
 item:=λi s Q E hi st hQ=>jy_ st.1 st.2 hi λh' CC rG=>hQ _ h' s.toks #[hi,Z] #[CC,st.2.dJ λo e=>rG.extBut d o nZ e] λb o hb e=>rG.extBut b o (λh=>hb (by simp[h])) e
 done:=λs Q E st hQ=>j3_ hh st.1 st.2 λh' he'=>hQ h' s.toks λb o hb e=>he' b o (λh=>hb (by simp[h])) e
 self:=λ_ _ _ _ st hQ=>wpAny_pyIter_keyiter st.1 hQ
def l7_{d:Addr}{es:Array DictEntry}{ep:Nat}(lo:(d == sysModules)=false):KdlSrc prog w "dict" d d es.size (λi v=>∃h:i<es.size,v=es[i].key) (λh=>Raw h d es ep) where
 type:=λs x=>x.ty
 there:=λh x=>let #[o,e,_]:=x;#[bW e,bW e]
 keep:=λh h' x k=>x.dJ λo e=>k d (.inl Z) o e
 notList:=by decide
 notTuple:=by decide
 hint:=λ_ _ s _ x q=>kdl_hint_dict x.ty q
 iter:=λA s hh x=>#[_,_,λE Q q=>iP_ lo x q,gT_ hh _ d (let #[o,e,_]:=x;dD (bW e)) es ep,#[#[_,eL _ Z,Z,Z],x.dJ λo e=>b_ _ e]]
end
def dm_:typeLookup (.type "list") "keys"=pure none:=by rw[typeLookup_type,builtinLookup_eq_fast];kernel_rfl
def h1_{prog:Ad}{w:Af}{A:Ag}{s:Ab}{a:Addr}{xs:Array Aa}{k:Nat}{tk:Tok}{R:Result->Ab->Prop}(hx:s.heap.get? a\seqObj "list" xs k)(h:raisesAttr (.ref a) "keys" A R s):
  codeAny (model prog w) A (.call (.builtin "list.__getattribute__") #[[.ref a,.str "keys" tk],[]]) R s:=by
 apply codeAny_call_builtin F.slot_list_getattribute.plain am_entry_list_getattribute (F.slot_list_getattribute.check _ _ _ _ _ _ _ _ #[_,hx,Z] (F.args_list_getattribute_2 _ _) ?_);exact meets_getattribute_miss_list a xs k #[] "keys" tk dm_ (by decide) (by size_fits) prog w A R s #[hx,h]
def B1{prog:Ad}{w:Af}{A:Ag}{E:Aa->Ab->Prop}{s:Ab}{a:Addr}{xs:Array Aa}{k:Nat}{Q:Option Aa->Ab->Prop}(hx:s.heap.get? a\seqObj "list" xs k)(hA:A.handled=none)
 (h:∀h' tk,(∀b o,s.heap.get? b\o->h'.get? b\o)->Q none { s with heap:=h',toks:=tk }):wpAny (model prog w) A (getAttr? (.ref a) "keys") Q E s:=by
 let#[hp,g,d,tk,os]:=s;have ty:∀wM,(#[hp,g,d,wM,os]:Ab).TypeIs (.ref a) "list":=λ_=>#[_,hx,Z];let f1:=sub_AttributeError;let f2:=F.slot_list_getattribute.lookup;let f3:=F.slot_list_getattribute.bind (.ref a);let f4:=am_list_getattr_none;unfold getAttr? getAttrBy? getAttrBy
 repeat (any_goals (first|assumption|exact ty _|wp_step))
 apply h1_ hx #[hA,λh' wM e Ex=>?_];let#[t',u',he]:=Ex.there;show wpAny _ _ (getattributeRaised _ _ _ _ _ _ _) _ _ _;unfold getattributeRaised
 repeat (any_goals (first|assumption|wp_step))
 exact h _ _ Ex.keeps
def Ze:entryFor table "dict.update.loop"\Builtin.«dict.update.loop»:=entryFor_of_tree (by kernel_rfl)
def Nu:plainId "dict.update.loop"=true:=by decide +kernel
def WJ(d it:Addr)(i:Int)(tk:Tok):Builtin.«dict.update.loop» #[[.ref d,.ref it,.int i tk,.none],[]]=(do
  let r <- pyNext (.ref it)
  match r with
  |none=>do Builtin.Dict.addKeywords d [];ret .none
  |some item=>do
   holding [item] (do
    let pair <- (Builtin.Dict.pairItems item).tryCatch λe=>do
     if !(<- isInstance e (.type "TypeError")) then throw e
     rule "dict.update.element-no-sequence"
     raiseError "TypeError" s!"cannot convert dictionary update sequence element #{i} to a sequence"
    match pair with
    |[k,v]=>holding [k,v] (dictSet d k v)
    |l=>do
     rule "dict.update.element-length"
     raiseError "ValueError" s!"dictionary update sequence element #{i} has length {l.length}; 2 is required")
   again (.builtin "dict.update.loop" #[[.ref d,.ref it,rawInt (i+1),.none],[]])):=by
 unfold Builtin.«dict.update.loop»;apply dH (λf=>pyNext (.ref it) >>= f) (funext λr=>?_);cases r<;>rfl
section
variable{prog:Ad}{w:Af}{K:Type}[DecidableEq K]{knd:PySem.KeyKind prog w K}{A:Ag}
def So(knd:PySem.KeyKind prog w K)(h:Heap):aj->List (K × Aa)->Prop:=Paired λv p=>∃a key,v=.ref a/\IsTup h a (List.toArray [key,p.2])/\knd.is p.1 key=true
def h_(kvs:List (K × Aa))(ps:List (K × Aa)):List (K × Aa):=ps.foldl (λacc p=>stored acc p.1 p.2) kvs
def ge_(kvs:List (K × Aa))(k:K)(v:Aa):(stored kvs k v).length<=kvs.length+1:=by
 unfold stored;split
 ·simp
 simp
def _i{h:Heap}{b it l:Addr}{i:Nat}{ys:Array Aa}(t:IsTup h b ys)(q:h.IsListIter it l i):b≠it:=λz=>by
 let#[o,ho,hc,_]:=t;let#[o2,Ct,EI,_]:=q;subst z;rw[ho] at Ct;cases Ct;rw[hc] at EI;exact absurd EI (by decide)
def fg_{h:Heap}{b d:Addr}{ys:Array Aa}{kvs:List (K × Aa)}(t:IsTup h b ys)(q:h.DictOf knd d kvs):b≠d:=λz=>by
 let#[o,ho,hc,_]:=t;let#[o2,es,ep,Ct,EI,_]:=q;subst z;rw[ho] at Ct;cases Ct;let Mw:=EI.1;rw[hc] at Mw;exact absurd Mw (by decide)
def ZR{h h':Heap}{d:Addr}{kvs:List (K × Aa)}(q:h.DictOf knd d kvs)(k:∀o,h.get? d\o->h'.get? d\o):h'.DictOf knd d kvs:=by
 let#[o,es,ep,ho,r]:=q;exact#[o,es,ep,k _ ho,r]
def iL_{it l d a:Addr}{i:Nat}{its:aj}{key x:Aa}{k:K}{kvs:List (K × Aa)}{s:Ab}{R:Result->Ab->Prop}{tk:Tok}(CI:d≠it)(hi:its.toArray[i]? = some (.ref a))(ht:IsTup s.heap a (List.toArray [key,x]))(hk:knd.is k key=true)
 (hit:s.heap.IsListIter it l i)(hl:s.heap.IsList l its.toArray)(hd:s.heap.DictOf knd d kvs)(hz:kvs.length<=1000)
 (hR:∀h2,h2.DictOf knd d (stored kvs k x)->(∀b o,b≠d->b≠it->s.heap.get? b\o->h2.get? b\o)->h2.IsListIter it l (i+1)->codeAny (model prog w) A (.builtin "dict.update.loop" #[[.ref d,.ref it,rawInt ((i:Int)+1),.none],[]]) R { s with heap:=h2,toks:=s.toks+1 }):
  codeAny (model prog w) A (.builtin "dict.update.loop" #[[.ref d,.ref it,.int i tk,.none],[]]) R s:=by
 apply codeAny_builtin Ze ?_;rw[Around.under_plainId Nu _,WJ];apply au (wpAny_pyNext_list_item hit hl hi λh1 Q3 QC=>?_);let#[ot,hot,Jt,nt,hdt]:=id ht;have IA:h1.get? a\ot:=QC.extBut _ _ (_i ht hit) hot;apply au (pV (au (wpAny_tryCatch ?_)));unfold Builtin.Dict.pairItems;apply au (wpAny_typeOf (T:="tuple") #[ot,IA,Jt] ?_);rw[aF (by decide)];unfold seqItems?;apply au (au (wpAny_load IA ?_));rw[hdt];apply bu (bu ?_);apply (show wpAny _ _ (holding [key,x] (dictSet d key x)) _ _ _ from pV (wpAny_dictSet_pairs hk (ZR hd λo q=>QC.extBut _ _ CI q) (λh2 hd2 Co=>?_) (by have:=cX;omega)));exact bu #[plainId_quiet Nu _,hR h2 hd2 (λb o h3 h4 q=>Co.extBut _ _ h3 (QC.extBut _ _ h4 q)) (Q3.extBut Co.extBut (Ne.symm CI))]
def kD_{it l d:Addr}{i:Nat}{its:aj}{kvs:List (K × Aa)}{s:Ab}{R:Result->Ab->Prop}{tk:Tok}(CI:d≠it)(hh:A.handled=none)(hi:its.toArray[i]? = none)
 (hit:s.heap.IsListIter it l i)(hl:s.heap.IsList l its.toArray)(hd:s.heap.DictOf knd d kvs)
 (hR:∀h',h'.DictOf knd d kvs->(∀b o,b≠it->s.heap.get? b\o->h'.get? b\o)->R (.ok (.ret .none)) { s with heap:=h' }):
  codeAny (model prog w) A (.builtin "dict.update.loop" #[[.ref d,.ref it,.int i tk,.none],[]]) R s:=by
 apply codeAny_builtin Ze ?_;rw[Around.under_plainId Nu _,WJ];apply au (wpAny_pyNext_list_end hh hit hl hi λh' he=>?_);exact au (m:=Builtin.Dict.addKeywords d []) (bu (bu (hR h' (ZR hd λo q=>he _ _ CI q) λb o hb q=>he b o hb q)))
def ls_{it l d:Addr}(hil:l≠it)(CI:d≠it)(Mt:d≠l)(hh:A.handled=none){its:aj}(rest:aj):∀(ps:List (K × Aa))(i:Nat)(kvs:List (K × Aa))(s:Ab)(R:Result->Ab->Prop)(tk:Tok),its.drop i=rest->So knd s.heap rest ps->
  s.heap.IsListIter it l i->s.heap.IsList l its.toArray->s.heap.DictOf knd d kvs->kvs.length+ps.length<=1000->
  (∀h' wM,h'.DictOf knd d (h_ kvs ps)->(∀b o,b≠d->b≠it->s.heap.get? b\o->h'.get? b\o)->R (.ok (.ret .none)) { s with heap:=h',toks:=wM })->
  codeAny (model prog w) A (.builtin "dict.update.loop" #[[.ref d,.ref it,.int i tk,.none],[]]) R s:=by
 induction rest with
 |nil=>
  intro ps i kvs s R tk e hp hit hl hd hz hR;cases hp
  have hi:its.toArray[i]? = none:=by
   have:=dH List.length e;simp only[zB,vZ] at this;simp;omega
  exact kD_ CI hh hi hit hl hd λh' pN kp=>hR h' s.toks pN λb o _ hb q=>kp b o hb q
 |cons v rest ih=>
  intro ps i kvs s R tk e hp hit hl hd hz hR;cases hp with
  |@cons _ p _ ps h0 hr=>
  let#[a,key,hv,ht,hk]:=h0;let#[k,x]:=p;subst hv
  have hi:its.toArray[i]? = some (.ref a):=by
   have q:(its.drop i)[0]? = some (.ref a):=by rw[e];rfl
   rw[List.getElem?_drop] at q;simpa using q
  have e':its.drop (i+1)=rest:=by
   rw[<- List.drop_drop,e];rfl
  simp only[jf] at hz;apply iL_ CI hi ht hk hit hl hd Z1 λh2 hd2 kp yL=>?_;have c1:((i:Int)+1)=((i+1:Nat):Int):=by omega
  rw[c1];apply ih ps (i+1) (stored kvs k x) _ R 0 e' (L2.Paired.bJ hr λv p ⟨b,ky,e1,t1,k1⟩=>#[b,ky,e1,?_,k1]) yL (hl.at λo q=>kp _ _ (Ne.symm Mt) hil q) hd2 (by have:=ge_ kvs k x;omega) λh' wM pN kp'=>hR h' wM pN λb o h3 h4 q=>kp' b o h3 h4 (kp b o h3 h4 q);let#[o,ho,r]:=id t1;exact#[o,kp _ _ (fg_ t1 hd) (_i t1 hit) ho,r]
def eP_{E:Aa->Ab->Prop}{s:Ab}{l:Addr}{its:aj}{n:Nat}{ps:List (K × Aa)}{Q:Aa->Ab->Prop}(hh:A.handled=none)(ho:s.heap.get? l\seqObj "list" its.toArray n)(hp:So knd s.heap its ps)(hz:ps.length<=1000)
 (h:∀h' wM,h'.DictOf knd s.heap.objs.size (h_ [] ps)->(∀b o,s.heap.get? b\o->h'.get? b\o)->Q (.ref s.heap.objs.size) { s with heap:=h',toks:=wM }):
  wpAny (model prog w) A (call (.type "dict") [.ref l]) Q E s:=by
 apply callType_codes (Q₁:=λobj aV=>obj=.ref s.heap.objs.size/\aV={ s with heap:=s.heap.push { cls:=.type "dict",data:=.dict #[] } }) F.kt_called_dict (F.kt_typeCall_dict_1 _) F.entry_dict_init (kt_code_dict_new _ #[Z,Z]) ?_;rintro obj aV ⟨rfl,rfl⟩;have vC:(s.heap.push { cls:=.type "dict",data:=.dict #[] }).DictOf knd s.heap.objs.size []:=Heap.DictOf.new s.heap;have ig:(s.heap.push { cls:=.type "dict",data:=.dict #[] }).get? l\seqObj "list" its.toArray n:=b_ _ ho;apply#[vC.typeIs,F.args_dict_init_2 _ _,?_];unfold Builtin.«dict.__init__» Builtin.Dict.selfAndRest;apply au (au (wpAny_notOrdered_dict vC.typeIs ?_));apply (show wpAny _ _ (pure (s.heap.objs.size,[Value.ref l])) _ _ _ from bu ?_);apply (show wpAny _ _ (Builtin.Dict.updateFrom "dict.__init__" s.heap.objs.size (.ref l) [] .none) _ _ _ from ?_);unfold Builtin.Dict.updateFrom;apply au (wpAny_typeOf (T:="list") #[_,ig,Z] ?_);rw[aF (by decide)];apply au (B1 ig hh λh2 tk2 k2=>?_);simp only[Option.isNone_none,if_true];have jy:h2.get? l\seqObj "list" its.toArray n:=k2 _ _ ig;apply au (wpAny_rule (au (wpAny_pyIter_list #[_,jy,Z,_,Z] ?_)));apply bu #[plainId_quiet Nu _,?_];have all:∀{b o},s.heap.get? b\o->(h2.push { cls:=.type "list_iterator",data:=.fields (List.toArray [.ref l,.int 0 0]) }).get? b\o:=λq=>b_ _ (k2 _ _ (b_ _ q))
 have hd2:h2.DictOf knd s.heap.objs.size []:=by
  let#[o,es,ep,ho,r]:=vC;exact#[o,es,ep,k2 _ _ ho,r]
 have OD:s.heap.objs.size<h2.objs.size:=by
  let#[o,es,ep,ho,r]:=hd2;exact bW ho
 have lz:l<s.heap.objs.size:=bW ho
 apply ls_ (A:=A.in1) (knd:=knd) (its:=its) (it:=h2.objs.size) (l:=l) (d:=s.heap.objs.size) (dD (Nat.lt_trans lz OD)) (dD OD) (xx lz) hh its ps 0 [] _ _ 0 Z (L2.Paired.bJ hp λv p ⟨b,ky,e1,t1,k1⟩=>#[b,ky,e1,t1.keeps λb o q=>all q,k1])
  #[_,eL _ Z,Z,Z] #[_,b_ _ jy,Z,_,Z] (by
   let#[o,es,ep,ho,r]:=hd2;exact#[o,es,ep,b_ _ ho,r]) ⇑hz λh' wM pN kp=>#[Z,h h' wM pN λb o q=>?_]
 have bl:b<s.heap.objs.size:=bW q;exact kp b o (dD bl) (dD (Nat.lt_trans bl OD)) (all q)
end
end g0
def zl{n:Nat}(h:decide (n<=16777216)=true:=by rfl):n<=PySem.sizeLine:=by
 rw[PySem.sizeLine_eq];exact zd h
namespace L2
open PySem PySem.Spec PyProof.Rows PySem.W oH g0
def bj.same{K:af}{H H':Hp}{ys:ag}{ks:List ax}(t:bj K H ys ks)(e:aa H H'):bj K H' ys ks:=Paired.bJ t λy k ⟨a,z,q⟩=>#[a,z,e _ _ q]
def aa.new{H:Hp}{l:Addr}{o:HO}(h:H l=none):aa H (upd H l o):=λb u e=>by rw[aD (bB e h)];exact e
def bS{H:Hp}{a:PySem.Addr}{X:HO}(n:H a=none):aa H (upd H a X) ∧ upd H a X a\X:=#[aa.new n,aE]
def us(H:Hp)(a:PySem.Addr)(X:HO):upd H a X a\X:=aE
def lM(H:Hp)(a:PySem.Addr){X:HO}:(∀c o,H c\o → c≠a → upd H a X c\o) ∧ upd H a X a\X:=#[λc o e n=>by rw[aD n];exact e,aE]
section
variable{X:Cx}{π:List (Addr × Obj)}{σ:St}{H H':Hp}{s:Ab}{h':Heap}{t':Nat}
def Inv.many(I:!In H s)(k:∀b o,s.heap.get? b\o->h'.get? b\o)(hold:aa H H')(vC:∀b,H b=none->b<s.heap.objs.size->H' b=none)
 (hob:∀b o,H' b\o->H b=none->∃xs its,o=.tup xs/\xs.length<=sizeLine/\Vals xs its/\IsTup h' b its.toArray/\∃o,h'.get? b\o/\o.dict=none):!In H' { s with heap:=h',toks:=t' }:=by
 apply I.un #[λb o q _ _ _=>k b o q,λb o q _ _ _=>#[o.slots,k b o q],λb o q n _=>vC b n (bW q),λb o q _=>#[o,k b o q],λb xs q=>hold b _ q,λb o u q=>hold b _ q,λb ps q=>#[#[],by rw[Array.append_empty];exact hold b _ q]] λb o q=>?_;cases e:H b with
 |some u=>
  let e2:=hold b u e;rw[q] at e2;cases e2;exact (I.ay b o e).dJ (λc v _ z=>k c v z) (λc z=>hold c _ z) λc xs z=>hold c _ z
 |none=>
  let#[xs,its,rfl,z,r,t]:=hob b o q e;exact#[z,its,r,t]
end
section
variable{X:Cx}{π:List (Addr × Obj)}{σ:St}{H:Hp}{s:Ab}{A:Ag}{E:Aa->Ab->Prop}
def YN{p:Addr}{ys:ag}{R:aj->Ab->Prop}(I:!In H s)(h:dU X.K H p ys)(hz:ys.length<=100000)(q:∀vs s1,!In H s1->Vals ys vs->R vs s1):wpAny (model X.prog X.w) A (collect (.ref p)) R E s:=by
 let#[its,r,pl,_]:=I.list h;let hl:=r.length;apply collect_list pl.isList (q its _ ?_ r) (by have:=cX;omega);apply I.kept (t':=s.toks) λb u e=>?_;have lt:b<s.heap.objs.size:=bW e;rw[Heap.get?_update_ne _ _ _ _ (dD lt)];exact b_ _ e
def NU{P:Nat->Aa->Prop}{acc:Array Aa}{ys:ag}(h:ItemsOf P acc ys.length)(hp:∀(j:Nat) v,P j v->∀y,ys[j]? = some y->RelV y v):Vals ys acc.toList:=by
 have gen:∀(ys:ag) (vs:aj),ys.length=vs.length->(∀(j:Nat) y v,ys[j]? = some y->vs[j]? = some v->RelV y v)->Vals ys vs:=λys=>by
  induction ys with
  |nil=>
   intro vs hl _;cases vs with
   |nil=>exact .nil
   |cons _ _=>cases hl
  |cons y ys ih=>
   intro vs hl h;cases vs with
   |nil=>cases hl
   |cons v vs=>exact .cons (h 0 y v Z Z) (ih vs ⇑hl λj y v a b=>h (j+1) y v ⇑a ⇑b)
 apply gen ys acc.toList (by rw[we];exact h.1.symm) λj y v a b=>hp j v (h.2 j v ?_) y a;rw[<- Array.getElem?_toList];exact b
def W9{d:Addr}{kvs:List (Key × V)}(I:!In H s)(h:Rd H d (.dK kvs)):∃(P:Nat->Aa->Prop)(OK:Heap->Prop),KdlSrc X.prog X.w "dict" d d (kvs.map λkv=>kV kv.1).length P OK/\OK s.heap/\∀(j:Nat) v,P j v->∀y,(kvs.map λkv=>kV kv.1)[j]? = some y->RelV y v:=by
 let#[z,hd,vs,rel,dd]:=oo I.ay h;let#[ep,dat]:=dd.dictAt;let hl:=rel.length;apply#[λi v=>∃k x,vs[i]? = some (k,x)/\(eD X.prog X.w).is k v=true,λh=>h.DictAt (eD X.prog X.w) d vs ep,(by rw[aq,hl];exact kdl_dict (knd:=eD X.prog X.w) (kvs:=vs) (ep:=ep) hd),dat,λj v ⟨k,x,e,hk⟩ y hy=>?_];rw[d0] at hy;have ek:kvs.map (·.1)=vs.map (·.1):=rel.keys;have e2:(kvs.map (·.1))[j]? = (vs.map (·.1))[j]?:=by rw[ek]
 rw[d0,d0,e] at e2;cases e3:kvs[j]? with
 |none=>rw[e3] at e2;cases e2
 |some kv=>
  rw[e3] at e2 hy;have e4:kv.1=k:=c7 e2;have e5:kV kv.1=y:=c7 hy;rw[<- e5,e4];have hk:yX k v=true:=hk;rcases sI hk with⟨i,t,rfl,rfl⟩|⟨x,t,rfl,rfl⟩
  ·exact#[t,Z]
  exact#[t,Z]
def WM{d:Addr}{kvs:List (Key × V)}{R:aj->Ab->Prop}(hh:A.handled=none)(I:!In H s)(h:Rd H d (.dK kvs))(q:∀vs s1,!In H s1->Vals (kvs.map λkv=>kV kv.1) vs->R vs s1):wpAny (model X.prog X.w) A (collect (.ref d)) R E s:=by
 let#[P,OK,S,ok,hp]:=W9 I h;apply kdu_collect S hh ok ?_ λh' tk acc k a=>q _ _ (I.kept k) (NU a hp);rw[aq];exact (oo I.ay h).1
def lS_{d:Addr}{kvs:List (ax × V)}(I:!In H s)(h:Rd H d (.dT kvs)):∃(ys:ag)(P:Nat->Aa->Prop)(OK:Heap->Prop),bj X.K H ys (kvs.map (·.1))/\ys.length<=sizeLine/\KdlSrc X.prog X.w "dict" d d ys.length P OK/\OK s.heap/\∀(j:Nat) v,P j v->∀y,ys[j]? = some y->RelV y v:=by
 let#[z,hd,xs,rel,o,es,ep,ho,hc,yN,CF,nd]:=h.ok I.ay
 have l1:es.size=xs.length:=by
  have:=dH List.length CF;simpa using this
 let l2:=bG rel;apply#[xs.map λx=>V.ref x.2.1,λi v=>∃h:i<es.size,v=es[i].key,λh=>Raw h d es ep,?_,by rw[aq];omega,(by rw[aq,<- l1];exact l7_ (es:=es) (ep:=ep) hd),#[o,ho,hc,yN],λj v ⟨hj,e⟩ y hy=>?_]
 ·have gen:∀{kvs:List (ax × V)} {xs:List (ax × Addr × Aa)},KT H kvs xs->bj X.K H (xs.map λx=>V.ref x.2.1) (kvs.map (·.1)):=λ{kvs xs} r=>by
   induction r with
   |nil=>exact .nil
   |cons h _ ih=>exact .cons #[_,Z,h.2.1] ih
  exact gen rel
 rw[d0] at hy;have hx:j<xs.length:=by omega
 rw[cE hx] at hy;have e1:V.ref xs[j].2.1=y:=c7 hy
 have e2:es[j]=entryOfKey (tupleKind (eD X.prog X.w)) xs[j]:=by
  have e3:es.toList[j]? = (xs.map (entryOfKey (tupleKind (eD X.prog X.w))))[j]?:=by rw[CF]
  rw[d0,cE hx,Array.getElem?_toList,Array.getElem?_eq_getElem hj] at e3;exact c7 e3
 rw[<- e1,e,e2];rfl
def lI_{d:Addr}{kvs:List (ax × V)}{R:aj->Ab->Prop}(hh:A.handled=none)(I:!In H s)(h:Rd H d (.dT kvs))(q:∀ys vs s1,!In H s1->Vals ys vs->bj X.K H ys (kvs.map (·.1))->R vs s1):wpAny (model X.prog X.w) A (collect (.ref d)) R E s:=by
 let#[ys,P,OK,t,z,S,ok,hp]:=lS_ I h;exact kdu_collect S hh ok z λh' tk acc k a=>q ys _ _ (I.kept k) (NU a hp) t
def zj(v d:Addr):HO:=.ext λh=>h.IsItemsView v d
def qX(v d:Addr):HO:=.ext λh=>h.IsValuesView v d
def qY(K:af)(H:Hp):ag->List (Key × V)->Prop:=Paired λy p=>∃a,y=V.ref a/\H a\.tup [kV p.1,p.2]
def hM_{v d:Addr}{kvs:List (Key × V)}{R:aj->Ab->Prop}(hh:A.handled=none)(I:!In H s)(hv:H v\zj v d)(h:Rd H d (.dK kvs))(q:∀H1 ys vs s1,!In H1 s1->aa H H1->Vals ys vs->qY X.K H1 ys kvs->R vs s1):
  wpAny (model X.prog X.w) A (collect (.ref v)) R E s:=by
 let#[z,hd,vs,rel,dd]:=oo I.ay h;let#[ep,dat]:=dd.dictAt;let#[iv,_,_]:=I.ay v _ hv;let hl:=rel.length;apply kdx_collect (knd:=eD X.prog X.w) (kvs:=vs) (ep:=ep) hh iv dat Z1 λh' tk as k la G=>?_;have up:∀b,b∈as->s.heap.objs.size<b:=G.above
 have at1:∀(j:Nat) b p,as[j]? = some b->kvs[j]? = some p->∃its,Vals [kV p.1,p.2] its/\IsTup h' b its.toArray/\∃o,h'.get? b\o/\o.dict=none:=λj b p hj hp=>by
  let#[key,kk,x,e1,e2,e3]:=G.pairs j b hj
  have gen:∀{kvs:List (Key × V)} {vs:List (Key × Aa)},KV kvs vs->∀(j:Nat),vs[j]? = some (kk,x)->kvs[j]? = some p->p.1=kk/\RelV p.2 x:=λ{kvs vs} r=>by
   induction r with
   |nil=>intro j e;simp at e
   |@cons p' q _ _ h _ ih=>
    intro j e e';cases j with
    |zero=>
     have e:q=(kk,x):=⇑e
     have e':p'=p:=⇑e'
     subst e';rw[e] at h;exact h
    |succ j=>exact ih j ⇑e ⇑e'
  let#[g1,g2]:=gen rel j e1 hp;apply#[[key,x],.cons ?_ (.cons g2 .nil),#[_,e3,Z,_,Z],_,e3,Z];rw[g1];have e2:yX kk key=true:=e2;rcases sI e2 with⟨i,t,rfl,rfl⟩|⟨x,t,rfl,rfl⟩
  ·exact#[t,Z]
  exact#[t,Z]
 have look:∀{as:ai} {kvs:List (Key × V)},as.Pairwise (· < ·)->∀(j:Nat) b p,as[j]? = some b->kvs[j]? = some p->(as.zip kvs).lookup b\p:=λ{as}=>by
  induction as with
  |nil=>intro kvs _ j b p e;simp at e
  |cons a as ih=>
   intro kvs pw j b p e e';cases kvs with
   |nil=>simp at e'
   |cons q kvs=>
    let#[p1,p2]:=List.pairwise_cons.mp pw;show ((a,q)::as.zip kvs).lookup b\p;cases j with
    |zero=>
     have e:a=b:=⇑e
     have e':q=p:=⇑e'
     subst e;subst e';rw[List.lookup_cons_self]
    |succ j=>
     have e:as[j]? = some b:=⇑e
     have e':kvs[j]? = some p:=⇑e'
     let lt:=p1 b (dz e);rw[wb,show (b == a)=false by simp only[beq_eq_false_iff_ne];exact xx lt];exact ih p2 j b p e e'
 have lk:as.length=kvs.length:=by omega
 let H1:Hp:=λb=>if b∈as then ((as.zip kvs).lookup b).map λp=>HO.tup [kV p.1,p.2] else H b
 have Jx:∀(j:Nat) b p,as[j]? = some b->kvs[j]? = some p->H1 b\.tup [kV p.1,p.2]:=λj b p e e'=>by
  show (if b∈as then _ else _)=_;rw[aF (dz e),look G.rise j b p e e'];rfl
 have pQ:∀b,b∉as->H1 b=H b:=λb hb=>aA hb;have old:∀b,b<s.heap.objs.size->b∉as:=λb hb m=>absurd (up b m) Z1;apply q H1 (as.map V.ref) _ _ (I.many (t':=tk) k (λb o e=>by rw[pQ b (old b (I.ay.lt e))];exact e) (λb e hb=>by rw[pQ b (old b hb)];exact e) λb o e e0=>?_) (λb o e=>by rw[pQ b (old b (I.ay.lt e))];exact e) ?_ ?_
 ·by_cases m:b∈as
  ·let#[j,hj]:=List.mem_iff_getElem?.mp m
   have jl:j<kvs.length:=by
    have:=(cK.mp hj).1;omega
   let e':=Jx j b kvs[j] hj (cE jl);rw[e] at e';cases e';let#[its,r,t]:=at1 j b _ hj (cE jl);exact#[_,its,Z,zl,r,t]
  rw[pQ b m,e0] at e;cases e
 ·have gen:∀as:ai,Vals (as.map V.ref) (as.map Value.ref):=λas=>by
   induction as with
   |nil=>exact .nil
   |cons a as ih=>exact .cons Z ih
  exact gen as
 have gen:∀(FI:ai) (dW:List (Key × V)),FI.length=dW.length->(∀(j:Nat) b p,FI[j]? = some b->dW[j]? = some p->H1 b\.tup [kV p.1,p.2])->qY X.K H1 (FI.map V.ref) dW:=λFI=>by
  induction FI with
  |nil=>
   intro dW hl _;cases dW with
   |nil=>exact .nil
   |cons _ _=>cases hl
  |cons a FI ih=>
   intro dW hl h;cases dW with
   |nil=>cases hl
   |cons p dW=>exact .cons #[a,Z,h 0 a p Z Z] (ih dW ⇑hl λj b p e e'=>h (j+1) b p ⇑e ⇑e')
 exact gen as kvs lk Jx
end
def Yu{a b:ae}(h:a.map cy=b.map cy):a=b:=by
 induction a generalizing b with
 |nil=>
  cases b with
  |nil=>rfl
  |cons _ _=>cases h
 |cons x a ih=>
  cases b with
  |nil=>cases h
  |cons y b=>
   let#[h1,h2]:=List.cons.inj h;have h1:[(Sum.inr x:Key)]=[Sum.inr y]:=h1;cases h1;rw[ih h2]
def TH(ss:ae):(fA ss).map cy=aN (ss.map cy):=by
 have all:∀k∈aN (ss.map cy),∃x,k=cy x:=λk hk=>by
  let#[x,_,e]:=bo.mp ((jN _).mem_iff.mp hk);exact#[x,e.symm]
 have gen:∀l:List ax,(∀k∈l,∃x,k=cy x)->(l.map λk=>match k with | [.inr x]=>x|_=>(⟨#[]⟩:Str)).map cy=l:=λl=>by
  induction l with
  |nil=>exact λ_=>rfl
  |cons k l ih=>
   intro h;let#[x,rfl]:=h k fi;rw[fK,fK,ih λk hk=>h k (fj _ hk)];rfl
 exact gen _ all
def lY(ss:ae):(fA ss).Perm ss:=by
 have p:((fA ss).map cy).Perm (ss.map cy):=by rw[TH];exact jN _
 have back:∀l:ae,(l.map cy).map (λk=>match k with | [.inr x]=>x|_=>(⟨#[]⟩:Str))=l:=λl=>by
  rw[bU]
  induction l with
  |nil=>rfl
  |cons x l ih=>rw[fK,ih];rfl
 let q:=p.map (λk=>match k with | [.inr x]=>x|_=>(⟨#[]⟩:Str));rwa [back,back] at q
section
variable{X:Cx}{π:List (Addr × Obj)}{σ:St}{H:Hp}{s:Ab}
def _H{u:Aa}{ss:ae}{Q:VK}(dC:ss.length<64)(og:wpAny (model X.prog X.w) X.A.in1 (collect u) (λvs s1=>∃H1,!In H1 s1/\Vals (ss.map V.str) vs/\∀l,H1 l=none->Q (.ref l) (upd H1 l (.lst ((fA ss).map V.str)))) X.xe s):
  wpAny (model X.prog X.w) X.A (call (.builtin "sorted") [u]) (EP X π σ Q) X.xe s:=by
 apply Z9 (S6 (ss.map cy)) (aU og λvs s1 ⟨H1,I1,r,q⟩=>?_);have hl:vs.length=ss.length:=by rw[<- r.length,aq]
 apply#[by omega,λh2 h' _=>hY_ (Yl r) h2,λp h' e g up hD kp=>?_];have g':Good (ss.map cy).length p:=by rw[aq,<- hl];exact g
 let asc:=RO (ks:=ss.map cy) (λi j _ _=>rfl) g' (by rw[aq,<- hl];exact up)
 have perm:(p.toList.map λi=>(ss.map cy).getD i []).Perm (ss.map cy):=by
  have:=KN g' λi=>(ss.map cy).getD i [];rwa [KZ] at this
 let es:=SQ perm asc
 have inr:∀i∈p.toList,i<ss.length:=λi hi=>by
  have m:i∈(List.range vs.length).toArray:=g.mem_iff.mp ⇑hi;rw[hl] at m;simpa using m
 have e1:(p.toList.map λi=>ss.getD i ⟨#[]⟩)=fA ss:=by
  apply Yu ?_;rw[TH,<- es,bU];apply p4 λi hi=>?_;have:=inr i hi;simp[this]
 let rv:=S5 r g
 have e2:(p.toList.map λi=>(ss.map V.str).getD i .non)=(fA ss).map V.str:=by
  rw[<- e1,bU];apply p4 λi hi=>?_;have:=inr i hi;simp[this]
 rw[e2] at rv;apply#[.ref s1.heap.objs.size,_,I1.laid (t':=s1.toks) kp (bD _) (show eX X.prog X.w _ h' _ (.lst ((fA ss).map V.str)) from #[?_,ou p vs,e,rv,hD]),Z,q _ (I1.ay.fresh (bD _))];rw[aq,(lY ss).length_eq];have:=cX;omega
def jb_{K:af}{H:Hp}{ys:ag}{ks:List ax}(t:bj K H ys ks):∀l:List Nat,(∀i∈l,i<ys.length)->bj K H (l.map λi=>ys.getD i .non) (l.map λi=>ks.getD i []):=λl=>by
 induction l with
 |nil=>exact λ_=>.nil
 |cons i l ih=>
  intro h;apply .cons ?_ (ih λj hj=>h j (fj _ hj));let hi:=h i fi
  have gen:∀{ys:ag} {ks:List ax} (i:Nat),i<ys.length->bj K H ys ks->∃a,ys.getD i .non=V.ref a/\H a\.tup ((ks.getD i []).map kV):=λ{ys ks} i hy t=>by
   induction t generalizing i with
   |nil=>exact absurd hy Z2
   |cons h t ih=>
    cases i with
    |zero=>exact h
    |succ i=>exact ih i ⇑hy
  exact gen i hi t
def _L{u:Aa}{ks:List ax}{sh:List Bool}{Q:VK}(dC:ks.length<64)(al:Dh ks sh)
 (og:wpAny (model X.prog X.w) X.A.in1 (collect u) (λvs s1=>∃H1 ys,!In H1 s1/\Vals ys vs/\bj X.K H1 ys ks/\∀l zs,H1 l=none->bj X.K H1 zs (aN ks)->zs.Perm ys->Q (.ref l) (upd H1 l (.lst zs))) X.xe s):
  wpAny (model X.prog X.w) X.A (call (.builtin "sorted") [u]) (EP X π σ Q) X.xe s:=by
 apply Z9 (S6 ks) (aU og λvs s1 ⟨H1,ys,I1,r,t,q⟩=>?_);let l1:=r.length;let l2:=bG t;have hl:vs.length=ks.length:=by omega
 apply#[by omega,λh2 h' k=>ZW I1 r t al h2 k,λp h' e g up hD kp=>?_];have g':Good ks.length p:=by rw[<- hl];exact g
 let asc:=RO (ks:=ks) (λi j _ _=>rfl) g' (by rw[<- hl];exact up)
 have perm:(p.toList.map λi=>ks.getD i []).Perm ks:=by
  have:=KN g' λi=>ks.getD i [];rwa [KZ] at this
 let es:=SQ perm asc
 have inr:∀i∈p.toList,i<ys.length:=λi hi=>by
  have m:i∈(List.range vs.length).toArray:=g.mem_iff.mp ⇑hi;rw[<- l1] at m;simpa using m
 let tz:=jb_ t p.toList inr;rw[es] at tz;let rv:=S5 r g
 have pz:(p.toList.map λi=>ys.getD i .non).Perm ys:=by
  have:=KN (n:=ys.length) (by rw[l1];exact g) λi=>ys.getD i .non;rwa [KZ] at this
 apply#[.ref s1.heap.objs.size,_,I1.laid (t':=s1.toks) kp (bD _) (show eX X.prog X.w _ h' _ (.lst (p.toList.map λi=>ys.getD i .non)) from #[?_,ou p vs,e,rv,hD]),Z,q _ _ (I1.ay.fresh (bD _)) tz pz];rw[pz.length_eq];have:=cX;omega
end
section
variable{X:Cx}
inductive uS(K:af)(xs:ag)(H:Hp)(Q:VK):Prop
 |mk:∀p ss,xs=[.ref p]->dU K H p (ss.map V.str)->ss.length<64->(∀l,H l=none->Q (.ref l) (upd H l (.lst ((fA ss).map V.str))))->uS K xs H Q
def go_:gF X (.builtin "sorted") (uS X.K):=by
 intro π s σ H xs us Q I r h;let#[p,ss,rfl,hp,dC,q]:=h;let#[u,rfl,ru]:=vals1 r;cases ru;exact _H dC (YN I hp (by rw[aq];omega) λvs s1 I1 r1=>⟨H,I1,r1,q⟩)
inductive o7(K:af)(xs:ag)(H:Hp)(Q:VK):Prop
 |mk:∀d kvs sh,xs=[.ref d]->H d\.dT kvs->Dh (kvs.map (·.1)) sh->kvs.length<64->(∀l zs,H l=none->bj K H zs (aN (kvs.map (·.1)))->Q (.ref l) (upd H l (.lst zs)))->o7 K xs H Q
def eS_(hc:X.calm=true):gF X (.builtin "sorted") (o7 X.K):=by
 intro π s σ H xs us Q I r h;let#[d,kvs,sh,rfl,hd,al,dC,q]:=h;let#[u,rfl,ru]:=vals1 r;cases ru;exact _L (by rw[aq];exact dC) al (lI_ (I.ok.hd hc) I (.inl hd) λys vs s1 I1 r1 t=>⟨H,ys,I1,r1,t,λl zs n t' _=>q l zs n t'⟩)
inductive o8(xs:ag)(H:Hp)(Q:VK):Prop
 |mk:∀d kvs ss,xs=[.ref d]->H d\.dK kvs->kvs.map (·.1)=ss.map Sum.inr->ss.length<64->(∀l,H l=none->Q (.ref l) (upd H l (.lst ((fA ss).map V.str))))->o8 xs H Q
def fm_(hc:X.calm=true):gF X (.builtin "sorted") o8:=by
 intro π s σ H xs us Q I r h;let#[d,kvs,ss,rfl,hd,ek,dC,q]:=h;let#[u,rfl,ru]:=vals1 r;cases ru;apply _H dC (WM (I.ok.hd hc) I (.inl hd) λvs s1 I1 r1=>⟨H,I1,?_,q⟩)
 have e:(kvs.map λkv=>kV kv.1)=ss.map V.str:=by
  rw[show (kvs.map λkv=>kV kv.1)=(kvs.map (·.1)).map kV by rw[bU];rfl,ek,bU];rfl
 rwa [e] at r1
inductive uT(K:af)(xs:ag)(H:Hp)(Q:VK):Prop
 |mk:∀(v d:Addr) (kvs:List (Key × V)) (ks:List (Key × Key)) (sh:List Bool),xs=[.ref v]->H v\zj v d->H d\.dK kvs->kvs=ks.map (λk:Key × Key=>(k.1,kV k.2))->Dh (ks.map λk=>[k.1,k.2]) sh->ks.length<64->(∀l H1 zs,aa H H1->H1 l=none->bj K H1 zs (aN (ks.map λk=>[k.1,k.2]))->Q (.ref l) (upd H1 l (.lst zs)))->uT K xs H Q
def _o(hc:X.calm=true):gF X (.builtin "sorted") (uT X.K):=by
 intro π s σ H xs us Q I r h;let#[v,d,kvs,ks,sh,rfl,hv,hd,ek,al,dC,q]:=h;let#[u,rfl,ru]:=vals1 r;cases ru;apply _L (by rw[aq];exact dC) al (hM_ (I.ok.hd hc) I hv (.inl hd) λH1 ys vs s1 I1 sm r1 t=>⟨H1,ys,I1,r1,?_,λl zs n t' _=>q l H1 zs sm n t'⟩);subst ek
 have gen:∀(ks:List (Key × Key)) (ys:ag),qY X.K H1 ys (ks.map (λk:Key × Key=>(k.1,kV k.2)))->bj X.K H1 ys (ks.map λk=>[k.1,k.2]):=λks=>by
  induction ks with
  |nil=>
   intro ys t;cases t;exact .nil
  |cons k ks ih=>
   intro ys t;cases t with
   |cons h t=>exact .cons h (ih _ t)
 exact gen ks ys t
inductive uW(xs:ag)(H:Hp)(Q:VK):Prop
 |mk:∀d kvs,xs=[.ref d]->Rd H d (.dK kvs)->(∀l,H l=none->Q (.ref l) (upd H l (.lst (kvs.map λkv=>kV kv.1))))->uW xs H Q
def Uu(hc:X.calm=true):gF X (.type "list") uW:=by
 intro π s σ H xs us Q I r h;let#[d,kvs,rfl,hd,q]:=h;let#[u,rfl,ru]:=vals1 r;cases ru;let#[P,OK,S,ok,hp]:=W9 I hd;let z:=(oo I.ay hd).1;apply kdl_call S (I.ok.hd hc) ok (by rw[aq];exact z) λh' tk acc c k hD a=>?_;apply#[.ref s.heap.objs.size,_,I.laid (t':=tk) k (bD _) (show eX X.prog X.w _ h' _ (.lst (kvs.map λkv=>kV kv.1)) from #[by rw[aq];exact z,acc.toList,c,NU a hp,by rw[Array.toArray_toList];exact hD]),Z,q _ I.fresh]
def KV.h_{κ:Type}[DecidableEq κ]:∀{more:List (κ × V)}{rs:List (κ × Aa)}{kvs:List (κ × V)}{vs:List (κ × Aa)},KV more rs->KV kvs vs->KV (more.foldl (λacc kv=>putK acc kv.1 kv.2) kvs) (g0.h_ vs rs):=λ{more rs kvs vs} h=>by
 induction h generalizing kvs vs with
 |nil=>exact λh=>h
 |@cons p q _ _ h _ ih=>
  intro h2;let#[k,y]:=p;let#[k',u]:=q;let#[h1,h3]:=h;have h1:k=k':=h1;subst h1;exact ih (h2.put k h3)
inductive pd(K:af)(xs:ag)(H:Hp)(Q:VK):Prop
 |mk:∀p ys kvs,xs=[.ref p]->H p\.lst ys->qY K H ys kvs->kvs.length<=1000->(∀l,H l=none->Q (.ref l) (upd H l (.dK (DH [] kvs))))->pd K xs H Q
def FD(hc:X.calm=true):gF X (.type "dict") (pd X.K):=by
 intro π s σ H xs us Q I r h;let#[p,ys,kvs,rfl,hp,t,hz,q]:=h;let#[u,rfl,ru]:=vals1 r;cases ru;let#[z,its,n,rv,hl,ho]:=I.kD hp
 have gen:∀{ys:ag} {its:aj} {kvs:List (Key × V)},Vals ys its->qY X.K H ys kvs->∃ps,KV kvs ps/\So (eD X.prog X.w) s.heap its ps:=λ{ys its kvs} rv t=>by
  induction t generalizing its with
  |nil=>
   cases rv;exact#[[],.nil,.nil]
  |@cons y p ys kvs h t ih=>
   cases rv with
   |cons r0 rv=>
    let#[ps,h1,h2]:=ih rv;let#[a,e,sq]:=h;subst e;cases r0;let#[tv,rt,it,_]:=I.tuple (iw.of sq);let#[key,x,e2,rk,rx]:=vals2 rt;subst e2;apply#[(p.1,x)::ps,Paired.cons (show p.1=p.1/\RelV p.2 x from #[Z,rx]) h1,Paired.cons (show ∃a' HV,Value.ref a=.ref a'/\IsTup s.heap a' (List.toArray [HV,x])/\(eD X.prog X.w).is p.1 HV=true from #[a,key,Z,it,w_ rk]) h2]
 let#[ps,h1,h2]:=gen rv t;let lp:=KV.length h1;apply eP_ (knd:=eD X.prog X.w) (I.ok.hd hc) ho h2 Z1 λh' tk hd kp=>?_;apply#[.ref s.heap.objs.size,_,I.laid (t':=tk) kp (bD _) (Rh ?_ (beq_eq_false_iff_ne.mpr (Ne.symm (dD I.big))) (KV.h_ h1 .nil) hd),Z,q _ I.fresh];have:=_z kvs [];have:=cX;simp only[vZ] at *;show (DH [] kvs).length<=sizeLine;omega
def SZ:∀{bs:List Bool}{vs:aj},Vals (bs.map V.bl) vs->vs=bs.map Value.bool
 |[],_,.nil=>rfl
 |b::bs,_,.cons h t=>by
  cases h;rw[SZ t];rfl
inductive BW(K:af)(g:List Bool->Bool)(xs:ag)(H:Hp)(Q:VK):Prop
 |mk:∀p bs,xs=[.ref p]->dU K H p (bs.map V.bl)->Q (.bl (g bs)) H->BW K g xs H Q
def Y9(hc:X.calm=true):gF X (.builtin "all") (BW X.K λbs=>bs.all id):=by
 intro π s σ H xs us Q I r h;let#[p,bs,rfl,hp,q]:=h;let#[u,rfl,ru]:=vals1 r;cases ru;let#[its,rv,pl,z]:=I.list hp;obtain rfl:=SZ rv;let hl:=pl.isList;have lt:p<s.heap.objs.size:=by let#[_,e,_]:=hl;exact bW e
 apply call_all_walk (wpAny_pyIter_list hl ⟨s.heap.objs.size,[s.heap.objs.size,p],[s.heap.objs.size],(bs.map Value.bool).toArray.size,_,_,λi=>(bs[i]?).getD true,rfl,Walks.list (A:=X.A.in1) (I.ok.hd hc) _ p (dD lt) _,⟨⟨_,eL _ rfl,rfl,rfl⟩,hl.push _⟩,λi v s' Q' E' hP hQ=>?_,λh' tk hk=>?_⟩)
 ·have hP:(bs.map Value.bool).toArray[i]? = some v:=hP;simp only[List.getElem?_toArray,d0] at hP;cases e:bs[i]? with
  |none=>rw[e] at hP;cases hP
  |some b=>
   have hQ:Q' ((bs[i]?).getD true) s':=hQ;rw[e] at hP hQ;cases hP;exact vW hQ
 have e:((List.range (bs.map Value.bool).toArray.size).all λi=>(bs[i]?).getD true)=bs.all id:=by
  rw[c_,aq];exact LSm.range_all bs
 rw[e];exact#[.bl _,H,I.kept (LSm.kept_iter hk),Z,q]
def jw_(hc:X.calm=true):gF X (.builtin "any") (BW X.K λbs=>bs.any id):=by
 intro π s σ H xs us Q I r h;let#[p,bs,rfl,hp,q]:=h;let#[u,rfl,ru]:=vals1 r;cases ru;let#[its,rv,pl,z]:=I.list hp;obtain rfl:=SZ rv;let hl:=pl.isList;have lt:p<s.heap.objs.size:=by let#[_,e,_]:=hl;exact bW e
 apply call_any_walk (wpAny_pyIter_list hl #[s.heap.objs.size,[s.heap.objs.size,p],[s.heap.objs.size],(bs.map Value.bool).toArray.size,_,_,λi=>(bs[i]?).getD false,Z,Walks.list (A:=X.A.in1) (I.ok.hd hc) _ p (dD lt) _,#[#[_,eL _ Z,Z,Z],hl.push _],λi v s' Q' E' hP hQ=>?_,λh' tk hk=>?_])
 ·have hP:(bs.map Value.bool).toArray[i]? = some v:=hP;simp only[List.getElem?_toArray,d0] at hP;cases e:bs[i]? with
  |none=>rw[e] at hP;cases hP
  |some b=>
   have hQ:Q' ((bs[i]?).getD false) s':=hQ;rw[e] at hP hQ;cases hP;exact vW hQ
 have e:((List.range (bs.map Value.bool).toArray.size).any λi=>(bs[i]?).getD false)=bs.any id:=by
  rw[c_,aq];exact LSm.range_any bs
 rw[e];exact#[.bl _,H,I.kept (LSm.kept_iter hk),Z,q]
def Yb:∀{ns:List Int}{vs:aj},Vals (ns.map V.int) vs->IntsAre vs ns
 |[],_,.nil=>.nil
 |n::ns,_,.cons h t=>by
  let#[tk,rfl]:=h;exact .cons _ _ (Yb t)
inductive GX(K:af)(xs:ag)(H:Hp)(Q:VK):Prop
 |mk:∀(p:Addr) (ns:List Int),xs=[.ref p]->dU K H p (ns.map V.int)->0<ns.length->(∀m,m∈ns->(∀a∈ns,a<=m)->Q (.int m) H)->GX K xs H Q
def jr_(hc:X.calm=true):gF X (.builtin "max") (GX X.K):=by
 intro π s σ H xs us Q I r h;let#[p,ns,rfl,hp,hn,q]:=h;let#[u,rfl,ru]:=vals1 r;cases ru;let#[its,rv,pl,z]:=I.list hp;let hi:=Yb rv;let#[xs,e]:=hi.allInts.items;let hl:=pl.isList;have Cu:ns=xs.toList.map (·.1):=by rw[<- hi.numsOf,<- nums_intItems,<- e]
 have hsz:0<xs.size:=by
  let h3:=hn;rw[Cu] at h3;simpa using h3
 rw[e] at hl;apply max_intList (I.ok.hd hc) hl hsz λv h' tk hv hk=>?_;let#[t,rfl]:=intItems_at hv;let#[h1,h2]:=argBest_gt (numAt xs) (xs.size - 1);apply#[.int _,H,I.kept hk,#[t,Z],q _ ?_ λa ha=>?_]
 ·rw[Cu,numAt_eq];exact getD_mem (by rw[aq,we];omega)
 rw[Cu] at ha;let#[j,hj,rfl]:=mem_getD ha;rw[aq,we] at hj;rw[<- numAt_eq];exact h2 j Z1
end
end L2
namespace N6
open PySem PySem.SeqAt PyProof.Rows
open AutoSeq1 (wpAny_loadPart')
open MeetsSeq MeetsSeq2 MeetsSeq3 SeqRoads2
def m1_(l b:Addr)(xs ys:Array Aa)(n m:Nat)(dl db:Option Addr)(sl sb:Array (Option Aa))(hs:xs.size=ys.size)(e:Nat->Bool)(k:Nat):
  ∀i:Nat,xs.size - i=k->Meets (Builtin.«list.__eq__.loop» #[[.ref l,.ref b,rawInt i,rawInt 3],[]])
   (λA R s=>(s.heap.get? l=some { cls:=.type "list",dict:=dl,data:=.seq xs n,slots:=sl }/\s.heap.get? b=some { cls:=.type "list",dict:=db,data:=.seq ys m,slots:=sb }) /\
    (∀j (h1:j<xs.size)(h2:j<ys.size),EqAt A.in1 s xs[j] ys[j] (e j))/\R (.ok (.ret (.bool (!((List.range xs.size).drop i).all e)))) s):=by
 induction k with
 |zero=>
  intro i hk prog w A R s ⟨⟨gl,gb⟩,he,h⟩;let#[hp,g,d,tk,os]:=s
  wp_walk using rX gl,rX gb
  rw[show xs[((i:Nat):Int).toNat]? = none by simp;omega,show ys[((i:Nat):Int).toNat]? = none by simp;omega];rw[show (List.range xs.size).drop i=[] by simp;omega] at h
  wp_walk using rX gl,rX gb
  apply (show R (.ok (.ret (.bool (xs.size != ys.size)))) _ from ?_);rw[show (xs.size != ys.size)=false by simp[hs]];exact h
 |succ k ih=>
  intro i hk prog w A R s ⟨⟨gl,gb⟩,he,h⟩;let#[hp,g,d,tk,os]:=s
  wp_walk using rX gl,rX gb
  have z1:i<xs.size:=by omega
  have z2:i<ys.size:=by omega
  have q1:xs[((i:Nat):Int).toNat]? = some xs[i]:=by simp[z1]
  have q2:ys[((i:Nat):Int).toNat]? = some ys[i]:=by simp[z2]
  rw[show (List.range xs.size).drop i=i::(List.range xs.size).drop (i+1) by simp[List.drop_eq_getElem_cons,z1],List.all_cons] at h;rw[q1,q2];apply au (he i z1 z2 prog w _ _ ?_);cases c:e i with
  |true=>
   rw[c] at h
   wp_walk
   rw[show ((i:Int)+1)=((i+1:Nat):Int) by omega];apply#[plainId_quiet plain_eq_loop _,codeAny_builtin entry_eq_loop ?_];rw[Around.under_plainId plain_eq_loop _];exact ih (i+1) Z1 prog w A R _ #[#[gl,gb],he,by simpa using h]
  |false=>
   rw[c] at h
   wp_walk using rX gl,rX gb
   rw[q1,q2]
   wp_walk
   simpa using h
def jn_(l b:Addr)(xs ys:Array Aa)(n m:Nat)(dl db:Option Addr)(sl sb:Array (Option Aa))(hs:xs.size=ys.size)(e:Nat->Bool):
  Meets (Builtin.«list.__ne__» #[[.ref l,.ref b],[]])
   (λA R s=>(s.heap.get? l=some { cls:=.type "list",dict:=dl,data:=.seq xs n,slots:=sl }/\s.heap.get? b=some { cls:=.type "list",dict:=db,data:=.seq ys m,slots:=sb }) /\
    (∀j (h1:j<xs.size)(h2:j<ys.size),EqAt A.in1 s xs[j] ys[j] (e j))/\R (.ok (.ret (.bool (!(List.range xs.size).all e)))) s):=by
 intro prog w A R s ⟨⟨gl,gb⟩,he,h⟩;let#[hp,g,d,tk,os]:=s;let f3:=AutoSeq1.sub_list_list;have no:¬(xs.size != ys.size)=true:=by simp[hs]
 wp_walk using rX gl,rX gb
 apply#[plainId_quiet plain_eq_loop _,codeAny_builtin entry_eq_loop ?_];rw[Around.under_plainId plain_eq_loop _];exact m1_ l b xs ys n m dl db sl sb hs e _ 0 Z prog w A R _ #[#[gl,gb],he,by simpa using h]
def jC_(l b:Addr)(xs ys:Array Aa)(n m:Nat)(dl db:Option Addr)(sl sb:Array (Option Aa))(hs:(xs.size != ys.size)=true):
  Meets (Builtin.«list.__ne__» #[[.ref l,.ref b],[]])
   (λA R s=>(s.heap.get? l=some { cls:=.type "list",dict:=dl,data:=.seq xs n,slots:=sl }/\s.heap.get? b=some { cls:=.type "list",dict:=db,data:=.seq ys m,slots:=sb })/\R (.ok (.ret (.bool true))) s):=
 .of_wp λprog w A R s ⟨⟨gl,gb⟩,h⟩=>by
  let#[hp,g,d,tk,os]:=s;let f3:=AutoSeq1.sub_list_list
  wp_walk using rX gl,rX gb
  exact#[_,Z,h]
section
variable{prog:Ad}{w:Af}{A:Ag}{E:Aa->Ab->Prop}{s:Ab}
def qr{l b:Addr}{xs ys:Array Aa}{e:Nat->Bool}{Q:Aa->Ab->Prop}(hl:s.heap.IsList l xs)(hb:s.heap.IsList b ys)(hs:xs.size=ys.size)(hu:A.units<cLine)
 (he:∀j (h1:j<xs.size)(h2:j<ys.size),EqAt A.in1 s xs[j] ys[j] (e j))(h:Q (.bool (!(List.range xs.size).all e)) s):wpAny (model prog w) A (compareOp .NotEq (.ref l) (.ref b)) Q E s:=by
 let#[#[c1,d1,t1,l1],o1,k1,n1,z1]:=id hl;let#[#[c2,d2,t2,l2],o2,k2,n2,z2]:=id hb;simp only at k1 z1 k2 z2;subst k1 z1 k2 z2;exact richCompare_meets_room (op:=.NotEq) #[_,o1,Z] #[_,o2,Z] F.slot_list_ne F.entry_list_ne (F.args_list_ne_2 _ _) (jn_ l b xs ys n1 n2 d1 d2 l1 l2 hs e) #[#[o1,o2],he,show Value.bool (!(List.range xs.size).all e)≠Value.notImplemented/\Q (.bool (!(List.range xs.size).all e)) s from #[(λx=>nomatch x),h]] hu
def hZ{l b:Addr}{xs ys:Array Aa}{Q:Aa->Ab->Prop}(hl:s.heap.IsList l xs)(hb:s.heap.IsList b ys)(hs:(xs.size != ys.size)=true)(hu:A.units<cLine)(h:Q (.bool true) s):wpAny (model prog w) A (compareOp .NotEq (.ref l) (.ref b)) Q E s:=by
 let#[#[c1,d1,t1,l1],o1,k1,n1,z1]:=id hl;let#[#[c2,d2,t2,l2],o2,k2,n2,z2]:=id hb;simp only at k1 z1 k2 z2;subst k1 z1 k2 z2;exact richCompare_meets_room (op:=.NotEq) #[_,o1,Z] #[_,o2,Z] F.slot_list_ne F.entry_list_ne (F.args_list_ne_2 _ _) (jC_ l b xs ys n1 n2 d1 d2 l1 l2 hs) #[#[o1,o2],show Value.bool true≠Value.notImplemented/\Q (.bool true) s from #[(λx=>nomatch x),h]] hu
end
end N6
namespace L2
open PySem PySem.Spec PyProof.Rows PySem.W oH g0
abbrev Rp(D:Type):=Hp->V->D->Prop
structure rj(X:Cx)(n:Nat){D:Type} [DecidableEq D](R:Rp D):Prop where
 eq:∀{π:List (Addr × Obj)} {σ:St} {H:Hp} {s:Ab} {A:Ag} {x y:V} {u v:Aa} {d e:D},!In H s->RelV x u->RelV y v->R H x d->R H y e->A.units+n<cLine->SeqAt.EqAt A s u v (decide (d=e))
 one:∀{π:List (Addr × Obj)} {σ:St} {H:Hp} {s:Ab} {x:V} {d e:D},!In H s->R H x d->R H x e->d=e
def rS:Rp Str:=λ_ x d=>x=.str d
def r2(K:af){D1 D2:Type}(R1:Rp D1)(R2:Rp D2):Rp (D1 × D2):=λH x d=>∃a u v,x=.ref a/\iw K H a [u,v]/\R1 H u d.1/\R2 H v d.2
def rL(K:af){D:Type}(R:Rp D):Rp (List D):=λH x ds=>∃a xs,x=.ref a/\dU K H a xs/\Paired (R H) xs ds
section
variable{X:Cx}
def il:rj X 0 rS where
 eq:=λ{π σ H s A x y u v d e} I ru rv hx hy hu=>by
  have hx:x=.str d:=hx;have hy:y=.str e:=hy;subst hx;subst hy;let q:=MB (A:=A) (s:=s) ru rv Z Z
  have e2:ja (.str d) (.str e)=decide (d=e):=by
   show (d == e)=_;by_cases h:d=e
   ·subst h;simp
   simp[h]
  rwa [e2] at q
 one:=λ{π σ H s x d e} I hx hy=>by
  have hx:x=.str d:=hx;have hy:x=.str e:=hy;rw[hx] at hy;exact V.str.inj hy
def FA{h:Heap}{a:Addr}{its:Array Aa}(t:IsTup h a its):h.IsTuple a its:=t
def Kd{n m:Nat}{D1 D2:Type}[DecidableEq D1][DecidableEq D2]{R1:Rp D1}{R2:Rp D2}(c1:rj X n R1)(c2:rj X m R2):rj X (max n m+1) (r2 X.K R1 R2) where
 one:=λ{π σ H s x d e} I hx hy=>by
  let#[a,u,v,rfl,t,q1,q2]:=hx;let#[b,u',v',e0,t',Lz,Ly]:=hy;cases e0;let e1:=I.i4 t t';cases e1;exact Prod.ext (c1.one I q1 Lz) (c2.one I q2 Ly)
 eq:=λ{π σ H s A x y u v d e} I ru rv hx hy hu=>by
  let Ex:=hx;let Xr:=hy;let#[a,x1,x2,rfl,t,q1,q2]:=hx;let#[b,y1,y2,rfl,t',Lz,Ly]:=hy;cases ru;cases rv;by_cases X4:a=b
  ·subst X4;let e1:=I.i4 t t';cases e1;have:d=e:=Prod.ext (c1.one I q1 Lz) (c2.one I q2 Ly);rw[cj this];exact SeqAt.EqAt.same _
  let#[its,r,it,_]:=I.tuple t;let#[its',r',it',_]:=I.tuple t';let#[u1,u2,rfl,r1,r2]:=vals2 r;let#[w1,w2,rfl,r1',r2']:=vals2 r'
  let key:=SeqAt.EqAt.of_refs X4 (SeqAt.RcAt.tuples (A:=A) (s:=s) (e:=λj=>if j=0 then decide (d.1=e.1) else decide (d.2=e.2)) (FA it) (FA it') Z1 λj h1 h2=>by
   match j,h1,h2 with
   |0,_,_=>exact c1.eq I r1 r1' q1 Lz (by show A.units+1+n<cLine;omega)
   |1,_,_=>exact c2.eq I r2 r2' q2 Ly (by show A.units+1+m<cLine;omega))
  have e3:((List.range (min [u1,u2].toArray.size [w1,w2].toArray.size)).all (λj=>if j=0 then decide (d.1=e.1) else decide (d.2=e.2))&&[u1,u2].toArray.size == [w1,w2].toArray.size)=decide (d=e):=by
   show (decide (d.1=e.1)&&(decide (d.2=e.2)&&true)&&true)=_;by_cases h1:d.1=e.1
   ·by_cases h2:d.2=e.2
    ·have:d=e:=Prod.ext h1 h2;simp[this]
    have:¬d=e:=λz=>h2 (by rw[z]);simp[h1,h2,this]
   have:¬d=e:=λz=>h1 (by rw[z]);simp[h1,this]
  rw[e3] at key;exact key
def jg{α β:Type}{F:α->β->Prop}:∀{l:List α}{m:List β},Paired F l m->∀(i:Nat)(h1:i<l.length)(h2:i<m.length),F l[i] m[i]
 |_,_,.cons h t,0,_,_=>h
 |_,_,.cons h t,i+1,h1,h2=>jg t i ⇑h1 ⇑h2
def UE{D:Type}[DecidableEq D]:∀{ds es:List D},ds.length=es.length->((List.range ds.length).all λj=>decide (ds[j]? = es[j]?))=decide (ds=es):=λ{ds es} hl=>by
 by_cases h:ds=es
 ·subst h;simp
 rw[d7 h]
 have:∃i,i<ds.length/\ds[i]?≠es[i]?:=by
  apply Classical.byContradiction λhn=>h ?_;apply List.ext_getElem? ?_;intro i;by_cases hi:i<ds.length
  ·exact Classical.byContradiction λq=>hn #[i,hi,q]
  rw[List.getElem?_eq_none Z1,List.getElem?_eq_none Z1]
 let#[i,hi,q]:=this;rw[List.all_eq_false];exact#[i,by simpa using hi,by simpa using q]
def ND{D:Type}[DecidableEq D]{n:Nat}{R:Rp D}(c:rj X n R){π:List (Addr × Obj)}{σ:St}{H:Hp}{s:Ab}{A:Ag}(I:!In H s){xs ys:ag}{us vs:aj}{ds es:List D}(ru:Vals xs us)(rv:Vals ys vs)(hx:Paired (R H) xs ds)(hy:Paired (R H) ys es)(hu:A.units+n<cLine):
  ∀j (h1:j<us.toArray.size)(h2:j<vs.toArray.size),SeqAt.EqAt A s us.toArray[j] vs.toArray[j] (decide (ds[j]? = es[j]?)):=λj h1 h2=>by
 let l1:=ru.length;let l2:=rv.length;let l3:=bG hx;let l4:=bG hy;simp only[c_] at h1 h2;let q:=c.eq (A:=A) I (jg ru j Z1 h1) (jg rv j Z1 h2) (jg hx j Z1 Z1) (jg hy j Z1 Z1) hu
 have e:decide (ds[j]? = es[j]?)=decide (ds[j]' Z1=es[j]' Z1):=by
  rw[cE Z1,cE Z1];by_cases z:ds[j]' Z1=es[j]' Z1
  ·simp[z]
  simp[z]
 rw[e];exact q
def ye{D:Type}[DecidableEq D](R:Rp D)(neg:Bool):V->V->Hp->VK->Prop:=λx y H Q=>∃d e,R H x d/\R H y e/\Q (.bl (if neg then !decide (d=e) else decide (d=e))) H
def W6{n:Nat}{D:Type}[DecidableEq D]{R:Rp D}(c:rj X n R)(hu:X.A.units+n+1<cLine):eG X (compareOp .Eq) (ye (rL X.K R) false):=by
 intro π s σ H x y v u Q I rx ry h;let#[d,e,#[a,xs,rfl,t,q],#[b,ys,rfl,t',q'],hq]:=h;cases rx;cases ry;let#[us,r,pl,_]:=I.list t;let#[vs,r',qm,_]:=I.list t';let l1:=r.length;let l2:=r'.length;let l3:=bG q;let l4:=bG q';by_cases hl:d.length=e.length
 ·apply SeqAt.eq_listAt pl.isList qm.isList (by simp only[c_];omega) Z1 (ND c I r r' q q' (A:=X.A.in1) (by show X.A.units+1+n<cLine;omega)) #[.bl _,H,I,Z,?_];rw[show us.toArray.size=d.length by simp only[c_];omega,UE hl];exact hq
 apply SeqAt.eq_list_lengthsAt pl.isList qm.isList (by simp only[c_,bne_iff_ne];omega) Z1 #[.bl _,H,I,Z,?_];have hq:Q (.bl (decide (d=e))) H:=hq;rwa [d7 (λz=>hl (by rw[z]))] at hq
def WW{n:Nat}{D:Type}[DecidableEq D]{R:Rp D}(c:rj X n R)(hu:X.A.units+n+1<cLine):eG X (compareOp .NotEq) (ye (rL X.K R) true):=by
 intro π s σ H x y v u Q I rx ry h;let#[d,e,#[a,xs,rfl,t,q],#[b,ys,rfl,t',q'],hq]:=h;cases rx;cases ry;let#[us,r,pl,_]:=I.list t;let#[vs,r',qm,_]:=I.list t';let l1:=r.length;let l2:=r'.length;let l3:=bG q;let l4:=bG q';have hq:Q (.bl (!decide (d=e))) H:=hq;by_cases hl:d.length=e.length
 ·apply N6.qr pl.isList qm.isList (by simp only[c_];omega) Z1 (ND c I r r' q q' (A:=X.A.in1) (by show X.A.units+1+n<cLine;omega)) #[.bl _,H,I,Z,?_];rw[show us.toArray.size=d.length by simp only[c_];omega,UE hl];exact hq
 apply N6.hZ pl.isList qm.isList (by simp only[c_,bne_iff_ne];omega) Z1 #[.bl _,H,I,Z,?_];rwa [d7 (λz=>hl (by rw[z]))] at hq
def BV(K:af){D:Type}[DecidableEq D](R:Rp D)(neg:Bool):V->V->Hp->VK->Prop:=λx y H Q=>∃d es,R H x d/\rL K R H y es/\Q (.bl (if neg then !decide (d∈es) else decide (d∈es))) H
def WN{D:Type}[DecidableEq D]{n:Nat}{R:Rp D}(c:rj X n R){π:List (Addr × Obj)}{σ:St}{H:Hp}{s:Ab}{A:Ag}(I:!In H s){x:V}{u:Aa}{d:D}(ru:RelV x u)(hx:R H x d)(hu:A.units+n<cLine):∀{ys:ag}{vs:aj}{es:List D},Vals ys vs->Paired (R H) ys es->
  ∃f:Aa->Bool,(∀w∈vs,SeqAt.EqAt A s w u (f w))/\vs.any f=decide (d∈es):=λ{ys vs es} rv hy=>by
 let f:Aa->Bool:=λw=>@decide (∃y e,RelV y w/\R H y e/\e=d) (Classical.propDecidable _)
 have sound:∀y w e,RelV y w->R H y e->f w=decide (e=d):=λy w e h1 h2=>by
  by_cases z:e=d
  ·rw[cj z];exact @cj _ (Classical.propDecidable _) #[y,e,h1,h2,z]
  rw[d7 z];apply @d7 _ (Classical.propDecidable _) λ⟨y',e',g1,g2,g3⟩=>z ?_;have:y'=y:=RelV.inj g1 h1;subst this;rw[<- g3];exact c.one I h2 g2
 apply#[f,?_,?_]
 ·induction rv generalizing es with
  |nil=>exact λw hw=>nomatch hw
  |cons h t ih=>
   cases hy with
   |cons g t'=>
    intro w hw;rcases cc.mp hw with rfl|hw
    ·rw[sound _ _ _ h g];exact c.eq I h ru g hx hu
    exact ih t' w hw
 induction rv generalizing es with
 |nil=>
  cases hy;simp
 |cons h t ih=>
  cases hy with
  |@cons _ e _ es g t'=>
   rw[List.any_cons,ih t',sound _ _ _ h g];by_cases z:e=d
   ·subst z;simp
   by_cases z2:d∈es
   ·simp[z2]
   have:¬d∈e::es:=λq=>by
    rcases cc.mp q with q|q
    ·exact z q.symm
    exact z2 q
   rw[d7 z,d7 z2,d7 this];rfl
def RA{n:Nat}{D:Type}[DecidableEq D]{R:Rp D}(c:rj X n R)(hu:X.A.units+n+1<cLine):eG X (compareOp .In) (BV X.K R false):=by
 intro π s σ H x y v u Q I rx ry h;let#[d,es,hx,#[a,ys,rfl,t,q],hq]:=h;cases ry;let#[us,r,pl,_]:=I.list t;let#[f,h1,h2]:=WN c I (A:=X.A.in1) rx hx (by show X.A.units+1+n<cLine;omega) r q;apply SeqAt.in_listAt f pl.isList (λw hw=>h1 w ⇑hw) #[.bl _,H,I,Z,?_];rw[show us.toArray.any f=us.any f by simp,h2];exact hq
def ZU{n:Nat}{D:Type}[DecidableEq D]{R:Rp D}(c:rj X n R)(hu:X.A.units+n+1<cLine):eG X (compareOp .NotIn) (BV X.K R true):=by
 intro π s σ H x y v u Q I rx ry h;let#[d,es,hx,#[a,ys,rfl,t,q],hq]:=h;cases ry;let#[us,r,pl,_]:=I.list t;let#[f,h1,h2]:=WN c I (A:=X.A.in1) rx hx (by show X.A.units+1+n<cLine;omega) r q;apply SeqAt.notIn_listAt f pl.isList (λw hw=>h1 w ⇑hw) #[.bl _,H,I,Z,?_];rw[show us.toArray.any f=us.any f by simp,h2];exact hq
inductive G0(K:af)(xs:ag)(H:Hp)(Q:VK):Prop
 |mk:∀x T t b,xs=[x,.ty T]->fM K H x t->PySem.W.kitOne K t (.type T)\b->Q (.bl b) H->G0 K xs H Q
def oB:gF X (.builtin "isinstance") (G0 X.K):=by
 intro π s σ H xs us Q I r h;let#[x,T,t,b,rfl,ty,e,q]:=h;let#[u,w',rfl,ru,hX]:=vals2 r;cases (show w'=Value.type T from hX);exact Zj I ru ty e λtk=>#[.bl b,H,I.tok tk,Z,q]
inductive _P(x:V)(y:V)(H:Hp)(Q:VK):Prop
 |mk:∀i j,x=.str i->y=.str j->Q (.bl (!decide (j.cps.toList<i.cps.toList))) H->_P x y H Q
def ZP:eG X (compareOp .LtE) _P:=by
 intro π s σ H x y v u Q I rx ry h;let#[i,j,rfl,rfl,q]:=h;let#[t,rfl]:=rx;let#[t',rfl]:=ry;exact PySem.P.le_str ⟨.bl _,H,I,rfl,q⟩
inductive sV(mk:Addr->Addr->HO)(Q:VK)(x:V)(H1:Hp):Prop
 |mk:∀d kvs,x=.ref d->H1 d\.dK kvs->(∀v,H1 v=none->Q (.ref v) (upd H1 v (mk v d)))->sV mk Q x H1
def zM(mk:Addr->Addr->HO)(td:TE):TE:=λσ H Q=>td σ H λx H1=>sV mk Q x H1
def Xh{π:List (Addr × Obj)}{σ:St}{H:Hp}{s:Ab}{d:Addr}{cls:String}(I:!In H s)(φ:Heap->Prop)(hφ:φ (s.heap.push { cls:=.type cls,data:=.fields (List.toArray [.ref d]) }))(hs:∀h1 h2:Heap,φ h1->(∀o,h1.get? s.heap.objs.size\o->h2.get? s.heap.objs.size\o)->φ h2):
  !In (upd H s.heap.objs.size (.ext φ)) { s with heap:=s.heap.push { cls:=.type cls,data:=.fields (List.toArray [.ref d]) } }:=
 I.laid (t':=s.toks) (λ_ _ q=>b_ _ q) (bD _) #[hφ,#[_,eL _ Z],hs]
def Kh{o:Expr}{td:TE}{apos bF:Pos}(ho:PE X o td)(eQ:attributeBase o "items" X.env (eval o X.env)=eval o X.env:=by rfl)(ie:(apos.endLine == bF.line)=true:=by rfl):PE X (.Call (.Attribute o "items" apos) [] [] bF) (zM zj td):=by
 intro π s σ H Q I h;apply wpAny_Call_method0_late eQ ie (aU (ho π s σ H _ I h) λv s1 ⟨x,H1,I1,r1,d,kvs,e,hd,q⟩=>?_);subst e;cases r1;let#[t1,t2,t3]:=MC I1 (.inl #[kvs,.inl hd]);let#[_,_,vs,rel,dd]:=C7 I1.ay hd;apply#["dict","dict.items",PySem.F.plainAttrs_dict,PySem.F.slot_dict_items,PySem.F.type_dict_items,t1,t2,Calls.callWith_builtin Z (PySem.evalArgs_none ?_)];apply call_meetsIn PySem.F.slot_dict_items t1 PySem.F.entry_dict_items (PySem.F.args_dict_items_1 _) (meets_dict_items (eD X.prog X.w) d t3) #[#[vs,dd],?_];exact#[.ref _,_,Xh I1 _ #[_,eL _ Z,Z,Z] λh1 h2 ⟨o,e,r⟩ k=>#[o,k o e,r],Z,q _ I1.fresh]
def Nq{o:Expr}{td:TE}{apos bF:Pos}(ho:PE X o td)(eQ:attributeBase o "values" X.env (eval o X.env)=eval o X.env:=by rfl)(ie:(apos.endLine == bF.line)=true:=by rfl):PE X (.Call (.Attribute o "values" apos) [] [] bF) (zM qX td):=by
 intro π s σ H Q I h;apply wpAny_Call_method0_late eQ ie (aU (ho π s σ H _ I h) λv s1 ⟨x,H1,I1,r1,d,kvs,e,hd,q⟩=>?_);subst e;cases r1;let#[t1,t2,t3]:=MC I1 (.inl #[kvs,.inl hd]);let#[_,_,vs,rel,dd]:=C7 I1.ay hd;apply#["dict","dict.values",PySem.F.plainAttrs_dict,PySem.F.slot_dict_values,PySem.F.type_dict_values,t1,t2,Calls.callWith_builtin Z (PySem.evalArgs_none ?_)];apply call_meetsIn PySem.F.slot_dict_values t1 PySem.F.entry_dict_values (PySem.F.args_dict_values_1 _) (meets_dict_values (eD X.prog X.w) d t3) #[#[vs,dd],?_];exact#[.ref _,_,Xh I1 _ #[_,eL _ Z,Z,Z] λh1 h2 ⟨o,e,r⟩ k=>#[o,k o e,r],Z,q _ I1.fresh]
end
section
variable{X:Cx}{π:List (Addr × Obj)}{σ:St}{H:Hp}{s:Ab}{d:Addr}{kvs:List (Key × V)}
def Inv.freeze(I:!In H s)(h:H d\.dK kvs):∃o,s.heap.get? d\o/\!In (upd H d (.frz o (.dK kvs))) s:=by
 let#[z,hd,vs,rel,dd]:=C7 I.ay h;let#[o,es,ep,ho,r]:=id dd;have other:∀{b u},H b\u->u≠.dK kvs->upd H d (.frz o (.dK kvs)) b\u:=λ{b u} e ne=>by rw[aD (aR e h ne)];exact e
 apply#[o,ho,I.un (h':=s.heap) (t':=s.toks) #[λb u q _ _ _=>q,λb u q _ _ _=>#[u.slots,q],λb u q n _=>?_,λb u q _=>#[u,q],λb xs q=>other q Z2,λb u v q=>other q Z2,λb ps q=>#[#[],by rw[Array.append_empty];exact other q Z2]] λb u q=>?_]
 ·by_cases e:b=d
  ·subst e;rw[h] at n;cases n
  rw[aD e];exact n
 by_cases e:b=d
 ·subst e;rw[aE] at q;cases q;exact#[ho,z,hd,vs,rel,dd]
 rw[aD e] at q;exact (I.ay b u q).dJ (λc v _ z=>z) (λc z=>other z Z2) λc xs z=>other z Z2
def Inv.sR{o:Obj}(I:!In H s)(h:H d\.frz o (.dK kvs))(h0:∀o u,X.iZ d≠some (.frz o u)):!In (upd H d (.dK kvs)) s:=by
 have other:∀{b u},H b\u->(∀o v,u≠.frz o v)->upd H d (.dK kvs) b\u:=λ{b u} e ne=>by rw[aD (aR e h (ne _ _))];exact e
 have pE:∀{b},H b=none->upd H d (.dK kvs) b=none:=λ{b} e=>by
  rw[aD (λz=>by subst z;rw[h] at e;cases e)];exact e
 apply#[I.ok,I.os,I.bare,#[I.base.keep,I.base.slot,λb u q n hx=>pE (I.base.free b u q n hx),I.base.there,λb xs q=>other (I.base.d9 b xs q) Z2,λb u v q=>?_,λb ps q=>?_],I.loc,I.cell,pE I.free,λx c e=>pE (I.dk x c e),λp hp=>?_,λb u q=>?_,I.len]
 ·have:=I.base.e_ b u v q;rw[aD (λz=>by subst z;exact h0 _ _ q)];exact this
 ·let#[more,e]:=I.base.fQ b ps q;exact#[more,other e Z2]
 ·let#[a1,a2,a3]:=I.pin p hp;exact#[a1,pE a2,a3]
 by_cases e:b=d
 ·subst e;rw[aE] at q;cases q;let#[ho,z,hd,vs,rel,dd]:=I.ay b _ h;exact#[z,hd,vs,rel,dd]
 rw[aD e] at q;exact (I.ay b u q).dJ (λc v _ z=>z) (λc z=>other z Z2) λc xs z=>other z Z2
end
def Gh(t:TE):TE:=λσ H Q=>∃d kvs,H d\.dK kvs/\t σ H λv H1=>∃o,H1 d\.frz o (.dK kvs)/\Q v (upd H1 d (.dK kvs))
def ka_{X:Cx}{e:Expr}{t:TE}(h:PE X e t):PE X e (Gh t):=by
 intro π s σ H Q I q;let#[d,kvs,hd,q]:=q;apply aU (h π s σ H _ I q) λu s' ⟨v,H1,I1,r,o,hf,q1⟩=>#[v,_,I1.sR hf (λo u z=>?_),r,q1];have:=I.base.e_ _ _ _ z;rw[hd] at this;cases this
def Itv(d:Addr)(o:Obj)(kvs:List (Key × V)):It:=#[λi H=>H d\.frz o (.dK kvs)/\i<kvs.length,λi H x H'=>H'=H/\∃k,kvs[i]? = some (k,x),λi H=>H d\.frz o (.dK kvs)/\kvs.length<=i]
def NV{X:Cx}{π:List (Addr × Obj)}{σ:St}{H:Hp}{s:Ab}{d:Addr}{kvs:List (Key × V)}{o:Obj}{es:Array DictEntry}{ep:Nat}(I:!In H s)(h:H d\.frz o (.dK kvs))(ho:o.data=.dict es ep):∃vs,KV kvs vs/\s.heap.DictAt (eD X.prog X.w) d vs ep:=by
 let#[e,z,hd,vs,rel,o',ML,MM,e',c',d',r]:=I.ay d _ h;rw[e] at e';cases e';rw[ho] at d';cases d';exact#[vs,rel,o,es,e,c',ho,r]
def MK{κ:Type}{kvs:List (κ × V)}{vs:List (κ × Aa)}(r:KV kvs vs):∀(i:Nat){k:κ}{x:V},kvs[i]? = some (k,x)->∃u,vs[i]? = some (k,u)/\RelV x u:=by
 induction r with
 |nil=>intro i k x e;simp at e
 |@cons p q _ _ h _ ih=>
  intro i k x e;cases i with
  |zero=>
   have e:p=(k,x):=⇑e
   subst e;apply#[q.2,?_,h.2];rw[List.getElem?_cons_zero];have h1:k=q.1:=h.1;rw[h1]
  |succ i=>exact ih i ⇑e
def hr_{P:Ad}{w:Af}{K:af}{tg:Expr}(d it:Addr)(o:Obj)(kvs:List (Key × V)){es:Array DictEntry}{ep:Nat}(ho:o.data=.dict es ep):Turn P w K tg (Itv d o kvs) [it] it (λi h=>h.IsValIter it d i kvs.length ep) where
 mem:=by simp
 obj:=λi h st b hb=>by
  obtain rfl:b=it:=⇑hb
  let#[o,e,c,d]:=st;exact#[o,e,λv z=>by rw[d] at z;cases z]
 keep:=λi h h' st k=>st.at λo e=>k it Z2 o e
 item:=by
  intro X hP hw hK hc i π s σ H E I hf st hg;subst hP hw hK;let#[hd,hi]:=hg;let#[vs,rel,dat]:=NV I hd ho;obtain⟨⟨k,x⟩,hx⟩:∃p,kvs[i]? = some p:=#[kvs[i],by simp[hi]];let#[u,hu,ru]:=MK rel i hx;let#[f0,f1,f2,f3,f4,f5]:=hf it Z2;rw[rel.length] at st;apply wpAny_pyNext_values_item st dat hu λh' fu sb=>?_;have I1:!In H { s with heap:=h' }:=I.turned (t':=s.toks) (λb o hb e=>(sb.2 b hb).trans e) f0 f1 f3 f4 f5;let#[o',e,c,dd]:=id fu;apply#[u,Z,Ia (s:={ s with heap:=h' }) e c dd (by decide) #[x,H,I1,ru,#[Z,k,hx],?_,λb hb=>(hf b hb).1]];show h'.IsValIter it d (i+1) kvs.length ep;rw[rel.length];exact fu
 done:=by
  intro X hP hw hK hc i π s σ H E I hf st hg;subst hP hw hK;let#[hd,hi]:=hg;let#[vs,rel,dat]:=NV I hd ho;let#[f0,f1,f2,f3,f4,f5]:=hf it Z2;rw[rel.length] at st hi;exact wpAny_pyNext_values_end (I.ok.hd hc) st dat (by simp;omega) λh' eb=>#[Z,I.turned (t':=s.toks) (λb o hb e=>eb b o hb e) f0 f1 f3 f4 f5]
 self:=λ_ _ _ _ _ st h=>wpAny_pyIter_valiter st h
inductive vw(R:It->Hp->Prop)(x:V)(H1:Hp):Prop
 |mk:∀v d kvs,x=.ref v->H1 v\qX v d->H1 d\.dK kvs->(∀o,R (Itv d o kvs) (upd H1 d (.frz o (.dK kvs))))->vw R x H1
def Ie(tv:TE):TI:=λσ H R=>tv σ H λx H1=>vw R x H1
def kG_{X:Cx}{tg e:Expr}{tv:TE}(he:PE X e tv):PI X tg e (Ie tv):=by
 intro π s σ H R I h;apply aU (he π s σ H _ I h) λu s1 ⟨x,H1,I1,r1,v,d,kvs,ex,hv,hd,q⟩=>?_;subst ex;cases r1;let#[iv,_,_]:=I1.ay v _ hv;let#[o,ho,I2]:=I1.freeze hd;let#[z,_,vs,rel,o',es,ep,kI,c',dt,r]:=C7 I1.ay hd;rw[ho] at kI;cases kI;have nZ:v≠d:=aR hv hd nofun;apply wpAny_pyIter_values (knd:=eD X.prog X.w) (kvs:=vs) (ep:=ep) iv #[o,es,ho,c',dt,r] ?_;apply#[s1.heap.objs.size,[s1.heap.objs.size],_,_,_,Z,I2.kept (t':=s1.toks) λb o e=>b_ _ e,hr_ d _ o kvs dt,?_,λb hb=>?_,q o]
 ·rw[rel.length];exact#[_,eL _ Z,Z,Z]
 obtain rfl:b=s1.heap.objs.size:=⇑hb
 exact I2.kL (bD _) (I2.ay.fresh (bD _))
def UW(x:Str):It:=#[λi _=>i<x.cps.size,λi H v H'=>H'=H/\∃c,x.cps[i]? = some c/\v=.str ⟨(List.toArray [c])⟩,λi _=>x.cps.size<=i]
def gh_{P:Ad}{w:Af}{K:af}{tg:Expr}(it:Addr)(x:Str)(t:Tok):Turn P w K tg (UW x) [it] it (λi h=>i<=x.cps.size/\h.IsStrIter it "str_ascii_iterator" x t i) where
 mem:=by simp
 obj:=λi h st b hb=>by
  obtain rfl:b=it:=⇑hb
  let#[o,e,c,d]:=st.2;exact#[o,e,λv z=>by rw[d] at z;cases z]
 keep:=λi h h' st k=>#[st.1,let #[o,ho,r]:=st.2;#[o,k it Z2 o ho,r]]
 item:=by
  intro X hP hw hK hc i π s σ H E I hf st hg;subst hP hw hK;have hg:i<x.cps.size:=hg;let#[f0,f1,f2,f3,f4,f5]:=hf it Z2;apply wpAny_pyNext_ascii_item st.2 (c:=x.cps[i]) (by simp[hg]) λh' fu sb=>?_;have I1:!In H { s with heap:=h',toks:=s.toks+1 }:=I.turned (t':=s.toks+1) (λb o hb e=>(sb.2 b hb).trans e) f0 f1 f3 f4 f5;let#[o',e,c,dd]:=id fu;exact#[_,Z,Ia (s:={ s with heap:=h',toks:=s.toks+1 }) e c dd (by decide) #[.str ⟨(List.toArray [x.cps[i]])⟩,H,I1,#[_,Z],#[Z,_,by simp[hg],Z],#[hg,fu],λb hb=>(hf b hb).1]]
 done:=by
  intro X hP hw hK hc i π s σ H E I hf st hg;subst hP hw hK;have hg:x.cps.size<=i:=hg;let#[f0,f1,f2,f3,f4,f5]:=hf it Z2;exact wpAny_pyNext_ascii_end (I.ok.hd hc) st.2 (by simp[hg]) λh' eb=>#[Z,I.turned (t':=s.toks) (λb o hb e=>eb b o hb e) f0 f1 f3 f4 f5]
 self:=λ_ _ _ _ _ st h=>wpAny_pyIter_striter_ascii st.2 h
def i3_{P:Ad}{w:Af}{K:af}{tg:Expr}(it:Addr)(x:Str)(t:Tok):Turn P w K tg (UW x) [it] it (λi h=>i<=x.cps.size/\h.IsStrIter it "str_iterator" x t i) where
 mem:=by simp
 obj:=λi h st b hb=>by
  obtain rfl:b=it:=⇑hb
  let#[o,e,c,d]:=st.2;exact#[o,e,λv z=>by rw[d] at z;cases z]
 keep:=λi h h' st k=>#[st.1,let #[o,ho,r]:=st.2;#[o,k it Z2 o ho,r]]
 item:=by
  intro X hP hw hK hc i π s σ H E I hf st hg;subst hP hw hK;have hg:i<x.cps.size:=hg;let#[f0,f1,f2,f3,f4,f5]:=hf it Z2;apply wpAny_pyNext_wide_item st.2 (c:=x.cps[i]) (by simp[hg]) λh' fu sb=>?_;have I1:!In H { s with heap:=h',toks:=s.toks+1 }:=I.turned (t':=s.toks+1) (λb o hb e=>(sb.2 b hb).trans e) f0 f1 f3 f4 f5;let#[o',e,c,dd]:=id fu;exact#[_,Z,Ia (s:={ s with heap:=h',toks:=s.toks+1 }) e c dd (by decide) #[.str ⟨(List.toArray [x.cps[i]])⟩,H,I1,#[_,Z],#[Z,_,by simp[hg],Z],#[hg,fu],λb hb=>(hf b hb).1]]
 done:=by
  intro X hP hw hK hc i π s σ H E I hf st hg;subst hP hw hK;have hg:x.cps.size<=i:=hg;let#[f0,f1,f2,f3,f4,f5]:=hf it Z2;exact wpAny_pyNext_wide_end (I.ok.hd hc) st.2 (by simp[hg]) λh' eb=>#[Z,I.turned (t':=s.toks) (λb o hb e=>eb b o hb e) f0 f1 f3 f4 f5]
 self:=λ_ _ _ _ _ st h=>wpAny_pyIter_striter_wide st.2 h
inductive Az(R:It->Hp->Prop)(v:V)(H1:Hp):Prop
 |mk:∀x,v=.str x->R (UW x) H1->Az R v H1
def Qr(tl:TE):TI:=λσ H R=>tl σ H λv H1=>Az R v H1
def lQ_{X:Cx}{tg l:Expr}{tl:TE}(hl:PE X l tl):PI X tg l (Qr tl):=by
 intro π s σ H R I h;apply aU (hl π s σ H _ I h) λv s1 ⟨y,H1,I1,r1,x,e,q⟩=>?_;subst e;let#[t,rfl]:=r1
 have fp:∀b∈[s1.heap.objs.size],dc X π H1 b:=λb hb=>by
  obtain rfl:b=s1.heap.objs.size:=⇑hb
  exact I1.kL (bD _) (I1.ay.fresh (bD _))
 cases ha:x.cps.all (· < 128)
 ·apply wpAny_pyIter_wide ha ?_;exact#[s1.heap.objs.size,[s1.heap.objs.size],_,_,H1,Z,I1.kept (t':=s1.toks) λb o e=>b_ _ e,i3_ _ x t,#[gQ _,_,eL _ Z,Z,Z],fp,q]
 apply wpAny_pyIter_ascii ha ?_;exact#[s1.heap.objs.size,[s1.heap.objs.size],_,_,H1,Z,I1.kept (t':=s1.toks) λb o e=>b_ _ e,gh_ _ x t,#[gQ _,_,eL _ Z,Z,Z],fp,q]
def Pi{X:Cx}{f:Aa->Aa->Sem Aa}{K:af}(r:af->R2)(h:eG X f (r X.K))(hK:X.K=K:=by rfl):eG X f (r K):=by
 subst hK;exact h
def EZ{X:Cx}{f:Aa}{K:af}(r:af->ag->Hp->VK->Prop)(h:gF X f (r X.K))(hK:X.K=K:=by rfl):gF X f (r K):=by
 subst hK;exact h
def Cg{X:Cx}{K:af}(r:af->R2)(h:FN X (r X.K))(hK:X.K=K:=by rfl):FN X (r K):=by
 subst hK;exact h
abbrev GY(K:af):=UF K
def Ui{X:Cx}{K:af}(hK:X.K=K:=by rfl):gF X (.builtin "len") (GY K):=EZ GY l0 hK
def JY{X:Cx}{N:ae}{scope:Scope}{fp:ai}{s:Ab}{H:Hp}{es:List Expr}{k:Nat}{pos:Pos}{t:Ea}{n:Nat}(h:K5 (iC X N scope fp s H) es t)(hc:X.calm=true:=by rfl)
 (hn:(assignEach es (iC X N scope fp s H).env).length=n:=by rfl)(gT:(assignEach es (iC X N scope fp s H).env).findIdx? (·.1)=none:=by rfl):PG (iC X N scope fp s H) (.Tuple es k pos) (kK X.K n t):=qP (X:=iC X N scope fp s H) hc h hn gT
end L2
abbrev Dz:PySem.Str:="ways_by_name"
abbrev zh:PySem.Str:="_law_script"
abbrev zp:PySem.Str:="_law_digit"
abbrev Dy:PySem.Str:="checked_piece"
abbrev Di:PySem.Str:="checked_words"
abbrev C9:PySem.Str:="pieces_by_hand"
abbrev lG:PySem.Str:="multiple_of_strengths"
abbrev zc:PySem.Str:="hand_by_name"
abbrev Df:PySem.Str:="rising_neighbours"
abbrev C8:PySem.Str:="neighbours_by_hand"
abbrev xc:PySem.Str:="piece_by_name"
abbrev xi:PySem.Str:="weight_by_name"
abbrev rT:PySem.Str:="level_by_hand"
abbrev xa:PySem.Str:="strength_by_hand"
abbrev rR:PySem.Str:="heaviest_first"
abbrev iE:PySem.Str:="_law_state"
abbrev Dg:PySem.Str:="abcdefghijklmnopqrstuvwxyz"
abbrev lX:PySem.Str:="load_by_hand"
abbrev lR:List PySem.Str:=["self","one","other"]
abbrev dG:List PySem.Str:=["self"]
abbrev jK:List PySem.Str:=["self","hand"]
abbrev lV:List PySem.Str:=["goods","placed"]
abbrev xb:List PySem.Str:=["sight","hand","words"]
abbrev f_:List PySem.Str:=["thing"]
abbrev yZ:List PySem.Str:=["sight","rule","moment"]
abbrev qL:List PySem.Str:=["self","thing"]
abbrev A0:List PySem.Str:=[iE,"_law_base"]
abbrev lE:List PySem.Str:=["sight","one","other","guard","given"]
abbrev AW:List PySem.Str:=["name","weight","ways"]
abbrev rV:List PySem.Str:=["one","other"]
abbrev wu:List PySem.Str:=[iE,"_law_names_here","_law_hands","_law_ties"]
abbrev EW:List PySem.Str:=["thing","least","most"]
abbrev EV:List PySem.Str:=["sight","hand","guard"]
abbrev E1:List PySem.Str:=["_law_yard","_law_rows"]
abbrev AY:List PySem.Str:=["self","piece"]
abbrev lC:List PySem.Str:=["self","goods","placed"]
abbrev qa:List PySem.Str:=["self","piece","one","other"]
abbrev wm:List PySem.Str:=["_law_hand","_law_load","_law_due"]
abbrev p_:List PySem.Str:=[iE,"_law_many"]
abbrev p9:List PySem.Str:=["guard","lead","burden"]
abbrev p8:List PySem.Str:=["_law_tie",iE]
abbrev p7:List PySem.Str:=["self","weight","hand"]
abbrev p6:List PySem.Str:=[zh,"_law_k"]
abbrev E3:List PySem.Str:=["web","piece"]
namespace Ev
open PySem L2
def top(i:Nat):Stmt:=PySem.Challenge.pw_evenpieces_k62_thirty_pieces.main.body.getD i (.Pass #[0,0,0,0])
abbrev BP:Stmt:=top 11
abbrev mR:Stmt:=top 13
abbrev uz:Stmt:=top 14
abbrev Sv:Stmt:=top 15
abbrev ux:Stmt:=top 16
abbrev Sh:Stmt:=top 17
abbrev uM:Stmt:=top 18
abbrev uF:Stmt:=top 25
abbrev BN:Stmt:=top 26
abbrev uq:Stmt:=top 27
abbrev uy:Stmt:=top 28
abbrev jt:Stmt:=top 30
def pF(a b:Str):Bool:=decide (a.cps.toList<b.cps.toList)
def aP(a b:Str):Str × Str:=if pF a b=true then (a,b) else (b,a)
section v
def bI{N p:List Str}{c:Scope}(h:bA N p c:=by exact#[Z,Z,Z,by decide +kernel,Z,by decide +kernel,by decide +kernel]):bA N p c:=h
def ue:bA rV rV (aM Sv):=bI
def NN:Sp:=λvs H Q _=>∃a b,vs=[.str a,.str b]/\∀t,H t=none->Q (.ref t) (upd H t (.tup [.str (aP a b).1,.str (aP a b).2]))
def ir_{f:Addr}{fd:Ae}(F:bc K "lesser_first" "lesser_first" Sv f fd):!ak bg 1 f fd rV NN:=by
 exists F.bN ue;let#[a,b,rfl,k]:=h;apply#[_,aK (bw (j6_ (dm ip_ (pv 0) (pv 1)) (dS %[0,1|0]) (dS %[1,0|0]))),?_];apply#[_,Z,_,Z,a,b,Z,Z,_,Z,?_];apply br (λc=>?_) (λc=>?_)
 ·apply#[_,Z,_,Z,zl,λt ht=>?_];have:=k t ht;rwa [show aP a b=(a,b) from aF c] at this
 apply#[_,Z,_,Z,zl,λt ht=>?_];have:=k t ht;rwa [show aP a b=(b,a) from aA c] at this
def xP:bA EW EW (aM mR):=bI
def Nl:Sp:=λvs H Q _=>∃i a b:Int,vs=[.int i,.int a,.int b]/\Q (.bl (decide (a<=i)&&decide (i<=b))) H
structure Bi(mg:Str->Option Aa):Prop where
 iL:mg "isinstance"=none
 int:mg "int"=none
 bool:mg "bool"=none
 str:mg "str"=none
 tuple:mg "tuple"=none
 list:mg "list"=none
 dict:mg "dict"=none
 len:mg "len"=none
 all:mg "all"=none
 sorted:mg "sorted"=none
 max:mg "max"=none
 range:mg "range"=none
 any:mg "any"=none
 enum:mg "enumerate"=none
 min:mg "min"=none
 abs:mg "abs"=none
structure bH(P:Ad)(w:Af)(K:af)(mg:Str->Option Aa)(base:Heap)(k:Nat)(x:Str)(ps:ae)(sp:Sp):Prop where
 ex:∃f fd,ak P w K mg base bg k f fd ps sp/\mg x\.ref f/\PySem.W.keepIn K (.ref f)=true/\kX K fd ps []
def bp{n_:Nat}{X:Cx}{k:Nat}{x:Str}{ps:ae}{sp:Sp}{p pos:Pos}{e:Expr}{es:List Expr}{t:TA}(c:bH X.prog X.w X.K X.mg X.base k x ps sp)(hr:aI n_ X.A)(ha:PA X (e::es) t)(hg:Gl X x:=by rfl)(qG:(x == ("__debug__":Str))=false:=by decide)
 (he:starEach (e::es) X.env=(false,eval e X.env)::starEach es X.env:=by rfl)(fX:(backTo pos (starEach es X.env)).any (·.1)=false:=by rfl)(hk:k<=n_:=by decide):PE X (.Call (.Name x p) (e::es) [] pos) (tF sp [] E0 t):=by
 let#[f,fd,F,m,kp,b]:=c.ex;exact Yr F (hr.mono hk) hg m kp b .nil pA ha qG he fX
def GS:bA f_ f_ (aM BP):=bI
def tN:Sp:=λvs H Q _=>∃i:Int,vs=[.int i]/\Q (.bl true) H
def m0_{f:Addr}{fd:Ae}(F:bc K "is_whole" "is_whole" BP f fd)(B:Bi mg):!ak bg 1 f fd f_ tN:=by
 exists F.bN GS;let#[i,rfl,k]:=h;apply#[_,aK (bw (qO (cO oB (by rfl) B.iL iV %[0,l7 (v:=.ty "int") (by rfl) B.int PyProof.Rows.Boot.«int» rfl|0]) (qQ (lO_ (cO oB (by rfl) B.iL iV %[0,l7 (v:=.ty "bool") (by rfl) B.bool PyProof.Rows.Boot.«bool» rfl|0]))))),?_];exact#[_,Z,_,_,_,_,Z,.int i,Z,_,Z,cz #[_,Z,_,_,_,_,Z,.int i,Z,_,Z,k]]
def jk_{f:Addr}{fd:Ae}(F:bc K "is_whole_within" "is_whole_within" mR f fd)(cI:!bH 1 "is_whole" f_ tN):!ak bg 2 f fd EW Nl:=by
 exists F.bN xP;let#[i,a,b,rfl,k]:=h;apply#[_,aK (bw (qO (bp cI hr %[0|0]) (qQ (YJ AU AU (pv 1) (pv 0) (pv 2))))),?_];apply#[_,Z,i,Z,_,Z,cz ?_];apply#[_,Z,_,Z,_,_,Z,Z,_,Z,?_];apply br (λc=>?_) (λc=>?_)
 ·apply#[_,Z,_,_,Z,Z,?_];rw[c] at k;exact k
 rw[show decide (a<=i)=false by simpa using c] at k;exact k
def kA(c:Nat):Bool:=decide (97<=c)&&decide (c<=122)
def eY(x:Str):Bool:=decide (1<=x.length)&&decide (x.length<=8)&&x.cps.toList.all kA
def BB:bA f_ f_ (aM uz):=bI
def J7:Sp:=λvs H Q _=>∃x:Str,vs=[.str x]/\x.length<=100000/\∀H',aa H H'->Q (.bl (eY x)) H'
def kA_{c:Nat}:(!decide ((⟨(List.toArray [c])⟩:Str).cps.toList<("a":Str).cps.toList))=decide (97<=c):=by
 have e:("a":Str).cps.toList=[97]:=by decide +kernel
 rw[e];show (!decide ([c] < [97]))=decide (97<=c);by_cases h:97<=c
 ·have:¬[c] < [97]:=by simp[List.cons_lt_cons_iff];omega
  simp[this,h]
 have:[c] < [97]:=by simp[List.cons_lt_cons_iff];omega
 simp[this,h]
def kY_{c:Nat}:(!decide (("z":Str).cps.toList<(⟨(List.toArray [c])⟩:Str).cps.toList))=decide (c<=122):=by
 have e:("z":Str).cps.toList=[122]:=by decide +kernel
 rw[e];show (!decide ([122] < [c]))=decide (c<=122);by_cases h:c<=122
 ·have:¬[122] < [c]:=by simp[List.cons_lt_cons_iff];omega
  simp[this,h]
 have:[122] < [c]:=by simp[List.cons_lt_cons_iff];omega
 simp[this,h]
def kj_{f:Addr}{fd:Ae}(F:bc K "is_name" "is_name" uz f fd)(B:Bi mg){t8:Tok}(m8:mg "MOST_LETTERS"\.int 8 t8):!ak bg 1 f fd f_ J7:=by
 exists F.bN BB;let#[x,rfl,hz,k]:=h;let sz:=cX
 apply#[_,ao (bQ (rY (fP (fo (cO oB (by rfl) B.iL iV %[0,l7 (v:=.ty "str") (by rfl) B.str Fb Z|0])))
   (sr (fP (YB AU AU aH (cO eo_ (by rfl) B.len jH %[0|0]) (qR (v:=.int 8) (by rfl) m8 #[t8,Z]))))).pt (aK (bw w9)) bR)
  (aK (bw (cO (Y9 Z) (by rfl) B.all PyProof.Rows.Boot.«all» (eV
   (pX ["letter"] 1 [] (lQ_ (pv 0)) (λfp s H=>gy (i:=0) (show (["letter"]:ae).Nodup by decide +kernel) Z (Or.inl Z)) (λfp s H=>lW) (λfp s H=>YJ ZP ZP bL (pv 0) bL)) aX)))),?_]
 apply#[_,Z,_,_,_,_,Z,.str x,Z,_,Z,?_];apply a_ ?_;apply#[_,Z,x,Z,by omega,_,_,Z,Z,_,Z,?_]
 have fin:(decide (1<=x.length)&&decide (x.length<=8))=false->∀H',aa H H'->Q (.bl false) H':=λe H' sm=>by
  have:=k H' sm;rwa [show eY x=false by unfold eY;rw[e];rfl] at this
 apply br (λc=>?_) (λc=>?_)
 ·have c1:1<=x.length:=by
   have:(1:Int)<=(x.length:Int):=⇑c
   omega
  apply#[_,_,Z,Z,_,Z,?_];apply br (λc2=>?_) (λc2=>?_)
  ·-- too long
   have c3:¬x.length<=8:=by
    have:¬((x.length:Int)<=8):=⇑c2
    omega
   exact fin (by rw[d7 c3,Bool.and_false]) H (aa.refl H)
  have c3:x.length<=8:=by
   have:(x.length:Int)<=8:=⇑c2
   omega
  apply#[_,Z,x,Z,λD hD=>?_]
  let bx:eI:=λi out H'=>H'=upd H D (.lst out)/\out=((x.cps.toList.take i).map kA).map V.bl
  apply M0 (own:=1) (fv:=[]) Z gr x.cps.size bx #[Z,by simp] (λout H' ⟨e1,e2⟩=>?_) (λi out H' hi ⟨e1,e2⟩=>?_)
  ·apply#[bD _,D,x.cps.toList.map kA,Z,.of ?_,?_]
   ·rw[e1,aE,e2,xv Z2]
   have:=k H' (by rw[e1];exact aa.new hD);rwa [show eY x=(x.cps.toList.map kA).all id by unfold eY;rw[cj c1,cj c3,List.all_map];rfl] at this
  apply#[hi,λv H2 y=>?_];let#[eH,c,hc,rfl]:=y;subst eH;apply#[_,Z,Z,λNx hN=>fD ?_]
  have lo:out.length<sizeLine:=by
   rw[e2];have hs:x.length=x.cps.size:=rfl;simp only[aq,dZ,we];omega
  have nx:Nx (upd H2 D (.lst (out++[V.bl (kA c)]))):=hN (out++[V.bl (kA c)]) _ #[by rw[e1,kS_],by
   rw[e2,lB];simp[hc]]
  have _X:H2 D\.lst out:=by rw[e1,aE]
  apply#[_,Z,_,_,Z,Z,_,Z,?_];rw[kA_];apply br (λc2=>?_) (λc2=>?_)
  ·apply#[_,_,Z,Z,out,_X,lo,?_];rw[kY_];rwa [show kA c=decide (c<=122) by unfold kA;rw[c2];rfl] at nx
  apply#[out,_X,lo,?_];rwa [show kA c=false by unfold kA;rw[show decide (97<=c)=false by simpa using c2];rfl] at nx
 have c1:¬1<=x.length:=by
  have:¬((1:Int)<=(x.length:Int)):=⇑c
  omega
 exact#[_,Z,cz (fin (by rw[d7 c1];rfl) H (aa.refl H))]
end
def kT(t:Str × Str):ax:=[.inr t.1,.inr t.2]
def AX(t:Str × Str):Prop:=eY t.1=true/\eY t.2=true/\t.1≠t.2
def DQ{x:Str}(h:eY x=true):x.length<=8:=by
 unfold eY at h;simp only[pZ,decide_eq_true_eq] at h;exact h.1.2
def AB{H:Hp}{p:Addr}{t:Str × Str}(h:H p\.tup ((kT t).map kV)):H p\.tup [.str t.1,.str t.2]:=h
section v
def BA:bA f_ f_ (aM ux):=bI
def tL:Sp:=λvs H Q _=>∃(p:Addr) (a b:Str),vs=[.ref p]/\H p\.tup [.str a,.str b]/\a.length<=100000/\b.length<=100000/\∀H',aa H H'->Q (.bl (eY a&&eY b&&!decide (a=b))) H'
def k7_{f:Addr}{fd:Ae}(F:bc K "is_pair_of_names" "is_pair_of_names" ux f fd)(B:Bi mg)(cN:!bH 1 "is_name" f_ J7):!ak bg 2 f fd f_ tL:=by
 exists F.bN BA;let#[p,a,b,rfl,hp,la,lb,k]:=h
 apply#[_,ao (bQ (rY (fP (fo (cO oB (by rfl) B.iL iV %[0,l7 (v:=.ty "tuple") (by rfl) B.tuple NI Z|0])))
   (sr (dm ze (cO l0 (by rfl) B.len jH %[0|0]) aH))).pt (aK (bw w9)) bR)
  (aK (bw (qO (bp cN hr %[bE cg (pv 0) aH|0]) (qO (bp cN hr %[bE cg (pv 0) aH|0])
   (qQ (sd ze (bE cg (pv 0) aH) (bE cg (pv 0) aH))))))),?_]
 apply#[_,Z,_,_,_,_,Z,.tup hp,Z,_,Z,a_ ?_];apply#[_,Z,p,_,Z,.inr (.of hp),Z,_,Z,?_];apply Dn (show V.int ((2:Nat):Int)=V.int 2 from Z) ?_;apply#[_,Z,p,_,_,_,Z,Z,.of hp,Z,a,Z,la,λH1 s1=>#[_,Z,?_]];let EB:=s1 _ _ hp;apply br (λc=>?_) (λc=>?_)
 ·apply#[_,Z,p,_,_,_,Z,Z,.of EB,Z,b,Z,lb,λH2 s2=>#[_,Z,?_]];let lO:=s2 _ _ EB;let kk:=k H2 (s1.trans s2);apply br (λc2=>?_) (λc2=>?_)
  ·apply#[_,Z,p,_,_,_,Z,Z,.of lO,Z,_,Z,p,_,_,_,Z,Z,.of lO,Z,Z,?_];rw[c,c2] at kk
   have e:decide (V.str a=V.str b)=decide (a=b):=by
    by_cases z:a=b
    ·simp[z]
    simp[z]
   show Q (.bl (!decide (V.str a=V.str b))) H2;rw[e];exact kk
  rw[c,show eY b=false by simpa using c2] at kk;exact kk
 let kk:=k H1 s1;rw[show eY a=false by simpa using c] at kk;exact kk
def NL:bA ["ties","found","pair","tie"] ["ties"] (aM Sh):=bI
def Th(K:af):Sp:=λvs H Q _=>∃(l:Addr) (ys:ag) (ts:Xb),vs=[.ref l]/\H l\.lst ys/\bj K H ys (ts.map kT)/\(∀t∈ts,AX t)/\(ts.map λt=>kT (aP t.1 t.2)).Nodup/\ts.length<64 /\
 ∀l' zs H',aa H H'->H l'=none->H' l'\.lst zs->bj K H' zs (aN (ts.map λt=>kT (aP t.1 t.2)))->Q (.ref l') H'
def oA{α β γ:Type}{F:α->γ->Prop}{g:β->γ}{ys:List α}{ts:List β}(t:Paired F ys (ts.map g)){i:Nat}{y:α}(h:ys[i]? = some y):∃x,ts[i]? = some x/\F y (g x):=by
 have hi:i<ys.length:=(cK.mp h).1;let hl:=bG t;rw[aq] at hl;have:=jg t i hi (by rw[aq];omega);rw[List.getElem_map] at this;apply#[ts[i],cE Z1,?_];rw[(cK.mp h).2] at this;exact this
def wj{κ:Type}[DecidableEq κ]{kvs:List (κ × V)}{k:κ}(h:k∉kvs.map (·.1)):a9 kvs k=none:=by
 cases e:a9 kvs k with
 |none=>rfl
 |some v=>exact absurd (kK_ e) h
def FJ{α β:Type}(g:α->β){ts:List α}{i:Nat}{x:α}(h:ts[i]? = some x):(ts.take (i+1)).map g=(ts.take i).map g++[g x]:=by
 rw[lB,h,cZ];rfl
def KL{α β:Type}{g:α->β}{ts:List α}{i:Nat}{x:α}(h:(ts.map g).Nodup)(hx:ts[i]? = some x):g x∉(ts.take i).map g:=by
 intro m;have hi:i<ts.length:=(cK.mp hx).1;let#[y,hy,e]:=bo.mp m;let#[j,hj,e2]:=j3 hy;rw[dZ] at hj;rw[List.getElem_take] at e2;rw[wk,md,List.pairwise_iff_getElem] at h;apply h j i Z1 hi Z1 ?_;rw[e2,e,(cK.mp hx).2]
def h6_{f:Addr}{fd:Ae}(F:bc K "sorted_ties" "sorted_ties" Sh f fd)(B:Bi mg)(cP:!bH 2 "is_pair_of_names" f_ tL)(cL:!bH 1 "lesser_first" rV NN):!ak bg 3 f fd ["ties"] (Th K):=by
 exists F.bN NL;let#[l,ys,ts,rfl,hl,tu,good,nd,dC,k]:=h;let hu:=gE hr;let sz:=cX
 apply#[_,ao (bQ (fP (fo (cO oB (by rfl) B.iL iV %[0,l7 (v:=.ty "list") (by rfl) B.list A6 Z|0]))) fC bR)
  (ao (bC 1 NL.nd jo_)
  (ao (gc fV Z (eS (pv 0)) (dF 2 NL.nd)
   (ao (bQ (fP (fo (bp cP hr %[2|0]))) fC bR)
   (ao (bC 3 NL.nd (bp cL hr %[bE cg (pv 2) aH,bE cg (pv 2) aH|0]))
   (ao (bQ (xj (Dr hu (pv 3) (pv 1))) fC bR)
   (aK (xn hu (pv 1) (pv 3) w9 Z))))))
  (aK (bw (cO (eS_ Z) (by rfl) B.sorted Fu %[1|0]))))),?_]
 apply#[_,Z,_,_,_,_,Z,.lst hl,Z,_,Z,a_ ?_];intro d hd;have s0:aa H (upd H d (.dT [])):=aa.new hd
 let bx:bX:=λi σ H2=>∃(v3 v4:aQ),σ=[some (.ref l),some (.ref d),v3,v4]/\aa H H2/\H2 d\.dT ((ts.take i).map λt=>(kT (aP t.1 t.2),V.bl true))
 apply#[_,Z,l,Z,#[_,.of (s0 _ _ hl)],jh (K:=K) (a:=l) (xs:=ys) bx #[none,none,Z,s0,aE] (λi σ H2 _ ⟨_,_,_,s2,_⟩=>.of (s2 _ _ hl)) ?_ ?_]
 ·rintro i y σ H2 hy ⟨v3,v4,rfl,s2,hd2⟩;let#[t,ht,a,rfl,ha]:=oA tu hy;let#[g1,g2,g3]:=good t (dz ht);let rM:=s2 _ _ (AB ha);apply#[_,Z,a,t.1,t.2,Z,rM,by have:=DQ g1;omega,by have:=DQ g2;omega,λH3 s3=>#[_,Z,?_]];let lP:=s3 _ _ rM;let vL:=s3 _ _ hd2;rw[g1,g2,d7 g3];apply a_ ?_;apply#[_,Z,a,_,_,_,Z,Z,.of lP,Z,_,Z,a,_,_,_,Z,Z,.of lP,Z,t.1,t.2,Z,λb hb=>?_];have s4:aa H3 (upd H3 b (.tup [.str (aP t.1 t.2).1,.str (aP t.1 t.2).2])):=aa.new hb;let AK:=s4 _ _ vL;have X3:upd H3 b (.tup [.str (aP t.1 t.2).1,.str (aP t.1 t.2).2]) b\.tup ((kT (aP t.1 t.2)).map kV):=aE
  have pC:a9 ((ts.take i).map λt=>(kT (aP t.1 t.2),V.bl true)) (kT (aP t.1 t.2))=none:=wj (by
   rw[bU];exact KL (g:=λt=>kT (aP t.1 t.2)) nd ht)
  apply#[_,Z,_,Z,d,_,Z,.t (k:=kT (aP t.1 t.2)) AK X3,_,Z,?_];rw[pC];apply a_ ?_;apply#[_,Z,_,Z,d,_,Z,.t (k:=kT (aP t.1 t.2)) AK X3 (by rw[aq,dZ];omega),?_];apply#[_,_,Z,λc o e=>?_,?_]
  ·rw[aD (bB e hd)];exact s4 _ _ (s3 _ _ (s2 _ _ e))
  rw[aE,DV _ pC,FJ _ ht]
 rintro σ H2 ⟨v3,v4,rfl,s2,hd2⟩;let le:=bG tu;rw[aq] at le;rw[le,gG] at hd2;apply#[_,Z,d,_,[true,true],Z,hd2,#[by decide,λk hk=>?_],by rw[aq];exact dC,λl' zs hn tz=>?_]
 ·rw[bU] at hk;let#[t,_,rfl]:=bo.mp hk;rfl
 rw[bU] at tz;exact k l' zs _ (s2.trans (aa.new hn)) (s2.free hn) aE (tz.same (aa.new hn))
def BL:bA ["ties"] ["ties"] (aM uM):=bI
def tS(K:af):Sp:=λvs H Q _=>∃(l:Addr) (ys:ag) (ts:Xb),vs=[.ref l]/\H l\.lst ys/\bj K H ys (ts.map kT)/\ts.length<=1000 /\
 ∀l' zs H',aa H H'->H l'=none->H' l'\.lst zs->bj K H' zs (ts.map kT)->Q (.ref l') H'
def DO{K:af}{H:Hp}{ys:ag}{ks:List ax}{a:Addr}{k:ax}(t:bj K H ys ks)(h:H a\.tup (k.map kV)):bj K H (ys++[.ref a]) (ks++[k]):=Paired.snoc t #[a,Z,h]
def jP{H H1:Hp}{D:Addr}{o:HO}(h:aa H H1)(hD:H D=none):aa H (upd H1 D o):=λb u e=>by rw[aD (bB e hD)];exact h b u e
def k_{K:af}{H:Hp}{ys:ag}{ks:List ax}{D:Addr}{o:HO}{xs:ag}(t:bj K H ys ks)(hD:H D\.lst xs):bj K (upd H D o) ys ks:=Paired.bJ t λy k ⟨a,z,q⟩=>#[a,z,by rw[aD (aR q hD nofun)];exact q]
def k9_{f:Addr}{fd:Ae}(F:bc K "ties_anew" "ties_anew" uM f fd):!ak bg 1 f fd ["ties"] (tS K):=by
 exists F.bN BL;let#[l,ys,ts,rfl,hl,tu,hz,k]:=h;let sz:=cX
 apply#[_,aK (bw (pX rV 2 [] (eS (pv 0)) (λfp s H=>JY (n:=2) (eF (gy (i:=0) (show (rV:ae).Nodup by decide +kernel) Z (Or.inl Z)) (eF (gy (i:=1) (show (rV:ae).Nodup by decide +kernel) Z (Or.inl Z)) kZ)))
  (λfp s H=>lW) (λfp s H=>dS %[0,1|0]))),?_]
 apply#[_,Z,l,Z,#[_,.of hl],λD hD=>?_];let le:=bG tu;rw[aq] at le
 let ck:eI:=λi out H'=>aa H H'/\H' D\.lst out/\bj K H' out ((ts.take i).map kT)
 apply p0 (own:=2) (fv:=[]) (xs:=ys) Z CV ck #[aa.new hD,aE,.nil] (λi out H' _ ⟨sm,_,_⟩=>.of (sm _ _ hl)) (λout H' ⟨sm,hd,tz⟩=>?_) (λi x out H' hx ⟨sm,hd,tz⟩=>?_)
 ·rw[le,gG] at tz;exact k D out H' sm hD hd tz
 let#[t,ht,a,rfl,ha]:=oA tu hx;apply#[_,#[a,_,_,Z,.of (sm _ _ (AB ha)),Z],Z,λNx hN=>fD ?_];apply#[_,Z,_,Z,zl,λp hp=>#[out,(aa.new hp) _ _ hd,?_,?_]]
 ·have:=bG tz;rw[aq,dZ] at this;omega
 have lO:upd H' p (.tup [.str t.1,.str t.2]) p\.tup ((kT t).map kV):=aE;apply hN (out++[.ref p]) _ #[jP (sm.trans (aa.new hp)) hD,aE,?_];rw[FJ _ ht];exact k_ (DO (tz.same (aa.new hp)) lO) ((aa.new hp) _ _ hd)
end
def kH(h:Str × Int):ax:=[.inr h.1,.inl h.2]
def AQ(h:Str × Int):Prop:=eY h.1=true/\1<=h.2/\h.2<=1000
def Cb:ax->Key × V
 |[k,v]=>(k,kV v)
 |_=>(.inl 0,.non)
def dg(hs:Xa):List (Key × V):=(aN (hs.map kH)).map Cb
def XC{H:Hp}{p:Addr}{t:Str × Int}(h:H p\.tup ((kH t).map kV)):H p\.tup [.str t.1,.int t.2]:=h
def _d:∀(more kvs:List (Key × V)),(kvs.map (·.1)++more.map (·.1)).Nodup->DH kvs more=kvs++more
 |[],kvs,_=>by
  show kvs=kvs++[];rw[wa]
 |p::more,kvs,h=>by
  show DH (putK kvs p.1 p.2) more=kvs++p::more
  have hn:a9 kvs p.1=none:=wj λm=>by
   rw[fK,zC] at h;exact h.2.2 p.1 m p.1 fi Z
  rw[DV _ hn,_d more (kvs++[(p.1,p.2)])]
  ·simp
  simpa using h
def Fy{more:List (Key × V)}(h:(more.map (·.1)).Nodup):DH [] more=more:=by
 rw[_d more [] ⇑h];rfl
def _a(hs:Xa):((dg hs).map (·.1)).Perm (hs.map λh=>Sum.inr h.1):=by
 unfold dg;rw[bU];let p:=(jN (hs.map kH)).map λk=>(Cb k).1;rw[bU] at p;exact p
def _g{hs:Xa}(h:(hs.map (·.1)).Nodup):((dg hs).map (·.1)).Nodup:=by
 apply (_a hs).nodup_iff.mpr ?_;have:(hs.map λh=>(Sum.inr h.1:Key))=(hs.map (·.1)).map Sum.inr:=by rw[bU];rfl
 rw[this,wk,md];exact h.imp λn e=>n (gX e)
def oy{k:Nat}{A:Ag}(hr:aI k A)(n:Nat)(h:n+1<=64:=by decide):A.units+n+1<cLine:=by
 have:=hr.units;omega
section v
def BH:bA f_ f_ (aM uF):=bI
def tO:Sp:=λvs H Q _=>∃(p:Addr) (a:Str) (n:Int),vs=[.ref p]/\H p\.tup [.str a,.int n]/\a.length<=100000/\∀H',aa H H'->Q (.bl (eY a&&(decide (1<=n)&&decide (n<=1000)))) H'
def kh_{f:Addr}{fd:Ae}(F:bc K "is_hand_with_strength" "is_hand_with_strength" uF f fd)(B:Bi mg)(cN:!bH 1 "is_name" f_ J7)(cW:!bH 2 "is_whole_within" EW Nl){tk:Tok}(mS:mg "MOST_STRENGTH"\.int 1000 tk):
  ak P w K mg base bg 3 f fd f_ tO:=by
 exists F.bN BH;let#[p,a,n,rfl,hp,la,k]:=h
 apply#[_,ao (bQ (rY (fP (fo (cO oB (by rfl) B.iL iV %[0,l7 (v:=.ty "tuple") (by rfl) B.tuple NI Z|0])))
   (sr (dm ze (cO l0 (by rfl) B.len jH %[0|0]) aH))).pt (aK (bw w9)) bR)
  (aK (bw (qO (bp cN hr %[bE cg (pv 0) aH|0]) (qQ (bp cW hr %[bE cg (pv 0) aH,aH,qR (v:=.int 1000) (by rfl) mS #[tk,Z]|0]))))),?_]
 apply#[_,Z,_,_,_,_,Z,.tup hp,Z,_,Z,a_ ?_];apply#[_,Z,p,_,Z,.inr (.of hp),Z,_,Z,?_];apply Dn (show V.int ((2:Nat):Int)=V.int 2 from Z) ?_;apply#[_,Z,p,_,_,_,Z,Z,.of hp,Z,a,Z,la,λH1 s1=>#[_,Z,?_]];let EB:=s1 _ _ hp;let kk:=k H1 s1;apply br (λc=>?_) (λc=>?_)
 ·apply#[_,Z,p,_,_,_,Z,Z,.of EB,Z,n,1,1000,Z,?_];rw[c] at kk;exact kk
 rw[show eY a=false by simpa using c] at kk;exact kk
def ua:bA ["hands","found","hand"] ["hands"] (aM BN):=bI
def zZ(K:af):Sp:=λvs H Q _=>∃(l:Addr) (ys:ag) (hs:Xa),vs=[.ref l]/\H l\.lst ys/\bj K H ys (hs.map kH)/\(∀h∈hs,AQ h)/\(hs.map (·.1)).Nodup/\1<=hs.length/\hs.length<=8 /\
 ∀d H',aa H H'->H d=none->H' d\.dK (dg hs)->Q (.ref d) H'
def lu_{f:Addr}{fd:Ae}(F:bc K "checked_strengths" "checked_strengths" BN f fd)(B:Bi mg)(cH:!bH 3 "is_hand_with_strength" f_ tO){tk:Tok}(mH:mg "MOST_HANDS"\.int 8 tk):!ak bg 4 f fd ["hands"] (zZ K):=by
 exists F.bN ua;let#[l,ys,hs,rfl,hl,tu,good,nd,h1,h8,k]:=h;let hu:=gE hr;let sz:=cX;let le:=bG tu;rw[aq] at le
 apply#[_,ao (bQ (rY (fP (fo (cO oB (by rfl) B.iL iV %[0,l7 (v:=.ty "list") (by rfl) B.list A6 Z|0])))
   (sr (fP (YB AU AU aH (cO l0 (by rfl) B.len jH %[0|0]) (qR (v:=.int 8) (by rfl) mH #[tk,Z]))))).pt fC bR)
  (ao (bC 1 ua.nd DT)
  (ao (gc fV Z (eS (pv 0)) (dF 2 ua.nd)
   (ao (bQ (fP (fo (bp cH hr %[2|0]))) fC bR)
   (ao (bQ (xj (Dr hu (bE cg (pv 2) aH) (pv 1))) fC bR)
   (aK (xn hu (pv 1) (bE cg (pv 2) aH) (bE cg (pv 2) aH) Z)))))
  (aK (bw (sy (FD Z) (by rfl) B.dict Fp %[cO (_o Z) (by rfl) B.sorted Fu %[Kh (pv 1)|0]|0]))))),?_]
 apply#[_,Z,_,_,_,_,Z,.lst hl,Z,_,Z,a_ ?_];apply#[_,Z,l,_,Z,.inl (.of hl),_,_,Z,Z,_,Z,?_];rw[cj (show (1:Int)<=(ys.length:Int) by omega)];apply cz #[_,_,Z,Z,_,Z,?_];rw[cj (show (ys.length:Int)<=8 by omega)];apply a_ ?_;intro d hd;have s0:aa H (upd H d (.dK [])):=aa.new hd
 let bx:bX:=λi σ H2=>∃(v2:aQ),σ=[some (.ref l),some (.ref d),v2]/\aa H H2/\H2 d\.dK ((hs.take i).map λh=>(Sum.inr h.1,V.int h.2))
 apply#[_,Z,l,Z,#[_,.of (s0 _ _ hl)],jh (K:=K) (a:=l) (xs:=ys) bx #[none,Z,s0,aE] (λi σ H2 _ ⟨_,_,s2,_⟩=>.of (s2 _ _ hl)) ?_ ?_]
 ·rintro i y σ H2 hy ⟨v2,rfl,s2,hd2⟩;let#[t,ht,a,rfl,ha]:=oA tu hy;let#[g1,g2,g3]:=good t (dz ht);let rM:=s2 _ _ (XC ha);apply#[_,Z,a,t.1,t.2,Z,rM,by have:=DQ g1;omega,λH3 s3=>#[_,Z,?_]];let lP:=s3 _ _ rM;let vL:=s3 _ _ hd2;rw[g1,cj g2,cj g3];apply a_ ?_
  have pC:a9 ((hs.take i).map λh=>((Sum.inr h.1:Key),V.int h.2)) (Sum.inr t.1)=none:=wj (by
   rw[bU];let q:=KL (g:=λh:Str × Int=>h.1) nd ht;intro m;let#[h,hh,e]:=bo.mp m;exact q (bo.mpr #[h,hh,gX e]))
  apply#[_,Z,a,_,_,_,Z,Z,.of lP,Z,_,Z,d,_,Z,.k (k:=Sum.inr t.1) vL,_,Z,?_];rw[pC];apply a_ ?_;apply#[_,Z,a,_,_,_,Z,Z,.of lP,Z,_,Z,_,Z,a,_,_,_,Z,Z,.of lP,Z,d,_,Z,.k (k:=Sum.inr t.1) vL (by rw[aq,dZ];omega),?_];apply#[_,Z,λc o e=>?_,?_]
  ·rw[aD (bB e hd)];exact s3 _ _ (s2 _ _ e)
  rw[aE,DV _ pC,FJ _ ht]
 rintro σ H2 ⟨v2,rfl,s2,hd2⟩;rw[le,gG] at hd2;apply#[_,Z,d,_,Z,hd2,λv hv=>?_];have s3:aa H2 (upd H2 v (zj v d)):=aa.new hv;apply#[v,d,_,hs.map λh=>(Sum.inr h.1,Sum.inl h.2),[true,false],Z,aE,s3 _ _ hd2,by rw[bU];rfl,#[by decide,λq hq=>?_],by rw[aq];omega,λl' H4 zs s4 hn tz=>?_]
 ·rw[bU] at hq;let#[h,_,rfl]:=bo.mp hq;rfl
 have ez:((hs.map λh=>((Sum.inr h.1:Key),(Sum.inl h.2:Key))).map λk=>[k.1,k.2])=hs.map kH:=by rw[bU];rfl
 rw[ez] at tz
 have pz:qY K (upd H4 l' (.lst zs)) zs (dg hs):=by
  have shape:∀k∈aN (hs.map kH),∃a b,k=[a,b]:=λk hk=>by
   let#[h,_,e]:=bo.mp ((jN _).mem_iff.mp hk);exact#[_,_,e.symm]
  have gen:∀(ks:List ax) (zs:ag),(∀k∈ks,∃a b,k=[a,b])->bj K (upd H4 l' (.lst zs)) zs ks->qY K (upd H4 l' (.lst zs)) zs (ks.map Cb):=λks=>by
   intro zs;generalize upd H4 l' _=HH;intro sh t
   induction t with
   |nil=>exact .nil
   |cons h t ih=>
    let#[a,b,rfl]:=sh _ fi;exact .cons h (ih λk hk=>sh k (fj _ hk))
  exact gen _ _ shape (tz.same (aa.new hn))
 apply#[l',zs,_,Z,aE,pz,?_,λd' pN=>?_]
 ·have:=(_a hs).length_eq;simp only[aq] at this;omega
 rw[Fy (_g nd)];have uN:aa H (upd H4 l' (.lst zs)):=(s2.trans (s3.trans s4)).trans (aa.new hn);exact k d' _ (uN.trans (aa.new pN)) (uN.free pN) aE
def MT:bA ["ties","strengths","found","one","other"] ["ties","strengths"] (aM uq):=bI
inductive mm(K:af):Sp|k:∀(l d:Addr)(ys:ag)(ts:Xb)(kvs:List (Key × V)),vs=[.ref l,.ref d]->H l\.lst ys->bj K H ys (ts.map kT)->(∀t∈ts,AX t)->(ts.map λt=>kT (aP t.1 t.2)).Nodup->ts.length<64->H d\.dK kvs->(∀t∈ts,(a9 kvs (Sum.inr t.1)).isSome=true/\(a9 kvs (Sum.inr t.2)).isSome=true)->(∀l' zs H',aa H H'->H l'=none->H' l'\.lst zs->bj K H' zs (aN (ts.map λt=>kT (aP t.1 t.2)))->Q (.ref l') H')->mm K vs H Q E
def Fh(a b:Str):aP a b=(a,b)∨aP a b=(b,a):=by
 unfold aP;split
 ·exact .inl rfl
 exact .inr rfl
def kw_{f:Addr}{fd:Ae}(F:bc K "checked_ties" "checked_ties" uq f fd)(B:Bi mg)(cS:!bH 3 "sorted_ties" ["ties"] (Th K)):!ak bg 4 f fd ["ties","strengths"] (mm K):=by
 exists F.bN MT;let#[l,d,ys,ts,kvs,rfl,hl,tu,good,nd,dC,hd,there,k]:=h;let hu:=gE hr
 apply#[_,ao (bC 2 MT.nd (bp cS hr %[0|0]))
  (ao (bQ (xj (MI (pv 2))) fC bR)
  (ao (gc fV Z (eS (pv 2)) (qP Z (eF (dF 3 MT.nd) (eF (dF 4 MT.nd) kZ)))
   (aK (bQ (rY (xj (Tn hu (pv 3) (pv 1))) (sr (xj (Tn hu (pv 4) (pv 1))))).pt fC bR)))
  (aK (bw (pv 2))))),?_]
 apply#[_,Z,l,ys,ts,Z,hl,tu,good,nd,dC,λl' zs H1 s1 hf ig tz=>?_];apply#[_,Z,_,Z,a_ ?_]
 let ck:bX:=λi σ H2=>∃(v3 v4:aQ),σ=[some (.ref l),some (.ref d),some (.ref l'),v3,v4]/\H2=H1
 apply#[_,Z,l',Z,#[_,.of ig],jh (K:=K) (a:=l') (xs:=zs) ck #[none,none,Z,Z] (λi σ H2 _ ⟨_,_,_,e⟩=>by subst e;exact .of ig) ?_ ?_]
 ·rintro i y σ H2 hy ⟨v3,v4,rfl,rfl⟩;let ez:=bG tz;have hi:i<zs.length:=(cK.mp hy).1;let#[a,e,ha]:=jg tz i hi Z1;rw[(cK.mp hy).2] at e;subst e;let#[t,ht,e]:=bo.mp ((jN _).mem_iff.mp (lA (show i<(aN (ts.map λt=>kT (aP t.1 t.2))).length by omega)));rw[<- e] at ha;let#[t1,t2]:=there t ht
  have both:(a9 kvs (Sum.inr (aP t.1 t.2).1)).isSome=true/\(a9 kvs (Sum.inr (aP t.1 t.2).2)).isSome=true:=by
   rcases Fh t.1 t.2 with q|q
   ·rw[q];exact#[t1,t2]
   rw[q];exact#[t2,t1]
  let Jr:=s1 _ _ hd;apply#[a,_,Z,.of (AB ha),Z,_,_,Z,_,_,Z,Z,?_];apply#[_,Z,_,Z,d,_,Z,.k (k:=Sum.inr (aP t.1 t.2).1) Jr,_,Z,?_];rw[both.1];apply a_ ?_;apply#[_,Z,_,Z,d,_,Z,.k (k:=Sum.inr (aP t.1 t.2).2) Jr,_,Z,?_];rw[both.2];apply a_ ?_;exact#[_,_,Z,Z]
 rintro σ H2 ⟨v3,v4,rfl,rfl⟩;exact#[_,Z,k l' zs _ s1 hf ig tz]
def near(ns:ae)(ts:Xb)(n:Str):ae:=ns.filter λo=>decide (aP n o∈ts)
def mJ:bA ["names","ties","found","hand"] ["names","ties"] (aM uy):=bI
def jD(ns:ae)(as:ai):List (Key × V):=(ns.zip as).map λp=>(Sum.inr p.1,V.ref p.2)
inductive mD(K:af):Sp|k:∀(l1 l2:Addr)(ns:ae)(zs:ag)(ts:Xb),vs=[.ref l1,.ref l2]->H l1\.lst (ns.map V.str)->H l2\.lst zs->bj K H zs (ts.map kT)->ns.Nodup->ns.length<=1000->l1≠l2->(∀d as H',aa H H'->H d=none->as.length=ns.length->H' d\.dK (jD ns as)->(∀(i:Nat) n a,ns[i]? = some n->as[i]? = some a->H a=none/\H' a\.lst ((near ns ts n).map V.str))->Q (.ref d) H')->mD K vs H Q E
def Sy{K:af}{H:Hp}:∀{ts:Xb}{zs:ag},bj K H zs (ts.map kT)->Paired (r2 K rS rS H) zs ts
 |[],_,.nil=>.nil
 |t::ts,_,.cons ⟨a,e,h⟩ r=>.cons #[a,_,_,e,.of (AB h),Z,Z] (Sy r)
def lZ{ns:ae}{i:Nat}{x:V}(h:(ns.map V.str)[i]? = some x):∃n,ns[i]? = some n/\x=.str n:=by
 rw[d0] at h;cases e:ns[i]? with
 |none=>rw[e] at h;cases h
 |some n=>rw[e] at h;exact#[n,Z,(c7 h).symm]
def _F{α:Type}(p:α->Bool){l:List α}{i:Nat}{x:α}(h:l[i]? = some x):(l.take (i+1)).filter p=(l.take i).filter p++(if p x then [x] else []):=PySem.take_succ_filter p l i x h
def kb_{f:Addr}{fd:Ae}(F:bc K "neighbours_of_all" "neighbours_of_all" uy f fd)(cL:!bH 1 "lesser_first" rV NN):!ak bg 2 f fd ["names","ties"] (mD K):=by
 exists F.bN mJ;let#[l1,l2,ns,zs,ts,rfl,ig,jy,tz,nd,h8,nZ,k]:=h;let hu:=gE hr;let QA:=hr.units;let sz:=cX
 apply#[_,ao (bC 2 mJ.nd DT)
  (ao (gc fV Z (eS (pv 0)) (dF 3 mJ.nd)
   (aK (xn hu (pv 2) (pv 3) (pX ["other","hand","ties"] 1 [3,1] (eS (pv 0)) (λfp s H=>gy (i:=0) (show (["other","hand","ties"]:ae).Nodup by decide +kernel) Z (Or.inl Z))
    (λfp s H=>XO (dm (Pi (K:=K) (λK=>BV K (r2 K rS rS) false) (RA (Kd il il) (oy hr _))) (bp cL hr %[1,0|0]) (pv 2) (by with_unfolding_all rfl))) (λfp s H=>pv 0)) Z)))
  (aK (bw (pv 2)))),?_]
 intro d hd;have s0:aa H (upd H d (.dK [])):=aa.new hd
 apply#[_,Z,l1,Z,#[_,.of (s0 _ _ ig)],jh (K:=K) (a:=l1) (xs:=ns.map V.str) (λi σ H2=>∃(v3:aQ) (as:ai),σ=[some (.ref l1),some (.ref l2),some (.ref d),v3]/\aa H H2/\as.length=i/\H2 d\.dK (jD (ns.take i) as) /\
  ∀(j:Nat) n a,ns[j]? = some n->as[j]? = some a->H a=none/\a≠d/\H2 a\.lst ((near ns ts n).map V.str)) #[none,[],Z,s0,Z,aE,λj n a _ e=>by simp at e] (λi σ H2 _ ⟨_,_,_,s2,_⟩=>.of (s2 _ _ ig)) ?_ ?_]
 ·rintro i y σ H2 hy ⟨v3,as,rfl,s2,la,hd2,lists⟩;let#[n,hn,rfl]:=lZ hy;have hi:i<ns.length:=(cK.mp hn).1
  have lk:(jD (ns.take i) as).length=i:=by
   unfold jD;rw[aq,List.length_zip,dZ];omega
  apply#[_,Z,l1,Z,#[_,.of (s2 _ _ ig)],λD hD=>?_]
  let oE:eI:=λj out H'=>aa H2 H'/\H' D\.lst out/\out=((ns.take j).filter λo=>decide (aP n o∈ts)).map V.str
  apply p0 (own:=1) (fv:=[some (.str n),some (.ref l2)]) (xs:=ns.map V.str) Z gr oE #[aa.new hD,aE,Z] (λj out H' _ ⟨sm,_,_⟩=>.of (sm _ _ (s2 _ _ ig))) (λout H' ⟨sm,gC,eo⟩=>?_) (λj x out H' hx ⟨sm,gC,eo⟩=>?_)
  ·rw[aq,gG] at eo
   have pC:a9 (jD (ns.take i) as) (Sum.inr n)=none:=wj λm=>by
    unfold jD at m;rw[bU] at m;let#[p,hp,e]:=bo.mp m;have e:p.1=n:=gX e;let q:=KL (g:=id) (by rw[List.map_id];exact nd) hn;rw[List.map_id] at q;exact q (e▸(List.of_mem_zip hp).1)
   have V8:D≠d:=λz=>by subst z;rw[hD] at hd2;cases hd2
   apply#[_,Z,_,Z,d,_,Z,.k (k:=Sum.inr n) (sm _ _ hd2) Z1,?_];apply#[_,as++[D],Z,λc o e=>?_,by rw[dE,la];rfl,?_,λj n' a yC ha=>?_]
   ·rw[aD (bB e hd)];exact sm _ _ (s2 _ _ e)
   ·rw[aE,DV _ pC];congr 2;unfold jD;rw[lB,hn,List.zip_append (by rw[dZ];omega),cZ];rfl
   by_cases hj:j<as.length
   ·rw[FK hj] at ha;let#[q1,q2,q3]:=lists j n' a yC ha;apply#[q1,q2,?_];rw[aD q2];exact sm _ _ q3
   have hj2:j=i:=by
    have:=(cK.mp ha).1;rw[dE] at this;simp only[D0] at this;omega
   subst hj2;rw[D9 Z1,la,Nat.sub_self] at ha;have ha:D=a:=⇑ha
   subst ha;rw[hn] at yC;cases yC;apply#[s2.free hD,V8,?_];rw[aD V8,gC,eo];rfl
  let#[o,ho,rfl]:=lZ hx;apply#[_,Z,Z,λNx hN=>?_];apply#[_,Z,_,Z,n,o,Z,λt ht=>?_];have s3:aa H' (upd H' t (.tup [.str (aP n o).1,.str (aP n o).2])):=aa.new ht;let tz':=((tz.same s2).same sm).same s3
  have lo:out.length<sizeLine:=by
   rw[eo,aq];have:=List.length_filter_le (λo=>decide (aP n o∈ts)) (ns.take j);rw[dZ] at this;omega
  apply#[_,Z,aP n o,ts,#[t,_,_,Z,.of aE,Z,Z],#[l2,zs,Z,.of (s3 _ _ (sm _ _ (s2 _ _ jy))),Sy tz'],_,Z,?_];apply br (λc=>?_) (λc=>?_)
  ·apply#[_,Z,out,s3 _ _ gC,lo,hN _ _ #[jP (sm.trans s3) hD,aE,?_]];have c:decide (aP n o∈ts)=true:=⇑c
   rw[_F _ ho,aF c,cZ,eo];rfl
  apply hN _ _ #[sm.trans s3,s3 _ _ gC,?_];have c:¬decide (aP n o∈ts)=true:=⇑c
  rw[_F _ ho,aA c,wa,eo]
 rintro σ H2 ⟨v3,as,rfl,s2,la,hd2,lists⟩;rw[aq] at la hd2;rw[gG] at hd2;exact#[_,Z,k d as _ s2 hd la hd2 λj n a h1 h2=>#[(lists j n a h1 h2).1,(lists j n a h1 h2).2.2]]
end
abbrev uE:Stmt:=gx jt 0
abbrev xW:Stmt:=gx jt 1
abbrev nu:Stmt:=gx jt 2
abbrev Uj:Stmt:=gx jt 3
abbrev mZ:Stmt:=gx jt 4
abbrev ur:Stmt:=gx jt 5
abbrev mX:Stmt:=gx jt 6
abbrev uB:Stmt:=gx jt 7
def vP:ax->Str
 |.inr a::_=>a
 |_=>⟨#[]⟩
def Oi:ax->Str × Str
 |[.inr a,.inr b]=>(a,b)
 |_=>(⟨#[]⟩,⟨#[]⟩)
def aB(hs:Xa):ae:=(aN (hs.map kH)).map vP
def aO(ts:Xb):Xb:=(aN (ts.map λt=>kT (aP t.1 t.2))).map Oi
def Fv(ts:Xb):(aO ts).map kT=aN (ts.map λt=>kT (aP t.1 t.2)):=by
 unfold aO;rw[bU]
 have all:∀k∈aN (ts.map λt=>kT (aP t.1 t.2)),∃t:Str × Str,k=kT t:=λk hk=>by
  let#[t,_,e]:=bo.mp ((jN _).mem_iff.mp hk);exact#[_,e.symm]
 generalize aN (ts.map λt=>kT (aP t.1 t.2))=l at all
 induction l with
 |nil=>rfl
 |cons k l ih=>
  let#[t,rfl]:=all k fi;rw[fK,ih λk hk=>all k (fj _ hk)];rfl
def _e(hs:Xa):∀k∈aN (hs.map kH),∃h:Str × Int,h∈hs/\k=kH h:=λk hk=>by
 let#[t,ht,e]:=bo.mp ((jN _).mem_iff.mp hk);exact#[t,ht,e.symm]
def YO(hs:Xa):((dg hs).map λkv=>kV kv.1)=(aB hs).map V.str:=by
 unfold dg aB;rw[bU,bU];apply p4 λk hk=>?_;let#[h,_,rfl]:=_e hs k hk;rfl
def YX(hs:Xa):(dg hs).map (·.1)=(aB hs).map Sum.inr:=by
 unfold dg aB;rw[bU,bU];apply p4 λk hk=>?_;let#[h,_,rfl]:=_e hs k hk;rfl
def iY(hs:Xa):(aB hs).Perm (hs.map (·.1)):=by
 unfold aB;let p:=(jN (hs.map kH)).map vP;rw[bU] at p;exact p
def Z3{κ:Type}[DecidableEq κ]{kvs:List (κ × V)}{k:κ}(h:k∈kvs.map (·.1)):(a9 kvs k).isSome=true:=by
 rw[<- DW];let#[p,hp,e]:=bo.mp h;exact List.any_eq_true.mpr #[p,hp,cj e]
def Nd{hs:Xa}{n:Str}:(a9 (dg hs) (Sum.inr n)).isSome=decide (n∈hs.map (·.1)):=by
 by_cases h:n∈hs.map (·.1)
 ·rw[cj h];apply Z3 ?_;rw[YX];exact bo.mpr #[n,(iY hs).mem_iff.mpr h,Z]
 rw[d7 h,wj]
 ·rfl
 rw[YX];intro m;let#[x,hx,e]:=bo.mp m;cases e;exact h ((iY hs).mem_iff.mp hx)
def PM:¬((xa:Str)="sorted_pairs"):=by decide +kernel
def PL:¬((xa:Str)=C8):=by decide +kernel
def n23:¬(("sorted_pairs":Str)=C8):=by decide +kernel
def cB(d1 l2 d3:Addr):List (Str × V):=aL C8 (.ref d3) (aL "sorted_pairs" (.ref l2) (aL xa (.ref d1) []))
def MJ(d1 l2 d3:Addr):(cB d1 l2 d3).lookup (xa:Str)\.ref d1:=by
 unfold cB;rw[eZ,aA PL,eZ,aA PM,eZ,aF Z]
def lt_(d1 l2 d3:Addr):(cB d1 l2 d3).lookup ("sorted_pairs":Str)\.ref l2:=by
 unfold cB;rw[eZ,aA n23,eZ,aF Z]
def RK(d1 l2 d3:Addr):(cB d1 l2 d3).lookup (C8:Str)\.ref d3:=by
 unfold cB;rw[eZ,aF Z]
def iW(d1 l2 d3:Addr){m:Str}(h1:¬m=xa)(h2:¬m="sorted_pairs")(h3:¬m=C8):(cB d1 l2 d3).lookup m=none:=by
 unfold cB;rw[eZ,aA h3,eZ,aA h2,eZ,aA h1]
 all_goals rfl
structure eC(K:af)(C:Addr)(H:Hp)(p:Addr)(hs:Xa)(ts:Xb)(fp:ai):Prop where
 ex:∃(dx d1 l2 d3:Addr) (zs:ag) (as:ai),fp=p::d1::l2::d3::as/\H p\.ins C dx (cB d1 l2 d3)/\H d1\.dK (dg hs)/\H l2\.lst zs/\bj K H zs ((aO ts).map kT)/\H d3\.dK (jD (aB hs) as)/\as.length=(aB hs).length /\
  ∀(i:Nat) n a,(aB hs)[i]? = some n->as[i]? = some a->H a\.lst ((near (aB hs) (aO ts) n).map V.str)
def eC.keep{K:af}{C:Addr}{H H':Hp}{p:Addr}{hs:Xa}{ts:Xb}{fp:ai}(W:eC K C H p hs ts fp)(k:∀b∈fp,∀o,H b\o->H' b\o)(kt:∀b xs,H b\.tup xs->H' b\.tup xs):eC K C H' p hs ts fp:=by
 let#[dx,d1,l2,d3,zs,as,rfl,h1,h2,h3,h4,h5,h6,h7]:=W.ex;apply#[dx,d1,l2,d3,zs,as,Z,k _ Z2 _ h1,k _ Z2 _ h2,k _ Z2 _ h3,Paired.bJ h4 λy q ⟨a,e,z⟩=>#[a,e,kt _ _ z],k _ Z2 _ h5,h6,λi n a e1 e2=>k _ ?_ _ (h7 i n a e1 e2)];have:=dz e2;simp[this]
def eC.same{K:af}{C:Addr}{H H':Hp}{p:Addr}{hs:Xa}{ts:Xb}{fp:ai}(W:eC K C H p hs ts fp)(s:aa H H'):eC K C H' p hs ts fp:=W.keep (λb _ o e=>s b o e) λb xs e=>s b _ e
structure Good(hs:Xa)(ts:Xb):Prop where
 ay:∀h∈hs,AQ h
 yB:(hs.map (·.1)).Nodup
 h1:1<=hs.length
 h8:hs.length<=8
 tok:∀t∈ts,AX t
 F7:(ts.map λt=>kT (aP t.1 t.2)).Nodup
 tH:ts.length<64
 Le:∀t∈ts,t.1∈hs.map (·.1)/\t.2∈hs.map (·.1)
def Good.qp{hs:Xa}{ts:Xb}(G:Good hs ts):(aB hs).Nodup:=(iY hs).nodup_iff.mpr G.yB
def Good.fF{hs:Xa}{ts:Xb}(G:Good hs ts):(aB hs).length=hs.length:=by
 rw[(iY hs).length_eq,aq]
def FE(ts:Xb):(aO ts).length=ts.length:=by
 unfold aO;rw[aq,(jN _).length_eq,aq]
structure Txt(K:af)(mg:Str->Option Aa)(C:Addr):Prop where
 cl:j6 K C
 nS:ip K C xa
 nP:ip K C "sorted_pairs"
 nN:ip K C C8
section v
def mK:bA ["self","hands","ties","strengths","checked"] ["self","hands","ties"] (aM uE):=bI
inductive mG(K:af)(C:Addr):Sp|k:∀(p dx lh lt:Addr)(ys zs:ag)(hs:Xa)(ts:Xb),vs=[.ref p,.ref lh,.ref lt]->H p\.ins C dx []->H lh\.lst ys->bj K H ys (hs.map kH)->H lt\.lst zs->bj K H zs (ts.map kT)->Good hs ts->(∀fp H',(∀b o,H b\o->b≠p->H' b\o)->eC K C H' p hs ts fp->(∀b∈fp,b=p∨H b=none)->Q .non H')->mG K C vs H Q E
def kJ_{f C:Addr}{fd:Ae}(F:bc K "__init__" "Web.__init__" uE f fd)(T:Txt K mg C)(B:Bi mg)(cS:!bH 4 "checked_strengths" ["hands"] (zZ K))(cT:!bH 4 "checked_ties" ["ties","strengths"] (mm K))(cN:!bH 2 "neighbours_of_all" ["names","ties"] (mD K)):
  ak P w K mg base bg 5 f fd ["self","hands","ties"] (mG K C):=by
 exists F.bN mK;let#[p,dx,lh,lt,ys,zs,hs,ts,rfl,hp,vF,th,dB,tt,G,k]:=h
 apply#[_,ao (bC 3 mK.nd (bp cS hr %[1|0]))
  (ao (bC 4 mK.nd (bp cT hr %[2,3|0]))
  (ao (iS (pv 0) (pv 3) Z) (ao (iS (pv 0) (pv 4) Z)
  (aK (iS (pv 0) (bp cN hr %[sy (Uu Z) (by rfl) B.list A6 %[3|0],4|0]) Z))))),?_]
 apply#[_,Z,lh,ys,hs,Z,vF,th,G.ay,G.yB,G.h1,G.h8,λd1 H1 s1 f1 Jr=>?_];apply#[_,Z,_,Z,lt,d1,zs,ts,_,Z,s1 _ _ dB,tt.same s1,G.tok,G.F7,G.tH,Jr,λt ht=>?_,λl2 FQ H2 s2 f2 jy tz=>?_]
 ·rw[Nd,Nd];exact#[cj (G.Le t ht).1,cj (G.Le t ht).2]
 let CK:=s2 _ _ Jr;let lO:=s2 _ _ (s1 _ _ hp);have p1:p≠d1:=aR lO CK nofun;have p2:p≠l2:=aR lO jy nofun;apply#[_,Z,_,Z,p,C,dx,[],Z,lO,T.cl,T.nS,by show 0<1000;decide,?_];apply#[_,Z,_,Z,p,C,dx,_,Z,aE,T.cl,T.nP,by show 1<1000;decide,?_]
 let H3:Hp:=upd (upd H2 p (.ins C dx (aL xa (.ref d1) []))) p (.ins C dx (aL "sorted_pairs" (.ref l2) (aL xa (.ref d1) [])))
 have h3:∀{b o},H2 b\o->b≠p->H3 b\o:=λe ne=>by
  show upd (upd H2 p _) p _ _=_;rw[aD ne,aD ne];exact e
 have RD:H3 p\.ins C dx (aL "sorted_pairs" (.ref l2) (aL xa (.ref d1) [])):=aE
 have Hm:∀{b},H3 b=none->H2 b=none:=λ{b} e=>by
  by_cases z:b=p
  ·subst z;rw[RD] at e;cases e
  have e:upd (upd H2 p _) p _ b=none:=e;rw[aD z,aD z] at e;exact e
 have Vv:bj K H3 FQ ((aO ts).map kT):=by
  rw[Fv];exact Paired.bJ tz λy q ⟨a,e,z⟩=>#[a,e,h3 z (aR z lO nofun)]
 apply#[_,Z,d1,_,Z,.inl (h3 CK p1.symm),λl1 ig=>?_];rw[YO];have s4:aa H3 (upd H3 l1 (.lst ((aB hs).map V.str))):=aa.new ig;have PH:l1≠l2:=(bB (H:=H3) (h3 jy p2.symm) ig).symm;apply#[_,Z,l1,l2,aB hs,FQ,aO ts,Z,aE,s4 _ _ (h3 jy p2.symm),Vv.same s4,G.qp,by rw[G.fF];have:=G.h8;omega,PH,λd3 as H5 s5 f5 la vL lists=>?_];let EA:=s5 _ _ (s4 _ _ RD);apply#[_,Z,p,C,dx,_,Z,EA,T.cl,T.nN,by show 2<1000;decide,?_]
 have up:∀{b o},H2 b\o->b≠p->upd H5 p (.ins C dx (cB d1 l2 d3)) b\o:=λe ne=>by
  rw[aD ne];exact s5 _ _ (s4 _ _ (h3 e ne))
 have pS:∀{b},upd H3 l1 (.lst ((aB hs).map V.str)) b=none->H b=none:=λe=>s1.free (s2.free (Hm (s4.free e)));have Rg:d3≠p:=(bB (s4 _ _ RD) f5).symm;apply k (p::d1::l2::d3::as) _ (λb o e ne=>up (s2 _ _ (s1 _ _ e)) ne) #[dx,d1,l2,d3,FQ,as,Z,aE,up CK p1.symm,up jy p2.symm,?_,?_,la,λi n a e1 e2=>?_] λb hb=>?_
 ·exact Paired.bJ (Vv.same (s4.trans s5)) λy q ⟨a,e,z⟩=>#[a,e,by rw[aD (aR z EA nofun)];exact z]
 ·rw[aD Rg];exact vL
 ·let#[q1,q2]:=lists i n a e1 e2;rw[aD (aR q2 EA nofun)];exact q2
 simp only[cc] at hb;rcases hb with rfl|rfl|rfl|rfl|hb
 ·exact .inl Z
 ·exact .inr f1
 ·exact .inr (s1.free f2)
 ·exact .inr (pS f5)
 let#[i,hi,e]:=j3 hb;have e1:as[i]? = some b:=by rw[cE hi,e]
 have hn:i<(aB hs).length:=by omega
 exact .inr (pS (lists i _ b (cE hn) e1).1)
end
structure aZ(P:Ad)(w:Af)(K:af)(mg:Str->Option Aa)(base:Heap)(C:Addr)(k:Nat)(m:Str)(ps:ae)(sp:Sp):Prop where
 ex:∃f fd,ak P w K mg base bg k f fd ps sp/\Meth K C m f/\kX K fd ps []
def eU{X:Cx}{C:Addr}{k:Nat}{m:Str}{ps:ae}{sp:Sp}{pos apos:Pos}{o e:Expr}{es:List Expr}{ta:TE}{t:TA}{pl:Sem Bool}(c:aZ X.prog X.w X.K X.mg X.base C k m ps sp)(cl:j6 X.K C)(hr:aI k X.A)(he:PE X o ta)(ha:PA X (e::es) t)
 (gT:starEach (e::es) X.env=(false,eval e X.env)::starEach es X.env:=by rfl)(fX:(backTo pos (starEach es X.env)).any (·.1)=false:=by rfl)
 (ht:eval (.Call (.Attribute o m apos) (e::es) [] pos) X.env=(do
   let ov <- eval o X.env
   standAt apos.atName
   let (f,first) <- holding [ov] (getMethod ov m pl)
   callWith pos f first (backTo pos (starEach (e::es) X.env)) (backToKw pos (keywordEach [] X.env))):=by rfl):
  PE X (.Call (.Attribute o m apos) (e::es) [] pos) (oQ C m sp [] E0 ta t):=by
 let#[f,fd,F,hm,b]:=c.ex;exact ke_ he cl hm F hr b .nil pA ha gT fX ht
def j2{X:Cx}{C:Addr}{k:Nat}{m:Str}{ps:ae}{sp:Sp}{pos apos:Pos}{o:Expr}{ta:TE}{pl:Sem Bool}(c:aZ X.prog X.w X.K X.mg X.base C k m ps sp)(cl:j6 X.K C)(hr:aI k X.A)(he:PE X o ta)
 (ht:eval (.Call (.Attribute o m apos) [] [] pos) X.env=(do
   let ov <- eval o X.env
   standAt apos.atName
   let (f,first) <- holding [ov] (getMethod ov m pl)
   callWith pos f first (backTo pos (starEach [] X.env)) (backToKw pos (keywordEach [] X.env))):=by rfl):
  PE X (.Call (.Attribute o m apos) [] [] pos) (oQ C m sp [] E0 ta mj):=by
 let#[f,fd,F,hm,b]:=c.ex;exact j1_ he cl hm F hr b .nil pA ht
def gy_{hs:Xa}(nd:(hs.map (·.1)).Nodup){x:Str}{n:Int}(h:(x,n)∈hs):a9 (dg hs) (Sum.inr x)\.int n:=by
 have m:((Sum.inr x:Key),V.int n)∈dg hs:=by
  unfold dg;apply bo.mpr #[kH (x,n),(jN _).mem_iff.mpr (bo.mpr #[_,h,Z]),Z]
 let nk:=_g nd;generalize dg hs=kvs at m nk
 induction kvs with
 |nil=>cases m
 |cons p r ih=>
  let#[n1,n2]:=j5.mp nk;rcases cc.mp m with e|m
  ·rw[<- e];exact l_ Z
  rw[l8 (λe:p.1=Sum.inr x=>n1 (bo.mpr #[_,m,e.symm]))];exact ih m n2
def iw_{ns:ae}{as:ai}(nd:ns.Nodup)(la:as.length=ns.length){i:Nat}{n:Str}(hn:ns[i]? = some n):∃a,as[i]? = some a/\a9 (jD ns as) (Sum.inr n)\.ref a:=by
 induction ns generalizing as i with
 |nil=>simp at hn
 |cons x ns ih=>
  cases as with
  |nil=>cases la
  |cons b as=>
   let#[n1,n2]:=j5.mp nd;cases i with
   |zero=>
    have e:x=n:=⇑hn
    subst e;exact#[b,Z,l_ Z]
   |succ i=>
    have hn:ns[i]? = some n:=⇑hn
    let#[a,h1,h2]:=ih n2 ⇑la hn;apply#[a,by simpa using h1,?_];show a9 ((Sum.inr x,V.ref b)::jD ns as) (Sum.inr n)=_;rw[l8 λe=>n1 (by rw[show x=n from gX e];exact dz hn)];exact h2
section v
def z_:bA qL qL (aM xW):=bI
inductive ke(K:af)(C:Addr):Sp|k:∀(p:Addr)(x:Str)(hs:Xa)(ts:Xb)(fp:ai),vs=[.ref p,.str x]->eC K C H p hs ts fp->Q (.bl (decide (x∈hs.map (·.1)))) H->ke K C vs H Q E
def lL_{f C:Addr}{fd:Ae}(F:bc K "has_hand" "Web.has_hand" xW f fd)(T:Txt K mg C)(B:Bi mg):!ak bg 1 f fd qL (ke K C):=by
 exists F.bN z_;let#[p,x,hs,ts,fp,rfl,W,k]:=h;let hu:=gE hr;let#[dx,d1,l2,d3,zs,as,rfl,h1,h2,h3,h4,h5,h6,h7]:=W.ex;apply#[_,aK (bw (qO (cO oB (by rfl) B.iL iV %[1,l7 (v:=.ty "str") (by rfl) B.str Fb Z|0]) (qQ (JH (Dr hu (pv 1) (bP (pv 0) Z)))))),?_];apply#[_,Z,_,_,_,_,Z,.str x,Z,_,Z,cz ?_];apply#[_,Z,_,Z,p,C,dx,_,_,Z,h1,T.cl,T.nS,MJ _ _ _,d1,_,Z,.k (k:=Sum.inr x) h2,?_];rw[Nd];exact k
def xV:bA dG dG (aM nu):=bI
inductive Fj(K:af)(C:Addr):Sp|k:∀(p:Addr)(hs:Xa)(ts:Xb)(fp:ai),vs=[.ref p]->eC K C H p hs ts fp->(∀l,H l=none->Q (.ref l) (upd H l (.lst ((aB hs).map V.str))))->Fj K C vs H Q E
def iT_{f C:Addr}{fd:Ae}(F:bc K "hands" "Web.hands" nu f fd)(T:Txt K mg C)(B:Bi mg):!ak bg 1 f fd dG (Fj K C):=by
 exists F.bN xV;let#[p,hs,ts,fp,rfl,W,k]:=h;let#[dx,d1,l2,d3,zs,as,rfl,h1,h2,h3,h4,h5,h6,h7]:=W.ex;apply#[_,aK (bw (sy (Uu Z) (by rfl) B.list A6 %[bP (pv 0) Z|0])),?_];apply#[_,Z,p,C,dx,_,_,Z,h1,T.cl,T.nS,MJ _ _ _,d1,_,Z,.inl h2,λl hl=>?_];rw[YO];exact k l hl
def e2':bA jK jK (aM Uj):=bI
inductive DX(K:af)(C:Addr):Sp|k:∀(p:Addr)(x:Str)(n:Int)(hs:Xa)(ts:Xb)(fp:ai),vs=[.ref p,.str x]->eC K C H p hs ts fp->(hs.map (·.1)).Nodup->(x,n)∈hs->Q (.int n) H->DX K C vs H Q E
def f6_{f C:Addr}{fd:Ae}(F:bc K "strength" "Web.strength" Uj f fd)(T:Txt K mg C)(cH:!aZ C 1 "has_hand" qL (ke K C)):!ak bg 2 f fd jK (DX K C):=by
 apply F.bN e2' λaC A outer s H vs Q E hr h=>?_;let#[p,x,n,hs,ts,fp,rfl,W,nd,hx,k]:=h;let hu:=gE hr;let#[dx,d1,l2,d3,zs,as,rfl,h1,h2,h3,h4,h5,h6,h7]:=id W.ex;apply#[_,ao (bQ (fP (fo (eU cH T.cl hr (pv 0) %[1|0]))) fC bR) (aK (bw (lU hu (bP (pv 0) Z) (pv 1)))),?_];apply#[_,Z,p,dx,_,Z,h1,iW _ _ _ Z0 Z0 Z0,_,Z,p,x,hs,ts,_,Z,W,_,Z,?_];rw[cj (bo.mpr #[_,hx,Z])];apply a_ ?_;apply#[_,Z,p,C,dx,_,_,Z,h1,T.cl,T.nS,MJ _ _ _,_,Z,d1,_,Z,?_,k];rw[<- gy_ nd hx];exact .k (k:=Sum.inr x) h2
def xS:bA jK jK (aM mZ):=bI
inductive Na(K:af)(C:Addr):Sp|k:∀(p:Addr)(x:Str)(hs:Xa)(ts:Xb)(fp:ai),vs=[.ref p,.str x]->eC K C H p hs ts fp->(aB hs).Nodup->x∈hs.map (·.1)->(∀l,H l=none->Q (.ref l) (upd H l (.lst ((near (aB hs) (aO ts) x).map V.str))))->Na K C vs H Q E
def W0{H:Hp}{hs:Xa}{ts:Xb}{as:ai}{x:Str}(nd:(aB hs).Nodup)(hx:x∈hs.map (·.1))(la:as.length=(aB hs).length)
 (h7:∀(i:Nat) n a,(aB hs)[i]? = some n->as[i]? = some a->H a\.lst ((near (aB hs) (aO ts) n).map V.str)):∃a,a9 (jD (aB hs) as) (Sum.inr x)\.ref a/\H a\.lst ((near (aB hs) (aO ts) x).map V.str):=by
 let#[i,hi,e]:=j3 ((iY hs).mem_iff.mpr hx);have hn:(aB hs)[i]? = some x:=by rw[cE hi,e]
 let#[a,h1,h2]:=iw_ nd la hn;exact⟨a,h2,h7 i x a hn h1⟩
def iA_{f C:Addr}{fd:Ae}(F:bc K "neighbours" "Web.neighbours" mZ f fd)(T:Txt K mg C)(B:Bi mg)(cH:!aZ C 1 "has_hand" qL (ke K C)):!ak bg 2 f fd jK (Na K C):=by
 exists F.bN xS;let#[p,x,hs,ts,fp,rfl,W,nd,hx,k]:=h;let hu:=gE hr;let#[dx,d1,l2,d3,zs,as,rfl,h1,h2,h3,h4,h5,h6,h7]:=id W.ex;let#[a,e1,ha]:=W0 nd hx h6 h7;apply#[_,ao (bQ (fP (fo (eU cH T.cl hr (pv 0) %[1|0]))) fC bR) (aK (bw (sy es_ (by rfl) B.list A6 %[lU hu (bP (pv 0) Z) (pv 1)|0]))),?_];apply#[_,Z,p,dx,_,Z,h1,iW _ _ _ Z0 Z0 Z0,_,Z,p,x,hs,ts,_,Z,W,_,Z,?_];rw[cj hx];apply a_ ?_;apply#[_,Z,p,C,dx,_,_,Z,h1,T.cl,T.nN,RK _ _ _,_,Z,d3,.ref a,Z,?_,a,_,Z,.inl (.of ha),k];rw[<- e1];exact .k (k:=Sum.inr x) h5
def By:bA lR lR (aM ur):=bI
def Kb{H:Hp}:∀ns:ae,Paired (rS H) (ns.map V.str) ns
 |[]=>.nil
 |_::ns=>.cons Z (Kb ns)
def xQ:bA dG dG (aM mX):=bI
inductive S0(K:af)(C:Addr):Sp|k:∀(p:Addr)(hs:Xa)(ts:Xb)(fp:ai),vs=[.ref p]->eC K C H p hs ts fp->ts.length<64->(∀l zs H',aa H H'->H l=none->H' l\.lst zs->bj K H' zs ((aO ts).map kT)->Q (.ref l) H')->S0 K C vs H Q E
def iQ_{f C:Addr}{fd:Ae}(F:bc K "ties" "Web.ties" mX f fd)(T:Txt K mg C)(cA:!bH 1 "ties_anew" ["ties"] (tS K)):!ak bg 2 f fd dG (S0 K C):=by
 exists F.bN xQ;let#[p,hs,ts,fp,rfl,W,dC,k]:=h;let#[dx,d1,l2,d3,zs,as,rfl,h1,h2,h3,h4,h5,h6,h7]:=W.ex;apply#[_,aK (bw (bp cA hr %[bP (pv 0) Z|0])),?_];exact#[_,Z,p,C,dx,_,_,Z,h1,T.cl,T.nP,lt_ _ _ _,l2,zs,aO ts,Z,h3,h4,by rw[FE];omega,k]
def BE:bA dG dG (aM uB):=bI
def gm(hs:Xa)(ts:Xb):List Int:=(aB hs).map λn=>((near (aB hs) (aO ts) n).length:Int)
inductive mE(K:af)(C:Addr):Sp|k:∀(p:Addr)(hs:Xa)(ts:Xb)(fp:ai),vs=[.ref p]->eC K C H p hs ts fp->0<(aB hs).length->(aB hs).length<=1000->(∀m H',aa H H'->m∈gm hs ts->(∀a∈gm hs ts,a<=m)->Q (.int m) H')->mE K C vs H Q E
def lb_{f C:Addr}{fd:Ae}(F:bc K "most_neighbours" "Web.most_neighbours" uB f fd)(T:Txt K mg C)(B:Bi mg):!ak bg 1 f fd dG (mE K C):=by
 exists F.bN BE;let#[p,hs,ts,fp,rfl,W,h0,h8,k]:=h;let sz:=cX;let#[dx,d1,l2,d3,zs,as,rfl,h1,h2,h3,h4,h5,h6,h7]:=W.ex
 apply#[_,aK (bw (cO (jr_ Z) (by rfl) B.max Rq %[ka_ (pX ["row"] 1 [] (kG_ (Nq (bP (pv 0) Z))) (λfp s H=>gy (i:=0) (show (["row"]:ae).Nodup by decide +kernel) Z (Or.inl Z)) (λfp s H=>lW)
  (λfp s H=>cO (Ui (K:=K)) (by rfl) B.len jH %[0|0]))|0])),?_]
 apply#[d3,_,h5,_,Z,p,C,dx,_,_,Z,h1,T.cl,T.nN,RK _ _ _,d3,_,Z,h5,λv hv=>?_];have s1:aa H (upd H v (qX v d3)):=aa.new hv;apply#[v,d3,_,Z,aE,s1 _ _ h5,λo D hD=>?_]
 have lk:(jD (aB hs) as).length=(aB hs).length:=by
  unfold jD;rw[aq,List.length_zip];omega
 have KO:∀{b u},H b\u->u≠.dK (jD (aB hs) as)->upd (upd H v (qX v d3)) d3 (.frz o (.dK (jD (aB hs) as))) b\u:=λe ne=>by
  rw[aD (aR e h5 ne)];exact s1 _ _ e
 apply M0 (own:=1) (fv:=[]) Z gr (aB hs).length (λi out H'=>aa (upd (upd H v (qX v d3)) d3 (.frz o (.dK (jD (aB hs) as)))) H'/\H' D\.lst out/\out=((gm hs ts).take i).map V.int) #[aa.new hD,aE,Z] (λout H' ⟨sm,gC,eo⟩=>?_) (λi out H' hi ⟨sm,gC,eo⟩=>?_)
 ·let hf:=sm _ _ (show upd (upd H v (qX v d3)) d3 (.frz o (.dK (jD (aB hs) as))) d3\_ from aE);have Dd:D≠d3:=aR gC hf nofun;have ll:(gm hs ts).length=(aB hs).length:=by unfold gm;rw[aq]
  rw[<- ll,gG] at eo;apply#[#[hf,by omega],o,hf,D,gm hs ts,Z,.of ?_,by omega,λm hm hle=>k m _ (λb u e=>?_) hm hle]
  ·rw[aD Dd,gC,eo]
  by_cases z:b=d3
  ·subst z;rw[aE,<- h5];exact e
  rw[aD z];exact sm _ _ (by rw[aD z];exact s1 _ _ e)
 let hf:=sm _ _ (show upd (upd H v (qX v d3)) d3 (.frz o (.dK (jD (aB hs) as))) d3\_ from aE);apply#[#[hf,by omega],λx H2 y=>?_];let#[eH,kk,hk]:=y;subst eH;have hn:(aB hs)[i]? = some (aB hs)[i]:=cE hi;have ha:as[i]? = some (as[i]' Z1):=cE Z1
 have ex:x=.ref (as[i]' Z1):=by
  unfold jD at hk;rw[d0,cE (by rw[List.length_zip];omega),List.getElem_zip] at hk;exact (Prod.mk.inj (c7 hk)).2.symm
 subst ex;let QD:=h7 i _ _ hn ha;apply#[_,Z,Z,λNx hN=>fD ?_];apply#[_,Z,_,_,Z,.inl (.of (sm _ _ (KO QD nofun))),out,gC,?_,hN _ _ #[jP sm hD,aE,?_]]
 ·rw[eo,aq,dZ];unfold gm;rw[aq];omega
 rw[FJ _ (show (gm hs ts)[i]? = some (((near (aB hs) (aO ts) (aB hs)[i]).length:Nat):Int) by unfold gm;rw[d0,hn];rfl),eo,aq]
end
end Ev
namespace L2
open PySem PySem.Spec PyProof.Rows PySem.W
def K7(K:af)(a:Addr):It:=
 #[λi H=>∃xs x,dU K H a xs/\xs[i]? = some x,λi H y H'=>∃t x,y=.ref t/\H t=none/\(∀xs,dU K H a xs->xs[i]? = some x)/\H'=upd H t (.tup [.int i,x]),λi H=>∃xs,dU K H a xs/\xs.length=i]
def Inv.oM{X:Cx}{π:List (Addr × Obj)}{σ:St}{H:Hp}{s:Ab}{h':Heap}{t':Nat}{fp:ai}{T:Addr}{xs:ag}{its:aj}(I:!In H s)(k:∀b o,b∉fp->s.heap.get? b\o->h'.get? b\o)(hf:∀b∈fp,dc X π H b)
 (hT:s.heap.objs.size<=T)(hz:xs.length<=sizeLine)(r:Vals xs its)(ht:IsTup h' T its.toArray/\∃o,h'.get? T\o/\o.dict=none):!In (upd H T (.tup xs)) { s with heap:=h',toks:=t' }:=by
 have fT:H T=none:=I.ay.fresh hT;have nf:∀b u,H b\u->b∉fp:=λb u e hb=>by rw[(hf b hb).1] at e;cases e
 have old:∀{b u},H b\u->upd H T (.tup xs) b\u:=λe=>by rw[aD (bB e fT)];exact e
 apply I.step (g':=s.gens) (d':=s.drawn) (ch:=fp) (λb hb=>?_) (λb o _ _ hc e _=>k b o hc e) (λb o _ _ hc e _=>#[o.slots,k b o hc e]) (λb o _ e n=>?_)
  (λb o hc e=>#[o,k b o hc e]) (λb ys e=>old e) (λb o u e=>old e) (λb ps e=>#[#[],by rw[Array.append_empty];exact old e]) (λm hm=>?_) (λb u e=>?_) I.bare
 ·let#[f0,f1,f2,f3,f4,f5]:=hf b hb;exact#[f3,f1,f4,f5]
 ·rw[aD (λz=>by subst z;exact absurd (bW e) (Nat.not_lt.mpr hT))];exact n
 ·let#[o,es,ep,ho,r]:=hm;exact#[o,es,ep,k _ o (λhb=>(hf _ hb).2.1 Z) ho,r]
 by_cases z:b=T
 ·subst z;rw[aE] at e;cases e;exact#[hz,its,r,ht]
 rw[aD z] at e;apply (I.ay b u e).dJ (λc v hc q=>k c v ?_ q) (λ_ q=>old q) λ_ _ q=>old q;rcases hc with z|z
 ·rw[z];exact nf b u e
 exact nf c _ z
def Inv.jq{X:Cx}{π:List (Addr × Obj)}{σ:St}{H:Hp}{s:Ab}{h':Heap}{t':Nat}{fp:ai}(I:!In H s)(k:∀b o,b∉fp->s.heap.get? b\o->h'.get? b\o)(hf:∀b∈fp,dc X π H b):!In H { s with heap:=h',toks:=t' }:=by
 have nf:∀b u,H b\u->b∉fp:=λb u e hb=>by rw[(hf b hb).1] at e;cases e
 apply I.step (g':=s.gens) (d':=s.drawn) (ch:=fp) (λb hb=>?_) (λb o _ _ hc e _=>k b o hc e) (λb o _ _ hc e _=>#[o.slots,k b o hc e]) (λb o _ e n=>n)
  (λb o hc e=>#[o,k b o hc e]) (λb ys e=>e) (λb o u e=>e) (λb ps e=>#[#[],by rw[Array.append_empty];exact e]) (λm hm=>?_) (λb u e=>?_) I.bare
 ·let#[f0,f1,f2,f3,f4,f5]:=hf b hb;exact#[f3,f1,f4,f5]
 ·let#[o,es,ep,ho,r]:=hm;exact#[o,es,ep,k _ o (λhb=>(hf _ hb).2.1 Z) ho,r]
 apply (I.ay b u e).dJ (λc v hc q=>k c v ?_ q) (λ_ q=>q) λ_ _ q=>q;rcases hc with z|z
 ·rw[z];exact nf b u e
 exact nf c _ z
def iu_{P:Ad}{w:Af}{K:af}{elts:List Expr}{k:Nat}{pos:Pos}(a e it:Addr)(h1:e≠it)(h2:a≠e)(h3:a≠it):Turn P w K (.Tuple elts k pos) (K7 K a) [e,it] e (λi h=>(∃old,IsEnum h e it i old)/\h.IsListIter it a i) where
 mem:=by simp
 obj:=λi h st b hb=>by
  let#[#[old,q],o,e2,c,d]:=st;rcases cc.mp hb with rfl|hb
  ·exact#[_,q,λv z=>by cases z]
  obtain rfl:b=it:=⇑hb
  exact#[o,e2,λv z=>by rw[d] at z;cases z]
 keep:=λi h h' st kk=>by
  let#[#[old,q],d_]:=st;exact#[#[old,kk e Z2 _ q],d_.at λo q2=>kk it Z2 o q2]
 item:=by
  intro X hP hw hK hc i π s σ H E I hf st hg;subst hP hw hK;let#[xs,x,hq,hx]:=hg;let#[its,rv,p,hz]:=I.list hq;let#[u,hu,ru]:=rv.get hx;let W:=WalksT.enumerate (prog:=X.prog) (w:=X.w) (A:=X.A) (I.ok.hd hc) e it a h1 h2 h3 its.toArray
  have hi:i<its.toArray.size:=by
   simp only[c_];exact (cK.mp hu).1
  let#[old,he]:=st.1;let hit:=st.2;apply wpAny_pyNext_enum_item he hit p.isList (x:=u) (by rw[List.getElem?_toArray];exact hu) h1 λh' ho CC My hsz hk=>?_;have Ra:e<s.heap.objs.size:=bW he;have Q4:it<s.heap.objs.size:=by let#[_,x,_]:=hit;exact bW x
  have mid:(∃x,IsEnumOut h' e it ((i:Int)+1) x s.heap.objs.size)/\h'.IsListIter it a (i+1)/\h'.IsList a its.toArray/\s.heap.objs.size≠e/\s.heap.objs.size≠it:=#[#[_,ho],CC,p.isList.at λo x=>hk a o h2 h3 x,xx Ra,xx Q4];have kk:∀b o,b∉[e,it]->s.heap.get? b\o->h'.get? b\o:=λb o hb x=>hk b o (λe'=>hb (by simp[e'])) (λe'=>hb (by simp[e'])) x;have Qm:h'.IsTuple s.heap.objs.size (List.toArray [.int i s.toks,u]):=#[_,My,Z,_,Z];obtain⟨T,eT⟩:∃T,T=s.heap.objs.size:=#[_,Z];obtain⟨t,et⟩:∃t,t=s.toks:=#[_,Z];obtain⟨tk,Me⟩:∃tk,tk=s.toks+1:=#[_,Z];rw[<- eT] at Qm mid My ⊢;have hT:s.heap.objs.size<=T:=Nat.le_of_eq eT.symm;rw[<- et] at Qm My;rw[<- Me];apply#[_,Z,W.go elts k pos i T { s with heap:=h',toks:=tk } _ _ mid λjW fu Qh=>?_];have nT:T∉[e,it]:=W.apart i T h' mid
  have Ql:jW.IsTuple T (List.toArray [.int i t,u]):=by
   let#[o,q,r]:=Qm;exact#[o,Qh T o nT q,r]
  have I1:!In (upd H T (.tup [.int i,x])) { s with heap:=jW,toks:=tk }:=I.oM (t':=tk) (fp:=[e,it]) (its:=[.int i t,u]) (λb o hb q=>Qh b o hb (kk b o hb q)) hf hT (zl) (.cons #[t,Z] (.cons ru .nil)) #[Ql,_,Qh T _ nT My,Z];apply#[.ref T,_,I1,Z,#[T,x,Z,I.ay.fresh hT,λys hy=>by rw[I.kE hy hq];exact hx,Z],#[?_,fu.2.1],λb hb=>?_]
  ·let#[old,q]:=fu.1;exact#[old,by simpa using q]
  rw[aD (λz:b=T=>nT (by rw[<- z];exact hb))];exact (hf b hb).1
 done:=by
  intro X hP hw hK hc i π s σ H E I hf st hg;subst hP hw hK;let#[xs,hq,hx]:=hg;let#[its,rv,p,hz]:=I.list hq;let W:=WalksT.enumerate (prog:=X.prog) (w:=X.w) (A:=X.A) (I.ok.hd hc) e it a h1 h2 h3 its.toArray
  have hn:its.toArray.size=i:=by
   have:=rv.length;simp only[c_];omega
  apply W.done s _ _ (by rw[hn];exact#[st.1,st.2,p.isList]) λh' tk kk=>#[Z,I.jq (t':=tk) (fp:=[e,it]) kk hf]
 self:=λA i s Q E st h=>by
  let#[old,q]:=st.1;exact wpAny_pyIter_enum q h
inductive vz(K:af)(R:It->Hp->Prop)(vs:ag)(H1:Hp):Prop
 |mk:∀a,vs=[.ref a]->(∃xs,dU K H1 a xs)->R (K7 K a) H1->vz K R vs H1
def Ii(K:af)(ta:TA):TI:=λσ H R=>ta σ H λvs H1=>vz K R vs H1
def Xj{X:Cx}{elts:List Expr}{kk:Nat}{p2:Pos}{a:Expr}{ta:TA}{p pos:Pos}(hg:Gl X "enumerate")(hm:X.mg "enumerate"=none)(ha:PA X [a] ta)(hs:starEach [a] X.env=[(false,eval a X.env)]:=by rfl):PI X (.Tuple elts kk p2) (.Call (.Name "enumerate" p) [a] [] pos) (Ii X.K ta):=by
 intro π s σ H R I h;apply Call_ (E7 I hg hm boot_enumerate (PyProof.Rows.callWith_type1 (aU (ha pos π s σ H _ I h) λus s1 ⟨vs,H1,I1,r1,q1⟩=>?_) hs Z));let#[l,e,#[xs,hq],q]:=q1;subst e;cases r1 with
 |cons r rr=>
  cases rr;cases r;let#[its,rv,pl,hz]:=I1.list hq;have ll:l<s1.heap.objs.size:=by let#[_,e,_]:=pl.isList;exact bW e
  apply call_enumerate_list pl.isList λh' he hi hn kp=>?_;apply wpAny_pyIter_enum he ?_;apply#[s1.heap.objs.size+1,[s1.heap.objs.size+1,s1.heap.objs.size],_,_,H1,Z,I1.kept (t':=s1.toks) kp,iu_ l _ _ (Nat.succ_ne_self _) (dD (Nat.lt_succ_of_lt ll)) (dD ll),#[#[_,he],hi],λb hb=>?_,q]
  have e:s1.heap.objs.size<=b:=by
   rcases cc.mp hb with rfl|hb
   ·exact Nat.le_succ _
   obtain rfl:b=s1.heap.objs.size:=⇑hb
   exact bD _
  exact I1.kL e (I1.ay.fresh e)
def YT{K:af}{a:Addr}{xs:ag}{g:TG}{tb:TS}{D:Ends}{σ:St}{H:Hp}(Pv:bX)(h0:Pv 0 σ H)(hl:∀i σ H,i<=xs.length->Pv i σ H->dU K H a xs)
 (hs:∀i x σ H,xs[i]? = some x->Pv i σ H->∀t,H t=none->g (.ref t) σ (upd H t (.tup [.int i,x])) λg_ H2=>tb { D with nx:=Pv (i+1),ct:=Pv (i+1),bk:=D.nx } g_ H2)(hd:∀σ H,Pv xs.length σ H->D.nx σ H):
  ∃W:Nat->Nat->St->Hp->Prop,(∃m,W 0 m σ H)/\∀i m σ H,W i m σ H->
   ((K7 K a).stop i H/\D.nx σ H)∨((K7 K a).go i H/\∃N:St->Hp->Prop,(∀bh H',N bh H'->∃m',m'<m/\W (i+1) m' bh H')/\∀x H',(K7 K a).iG i H x H'->g x σ H' λg_ H2=>tb { D with nx:=N,ct:=N,bk:=D.nx } g_ H2):=by
 apply#[λi m σ H=>m=xs.length - i/\i<=xs.length/\Pv i σ H,#[xs.length,by simp,gQ _,h0],?_];rintro i m σ H ⟨rfl,hi,p⟩;let q:=hl i σ H hi p;by_cases dB:i<xs.length
 ·apply .inr #[#[xs,xs[i],q,by simp[dB]],Pv (i+1),λbh H' p'=>#[xs.length - (i+1),by omega,Z,dB,p'],λx H' y=>?_];let#[t,x,rfl,ht,y,rfl]:=y;exact hs i x σ H (y xs q) p t ht
 have e:i=xs.length:=by omega
 subst e;exact .inl #[#[xs,q,Z],hd σ H p]
def RJ(a b c:Str):Ic (.str a) [.str b,.str c]=(decide (b=a) || decide (c=a)):=by
 have e:∀x y:Str,ja (.str x) (.str y)=decide (x=y):=λx y=>by
  have:=Yh (a:=Sum.inr x) (b:=Sum.inr y) Z;rw[show ja (.str x) (.str y)=ja (kV (Sum.inr x)) (kV (Sum.inr y)) from Z,this];by_cases z:x=y
  ·simp[z]
  simp[z]
 unfold Ic;simp only[List.any_cons,List.any_nil,Bool.or_false,e]
end L2
namespace L2
open PySem PySem.Spec PyProof.Rows
def TrE(h base:Heap)(e:Addr)(cls cx fl:Aa):Prop:=∃oe vs T oT ts,h.get? e\oe/\(oe.cls=cls/\oe.dict=none)/\oe.data=Data.fields vs/\vs[1]? = some (Value.ref T)/\vs[2]? = some cx/\base.get? T=none/\T≠e/\h.get? T\oT/\oT.data=Data.fields ts/\ts[3]? = some fl
def mh(base:Heap)(l:List Env)(e:Addr)(cls cx fl:Aa)(h:Heap):Prop:=base.StaysIn h/\base.get? e=none/\h.FunFrames base l/\TrE h base e cls cx fl
abbrev xA(base:Heap)(l:List Env)(e:Addr)(cls fl:Aa)(h:Heap):Prop:=mh base l e cls Value.none fl h
def mh.less{base h:Heap}{env:Env}{l:List Env}{e:Addr}{cls cx fl:Aa}(f:mh base (env::l) e cls cx fl h):mh base l e cls cx fl h:=#[f.1,f.2.1,f.2.2.1.2.2,f.2.2.2]
def xA.w{base h:Heap}{l:List Env}{e:Addr}{cls:Aa}(f:xA base l e cls Value.none h):∃a0,Heap.FlyingW base l e cls a0 h:=by
 let#[f1,f2,f3,oe,vs,T,oT,ts,he,#[hc,_],hd,h1,h2,qD,i_,hT,i9,h3]:=f;have z:0<vs.size:=gO (by decide) (A9.mp h2).1;exact#[vs[0],f1,f2,f3,oe,vs,T,oT,ts,he,#[hc,Array.getElem?_eq_getElem z],hd,h1,qD,i_,hT,i9,h3]
def UZ(base:Heap)(l:List Env)(e:Addr)(cls a0:Aa)(h:Heap):Prop:=Heap.FlyingW base l e cls a0 h/\xA base l e cls Value.none h
def xA.b{base h:Heap}{l:List Env}{e:Addr}{cls:Aa}(f:xA base l e cls Value.none h):∃a0,UZ base l e cls a0 h:=by
 let#[a0,q]:=f.w;exact#[a0,q,f]
section
variable{M:Model}{A:Ag}{E:Aa->Ab->Prop}{s:Ab}{base:Heap}{env:Env}{outer:List Env}{L e:Addr}{cls cx fl:Aa}{Q:Unit->Ab->Prop}
def entryE{oe:Obj}{vs:Array Aa}{head:Aa}{jz:Bool}(i7:A.frames\(env::outer))(hl:s.heap.FunFrames base (env::outer))(hf:env.frame\L)(he:s.heap.get? e\oe)(AG:base.StaysIn s.heap)(Mr:base.get? e=none)(hd:oe.data=Data.fields vs)(qF:oe.dict=none)(h2:vs[2]? = some cx)
 (h:∀h',mh base (env::outer) e oe.cls cx (rawInt L) h'->s.heap.UpToSlots h'->Q () { s with heap:=h' }):
  wpAny M A (do
   let a <- PySem.frameOf env
   let pl <- entryPlaceOf L jz
   let b <- EntryCells.newEntry head a Value.none (rawInt L) Value.none pl
   setField (Value.ref e) 1 b) Q E s:=by
 have hsz:1<vs.size:=gO (by decide) (A9.mp h2).1
 have CH:e∉List.filterMap (λx=>x.frame) (env::outer):=λhm=>by
  let#[_,o,ho,QL]:=Heap.FunFrames.mem hl hm;rw[he] at ho;cases ho;exact QL vs hd
 apply au (wpAny_frameOf_fun i7 hl hf λba fS=>au (wpAny_entryPlaceOf λpl fX=>?_));unfold EntryCells.newEntry newFields;have Cm:ba.objs.size=s.heap.objs.size:=fS.1;let vJ:=(fS.right.left e CH).trans he;have dB:∀b o,s.heap.get? b\o->b≠ba.objs.size:=λb o q=>dD (by rw[Cm];exact bW q)
 have Mx:base.get? ba.objs.size=none:=by
  cases q:base.get? ba.objs.size with
  |none=>rfl
  |some o=>exact absurd Z (dB _ o (AG _ o q))
 have eQ:∀b o,base.get? b\o->ba.get? b\o:=λb o q=>(fS.right.left b (λhm=>by
  have:=(Heap.FunFrames.mem hl hm).1;rw[q] at this;cases this)).trans (AG b o q)
 obtain⟨hG,wW,Mg⟩:∃hG:Array Aa,([head,Value.ref L,Value.none,rawInt ↑L,Value.none]++if pl.isEmpty=true then List.replicate 6 Value.none else pl).toArray=hG/\hG[3]? = some (rawInt ↑L):=#[_,Z,by simp]
 have Ck:hG.size<=sizeLine+2:=by
  rw[<- wW];rcases fX with rfl|⟨a,b,c,d,c9,oz,_,rfl⟩
  ·show 11<=sizeLine+2;decide
  show 11<=sizeLine+2;decide
 apply au (vV ?_ (by rw[wW];exact Ck));rw[wW];have kJ:(ba.push { cls:=Value.type "traceback",data:=Data.fields hG }).get? e\oe:=b_ _ vJ;have vB:(ba.push { cls:=Value.type "traceback",data:=Data.fields hG }).get? ba.objs.size=some { cls:=Value.type "traceback",data:=Data.fields hG }:=eL ba Z;have i_:ba.objs.size≠e:=(dB e oe he).symm;apply wpAny_setField kJ hd hsz ?_;let i8:=Obj.data_mapFields hd λx=>x.setIfInBounds 1 (Value.ref ba.objs.size);let pM:=Du (Obj.mapFields λx=>x.setIfInBounds 1 (Value.ref ba.objs.size)) kJ (Obj.isFreed_of_fields i8);let pK:=(je (ba.push { cls:=Value.type "traceback",data:=Data.fields hG }) (Obj.mapFields λx=>x.setIfInBounds 1 (Value.ref ba.objs.size)) i_.symm).trans vB
 have u_:∀b o,b≠e->ba.get? b\o->((ba.push { cls:=Value.type "traceback",data:=Data.fields hG }).update e (Obj.mapFields λx=>x.setIfInBounds 1 (Value.ref ba.objs.size))).get? b\o:=λb o n1 q=>
  (je _ _ n1.symm).trans (b_ _ q)
 have Ji:((Obj.mapFields λx=>x.setIfInBounds 1 (Value.ref ba.objs.size)) oe).cls=oe.cls/\((Obj.mapFields λx=>x.setIfInBounds 1 (Value.ref ba.objs.size)) oe).dict=oe.dict:=by
  let#[c,dt,da,sl]:=oe;have:da=Data.fields vs:=hd;subst this;exact#[Z,Z]
 have ups:∀b o,s.heap.get? b\o->(∀vs,o.data≠Data.fields vs)->∃sl,((ba.push { cls:=Value.type "traceback",data:=Data.fields hG }).update e (Obj.mapFields λx=>x.setIfInBounds 1 (Value.ref ba.objs.size))).get? b=some { cls:=o.cls,dict:=o.dict,data:=o.data,slots:=sl }:=λb o q nf=>by
  let#[sl,q1]:=fS.right.right b o q;apply#[sl,u_ b _ (λz=>?_) q1];subst z;rw[he] at q;cases q;exact nf vs hd
 apply h _ #[λb o q=>u_ b o (λz=>?_) (eQ b o q),Mr,Heap.FunFrames.of_keeps (λb o q nf=>?_) hl,#[_,_,ba.objs.size,_,_,pM,#[Ji.1,Ji.2.trans qF],i8,?_,?_,Mx,i_,pK,Z,Mg]] ups
 ·subst z;rw[Mr] at q;cases q
 ·let#[sl,q1]:=ups b o q nf;exact#[_,q1,Z]
 ·simp[hsz]
 rw[Array.getElem?_setIfInBounds];simpa using h2
def xM{l:List Env}{fr:Option Addr}(f:mh base l e cls cx fl s.heap)
 (hQ:∀h',mh base l e cls cx (fr.elim Value.none λa=>rawInt a) h'->s.heap.UpToSlots h'->Q () { s with heap:=h' }):wpAny M A (setFlight (Value.ref e) fr) Q E s:=by
 let#[f1,f2,f3,oe,vs,T,oT,ts,he,hc,hd,h1,h2,qD,i_,hT,i9,h3]:=f;have z3:3<ts.size:=(A9.mp h3).1;have other:∀b,b≠T->(s.heap.update T (Obj.mapFields λx=>x.setIfInBounds 3 (fr.elim Value.none λa=>rawInt a))).get? b=s.heap.get? b:=λb hb=>je _ _ hb.symm
 have hY:∀b o,s.heap.get? b\o->(∀vs,o.data≠Data.fields vs)->b≠T:=λb o q nf z=>by
  subst z;rw[hT] at q;cases q;exact nf ts i9
 unfold setFlight;apply au (wpAny_field he hd h1 ?_);rw[aF Z2];apply wpAny_setField hT i9 z3 ?_;let AK:=Obj.data_mapFields i9 λx=>x.setIfInBounds 3 (fr.elim Value.none λa=>rawInt a);let Rt:=Du (Obj.mapFields λx=>x.setIfInBounds 3 (fr.elim Value.none λa=>rawInt a)) hT (Obj.isFreed_of_fields AK);apply hQ _ #[λb o q=>(other b (λz=>?_)).trans (f1 b o q),f2,Heap.FunFrames.of_keeps (λb o q nf=>#[o,(other b (hY b o q nf)).trans q,Z]) f3,oe,vs,T,_,_,(other e i_.symm).trans he,hc,hd,h1,h2,qD,i_,Rt,AK,?_] λb o q nf=>#[o.slots,(other b (hY b o q nf)).trans q]
 ·subst z;rw[qD] at q;cases q
 simp[z3]
def Aq(i7:A.frames\(env::outer))(hf:env.frame\L)(f:mh base (env::outer) e cls cx Value.none s.heap)
 (hQ:∀h',mh base (env::outer) e cls cx (rawInt L) h'->s.heap.UpToSlots h'->Q () { s with heap:=h' }):wpAny M A (noteFrame (Value.ref e) env) Q E s:=by
 let#[f1,f2,f3,oe,vs,T,oT,ts,he,#[hc,qF],hd,h1,h2,qD,i_,hT,i9,h3]:=f;subst hc;unfold noteFrame;rw[hf];dsimp only;apply au (wpAny_field he hd h1 ?_);rw[aF Z2];apply au (wpAny_field hT i9 h3 ?_);rw[aA (by simp[rawInt])];apply au (wpAny_setField hT i9 (A9.mp h3).1 ?_);have other:∀b,b≠T->(s.heap.update T (Obj.mapFields λx=>x.setIfInBounds 3 Value.none)).get? b=s.heap.get? b:=λb hb=>je _ _ hb.symm
 have hY:∀b o,s.heap.get? b\o->(∀vs,o.data≠Data.fields vs)->b≠T:=λb o q nf z=>by
  subst z;rw[hT] at q;cases q;exact nf ts i9
 apply entryE (base:=base) (s:={ s with heap:=s.heap.update T (Obj.mapFields λx=>x.setIfInBounds 3 Value.none) }) i7 (Heap.FunFrames.of_keeps (λb o q nf=>#[o,(other b (hY b o q nf)).trans q,Z]) f3) hf ((other e i_.symm).trans he) (λb o q=>(other b (λz=>?_)).trans (f1 b o q)) f2 hd qF h2 λh' g u=>hQ h' g λb o q nf=>u b o ((other b (hY b o q nf)).trans q) nf;subst z;rw[qD] at q;cases q
def _G(hf:env.frame\L){l:List Env}(f:mh base l e cls cx (rawInt L) s.heap)(h:Q () s):wpAny M A (noteFrame (Value.ref e) env) Q E s:=by
 let#[f1,f2,f3,oe,vs,T,oT,ts,he,hc,hd,h1,h2,qD,i_,hT,i9,h3]:=f;unfold noteFrame;rw[hf];dsimp only;apply au (wpAny_field he hd h1 ?_);rw[aF Z2];apply au (wpAny_field hT i9 h3 ?_);rw[aF Z2];exact bu h
def _p{h:Heap}{vs:aj}(i7:A.frames\(env::outer))(hf:env.frame\L)(AG:base.StaysIn h)(hl:h.FunFrames base (env::outer))(hx:Heap.MadeExcOf h s.heap e cls vs)
 (hQ:∀h',mh base (env::outer) e cls Value.none (rawInt L) h'->s.heap.UpToSlots h'->Q () { s with heap:=h' }):wpAny M A (noteFrame (Value.ref e) env) Q E s:=by
 let#[t,he,htn,ht]:=hx.there
 have fresh:∀b,h.get? b=none->base.get? b=none:=λb hb=>by
  cases hq:base.get? b with
  |none=>rfl
  |some o'=>have:=AG b o' hq;rw[hb] at this;cases this
 unfold noteFrame;rw[hf];dsimp only;apply au (wpAny_field he Z Z ?_);rw[aA Z2];exact entryE (base:=base) i7 (hl.of_keeps λb o hb _=>#[o,hx.keeps b o hb,Z]) hf he (λb o hb=>hx.keeps b o (AG b o hb)) (fresh e hx.new) Z Z Z hQ
end
def eX.here{P:Ad}{w:Af}{H:Hp}{h:Heap}{a:Addr}{o:HO}(x:eX P w H h a o):∃u,h.get? a\u:=by
 cases o with
 |lst xs=>let#[_,_,_,_,e]:=x;exact#[_,e]
 |tup xs=>let#[_,_,_,#[o,e,_],_]:=x;exact#[_,e]
 |dK kvs=>let#[_,_,_,_,o,_,_,e,_]:=x;exact#[_,e]
 |dT kvs=>let#[_,_,_,_,o,_,_,e,_]:=x;exact#[_,e]
 |set S n=>let#[o,_,_,_,e,_]:=x;exact#[_,e]
 |ins C dx fs=>let#[_,_,_,e,_]:=x;exact#[_,e]
 |own y=>exact x
 |xd fs=>let#[_,#[_,_,_,e,_],_]:=x;exact#[_,e]
 |rng lo hi=>let#[_,_,_,e]:=x;exact#[_,e]
 |frz ob u=>let#[e,_]:=x;exact#[_,e]
 |tbl ps=>exact#[_,show h.get? a\_ from x]
 |met f y=>exact#[_,show h.get? a\_ from x]
 |ext φ=>let#[_,e,_]:=x;exact e
def wD(B:Heap)(l:List Env)(H:Hp)(h0 h:Heap):Prop:=
 ∀b o,h.get? b\o->b∉eB l->((H b).isSome=true∨∃o0,h0.get? b\o0)->B.get? b\o
section
variable{P:Ad}{w:Af}{H H':Hp}{B h0 h h1:Heap}{l:List Env}
def KW(ay:dP P w H' h)(fr:∀b∈eB l,H' b=none)(i:wD B l H' h0 h)(st:B.StaysIn h1):dP P w H' h1:=λb o e=>
 (ay b o e).dJ (λc u hc q=>by
  have hs:∃x,H' c\x:=by
   rcases hc with z|z
   ·exact#[o,z▸e]
   exact#[_,z]
  let#[x,hx]:=hs;exact st c u (i c u q (λm=>by rw[fr c m] at hx;cases hx) (.inl (by rw[hx];rfl)))) (λ_ q=>q) (λ_ _ q=>q)
def Kj(un:Un (eB l) [] H H' h0 h)(ff:h.FunFrames B l)(i:wD B l H' h0 h)(st:B.StaysIn h1)(up:h.UpToSlots h1):Un (eB l) [] H H' h0 h1 where
 keep:=λb o q n hb hx=>st b o (i b o (un.keep b o q n hb hx) hb (.inr #[o,q]))
 slot:=λb o q n hb hx=>by
  let#[sl,e]:=un.slot b o q n hb hx;let#[_,o',e',d]:=ff.mem hb;rw[e] at e';cases e';let#[Lm,e2]:=up b _ e d;exact#[Lm,e2]
 free:=un.free
 there:=λb o q hx=>by
  let#[o',e]:=un.there b o q hx;by_cases hb:b∈eB l
  ·let#[_,o2,e',d]:=ff.mem hb;rw[e] at e';cases e';let#[Lm,e2]:=up b _ e d;exact#[_,e2]
  exact#[o',st b o' (i b o' e hb (.inr #[o,q]))]
 d9:=un.d9
 e_:=un.e_
 fQ:=un.fQ
def Km(ay:dP P w H' h)(un:Un (eB l) [] H H' h0 h)(i:wD B l H' h0 h)(st:B.StaysIn h1):wD B l H' h0 h1:=λb o e hb c=>by
 have:∃u,h.get? b\u:=by
  rcases c with z|⟨o0,z⟩
  ·let#[x,hx]:=wg.mp z;exact (ay b x hx).here
  exact un.there b o0 z Z2
 let#[u,hu]:=this;let q:=i b u hu hb c;have:=st b u q;rw[e] at this;cases this;exact q
end
def d8(P:Ad)(w:Af):jm:=λl H s E e s'=>
 ∃a cls H' B a0,e=Value.ref a/\s'.os=s.os/\AllBare s'.gens/\Un (eB l) [] H H' s.heap s'.heap/\dP P w H' s'.heap/\UZ B l a cls a0 s'.heap/\wD B l H' s.heap s'.heap/\E cls none H'
section
variable{X:Cx}{π:List (Addr × Obj)}{σ:St}{H H':Hp}{s s1:Ab}{B h:Heap}{a:Addr}{cls a0:Aa}{E:XK}
def NH(I:!In H s)(un:Un (eB X.stack) [] H H' s.heap h):∀b∈eB X.stack,H' b=none:=λb hb=>by
 let#[_,o,ho,_]:=I.stack.mem hb;exact un.free b o ho (I.jr b hb) Z2
def To(I:!In H s)(hex:X.ex=[])(os:s1.os=s.os)(bare:AllBare s1.gens)(un:Un (eB X.stack) [] H H' s.heap h)(ay:dP X.prog X.w H' h)(i:wD B X.stack H' s.heap h)(ff:h.FunFrames B X.stack)(up:h.UpToSlots s1.heap)
 (fl:UZ B X.outer a cls a0 s1.heap)(hE:E cls none H'):d8 X.prog X.w X.outer X.iZ X.cw E (.ref a) s1:=by
 let Oh:=Kj un ff i fl.1.1 up;let Cr:=KW ay (NH I un) i fl.1.1;have I1:!In H' s1:=I.jb os Oh Cr bare (λb z=>absurd z Z2);let bs:=I1.base;rw[hex] at bs;apply#[a,cls,H',B,a0,Z,I1.os,I1.bare,bs,I1.ay,fl,λb o e hb c=>?_,hE]
 have nL:b≠X.env.locals:=by
  rcases c with z|⟨o0,z⟩
  ·intro q;rw[q,I1.free] at z;cases z
  exact dD (gO (bW z) I.ok.above)
 apply Km ay un i fl.1.1 b o e (λhm=>?_) (c.imp id λ⟨o0,z⟩=>I.base.there b o0 z (by rw[hex];simp));rcases cc.mp (I.hU b hm) with z|z
 ·exact nL z
 exact hb z
end
section
variable{P:Ad}{w:Af}{K:af}{mg:Str->Option Aa}{base:Heap}{N:ae}{qual:Str}{scope:Scope}{f:Addr}{cd:Aa}{A:Ag}{outer:List Env}{s:Ab}{H:Hp}{E:XK}
def yg:oq (d8 P w) (dY (d8 P w) P w K mg base N qual scope f cd A outer s H E) E:=by
 intro π σ H1 s1 e s' I hc;let#[a,cls,H',B,a0,rfl,os,bare,un,ay,fl,i,hE]:=hc;show wpAny _ _ (leaving _ _) _ _ _;unfold leaving;apply au (Aq (base:=B) I.ok.frames Z fl.2 λh1 hd up=>xM (fr:=none) hd λh2 f2 Of=>?_);let#[a1,fb]:=xA.b (mh.less f2);exact To (s1:={ s' with heap:=h2 }) I Z os bare un ay i fl.1.2.2.1 (up.trans Of) fb hE
def Fq(X:Cx)(E:XK):Prop:=∀(π:List (Addr × Obj)) (σ:St) (H:Hp) (s:Ab) (h':Heap) (e:Addr) (cls:Aa) (vs:aj),!In H s->Heap.MadeExcOf s.heap h' e cls vs->E cls none H->X.xe (.ref e) { s with heap:=h' }
def x_:Fq (dY (d8 P w) P w K mg base N qual scope f cd A outer s H E) E:=by
 intro π σ H1 s1 h' e cls vs I hx hE;let ff:=PySem.W.funFrames_hide (as:=eB (dY (d8 P w) P w K mg base N qual scope f cd A outer s H E).stack) I.stack (λenv he b hb=>wc.mpr #[env,he,hb]);show wpAny _ _ (leaving _ _) _ _ _;unfold leaving;apply au (_p (base:=PySem.W.hideAll s1.heap (eB (dY (d8 P w) P w K mg base N qual scope f cd A outer s H E).stack)) (h:=s1.heap) I.ok.frames Z (λb o q=>PySem.W.of_hideAll _ q) ff hx λh1 hd up=>xM (fr:=none) hd λh2 f2 Of=>?_);let#[a1,fb]:=xA.b (mh.less f2);exact To (s1:={ s1 with heap:=h2 }) I Z Z I.bare Un.refl I.ay (λb o q hb _=>PySem.W.hideAll_get _ q hb) ff ((Heap.UpToSlots.of_keeps hx.keeps).trans (up.trans Of)) fb hE
end
section
variable{X:Cx}{x:Str}{C:Addr}{bm:aj}{B newId vv:String}{np bF pos:Pos}{vQ:Expr}{t:TA}{E:XK}
def lN_{K:af}{h:Heap}{mg:Str->Option Aa}{KM:aj}(X:K.In h)(hm:mg x\.ref C)(q:PySem.W.excIn K C KM newId=true):OwnCls x C KM newId mg h:=by
 apply#[hm,?_];unfold PySem.W.excIn at q;split at q
 ·rename_i dd cd sl ho
  split at q
  ·rename_i C' bm k0 k1 k2 k3 n k5 hm' hs
   simp only[pZ,beq_iff_eq,Bool.not_eq_true'] at q;let#[#[#[#[#[rfl,rfl],Jq],ht],ay],Mj]:=q;let#[nm,bs,mro,ns,qn,hd,sn,sub,ab,col,del]:=cd;dsimp only at hm' Jq ay Mj;subst hm' Jq
   have hsl:sl=(List.toArray [k0,k1,k2,k3,some (.builtin n),k5]):=by
    let#[l]:=sl;simp only at hs;rw[hs]
   subst hsl;exact#[bm,ns,nm,qn,bs,hd,sn,sub,ab,col,dd,k0,k1,k2,k3,k5,_,X _ _ ho,.of_isNs (PySem.W.isNs_of_in X ay),PySem.W.nsMap_none_of_in X ay Mj,PySem.W.tail_of_in X ht]
  cases q
 cases q
def Bo(cls:Aa)(E:XK)(t:TA):TS:=λ_ σ H=>t σ H λvs H1=>vs.length<=sizeLine/\E cls none H1
def DN(hh:X.calm=true)(R:Fq X E)(hm:X.mg x\.ref C)(qx:PySem.W.excIn X.K C bm newId=true)(FB:ExcBaseFacts B newId vv bm)(hg:Gl X x)(ha:PA X [vQ] t)
 (he:starEach [vQ] X.env=(false,eval vQ X.env)::starEach [] X.env:=by rfl)(fX:(backTo bF (starEach [vQ] X.env)).any (·.1)=false:=by rfl)(hd:(x == ("__debug__":Str))=false:=by decide):
  PS X (.Raise (some (.Call (.Name x np) [vQ] [] bF)) none pos) (Bo (.ref C) E t):=by
 intro π s σ H D I h;let O:=lN_ I.ok.mod.Cd hm qx;let#[tl,N,nm,q,bs,hdct,sn,sub,ab,col,dd,k0,k1,k2,k3,k5,mN,hC,hN,Mj,T]:=O.obj
 apply wpAny_Raise_call_subT (C:=C) (nm:=nm) (q:=q) (N:=N) (bs:=bs) (bm:=tl) (hdct:=hdct) (sn:=sn) (sub:=sub) (ab:=ab) (col:=col) (dd:=dd) (k0:=k0) (k1:=k1) (k2:=k2) (k3:=k3) (k5:=k5)
  FB (mN:=mN) (T.hasType FB.hasBase) (I.ok.hd hh) fX Mj (JW I hg O.bound #[Z,?_] hd)
 let CU:=ha bF π s σ H _ I h;rw[he] at CU ⊢;apply Calls.evalArgs_plain (gD CU (λus fR ⟨vs,H1,I1,r,z,q⟩=>#[Z,by rw[<- r.length];exact z,I1.bk _ _ hC,hN.keeps I1.bk,T.keeps I1.bk,λh' e hm=>R π σ H1 fR h' e _ _ I1 hm q]) λ_ _ y=>y)
end
section v
def bc.VW{x qual:Str}{st:Stmt}{f:Addr}{fd:Ae}{N ps:ae}{k:Nat}{sp:Sp}(F:bc K x qual st f fd)(S:bA N ps (aM st))(len:∀vs H Q E,sp vs H Q E->vs.length=ps.length)
 (bY:∀(aC:Aa)(A:Ag)(outer:List Env)(s:Ab)(H:Hp)(vs:ag)(Q:VK)(E:XK),aI k (A.deeper (envOfC qual (aM st) s.heap.objs.size f aC))->sp vs H Q E->
   ∃t,iy (dY (d8 P w) P w K mg base N qual (aM st) f aC A outer s H E) (fg st) t/\t { nx:=λ_ H'=>Q .non H',rt:=Q } (start N vs) H):!ak (d8 P w) (k+1) f fd ps sp:=by
 let#[oc,od,kV,doc,pm,an,aC,ct,gK,rfl,lk,fY]:=F.ex;apply L_ lk fY S len λA outer s H vs Q E hr iA=>?_;let#[t,h,q]:=bY aC A outer s H vs Q E hr iA;exact#[t,h,q]
def bc.okXA{x qual:Str}{st:Stmt}{f:Addr}{fd:Ae}{N ps:ae}{k:Nat}{sp:Sp}(F:bc K x qual st f fd)(S:bA N ps (aM st))(bY:∀(aC:Aa)(A:Ag)(outer:List Env)(s:Ab)(H:Hp)(vs:ag)(Q:VK)(E:XK),aI k (A.deeper (envOfC qual (aM st) s.heap.objs.size f aC))->sp vs H Q E->
   ∃t,iy (dY (d8 P w) P w K mg base N qual (aM st) f aC A outer s H E) (fg st) t/\t { nx:=λ_ H'=>Q .non H',rt:=Q } (start N vs) H)(len:∀vs H Q E,sp vs H Q E->vs.length=ps.length:=by intro vs H Q E h;first|(cases h;subst_vars;rfl)|(let#[rfl,_]:=h;rfl)|(let#[_,rfl,_]:=h;rfl)|(let#[_,_,rfl,_]:=h;rfl)|(let#[_,_,_,rfl,_]:=h;rfl)|(let#[_,_,_,_,rfl,_]:=h;rfl)|(let#[_,_,_,_,_,_,_,_,_,rfl,_]:=h;rfl)):!ak (d8 P w) (k+1) f fd ps sp:=F.VW S len bY
end
open PySem.Calls PySem.W Builtin Builtin.ObjectAttr Builtin.Getset_descriptor
structure lJ(K:af)(C:Addr):Prop where
 cl:(clsIn K C).isSome=true
 ga:findIn K (.ref C) "__getattribute__"\some (.builtin "BaseException.__getattribute__")
 ha:findIn K (.ref C) "__getattr__"\none
 ca:findIn K (.ref C) "__class__"\some (.builtin "object.__class__")
 gt:specialIn K (.builtin "object.__class__") "__get__"\some (.builtin "getset_descriptor.__get__")
 tk:takesIn K (.builtin "object.__class__")\true
 mo:mroIn K C (.type "object")\true
 mb:mroIn K C (.type "BaseException")\true
section
variable{prog:Ad}{w:Af}{A:Ag}{E:Aa->Ab->Prop}{s:Ab}{K:af}{x C:Addr}
def e0_{R:Result->Ab->Prop}{tp:Aa}(X:K.In s.heap)(L0:Looks (model prog w) s.heap (typeOf (.ref x)) (.ref C))(hm:mroIn K C (.type "object")\true)
 (h:R (.ok (.ret (.ref C))) s):codeAny (model prog w) A (.call (.builtin "getset_descriptor.__get__") #[[.builtin "object.__class__",.ref x,tp],[]]) R s:=by
 let#[hh,g,dr,t,os]:=s;let L1:=looks_mroIn (M:=model prog w) X hm;apply codeAny_call_builtin KF.slot_gs.plain KF.entry_gs (KF.slot_gs.check _ _ _ _ _ _ _ _ KF.type_class (KF.args_gs _ _ _) ?_);unfold Builtin.«getset_descriptor.__get__» descrGet;rw[dga_obj];apply au (bu ?_);unfold descrGetter descrCheckInstance descrNameAndClass isInstance;simp only[KF.owner_class]
 repeat lk
 apply#[Code.quiet_builtin _ Z0,codeAny_builtin KF.entry_class ?_];unfold Builtin.«object.__class__» shownTypeOf
 repeat lk
 exact h
def iG_{M:Model}{h:Heap}(k:lJ K C)(X:K.In h):Looks M h (find (.ref x) (.ref C) "__class__") (.bind (.builtin "getset_descriptor.__get__") (.builtin "object.__class__")):=by
 apply (looks_findIn X k.ca).andThen ((show Looks M h (getOf (some (.builtin "object.__class__"))) _ from looks_specialIn X k.gt).andThen ?_);exact (show Looks M h (dataDescriptor? (some _) (some _)) (some (_,_)) from (looks_takesIn X k.tk).andThen .now).andThen (Looks.tag .now)
def h0_{tk:Tok}{Q:Fin->Ab->Prop}(k:lJ K C)(X:K.In s.heap)(L0:Looks (model prog w) s.heap (typeOf (.ref x)) (.ref C))(hq:Q (.done (.ret (.ref C))) s):
  wpAny (model prog w) A (Builtin.«object.__getattribute__» #[[.ref x,.str "__class__" tk],[]]) Q E s:=by
 let#[hh,g,dr,t,os]:=s;let L1:=iG_ (M:=model prog w) (x:=x) k X;unfold Builtin.«object.__getattribute__»;apply au (bu ?_);apply au (bu ?_);apply au (L0.at ?_);apply au (L1.at ?_);show wpAny _ _ (holding [_] (call _ [_,.ref x,.ref C]) >>= ret) _ _ _;exact au (pV (wpAny_call (e0_ X L0 k.mo (bu hq))))
def dq_{Q:Option Aa->Ab->Prop}(k:lJ K C)(X:K.In s.heap)(L0:∀M,Looks M s.heap (typeOf (.ref x)) (.ref C))(h:Q (some (.ref C)) { s with toks:=s.toks+1 }):
  wpAny (model prog w) A (getAttr? (.ref x) "__class__") Q E s:=by
 let#[hh,g,d,t,os]:=s;let UU:=L0 (model prog w);let L1:=looks_findIn (M:=model prog w) X k.ga;let L2:=looks_findIn (M:=model prog w) X k.ha;have LB:Looks (model prog w) hh (isInstance (.ref x) (.type "BaseException")) true:=UU.andThen (looks_mroIn X k.mb);have hk:builtinKind "BaseException.__getattribute__"\.slot:=by decide +kernel
 have Cn:splitId "BaseException.__getattribute__"\("BaseException","__getattribute__"):=by decide +kernel
 unfold getAttr? getAttrBy? getAttrBy;apply au (wpAny_mkText (au (wpAny_attempt (pV (au (UU.at (au (L1.at ?_))))))));show wpAny _ _ (getAttrByItsOwn _ _ _ _ _ _) _ _ _;unfold getAttrByItsOwn hookBefore;apply au (L2.at ?_);apply au (wpAny_attempt (pV ?_));show wpAny _ _ (boundAndCalled _ _ _) _ _ _;unfold boundAndCalled;apply au (wpAny_of_eq (PySem.F.attr_ValueError.ga.bind (.ref x)) ?_);apply wpAny_call (codeAny_call_builtin PySem.F.attr_ValueError.ga.plain PySem.F.entry_bexc_ga ?_);simp only[checkBuiltinCall,hk,Cn];apply au (LB.at ?_);let ha:=PySem.F.args_bexc_ga (.ref x) (.str "__class__" t)
 have key:∀{A':Ag} {E':Aa->Ab->Prop} {R:Unit->Ab->Prop},R () #[hh,g,d,t+1,os]->wpAny (model prog w) A' (match Manifest.signature? "BaseException.__getattribute__" with
   |some sig=>Bind.checkArgs "BaseException.__getattribute__" sig { pos:=[Value.ref x]++[Value.str (Str.ofString "__class__") t] }
   |x=>pure ()) R E' #[hh,g,d,t+1,os]:=by
  intro A' E' R hR
  have CU:(match Manifest.signature? "BaseException.__getattribute__" with
   |some sig=>Bind.checkArgs "BaseException.__getattribute__" sig { pos:=[Value.ref x]++[Value.str (Str.ofString "__class__") t] }
   |x=>pure ())=pure ():=ha
  rw[CU];exact bu hR
 rw[aA (by decide)];apply key ?_;apply h0_ (C:=C) k X UU ?_;exact bu (bu h)
def jv_{a:Addr}(k:lJ K C):KitX K (.ref a) (.ref C) (λh=>∃o,h.get? a\o/\o.cls=.ref C) where
 ty:=λM h _ ⟨o,h1,h2⟩=>h2▸(Looks.ld h1).andThen .now
 it:=λ_ _ X _=>by
  let#[cdD,yP]:=wg.mp k.cl;unfold clsIn at yP;split at yP
  ·rename_i c' d' cd' OP ho
   intro A' Q' E' s' kk q;unfold isType loadHead;exact au (wpAny_loadPart (kk _ _ (X _ _ ho)) (bu q))
  cases yP
 ne:=λh tp dd its n sl X htp=>by
  let#[cdD,yP]:=wg.mp k.cl;apply Bool.eq_false_iff.mpr λq=>?_;have e:C=tp:=Value.ref.inj (beq_iff_eq.mp q);subst e;unfold clsIn at yP;split at yP
  ·rename_i c' d' cd' OP ho
   let z:=(X _ _ ho).symm.trans htp;cases z
  cases yP
 ca:=λX ⟨o,h1,h2⟩ q=>dq_ k X (λM=>h2▸(Looks.ld h1).andThen .now) q
end
section
variable{X:Cx}
def Ke:V->Option Aa
 |.ref C=>some (.ref C)
 |.ty T=>some (.type T)
 |_=>none
def iz_{c:V}{u v:Aa}(r:RelV c u)(h:Ke c\v):u=v:=by
 cases c with
 |ref C=>cases h;exact r
 |ty T=>cases h;exact r
 |_=>cases h
inductive Am(K:af)(xs:ag)(H:Hp)(Q:VK):Prop
 |mk:∀x C t b,xs=[x,.ref C]->fM K H x t->PySem.W.kitOne K t (.ref C)\b->Q (.bl b) H->Am K xs H Q
def in_:gF X (.builtin "isinstance") (Am X.K):=by
 intro π s σ H xs us Q I r h;let#[x,C,t,b,rfl,ty,e,q]:=h;let#[u,w',rfl,ru,hX]:=vals2 r;cases (show w'=Value.ref C from hX);exact Zj I ru ty e λtk=>#[.bl b,H,I.tok tk,Z,q]
end
end L2
namespace L2
open PySem PySem.Spec PyProof.Rows
abbrev Cx.rF(X:Cx)(a:Addr):Cx:={ X with A:=X.A.mark (some (.ref a)),calm:=false }
section
variable{X:Cx}{π:List (Addr × Obj)}{σ:St}{H:Hp}{s:Ab}{a:Addr}
def Cx.Ok.rF(ok:X.Ok)(a:Addr):(X.rF a).Ok:=
 #[ok.mod,ok.kind,ok.glob,ok.blt,ok.above,ok.inj,ok.has,ok.DA,λz=>absurd z Z2,ok.frames,ok.Gz,ok.JG,ok.bs,ok.r_,ok.qo,ok.qI,ok.fI,ok.w4]
def Inv.rF(I:!In H s)(a:Addr):Inv (X.rF a) π σ H s:=#[I.ok.rF a,I.os,I.bare,I.base,I.loc,I.cell,I.free,I.dk,I.pin,I.ay,I.len]
def Inv.yj(ok:X.Ok)(I:Inv (X.rF a) π σ H s):!In H s:=#[ok,I.os,I.bare,I.base,I.loc,I.cell,I.free,I.dk,I.pin,I.ay,I.len]
def Ni{M:Model}{A:Ag}{E:Aa->Ab->Prop}{i:Nat}{n:Str}{pos:Pos}{Q:Unit->Ab->Prop}(I:!In H s)(hN:X.N.Nodup)(hi:X.N[i]? = some n)(hl:X.env.scope.names.lookup n\.local)
 (h:∀s',Inv X π (σ.set i none) H s'->Q () s'):wpAny M A (do bindName X.env n .none;unbindBehindTheSuite X.env n pos) Q E s:=by
 let#[m,hn,Mm]:=id I.loc;have CL:(X.env.scope.kind == .class || (X.env.scope.kind == .module&&X.env.locals != X.env.globals))=false:=by rw[I.ok.kind];rfl
 have yK:i<σ.length:=by rw[I.len];exact (cK.mp hi).1
 let pT:=I.pT;apply wpAny_nameGoes_keeps hl hn CL λh' v yC hs=>?_;let#[oL,_,_,IG,_]:=id hn;apply h _ #[I.ok,I.os,I.bare,#[λb o e n hb hx=>?_,λb o e n hb hx=>?_,I.base.free,λb o e hx=>?_,I.base.d9,I.base.e_,I.base.fQ],#[_,yC,λj y v' e1 e2 e3=>?_],λy c e=>?_,I.free,I.dk,λp hp=>?_,λb ob e=>?_,by simpa using I.len]
 ·exact (hs.2 b (dD (gO (bW e) I.ok.above))).trans (I.base.keep b o e n hb hx)
 ·let#[sl,e1]:=I.base.slot b o e n hb hx;exact#[sl,(hs.2 b (dD (gO (bW e) I.ok.above))).trans e1]
 ·let#[o',e1]:=I.base.there b o e hx;exact#[o',(hs.2 b (dD (gO (bW e) I.ok.above))).trans e1]
 ·by_cases hj:j=i
  ·subst hj;rw[List.getElem?_set_self yK] at e2;cases e2
  rw[List.getElem?_set_ne (Ne.symm hj)] at e2;let#[u',r',q]:=Mm j y v' e1 e2 e3;apply#[u',r',?_];rcases q with⟨k,e⟩|⟨k,c,e,z⟩
  ·apply .inl #[k,?_];have:y≠n:=λe=>hj (SF hN e1 (e▸hi));simp[this,e]
  exact .inr #[k,c,e,z.sameBut hs (pT y c e)]
 ·let#[w',z]:=I.cell y c e;exact#[w',z.sameBut hs (pT y c e)]
 ·let#[e,n,ne,nf,d]:=I.pin p hp;exact#[(hs.2 p.1 ne).trans e,n,ne,nf,d]
 apply (I.ay b ob e).dJ (λc w' hc q=>(hs.2 c ?_).trans q) (λ_ q=>q) λ_ _ q=>q;rintro rfl;rcases hc with z|hc
 ·rw[<- z,I.free] at e;cases e
 rw[I.free] at hc;cases hc
end
abbrev XS:=St->Aa->Hp->Prop
def XP(X:Cx)(π:List (Addr × Obj))(ES:XS)(e:Aa)(s':Ab):Prop:=∃σ H s,!In H s/\d8 X.prog X.w X.stack H s (λcls _ H'=>ES σ cls H') e s'
def UT(X:Cx)(e:Expr)(t:XS->TE):Prop:=
 ∀(ES:XS) (π:List (Addr × Obj)) (s:Ab) (σ:St) (H:Hp) (Q:VK),!In H s->t ES σ H Q->wpAny (model X.prog X.w) X.A (eval e X.env) (EP X π σ Q) (XP X π ES) s
def US(X:Cx)(st:Stmt)(t:XS->TS):Prop:=
 ∀(ES:XS) (π:List (Addr × Obj)) (s:Ab) (σ:St) (H:Hp) (D:Ends),!In H s->t ES D σ H->wpAny (model X.prog X.w) X.A (exec st X.env) (SP X π D) (XP X π ES) s
def zF(X:Cx)(st:List Stmt)(t:XS->TS):Prop:=
 ∀(ES:XS) (π:List (Addr × Obj)) (s:Ab) (σ:St) (H:Hp) (D:Ends),!In H s->t ES D σ H->wpAny (model X.prog X.w) X.A (execs st X.env) (SP X π D) (XP X π ES) s
section
variable{X:Cx}{st:Stmt}{e c:Expr}{te:XS->TE}{t u:XS->TS}{pos:Pos}{a b:List Stmt}{tc:TT}
def Ki(h1:US X st t):zF X [st] t:=by
 intro ES π s σ H D I h;apply wpAny_execs_cons (aU (h1 ES π s σ H D I h) λf s1 q=>?_);cases f with
 |next=>exact wpAny_execs_nil q
 |ret v=>exact q
 |brk=>exact q
 |cont=>exact q
def WR(hc:PT X.pB c tc)(ha:zF X a t)(hb:zF X b u):US X (.If c a b pos) (λES=>Gu tc (t ES) (u ES)):=by
 intro ES π s σ H D I h;apply wpAny_If (gD (hc π s σ H _ (I.eM _) h) (λd s1 ⟨H1,I1,q1⟩=>?_) λ_ _ z=>False.elim z);cases d with
 |true=>exact ha ES π s1 σ H1 D I1.bM q1
 |false=>exact hb ES π s1 σ H1 D I1.bM q1
end
section
variable{X:Cx}{k:Nat}{f C:Addr}{fd:Ae}{ps:ae}{sp:Sp}{eK:ag}{ds:aj}{ES:XS}{x m:Str}{p pos apos:Pos}{e o:Expr}{es:List Expr}{ta:TE}{t:TA}
def kx_{π:List (Addr × Obj)}{σ:St}{H:Hp}{s:Ab}{Q:VK}{us:aj}{vs:ag}(F:ak X.prog X.w X.K X.mg X.base (d8 X.prog X.w) k f fd ps sp)(hr:aI k X.A)(hb:kX X.K fd ps ds)(hd:Vals eK ds)
 (I:!In H s)(r:Vals vs us)(h:sp (vs++eK) H Q (λcls _ H'=>ES σ cls H')):wpAny (model X.prog X.w) X.A (call (.ref f) us) (EP X π σ Q) (XP X π ES) s:=by
 have r2:Vals (vs++eK) (us++ds):=r.append hd;have hl:(us++ds).length=ps.length:=by rw[<- r2.length];exact F.len _ _ _ _ h
 apply wpAny_call (codeAny_mono (F.run X.A X.stack s H #[us,[]] (us++ds) (vs++eK) Q _ hr I.yV (hb s us I.fG hl) r2 h) λr s' hq=>?_);cases r with
 |error e=>exact#[σ,H,s,I,hq]
 |ok fl=>
  cases fl with
  |ret u=>exact I.after hq
  |next=>exact False.elim hq
  |brk=>exact False.elim hq
  |cont=>exact False.elim hq
inductive oP(C:Addr)(m:Str)(sp:Sp)(eK:ag)(t:TA)(ES:XS)(σ:St)(Q:VK)(x:V)(H1:Hp):Prop
 |mk:∀a dx fs,x=.ref a->H1 a\.ins C dx fs->fs.lookup m=none->(t σ H1 λvs H2=>sp (x::(vs++eK)) H2 Q (λcls _ H'=>ES σ cls H'))->oP C m sp eK t ES σ Q x H1
def tm(C:Addr)(m:Str)(sp:Sp)(eK:ag)(ta:TE)(t:TA)(ES:XS):TE:=λσ H Q=>ta σ H λx H1=>oP C m sp eK t ES σ Q x H1
def jj_{pl:Sem Bool}(he:PE X.pB o ta)(c:j6 X.K C)(hm:Meth X.K C m f)(F:ak X.prog X.w X.K X.mg X.base (d8 X.prog X.w) k f fd ps sp)(hr:aI k X.A)(hb:kX X.K fd ps ds)(hd:Vals eK ds)(ha:PA X.pB (e::es) t)
 (gT:starEach (e::es) X.env=(false,eval e X.env)::starEach es X.env:=by rfl)(fX:(backTo pos (starEach es X.env)).any (·.1)=false:=by rfl)
 (ht:eval (.Call (.Attribute o m apos) (e::es) [] pos) X.env=(do
   let ov <- eval o X.env
   standAt apos.atName
   let (f,first) <- holding [ov] (getMethod ov m pl)
   callWith pos f first (backTo pos (starEach (e::es) X.env)) (backToKw pos (keywordEach [] X.env))):=by rfl):
  UT X (.Call (.Attribute o m apos) (e::es) [] pos) (tm C m sp eK ta t):=by
 intro ES π s σ H Q I h;apply PySem.W.methodCall_KW (pl:=pl) (gD (he π s σ H _ (I.eM _) h) (λu s1 ⟨x,H1,I1,rx,a,dx,fs,ex,ea,l,q⟩=>?_) λ_ _ z=>False.elim z) ht;subst ex;obtain rfl:u=Value.ref a:=rx;let I1:=I1.bM;apply TB I1 ea c hm l ?_;apply PySem.W.callWith_K (first:=[.ref a]) (h₀:=X.base) I.ok.mod.Cd hm.kp (gD (ha pos π s1 σ H1 _ (I1.eM _) q) (λus s2 ⟨vs,H2,I2,r,q2⟩=>#[I2.fG,?_]) λ_ _ z=>False.elim z) gT fX;exact kx_ (us:=.ref a::us) (vs:=.ref a::vs) F hr hb hd I2.bM (.cons Z r) q2
end
section
variable{X:Cx}{i:Nat}{x n:Str}{D C:Addr}{np qC pos:Pos}{kW:Stmt}{gB body:List Stmt}{tb:XS->TS}{ts:TS}
def Ends.gone(D:Ends)(i:Nat):Ends:={ nx:=λσ H=>D.nx (σ.set i none) H,rt:=D.rt,bk:=λσ H=>D.bk (σ.set i none) H,ct:=λσ H=>D.ct (σ.set i none) H }
end
end L2
namespace L2
open PySem
end L2
namespace Ev
open PySem L2
abbrev uL:Stmt:=top 66
abbrev ny:Stmt:=top 67
abbrev uD:Stmt:=top 69
abbrev OT:Stmt:=top 19
abbrev Tj:Stmt:=top 46
abbrev mQ:Stmt:=top 47
abbrev nC:Stmt:=top 33
abbrev NQ:Stmt:=top 34
abbrev SR:Stmt:=top 35
abbrev J4:Stmt:=top 36
abbrev Ta:Stmt:=top 38
abbrev OS:Stmt:=top 20
abbrev uA:Stmt:=top 39
abbrev SA:Stmt:=top 40
abbrev T7:Stmt:=top 29
abbrev SE:Stmt:=top 12
abbrev iI:Stmt:=top 49
abbrev MP:Stmt:=top 50
abbrev uJ:Stmt:=top 51
abbrev BQ:Stmt:=top 52
abbrev BO:Stmt:=top 53
abbrev SS:Stmt:=top 54
abbrev SW:Stmt:=top 55
abbrev Uh:Stmt:=top 56
abbrev Ku:Stmt:=top 57
abbrev Td:Stmt:=top 58
abbrev ko:Stmt:=top 59
abbrev Ud:Stmt:=top 61
abbrev Tf:Stmt:=top 60
abbrev Sk:Stmt:=top 48
abbrev m_:Stmt:=top 68
abbrev uo:Stmt:=top 70
abbrev uv:Stmt:=top 72
abbrev y_:Stmt:=top 64
abbrev uw:Stmt:=top 42
abbrev nA:Stmt:=top 71
abbrev mU:Stmt:=top 73
abbrev uu:Stmt:=top 74
abbrev uI:Stmt:=top 75
abbrev hV:Stmt:=top 76
def bf(l:Addr)(H H':Hp):Prop:=∀b o,H b\o->b≠l->H' b\o
def bf.refl(l:Addr)(H:Hp):bf l H H:=λ_ _ e _=>e
def bf.trans{l:Addr}{H H1 H2:Hp}(h:bf l H H1)(h2:bf l H1 H2):bf l H H2:=λb o e n=>h2 b o (h b o e n) n
def bf.of{l:Addr}{H H1:Hp}(h:aa H H1):bf l H H1:=λb o e _=>h b o e
def bf.upd{l:Addr}{H:Hp}{o:HO}:bf l H (upd H l o):=λb u e n=>by rw[aD n];exact e
def dA(H:Hp)(l:Addr):Prop:=(∃n:Int,H l\.lst [.int n])∨∃n m c:Int,H l\.lst [.int n,.int m,.int c]
def dA.some{H:Hp}{l:Addr}(h:dA H l):∃xs,H l\.lst xs:=by
 rcases h with⟨n,e⟩|⟨n,m,c,e⟩
 ·exact#[_,e]
 exact#[_,e]
def bf.free{l b:Addr}{H H':Hp}(h:bf l H H')(s:dA H' l)(e:H' b=none):H b=none:=by
 cases z:H b with
 |none=>rfl
 |some o=>
  by_cases q:b=l
  ·subst q;let#[xs,e2]:=s.some;rw[e] at e2;cases e2
  rw[h b o z q] at e;cases e
def fU{α:Type}{xs:List α}{i:Int}(h0:0<=i)(h1:i<xs.length):gP xs i=xs[i.toNat]?:=by
 unfold gP Ax;rw[aF h0,aF h1];rfl
section v
def DZ:Sp:=λvs H Q _=>∃(l:Addr) (b:Int),vs=[.ref l,.int b]/\0<b/\b<1073741824/\dA H l/\∀r H',0<=r->r<b->bf l H H'->dA H' l->Q (.int r) H'
def small(x:Int):-(2 ^ 64)<x % 2147483647/\x % 2147483647<2 ^ 64:=by
 let h1:=Int.emod_nonneg x (b:=2147483647) (by decide);let h2:=Int.emod_lt_of_pos x (b:=2147483647) (by decide);exact#[by omega,by omega]
end
def Y_:(Dg:Str).cps.toList=[97,98,99,100,101,102,103,104,105,106,107,108,109,110,111,112,113,114,115,116,117,118,119,120,121,122]:=by decide +kernel
def lD_{r:Int}(h0:0<=r)(h1:r<26):∃c,gP (Dg:Str).cps.toList r\c/\kA c=true:=by
 rw[Y_,fU h0 ⇑h1];have hn:r.toNat<26:=by omega
 apply#[_,cE ⇑hn,?_];have all:∀c∈[97,98,99,100,101,102,103,104,105,106,107,108,109,110,111,112,113,114,115,116,117,118,119,120,121,122],kA c=true:=by decide +kernel
 exact all _ (lA _)
def yL{α:Type}{a b:α}{r:Int}(h0:0<=r)(h1:r<2):gP [a,b] r\a∨gP [a,b] r\b:=by
 have:r=0∨r=1:=by omega
 rcases this with rfl|rfl
 ·exact .inl Z
 exact .inr Z
section
def me{K:af}{H H':Hp}{l:Addr}{ys:ag}{ks:List ax}(t:bj K H ys ks)(b:bf l H H'){xs:ag}(hl:H l\.lst xs):bj K H' ys ks:=Paired.bJ t λy k ⟨a,z,q⟩=>#[a,z,b _ _ q (aR q hl nofun)]
def ZM{K:af}{H:Hp}{D:Addr}{ns:ae}(h:H D\.lst (ns.map V.str)):rL K rS H (.ref D) ns:=#[D,_,Z,.of h,Kb ns]
end
def kO(t:Str × Str):ax:=kT (aP t.1 t.2)
structure TI(ns:ae)(k j:Nat)(ts:Xb):Prop where
 at':∀t∈ts,∃(a b:Nat) (x y:Str),b<a/\(a<k∨(a=k/\b<j))/\ns[a]? = some x/\ns[b]? = some y/\(t=(x,y)∨t=(y,x))
 nd:(ts.map kO).Nodup
 len:ts.length<=7 * k+j
def Ff{a b:Str × Str}(h:kT a=kT b):a=b:=by
 unfold kT at h;let#[h1,h2]:=List.cons.inj h;let#[h2,_]:=List.cons.inj h2;exact Prod.ext (gX h1) (gX h2)
def JV{ns:ae}(nd:ns.Nodup){i j:Nat}{x:Str}(h:ns[i]? = some x)(h2:ns[j]? = some x):i=j:=by
 let#[hi,e1]:=cK.mp h;let#[hj,e2]:=cK.mp h2;exact (List.getElem_inj nd).mp (e1.trans e2.symm)
def ll_{a b c d:Str}(h:kO (a,b)=kO (c,d)):(a=c/\b=d)∨(a=d/\b=c):=by
 let h:=Ff h;dsimp only at h;rcases Fh a b with e|e<;>rcases Fh c d with e2|e2<;>rw[e,e2] at h<;>let h1:=(Prod.mk.inj h).1<;>let h2:=(Prod.mk.inj h).2
 ·exact .inl #[h1,h2]
 ·exact .inr #[h1,h2]
 ·exact .inr #[h2,h1]
 exact .inl #[h2,h1]
def dA.same{H H':Hp}{l:Addr}(h:dA H l)(s:aa H H'):dA H' l:=by
 rcases h with⟨n,e⟩|⟨n,m,c,e⟩
 ·exact .inl #[n,s _ _ e]
 exact .inr #[n,m,c,s _ _ e]
def XH(a:Str):pF a a=false:=Xi (Sum.inr a)
def hZ_{a b:Str}(h:pF a b=true):pF b a=false:=Zu (a:=Sum.inr a) (b:=Sum.inr b) h
def l1_{a b:Str}(h:pF a b=false)(h2:pF b a=false):a=b:=gX (Yd (a:=Sum.inr a) (b:=Sum.inr b) h h2)
def HN(a b:Str):bK (cy a) (cy b)=pF a b:=by
 show (if (Sum.inr a:Key)=Sum.inr b then false else pF a b)=pF a b;by_cases h:a=b
 ·subst h;rw[aF Z,XH]
 rw[aA λe=>h (gX e)]
def q_(ns:ae):Prop:=ns.Pairwise λa b=>pF b a=false
def q_.keys{ns:ae}(h:q_ ns):zI (ns.map cy):=by
 unfold zI;rw[md];exact h.imp λq=>by rw[HN];exact q
def eX_{a b:ae}(p:a.Perm b)(h1:q_ a)(h2:q_ b):a=b:=Yu (Tz (p.map cy) h1.keys h2.keys)
def im_(ss:ae):q_ (fA ss):=by
 let h:=Ux (ss.map cy);rw[<- TH] at h;unfold zI at h;rw[md] at h;exact h.imp λq=>by rw[HN] at q;exact q
def T4(a b:Str):aP a b=aP b a:=by
 unfold aP;by_cases h:pF a b=true
 ·rw[aF h,aA (by rw[hZ_ h];decide)]
 by_cases h2:pF b a=true
 ·rw[aA h,aF h2]
 have:=l1_ ⇑h ⇑h2;subst this;rw[aA h]
def Kn{ts:Xb}{x:Str × Str}:x∈aO ts ↔ ∃t∈ts,aP t.1 t.2=x:=by
 have e:kT x∈(aO ts).map kT ↔ x∈aO ts:=#[λh=>by
  let#[y,hy,e]:=bo.mp h;rw[<- Ff e];exact hy,λh=>bo.mpr #[x,h,Z]]
 rw[<- e,Fv,(jN _).mem_iff,bo];exact#[λ⟨t,ht,q⟩=>#[t,ht,Ff q],λ⟨t,ht,q⟩=>#[t,ht,by rw[q]]]
def k6_(a b:Str):kO (a,b)=kO (b,a):=by
 show kT (aP a b)=kT (aP b a);rw[T4]
section v
def BK:bA p6 p6 (aM uL):=bI
def tQ(K:af):Sp:=λvs H Q _=>∃(l:Addr) (ns:List Int) (k:Int),vs=[.ref l,.int k]/\0<=k/\dU K H l (ns.map V.int)/\∀n,Q (.int n) H
def kV_{f:Addr}{fd:Ae}(F:bc K "_law_cell_at" "_law_cell_at" uL f fd)(B:Bi mg):!ak bg 1 f fd p6 (tQ K):=by
 exists F.bN BK;let#[l,ns,i,rfl,h0,hl,k]:=h;apply#[_,ao (bQ (dm Wi (pv 1) (cO l0 (by rfl) B.len jH %[0|0])) (aK (bw (bE iF (pv 0) (pv 1)))) bR) (aK (bw aH)),?_];apply#[_,Z,_,Z,l,_,Z,.inl hl,_,_,Z,Z,_,Z,?_];apply br (λc=>?_) (λc=>?_)
 ·have c:i<(ns.map V.int).length:=⇑c
  have e:gP (ns.map V.int) i\.int (ns[i.toNat]'(by rw[aq] at c;omega)):=by
   rw[fU h0 c,d0,cE (by rw[aq] at c;omega)];rfl
  exact#[_,Z,_,Z,l,_,_,_,Z,Z,hl,e,k _]
 exact k 0
def Kw:bA [iE,"_law_base","_law_cell","_law_found","_law_number"] A0 (aM ny):=bI
def Hb{n:Int}(b:Bool):∃m:Int,gP [V.int 0,V.int n] (if b then 1 else 0)\.int m:=by
 cases b
 ·exact#[0,Z]
 exact#[n,Z]
def j0_{f:Addr}{fd:Ae}(F:bc K zp zp ny f fd)(B:Bi mg):!ak bg 1 f fd A0 DZ:=by
 exists F.bN Kw;let#[l,b,rfl,h0,h1,st,k]:=h
 apply#[_,ao (bQ (dm jZ (cO l0 (by rfl) B.len jH %[0|0]) aH)
   (ao (bC 2 Kw.nd (bE iF (pv 0) aH))
   (ao (JJ (bE iF (dI %[aH,2|0]) (sy hk_ (by rfl) B.int PyProof.Rows.Boot.«int» %[sd Qj (pv 2) (bV W8 aH aH)|0])) (Qo (pv 0) aH Sw))
   (aK (iX (jL jI DC DD DP (pv 0) %[dI %[bV zo (pv 2) aH,aH|0]|0]))))) bR)
  (ao (bQ (dm C5 (bE iF (pv 0) aH) aH)
   (ao (bC 3 Kw.nd (bV zo (bE iF (pv 0) aH) (pv 1)))
   (ao (JJ (bV zv (bE iF (pv 0) aH) (pv 1)) (Qo (pv 0) aH Sw))
   (aK (bw (pv 3))))) bR)
  (ao (JJ (bV jM (bE iF (pv 0) aH) aH) (Qo (pv 0) aH Sw))
  (ao (bC 4 Kw.nd (bV zo (bV sk (bV jM (bV jM (bE iF (pv 0) aH) (bV sk aH (bE iF (pv 0) aH))) aH) aH) aH))
  (ao (bC 4 Kw.nd (bV zo (bV sk (pv 4) (bV jM (bV zv (pv 4) aH) aH)) aH))
  (aK (bw (bV zo (bV zo (bV sk (pv 4) (bV jM (bV zv (pv 4) aH) aH)) aH) (pv 1)))))))),?_]
 rcases st with⟨n,CB⟩|⟨n,m,c,hl⟩
 case' inl=>
  apply#[_,Z,l,_,Z,.inl (.of CB),Z,_,Z,cz ?_];apply#[_,Z,l,_,_,_,Z,Z,.of CB,Z,?_];apply#[_,Z,zl,λp hp=>?_];have lp:l≠p:=bB CB hp;apply#[_,Z,_,_,Z,Z,#[by decide,by decide,by decide],_,_,Z,Z,.inr #[_,Z,?_]];let#[n',yC]:=Hb (n:=n) (decide ((10:Int) ^ (18:Int).toNat<=n));apply#[p,_,_,_,Z,Z,.of aE,yC,?_];apply#[_,Z,l,_,_,0,Z,Z,by rw[aD lp];exact CB,Z,?_];have ig:(upd (upd H p (.lst [.int 0,.int n])) l (.lst ([V.int n].set 0 (.int n')))) l\.lst [.int n']:=aE;have _U:bf l H (upd (upd H p (.lst [.int 0,.int n])) l (.lst ([V.int n].set 0 (.int n')))):=(bf.of (aa.new hp)).trans bf.upd;generalize (upd (upd H p (.lst [.int 0,.int n])) l (.lst ([V.int n].set 0 (.int n'))))=Ha at ig _U ⊢;apply#[_,Z,.inl #[Z,_,.of ig],_,Z,_,_,Z,Z,by show (0:Int)<2147483647;decide,zl,λq hq=>?_];apply#[l,q,_,_,Z,Z,aa.new hq _ _ ig,aE,by show 1+2<=sizeLine;decide,?_];have bt:bf l H (upd (upd Ha q (.lst [.int (n % 2147483647),.int 0])) l (.lst ([.int n']++[.int (n % 2147483647),.int 0]))):=_U.trans ((bf.of (aa.new hq)).trans bf.upd);have hl:(upd (upd Ha q (.lst [.int (n % 2147483647),.int 0])) l (.lst ([.int n']++[.int (n % 2147483647),.int 0]))) l\.lst [.int n',.int (n % 2147483647),.int 0]:=aE;generalize (upd (upd Ha q (.lst [.int (n % 2147483647),.int 0])) l (.lst ([.int n']++[.int (n % 2147483647),.int 0])))=H1 at bt hl ⊢
 case' inr=>
  apply#[_,Z,l,_,Z,.inl (.of hl),Z,_,Z,a_ ?_];let bt:=bf.refl l H
 all_goals
  apply#[_,Z,l,_,_,_,Z,Z,.of hl,Z,_,_,Z,Z,_,Z,?_];apply br (λc=>?_) (λc=>?_)
  ·apply#[_,Z,l,_,_,_,Z,Z,.of hl,Z,_,Z,_,_,Z,Z,h0,?_];apply#[_,Z,l,_,_,_,Z,Z,.of hl,Z,_,Z,_,_,Z,Z,#[h0,h1],_,Z,l,_,_,0,Z,Z,hl,Z,?_];exact#[_,Z,k _ _ (Int.emod_nonneg _ Z1) (Int.emod_lt_of_pos _ h0) (bt.trans bf.upd) (.inr #[_,_,_,aE])]
  apply#[_,Z,l,_,_,_,Z,Z,.of hl,Z,_,_,Z,Z,_,Z,l,_,_,2,Z,Z,hl,Z,?_];apply#[_,Z,l,_,_,_,Z,Z,.of aE,Z,_,Z,l,_,_,_,Z,Z,.of aE,Z,_,_,Z,Z,.inl #[by decide,by decide],_,_,Z,Z,_,_,Z,Z,_,_,Z,Z,.inr #[by decide,by decide],_,_,Z,Z,by show (0:Int)<2147483647;decide,?_];apply#[_,Z,_,Z,_,_,Z,Z,#[by decide,by decide],_,_,Z,Z,_,_,Z,Z,.inl (small _),_,_,Z,Z,by show (0:Int)<2147483647;decide,?_];apply#[_,Z,_,Z,_,_,Z,Z,#[by decide,by decide],_,_,Z,Z,_,_,Z,Z,.inl (small _),_,_,Z,Z,by show (0:Int)<2147483399;decide,_,Z,_,_,Z,Z,h0,?_];exact k _ _ (Int.emod_nonneg _ Z1) (Int.emod_lt_of_pos _ h0) (bt.trans bf.upd) (.inr #[_,_,_,aE])
end
def sP:ae:=["hand","tie","piece","yard","free","fixed","none","tick","come","go","rest","run","show","ok"]
structure Nm(m:Nat)(ns:ae):Prop where
 len:ns.length=m
 nd:ns.Nodup
 ok:∀n∈ns,eY n=true
 two:26<m->∀n∈ns,∃k w,k<m/\n.cps.toList=w++[97+k / 26]++[97+k % 26]
 end_:∀n∈ns,n∈sP∨∃k,k<m/\n.cps.toList.getLast? = some (97+k % 26)
def iK_(ns:ae)(k:Nat)(h:k<=ns.length):fe (ns.map V.str) (some (k:Int)) none=(ns.drop k).map V.str:=by
 unfold fe;rw[HT.ju,HT.hW,aq,Nat.min_eq_left h,List.map_drop,xv];rw[zB,aq];omega
def Tl(m k:Nat)(n:Str):Prop:=eY n=true/\∃w:List Nat,n.cps.toList=w++(if 26<m then [97+k / 26] else [])++[97+k % 26]
def lh_{m i j:Nat}{n:Str}(hm:m<=676)(hi:i<m)(hj:j<m)(a:Tl m i n)(b:Tl m j n):i=j:=by
 let#[_,w1,e1]:=a;let#[_,w2,e2]:=b;rw[e1] at e2;let l:=dH List.getLast? e2;rw[List.getLast?_append,List.getLast?_append] at l;simp at l;by_cases h:26<m
 ·rw[aF h,aF h] at e2;let z:=List.append_inj' e2 Z;let z2:=List.append_inj' z.1 Z;have:=(List.cons.inj z2.2).1;omega
 omega
def jA_{m:Nat}{ns:ae}(hm:m<=676)(hl:ns.length=m)(h:∀k n,ns[k]? = some n->Tl m k n):Nm m ns:=by
 apply#[hl,?_,λn hn=>?_,λh26 n hn=>?_,λn hn=>?_]
 ·rw[wk,List.pairwise_iff_getElem];intro i j hi hj lt e;let a:=h i _ (cE hi);let b:=h j _ (cE hj);rw[e] at a;have:=lh_ hm Z1 Z1 a b;omega
 ·let#[k,hk,e]:=j3 hn;exact (h k n (by rw[cE hk,e])).1
 ·let#[k,hk,e]:=j3 hn;let#[_,w,e2]:=h k n (by rw[cE hk,e]);rw[aF h26] at e2;exact#[k,w,by omega,e2]
 let#[k,hk,e]:=j3 hn;let#[_,w,e2]:=h k n (by rw[cE hk,e]);apply .inr #[k,by omega,?_];rw[e2,List.getLast?_append];rfl
def Xs{q:Nat}(h:q<26):gP (Dg:Str).cps.toList (q:Int)\(97+q):=by
 rw[Y_,fU Z1 (by show (q:Int)<((26:Nat):Int);omega),A_];have all:∀i:Fin 26,[97,98,99,100,101,102,103,104,105,106,107,108,109,110,111,112,113,114,115,116,117,118,119,120,121,122][i.val]? = some (97+i.val):=by decide +kernel
 exact all #[q,h]
def NA(x:Str)(c:Nat):(x++(⟨(List.toArray [c])⟩:Str)).cps.toList=x.cps.toList++[c]:=PySem.W.KT.app_list _ _
def Fx(x:Str):x.length=x.cps.toList.length:=by rw[we];rfl
def Xm{q:Nat}(h:q<26):kA (97+q)=true:=by
 unfold kA;rw[cj Z1,cj Z1];rfl
section v
def A5:bA [iE,"_law_many","_law_letters","_law_names_here","_law_k","_law_word","_law_j"] p_ (aM m_):=bI
def Si:Sp:=λvs H Q _=>∃(l:Addr) (m:Nat),vs=[.ref l,.int m]/\m<=30/\dA H l/\∀(a:Addr) (ns:ae) (H':Hp),bf l H H'->dA H' l->H a=none->H' a\.lst (ns.map V.str)->Nm m ns->Q (.ref a) H'
def iE_{f:Addr}{fd:Ae}(F:bc K "_law_names" "_law_names" m_ f fd)(B:Bi mg)(cD:!bH 1 zp A0 DZ):!ak bg 2 f fd p_ Si:=by
 exists F.bN A5;let#[l,m,rfl,PR,st,k]:=h;let sz:=cX;refine' #[_,?u0,?kk]
 case' u0=>refine' ao ?u1 ?u2
 case u1=>exact bC 2 A5.nd bL
 case' u2=>refine' ao ?u27 ?u28
 case u27=>exact bC 3 A5.nd (dI aX)
 case' u28=>refine' ao ?u29 ?u30
 case' u29=>refine' gc ?u31 ?u32 ?u33 ?u34 ?u35
 case u31=>exact fV
 case u32=>exact Z
 case u33=>exact Nz (by rfl) B.range %[1|0]
 case u34=>exact dF 4 A5.nd
 case' u35=>refine' ao ?u36 ?u37
 case u36=>exact bC 5 A5.nd bL
 case' u37=>refine' ao ?u38 ?u39
 case' u38=>refine' gc ?u40 ?u41 ?u42 ?u43 ?Vt
 case u40=>exact fV
 case u41=>exact Z
 case' u42=>refine' Nz ?u45 ?u46 ?u47
 case u45=>exact by rfl
 case u46=>exact B.range
 case u47=>exact eV (bp cD hr %[0,bV MF aH (bV zv (pv 1) aH)|0]) aX
 case u43=>exact dF 6 A5.nd
 case' Vt=>refine' aK ?u48
 first|(case' u48=>refine' E_ (i:=5) ?Vs ?Vr ?Vq ?Vp)|(case' Vt=>refine' E_ (i:=5) ?Vs ?Vr ?Vq ?Vp)
 case Vs=>exact A5.nd
 case Vr=>exact Z
 case Vq=>exact Or.inl Z
 case Vp=>exact bV Uy (pv 5) (bE Ru (pv 2) (bp cD hr %[0,aH|0]))
 case' u39=>refine' ao ?u53 ?Vo
 case' u53=>refine' bQ ?u55 ?Vn ?u57
 case u55=>exact dm C5 (pv 1) aH
 case' Vn=>refine' aK ?u58
 first|(case' u58=>refine' E_ (i:=5) ?Vm ?Vl ?Vk ?Vj)|(case' Vn=>refine' E_ (i:=5) ?Vm ?Vl ?Vk ?Vj)
 case Vm=>exact A5.nd
 case Vl=>exact Z
 case Vk=>exact Or.inl Z
 case Vj=>exact bV Uy (pv 5) (bE Ru (pv 2) (bV zv (pv 4) aH))
 case u57=>exact bR
 case' Vo=>refine' aK ?Vi
 first|(case' Vi=>refine' iX ?Vh)|(case' Vo=>refine' iX ?Vh)
 first|(case' Vh=>refine' jL ?Vg ?Vf ?Ve ?Vd ?Vc ?Vb)|(case' Vi=>refine' jL ?Vg ?Vf ?Ve ?Vd ?Vc ?Vb)
 case Vg=>exact jI
 case Vf=>exact xo
 case Ve=>exact xq
 case Vd=>exact v_
 case Vc=>exact pv 3
 case Vb=>exact eV (bV Uy (pv 5) (bE Ru (pv 2) (bV zo (pv 4) aH))) aX
 case u30=>exact aK (bw (pv 3))
 generalize hH:H=H1;have b1:bf l H H1:=by rw[hH];exact bf.refl l H1
 have jU:dA H1 l:=by rw[<- hH];exact st
 rw[<- hH] at b1;have b1:bf l H H1:=by rw[hH];exact bf.refl l H1
 all_goals
  apply#[zl,λa ha=>?_];let s2:=aa.new (o:=.lst []) ha;have b0:bf l H H1:=b1;have Jw:H a=none:=b0.free jU ha
  have wY:l≠a:=by
   let#[xs,e]:=jU.some;exact bB e ha
  apply#[_,Z,_,Z,by show (-(2 ^ 62):Int)<=(m:Int);omega,by show (m:Int)<(2 ^ 62:Int);omega,?_]
  let bx:bX:=λi σ H2=>∃(v6 v7 v8:aQ) (ns:ae),σ=[some (.ref l),some (.int m),some (.str Dg),some (.ref a),v6,v7,v8]/\bf l H H2/\dA H2 l/\H2 a\.lst (ns.map V.str)/\ns.length=i/\∀k n,ns[k]? = some n->Tl m k n
  apply Nw (lo:=0) (n:=(m:Int).toNat) bx
   #[_,_,_,[],Z,b0.trans (bf.of s2),jU.same s2,aE,Z,λk n e=>by simp at e] ?_ ?_
  ·rintro i σ H2 hi ⟨v6,v7,v8,ns,rfl,b2,d_,rM,ln,tl⟩;rw[Int.zero_add];have hi:i<m:=by omega
   apply#[_,Z,_,Z,_,_,Z,Z,#[by decide,by decide],_,_,Z,Z,l,8 - (m:Int) / 27,Z,by omega,by omega,d_,λr H3 r0 rb b3 j_=>#[_,Z,by show (-(2 ^ 62):Int)<=r;omega,by show r<(2 ^ 62:Int);omega,?_]]
   let ck:bX:=λj σ H4=>∃(x:Str) (v8:aQ),σ=[some (.ref l),some (.int m),some (.str Dg),some (.ref a),some (.int i),some (.str x),v8]/\bf l H H4/\dA H4 l/\H4 a\.lst (ns.map V.str)/\x.length=j/\x.cps.toList.all kA=true
   apply Nw (lo:=0) (n:=r.toNat) ck
    #["",_,Z,b2.trans b3,j_,b3 _ _ rM wY.symm,Z,Z] ?_ ?_
   ·rintro j σ H4 hj ⟨x,v8,rfl,b4,js,EK,hx,ho⟩;apply#[_,Z,_,Z,_,Z,l,26,Z,by decide,by decide,js,λq H5 q0 q26 b5 jT=>?_];let#[c,hc,oc]:=lD_ q0 q26;apply#[_,_,_,Z,Z,by decide +kernel,hc,_,_,Z,Z,?_,_,_,Z,b4.trans b5,jT,b5 _ _ EK wY.symm,?_,?_]
    ·have:(⟨(List.toArray [c])⟩:Str).length=1:=rfl;omega
    ·rw[Fx,NA,dE,<- Fx,hx];rfl
    rw[NA,List.all_append,ho];simp[oc]
   rintro σ H4 ⟨x,v8,rfl,b4,js,EK,hx,ho⟩;apply#[_,Z,_,_,Z,Z,_,Z,?_];apply br (λc3=>?_) (λc3=>?_)
   have c3:26<m:=by
    have:(26:Int)<(m:Int):=⇑c3
    omega
   have Mw:gP (Dg:Str).cps.toList ((i:Int) / 26)\(97+i / 26):=by
    have:=Xs (q:=i / 26) Z1;rw[<- this];congr 1
   apply#[_,Z,_,Z,_,Z,_,_,Z,Z,#[by decide,by decide],_,_,_,Z,Z,by decide +kernel,Mw,_,_,Z,Z,by show x.length+1<=sizeLine;omega,?_];have ex:(x++(⟨(List.toArray [97+i / 26])⟩:Str)).cps.toList=x.cps.toList++(if 26<m then [97+i / 26] else []):=by rw[aF c3];exact NA _ _
   generalize x++(⟨(List.toArray [97+i / 26])⟩:Str)=x' at ex ⊢;rotate_left 1
   have c3:¬26<m:=by
    have:¬(26:Int)<(m:Int):=⇑c3
    omega
   have ex:x.cps.toList=x.cps.toList++(if 26<m then [97+i / 26] else []):=by rw[aA c3,wa]
   obtain⟨x',Ex⟩:∃x':Str,x'=x:=#[_,Z];rw[<- Ex];have ex:x'.cps.toList=x.cps.toList++(if 26<m then [97+i / 26] else []):=by rw[Ex];exact ex
   all_goals
    have hc4:gP (Dg:Str).cps.toList ((i:Int) % 26)\(97+i % 26):=by
     have:=Xs (q:=i % 26) (Nat.mod_lt _ (by decide));rw[<- this];congr 1
    have lx:x'.length<=7:=by
     rw[Fx,ex,dE,<- Fx,hx];by_cases hm:26<m
     ·rw[aF hm];show r.toNat+1<=7;omega
     rw[aA hm];show r.toNat+0<=7;omega
    apply#[_,Z,.inl #[Z,_,.of EK],_,Z,_,Z,_,Z,_,_,Z,Z,by show (0:Int)<26;decide,_,_,_,Z,Z,by decide +kernel,hc4,_,_,Z,Z,?_,a,_,_,Z,Z,EK,?_,?_]
    ·have:(⟨(List.toArray [97+i % 26])⟩:Str).length=1:=rfl;omega
    ·rw[aq];omega
    apply#[_,_,_,ns++[x'++(⟨(List.toArray [97+i % 26])⟩:Str)],Z,λb o e ne=>?_,?_,?_,?_,λkk n hn=>?_]
    ·rw[aD (bB e Jw)];exact b4 _ _ e ne
    ·unfold dA;rw[aD wY];exact js
    ·rw[aE,cZ];rfl
    ·rw[dE,ln];rfl
    by_cases hk:kk<ns.length
    ·rw[FK hk] at hn;exact tl kk n hn
    have AH:kk=i:=by
     have:=(cK.mp hn).1;rw[dE] at this;simp only[D0] at this;omega
    subst AH;rw[D9 Z1,ln,Nat.sub_self] at hn;have hn:x'++(⟨(List.toArray [97+kk % 26])⟩:Str)=n:=⇑hn
    subst hn;have ey:(x'++(⟨(List.toArray [97+kk % 26])⟩:Str)).cps.toList=x'.cps.toList++[97+kk % 26]:=NA _ _;apply#[?_,x.cps.toList,by rw[ey,ex]];unfold eY;rw[Fx,ey,dE,<- Fx,cj (by show 1<=x'.length+1;omega),cj (by show x'.length+1<=8;omega),List.all_append,ex,List.all_append,ho];have o1:([97+kk % 26]:List Nat).all kA=true:=by simp[Xm (Nat.mod_lt kk (show 0<26 by decide))]
    have o2:(if 26<m then [97+kk / 26] else ([]:List Nat)).all kA=true:=by
     by_cases hm:26<m
     ·rw[aF hm];simp[Xm (show kk / 26<26 by omega)]
     rw[aA hm];rfl
    rw[o1,o2];rfl
  rintro σ H2 ⟨v6,v7,v8,ns,rfl,b2,d_,rM,ln,tl⟩;exact#[_,Z,k a ns H2 b2 d_ Jw rM (jA_ Z1 Z1 tl)]
end
def Tw(ys:ag)(k:Nat):fe ys none (some (k:Int))=ys.take k:=by
 unfold fe;rw[HT.hW,HT.ju,List.drop_zero,Nat.sub_zero];by_cases h:k<=ys.length
 ·rw[Nat.min_eq_left h]
 rw[Nat.min_eq_right Z1,xv (bD _),xv Z1]
def Zc(ys:ag)(k:Nat):fe ys (some (k:Int)) none=ys.drop k:=by
 unfold fe;rw[HT.ju,HT.hW];by_cases h:k<=ys.length
 ·rw[Nat.min_eq_left h,xv (by rw[zB];omega)]
 rw[Nat.min_eq_right Z1,List.drop_eq_nil_of_le (bD _),List.drop_eq_nil_of_le Z1,List.take_nil]
def NW{α β:Type}{F:α->β->Prop}:∀{ys:List α}{ks:List β}(n:Nat),Paired F ys ks->Paired F (ys.take n) (ks.take n)
 |_,_,0,_=>.nil
 |_,_,_+1,.nil=>.nil
 |_,_,n+1,.cons a t=>.cons a (NW n t)
def Uz{α β:Type}{F:α->β->Prop}:∀{ys:List α}{ks:List β}(n:Nat),Paired F ys ks->Paired F (ys.drop n) (ks.drop n)
 |_,_,0,h=>h
 |_,_,_+1,.nil=>.nil
 |_,_,n+1,.cons _ t=>Uz n t
def iU{α β:Type}{F:α->β->Prop}:∀{ys U4:List α}{ks vq:List β},Paired F ys ks->Paired F U4 vq->Paired F (ys++U4) (ks++vq)
 |_,_,_,_,.nil,h=>h
 |_,_,_,_,.cons a t,h=>.cons a (iU t h)
def jh_{α:Type}(l:List α)(t:Nat):(l.drop t++l.take t).Perm l:=List.perm_append_comm.trans (by rw[List.take_append_drop])
def Jd{α:Type}{p:α->Prop}{a b c:α}{r:Int}(h0:0<=r)(h1:r<3)(ha:p a)(hb:p b)(hc:p c):∃x,gP [a,b,c] r\x/\p x:=by
 have:r=0∨r=1∨r=2:=by omega
 rcases this with rfl|rfl|rfl
 ·exact#[_,Z,ha]
 ·exact#[_,Z,hb]
 exact#[_,Z,hc]
structure TJ(ns:ae)(k q:Nat)(ts:Xb):Prop where
 at':∀t∈ts,∃(a b:Nat) (x y:Str),a<b/\(a<k∨(a=k/\b<k+1+q))/\ns[a]? = some x/\ns[b]? = some y/\(t=(x,y)∨t=(y,x))
 nd:(ts.map kO).Nodup
 len:ts.length<=7 * k+q
def TJ.skip{ns:ae}{k j:Nat}{ts:Xb}(h:TJ ns k j ts):TJ ns k (j+1) ts:=
 #[λt ht=>let #[a,b,x,y,h1,h2,h3,h4,h5]:=h.at' t ht;#[a,b,x,y,h1,by omega,h3,h4,h5],h.nd,by have:=h.len;omega]
def TJ.next{ns:ae}{k q:Nat}{ts:Xb}(h:TJ ns k q ts)(h7:q<=7):TJ ns (k+1) 0 ts:=
 #[λt ht=>let #[a,b,x,y,h1,h2,h3,h4,h5]:=h.at' t ht;#[a,b,x,y,h1,by omega,h3,h4,h5],h.nd,by have:=h.len;omega]
def TJ.add{ns:ae}{k q:Nat}{ts:Xb}(h:TJ ns k q ts)(nd:ns.Nodup){x y:Str}{t:Str × Str}(hx:ns[k]? = some x)(hy:ns[k+1+q]? = some y)(ht:t=(x,y)∨t=(y,x)):TJ ns k (q+1) (ts++[t]):=by
 apply#[λu hu=>?_,?_,by have:=h.len;rw[dE];simp only[D0];omega]
 ·rcases fB.mp hu with hu|hu
  ·exact h.skip.at' u hu
  obtain rfl:u=t:=⇑hu
  exact#[k,k+1+q,x,y,by omega,.inr #[Z,by omega],hx,hy,ht]
 rw[cZ];apply X8 h.nd λm=>?_;let#[u,hu,e]:=bo.mp m;let#[a,b,c,d,h1,h2,h3,h4,h5]:=h.at' u hu
 have key:(c=x/\d=y)∨(c=y/\d=x):=by
  rcases h5 with rfl|rfl<;>rcases ht with rfl|rfl<;>rcases ll_ e with⟨q1,q2⟩|⟨q1,q2⟩<;>simp_all
 rcases key with⟨rfl,rfl⟩|⟨rfl,rfl⟩
 ·have:=JV nd h3 hx;have:=JV nd h4 hy;omega
 have:=JV nd h3 hy;have:=JV nd h4 hx;omega
def TJ.good{ns:ae}{k j:Nat}{ts:Xb}(h:TJ ns k j ts)(nd:ns.Nodup)(ok:∀n∈ns,eY n=true):∀t∈ts,AX t/\t.1∈ns/\t.2∈ns:=λt ht=>by
 let#[a,b,x,y,h1,h2,h3,h4,h5]:=h.at' t ht;let mx:=dz h3;let my:=dz h4
 have ne:x≠y:=λe=>by
  subst e;have:=JV nd h3 h4;omega
 rcases h5 with rfl|rfl
 ·exact#[#[ok _ mx,ok _ my,ne],mx,my]
 exact#[#[ok _ my,ok _ mx,ne.symm],my,mx]
def U0(m:Nat)(n:Str):Prop:=n∈sP∨∃k,k<m/\n.cps.toList.getLast? = some (97+k % 26)
section v
def zm:bA [iE,"_law_most","_law_names_here","_law_hands","_law_thin","_law_ties","_law_k","_law_one","_law_other","_law_turn"] [iE,"_law_most"] (aM uD):=bI
def tM(K:af):Sp:=λvs H Q _=>∃(l:Addr),vs=[.ref l,.int 8]/\dA H l/\∀(t lh lt:Addr) (ys zs:ag) (hs:Xa) (ts:Xb) (H':Hp),bf l H H'->dA H' l->H' t\.tup [.ref lh,.ref lt]->H lh=none->H lt=none->lh≠lt->
 H' lh\.lst ys->bj K H' ys (hs.map kH)->H' lt\.lst zs->bj K H' zs (ts.map kT)->Good hs ts->(∀n∈hs.map (·.1),U0 8 n)->Q (.ref t) H'
def kB_{f:Addr}{fd:Ae}(F:bc K "_law_web" "_law_web" uD f fd)(B:Bi mg)(cD:!bH 1 zp A0 DZ)(cN:!bH 2 "_law_names" p_ Si):!ak bg 3 f fd [iE,"_law_most"] (tM K):=by
 exists F.bN zm;let#[l,rfl,st,k]:=h;let sz:=cX
 refine' #[_,ao (bC 2 zm.nd (bp cN hr %[0,bV jM aH (bp cD hr %[0,1|0])|0]))
  (ao (Nj (i:=3) ["_law_name",iE] 1 [0] zm.nd Z (Or.inl Z) (eS (pv 2)) (λfp s H=>gy (i:=0) (show (["_law_name",iE]:ae).Nodup by decide +kernel) Z (Or.inl Z)) (λfp s H=>lW)
   (λfp s H=>?he))
  (ao (bC 4 zm.nd (bV jM aH (bp cD hr %[0,aH|0])))
  (ao (bC 5 zm.nd (dI aX))
  (ao (gc fV Z (Xj (by rfl) B.enum %[2|0]) (qP Z (eF (dF 6 zm.nd) (eF (dF 7 zm.nd) kZ)))
   (aK (gc fV Z (eS (FF Fg (pv 2) (Fn (bV jM (pv 6) aH)) Fo)) (dF 8 zm.nd)
    (aK (bQ (dm jZ (bp cD hr %[0,4|0]) aH)
     (aK (iX (jL jI xo xq v_ (pv 5) %[bE iF (dI %[dS %[7,8|0],dS %[8,7|0]|0]) (bp cD hr %[0,aH|0])|0])))
     bR)))))
  (ao (bC 9 zm.nd (bp cD hr %[0,cO l0 (by rfl) B.len jH %[3|0]|0]))
  (aK (bw (dS %[bV Fc (FF Fg (pv 3) (Fn (pv 9)) Fo) (FF Fg (pv 3) Fo (Fn (pv 9))),5|0])))))))),?_]
 case he=>exact dS %[0,bV jM aH (bp cD hr %[1,bE (Cg (K:=K) uX iF) (dI %[aH,aH,aH|0]) (bp cD hr %[1,aH|0])|0])|0]
 apply#[_,Z,_,Z,_,Z,l,8,Z,by decide,by decide,st,λr H1 r0 r8 b1 jU=>#[_,_,Z,Z,?_]];let#[r,rfl]:=xw r0;apply#[l,1+r,by show [V.ref l,V.int (1+(r:Int))]=[V.ref l,V.int ((1+r:Nat):Int)];rw[Int.natCast_add];rfl,by omega,jU,λln ns H2 b2 d_ fn AD N=>?_];have n8:ns.length<=8:=by rw[N.len];omega
 have n1:1<=ns.length:=by rw[N.len];omega
 have wV:ln≠l:=λe=>by
  subst e;let#[xs,e2]:=jU.some;rw[fn] at e2;cases e2
 apply#[_,Z,ln,Z,#[_,.of AD],λvn qE=>?_]
 have qt:vn≠l:=by
  let#[xs,e]:=d_.some;exact (bB e qE).symm
 let bx:eI:=λi out H'=>∃hs:Xa,bf l H2 H'/\dA H' l/\H' vn\.lst out/\bj K H' out (hs.map kH)/\hs.map (·.1)=ns.take i/\∀h∈hs,1<=h.2/\h.2<=1000
 apply p0 (own:=1) (fv:=[some (.ref l)]) (xs:=ns.map V.str) Z gr bx #[[],bf.of (aa.new qE),d_.same (aa.new qE),aE,.nil,Z,by simp] (λi out H' _ ⟨_,b,_⟩=>.of (b _ _ AD wV)) (λsL H3 ⟨AA,b3,j_,hh3,wL,en,gh⟩=>?_) (λi x out H' hx ⟨hs,b,stx,hD,tu,en,gh⟩=>?_);rotate_left 1
 ·let#[n,hn,rfl]:=lZ hx
  have li:out.length=i:=by
   let h1:=bG tu;rw[aq] at h1;let h2:=dH List.length en;rw[aq,dZ] at h2;have:=(cK.mp hn).1;omega
  let hi:=(cK.mp hn).1;apply#[_,Z,Z,λNx hN=>fD ?_];apply#[_,Z,_,Z,zl,λp hp=>?_];let s4:=aa.new (o:=.lst [.int 3,.int 12,.int 1000]) hp
  have lp:p≠l:=by
   let#[xs,e]:=stx.some;exact (bB e hp).symm
  apply#[_,Z,l,3,Z,by decide,by decide,stx.same s4,λr1 H5 q0 q1 b5 jT=>?_];let#[y,hy,bb,eb,e1,e2]:=Jd (p:=λy:V=>∃n:Int,y=.int n/\0<n/\n<=1000) (a:=V.int 3) (b:=.int 12) (c:=.int 1000) q0 q1 #[3,Z,by decide,by decide] #[12,Z,by decide,by decide] #[1000,Z,by decide,by decide];subst eb;apply#[p,_,_,_,Z,Z,.of (b5 _ _ aE lp),hy,l,bb,Z,e1,by omega,jT,λr2 H6 q2 q3 b6 oS=>#[_,_,Z,Z,zl,λt ht=>?_]];have UK:bf l H' H6:=(bf.of s4).trans (b5.trans b6);let Mz:=UK _ _ hD qt;let s7:=aa.new (o:=.tup [.str n,.int (1+r2)]) ht;let#[U7,AE]:=stx.some;let F4:=me tu UK AE;have tt:upd H6 t (.tup [.str n,.int (1+r2)]) t\.tup ((kH (n,1+r2)).map kV):=aE;apply#[out,s7 _ _ Mz,by omega,hN _ _ #[hs++[(n,1+r2)],λb' o e ne=>?_,?_,aE,?_,?_,λh hh=>?_]]
  ·rw[aD (bB e qE)];exact s7 _ _ (UK _ _ (b _ _ e ne) ne)
  ·have:=oS.same s7;unfold dA;rw[aD qt.symm];exact this
  ·rw[cZ];exact k_ (DO (F4.same s7) tt) (s7 _ _ Mz)
  ·rw[cZ,en,lB,hn];rfl
  rcases fB.mp hh with hh|hh
  ·exact gh h hh
  obtain rfl:h=(n,1+r2):=⇑hh
  exact#[by show 1<=1+r2;omega,by show 1+r2<=1000;omega]
 rw[aq,gG] at en;let ln3:=b3 _ _ AD wV;have lh0n:H2 vn=none:=qE;apply#[_,Z,l,4,Z,by decide,by decide,j_,λr3 H4 q0 q1 b4 js=>#[_,_,Z,Z,?_]];apply#[zl,λa ha=>?_];let s5:=aa.new (o:=.lst []) ha
 have wY:l≠a:=by
  let#[xs,e]:=js.some;exact bB e ha
 let PZ:=b4 _ _ ln3 wV;let Mp:=b4 _ _ hh3 qt;have lna:ln≠a:=bB PZ ha;have lha:vn≠a:=bB Mp ha;have B4:bf l H H4:=b1.trans (b2.trans (b3.trans b4));have Jw:H a=none:=B4.free js ha;have XG:H vn=none:=(b1.trans b2).free d_ qE;let#[xs3,AF]:=j_.some;let oN:=me wL b4 AF
 let Iv:Nat->Nat->Hp->Prop:=λkk q H'=>∃zs ts,bf l H H'/\dA H' l/\H' ln\.lst (ns.map V.str)/\H' vn\.lst sL/\bj K H' sL (AA.map kH)/\H' a\.lst zs/\bj K H' zs (ts.map kT)/\TJ ns kk q ts
 let ck:bX:=λi σ H'=>∃(v6 v7 v8 v9:aQ),σ=[some (.ref l),some (.int 8),some (.ref ln),some (.ref vn),some (.int (1+r3)),some (.ref a),v6,v7,v8,v9]/\Iv i 0 H'
 apply#[_,Z,ln,Z,#[_,.of (s5 _ _ PZ)],YT (K:=K) (a:=ln) (xs:=ns.map V.str) ck
  #[none,none,none,none,Z,[],[],B4.trans (bf.of s5),js.same s5,s5 _ _ PZ,s5 _ _ Mp,oN.same s5,aE,.nil,#[by simp,.nil,gQ _]] (λi σ H' _ ⟨_,_,_,_,_,_,_,_,_,q,_⟩=>.of q) ?_ ?_]
 ·rintro i x σ H6 hx ⟨v6,v7,v8,v9,rfl,N_,Om,b6,oS,QN,Mo,Lf,vO,F4,Ei⟩ u hu;let#[one,IB,rfl]:=lZ hx;have hi:i<ns.length:=(cK.mp IB).1;let#[s7,Xv]:=bS (X:=.tup [.int i,.str one]) hu;apply#[u,_,Z,.of Xv,Z,_,_,Z,_,_,Z,Z,?_];generalize upd H6 u _=H7 at s7 Xv ⊢;apply#[_,Z,_,Z,_,_,Z,Z,_,Z,ln,_,Z,.of (s7 _ _ QN),λp hp=>?_];have ec:fe (ns.map V.str) (some ((i:Int)+1)) none=(ns.drop (i+1)).map V.str:=iK_ ns (i+1) Z1;rw[ec];have s8:aa H7 (upd H7 p (.lst ((ns.drop (i+1)).map V.str))):=aa.new hp
  have lp:l≠p:=by
   let#[xs,e]:=(oS.same s7).some;exact bB e hp
  have pa:p≠a:=(bB (s7 _ _ vO) hp).symm;let uO:=s7.trans s8
  apply#[p,Z,#[_,.of aE],jh (K:=K) (a:=p) (xs:=(ns.drop (i+1)).map V.str) (λj σ H'=>∃(v8 v9:aQ),σ=[some (.ref l),some (.int 8),some (.ref ln),some (.ref vn),some (.int (1+r3)),some (.ref a),some (.int i),some (.str one),v8,v9]/\H' p\.lst ((ns.drop (i+1)).map V.str)/\Iv i j H')
   #[_,_,Z,aE,N_,Om,b6.trans (bf.of uO),oS.same uO,uO _ _ QN,uO _ _ Mo,Lf.same uO,uO _ _ vO,F4.same uO,Ei] (λj σ H' _ ⟨_,_,_,q,_⟩=>.of q) ?_ ?_]
  ·rintro j y σ H9 hy ⟨v8,v9,rfl,XD,N9,Lb,b9,zY,Cv,Q5,Oq,Rk,K9,F8⟩;let#[o,ho,rfl]:=lZ hy;rw[List.getElem?_drop] at ho;apply#[_,Z,_,Z,l,1+r3,Z,by omega,by omega,zY,λr4 jk q2 q3 oz xK=>#[Z,_,Z,?_]];let#[xs9,XI]:=zY.some;let II:=oz _ _ Cv wV;let Je:=oz _ _ Q5 qt;let CT:=oz _ _ Rk wY.symm;let Iz:=oz _ _ XD lp.symm;let F5:=me K9 oz XI;let F_:=me Oq oz XI;apply br (λc=>?_) (λc=>?_)
   ·apply#[_,Z,.inl #[Z,_,.of CT],_,Z,_,Z,zl,λt1 qA=>?_];let Ah:=aa.new (o:=.tup [.str one,.str o]) qA;apply#[_,Z,_,Z,zl,λt2 Ey=>?_];let s12:=aa.new (o:=.tup [.str o,.str one]) Ey;apply#[zl,λlx AE=>?_];let xY:=aa.new (o:=.lst [.ref t1,.ref t2]) AE;let Lw:=(Ah.trans s12).trans xY;let GH:=xK.same Lw;apply#[_,Z,l,2,Z,by decide,by decide,GH,λr5 H14 q4 q5 zx OF=>?_]
    have PV:lx≠l:=by
     let#[xs,e]:=(xK.same (Ah.trans s12)).some;exact (bB e AE).symm
    let IJ:=zx _ _ (show upd (upd (upd jk t1 (.tup [.str one,.str o])) t2 (.tup [.str o,.str one])) lx (.lst [.ref t1,.ref t2]) lx=_ from aE) PV;let#[xs13,IZ]:=GH.some;let Iu:=xY _ _ (s12 _ _ (show upd jk t1 (.tup [.str one,.str o]) t1=_ from aE));let Iq:=xY _ _ (show upd (upd jk t1 (.tup [.str one,.str o])) t2 (.tup [.str o,.str one]) t2=_ from aE);let Ir:=zx _ _ Iu (aR Iu IZ nofun);let Ip:=zx _ _ Iq (aR Iq IZ nofun)
    have pick:∃(t:Addr) (tt:Str × Str),gP [V.ref t1,V.ref t2] r5\.ref t/\H14 t\.tup ((kT tt).map kV)/\(tt=(one,o)∨tt=(o,one)):=by
     rcases yL (a:=V.ref t1) (b:=V.ref t2) q4 q5 with e|e
     ·exact#[t1,(one,o),e,Ir,.inl Z]
     exact#[t2,(o,one),e,Ip,.inr Z]
    let#[t,tt,et,ht,R9]:=pick;have iq:bf l jk H14:=(bf.of Lw).trans zx;let#[xs10,I_]:=xK.some;let CQ:=iq _ _ CT wY.symm;let QO:=iq _ _ II wV;let Q6:=iq _ _ Je qt;let QG:=iq _ _ Iz lp.symm;let Oj:=me F5 iq I_;let Os:=me F_ iq I_;let lz:=bG K9;rw[aq] at lz;let tl:=F8.len
    have hj:j<8:=by
     have:=(cK.mp ho).1;omega
    apply#[lx,_,_,_,Z,Z,.of IJ,et,a,_,_,Z,Z,CQ,by omega,?_];apply#[_,_,Z,by rw[aD pa];exact QG,_,Lb++[tt],λb o e ne=>?_,?_,by rw[aD lna];exact QO,by rw[aD lha];exact Q6,k_ Os CQ,aE,?_,F8.add N.nd IB ho R9]
    ·rw[aD (bB e Jw)];exact iq _ _ (oz _ _ (b9 _ _ e ne) ne) ne
    ·unfold dA;rw[aD wY];exact OF
    rw[cZ];exact k_ (DO Oj ht) CQ
   exact#[_,_,Z,Iz,N9,Lb,b9.trans oz,xK,II,Je,F_,CT,F5,F8.skip]
  rintro σ H9 ⟨v8,v9,rfl,XD,N9,Lb,b9,zY,Cv,Q5,Oq,Rk,K9,F8⟩;exact#[_,_,_,_,Z,N9,Lb,b9,zY,Cv,Q5,Oq,Rk,K9,F8.next (by rw[aq,zB];omega)]
 rintro σ H6 ⟨v6,v7,v8,v9,rfl,N_,Om,b6,oS,QN,Mo,Lf,vO,F4,Ei⟩;rw[aq] at Ei
 have ly:sL.length=ns.length:=by
  let h1:=bG Lf;rw[aq] at h1;let h2:=dH List.length en;rw[aq] at h2;omega
 apply#[_,Z,_,Z,vn,_,Z,.inl (.of Mo),l,_,Z,by show (0:Int)<(sL.length:Int);omega,by show (sL.length:Int)<1073741824;omega,oS,λtn H7 q0 q1 b7 Ej=>?_];let#[tn,rfl]:=xw q0;let#[xs6,Ml]:=oS.some;let XR:=b7 _ _ Mo qt;let X6:=b7 _ _ vO wY.symm;let K_:=me F4 b7 Ml;let F9:=me Lf b7 Ml;apply#[_,Z,_,Z,_,Z,vn,_,Z,.of XR,λp1 EB=>?_];rw[Zc];let s8:=aa.new (o:=.lst (sL.drop tn)) EB;apply#[_,Z,_,Z,_,Z,vn,_,Z,.of (s8 _ _ XR),λp2 lO=>?_];rw[Tw];let s9:=aa.new (o:=.lst (sL.take tn)) lO;apply#[p1,p2,_,_,Z,Z,s9 _ _ aE,aE,by rw[zB,dZ];omega,λp3 AC=>?_];let iJ:=aa.new (o:=.lst (sL.drop tn++sL.take tn)) AC;let nE:=s8.trans (s9.trans iJ);apply#[_,Z,zl,λt ht=>?_];let Ah:=aa.new (o:=.tup [.ref p3,.ref a]) ht;let uP:=nE.trans Ah;let _V:=b6.trans b7;let perm:=jh_ AA tn;let pm:=perm.map (·.1);let gt:=Ei.good N.nd N.ok;have mem:∀n,n∈(AA.drop tn++AA.take tn).map (·.1) ↔ n∈ns:=λn=>by rw[pm.mem_iff,en]
 apply k t p3 a _ N_ (AA.drop tn++AA.take tn) Om _ (_V.trans (bf.of uP)) (Ej.same uP) aE ((_V.trans (bf.of (s8.trans s9))).free (Ej.same (s8.trans s9)) AC) Jw (λe=>?_) (Ah _ _ aE) ?_ (uP _ _ X6) (K_.same uP) #[λh hh=>?_,?_,?_,?_,λt ht=>(gt t ht).1,Ei.nd,by have:=Ei.len;omega,λt ht=>#[(mem _).mpr (gt t ht).2.1,(mem _).mpr (gt t ht).2.2]] λn hn=>?_
 ·subst e;rw[(s8.trans s9) _ _ X6] at AC;cases AC
 ·rw[cZ,List.map_drop,List.map_take];have La:bj K H7 (sL.drop tn++sL.take tn) ((AA.map kH).drop tn++(AA.map kH).take tn):=iU (Uz tn F9) (NW tn F9);exact La.same uP
 ·let hm:=perm.mem_iff.mp hh;let#[g1,g2]:=gh h hm;exact#[N.ok _ (by rw[<- en];exact bo.mpr #[h,hm,Z]),g1,g2]
 ·apply pm.nodup_iff.mpr ?_;rw[en];exact N.nd
 ·have:=pm.length_eq;rw[aq,en] at this;omega
 ·have:=pm.length_eq;rw[aq,en] at this;omega
 rcases N.end_ n ((mem n).mp hn) with z|⟨kk,h1,h2⟩
 ·exact .inl z
 exact .inr #[kk,by omega,h2]
end
end Ev
namespace HT
open PySem PySem.Spec PyProof.Rows
section
variable{prog:Ad}{w:Af}{A:Ag}{E:Aa->Ab->Prop}{s:Ab}
def jB{t sl:Addr}{a b:Aa}{u:Tok}{Q:Aa->Ab->Prop}(ht:IsTup s.heap t (List.toArray [a,b]))(hs:s.heap.IsSliceOf sl .none .none (.int (-1) u))
 (h:Q (.ref s.heap.objs.size) { s with heap:=s.heap.push { cls:=.type "tuple",data:=.seq (List.toArray [b,a]) } }):wpAny (model prog w) A (getItem (.ref t) (.ref sl)) Q E s:=by
 have pJ:sizeOk (.seq (List.toArray [b,a])):=by
  show 2<=sizeLine;decide
 let#[os,Mi,Mu,Rc]:=id hs;have Rr:s.TypeIs (.ref sl) "slice":=#[os,Mi,Mu];unfold getItem
 try with_reducible apply pV ?_
 first|refine au (bu ?_)|skip
 apply au (wpAny_sequenceKey ht.typeIs (by decide) ?_)
 apply au (wpAny_callSpecial?_slot (name:=Str.ofString "__getitem__") ht.typeIs PyProof.Rows.slot_tuple_getitem
  (wpAny_call_entry PyProof.Rows.slot_tuple_getitem ht.typeIs entry_tuple_getitem ?_ (args_tuple_getitem _ _)))
 show wpAny _ _ (Builtin.Tuple.tupleItemsOf (.ref t) >>= _) _ _ s;apply au (tupleItemsOf_ ht ?_);apply au (wpAny_typeOf Rr ?_);rw[aF (by decide)]
 have ap:∀{A':Ag} {E':Aa->Ab->Prop} {R:Int × Int × Nat->Ab->Prop},R (1,-1,2) s->wpAny (model prog w) A' (Builtin.Slice.sliceApplied (.ref sl) (pure (((List.toArray [a,b]):Array Aa).size:Int))) R E' s:=by
  intro A' E' R hR;unfold Builtin.Slice.sliceApplied Builtin.Slice.sliceFields;apply au (au (wpAny_field Mi Rc (x:=.none) Z (au (wpAny_field Mi Rc (x:=.none) Z (au (wpAny_field Mi Rc (x:=.int (-1) u) Z (bu ?_)))))));apply au (slicePart_int ?_);show wpAny _ _ (if ((-1:Int) == 0)=true then _ else _) _ _ s;rw[aA (by decide)];exact au (slicePart_none (au (slicePart_none (au (bu (bu (by with_unfolding_all exact hR)))))))
 apply au (ap ?_);show wpAny _ _ (if ((1:Int) == 0&&(-1:Int) == 1&&(2:Nat) == 2)=true then _ else _) _ _ s;rw[aA (by decide)];have e:(List.filterMap (λ(k:Nat)=>((List.toArray [a,b]):Array Aa)[((1:Int)+(k:Int) * -1).toNat]?) (List.range 2)).toArray=(List.toArray [b,a]):=by with_unfolding_all rfl
 rw[e]
 first
  |exact au (m:=Builtin.Tuple.tupleExact _) (vV (bu ⟨_,rfl,bu h⟩) pJ)
  |exact au (m:=Builtin.Tuple.tupleExact _) (vV (au (bu (bu ⟨_,rfl,bu h⟩))) pJ)
  |exact au (au (m:=Builtin.Tuple.tupleExact _) (vV (bu (bu ⟨_,rfl,bu h⟩)) pJ))
  |exact au (au (m:=Builtin.Tuple.tupleExact _) (vV (bu ⟨_,rfl,bu h⟩) pJ))
end
end HT
namespace L2
open PySem PySem.Spec PyProof.Rows
section
variable{X:Cx}{e st:Expr}{te ts:TE}{pos p2:Pos}
def zP(K:af)(te ts:TE):TE:=λσ H Q=>te σ H λx H1=>ts σ H1 λy H2=>y=.int (-1)/\∃a u v,x=.ref a/\iw K H2 a [u,v]/\∀p,H2 p=none->Q (.ref p) (upd H2 p (.tup [v,u]))
def ki_(he:PE X e te)(hs:PE X st ts):PE X (.Subscript e (.Slice none none (some st) p2) pos) (zP X.K te ts):=by
 intro π s σ H Q I h;apply Subscript_ (aU (he π s σ H _ I h) λv s1 ⟨x,H1,I1,r1,q1⟩=>?_);apply wpAny_Slice ?_;rw[evalPart_none];apply bu (bu ?_);rw[evalPart_some];apply aU (hs π s1 σ H1 _ I1 q1) λvs s3 ⟨y,H3,I3,ry,ey,a,u,v',ex,hx,q⟩=>?_;subst ex ey;let#[t,rfl]:=ry;cases r1;have I4:!In H3 { s3 with heap:=s3.heap.push { cls:=.type "slice",data:=.fields (List.toArray [.none,.none,.int (-1) t]) } }:=I3.kept (t':=s3.toks) λb ob q=>b_ _ q;let#[its,r,ht,hz]:=I4.tuple hx;let#[x1,x2,rfl,rx1,rx2]:=Vals.two r;show wpAny (model X.prog X.w) X.A (subscriptTail e (.Slice none none (some st) p2) (.ref a) (.ref s3.heap.objs.size)) (EP X π σ Q) X.xe { s3 with heap:=s3.heap.push { cls:=.type "slice",data:=.fields (List.toArray [.none,.none,.int (-1) t]) } };apply tail_any (ops:=[.ref a,.ref s3.heap.objs.size]) ht.typeIs PyProof.Rows.slot_tuple_getitem.lookup (HT.jB ht (Heap.IsSliceOf.new ..) ?_) (by with_unfolding_all rfl);apply#[.ref _,upd H3 _ (.tup [v',u]),I4.laid (t':=s3.toks) (λb o e=>b_ _ e) (bD _) ?_,Z,q _ (I4.ay.fresh (bD _))];exact#[zl,[x2,x1],.cons rx2 (.cons rx1 .nil),#[_,eL _ Z,Z,_,Z],_,eL _ Z,Z]
def iH_{K:af}(he:PE X e te)(hs:PE X st ts)(hK:X.K=K:=by rfl):PE X (.Subscript e (.Slice none none (some st) p2) pos) (zP K te ts):=by
 subst hK;exact ki_ he hs
end
end L2
namespace Ev
open PySem L2
structure qV(ts ws:Xb):Prop where
 good:∀w∈ws,AX w
 nd:(ws.map kO).Nodup
 Eu:∀w∈ws,kO w∈ts.map kO
 len:ws.length<=ts.length
def k2_{ts us ws:Xb}(good:∀t∈ts,AX t)(nd:(ts.map kO).Nodup)(sub:us.Sublist ts)(p:Paired (λw u=>w=u∨w=(u.2,u.1)) ws us):qV ts ws:=by
 have e:ws.map kO=us.map kO:=by
  clear sub
  induction p with
  |nil=>rfl
  |cons h _ ih=>
   rw[fK,fK,ih];rcases h with rfl|rfl
   ·rfl
   exact dH (·::_) (k6_ _ _)
 apply#[λw hw=>?_,?_,λw hw=>?_,?_]
 ·let#[i,hi,ew]:=j3 hw;let hl:=bG p;let q:=jg p i hi Z1;rw[ew] at q;let g:=good _ (sub.subset (lA (show i<us.length by omega)));rcases q with q|q
  ·rw[q];exact g
  rw[q];exact#[g.2.1,g.1,g.2.2.symm]
 ·rw[e];exact (sub.map kO).nodup nd
 ·have:kO w∈ws.map kO:=bo.mpr #[w,hw,Z];rw[e] at this;exact (sub.map kO).subset this
 rw[bG p];exact sub.length_le
def bO(K:af)(H:Hp)(v:V):Option (Xb)->Prop
 |none=>v=.non
 |some ws=>∃a ys,v=.ref a/\H a\.lst ys/\bj K H ys (ws.map kT)
def bO.same{K:af}{H H':Hp}{v:V}{o:Option (Xb)}(h:bO K H v o)(s:aa H H'):bO K H' v o:=by
 cases o with
 |none=>exact h
 |some ws=>
  let#[a,ys,e,ha,t]:=h;exact#[a,ys,e,s _ _ ha,t.same s]
section v
def t_:bA [iE,"_law_ties","_law_some"] [iE,"_law_ties"] (aM uo):=bI
inductive ml(K:af):Sp|k:∀(l lt:Addr)(zs:ag)(ts:Xb),vs=[.ref l,.ref lt]->dA H l->H lt\.lst zs->bj K H zs (ts.map kT)->lt≠l->ts.length<64->(∀t∈ts,AX t)->(ts.map kO).Nodup->(∀(v:V)(o:Option (Xb))(H':Hp),bf l H H'->dA H' l->bO K H' v o->(∀a,v=.ref a->H a=none)->(∀ws,o\ws->qV ts ws)->Q v H')->ml K vs H Q E
def ks_{f:Addr}{fd:Ae}(F:bc K "_law_ways" "_law_ways" uo f fd)(B:Bi mg)(cD:!bH 1 zp A0 DZ):!ak bg 2 f fd [iE,"_law_ties"] (ml K):=by
 exists F.bN t_;let#[l,lt,zs,ts,rfl,st,dB,tu,wU,dC,good,nd,k]:=h;let sz:=cX;let lz:=bG tu;rw[aq] at lz
 refine' #[_,ao (bQ (dm C5 (bp cD hr %[0,aH|0]) aH) (aK (bw vY)) bR)
  (ao (Nj (i:=2) p8 1 [0] t_.nd Z (Or.inl Z) (eS (pv 1)) (λfp s H=>gy (i:=0) (show (p8:ae).Nodup by decide +kernel) Z (Or.inl Z))
   (λfp s H=>?ht) (λfp s H=>?he1))
  (aK (bw (pX p8 1 [0] (eS (pv 2)) (λfp s H=>gy (i:=0) (show (p8:ae).Nodup by decide +kernel) Z (Or.inl Z)) (λfp s H=>lW)
   (λfp s H=>?he))))),?_]
 case ht=>exact XO (dm jZ (bp cD hr %[1,aH|0]) aH)
 case he1=>exact pv 0
 case he=>exact bE (Cg (K:=K) uX iF) (dI %[0,iH_ (K:=K) (pv 0) (Ws WO aH)|0]) (bp cD hr %[1,aH|0])
 apply#[_,Z,l,3,Z,by decide,by decide,st,λr H1 r0 r3 b1 jU=>#[_,_,Z,Z,_,Z,?_]];apply br (λc=>?_) (λc=>?_)
 ·exact k .non none H1 b1 jU Z (λa z=>by cases z) (λws z=>by cases z)
 let#[xs,hl]:=st.some;let vD:=b1 _ _ dB wU;let tu1:=me tu b1 hl;apply#[_,Z,lt,Z,#[_,.of vD],λD hD=>?_]
 have Dl:D≠l:=by
  let#[xs,e]:=jU.some;exact (bB e hD).symm
 let bx:eI:=λi out H'=>∃us:Xb,bf l H1 H'/\dA H' l/\H' D\.lst out/\bj K H' out (us.map kT)/\us.Sublist (ts.take i)
 apply p0 (own:=1) (fv:=[some (.ref l)]) (xs:=zs) Z gr bx #[[],bf.of (aa.new hD),jU.same (aa.new hD),aE,.nil,List.nil_sublist _] (λi out H' _ ⟨_,b,_⟩=>.of (b _ _ vD wU)) (λFT H2 ⟨us,b2,d_,AN,Vx,sub⟩=>?_) (λi x out H' hx ⟨us,b,stx,hDx,F2,sub⟩=>?_);rotate_left 1
 ·let#[t,ht,p,rfl,hp]:=oA tu1 hx;apply#[_,Z,Z,λNx hN=>?_];apply#[_,Z,l,2,Z,by decide,by decide,stx,λr2 H4 q0 q1 b4 js=>#[Z,_,Z,?_]];let#[xsx,AE]:=stx.some;let oN:=me F2 b4 AE;let rQ:=b4 _ _ hDx Dl;apply br (λc2=>?_) (λc2=>?_)
  ·let lo:=bG F2;rw[aq] at lo;let ls:=sub.length_le;rw[dZ] at ls
   let hp4:=b4 _ _ (b _ _ hp (aR hp (show H1 l\_ from jU.some.choose_spec) nofun)) (by
    let#[xs1,e1]:=jU.some;exact aR hp e1 nofun)
   apply#[_,Z,out,rQ,by omega,hN _ _ #[us++[t],λb' o e ne=>?_,?_,aE,?_,?_]]
   ·rw[aD (bB e hD)];exact b4 _ _ (b _ _ e ne) ne
   ·unfold dA;rw[aD Dl.symm];exact js
   ·rw[cZ];exact k_ (DO oN hp4) rQ
   rw[lB,ht];exact sub.append (List.Sublist.refl _)
  apply hN _ _ #[us,b.trans b4,js,rQ,oN,sub.trans ?_];rw[lB];exact List.sublist_append_left _ _
 rw[lz,gG] at sub;let lu:=bG Vx;rw[aq] at lu;let ls:=sub.length_le;apply#[_,Z,D,Z,#[_,.of AN],λa ha=>?_]
 have al:a≠l:=by
  let#[xs,e]:=d_.some;exact (bB e ha).symm
 have Da:D≠a:=bB AN ha
 let ck:eI:=λi out H'=>∃ws:Xb,bf l H2 H'/\dA H' l/\H' a\.lst out/\bj K H' out (ws.map kT)/\Paired (λw u=>w=u∨w=(u.2,u.1)) ws (us.take i)
 apply p0 (own:=1) (fv:=[some (.ref l)]) (xs:=FT) Z gr ck #[[],bf.of (aa.new ha),d_.same (aa.new ha),aE,.nil,.nil] (λi out H' _ ⟨_,b,_⟩=>.of (b _ _ AN Dl)) (λys3 H3 ⟨ws,b3,j_,lP,wL,pw⟩=>?_) (λi x out H' hx ⟨ws,b,stx,hax,F2,pw⟩=>?_)
 ·rw[lu,gG] at pw;let b0:=b1.trans b2;exact k (.ref a) (some ws) H3 (b0.trans b3) j_ #[a,ys3,Z,lP,wL] (λc z=>by cases z;exact b0.free d_ ha) (λws' z=>by cases z;exact k2_ good nd sub pw)
 let#[t,ht,p,rfl,hp]:=oA Vx hx;have hi:i<us.length:=(cK.mp ht).1;let#[xs2,jy]:=d_.some;let#[xsx,AE]:=stx.some;let Xz:=b _ _ hp (aR hp jy nofun);apply#[_,Z,Z,λNx hN=>fD ?_];apply#[_,Z,_,Z,_,Z,Z,p,_,_,Z,.of (AB Xz),λq hq=>?_];let s4:=aa.new (o:=.tup [.str t.2,.str t.1]) hq;apply#[zl,λlx IK=>?_];let s5:=aa.new (o:=.lst [.ref p,.ref q]) IK;let BR:=s4.trans s5;let jT:=stx.same BR
 have PV:lx≠l:=by
  let#[xs,e]:=(stx.same s4).some;exact (bB e IK).symm
 apply#[_,Z,l,2,Z,by decide,by decide,jT,λr2 H6 q0 q1 b6 oS=>?_];let#[xs5,IY]:=jT.some;let EA:=BR _ _ Xz;let Xx:=s5 _ _ (show upd H' q (.tup [.str t.2,.str t.1]) q=_ from aE);let hp6:=b6 _ _ EA (aR EA IY nofun);let hq6:=b6 _ _ Xx (aR Xx IY nofun);let QQ:=b6 _ _ (show upd (upd H' q (.tup [.str t.2,.str t.1])) lx (.lst [.ref p,.ref q]) lx=_ from aE) PV
 have pick:∃(c:Addr) (tt:Str × Str),gP [V.ref p,V.ref q] r2\.ref c/\H6 c\.tup ((kT tt).map kV)/\(tt=t∨tt=(t.2,t.1)):=by
  rcases yL (a:=V.ref p) (b:=V.ref q) q0 q1 with e|e
  ·exact#[p,t,e,hp6,.inl Z]
  exact#[q,(t.2,t.1),e,hq6,.inr Z]
 let#[c,tt,et,hc,R9]:=pick;have A7:bf l H' H6:=(bf.of BR).trans b6;let vO:=A7 _ _ hax al;let lo:=bG F2;rw[aq] at lo;let lp:=bG pw;rw[dZ] at lp;apply#[lx,_,_,_,Z,Z,.of QQ,et,out,vO,by omega,hN _ _ #[ws++[tt],λb' o e ne=>?_,?_,aE,?_,?_]]
 ·rw[aD (bB e ha)];exact A7 _ _ (b _ _ e ne) ne
 ·unfold dA;rw[aD al.symm];exact oS
 ·rw[cZ];exact k_ (DO (me F2 A7 AE) hc) vO
 rw[lB,ht];exact iU pw (.cons R9 .nil)
end
abbrev Pc:=Str × Int × Option (Xb)
def wA(K:af)(H:Hp)(y:V)(p:Pc):Prop:=∃t v,y=.ref t/\H t\.tup [.str p.1,.int p.2.1,v]/\bO K H v p.2.2
abbrev Bb(K:af)(H:Hp)(ys:ag)(ps:List Pc):Prop:=Paired (wA K H) ys ps
structure zf(ts:Xb)(p:Pc):Prop where
 nm:eY p.1=true
 w1:1<=p.2.1
 w2:p.2.1<=1000000000
 ws:∀ws,p.2.2\ws->qV ts ws
def wA.same{K:af}{H H':Hp}{y:V}{p:Pc}(h:wA K H y p)(s:aa H H'):wA K H' y p:=by
 let#[t,v,e,ht,hv]:=h;exact#[t,v,e,s _ _ ht,hv.same s]
end Ev
abbrev aJ:=List Ev.Pc
namespace L2
open PySem PySem.Spec PyProof.Rows PySem.W
section
variable{X:Cx}
end
end L2
namespace Ev
open PySem L2
def Q0{α:Type}{p:α->Prop}{xs:List α}{r:Int}{n:Nat}(hn:xs.length=n)(h0:0<=r)(h1:r<(n:Int))(h:∀v∈xs,p v):∃v,gP xs r\v/\p v:=by
 have hl:r.toNat<xs.length:=by omega
 apply#[xs[r.toNat],?_,h _ (lA hl)];rw[fU h0 Z1,cE hl]
def setG{i:Nat}{v:V}{σ:St}{H:Hp}{N:oG}(h:N (σ.set i (some v)) H):gZ i v σ H N:=h
def dA.ne{H:Hp}{l a:Addr}(h:dA H l)(e:H a=none):a≠l:=by
 rintro rfl;let#[xs,h]:=h.some;rw[e] at h;cases h
end Ev
local macro_rules|`(tactic|lk)=>`(tactic|(refine Ev.setG ?_;dsimp only))
namespace Ev
open PySem L2
def Ti{α:Type}{ps:List (Str × α)}(nd:(ps.map (·.1)).Nodup){a b:Str × α}(ha:a∈ps)(hb:b∈ps)(e:a.1=b.1):a=b:=by
 induction ps with
 |nil=>cases ha
 |cons p ps ih=>
  rw[fK,j5] at nd;rcases cc.mp ha with za|ha
  ·rcases cc.mp hb with zb|hb
   ·rw[za,zb]
   rw[za] at e;exact absurd (show p.1∈ps.map (·.1) from bo.mpr #[b,hb,e.symm]) nd.1
  rcases cc.mp hb with zb|hb
  ·rw[zb] at e;exact absurd (show p.1∈ps.map (·.1) from bo.mpr #[a,ha,e]) nd.1
  exact ih nd.2 ha hb
def strOf(hs:Xa)(n:Str):Int:=((hs.find? λh=>decide (h.1=n)).map (·.2)).getD 0
def zw{hs:Xa}{n:Str}(h:n∈hs.map (·.1)):(n,strOf hs n)∈hs:=by
 unfold strOf;let#[x,hx,e]:=bo.mp h;cases q:hs.find? λh=>decide (h.1=n) with
 |none=>
  have:=List.find?_eq_none.mp q x hx;simp[e] at this
 |some y=>
  let m:=List.mem_of_find?_eq_some q;have:=List.find?_some q;have e2:y.1=n:=⇑this
  show (n,y.2)∈hs;rw[<- e2];exact m
def jB_{hs:Xa}(nd:(hs.map (·.1)).Nodup){n:Str}{s:Int}(h:(n,s)∈hs):strOf hs n=s:=by
 let m:=zw (bo.mpr #[_,h,Z]:n∈hs.map (·.1));exact dH Prod.snd (Ti nd m h Z)
def jg_{a b:Int}(ha:0<=a)(h:0<b):Int.gcd b (a % b)=Int.gcd a b:=by
 let#[m,rfl]:=xw ha;let#[n,rfl]:=xw (Int.le_of_lt h);rw[<- Int.natCast_emod];show Nat.gcd n (m % n)=Nat.gcd m n;rw[Nat.gcd_comm n,<- Nat.gcd_rec,Nat.gcd_comm]
def m4_{a b:Int}(hb:0<b)(pP:b<=2000000):0<(Int.gcd a b:Int)/\(Int.gcd a b:Int)<1073741824:=by
 have h1:0<Int.gcd a b:=Int.gcd_pos_of_ne_zero_right a Z1;have h2:(Int.gcd a b:Int) ∣ b:=Int.gcd_dvd_right a b;let h3:=Int.le_of_dvd hb h2;omega
section v
def qi:bA ["one","other","rest","divisor","left"] rV (aM OT):=bI
def GK:Sp:=λvs H Q _=>∃a b:Int,vs=[.int a,.int b]/\0<=a/\0<b/\Q (.int (Int.gcd a b)) H
def m9_{f:Addr}{fd:Ae}(F:bc K "greatest_divisor" "greatest_divisor" OT f fd):!ak bg 1 f fd rV GK:=by
 exists F.bN qi;let#[a,b,rfl,ha,hb,k]:=h;refine' #[_,ao ?s1 (ao ?s2 (ao ?s3 ?s4)),?kk]
 case s1=>exact bC 2 qi.nd (pv 0)
 case s2=>exact bC 3 qi.nd (pv 1)
 case s3=>exact Yv fV (dm ze (pv 2) aH) (ao (bC 4 qi.nd (bV zo (pv 3) (pv 2))) (ao (bC 3 qi.nd (pv 2)) (aK (bC 2 qi.nd (pv 4)))))
 case s4=>exact aK (bw (pv 3))
 apply#[_,Z,_,Z,?_];apply ja_ (λσ H'=>H'=H/\∃(r d:Int) (v4:aQ),σ=[some (.int a),some (.int b),some (.int r),some (.int d),v4]/\0<=r/\0<d/\Int.gcd r d=Int.gcd a b) (λσ _=>match σ with | [_,_,some (.int r),_,_]=>r.toNat|_=>0) #[Z,a,b,none,Z,ha,hb,Z] ?_ ?_
 ·rintro σ H' ⟨rfl,r,d,v4,rfl,hr0,hd,e⟩;apply#[_,Z,Z,_,Z,?_];apply br (λc=>?_) (λc=>?_)
  ·have fH:0<r:=by
    have:r≠0:=by
     intro z;subst z;simp at c
    omega
   apply#[_,Z,_,Z,_,_,Z,Z,fH,_,Z,_,Z,?_];let h1:=Int.emod_nonneg d (Int.ne_of_gt fH);let h2:=Int.emod_lt_of_pos d fH;apply#[#[Z,_,_,_,Z,h1,fH,?_],?_]
   ·rw[<- e,Int.gcd_comm (d % r) r,jg_ (Int.le_of_lt hd) fH,Int.gcd_comm]
   show (d % r).toNat<r.toNat;omega
  have fH:r=0:=⇑c
  subst fH;apply#[_,Z,?_]
  have e2:(Int.gcd a b:Int)=d:=by
   rw[<- e,Int.gcd_zero_left];omega
  rw[<- e2];exact k
 intro σ H' Q1 Q2 hq h;let#[x,e,h1,c,h2,h3]:=h;exact#[x,e,h1,c,h2,hq _ _ h3]
end
end Ev
namespace L2
open PySem PySem.Spec PyProof.Rows
def MR(w:Af)(l:List (Str × Tok × Aa)):List DictEntry:=l.map λx=>#[hashStr w x.1,.str x.1 x.2.1,x.2.2]
def lH(K:af)(w:Af)(d:Addr)(kvs:List (Str × V)):Prop:=
 (d == sysModules)=false/\(kvs.map (·.1)).Nodup/\∃(l:List (Str × Tok × Aa)) (o:Obj) (es:Array DictEntry) (ep:Nat),K.lookup d\o/\o.ExactDict/\o.data=.dict es ep/\es.toList=MR w l/\Paired (λ(p:Str × V) (x:Str × Tok × Aa)=>p.1=x.1/\RelV p.2 x.2.2) kvs l
def Zf{P:Ad}{w:Af}:∀{l:List (Str × Tok × Aa)},Pairs (eD P w) (MR w l) (l.map λx=>((Sum.inr x.1:Key),x.2.2))
 |[]=>.nil
 |x::l=>.cons (UB P w x.1 x.2.1) Z (Zf (l:=l))
def YK{kvs:List (Str × V)}{l:List (Str × Tok × Aa)}(h:Paired (λ(p:Str × V)(x:Str × Tok × Aa)=>p.1=x.1/\RelV p.2 x.2.2) kvs l):kvs.map (·.1)=l.map (·.1):=by
 induction h with
 |nil=>rfl
 |cons a _ ih=>rw[fK,fK,ih,a.1]
def lH.of{P:Ad}{K:af}{w:Af}{d:Addr}{kvs:List (Str × V)}{h:Heap}(k:lH K w d kvs)(X:K.In h):∃l:List (Str × Tok × Aa),Paired (λ(p:Str × V)(x:Str × Tok × Aa)=>p.1=x.1/\RelV p.2 x.2.2) kvs l/\h.DictOf (eD P w) d (l.map λx=>((Sum.inr x.1:Key),x.2.2)):=by
 let#[_,nd,l,o,es,ep,ho,hx,hd,he,hp]:=k;apply#[l,hp,o,es,ep,X _ _ ho,hx,hd,λe m=>?_,?_,?_]
 ·have m:e∈MR w l:=by
   rw[<- he];simpa using m
  let#[x,_,rfl]:=bo.mp m;exact#[Sum.inr x.1,UB P w x.1 x.2.1,Z]
 ·rw[he];exact Zf
 rw[YK hp] at nd;rw[bU,wk,md];rw[wk,md] at nd;exact nd.imp λn e=>n (gX e)
def ko_{kvs:List (Str × V)}{l:List (Str × Tok × Aa)}(h:Paired (λ(p:Str × V)(x:Str × Tok × Aa)=>p.1=x.1/\RelV p.2 x.2.2) kvs l)(nd:(kvs.map (·.1)).Nodup){z:Str}{v:V}(m:(z,v)∈kvs):∃u,valueAt (l.map λx=>((Sum.inr x.1:Key),x.2.2)) (Sum.inr z)\u/\RelV v u:=by
 unfold valueAt
 induction h with
 |nil=>cases m
 |@cons p x kvs l a _ ih=>
  rw[fK] at nd ⊢;rw[List.find?_cons];let#[n1,n2]:=j5.mp nd;by_cases e:x.1=z
  ·rcases cc.mp m with m|m
   ·subst m;apply#[x.2.2,?_,a.2];simp[e]
   exact absurd (by rw[a.1,e];exact bo.mpr #[_,m,Z]) n1
  rcases cc.mp m with m|m
  ·subst m;exact absurd a.1.symm e
  have:=ih n2 m;simp[e];simpa using this
def hs_{kvs:List (Str × V)}{l:List (Str × Tok × Aa)}(h:Paired (λ(p:Str × V)(x:Str × Tok × Aa)=>p.1=x.1/\RelV p.2 x.2.2) kvs l)(z:Str):(valueAt (l.map λx=>((Sum.inr x.1:Key),x.2.2)) (Sum.inr z)).isSome=decide (z∈kvs.map (·.1)):=by
 rw[YK h];unfold valueAt;rw[Option.isSome_map,List.isSome_find?];rw[Bool.eq_iff_iff,List.any_eq_true,decide_eq_true_iff];constructor
 ·rintro⟨kv,hm,e⟩;let#[x,hx,rfl]:=bo.mp hm;have e:(Sum.inr x.1:Key)=Sum.inr z:=⇑e
  exact bo.mpr #[x,hx,gX e]
 intro m;let#[x,hx,e]:=bo.mp m;exact#[_,bo.mpr #[x,hx,Z],by simp[e]]
section
variable{X:Cx}{o i:Expr}{pos:Pos}{td ty:TE}
inductive zU(K:af)(w:Af)(Q:VK)(y:V)(x:V)(H2:Hp):Prop
 |mk:∀d kvs z,x=.ref d->lH K w d kvs->y=.str z->Q (.bl (decide (z∈kvs.map (·.1)))) H2->zU K w Q y x H2
def Ox(K:af)(w:Af)(ty td:TE):TE:=λσ H Q=>ty σ H λy H1=>td σ H1 λx H2=>zU K w Q y x H2
def lf_(hi:PE X i ty)(ho:PE X o td):PC X .In i o (Ox X.K X.w ty td):=by
 intro π s σ H Q I h;apply aU (hi π s σ H _ I h) λiv s1 ⟨y,H1,I1,ry,q1⟩=>aU (ho π s1 σ H1 _ I1 q1) λu s2 ⟨x,H2,I2,rx,d,kvs,z,ex,kd,ey,q2⟩=>?_;subst ex;subst ey;obtain rfl:u=Value.ref d:=rx;let#[l,hp,dd]:=kd.of (P:=X.prog) I2.fG;apply wpAny_in_of (w_ (k:=Sum.inr z) ry) kd.1 dd.mapOf ?_;rw[hs_ hp];exact#[.bl _,H2,I2.tok _,Z,q2]
inductive tw(K:af)(w:Af)(Q:VK)(x:V)(y:V)(H2:Hp):Prop
 |mk:∀d kvs z v,x=.ref d->lH K w d kvs->y=.str z->(z,v)∈kvs->Q v H2->tw K w Q x y H2
def Gs(K:af)(w:Af)(td ty:TE):TE:=λσ H Q=>td σ H λx H1=>ty σ H1 λy H2=>tw K w Q x y H2
def kn_(ho:PE X o td)(hi:PE X i ty)(hs:Eb i):PE X (.Subscript o i pos) (Gs X.K X.w td ty):=by
 intro π s σ H Q I h;apply Yj PySem.F.slot_dict_getitem.lookup hs (aU (ho π s σ H _ I h) λu s1 ⟨x,H1,I1,rx,q1⟩=>aU (hi π s1 σ H1 _ I1 q1) λiv s2 ⟨y,H2,I2,ry,d,kvs,z,v,ex,kd,ey,hm,q2⟩=>?_);subst ex;subst ey;obtain rfl:u=Value.ref d:=rx;let#[l,hp,dd]:=kd.of (P:=X.prog) I2.fG;let#[w',hw,hX]:=ko_ hp kd.2.1 hm;exact#[dd.mapOf.typeIs,wpAny_getItem_of (w_ (k:=Sum.inr z) ry) dd.mapOf hw #[v,H2,I2.tok _,hX,q2]]
end
end L2
namespace Ev
open PySem L2
abbrev Rl:=Str × Str × Str × Option Str
def rl:List Rl:=[("least one high","least","one",some "high"),("least one fall","least","one",some "fall"),("least one calm","least","one",some "calm"),("least all high","least","all",some "high"),("least all fall","least","all",some "fall"),("least all calm","least","all",some "calm"),("below one high","below","one",some "high"),("below one fall","below","one",some "fall"),("below one calm","below","one",some "calm"),("below all high","below","all",some "high"),("below all fall","below","all",some "fall"),("below all calm","below","all",some "calm"),("shares one","shares","one",none),("shares all","shares","all",none),("turns high","turns","all",some "high"),("turns fall","turns","all",some "fall"),("turns calm","turns","all",some "calm")]
def va:Option Str->V
 |some x=>.str x
 |none=>.non
def nF:ae:=rl.map (·.1)
def hE_:nF.Nodup:=by decide +kernel
def VR(as:ai):List (Str × V):=List.zipWith (λ(r:Rl) a=>(r.1,V.ref a)) rl as
structure Np(K:af)(w:Af)(mg:Str->Option Aa)(d:Addr)(as:ai):Prop where
 mg:mg "RULES"\.ref d
 len:as.length=17
 kd:lH K w d (VR as)
 tup:Paired (λa (r:Rl)=>∀H,iw K H a [.str r.2.1,.str r.2.2.1,va r.2.2.2]) as rl
def ZA{as:ai}(h:as.length=17):(VR as).map (·.1)=nF:=by
 have:∀(rs:List Rl) (as:ai),as.length=rs.length->(List.zipWith (λ(r:Rl) a=>(r.1,V.ref a)) rs as).map (·.1)=rs.map (·.1):=by
  intro rs
  induction rs with
  |nil=>intro as _;rfl
  |cons r rs ih=>
   intro as e;cases as with
   |nil=>cases e
   |cons a as=>
    rw[List.zipWith_cons_cons,fK,fK,ih as ⇑e]
 exact this rl as h
def WS{K:af}:∀{rs:List Rl}{as:ai},Paired (λa (r:Rl)=>∀H,iw K H a [.str r.2.1,.str r.2.2.1,va r.2.2.2]) as rs->∀r∈rs,∃a,(r.1,V.ref a)∈List.zipWith (λ(r:Rl) a=>(r.1,V.ref a)) rs as/\∀H,iw K H a [.str r.2.1,.str r.2.2.1,va r.2.2.2]
 |_,_,.nil,r,h=>by cases h
 |r0::rs,a::as,.cons h t,r,m=>by
  rw[List.zipWith_cons_cons];rcases cc.mp m with rfl|m
  ·exact#[a,fi,h]
  let#[b,hb,hs]:=WS t r m;exact#[b,fj _ hb,hs]
def L8(ns:ae):Option Str->Bool
 |some x=>decide (x∈ns)
 |none=>false
section v
def ug:bA f_ f_ (aM Tj):=bI
def ZL:Sp:=λvs H Q _=>∃r∈rl,vs=[.str r.1]/\Q (.bl true) H
def h3_{f d:Addr}{as:ai}{fd:Ae}(F:bc K "is_rule" "is_rule" Tj f fd)(B:Bi mg)(R:Np K w mg d as):!ak bg 1 f fd f_ ZL:=by
 exists F.bN ug;let#[r,eA,rfl,k]:=h;apply#[_,aK (bw (qO (cO oB (by rfl) B.iL iV %[0,l7 (v:=.ty "str") (by rfl) B.str Fb Z|0]) (qQ (JH (lf_ (pv 0) (qR (v:=.ref d) (by rfl) R.mg Z)))))),?_];apply#[_,Z,_,_,_,_,Z,.str r.1,Z,_,Z,cz #[_,Z,d,_,r.1,Z,R.kd,Z,?_]];rw[ZA R.len,show decide (r.1∈nF)=true from cj (bo.mpr #[r,eA,Z])];exact k
def xO:bA ["rule"] ["rule"] (aM mQ):=bI
def Ky(K:af):Sp:=λvs H Q _=>∃r∈rl,vs=[.str r.1]/\∀a,(∀H',iw K H' a [.str r.2.1,.str r.2.2.1,va r.2.2.2])->Q (.ref a) H
def iW_{f d:Addr}{as:ai}{fd:Ae}(F:bc K Di Di mQ f fd)(R:Np K w mg d as)(cI:!bH 1 "is_rule" f_ ZL):!ak bg 2 f fd ["rule"] (Ky K):=by
 exists F.bN xO;let#[r,eA,rfl,k]:=h;apply#[_,ao (bQ (fP (fo (bp cI hr %[0|0]))) (aK jE_) bR) (aK (bw (kn_ (qR (v:=.ref d) (by rfl) R.mg Z) (pv 0) (λ_ _=>rfl)))),?_];let#[a,ha,hs]:=WS R.tup r eA;exact#[_,Z,r,eA,Z,_,Z,a_ #[_,Z,d,_,r.1,.ref a,Z,R.kd,Z,ha,k a hs]]
end
def lF(K:af)(H:Hp)(v:V):Option Str->Prop
 |some x=>v=.str x
 |none=>∃t,fM K H v t/\PySem.W.kitOne K t (.type "str")\false
def j7(hs:Xa)(ts:Xb):Option Str->Option Str->Bool
 |some x,some y=>decide (x∈hs.map (·.1))&&(decide (y∈hs.map (·.1))&&decide (y∈near (aB hs) (aO ts) x))
 |_,_=>false
def Ut(hs:Xa)(ts:Xb)(x y:Str):j7 hs ts (some x) (some y)=(decide (x∈hs.map (·.1))&&(decide (y∈hs.map (·.1))&&decide (y∈near (aB hs) (aO ts) x))):=rfl
section v
inductive mI(K:af)(C:Addr):Sp|k:∀(p:Addr)(v:V)(x:Option Str)(hs:Xa)(ts:Xb)(fp:ai),vs=[.ref p,v]->eC K C H p hs ts fp->lF K H v x->Q (.bl (L8 (hs.map (·.1)) x)) H->mI K C vs H Q E
def kX_{f C:Addr}{fd:Ae}(F:bc K "has_hand" "Web.has_hand" xW f fd)(T:Txt K mg C)(B:Bi mg):!ak bg 1 f fd qL (mI K C):=by
 exists F.bN z_;let#[p,v,x,hs,ts,fp,rfl,W,sv,k]:=h;let hu:=gE hr;let#[dx,d1,l2,d3,zs,as,rfl,h1,h2,h3,h4,h5,h6,h7]:=W.ex;apply#[_,aK (bw (qO (cO oB (by rfl) B.iL iV %[1,l7 (v:=.ty "str") (by rfl) B.str Fb Z|0]) (qQ (JH (Dr hu (pv 1) (bP (pv 0) Z)))))),?_];cases x with
 |some x=>
  cases (show v=.str x from sv);apply#[_,Z,_,_,_,_,Z,.str x,Z,_,Z,cz ?_];apply#[_,Z,_,Z,p,C,dx,_,_,Z,h1,T.cl,T.nS,MJ _ _ _,d1,_,Z,.k (k:=Sum.inr x) h2,?_];rw[Nd];exact k
 |none=>
  let#[t,ty,e]:=sv;exact#[_,Z,_,_,_,_,Z,ty,e,_,Z,a_ k]
inductive M9(K:af)(C:Addr):Sp|k:∀(p:Addr)(v u:V)(x y:Option Str)(hs:Xa)(ts:Xb)(fp:ai),vs=[.ref p,v,u]->eC K C H p hs ts fp->(aB hs).Nodup->lF K H v x->lF K H u y->Q (.bl (j7 hs ts x y)) H->M9 K C vs H Q E
def j7_{f C:Addr}{fd:Ae}(F:bc K "are_tied" "Web.are_tied" ur f fd)(T:Txt K mg C)(cH:!aZ C 1 "has_hand" qL (mI K C)):!ak bg 2 f fd lR (M9 K C):=by
 exists F.bN By;let#[p,v,u,x,y,hs,ts,fp,rfl,W,nd,sv,su,k]:=h;let hu:=gE hr;let#[dx,d1,l2,d3,zs,as,rfl,h1,h2,h3,h4,h5,h6,h7]:=id W.ex;have rH:(cB d1 l2 d3).lookup ("has_hand":Str)=none:=iW _ _ _ Z0 Z0 Z0;apply#[_,aK (bw (qO (eU cH T.cl hr (pv 0) %[1|0]) (qO (eU cH T.cl hr (pv 0) %[2|0]) (qQ (sd (RA il (oy hr 0)) (pv 2) (lU hu (bP (pv 0) Z) (pv 1)) (by with_unfolding_all rfl)))))),?_];apply#[_,Z,p,dx,_,Z,h1,rH,_,Z,p,v,x,hs,ts,_,Z,W,sv,_,Z,?_];cases x with
 |none=>exact a_ k
 |some x=>
  cases (show v=.str x from sv);apply br (λc=>?_) (λc=>?_)
  ·have hx:x∈hs.map (·.1):=zd c;let#[a,e1,ha]:=W0 nd hx h6 h7;apply#[_,Z,p,dx,_,Z,h1,rH,_,Z,p,u,y,hs,ts,_,Z,W,su,_,Z,?_];cases y with
   |none=>exact a_ k
   |some y=>
    cases (show u=.str y from su);rw[Ut,cj hx,Bool.true_and] at k;apply br (λc2=>?_) (λc2=>?_)
    ·have hy:y∈hs.map (·.1):=zd c2;rw[cj hy,Bool.true_and] at k;apply#[_,Z,_,Z,p,C,dx,_,_,Z,h1,T.cl,T.nN,RK _ _ _,_,Z,d3,.ref a,Z,?_,y,_,Z,#[a,_,Z,.of ha,Kb _],k];rw[<- e1];exact .k (k:=Sum.inr x) h5
    have hy:¬y∈hs.map (·.1):=λz=>c2 (cj z);rw[d7 hy,Bool.false_and] at k;exact k
  have hx:¬x∈hs.map (·.1):=λz=>c (cj z);cases y with
  |none=>exact k
  |some y=>
   rw[Ut,d7 hx,Bool.false_and] at k;exact k
def j8_{hs:Xa}{ts ws:Xb}(G:Good hs ts)(W:qV ts ws){t:Str × Str}(ht:t∈aO ws):j7 hs ts (some t.1) (some t.2)=true:=by
 let#[x,hx,ex]:=Kn.mp ht;let#[u,hu,eu]:=bo.mp (W.Eu x hx);have eo:aP u.1 u.2=t:=(Ff eu).trans ex
 have both:t.1∈hs.map (·.1)/\t.2∈hs.map (·.1)/\aP t.1 t.2=t:=by
  let#[g1,g2]:=G.Le u hu;rcases Fh u.1 u.2 with e|e
  ·rw[<- eo,e];exact#[g1,g2,e]
  rw[<- eo,e];exact#[g2,g1,(T4 _ _).trans e]
 let#[m1,m2,m3]:=both;have m4:t.2∈near (aB hs) (aO ts) t.1:=List.mem_filter.mpr #[(iY hs).mem_iff.mpr m2,cj (by rw[m3];exact Kn.mpr #[u,hu,eo])];rw[Ut,cj m1,cj m2,cj m4];rfl
def Nn:bA ["web","ways","found","one","other"] ["web","ways"] (aM nC):=bI
inductive M7(K:af)(C:Addr):Sp|k:∀(p:Addr)(v:V)(o:Option (Xb))(hs:Xa)(ts:Xb)(fp:ai),vs=[.ref p,v]->eC K C H p hs ts fp->Good hs ts->bO K H v o->(∀ws,o\ws->qV ts ws)->(∀v' H',aa H H'->bO K H' v' (o.map aO)->(∀a,v'=.ref a->H a=none)->Q v' H')->M7 K C vs H Q E
def ix_{f C:Addr}{fd:Ae}(F:bc K "checked_ways" "checked_ways" nC f fd)(T:Txt K mg C)(cS:!bH 3 "sorted_ties" ["ties"] (Th K))(cT:!aZ C 2 "are_tied" lR (M9 K C)):!ak bg 4 f fd ["web","ways"] (M7 K C):=by
 exists F.bN Nn;let#[p,v,o,hs,ts,fp,rfl,W,G,wy,gw,k]:=h;let hu:=gE hr;have qB:aI 2 _:=hr.mono (by decide)
 apply#[_,ao (bQ (xj (MI (pv 1))) (aK (bw vY)) bR)
  (ao (bC 2 Nn.nd (bp cS hr %[1|0]))
  (ao (bQ (xj (MI (pv 2))) fC bR)
  (ao (gc fV Z (eS (pv 2)) (qP Z (eF (dF 3 Nn.nd) (eF (dF 4 Nn.nd) kZ)))
   (aK (bQ (fP (fo (eU cT T.cl qB (pv 0) %[3,4|0]))) fC bR)))
  (aK (bw (pv 2)))))),?_]
 cases o with
 |none=>
  cases (show v=.non from wy);exact#[_,Z,_,Z,cz (k .non H (aa.refl H) Z (λa z=>by cases z))]
 |some ws=>
  let#[a,ys,rfl,ha,tu]:=wy;let Wo:=gw ws Z;apply#[_,Z,_,Z,a_ ?_];apply#[_,Z,a,ys,ws,Z,ha,tu,Wo.good,Wo.nd,by have:=Wo.len;have:=G.tH;omega,λl' zs H1 s1 hf ig tz=>?_];apply#[_,Z,_,Z,a_ ?_];let W1:=W.same s1;let#[dx,d1,l2,d3,jR,as,rfl,h1,h2,h3,h4,h5,h6,h7]:=id W1.ex;have rH:(cB d1 l2 d3).lookup ("are_tied":Str)=none:=iW _ _ _ Z0 Z0 Z0;rw[<- Fv] at tz
  let bx:bX:=λi σ H2=>∃(v3 v4:aQ),σ=[some (.ref p),some (.ref a),some (.ref l'),v3,v4]/\H2=H1
  apply#[_,Z,l',Z,#[_,.of ig],jh (K:=K) (a:=l') (xs:=zs) bx #[none,none,Z,Z] (λi σ H2 _ ⟨_,_,_,e⟩=>by subst e;exact .of ig) ?_ ?_]
  ·rintro i y σ H2 hy ⟨v3,v4,rfl,rfl⟩;let#[t,ht,q,rfl,hq]:=oA tz hy;apply#[q,_,Z,.of (AB hq),Z,_,_,Z,_,_,Z,Z,?_];apply#[_,Z,p,dx,_,Z,h1,rH,_,Z,_,Z,p,_,_,some t.1,some t.2,hs,ts,_,Z,W1,G.qp,Z,Z,_,Z,?_];rw[j8_ G Wo (dz ht)];apply a_ ?_;exact#[_,_,Z,Z]
  rintro σ H2 ⟨v3,v4,rfl,rfl⟩;exact#[_,Z,k (.ref l') _ s1 #[l',zs,Z,ig,tz] (λc z=>by cases z;exact hf)]
def gi(p:Pc):Pc:=(p.1,p.2.1,p.2.2.map aO)
def rZ(K:af)(H0 H:Hp)(y:V)(p:Pc):Prop:=∃t v,y=.ref t/\H t\.tup [.str p.1,.int p.2.1,v]/\bO K H v p.2.2/\∀a,v=.ref a->H0 a=none
def rZ.same{K:af}{H0 H H':Hp}{y:V}{p:Pc}(h:rZ K H0 H y p)(s:aa H H'):rZ K H0 H' y p:=by
 let#[t,v,e,ht,hv,hn]:=h;exact#[t,v,e,s _ _ ht,hv.same s,hn]
def bO.up{K:af}{H:Hp}{D:Addr}{u:HO}{v:V}{o:Option (Xb)}(h:bO K H v o)(n1:∀xs,H D≠some (.lst xs))(n2:∀xs,H D≠some (.tup xs)):bO K (upd H D u) v o:=by
 cases o with
 |none=>exact h
 |some ws=>
  let#[a,ys,e,ha,t]:=h;exact#[a,ys,e,by rw[aD (λz:a=D=>n1 ys (z▸ha))];exact ha,Paired.bJ t λy k ⟨b,z,q⟩=>#[b,z,by rw[aD (λz:b=D=>n2 _ (z▸q))];exact q]]
def rZ.up{K:af}{H0 H:Hp}{D:Addr}{u:HO}{y:V}{p:Pc}(h:rZ K H0 H y p)(n1:∀xs,H D≠some (.lst xs))(n2:∀xs,H D≠some (.tup xs)):rZ K H0 (upd H D u) y p:=by
 let#[t,v,e,ht,hv,hn]:=h;exact#[t,v,e,by rw[aD (λz:t=D=>n2 _ (z▸ht))];exact ht,hv.up n1 n2,hn]
def SG{ps:aJ}{cs:ag}(nd:(ps.map (·.1)).Nodup)(hl:cs.length=ps.length):∀{j:Nat}{q:Pc}{c:V},ps[j]? = some q->cs[j]? = some c->a9 ((ps.zip cs).map λq=>((Sum.inr q.1.1:Key),q.2)) (Sum.inr q.1)\c:=by
 induction ps generalizing cs with
 |nil=>
  intro j q c h;simp at h
 |cons p ps ih=>
  intro j q c h1 h2;cases cs with
  |nil=>cases hl
  |cons b cs=>
   rw[fK] at nd;let#[n1,n2]:=j5.mp nd;cases j with
   |zero=>
    have e1:p=q:=⇑h1
    have e2:b=c:=⇑h2
    subst e1 e2;exact l_ Z
   |succ j=>
    have h1:ps[j]? = some q:=⇑h1
    have h2:cs[j]? = some c:=⇑h2
    show a9 ((Sum.inr p.1,b)::((ps.zip cs).map λq=>((Sum.inr q.1.1:Key),q.2))) (Sum.inr q.1)=_;rw[l8 λe=>n1 (by rw[show p.1=q.1 from gX e];exact bo.mpr #[q,dz h1,Z])];exact ih n2 ⇑hl h1 h2
def ZQ:bA E3 E3 (aM NQ):=bI
inductive NP(K:af)(C:Addr):Sp|k:∀(p:Addr)(y:V)(q:Pc)(hs:Xa)(ts:Xb)(fp:ai),vs=[.ref p,y]->eC K C H p hs ts fp->Good hs ts->wA K H y q->zf ts q->(∀y' H',aa H H'->rZ K H H' y' (gi q)->Q y' H')->NP K C vs H Q E
def iv_{f C:Addr}{fd:Ae}(F:bc K Dy Dy NQ f fd)(B:Bi mg)(cN:!bH 1 "is_name" f_ J7)(cW:!bH 2 "is_whole_within" EW Nl)(cC:!bH 4 "checked_ways" ["web","ways"] (M7 K C)){tk:Tok}(mW:mg "MOST_WEIGHT"\.int 1000000000 tk):
  ak P w K mg base bg 5 f fd E3 (NP K C):=by
 exists F.bN ZQ;let#[p,y,q,hs,ts,fp,rfl,W,G,#[t,v,rfl,ht,wy],gp,k]:=h
 apply#[_,ao (bQ (rY (fP (fo (cO oB (by rfl) B.iL iV %[1,l7 (v:=.ty "tuple") (by rfl) B.tuple NI Z|0])))
   (sr (dm ze (cO l0 (by rfl) B.len jH %[1|0]) aH))).pt fC bR)
  (ao (bQ (fP (fo (bp cN hr %[bE cg (pv 1) aH|0]))) fC bR)
  (ao (bQ (fP (fo (bp cW hr %[bE cg (pv 1) aH,aH,qR (v:=.int 1000000000) (by rfl) mW #[tk,Z]|0]))) fC bR)
  (aK (bw (dS %[bE cg (pv 1) aH,bE cg (pv 1) aH,bp cC hr %[0,bE cg (pv 1) aH|0]|0]))))),?_]
 apply#[_,Z,_,_,_,_,Z,.tup ht,Z,_,Z,a_ ?_];apply#[_,Z,t,_,Z,.inr (.of ht),Z,_,Z,?_];apply Dn (show V.int ((3:Nat):Int)=V.int 3 from Z) ?_;apply#[_,Z,t,_,_,_,Z,Z,.of ht,Z,q.1,Z,by have:=DQ gp.nm;omega,λH1 s1=>#[_,Z,?_]];rw[gp.nm];apply a_ ?_;let qA:=s1 _ _ ht;apply#[_,Z,t,_,_,_,Z,Z,.of qA,Z,q.2.1,1,1000000000,Z,_,Z,?_];rw[cj gp.w1,cj gp.w2];apply a_ ?_;apply#[_,Z,t,_,_,_,Z,Z,.of qA,Z,_,Z,t,_,_,_,Z,Z,.of qA,Z,_,Z,_,Z,t,_,_,_,Z,Z,.of qA,Z,p,v,q.2.2,hs,ts,fp,Z,W.same s1,G,wy.same s1,gp.ws,λv' H2 s2 Oc hf=>?_];apply#[zl,λt' wX=>?_];exact k (.ref t') _ (s1.trans (s2.trans (aa.new wX))) #[t',v',Z,aE,Oc.same (aa.new wX),λa z=>s1.free (hf a z)]
def Ny:bA ["web","pieces","found","piece","checked"] ["web","pieces"] (aM SR):=bI
structure Qs(ps qs:aJ):Prop where
 vh:qs.map (·.1)=fA (ps.map (·.1))
 mem:∀q∈qs,∃p∈ps,q=gi p
inductive Ul(K:af)(C:Addr):Sp|k:∀(p l:Addr)(ys:ag)(ps:aJ)(hs:Xa)(ts:Xb)(fp:ai),vs=[.ref p,.ref l]->eC K C H p hs ts fp->Good hs ts->H l\.lst ys->Bb K H ys ps->(∀q∈ps,zf ts q)->(ps.map (·.1)).Nodup->ps.length<64->(∀l' zs qs H',aa H H'->H' l'\.lst zs->Paired (rZ K H H') zs qs->Qs ps qs->Q (.ref l') H')->Ul K C vs H Q E
def gi_{f C:Addr}{fd:Ae}(F:bc K "checked_pieces" "checked_pieces" SR f fd)(B:Bi mg)(cP:!bH 5 Dy E3 (NP K C)):!ak bg 6 f fd ["web","pieces"] (Ul K C):=by
 exists F.bN Ny;let#[p,l,ys,ps,hs,ts,fp,rfl,W,G,hl,pc,gp,nd,dC,k]:=h;let hu:=gE hr;let sz:=cX;let le:=bG pc
 apply#[_,ao (bQ (fP (fo (cO oB (by rfl) B.iL iV %[1,l7 (v:=.ty "list") (by rfl) B.list A6 Z|0]))) fC bR)
  (ao (bC 2 Ny.nd DT)
  (ao (gc fV Z (eS (pv 1)) (dF 3 Ny.nd)
   (ao (bC 4 Ny.nd (bp cP hr %[0,3|0]))
   (ao (bQ (xj (Dr hu (bE cg (pv 4) aH) (pv 2))) fC bR)
   (aK (xn hu (pv 2) (bE cg (pv 4) aH) (pv 4) Z)))))
  (aK (bw (pX ["name","found"] 1 [2] (eS (cO (fm_ Z) (by rfl) B.sorted Fu %[2|0])) (λfp s H=>gy (i:=0) (show (["name","found"]:ae).Nodup by decide +kernel) Z (Or.inl Z)) (λfp s H=>lW)
   (λfp s H=>lU hu (pv 1) (pv 0))))))),?_]
 apply#[_,Z,_,_,_,_,Z,.lst hl,Z,_,Z,a_ ?_];intro d hd;have s0:aa H (upd H d (.dK [])):=aa.new hd
 let ck:bX:=λi σ H2=>∃(v3 v4:aQ) (cs:ag),σ=[some (.ref p),some (.ref l),some (.ref d),v3,v4]/\aa H H2/\Paired (rZ K H H2) cs ((ps.take i).map gi)/\H2 d\.dK (((ps.take i).zip cs).map λq=>(Sum.inr q.1.1,q.2))
 apply#[_,Z,l,Z,#[_,.of (s0 _ _ hl)],jh (K:=K) (a:=l) (xs:=ys) ck #[none,none,[],Z,s0,.nil,aE] (λi σ H2 _ ⟨_,_,_,_,s2,_⟩=>.of (s2 _ _ hl)) ?_ ?_]
 ·rintro i y σ H2 hy ⟨v3,v4,cs,rfl,s2,pn,hd2⟩;have hi:i<ys.length:=(cK.mp hy).1;have hq:ps[i]? = some (ps[i]' Z1):=cE Z1;let py:=jg pc i hi Z1;rw[(cK.mp hy).2] at py;generalize ps[i]' Z1=q at hq py;apply#[_,Z,_,Z,p,y,q,hs,ts,fp,Z,W.same s2,G,py.same s2,gp q (dz hq),λy' H3 s3 pw=>?_];let#[t,v,rfl,ht,wy,hf]:=pw;let vL:=s3 _ _ hd2;let lc:=bG pn;rw[aq,dZ] at lc
  have keys:((((ps.take i).zip cs).map λq=>((Sum.inr q.1.1:Key),q.2)).map (·.1))=((ps.take i).map (·.1)).map Sum.inr:=by
   rw[bU];have:((λx:Key × V=>x.1) ∘ λq:Pc × V=>((Sum.inr q.1.1:Key),q.2))=(λp:Pc=>(Sum.inr p.1:Key)) ∘ Prod.fst:=rfl;rw[this,<- bU,List.map_fst_zip (by rw[dZ];omega),bU];rfl
  have pC:a9 (((ps.take i).zip cs).map λq=>((Sum.inr q.1.1:Key),q.2)) (Sum.inr q.1)=none:=wj (by
   rw[keys];intro m;let#[x,hx,e]:=bo.mp m;cases e;exact KL (g:=λp:Pc=>p.1) nd hq hx)
  apply#[_,Z,t,_,_,_,Z,Z,.of ht,Z,_,Z,d,_,Z,.k (k:=Sum.inr q.1) vL,_,Z,?_];rw[pC];apply a_ ?_;apply#[_,Z,_,Z,_,Z,t,_,_,_,Z,Z,.of ht,Z,d,_,Z,.k (k:=Sum.inr q.1) vL (by rw[aq,List.length_zip,dZ];omega),?_];let BS:=s2.trans s3;have n1:∀xs,H3 d≠some (.lst xs):=λxs z=>by rw[vL] at z;cases z
  have n2:∀xs,H3 d≠some (.tup xs):=λxs z=>by rw[vL] at z;cases z
  apply#[_,_,cs++[.ref t],Z,λc o e=>?_,?_,?_]
  ·rw[aD (bB e hd)];exact BS _ _ e
  ·rw[lB,hq,cZ];exact iU (Paired.bJ pn λy q h=>(h.same s3).up n1 n2) (.cons (rZ.up #[t,v,Z,ht,wy,λa z=>s2.free (hf a z)] n1 n2) .nil)
  rw[aE,DV _ pC,lB,hq,List.zip_append (by rw[dZ];omega),cZ];rfl
 rintro σ H2 ⟨v3,v4,cs,rfl,s2,pn,hd2⟩;rw[le,gG] at pn hd2;let lc:=bG pn;rw[aq] at lc
 have keys:(((ps.zip cs).map λq=>((Sum.inr q.1.1:Key),q.2)).map (·.1))=(ps.map (·.1)).map Sum.inr:=by
  rw[bU];have:((λx:Key × V=>x.1) ∘ λq:Pc × V=>((Sum.inr q.1.1:Key),q.2))=(λp:Pc=>(Sum.inr p.1:Key)) ∘ Prod.fst:=rfl;rw[this,<- bU,List.map_fst_zip Z1,bU];rfl
 apply#[_,Z,d,_,ps.map (·.1),Z,hd2,keys,by rw[aq];exact dC,λls IM=>?_];let#[s3,AF]:=bS (X:=.lst ((fA (ps.map (·.1))).map V.str)) IM;apply#[ls,Z,#[_,.of AF],λD hD=>?_];generalize upd H2 ls _=H3 at s3 AF hD ⊢;have lss:(fA (ps.map (·.1))).length=ps.length:=by rw[(lY _).length_eq,aq]
 apply p0 (own:=1) (fv:=[some (.ref d)]) (xs:=(fA (ps.map (·.1))).map V.str) Z gr (λi out H'=>∃qs:aJ,aa H3 H'/\H' D\.lst out/\Paired (rZ K H H2) out qs/\qs.map (·.1)=(fA (ps.map (·.1))).take i/\∀q∈qs,∃p∈ps,q=gi p) #[[],aa.new hD,aE,.nil,Z,by simp] (λi out H' _ ⟨_,sm,_⟩=>.of (sm _ _ AF)) (λzs H4 ⟨qs,s4,rQ,pq,en,mem⟩=>?_) (λi x out H' hx ⟨qs,sm,gC,pq,en,mem⟩=>?_)
 ·rw[aq,gG] at en;exact k D zs qs H4 (s2.trans (s3.trans s4)) rQ (Paired.bJ pq λy q h=>h.same (s3.trans s4)) #[en,mem]
 let#[n,hn,rfl]:=lZ hx;have hm:n∈ps.map (·.1):=(lY _).mem_iff.mp (dz hn);let#[q,hq,eq]:=bo.mp hm;let#[j,hj,ej]:=j3 hq;have hqj:ps[j]? = some q:=by rw[cE hj,ej]
 have X0:cs[j]? = some (cs[j]' Z1):=cE Z1;let hv:=SG nd lc hqj X0;let pj:=jg pn j Z1 (by rw[aq];omega);rw[List.getElem_map,ej] at pj;generalize cs[j]' Z1=c at X0 hv pj;rw[eq] at hv;let lo:=bG pq;let lq:=dH List.length en;rw[aq,dZ] at lq;have hi:i<(fA (ps.map (·.1))).length:=(cK.mp hn).1;apply#[_,Z,Z,λNx hN=>fD ?_];apply#[_,Z,_,Z,d,c,Z,?_,out,gC,by omega,hN _ _ #[qs++[gi q],jP sm hD,aE,?_,?_,?_]]
 ·rw[<- hv];exact .k (k:=Sum.inr n) (sm _ _ (s3 _ _ hd2))
 ·exact iU pq (.cons pj .nil)
 ·rw[cZ,en,lB,hn,<- eq];rfl
 intro q' hq';rcases fB.mp hq' with hq'|hq'
 ·exact mem q' hq'
 obtain rfl:q'=gi q:=⇑hq'
 exact#[q,hq,Z]
end
abbrev nv:Stmt:=gx J4 0
abbrev uH:Stmt:=gx J4 1
abbrev R5:Stmt:=gx J4 2
abbrev SM:Stmt:=gx J4 3
abbrev uG:Stmt:=gx J4 5
def bZ(p dw dy:Addr):List (Str × V):=aL Dz (.ref dy) (aL xi (.ref dw) (aL "web" (.ref p) []))
def g12:¬(("web":Str)=xi):=by decide +kernel
def g13:¬(("web":Str)=Dz):=by decide +kernel
def g23:¬((xi:Str)=Dz):=by decide +kernel
def pY(p dw dy:Addr):(bZ p dw dy).lookup ("web":Str)\.ref p:=by
 unfold bZ;rw[eZ,aA g13,eZ,aA g12,eZ,aF Z]
def RZ(p dw dy:Addr):(bZ p dw dy).lookup (xi:Str)\.ref dw:=by
 unfold bZ;rw[eZ,aA g23,eZ,aF Z]
def l6_(p dw dy:Addr):(bZ p dw dy).lookup (Dz:Str)\.ref dy:=by
 unfold bZ;rw[eZ,aF Z]
def zt(p dw dy:Addr){m:Str}(h1:¬m="web")(h2:¬m=xi)(h3:¬m=Dz):(bZ p dw dy).lookup m=none:=by
 unfold bZ;rw[eZ,aA h3,eZ,aA h2,eZ,aA h1]
 all_goals rfl
def qg(qs:aJ):List (Key × V):=qs.map λq=>(Sum.inr q.1,V.int q.2.1)
def Be(qs:aJ)(vs:ag):List (Key × V):=(qs.zip vs).map λx=>(Sum.inr x.1.1,x.2)
def Y0(qs:aJ):(qg qs).map (·.1)=(qs.map (·.1)).map Sum.inr:=by
 unfold qg;rw[bU,bU];rfl
def iR_{qs:aJ}{vs:ag}(h:vs.length=qs.length):(Be qs vs).map (·.1)=(qs.map (·.1)).map Sum.inr:=by
 unfold Be;rw[bU];have:((λx:Key × V=>x.1) ∘ λq:Pc × V=>((Sum.inr q.1.1:Key),q.2))=(λp:Pc=>(Sum.inr p.1:Key)) ∘ Prod.fst:=rfl;rw[this,<- bU,List.map_fst_zip Z1,bU];rfl
structure fO(K:af)(CG CW:Addr)(H:Hp)(g p:Addr)(hs:Xa)(ts:Xb)(qs:aJ)(fp:ai):Prop where
 ex:∃(dx dw dy:Addr) (vs:ag) (bq:ai),H g\.ins CG dx (bZ p dw dy)/\eC K CW H p hs ts bq/\H dw\.dK (qg qs)/\H dy\.dK (Be qs vs)/\Paired (λv (q:Pc)=>bO K H v q.2.2) vs qs /\
  g∈fp/\dw∈fp/\dy∈fp/\(∀b∈bq,b∈fp)/\∀v∈vs,∀a,v=.ref a->a∈fp
def UA{α β:Type}{F G:α->β->Prop}:∀{l:List α}{m:List β},Paired F l m->(∀a∈l,∀b,F a b->G a b)->Paired G l m
 |_,_,.nil,_=>.nil
 |_,_,.cons h t,f=>.cons (f _ fi _ h) (UA t λa ha=>f a (fj _ ha))
def bO.keep{K:af}{H H':Hp}{v:V}{o:Option (Xb)}(h:bO K H v o)(k:∀a,v=.ref a->∀u,H a\u->H' a\u)(kt:∀b xs,H b\.tup xs->H' b\.tup xs):bO K H' v o:=by
 cases o with
 |none=>exact h
 |some ws=>
  let#[a,ys,e,ha,t]:=h;exact#[a,ys,e,k a e _ ha,Paired.bJ t λy q ⟨b,z,hb⟩=>#[b,z,kt _ _ hb]]
def fO.keep{K:af}{CG CW:Addr}{H H':Hp}{g p:Addr}{hs:Xa}{ts:Xb}{qs:aJ}{fp:ai}(G:fO K CG CW H g p hs ts qs fp)(k:∀b∈fp,∀o,H b\o->H' b\o)(kt:∀b xs,H b\.tup xs->H' b\.tup xs):fO K CG CW H' g p hs ts qs fp:=by
 let#[dx,dw,dy,vs,bq,h1,h2,h3,h4,h5,m1,m2,m3,m4,m5]:=G.ex;exact#[dx,dw,dy,vs,bq,k _ m1 _ h1,h2.keep (λb hb o e=>k b (m4 b hb) o e) kt,k _ m2 _ h3,k _ m3 _ h4,UA h5 λv hv q h=>h.keep (λa z u e=>k a (m5 v hv a z) u e) kt,m1,m2,m3,m4,m5]
def fO.same{K:af}{CG CW:Addr}{H H':Hp}{g p:Addr}{hs:Xa}{ts:Xb}{qs:aJ}{fp:ai}(G:fO K CG CW H g p hs ts qs fp)(s:aa H H'):fO K CG CW H' g p hs ts qs fp:=G.keep (λb _ o e=>s b o e) λb xs e=>s b _ e
structure dO(K:af)(CG:Addr):Prop where
 cl:j6 K CG
 nW:ip K CG "web"
 nG:ip K CG xi
 nY:ip K CG Dz
structure K8(K:af)(C:Addr):Prop where
 ha:PySem.W.findIn K (.ref C) "__class__"\some (.builtin "object.__class__")
 hn:PySem.W.specialIn K (.builtin "object.__class__") "__get__"\some (.builtin "getset_descriptor.__get__")
 tk:PySem.W.takesIn K (.builtin "object.__class__")\true
 mo:PySem.W.mroIn K C (.type "object")\true
def jt_(K:af)(c:Aa):PySem.W.kitOne K c c\true:=by
 unfold PySem.W.kitOne;rw[aF (beq_self_eq_true c)]
def YU{K:af}{H0 H:Hp}:∀{zs:ag}{qs:aJ},Paired (rZ K H0 H) zs qs->∃vs:ag,vs.length=qs.length/\Paired (λz (x:Pc × V)=>∃t,z=.ref t/\H t\.tup [.str x.1.1,.int x.1.2.1,x.2]) zs (qs.zip vs)/\Paired (λv (q:Pc)=>bO K H v q.2.2) vs qs/\∀v∈vs,∀a,v=.ref a->H0 a=none
 |_,_,.nil=>#[[],Z,.nil,.nil,by simp]
 |_,_,.cons ⟨t,v,e,ht,wy,hn⟩ r=>by
  let#[vs,h1,h2,h3,h4]:=YU r;apply#[v::vs,by simp[h1],.cons #[t,e,ht] h2,.cons wy h3,λu hu=>?_];rcases cc.mp hu with rfl|hu
  ·exact hn
  exact h4 u hu
def YQ{K:af}{l D:Addr}{zs:ag}{xs:List (Pc × V)}{H:Hp}{Q:VK}{qc:St}{j:Nat}(sel:Pc × V->V)(hj:∀x:Pc × V,[some (V.str x.1.1),some (V.int x.1.2.1),some x.2][j]? = some (some (sel x)))(yx:qc=[none,none,none])(hl:H l\.lst zs)
 (pz:Paired (λz (x:Pc × V)=>∃t,z=.ref t/\H t\.tup [.str x.1.1,.int x.1.2.1,x.2]) zs xs)(AO:xs.length<=1000)(hD:H D=none)
 (q:∀H' out,aa H H'->H' D\.lst out->qY K H' out (xs.map λx=>(Sum.inr x.1.1,sel x))->Q (.ref D) H'):
  EU (Ed K l) (kK K 3 (xk (gZ 0) (xk (gZ 1) (xk (gZ 2) yQ)))) xF (Gg (j9 (sW 0) (j9 (sW j) mj))) qc D H Q:=by
 let sz:=cX;let le:=bG pz
 let bx:eI:=λi out H'=>aa H H'/\H' D\.lst out/\qY K H' out ((xs.take i).map λx=>(Sum.inr x.1.1,sel x))
 apply p0 (own:=3) (fv:=[]) (xs:=zs) yx RE bx #[aa.new hD,aE,.nil] (λi out H' _ ⟨sm,_,_⟩=>.of (sm _ _ hl)) (λout H4 ⟨sm,rQ,eo⟩=>?_) (λi y out H' hy ⟨sm,gC,eo⟩=>?_)
 ·rw[le,gG] at eo;exact q _ _ sm rQ eo
 have hi:i<zs.length:=(cK.mp hy).1;have hx:xs[i]? = some (xs[i]' Z1):=cE Z1;let#[t,et,ht]:=jg pz i hi Z1;rw[(cK.mp hy).2] at et;subst et;generalize xs[i]' Z1=x at hx ht;let lo:=bG eo;rw[aq,dZ] at lo;apply#[_,#[t,_,_,_,Z,.of (sm _ _ ht),Z],Z,λNx hN=>fD ?_];apply#[_,Z,_,hj x,zl,λp hp=>?_];let s2:=aa.new (o:=.tup [.str x.1.1,sel x]) hp;apply#[out,s2 _ _ gC,by omega,hN _ _ #[jP (sm.trans s2) hD,aE,?_]];rw[FJ _ hx];have pD:∀{b:Addr} {ys:ag},upd H' p (.tup [.str x.1.1,sel x]) b\.tup ys->b≠D:=λhb=>aR hb (s2 _ _ gC) nofun;apply iU (Paired.bJ eo λy kv ⟨b,z,hb⟩=>#[b,z,by rw[aD (pD (s2 _ _ hb))];exact s2 _ _ hb]) (.cons #[p,Z,?_] .nil);let lO:=us H' p (.tup [.str x.1.1,sel x]);rw[aD (pD lO)];exact lO
section v
def o5:bA ["self","web","pieces","checked"] ["self","web","pieces"] (aM nv):=bI
inductive Ts(K:af)(CG CW:Addr):Sp|k:∀(g dx p l:Addr)(ys:ag)(ps:aJ)(hs:Xa)(ts:Xb)(bq:ai),vs=[.ref g,.ref p,.ref l]->H g\.ins CG dx []->eC K CW H p hs ts bq->g∉bq->Good hs ts->H l\.lst ys->Bb K H ys ps->(∀q∈ps,zf ts q)->(ps.map (·.1)).Nodup->ps.length<64->(∀qs fp H',(∀b o,H b\o->b≠g->H' b\o)->fO K CG CW H' g p hs ts qs fp->Qs ps qs->(∀b∈fp,b=g∨b∈bq∨H b=none)->Q .non H')->Ts K CG CW vs H Q E
def iI_{f CG CW:Addr}{fd:Ae}(F:bc K "__init__" "Goods.__init__" nv f fd)(T:dO K CG)(TW:Txt K mg CW)(IW:K8 K CW)(B:Bi mg)(PP:mg "Web"\.ref CW)(cP:!bH 6 "checked_pieces" ["web","pieces"] (Ul K CW)):!ak bg 7 f fd ["self","web","pieces"] (Ts K CG CW):=by
 exists F.bN o5;let#[g,dx,p,l,ys,ps,hs,ts,bq,rfl,hg,W,gw,G,hl,pc,gp,nd,dC,k]:=h
 apply#[_,ao (bQ (fP (fo (cO in_ (by rfl) B.iL iV %[1,qR (v:=.ref CW) (by rfl) PP Z|0]))) fC bR)
  (ao (bC 3 o5.nd (bp cP hr %[1,2|0]))
  (ao (iS (pv 0) (pv 1) Z)
  (ao (iS (pv 0) (sy (FD Z) (by rfl) B.dict Fp %[pX AW 3 [] (eS (pv 3)) (λfp s H=>JY (n:=3) (eF (gy (i:=0) (show (AW:ae).Nodup by decide +kernel) Z (Or.inl Z)) (eF (gy (i:=1) (show (AW:ae).Nodup by decide +kernel) Z (Or.inl Z)) (eF (gy (i:=2) (show (AW:ae).Nodup by decide +kernel) Z (Or.inl Z)) kZ)))) (λfp s H=>lW) (λfp s H=>dS %[0,1|0])|0]) Z)
  (aK (iS (pv 0) (sy (FD Z) (by rfl) B.dict Fp %[pX AW 3 [] (eS (pv 3)) (λfp s H=>JY (n:=3) (eF (gy (i:=0) (show (AW:ae).Nodup by decide +kernel) Z (Or.inl Z)) (eF (gy (i:=1) (show (AW:ae).Nodup by decide +kernel) Z (Or.inl Z)) (eF (gy (i:=2) (show (AW:ae).Nodup by decide +kernel) Z (Or.inl Z)) kZ)))) (λfp s H=>lW) (λfp s H=>dS %[0,2|0])|0]) Z))))),?_]
 let#[eW,d1,l2,d3,jR,as,ef,w1,_]:=id W.ex;apply#[_,Z,_,_,_,_,Z,.ins w1 TW.cl IW.ha IW.hn IW.tk IW.mo,jt_ _ _,_,Z,a_ ?_];apply#[_,Z,_,Z,p,l,ys,ps,hs,ts,bq,Z,W,G,hl,pc,gp,nd,dC,λlc zs qs H1 s1 IX pn Qq=>?_];let#[vs,lv,pz,wys,F0]:=YU pn;let Jg:=s1 _ _ hg
 have lq:qs.length=ps.length:=by
  have:=dH List.length Qq.vh;rw[aq,(lY _).length_eq,aq] at this;exact this
 have qnd:(qs.map (·.1)).Nodup:=by
  rw[Qq.vh];exact (lY _).nodup_iff.mpr nd
 apply#[_,Z,_,Z,g,CG,dx,[],Z,Jg,T.cl,T.nW,by show 0<1000;decide,?_];have up1:∀{b o},H1 b\o->b≠g->upd H1 g (.ins CG dx (aL "web" (.ref p) [])) b\o:=λe ne=>by rw[aD ne];exact e
 let Q9:=us H1 g (.ins CG dx (aL "web" (.ref p) []))
 have EO:∀{b},upd H1 g (.ins CG dx (aL "web" (.ref p) [])) b=none->H1 b=none:=λ{b} e=>by
  by_cases z:b=g
  ·rw[z,aE] at e;cases e
  rw[aD z] at e;exact e
 generalize upd H1 g _=H2 at up1 Q9 EO ⊢;have LX:lc≠g:=aR IX Jg nofun;have pz2:Paired (λz (x:Pc × V)=>∃t,z=.ref t/\H2 t\.tup [.str x.1.1,.int x.1.2.1,x.2]) zs (qs.zip vs):=Paired.bJ pz λz x ⟨t,e,ht⟩=>#[t,e,up1 ht (aR ht Jg nofun)];have oK:(qs.zip vs).length<=1000:=by rw[List.length_zip];omega
 apply#[_,Z,lc,Z,#[_,.of (up1 IX LX)],λD hD=>?_];apply YQ (λx=>.int x.1.2.1) (λx=>rfl) Z (up1 IX LX) pz2 oK hD λH3 out s3 Ry pa3=>?_;apply#[D,out,_,Z,Ry,pa3,by rw[aq];exact oK,λdw Rb=>?_]
 have Sg:((qs.zip vs).map λx:Pc × V=>((Sum.inr x.1.1:Key),V.int x.1.2.1))=qg qs:=by
  unfold qg;have:(λx:Pc × V=>((Sum.inr x.1.1:Key),V.int x.1.2.1))=(λq:Pc=>((Sum.inr q.1:Key),V.int q.2.1)) ∘ Prod.fst:=rfl;rw[this,<- bU,List.map_fst_zip Z1]
 have Ar:(qs.map (·.1)).map (Sum.inr:Str->Key) |>.Nodup:=by
  rw[wk,md];exact qnd.imp λn e=>n (gX e)
 rw[Sg,Fy (by rw[Y0];exact Ar)];let s4:=aa.new (o:=.dK (qg qs)) Rb;let XY:=s4 _ _ (s3 _ _ Q9);apply#[_,Z,g,CG,dx,_,Z,XY,T.cl,T.nG,by show 1<1000;decide,?_];let wQ:=s3.trans s4;let Jk:=us H3 dw (.dK (qg qs));have Z8:dw≠g:=(bB (s3 _ _ Q9) Rb).symm;have fr4:∀{b},upd H3 dw (.dK (qg qs)) b=none->H2 b=none:=λe=>wQ.free e;have dwn:H2 dw=none:=s3.free Rb;generalize upd H3 dw _=H4 at s4 XY wQ Jk fr4 ⊢;have wK:∀{b o},H4 b\o->b≠g->upd H4 g (.ins CG dx (aL xi (.ref dw) (aL "web" (.ref p) []))) b\o:=λe ne=>by rw[aD ne];exact e
 let Q8:=us H4 g (.ins CG dx (aL xi (.ref dw) (aL "web" (.ref p) [])))
 have pS:∀{b},upd H4 g (.ins CG dx (aL xi (.ref dw) (aL "web" (.ref p) []))) b=none->H4 b=none:=λ{b} e=>by
  by_cases z:b=g
  ·rw[z,aE] at e;cases e
  rw[aD z] at e;exact e
 generalize upd H4 g _=H5 at wK Q8 pS ⊢;have xC:∀{b o},H1 b\o->b≠g->H5 b\o:=λe ne=>wK (wQ _ _ (up1 e ne)) ne;have pz5:Paired (λz (x:Pc × V)=>∃t,z=.ref t/\H5 t\.tup [.str x.1.1,.int x.1.2.1,x.2]) zs (qs.zip vs):=Paired.bJ pz λz x ⟨t,e,ht⟩=>#[t,e,xC ht (aR ht Jg nofun)];apply#[_,Z,lc,Z,#[_,.of (xC IX LX)],λD2 AN=>?_];apply YQ (λx=>x.2) (λx=>rfl) Z (xC IX LX) pz5 oK AN λH6 gg s6 Mz pa6=>?_;apply#[D2,gg,_,Z,Mz,pa6,by rw[aq];exact oK,λdy EH=>?_];rw[show ((qs.zip vs).map λx:Pc × V=>((Sum.inr x.1.1:Key),x.2))=Be qs vs from Z,Fy (by rw[iR_ lv];exact Ar)];let s7:=aa.new (o:=.dK (Be qs vs)) EH;let Ls:=s6.trans s7;let XX:=Ls _ _ Q8;apply#[_,Z,g,CG,dx,_,Z,XX,T.cl,T.nY,by show 2<1000;decide,?_];let Jj:=us H6 dy (.dK (Be qs vs));have dyg:dy≠g:=(bB (s6 _ _ Q8) EH).symm;have dyn:H5 dy=none:=s6.free EH;generalize upd H6 dy _=H7 at s7 Ls XX Jj ⊢
 have fin:∀{b o},H1 b\o->b≠g->upd H7 g (.ins CG dx (bZ p dw dy)) b\o:=λe ne=>by
  rw[aD ne];exact Ls _ _ (xC e ne)
 have F3:∀b xs,H1 b\.tup xs->upd H7 g (.ins CG dx (bZ p dw dy)) b\.tup xs:=λb xs e=>fin e (aR e Jg nofun);have nH:∀{b},H1 b=none->H b=none:=λe=>s1.free e;apply k qs (g::dw::dy::(bq++vs.filterMap λv=>match v with | .ref a=>some a|_=>none)) _ (λb o e ne=>fin (s1 _ _ e) ne) #[dx,dw,dy,vs,bq,aE,?_,?_,?_,?_,by simp,by simp,by simp,λb hb=>by simp[hb],λv hv a z=>?_] Qq λb hb=>?_
 ·exact W.keep (λb hb o e=>fin (s1 _ _ e) (λz=>gw (z▸hb))) λb xs e=>F3 b xs (s1 _ _ e)
 ·rw[aD Z8];exact Ls _ _ (wK Jk Z8)
 ·rw[aD dyg];exact Jj
 ·exact UA wys λv hv q h=>h.keep (λa z u e=>fin e (λzz=>by
   subst zz;have:=F0 v hv _ z;rw[hg] at this;cases this)) λb xs e=>F3 b xs e
 ·apply fj _ (fj _ (fj _ (iT _ (wc.mpr #[v,hv,?_]))));rw[z]
 simp only[cc,fB,wc] at hb;rcases hb with rfl|rfl|rfl|hb|⟨v,hv,e⟩
 ·exact .inl Z
 ·exact .inr (.inr (nH (EO dwn)))
 ·exact .inr (.inr (nH (EO (wQ.free (pS dyn)))))
 ·exact .inr (.inl hb)
 cases v with
 |ref a=>
  cases e;exact .inr (.inr (F0 _ hv _ Z))
 |_=>cases e
end
end Ev
namespace L2
open PySem
end L2
namespace Ev
open PySem L2
def fe_{kvs:List (Key × V)}{ns:ae}(h:kvs.map (·.1)=ns.map Sum.inr)(x:Str):(a9 kvs (Sum.inr x)).isSome=decide (x∈ns):=by
 by_cases hx:x∈ns
 ·rw[cj hx];apply Z3 ?_;rw[h];exact bo.mpr #[x,hx,Z]
 rw[d7 hx,wj]
 ·rfl
 rw[h];intro m;let#[y,hy,e]:=bo.mp m;cases e;exact hx hy
def lj_{qs:aJ}(nd:(qs.map (·.1)).Nodup){q:Pc}(hq:q∈qs):a9 (qg qs) (Sum.inr q.1)\.int q.2.1:=by
 let#[j,hj,e]:=j3 hq;have:=SG (ps:=qs) (cs:=qs.map λq=>V.int q.2.1) nd (by rw[aq]) (j:=j) (q:=q) (c:=.int q.2.1) (by rw[cE hj,e]) (by rw[d0,cE hj,e];rfl)
 have e2:((qs.zip (qs.map λq=>V.int q.2.1)).map λq=>((Sum.inr q.1.1:Key),q.2))=qg qs:=by
  unfold qg;rw[List.zip_map_right,bU]
  have:qs.zip qs=qs.map λq=>(q,q):=by
   clear nd hq this hj e j
   induction qs with
   |nil=>rfl
   |cons a l ih=>rw[List.zip_cons_cons,ih,fK]
  rw[this,bU];rfl
 rwa [e2] at this
def lg_{qs:aJ}{vs:ag}(nd:(qs.map (·.1)).Nodup){K:af}{H:Hp}(h:Paired (λv (q:Pc)=>bO K H v q.2.2) vs qs){q:Pc}(hq:q∈qs):∃v∈vs,a9 (Be qs vs) (Sum.inr q.1)\v/\bO K H v q.2.2:=by
 let#[j,hj,e]:=j3 hq;let hl:=bG h;have hv:j<vs.length:=by omega
 let p:=jg h j hv hj;rw[e] at p;exact#[vs[j],lA hv,SG nd Z1 (by rw[cE hj,e]) (cE hv),p]
def EM(hs:Xa)(ts:Xb)(o:Option (Xb))(x y:Option Str):Bool:=
 j7 hs ts x y&&match o,x,y with
  |none,_,_=>true
  |some ws,some a,some b=>decide (aP a b∈ws)
  |_,_,_=>false
section v
def BI:bA qL qL (aM uH):=bI
inductive MW(K:af)(CG CW:Addr):Sp|k:∀(g p:Addr)(v:V)(x:Option Str)(hs:Xa)(ts:Xb)(qs:aJ)(fp:ai),vs=[.ref g,v]->fO K CG CW H g p hs ts qs fp->lF K H v x->Q (.bl (L8 (qs.map (·.1)) x)) H->MW K CG CW vs H Q E
def kR_{f CG CW:Addr}{fd:Ae}(F:bc K "has_piece" "Goods.has_piece" uH f fd)(T:dO K CG)(B:Bi mg):!ak bg 1 f fd qL (MW K CG CW):=by
 exists F.bN BI;let#[g,p,v,x,hs,ts,qs,fp,rfl,G,sv,k]:=h;let hu:=gE hr;let#[dx,dw,dy,vs,bq,h1,h2,h3,h4,h5,m1,m2,m3,m4,m5]:=G.ex;apply#[_,aK (bw (qO (cO oB (by rfl) B.iL iV %[1,l7 (v:=.ty "str") (by rfl) B.str Fb Z|0]) (qQ (JH (Dr hu (pv 1) (bP (pv 0) Z)))))),?_];cases x with
 |some x=>
  cases (show v=.str x from sv);apply#[_,Z,_,_,_,_,Z,.str x,Z,_,Z,cz ?_];apply#[_,Z,_,Z,g,CG,dx,_,_,Z,h1,T.cl,T.nG,RZ _ _ _,dw,_,Z,.k (k:=Sum.inr x) h3,?_];rw[fe_ (Y0 qs)];exact k
 |none=>
  let#[t,ty,e]:=sv;exact#[_,Z,_,_,_,_,Z,ty,e,_,Z,a_ k]
def ui:bA dG dG (aM R5):=bI
inductive SK(K:af)(CG CW:Addr):Sp|k:∀(g p:Addr)(hs:Xa)(ts:Xb)(qs:aJ)(fp:ai),vs=[.ref g]->fO K CG CW H g p hs ts qs fp->(∀l,H l=none->Q (.ref l) (upd H l (.lst ((qs.map (·.1)).map V.str))))->SK K CG CW vs H Q E
def hO_{f CG CW:Addr}{fd:Ae}(F:bc K "names" "Goods.names" R5 f fd)(T:dO K CG)(B:Bi mg):!ak bg 1 f fd dG (SK K CG CW):=by
 exists F.bN ui;let#[g,p,hs,ts,qs,fp,rfl,G,k]:=h;let#[dx,dw,dy,vs,bq,h1,h2,h3,h4,h5,m1,m2,m3,m4,m5]:=G.ex;apply#[_,aK (bw (sy (Uu Z) (by rfl) B.list A6 %[bP (pv 0) Z|0])),?_];apply#[_,Z,g,CG,dx,_,_,Z,h1,T.cl,T.nG,RZ _ _ _,dw,_,Z,.inl h3,λl hl=>?_]
 have e:((qg qs).map λkv=>kV kv.1)=(qs.map (·.1)).map V.str:=by
  unfold qg;rw[bU,bU];rfl
 rw[e];exact k l hl
structure Ref(K:af)(mg:Str->Option Aa)(x:Str)(C:Addr):Prop where
 mg:mg x\.ref C
 ex:PySem.W.excIn K C [.type "ValueError",.type "Exception",.type "BaseException",.type "object"] "ValueError.__new__"=true
def qj:bA AY AY (aM SM):=bI
inductive DU(K:af)(CG CW CP:Addr):Sp|k:∀(g p:Addr)(v:V)(x:Option Str)(hs:Xa)(ts:Xb)(qs:aJ)(fp:ai),vs=[.ref g,v]->fO K CG CW H g p hs ts qs fp->(qs.map (·.1)).Nodup->lF K H v x->((∃q∈qs,x\q.1/\Q (.int q.2.1) H)∨False)->DU K CG CW CP vs H Q E
def g7_{f CG CW CP:Addr}{fd:Ae}(F:bc K "weight" "Goods.weight" SM f fd)(T:dO K CG)(cH:!aZ CG 1 "has_piece" qL (MW K CG CW)):!ak bg 2 f fd AY (DU K CG CW CP):=by
 exists F.bN qj;let#[g,p,v,x,hs,ts,qs,fp,rfl,G,nd,sv,k]:=h;let hu:=gE hr;let#[dx,dw,dy,vs,bq,h1,h2,h3,h4,h5,m1,m2,m3,m4,m5]:=id G.ex;have rH:(bZ p dw dy).lookup ("has_piece":Str)=none:=zt _ _ _ Z0 Z0 Z0;apply#[_,ao (bQ (fP (fo (eU cH T.cl hr (pv 0) %[1|0]))) fC bR) (aK (bw (lU hu (bP (pv 0) Z) (pv 1)))),?_];apply#[_,Z,g,dx,_,Z,h1,rH,_,Z,g,p,v,x,hs,ts,qs,fp,Z,G,sv,_,Z,?_];rcases k with⟨q,hq,rfl,k⟩|k
 ·cases (show v=.str q.1 from sv);rw[show L8 (qs.map (·.1)) (some q.1)=true from cj (bo.mpr #[q,hq,Z])];apply a_ ?_;apply#[_,Z,g,CG,dx,_,_,Z,h1,T.cl,T.nG,RZ _ _ _,_,Z,dw,_,Z,?_,k];rw[<- lj_ nd hq];exact .k (k:=Sum.inr q.1) h3
 exact k.elim
def uj:bA ["self","piece","one","other","ties"] qa (aM uG):=bI
inductive MU(K:af)(CG CW CP:Addr):Sp|k:∀(g p:Addr)(v u1 u2:V)(x y1 y2:Option Str)(hs:Xa)(ts:Xb)(qs:aJ)(fp:ai),vs=[.ref g,v,u1,u2]->fO K CG CW H g p hs ts qs fp->(qs.map (·.1)).Nodup->(aB hs).Nodup->lF K H v x->((∃q∈qs,x\q.1/\lF K H u1 y1/\lF K H u2 y2/\∀H',aa H H'->Q (.bl (EM hs ts q.2.2 y1 y2)) H')∨False)->MU K CG CW CP vs H Q E
def kP_{f CG CW CP:Addr}{fd:Ae}(F:bc K "may_go" "Goods.may_go" uG f fd)(T:dO K CG)(TW:Txt K mg CW)(cH:!aZ CG 1 "has_piece" qL (MW K CG CW))(cT:!aZ CW 2 "are_tied" lR (M9 K CW))(cL:!bH 1 "lesser_first" rV NN):
  ak P w K mg base bg 3 f fd qa (MU K CG CW CP):=by
 exists F.bN uj;let#[g,p,v,u1,u2,x,y1,y2,hs,ts,qs,fp,rfl,G,nd,qp,sv,k]:=h;let hu:=gE hr;have fH:aI 1 _:=hr.mono (by decide);let#[dx,dw,dy,vs,bq,h1,h2,h3,h4,h5,m1,m2,m3,m4,m5]:=id G.ex;have rH:(bZ p dw dy).lookup ("has_piece":Str)=none:=zt _ _ _ Z0 Z0 Z0;let#[eW,d1,l2,d3,jR,as,ef,w1,_]:=id h2.ex;have gL:(cB d1 l2 d3).lookup ("are_tied":Str)=none:=iW _ _ _ Z0 Z0 Z0
 apply#[_,ao (bQ (fP (fo (eU cH T.cl fH (pv 0) %[1|0]))) fC bR)
  (ao (bQ (fP (fo (eU cT TW.cl hr (bP (pv 0) Z) %[2,3|0]))) (aK (bw w9)) bR)
  (ao (bC 4 uj.nd (lU hu (bP (pv 0) Z) (pv 1)))
  (aK (bw (Wz (JH (MI (pv 4))) (qQ (sd (RA (Kd il il) (oy hr _)) (bp cL hr %[2,3|0]) (pv 4) (by with_unfolding_all rfl)))))))),?_]
 apply#[_,Z,g,dx,_,Z,h1,rH,_,Z,g,p,v,x,hs,ts,qs,fp,Z,G,sv,_,Z,?_];rcases k with⟨q,hq,rfl,s1,s2,k⟩|k
 ·cases (show v=.str q.1 from sv);rw[show L8 (qs.map (·.1)) (some q.1)=true from cj (bo.mpr #[q,hq,Z])];apply a_ ?_;apply#[_,Z,g,CG,dx,_,_,Z,h1,T.cl,T.nW,pY _ _ _,p,eW,_,Z,w1,gL,_,Z,_,Z,p,u1,u2,y1,y2,hs,ts,bq,Z,h2,qp,s1,s2,_,Z,?_];cases tb:j7 hs ts y1 y2 with
  |false=>
   apply cz ?_;have:=k H (aa.refl H);unfold EM at this;rw[tb,Bool.false_and] at this;exact this
  |true=>
   apply a_ ?_;let#[u,hu',eu,wy]:=lg_ nd h5 hq;apply#[_,Z,g,CG,dx,_,_,Z,h1,T.cl,T.nY,l6_ _ _ _,_,Z,dy,u,Z,?_,?_]
   ·rw[<- eu];exact .k (k:=Sum.inr q.1) h4
   apply#[_,Z,_,Z,?_];unfold EM at k;rw[tb] at k;cases e:q.2.2 with
   |none=>
    rw[e] at wy k;cases (show u=.non from wy);exact cz (k H (aa.refl H))
   |some ws=>
    rw[e] at wy k;let#[a,ys,rfl,ha,tu]:=wy;cases y1 with
    |none=>cases tb
    |some a1=>
     cases y2 with
     |none=>cases tb
     |some a2=>
      cases (show u1=.str a1 from s1);cases (show u2=.str a2 from s2);apply a_ #[_,Z,_,Z,a1,a2,Z,λt ht=>?_];have s3:aa H (upd H t (.tup [.str (aP a1 a2).1,.str (aP a1 a2).2])):=aa.new ht;apply#[_,Z,aP a1 a2,ws,#[t,_,_,Z,.of aE,Z,Z],#[a,ys,Z,.of (s3 _ _ ha),Sy (tu.same s3)],?_];let z:=k _ s3;rw[Bool.true_and] at z;rw[aA iu];show Q (.bl _) _;have z:Q (.bl (decide (aP a1 a2∈ws))) (upd H t (.tup [.str (aP a1 a2).1,.str (aP a1 a2).2])):=z;generalize upd H t _=Hz at z ⊢;by_cases hm:aP a1 a2∈ws
      ·simpa [hm] using z
      simpa [hm] using z
 exact k.elim
end
end Ev
namespace L2
open PySem PySem.Spec PyProof.Rows PySem.W
def kO_{P:Ad}{w:Af}{k:Key}{key:Aa}(h:(eD P w).is k key=true):RelV (kV k) key:=by
 have e2:yX k key=true:=h;rcases sI e2 with⟨i,t,rfl,rfl⟩|⟨x,t,rfl,rfl⟩
 ·exact#[t,Z]
 exact#[t,Z]
def Itm(d:Addr)(o:Obj)(kvs:List (Key × V)):It:=#[λi H=>H d\.frz o (.dK kvs)/\i<kvs.length,λi H y H'=>∃t k x,y=.ref t/\H t=none/\kvs[i]? = some (k,x)/\H'=upd H t (.tup [kV k,x]),λi H=>H d\.frz o (.dK kvs)/\kvs.length<=i]
def g1_{P:Ad}{w:Af}{K:af}{elts:List Expr}{kk:Nat}{pos:Pos}(d it:Addr)(o:Obj)(kvs:List (Key × V)){es:Array DictEntry}{ep:Nat}(ho:o.data=.dict es ep):Turn P w K (.Tuple elts kk pos) (Itm d o kvs) [it] it (λi h=>∃ok ov,IsItemIter h it d i kvs.length ep ok ov) where
 mem:=by simp
 obj:=λi h st b hb=>by
  obtain rfl:b=it:=⇑hb
  let#[ok,ov,q]:=st;exact#[_,q,λv z=>by cases z]
 keep:=λi h h' st k=>by
  let#[ok,ov,q]:=st;exact#[ok,ov,k it Z2 _ q]
 item:=by
  intro X hP hw hK hc i π s σ H E I hf st hg;subst hP hw hK;let#[hd,hi]:=hg;let#[vs,rel,dat]:=NV I hd ho;obtain⟨⟨k,x⟩,hx⟩:∃p,kvs[i]? = some p:=#[kvs[i],by simp[hi]];let#[u,hu,ru]:=MK rel i hx;let#[ok,ov,st]:=st;have itl:it<s.heap.objs.size:=bW st;rw[rel.length] at st;apply wpAny_pyNext_items_item st dat hu λkey h' hk out ht sz kp=>?_;apply#[_,Z,wpAny_letOwnedTupleGo_items (s:={ s with heap:=h' }) out λh2 d_ sb=>?_];have nT:s.heap.objs.size≠it:=xx itl;have I1:!In (upd H s.heap.objs.size (.tup [kV k,x])) { s with heap:=h2 }:=I.oM (t':=s.toks) (fp:=[it]) (its:=[key,u]) (λb o hb q=>(sb.2 b ⇑hb).trans (kp b o ⇑hb q)) hf (bD _) (zl) (.cons (kO_ hk) (.cons ru .nil)) #[#[_,(sb.2 _ nT).trans ht,Z,_,Z],_,(sb.2 _ nT).trans ht,Z];apply#[.ref _,_,I1,Z,#[_,k,x,Z,I.ay.fresh (bD _),hx,Z],#[_,_,by rw[rel.length];exact d_],λb hb=>?_];have e:b=it:=⇑hb
  rw[aD (λz=>nT (z.symm.trans e))];exact (hf b hb).1
 done:=by
  intro X hP hw hK hc i π s σ H E I hf st hg;subst hP hw hK;let#[hd,hi]:=hg;let#[vs,rel,dat]:=NV I hd ho;let#[f0,f1,f2,f3,f4,f5]:=hf it Z2;let#[ok,ov,st]:=st;rw[rel.length] at st hi;exact wpAny_pyNext_items_end (I.ok.hd hc) st dat (by simp;omega) λh' eb=>#[Z,I.turned (t':=s.toks) (λb o hb e=>eb b o hb e) f0 f1 f3 f4 f5]
 self:=λA i s Q E st h=>by
  let#[ok,ov,q]:=st;exact kcp_self q h
inductive pI(R:It->Hp->Prop)(x:V)(H1:Hp):Prop
 |mk:∀v d kvs,x=.ref v->H1 v\zj v d->H1 d\.dK kvs->(∀o,R (Itm d o kvs) (upd H1 d (.frz o (.dK kvs))))->pI R x H1
def Ci(tv:TE):TI:=λσ H R=>tv σ H λx H1=>pI R x H1
def SI{X:Cx}{elts:List Expr}{kk:Nat}{p2:Pos}{e:Expr}{tv:TE}(he:PE X e tv):PI X (.Tuple elts kk p2) e (Ci tv):=by
 intro π s σ H R I h;apply aU (he π s σ H _ I h) λu s1 ⟨x,H1,I1,r1,v,d,kvs,ex,hv,hd,q⟩=>?_;subst ex;cases r1;let#[iv,_,_]:=I1.ay v _ hv;let#[o,ho,I2]:=I1.freeze hd;let#[z,_,vs,rel,o',es,ep,kI,c',dt,r]:=C7 I1.ay hd;rw[ho] at kI;cases kI;apply wpAny_pyIter_items (knd:=eD X.prog X.w) (kvs:=vs) (ep:=ep) iv #[o,es,ho,c',dt,r] ?_;apply#[s1.heap.objs.size,[s1.heap.objs.size],_,_,_,Z,I2.kept (t':=s1.toks) λb o e=>b_ _ e,g1_ d _ o kvs dt,?_,λb hb=>?_,q o]
 ·rw[rel.length];exact#[.none,.none,eL _ Z]
 obtain rfl:b=s1.heap.objs.size:=⇑hb
 exact I2.kL (bD _) (I2.ay.fresh (bD _))
def Zx{d:Addr}{o:Obj}{kvs:List (Key × V)}{g:TG}{tb:TS}{D:Ends}{σ:St}{H:Hp}(Pv:bX)(h0:Pv 0 σ H)(hl:∀i σ H,i<=kvs.length->Pv i σ H->H d\.frz o (.dK kvs))
 (hs:∀i k x σ H,kvs[i]? = some (k,x)->Pv i σ H->∀t,H t=none->g (.ref t) σ (upd H t (.tup [kV k,x])) λg_ H2=>tb { D with nx:=Pv (i+1),ct:=Pv (i+1),bk:=D.nx } g_ H2)(hd:∀σ H,Pv kvs.length σ H->D.nx σ H):
  ∃W:Nat->Nat->St->Hp->Prop,(∃m,W 0 m σ H)/\∀i m σ H,W i m σ H->
   ((Itm d o kvs).stop i H/\D.nx σ H)∨((Itm d o kvs).go i H/\∃N:St->Hp->Prop,(∀bh H',N bh H'->∃m',m'<m/\W (i+1) m' bh H')/\∀x H',(Itm d o kvs).iG i H x H'->g x σ H' λg_ H2=>tb { D with nx:=N,ct:=N,bk:=D.nx } g_ H2):=by
 apply#[λi m σ H=>m=kvs.length - i/\i<=kvs.length/\Pv i σ H,#[kvs.length,by simp,gQ _,h0],?_];rintro i m σ H ⟨rfl,hi,p⟩;let q:=hl i σ H hi p;by_cases dB:i<kvs.length
 ·apply .inr #[#[q,dB],Pv (i+1),λbh H' p'=>#[kvs.length - (i+1),by omega,Z,dB,p'],λx H' y=>?_];let#[t,k,x,rfl,ht,hx,rfl]:=y;exact hs i k x σ H hx p t ht
 have e:i=kvs.length:=by omega
 subst e;exact .inl #[#[q,bD _],hd σ H p]
inductive sX(t:TS)(D:Ends)(σ:St)(H:Hp):Prop
 |mk:∀d kvs,H d\.dK kvs->t { nx:=λoJ H1=>∃o,H1 d\.frz o (.dK kvs)/\D.nx oJ (upd H1 d (.dK kvs)),rt:=λv H1=>∃o,H1 d\.frz o (.dK kvs)/\D.rt v (upd H1 d (.dK kvs)) } σ H->sX t D σ H
def k8_{X:Cx}{st:Stmt}{t:TS}(h:PS X st t):PS X st (sX t):=by
 intro π s σ H D I q;let#[d,kvs,hd,q]:=q
 have nf:∀o u,X.iZ d≠some (.frz o u):=λo u z=>by
  have:=I.base.e_ _ _ _ z;rw[hd] at this;cases this
 apply aU (h π s σ H _ I q) λf s' p=>?_;cases f with
 |next=>
  let#[oJ,H1,I1,o,hf,q1]:=p;exact#[oJ,_,I1.sR hf nf,q1]
 |brk=>
  let#[oJ,H1,I1,q1]:=p;exact False.elim q1
 |cont=>
  let#[oJ,H1,I1,q1]:=p;exact False.elim q1
 |ret u=>
  let#[v,oJ,H1,I1,r,o,hf,q1]:=p;exact#[v,oJ,_,I1.sR hf nf,r,q1]
end L2
namespace Ev
open PySem L2
structure Fz(d:Addr)(o:Obj)(kvs:List (Key × V))(H H':Hp):Prop where
 at_:H' d\.frz o (.dK kvs)
 sm:∀b u,b≠d->H b\u->H' b\u
section
variable{d:Addr}{o:Obj}{kvs:List (Key × V)}{H H' H2:Hp}
def Fz.step(f:Fz d o kvs H H')(s:aa H' H2):Fz d o kvs H H2:=#[s _ _ f.at_,λb u ne e=>s _ _ (f.sm b u ne e)]
def Fz.sR(f:Fz d o kvs H H')(hd:H d\.dK kvs):aa H (upd H' d (.dK kvs)):=λb u e=>by
 by_cases z:b=d
 ·subst z;rw[hd] at e;cases e;exact aE
 rw[aD z];exact f.sm b u z e
def Fz.Jy{K:af}{CG CW g p:Addr}{hs:Xa}{ts:Xb}{qs:aJ}{fp:ai}(f:Fz d o kvs H H')(hd:H d\.dK kvs)(G:fO K CG CW H g p hs ts qs fp)(nd:d∉fp):fO K CG CW H' g p hs ts qs fp:=
 G.keep (λb hb u e=>f.sm b u (λz=>nd (z▸hb)) e) λb xs e=>f.sm b _ (aR e hd nofun) e
end
def dR(ns:ae)(g:Str->V):List (Key × V):=ns.map λn=>(Sum.inr n,g n)
def NG(ns:ae)(g:Str->V):(dR ns g).map (·.1)=ns.map Sum.inr:=by
 unfold dR;rw[bU];rfl
def si(ns:ae)(g:Str->V):(dR ns g).length=ns.length:=aq _
def Nf{ns:ae}{g:Str->V}{n:Str}(h:n∈ns):a9 (dR ns g) (Sum.inr n)\g n:=by
 induction ns with
 |nil=>cases h
 |cons m ns ih=>
  by_cases e:m=n
  ·subst e;exact l_ Z
  have:a9 (dR (m::ns) g) (Sum.inr n)=a9 (dR ns g) (Sum.inr n):=l8 λz=>e (gX z);rw[this];rcases cc.mp h with z|z
  ·exact absurd z.symm e
  exact ih z
def KY{ns:ae}{g k:Str->V}(h:∀n∈ns,g n=k n):dR ns g=dR ns k:=p4 λn hn=>by rw[h n hn]
def X2{ns:ae}{g:Str->V}{n:Str}{v:V}(h:n∈ns):putK (dR ns g) (Sum.inr n) v=dR ns λm=>if m=n then v else g m:=by
 unfold putK;rw[aF]
 ·unfold dR;rw[bU];apply p4 λm _=>?_;by_cases e:m=n
  ·subst e;simp
  have:¬((Sum.inr m:Key)=Sum.inr n):=λz=>e (gX z);simp[e]
 apply List.any_eq_true.mpr #[(Sum.inr n,g n),bo.mpr #[n,h,Z],by simp]
def Ys{ns:ae}{g:Str->V}{n:Str}{v:V}(h:n∉ns):putK (dR ns g) (Sum.inr n) v=dR (ns++[n]) λm=>if m=n then v else g m:=by
 rw[DV _ (wj (by
  rw[NG];intro m;let#[x,hx,e]:=bo.mp m;exact h (gX e▸hx)))]
 unfold dR;rw[cZ];congr 1
 ·apply p4 λm hm=>?_;have e:¬m=n:=λz=>h (z▸hm);simp[e]
 simp
def Rv{ns:ae}{g:Str->V}{i:Nat}{k:Key}{x:V}(h:(dR ns g)[i]? = some (k,x)):∃n,ns[i]? = some n/\k=Sum.inr n/\x=g n:=by
 unfold dR at h;rw[d0] at h;cases e:ns[i]? with
 |none=>rw[e] at h;cases h
 |some n=>
  rw[e] at h;let h:=c7 h;exact#[n,Z,(dH Prod.fst h).symm,(dH Prod.snd h).symm]
def Y8{ns:ae}(nd:ns.Nodup){i:Nat}{n:Str}(h:ns[i]? = some n):n∉ns.take i:=by
 let q:=KL (g:=id) (ts:=ns) (by rw[List.map_id];exact nd) h;rwa [List.map_id] at q
def qS{ns:ae}{i:Nat}{n:Str}(h:ns[i]? = some n):ns.take (i+1)=ns.take i++[n]:=by
 rw[lB,h];rfl
abbrev gf(ns:ae)(f:az):List (Key × V):=dR ns λn=>.str (f n)
def eN(q:Pc):Str × Int:=(q.1,q.2.1)
def ld(f:az)(ws:Xa)(h:Str):Int:=((ws.filter λx=>decide (f x.1=h)).map (·.2)).sum
def X7(f:az)(ws:Xa)(x:Str × Int)(h:Str):ld f (ws++[x]) h=if h=f x.1 then ld f ws h+x.2 else ld f ws h:=by
 unfold ld;rw[List.filter_append];by_cases e:f x.1=h
 ·rw[aF e.symm,cZ,List.sum_append];simp[e]
 rw[aA λz=>e z.symm];simp[e]
def iC_{a b:List Int}(p:a.Perm b):a.sum=b.sum:=by
 induction p with
 |nil=>rfl
 |cons x _ ih=>simp[ih]
 |swap x y l=>simp only[List.sum_cons];omega
 |trans _ _ h1 h2=>exact h1.trans h2
def kq_(f:az){a b:Xa}(p:a.Perm b)(h:Str):ld f a h=ld f b h:=iC_ ((p.filter _).map _)
def Yk:∀{l:List Int},(∀x∈l,0<=x)->0<=l.sum
 |[],_=>by simp
 |x::l,h=>by
  rw[List.sum_cons];have:=h x fi;have:=Yk (l:=l) λy hy=>h y (fj _ hy);omega
def lp_{f:az}{ws:Xa}{h:Str}(p:∀x∈ws,0<=x.2):0<=ld f ws h:=Yk λx hx=>by
 let#[y,hy,rfl]:=bo.mp hx;exact p y (List.mem_filter.mp hy).1
def Qs.nd{ps qs:aJ}(Q:Qs ps qs)(nd:(ps.map (·.1)).Nodup):(qs.map (·.1)).Nodup:=by
 rw[Q.vh];exact (lY _).nodup_iff.mpr nd
def Qs.len{ps qs:aJ}(Q:Qs ps qs):qs.length=ps.length:=by
 have:=dH List.length Q.vh;rw[aq,(lY _).length_eq,aq] at this;exact this
def Qs.ws{ps qs:aJ}(Q:Qs ps qs)(nd:(ps.map (·.1)).Nodup):(qs.map eN).Perm (ps.map eN):=by
 have nw:∀{l:aJ},(l.map (·.1)).Nodup->(l.map eN).Nodup:=λ{l} h=>by
  have e:(l.map (·.1))=(l.map eN).map (·.1):=by rw[bU];rfl
  rw[e] at h;exact (md.mp h).imp λn z=>n (by rw[z])
 apply (List.perm_ext_iff_of_nodup (nw (Q.nd nd)) (nw nd)).mpr λa=>#[λh=>?_,λh=>?_]
 ·let#[q,hq,rfl]:=bo.mp h;let#[p,hp,rfl]:=Q.mem q hq;exact bo.mpr #[p,hp,Z]
 let#[p,hp,rfl]:=bo.mp h
 have m:p.1∈qs.map (·.1):=by
  rw[Q.vh];exact (lY _).mem_iff.mpr (bo.mpr #[p,hp,Z])
 let#[q,hq,e]:=bo.mp m;let#[p',hp',e']:=Q.mem q hq;have:p'=p:=Ti nd hp' hp (by rw[e'] at e;exact e);apply bo.mpr #[q,hq,?_];rw[e',this];rfl
section v
structure zD(hs:Xa)(qs:aJ)(ns:ae)(f:az):Prop where
 perm:ns.Perm (qs.map (·.1))
 at_:∀n∈ns,f n∈hs.map (·.1)
end
def eC.has{K:af}{C:Addr}{H:Hp}{p:Addr}{hs:Xa}{ts:Xb}{fp:ai}(W:eC K C H p hs ts fp){b:Addr}(hb:b∈fp):∃o,H b\o:=by
 let#[dx,d1,l2,d3,zs,as,rfl,h1,h2,h3,h4,h5,h6,h7]:=W.ex;simp only[cc] at hb;rcases hb with rfl|rfl|rfl|rfl|hb
 ·exact#[_,h1]
 ·exact#[_,h2]
 ·exact#[_,h3]
 ·exact#[_,h5]
 let#[i,hi,e]:=j3 hb;exact#[_,h7 i ((aB hs)[i]' Z1) b (cE Z1) (by rw[<- e];exact cE hi)]
section
variable{d d2:Addr}{o:Obj}{kvs:List (Key × V)}{H H' H1:Hp}{u:HO}
def Fz.Bu(s:aa H H1):Fz d o kvs H (upd H1 d (.frz o (.dK kvs))):=#[aE,λb u ne e=>by rw[aD ne];exact s _ _ e]
def Fz.put(f:Fz d o kvs H H')(hn:H d2=none)(ne:d2≠d):Fz d o kvs H (upd H' d2 u):=#[by rw[aD ne.symm];exact f.at_,λb u nb e=>by rw[aD (bB e hn)];exact f.sm b u nb e]
end
section v
def Nv:bA ["goods","placed","hand","found","piece"] lV (aM Ta):=bI
structure sj(K:af)(CG CW:Addr)(H:Hp)(g p d:Addr)(hs:Xa)(ts:Xb)(qs:aJ)(fp:ai)(f:az):Prop where
 G:fO K CG CW H g p hs ts qs fp
 Gd:Good hs ts
 JX:d∉fp
 hd:H d\.dK (gf (qs.map (·.1)) f)
 at_:∀n∈qs.map (·.1),f n∈hs.map (·.1)
 nd:(qs.map (·.1)).Nodup
 dC:qs.length<64
abbrev vp(hs:Xa)(qs:aJ)(f:az):List (Key × V):=dR (aB hs) λh=>.int (ld f (qs.map eN) h)
inductive KR(K:af)(CG CW:Addr):Sp|k:∀(g p d:Addr)(hs:Xa)(ts:Xb)(qs:aJ)(fp:ai)(f:az),vs=[.ref g,.ref d]->sj K CG CW H g p d hs ts qs fp f->(∀d' H',aa H H'->H d'=none->H' d'\.dK (vp hs qs f)->Q (.ref d') H')->KR K CG CW vs H Q E
def gz_{f CG CW CP:Addr}{fd:Ae}(F:bc K "loads_at" "loads_at" Ta f fd)(B:Bi mg)(T:dO K CG)(TW:Txt K mg CW)(cH:!aZ CW 1 "hands" dG (Fj K CW))(cW:!aZ CG 2 "weight" AY (DU K CG CW CP)):
  ak P w K mg base bg 3 f fd lV (KR K CG CW):=by
 exists F.bN Nv;let#[g,p,d,hs,ts,qs,fp,f,rfl,Pl,k]:=h;let hu:=gE hr;let sz:=cX;have fH:aI 1 _:=hr.mono (by decide);refine' #[_,?r0,?kk]
 case' r0=>refine' ao ?s1 ?r1
 case s1=>exact bC 3 Nv.nd (sy (FD Z) (by rfl) B.dict Fp %[pX ["hand"] 1 [] (eS (j2 cH TW.cl fH (bP (pv 0) Z))) (λfp s H=>gy (i:=0) (show (["hand"]:ae).Nodup by decide +kernel) Z (Or.inl Z)) (λfp s H=>lW) (λfp s H=>dS %[0,aH|0])|0])
 case' r1=>refine' ao ?s2 ?r2
 case' s2=>refine' k8_ (gc fV Z ?i2 ?g2 (aK ?b2))
 case i2=>exact SI (Kh (pv 1))
 case g2=>exact qP Z (eF (dF 4 Nv.nd) (eF (dF 2 Nv.nd) kZ))
 case b2=>exact xn hu (pv 3) (pv 2) (bV jM (lU hu (pv 3) (pv 2)) (eU cW T.cl hr (pv 0) %[4|0])) Z
 case r2=>exact aK (bw (pv 3))
 let nl:=Pl.Gd.fF;let h8:=Pl.Gd.h8;let#[dx,dw,dy,vs,bq,h1,h2,h3,h4,h5,m1,m2,m3,m4,m5]:=id Pl.G.ex;let#[eW,d1,l2,d3,jR,as,ef,w1,_]:=id h2.ex;have gL:(cB d1 l2 d3).lookup ("hands":Str)=none:=iW _ _ _ Z0 Z0 Z0;apply#[_,Z,g,CG,dx,_,_,Z,h1,T.cl,T.nW,pY _ _ _,p,eW,_,Z,w1,gL,p,hs,ts,bq,Z,h2,λlh vF=>?_];let#[s1,e1]:=bS (X:=.lst ((aB hs).map V.str)) vF;generalize upd H lh _=H1 at s1 e1 ⊢;apply#[lh,Z,#[_,.of e1],λD hD=>?_]
 let bx:eI:=λi out H'=>aa H1 H'/\H' D\.lst out/\qY K H' out (dR ((aB hs).take i) λ_=>.int 0)
 apply p0 (own:=1) (fv:=[]) (xs:=(aB hs).map V.str) Z gr bx #[aa.new hD,aE,.nil] (λi out H' _ ⟨sm,_,_⟩=>.of (sm _ _ e1)) (λout H5 ⟨sm,MA,pa⟩=>?_) (λi y out H' hy ⟨sm,gC,pa⟩=>?_);rotate_left 1
 ·let#[n,hn,rfl]:=lZ hy;have hi:i<(aB hs).length:=(cK.mp hn).1;apply#[_,Z,Z,λNx hN=>fD ?_];apply#[_,Z,zl,λt ht=>?_];let s5:=aa.new (o:=.tup [.str n,.int 0]) ht;let lo:=bG pa;rw[si,dZ] at lo;apply#[out,s5 _ _ gC,by omega,hN _ _ #[jP (sm.trans s5) hD,aE,?_]];let Mf:=us H' t (.tup [.str n,.int 0]);have pD:∀{b:Addr} {ys:ag},upd H' t (.tup [.str n,.int 0]) b\.tup ys->b≠D:=λhb=>aR hb (s5 _ _ gC) nofun;rw[qS hn];show qY K _ _ (((aB hs).take i++[n]).map _);rw[cZ];exact iU (Paired.bJ pa λy kv ⟨b,z,hb⟩=>#[b,z,by rw[aD (pD (s5 _ _ hb))];exact s5 _ _ hb]) (.cons #[t,Z,by rw[aD (pD Mf)];exact Mf] .nil)
 rw[aq,gG] at pa;apply#[D,out,_,Z,MA,pa,by rw[si];omega,λd2 hd2=>?_]
 have Ar:((dR (aB hs) λ_=>V.int 0).map (·.1)).Nodup:=by
  rw[NG,wk,md];exact Pl.Gd.qp.imp λn e=>n (gX e)
 rw[Fy Ar];let s2:=(s1.trans sm).trans (aa.new (o:=.dK (dR (aB hs) λ_=>V.int 0)) hd2);let e2:=us H5 d2 (.dK (dR (aB hs) λ_=>V.int 0));have n2:H d2=none:=s1.free (sm.free hd2);show Bn _ _ _ _ (upd H5 d2 (.dK (dR (aB hs) λ_=>V.int 0)));generalize upd H5 d2 _=H6 at s2 e2 ⊢;have Tt:d2≠d:=(bB Pl.hd n2).symm;apply#[d,_,s2 _ _ Pl.hd,?_];apply#[_,Z,d,_,Z,s2 _ _ Pl.hd,λv hv=>?_];let#[s3,vA]:=bS (X:=zj v d) hv;let e3:=s3 _ _ e2;let xZ:=s2.trans s3;generalize upd H6 v _=H7 at s3 vA e3 xZ ⊢;apply#[v,d,_,Z,vA,xZ _ _ Pl.hd,λo=>?_]
 let ck:bX:=λi σ H'=>∃(v2 v4:aQ),σ=[some (.ref g),some (.ref d),v2,some (.ref d2),v4]/\Fz d o (gf (qs.map (·.1)) f) H H'/\H' d2\.dK (dR (aB hs) λh=>.int (ld f ((qs.take i).map eN) h))
 apply Zx ck #[none,none,Z,Fz.Bu xZ,by rw[aD Tt];exact e3] (λi σ H' _ ⟨_,_,_,z,_⟩=>z.at_) ?_ ?_
 ·rintro i ky x σ H8 hx ⟨v2,v4,rfl,fz,e8⟩ t ht;let#[n,hn,rfl,rfl]:=Rv hx
  have hi:i<qs.length:=by
   have:=(cK.mp hn).1;rwa [aq] at this
  have hq:qs[i]? = some (qs[i]'hi):=cE hi
  have en:n=(qs[i]'hi).1:=by
   rw[d0,hq] at hn;exact (c7 hn).symm
  have fm:f n∈aB hs:=(iY hs).mem_iff.mpr (Pl.at_ n (dz hn));generalize qs[i]'hi=q at hq en;let s8:=aa.new (o:=.tup [.str n,.str (f n)]) ht;let RL:=fz.step s8;let e9:=s8 _ _ e8;let et:=us H8 t (.tup [.str n,.str (f n)]);show kK _ _ _ _ _ (upd H8 t (.tup [.str n,.str (f n)])) _;generalize upd H8 t _=H9 at s8 RL e9 et ⊢;apply#[t,_,Z,.of et,Z,_,_,Z,_,_,Z,Z,?_];let G9:=RL.Jy Pl.hd Pl.G Pl.JX;let#[dx,dw,dy,vs,bq,h1,h2,h3,h4,h5,m1,m2,m3,m4,m5]:=id G9.ex;have rH:(bZ p dw dy).lookup ("weight":Str)=none:=zt _ _ _ Z0 Z0 Z0;apply#[_,Z,_,Z,d2,.int (ld f ((qs.take i).map eN) (f n)),Z,?_,_,Z,g,dx,_,Z,h1,rH,_,Z,g,p,.str n,some n,hs,ts,qs,fp,Z,G9,Pl.nd,Z,.inl #[q,dz hq,dH some en,?_]]
  ·rw[<- Nf (g:=λh=>V.int (ld f ((qs.take i).map eN) h)) fm];exact .k (k:=Sum.inr (f n)) e9
  apply#[_,_,Z,Z,_,Z,_,Z,d2,_,Z,.k (k:=Sum.inr (f n)) e9 (by rw[si];omega),?_];apply#[_,_,Z,RL.put n2 Tt,?_];rw[aE,X2 fm];congr 2;apply KY λm _=>?_
  have e5:(qs.take (i+1)).map eN=(qs.take i).map eN++[eN q]:=by
   rw[lB,hq,cZ];rfl
  rw[e5,X7];show (if m=f n then V.int (ld f ((qs.take i).map eN) (f n)+q.2.1) else V.int (ld f ((qs.take i).map eN) m))=V.int (if m=f q.1 then _ else _);rw[<- en];by_cases z:m=f n
  ·rw[aF z,aF z,z];rfl
  rw[aA z,aA z]
 rintro σ H8 ⟨v2,v4,rfl,fz,e8⟩;apply#[o,fz.at_,?_];rw[si,aq,gG] at e8;exact#[_,Z,k d2 _ (fz.sR Pl.hd) n2 (by rw[aD Tt];exact e8)]
end
end Ev
namespace L2
open PySem PySem.Spec PyProof.Rows PySem.W
def g6_{d:Addr}{o:Obj}{kvs:List (Key × V)}{g:TG}{tc:TT}{te:TE}{own:Nat}{fv:List aQ}{dec:V->Hp->List aQ->Prop}{D:Addr}{H:Hp}{Q:VK}{qc:St}(yx:qc=List.replicate own none++fv)(G:FP g own fv dec)(Pv:eI)
 (h0:Pv 0 [] (upd H D (.lst [])))(hl:∀i out H',i<=kvs.length->Pv i out H'->H' d\.frz o (.dK kvs))(hd:∀out H',Pv kvs.length out H'->Q (.ref D) H')
 (Jf:∀i k x out H',kvs[i]? = some (k,x)->Pv i out H'->∀t,H' t=none->∃o3,dec (.ref t) (upd H' t (.tup [kV k,x])) o3/\o3.length=own/\∀Nx:Hp->Prop,(∀nJ H2,Pv (i+1) nJ H2->Nx H2)->
   tc (o3++fv) (upd H' t (.tup [kV k,x])) λb H4=>if b=true then te (o3++fv) H4 λy H5=>∃gg,H5 D\.lst gg/\gg.length<sizeLine/\Nx (upd H5 D (.lst (gg++[y]))) else Nx H4):
  EU (Itm d o kvs) g tc te qc D H Q:=by
 apply M0 yx G kvs.length Pv h0 (λout H' p=>#[#[hl _ _ _ (bD _) p,bD _],hd out H' p]) λi out H' hi p=>?_;let q:=hl i out H' (Nat.le_of_lt hi) p;apply#[#[q,hi],λx H2 y=>?_];let#[t,k,v,rfl,ht,hx,rfl]:=y;exact Jf i k v out H' hx p t ht
section
variable{X:Cx}
inductive uU(K:af)(x:V)(y:V)(H:Hp)(Q:VK):Prop
 |mk:∀a b xs,x=.ref a->y=.ref b->dU K H a xs->dU K H b []->Q (.bl (!xs.isEmpty)) H->uU K x y H Q
def YZ(hu:X.A.units+0+1<cLine):eG X (compareOp .NotEq) (uU X.K):=by
 intro π s σ H x y v u Q I rx ry h;let#[a,b,xs,rfl,rfl,t,t',hq]:=h;cases xs with
 |nil=>exact WW il hu π s σ H (.ref a) (.ref b) v u Q I rx ry #[[],[],#[a,[],Z,t,.nil],#[b,[],Z,t',.nil],hq]
 |cons z zs=>
  cases rx;cases ry;let#[us,r,pl,_]:=I.list t;let#[vs,r',qm,_]:=I.list t';let l1:=r.length;let l2:=r'.length;exact N6.hZ pl.isList qm.isList (by simp only[c_,bne_iff_ne];simp at l1 l2;omega) Z1 #[.bl true,H,I,Z,hq]
end
end L2
namespace Ev
open PySem L2
def nQ(a n:Int):Int:=a / (Int.gcd a n:Int) * n
def l5_{a n:Int}(ha:0<a)(hn:0<n):nQ a n=(Int.lcm a n:Int):=by
 let#[p,rfl]:=xw (Int.le_of_lt ha);let#[q,rfl]:=xw (Int.le_of_lt hn);show ((p:Int) / ((Nat.gcd p q:Nat):Int)) * (q:Int)=((Nat.lcm p q:Nat):Int);rw[<- Int.natCast_ediv,<- Int.natCast_mul,Nat.div_mul_right_comm (Nat.gcd_dvd_left p q)];rfl
def nO(ns:List Int):Int:=ns.foldl nQ 1
def YE:∀(ns:List Int)(a:Int),0<a->(∀n∈ns,0<n)->0<ns.foldl nQ a/\∀x:Int,0<=x->(ns.foldl nQ a ∣ x ↔ a ∣ x/\∀n∈ns,n ∣ x)
 |[],a,ha,_=>#[ha,λx _=>by simp]
 |n::ns,a,ha,h=>by
  let hn:=h n fi;let e:=l5_ ha hn
  have p:0<nQ a n:=by
   rw[e];have:=Nat.lcm_pos (m:=a.natAbs) (n:=n.natAbs) Z1 Z1;have:0<Int.lcm a n:=this;omega
  let#[h1,h2]:=YE ns (nQ a n) p λm hm=>h m (fj _ hm);apply#[h1,λx hx=>(h2 x hx).trans ?_];let#[z,rfl]:=xw hx;rw[e,Int.natCast_dvd_natCast,Int.lcm_dvd_iff];constructor
  ·rintro⟨⟨q1,q2⟩,q3⟩
   exact#[q1,λm hm=>by
    rcases cc.mp hm with rfl|hm
    ·exact q2
    exact q3 m hm]
  rintro⟨q1,q2⟩;exact#[#[q1,q2 n fi],λm hm=>q2 m (fj _ hm)]
def jD_{ns:List Int}(h:∀n∈ns,0<n):0<nO ns:=(YE ns 1 (by decide) h).1
def kE_(f:az)(x:Str × Int)(ws:Xa)(h:Str):ld f (x::ws) h=(if f x.1=h then x.2 else 0)+ld f ws h:=by
 unfold ld;by_cases e:f x.1=h
 ·simp[e]
 simp[e]
def Wy{f:az}{h:Str}:∀{ws:Xa},(∀x∈ws,0<=x.2/\x.2<=1000000000)->ld f ws h<=1000000000 * ws.length
 |[],_=>by
  unfold ld;simp
 |x::ws,p=>by
  let h1:=p x fi;let h2:=Wy (f:=f) (h:=h) (ws:=ws) λy hy=>p y (fj _ hy);rw[kE_,jf];by_cases z:f x.1=h
  ·rw[aF z];omega
  rw[aA z];omega
def AZ(hs:Xa):Int:=nO ((aB hs).map (strOf hs))
def zr{hs:Xa}{ts:Xb}(G:Good hs ts){n:Str}(h:n∈aB hs):1<=strOf hs n/\strOf hs n<=1000:=(G.ay _ (zw ((iY hs).mem_iff.mp h))).2
section v
def xT:bA ["numbers","found","number"] ["numbers"] (aM OS):=bI
def GJ(K:af):Sp:=λvs H Q _=>∃(l:Addr) (ns:List Int),vs=[.ref l]/\dU K H l (ns.map V.int)/\(∀n∈ns,1<=n/\n<=1000)/\Q (.int (nO ns)) H
def iO_{ns:List Int}{i:Nat}{n:Int}(h:ns[i]? = some n):nO (ns.take (i+1))=nQ (nO (ns.take i)) n:=by
 unfold nO;rw[lB,h,List.foldl_append];rfl
def eV_{ns:List Int}{i:Nat}{y:V}(h:(ns.map V.int)[i]? = some y):∃n,ns[i]? = some n/\y=.int n:=by
 rw[d0] at h;cases e:ns[i]? with
 |none=>rw[e] at h;cases h
 |some n=>rw[e] at h;exact#[n,Z,(c7 h).symm]
def m3_{f:Addr}{fd:Ae}(F:bc K "least_multiple" "least_multiple" OS f fd)(cG:!bH 1 "greatest_divisor" rV GK):!ak bg 2 f fd ["numbers"] (GJ K):=by
 exists F.bN xT;let#[l,ns,rfl,hl,b,k]:=h;refine' #[_,ao ?s1 (ao ?s2 (aK ?s3)),?kk]
 case s1=>exact bC 1 xT.nd aH
 case s2=>exact gc fV Z (eS (pv 0)) (dF 2 xT.nd) (aK (bC 1 xT.nd (bV sk (bV zv (pv 1) (bp cG hr %[1,2|0])) (pv 2))))
 case s3=>exact bw (pv 1)
 let bx:bX:=λi σ H'=>H'=H/\∃(v2:aQ),σ=[some (.ref l),some (.int (nO (ns.take i))),v2]
 apply#[_,Z,l,Z,#[_,hl],jh (K:=K) (a:=l) (xs:=ns.map V.int) bx #[Z,none,Z] (λi σ H' _ ⟨e,_⟩=>by rw[e];exact hl) ?_ ?_]
 ·rintro i y σ H' hy ⟨rfl,v2,rfl⟩;let#[n,hn,rfl]:=eV_ hy;let bn:=b n (dz hn)
  let p:=jD_ (ns:=ns.take i) λm hm=>by
   have:=b m (List.take_subset _ _ hm);omega
  apply#[_,Z,_,Z,_,Z,_,_,Z,Int.le_of_lt p,by omega,_,_,Z,Z,m4_ Z1 (Int.le_trans bn.2 (by decide)),_,Z,_,_,Z,Z,.inr #[by omega,by omega],Z,some (.int n),?_];rw[iO_ hn];rfl
 rintro σ H' ⟨rfl,v2,rfl⟩;apply#[_,Z,?_];rw[aq,gG];exact k
def BC:bA ["web"] ["web"] (aM uA):=bI
inductive MV(K:af)(C:Addr):Sp|k:∀(p:Addr)(hs:Xa)(ts:Xb)(fp:ai),vs=[.ref p]->eC K C H p hs ts fp->Good hs ts->(∀H',aa H H'->Q (.int (AZ hs)) H')->MV K C vs H Q E
def kk_{f CW:Addr}{fd:Ae}(F:bc K lG lG uA f fd)(TW:Txt K mg CW)(cL:!bH 2 "least_multiple" ["numbers"] (GJ K))(cH:!aZ CW 1 "hands" dG (Fj K CW))(cS:!aZ CW 2 "strength" jK (DX K CW)):!ak bg 3 f fd ["web"] (MV K CW):=by
 exists F.bN BC;let#[p,hs,ts,fp,rfl,W,G,k]:=h;let sz:=cX;let nl:=G.fF;let h8:=G.h8;refine' #[_,aK (bw (bp cL hr %[pX ["hand","web"] 1 [0] (eS (j2 cH TW.cl (hr.mono (by decide)) (pv 0))) (λfp s H=>gy (i:=0) (show (["hand","web"]:ae).Nodup by decide +kernel) Z (Or.inl Z)) (λfp s H=>lW) (λfp s H=>?e1)|0])),?kk]
 case e1=>exact eU cS TW.cl hr (pv 1) %[0|0]
 let#[eW,d1,l2,d3,jR,as,ef,w1,_]:=id W.ex;apply#[_,Z,p,eW,_,Z,w1,iW _ _ _ Z0 Z0 Z0,p,hs,ts,fp,Z,W,λlh vF=>?_];let#[s1,e1]:=bS (X:=.lst ((aB hs).map V.str)) vF;generalize upd H lh _=H1 at s1 e1 ⊢;apply#[lh,Z,#[_,.of e1],λD hD=>?_]
 let ck:eI:=λi out H'=>aa H1 H'/\H' D\.lst out/\out=(((aB hs).take i).map (strOf hs)).map V.int
 apply p0 (own:=1) (fv:=[some (.ref p)]) (xs:=(aB hs).map V.str) Z gr ck #[aa.new hD,aE,Z] (λi out H' _ ⟨sm,_,_⟩=>.of (sm _ _ e1)) (λout H5 ⟨sm,MA,eo⟩=>?_) (λi y out H' hy ⟨sm,gC,eo⟩=>?_)
 ·rw[aq,gG] at eo;rw[eo] at MA;apply#[D,_,Z,.of MA,λn hn=>?_,k H5 (s1.trans sm)];let#[m,hm,rfl]:=bo.mp hn;exact zr G hm
 let#[n,hn,rfl]:=lZ hy;have hi:i<(aB hs).length:=(cK.mp hn).1;apply#[_,Z,Z,λNx hN=>fD ?_];let W':=(W.same s1).same sm;let#[eW,d1,l2,d3,jR,as,ef,w1,_]:=id W'.ex;apply#[_,Z,p,eW,_,Z,w1,iW _ _ _ Z0 Z0 Z0,_,Z,p,n,strOf hs n,hs,ts,fp,Z,W',G.yB,zw ((iY hs).mem_iff.mp (dz hn)),?_];apply#[out,gC,by rw[eo,aq,aq,dZ];omega,hN _ _ #[jP sm hD,aE,?_]];rw[qS hn,cZ,cZ,eo];rfl
def Kc:bA ["goods","placed","multiple","found","hand","load"] lV (aM SA):=bI
def jw(hs:Xa)(qs:aJ)(f:az)(h:Str):Int:=ld f (qs.map eN) h * (AZ hs / strOf hs h)
inductive NO(K:af)(CG CW:Addr):Sp|k:∀(g p d:Addr)(hs:Xa)(ts:Xb)(qs:aJ)(fp:ai)(f:az),vs=[.ref g,.ref d]->sj K CG CW H g p d hs ts qs fp f->(∀q∈qs,0<=q.2.1/\q.2.1<=1000000000)->(∀d' H',aa H H'->H d'=none->H' d'\.dK (dR (aB hs) λh=>.int (jw hs qs f h))->Q (.ref d') H')->NO K CG CW vs H Q E
def Qc{qs:aJ}(wp:∀q∈qs,0<=q.2.1/\q.2.1<=1000000000)(dC:qs.length<64)(f:az)(h:Str):0<=ld f (qs.map eN) h/\ld f (qs.map eN) h<=64000000000:=by
 have p:∀x∈qs.map eN,0<=x.2/\x.2<=1000000000:=λx hx=>by
  let#[q,hq,rfl]:=bo.mp hx;exact wp q hq
 let h1:=Wy (f:=f) (h:=h) p;rw[aq] at h1;exact#[lp_ λx hx=>(p x hx).1,by omega]
def i2_{f CG CW:Addr}{fd:Ae}(F:bc K "levels_at" "levels_at" SA f fd)(T:dO K CG)(TW:Txt K mg CW)(cL:!bH 3 "loads_at" lV (KR K CG CW))(cM:!bH 3 lG ["web"] (MV K CW))(cS:!aZ CW 2 "strength" jK (DX K CW)):
  ak P w K mg base bg 4 f fd lV (NO K CG CW):=by
 exists F.bN Kc;let#[g,p,d,hs,ts,qs,fp,f,rfl,Pl,wp,k]:=h;let hu:=gE hr;let sz:=cX;have qB:aI 2 _:=hr.mono (by decide);refine' #[_,?r0,?kk]
 case' r0=>refine' ao ?s0 (ao ?s1 (ao ?s2 ?r2))
 case s0=>exact bC 2 Kc.nd (bp cM hr %[bP (pv 0) Z|0])
 case s1=>exact bC 3 Kc.nd DT
 case' s2=>refine' gc fV Z ?i2 ?g2 (aK ?b2)
 case i2=>exact SI (Kh (bp cL hr %[0,1|0]))
 case g2=>exact qP Z (eF (dF 4 Kc.nd) (eF (dF 5 Kc.nd) kZ))
 case b2=>exact xn hu (pv 3) (pv 4) (bV sk (pv 5) (bV zv (pv 2) (eU cS TW.cl qB (bP (pv 0) Z) %[4|0]))) Z
 case r2=>exact aK (bw (pv 3))
 let nl:=Pl.Gd.fF;let h8:=Pl.Gd.h8;let#[dx,dw,dy,vs,bq,h1,h2,_]:=id Pl.G.ex;apply#[_,Z,g,CG,dx,_,_,Z,h1,T.cl,T.nW,pY _ _ _,p,hs,ts,bq,Z,h2,Pl.Gd,λH0 s0=>?_];intro d2 hd2;let s1:=s0.trans (aa.new (o:=.dK []) hd2);let e1:=us H0 d2 (.dK []);have n2:H d2=none:=s0.free hd2;show Bn _ _ _ _ (upd H0 d2 (.dK []));generalize upd H0 d2 _=H1 at s1 e1 ⊢;have Pl1:sj K CG CW H1 g p d hs ts qs fp f:=#[Pl.G.same s1,Pl.Gd,Pl.JX,s1 _ _ Pl.hd,Pl.at_,Pl.nd,Pl.dC];apply#[_,Z,_,Z,g,p,d,hs,ts,qs,fp,f,Z,Pl1,λdl H2 s2 Mt e2=>?_];apply#[dl,_,Z,e2,λv hv=>?_];let#[s3,vA]:=bS (X:=zj v dl) hv;let e3:=s3 _ _ e2;let xY:=s2.trans s3;generalize upd H2 v _=H3 at s3 vA e3 xY ⊢;have ndl:H dl=none:=s1.free Mt;have _v:d2≠dl:=bB e1 Mt;apply#[v,dl,_,Z,vA,e3,λo=>?_]
 let oE:bX:=λi σ H'=>∃(v4 v5:aQ),σ=[some (.ref g),some (.ref d),some (.int (AZ hs)),some (.ref d2),v4,v5]/\aa H H'/\H' dl\.frz o (.dK (vp hs qs f))/\H' d2\.dK (dR ((aB hs).take i) λh=>.int (jw hs qs f h))
 apply Zx oE #[none,none,Z,jP (s1.trans xY) ndl,aE,by rw[aD _v];exact xY _ _ e1] (λi σ H' _ ⟨_,_,_,_,z,_⟩=>z) ?_ ?_
 ·rintro i ky x σ H8 hx ⟨v4,v5,rfl,s8,f8,e8⟩ t ht;let#[n,hn,rfl,rfl]:=Rv hx;have hi:i<(aB hs).length:=(cK.mp hn).1;have nm:n∈hs.map (·.1):=(iY hs).mem_iff.mp (dz hn);let sm:=zw nm;let sg:=zr Pl.Gd (dz hn);let lo:=Qc wp Pl.dC f n;let ss:=aa.new (o:=.tup [.str n,.int (ld f (qs.map eN) n)]) ht;let s9:=s8.trans ss;let e9:=ss _ _ e8;let f9:=ss _ _ f8;let et:=us H8 t (.tup [.str n,.int (ld f (qs.map eN) n)]);show kK _ _ _ _ _ (upd H8 t (.tup [.str n,.int (ld f (qs.map eN) n)])) _;generalize upd H8 t _=H9 at ss s9 e9 f9 et ⊢;apply#[t,_,Z,.of et,Z,_,_,Z,_,_,Z,Z,?_];let G9:=Pl.G.same s9;let#[dx,dw,dy,vs,bq,h1,h2,h3,h4,h5,m1,m2,m3,m4,m5]:=id G9.ex;let#[eW,d1,l2,d3,jR,as,ef,w1,_]:=id h2.ex;have gL:(cB d1 l2 d3).lookup ("strength":Str)=none:=iW _ _ _ Z0 Z0 Z0;apply#[_,Z,_,Z,_,Z,g,CG,dx,_,_,Z,h1,T.cl,T.nW,pY _ _ _,p,eW,_,Z,w1,gL,_,Z,p,n,strOf hs n,hs,ts,bq,Z,h2,Pl.Gd.yB,sm,?_];apply#[_,_,Z,Z,#[by omega,by omega],_,_,Z,Z,.inl #[by omega,by omega],_,Z,_,Z,d2,_,Z,.k (k:=Sum.inr n) e9 (by rw[si,dZ];omega),?_];apply#[_,_,Z,jP s9 n2,by rw[aD _v.symm];exact f9,?_];rw[aE,qS hn,Ys (Y8 Pl.Gd.qp hn)];congr 2;apply KY λm _=>?_;by_cases z:m=n
  ·subst z;simp[jw]
  simp[z]
 rintro σ H8 ⟨v4,v5,rfl,s8,f8,e8⟩;rw[si,gG] at e8;exact#[_,Z,k d2 H8 s8 n2 e8]
end
end Ev
namespace L2
open PySem PySem.Spec PyProof.Rows
def N8(P:Ad)(w:Af)(L:Addr):jm:=λl H s E e s'=>
 ∃a cls H' B,e=Value.ref a/\s'.os=s.os/\AllBare s'.gens/\Un (eB l) [] H H' s.heap s'.heap/\dP P w H' s'.heap/\xA B l a cls (rawInt L) s'.heap/\wD B l H' s.heap s'.heap/\E cls none H'
inductive XQ(X:Cx)(E:XK)(e:Aa)(s':Ab):Prop
 |mk:∀π σ H s,!In H s->(d8 X.prog X.w X.stack H s E e s'∨N8 X.prog X.w X.env.locals X.stack H s E e s'∨∃h' a cls vs,e=Value.ref a/\s'={ s with heap:=h' }/\Heap.MadeExcOf s.heap h' a cls vs/\E cls none H)->XQ X E e s'
section
variable{M:Model}{A:Ag}{E:Aa->Ab->Prop}{s:Ab}
def gL_{B:Heap}{env:Env}{l:List Env}{e L:Addr}{cls cx:Aa}(hf:env.frame\L)(hh:mh B l e cls cx (rawInt L) s.heap)
 (hQ:∀h',mh B l e cls cx (rawInt L) h'->s.heap.UpToSlots h'->E (.ref e) { s with heap:=h' }):cameBackBy M A env E (.ref e) s:=by
 unfold cameBackBy;let hh2:=hh;let#[f1,f2,f3,oe,vs,T,oT,ts,he,hc,hd,h1,h2,qD,i_,hT,i9,h3]:=hh;apply au (wpAny_field he hd h1 ?_);rw[aA Z2,hf];exact xM (fr:=some L) hh2 λh' q up=>hQ h' q up
end
section
variable{X:Cx}{E:XK}
def Rx{π:List (Addr × Obj)}{σ:St}{H H':Hp}{s s':Ab}{B h1:Heap}{a L:Addr}{cls:Aa}(I:!In H s)(os:s'.os=s.os)(bare:AllBare s'.gens)(un:Un (eB X.stack) [] H H' s.heap s'.heap)(ay:dP X.prog X.w H' s'.heap)
 (ff:s'.heap.FunFrames B X.stack)(i:wD B X.stack H' s.heap s'.heap)(hE:E cls none H')(hd:xA B X.stack a cls (rawInt L) h1)(up:s'.heap.UpToSlots h1):N8 X.prog X.w L X.stack H s E (.ref a) { s' with heap:=h1 }:=
 #[a,cls,H',B,Z,os,bare,Kj un ff i hd.1 up,KW ay (NH I un) i hd.1,hd,Km ay un i hd.1,hE]
def He(gT:X.stack=X.env::X.outer)(i7:X.env.frame\X.env.locals):PassesOwn (model X.prog X.w) X.A X.env (XQ X E):=by
 intro e s' h;let#[π,σ,H,s,I,c]:=h
 have back:∀s2,N8 X.prog X.w X.env.locals X.stack H s E e s2->cameBackBy (model X.prog X.w) X.A X.env (XQ X E) e s2:=λs2 hc=>by
  let#[a,cls,H',B,rfl,os,bare,un,ay,hd,i,hE]:=hc;exact gL_ i7 hd λh' q up=>#[π,σ,H,s,I,.inr (.inl (Rx I os bare un ay hd.2.2.1 i hE q up))]
 unfold notedBy
 have fin:wpAny (model X.prog X.w) X.A (noteFrame e X.env) (λ_ s2=>N8 X.prog X.w X.env.locals X.stack H s E e s2) (cameBackBy (model X.prog X.w) X.A X.env (XQ X E)) s':=by
  rcases c with c|c|⟨h',a,cls,vs,rfl,rfl,hx,hE⟩
  ·let#[a,cls,H',B,a0,rfl,os,bare,un,ay,fl,i,hE]:=c;apply Aq (base:=B) (outer:=X.outer) (by rw[I.ok.frames,gT]) i7 (by rw[<- gT];exact fl.2) λh4 hd up=>?_;rw[<- gT] at hd;exact Rx I os bare un ay fl.1.2.2.1 i hE hd up
  ·let#[a,cls,H',B,rfl,os,bare,un,ay,hd,i,hE]:=c;exact _G i7 hd #[a,cls,H',B,Z,os,bare,un,ay,hd,i,hE]
  let ff:=PySem.W.funFrames_hide (as:=eB X.stack) I.stack (λenv he b hb=>wc.mpr #[env,he,hb]);have hk:(PySem.W.hideAll s.heap (eB X.stack)).StaysIn s.heap:=λb o q=>PySem.W.of_hideAll _ q;have ff1:Heap.FunFrames h' (PySem.W.hideAll s.heap (eB X.stack)) X.stack:=ff.of_keeps λb o hb _=>#[o,hx.keeps b o hb,Z];apply _p (s:={ s with heap:=h' }) (base:=PySem.W.hideAll s.heap (eB X.stack)) (outer:=X.outer) (h:=s.heap) (by rw[I.ok.frames,gT]) i7 hk (by rw[<- gT];exact ff) hx λh4 nt k4=>?_;rw[<- gT] at nt;have un:Un (eB X.stack) [] H H s.heap h':=Un.kept hx.keeps;have ay:dP X.prog X.w H h':=I.ay.kept hx.keeps
  have i:wD (PySem.W.hideAll s.heap (eB X.stack)) X.stack H s.heap h':=λb o q hb c=>by
   rcases c with c|⟨o0,z⟩
   ·let#[u,hu]:=wg.mp c;let#[o1,z]:=(I.ay b u hu).here;have:=hx.keeps b o1 z;rw[q] at this;cases this;exact PySem.W.hideAll_get _ z hb
   have:=hx.keeps b o0 z;rw[q] at this;cases this;exact PySem.W.hideAll_get _ z hb
  exact Rx (s':={ s with heap:=h' }) I Z I.bare un ay ff1 i hE nt k4
 exact gD fin (λ_ s2 q=>back s2 q) λ_ _ z=>z
end
section v
abbrev ij(P:Ad)(w:Af)(K:af)(mg:Str->Option Aa)(base:Heap)(N:ae)(qual:Str)(scope:Scope)(f:Addr)(cd:Aa)(A:Ag)(outer:List Env)(s:Ab)(H:Hp)(E:XK):Cx:=
 (dY (d8 P w) P w K mg base N qual scope f cd A outer s H E).eM (XQ (dY (d8 P w) P w K mg base N qual scope f cd A outer s H E) E)
section
variable{N:ae}{qual:Str}{scope:Scope}{f:Addr}{cd:Aa}{A:Ag}{outer:List Env}{s:Ab}{H:Hp}{E:XK}
def Hf:PassesOwn (model P w) (ij P w K mg base N qual scope f cd A outer s H E).A (ij P w K mg base N qual scope f cd A outer s H E).env (ij P w K mg base N qual scope f cd A outer s H E).xe:=He (X:=dY (d8 P w) P w K mg base N qual scope f cd A outer s H E) Z Z
def ph:oq (d8 P w) (ij P w K mg base N qual scope f cd A outer s H E) E:=λπ σ H1 s1 e s' I hc=>#[π,σ,H1,s1,I.bM,.inl hc]
def o6:Fq (ij P w K mg base N qual scope f cd A outer s H E) E:=λπ σ H1 s1 h' e cls vs I hx hE=>#[π,σ,H1,s1,I.bM,.inr (.inr #[h',e,cls,vs,Z,Z,hx,hE])]
def vo{e:Aa}{s':Ab}(h:XQ (dY (d8 P w) P w K mg base N qual scope f cd A outer s H E) E e s'):(dY (d8 P w) P w K mg base N qual scope f cd A outer s H E).xe e s':=by
 let#[π,σ,H1,s1,I,c]:=h;rcases c with c|c|⟨h',a,cls,vs,rfl,rfl,hx,hE⟩
 ·exact yg π σ H1 s1 e s' I c
 ·let#[a,cls,H',B,rfl,os,bare,un,ay,hd,i,hE]:=c;show wpAny _ _ (leaving _ _) _ _ _;unfold leaving;apply au (_G Z hd (xM (fr:=none) hd λh1 fl up=>?_));let#[a1,fb]:=xA.b (mh.less fl);exact To (s1:={ s' with heap:=h1 }) I Z os bare un ay i hd.2.2.1 up fb hE
 exact x_ π σ H1 s1 h' a cls vs I hx hE
end
def bc.VX{x qual:Str}{st:Stmt}{f:Addr}{fd:Ae}{N ps:ae}{k:Nat}{sp:Sp}(F:bc K x qual st f fd)(S:bA N ps (aM st))(len:∀vs H Q E,sp vs H Q E->vs.length=ps.length)
 (bY:∀(aC:Aa)(A:Ag)(outer:List Env)(s:Ab)(H:Hp)(vs:ag)(Q:VK)(E:XK),aI k (A.deeper (envOfC qual (aM st) s.heap.objs.size f aC))->sp vs H Q E->
   PassesOwn (model P w) (ij P w K mg base N qual (aM st) f aC A outer s H E).A (ij P w K mg base N qual (aM st) f aC A outer s H E).env (ij P w K mg base N qual (aM st) f aC A outer s H E).xe->
   oq (d8 P w) (ij P w K mg base N qual (aM st) f aC A outer s H E) E->Fq (ij P w K mg base N qual (aM st) f aC A outer s H E) E->
   ∃t,iy (ij P w K mg base N qual (aM st) f aC A outer s H E) (fg st) t/\t { nx:=λ_ H'=>Q .non H',rt:=Q } (start N vs) H):!ak (d8 P w) (k+1) f fd ps sp:=
 F.VW S len λaC A outer s H vs Q E hr iA=>by
  let#[t,h,q]:=bY aC A outer s H vs Q E hr iA Hf ph o6;exact#[t,λπ s1 σ H1 D I hw=>gD (h π s1 σ H1 D (I.eM _) hw) (λ_ _ q=>q.bM) λ_ _ z=>vo z,q]
def bc.BY{x qual:Str}{st:Stmt}{f:Addr}{fd:Ae}{N ps:ae}{k:Nat}{sp:Sp}(F:bc K x qual st f fd)(S:bA N ps (aM st))(bY:∀(aC:Aa)(A:Ag)(outer:List Env)(s:Ab)(H:Hp)(vs:ag)(Q:VK)(E:XK),aI k (A.deeper (envOfC qual (aM st) s.heap.objs.size f aC))->sp vs H Q E->
   PassesOwn (model P w) (ij P w K mg base N qual (aM st) f aC A outer s H E).A (ij P w K mg base N qual (aM st) f aC A outer s H E).env (ij P w K mg base N qual (aM st) f aC A outer s H E).xe->
   oq (d8 P w) (ij P w K mg base N qual (aM st) f aC A outer s H E) E->Fq (ij P w K mg base N qual (aM st) f aC A outer s H E) E->
   ∃t,iy (ij P w K mg base N qual (aM st) f aC A outer s H E) (fg st) t/\t { nx:=λ_ H'=>Q .non H',rt:=Q } (start N vs) H)(len:∀vs H Q E,sp vs H Q E->vs.length=ps.length:=by intro vs H Q E h;first|(cases h;subst_vars;rfl)|(let#[rfl,_]:=h;rfl)|(let#[_,rfl,_]:=h;rfl)|(let#[_,_,rfl,_]:=h;rfl)|(let#[_,_,_,rfl,_]:=h;rfl)|(let#[_,_,_,_,rfl,_]:=h;rfl)|(let#[_,_,_,_,_,_,_,_,_,rfl,_]:=h;rfl)):!ak (d8 P w) (k+1) f fd ps sp:=F.VX S len bY
end
open PySem.Calls PySem.W
section
variable{M:Model}{A:Ag}{E:Aa->Ab->Prop}{s:Ab}{base:Heap}{env:Env}{outer:List Env}{L e:Addr}{cls a0:Aa}{Q:Unit->Ab->Prop}
def p5(h base:Heap)(e:Addr)(cls a0:Aa)(dd:Option Addr):Prop:=∃oe vs T oT ts,h.get? e\oe/\(oe.cls=cls/\vs[0]? = some a0)/\oe.data=Data.fields vs/\vs[1]? = some (Value.ref T)/\base.get? T=none/\T≠e/\h.get? T\oT/\oT.data=Data.fields ts/\ts[3]? = some Value.none/\oe.dict=dd
def qW(base:Heap)(l:List Env)(e:Addr)(cls a0:Aa)(dd:Option Addr)(h:Heap):Prop:=base.StaysIn h/\base.get? e=none/\h.FunFrames base l/\p5 h base e cls a0 dd
def qq{oe:Obj}{vs:Array Aa}{head:Aa}{jz:Bool}(i7:A.frames\(env::outer))(hl:s.heap.FunFrames base (env::outer))(hf:env.frame\L)(he:s.heap.get? e\oe)(AG:base.StaysIn s.heap)(Mr:base.get? e=none)(hd:oe.data=Data.fields vs)(hsz:1<vs.size)(h0:vs[0]? = some a0)
 (h:∀h',base.StaysIn h'->h'.FunFrames base (env::outer)->p5 h' base e oe.cls a0 oe.dict->s.heap.UpToSlots h'->Q () { s with heap:=h' }):
  wpAny M A (do
   let a <- PySem.frameOf env
   let pl <- entryPlaceOf L jz
   let b <- EntryCells.newEntry head a Value.none (rawInt L) Value.none pl
   setField (Value.ref e) 1 b) (λ_ s'=>wpAny M A (setFlight (Value.ref e) none) Q E s') E s:=by
 have CH:e∉List.filterMap (λx=>x.frame) (env::outer):=λhm=>by
  let#[_,o,ho,QL]:=Heap.FunFrames.mem hl hm;rw[he] at ho;cases ho;exact QL vs hd
 apply au (wpAny_frameOf_fun i7 hl hf λba fS=>au (wpAny_entryPlaceOf λpl fX=>?_));unfold EntryCells.newEntry newFields;have Cm:ba.objs.size=s.heap.objs.size:=fS.1;let vJ:=(fS.right.left e CH).trans he;have dB:∀b o,s.heap.get? b\o->b≠ba.objs.size:=λb o q=>dD (by rw[Cm];exact bW q)
 have Mx:base.get? ba.objs.size=none:=by
  cases q:base.get? ba.objs.size with
  |none=>rfl
  |some o=>exact absurd Z (dB _ o (AG _ o q))
 have eQ:∀b o,base.get? b\o->ba.get? b\o:=λb o q=>(fS.right.left b (λhm=>by
  have:=(Heap.FunFrames.mem hl hm).1;rw[q] at this;cases this)).trans (AG b o q)
 obtain⟨hG,wW,Mg⟩:∃hG:Array Aa,([head,Value.ref L,Value.none,rawInt ↑L,Value.none]++if pl.isEmpty=true then List.replicate 6 Value.none else pl).toArray=hG/\3<hG.size:=#[_,Z,by simp]
 have Ck:hG.size<=sizeLine+2:=by
  rw[<- wW];rcases fX with rfl|⟨a,b,c,d,c9,oz,_,rfl⟩
  ·show 11<=sizeLine+2;decide
  show 11<=sizeLine+2;decide
 apply au (vV ?_ (by rw[wW];exact Ck));rw[wW];have kJ:(ba.push { cls:=Value.type "traceback",data:=Data.fields hG }).get? e\oe:=b_ _ vJ;have vB:(ba.push { cls:=Value.type "traceback",data:=Data.fields hG }).get? ba.objs.size=some { cls:=Value.type "traceback",data:=Data.fields hG }:=eL ba Z;have i_:ba.objs.size≠e:=(dB e oe he).symm;apply wpAny_setField kJ hd hsz ?_;let i8:=Obj.data_mapFields hd λx=>x.setIfInBounds 1 (Value.ref ba.objs.size);let pM:=Du (Obj.mapFields λx=>x.setIfInBounds 1 (Value.ref ba.objs.size)) kJ (Obj.isFreed_of_fields i8);let pK:=(je (ba.push { cls:=Value.type "traceback",data:=Data.fields hG }) (Obj.mapFields λx=>x.setIfInBounds 1 (Value.ref ba.objs.size)) i_.symm).trans vB;unfold setFlight;apply au (wpAny_field (x:=.ref ba.objs.size) pM i8 (by simp[hsz]) ?_);rw[aF Z2];apply wpAny_setField pK Z Mg ?_;let AJ:=Obj.data_mapFields (o:={ cls:=Value.type "traceback",data:=Data.fields hG }) Z λx=>x.setIfInBounds 3 Value.none;let IH:=Du (Obj.mapFields λx=>x.setIfInBounds 3 Value.none) pK (Obj.isFreed_of_fields AJ);let Jh:=(je ((ba.push { cls:=Value.type "traceback",data:=Data.fields hG }).update e (Obj.mapFields λx=>x.setIfInBounds 1 (Value.ref ba.objs.size))) (Obj.mapFields λx=>x.setIfInBounds 3 Value.none) i_).trans pM
 have u_:∀b o,b≠e->b≠ba.objs.size->ba.get? b\o->(((ba.push { cls:=Value.type "traceback",data:=Data.fields hG }).update e (Obj.mapFields λx=>x.setIfInBounds 1 (Value.ref ba.objs.size))).update ba.objs.size (Obj.mapFields λx=>x.setIfInBounds 3 Value.none)).get? b\o:=λb o n1 n2 q=>
  (je _ _ n2.symm).trans ((je _ _ n1.symm).trans (b_ _ q))
 have Ji:((Obj.mapFields λx=>x.setIfInBounds 1 (Value.ref ba.objs.size)) oe).cls=oe.cls/\((Obj.mapFields λx=>x.setIfInBounds 1 (Value.ref ba.objs.size)) oe).dict=oe.dict:=by
  let#[c,dt,da,sl]:=oe;have:da=Data.fields vs:=hd;subst this;exact#[Z,Z]
 have ups:∀b o,s.heap.get? b\o->(∀vs,o.data≠Data.fields vs)->∃sl,(((ba.push { cls:=Value.type "traceback",data:=Data.fields hG }).update e (Obj.mapFields λx=>x.setIfInBounds 1 (Value.ref ba.objs.size))).update ba.objs.size (Obj.mapFields λx=>x.setIfInBounds 3 Value.none)).get? b=some { cls:=o.cls,dict:=o.dict,data:=o.data,slots:=sl }:=λb o q nf=>by
  let#[sl,q1]:=fS.right.right b o q;apply#[sl,u_ b _ (λz=>?_) (dB b o q) q1];subst z;rw[he] at q;cases q;exact nf vs hd
 apply h _ (λb o q=>u_ b o (λz=>?_) (λz=>?_) (eQ b o q)) (Heap.FunFrames.of_keeps (λb o q nf=>?_) hl) #[_,_,ba.objs.size,_,_,Jh,#[Ji.1,?_],i8,?_,Mx,i_,IH,AJ,?_,Ji.2] ups
 ·subst z;rw[Mr] at q;cases q
 ·subst z;rw[Mx] at q;cases q
 ·let#[sl,q1]:=ups b o q nf;exact#[_,q1,Z]
 ·rw[Array.getElem?_setIfInBounds];simpa using h0
 ·simp[hsz]
 simp[Mg]
def qW.obj{dd:Option Addr}{l:List Env}{h:Heap}(f:qW base l e cls a0 dd h):∃oe vs,h.get? e\oe/\oe.cls=cls/\oe.data=Data.fields vs/\oe.dict=dd:=by
 let#[f1,f2,f3,oe,vs,T,oT,ts,h1,h2,h3,h4,h5,h6,h7,h8,h9,h10]:=f;exact#[oe,vs,h1,h2.1,h3,h10]
def qW.less{dd:Option Addr}{h:Heap}(f:qW base (env::outer) e cls a0 dd h):qW base outer e cls a0 dd h:=#[f.1,f.2.1,f.2.2.1.2.2,f.2.2.2]
def _N{dd:Option Addr}(i7:A.frames\(env::outer))(hf:env.frame\L)(vI:qW base (env::outer) e cls a0 dd s.heap)
 (hQ:∀h',qW base (env::outer) e cls a0 dd h'->s.heap.UpToSlots h'->Q () { s with heap:=h' }):wpAny M A (noteFrame (Value.ref e) env) (λ_ fR=>wpAny M A (setFlight (Value.ref e) none) Q E fR) E s:=by
 let#[f1,f2,f3,oe,vs,T,oT,ts,he,#[hc,h0],hd,h1,qD,i_,hT,i9,h3,qF]:=vI;unfold noteFrame;rw[hf];dsimp only;apply au (wpAny_field he hd h1 ?_);rw[aF Z2];apply au (wpAny_field hT i9 h3 ?_);rw[aA (by simp[rawInt])];apply au (wpAny_setField hT i9 (A9.mp h3).1 ?_);have other:∀b,b≠T->(s.heap.update T (Obj.mapFields λx=>x.setIfInBounds 3 Value.none)).get? b=s.heap.get? b:=λb hb=>je _ _ hb.symm
 have hY:∀b o,s.heap.get? b\o->(∀vs,o.data≠Data.fields vs)->b≠T:=λb o q nf z=>by
  subst z;rw[hT] at q;cases q;exact nf ts i9
 apply qq (base:=base) (s:={ s with heap:=s.heap.update T (Obj.mapFields λx=>x.setIfInBounds 3 Value.none) }) i7 (Heap.FunFrames.of_keeps (λb o q nf=>#[o,(other b (hY b o q nf)).trans q,Z]) f3) hf ((other e i_.symm).trans he) (λb o q=>(other b (λz=>?_)).trans (f1 b o q)) f2 hd (A9.mp h1).1 h0 λh' g1 g2 g3 g4=>?_
 ·subst z;rw[qD] at q;cases q
 apply hQ h' #[g1,f2,g2,?_] λb o q nf=>g4 b o ((other b (hY b o q nf)).trans q) nf;rw[hc,qF] at g3;exact g3
def gm_{dd:Option Addr}(i7:A.frames\(env::outer))(hf:env.frame\L)(vI:qW base (env::outer) e cls a0 dd s.heap)
 (hQ:∀h',qW base outer e cls a0 dd h'->s.heap.UpToSlots h'->Q () { s with heap:=h' }):wpAny M A (leaving env (Value.ref e)) Q E s:=by
 unfold leaving;exact au (_N i7 hf vI λh' f u=>hQ h' f.less u)
def eI_{dd:Option Addr}{l:List Env}(vI:qW base l e cls a0 dd s.heap)(hQ:∀h',qW base l e cls a0 dd h'->s.heap.UpToSlots h'->Q () { s with heap:=h' }):wpAny M A (setFlight (Value.ref e) none) Q E s:=by
 let#[f1,f2,f3,oe,vs,T,oT,ts,he,#[hc,h0],hd,h1,qD,i_,hT,i9,h3,qF]:=vI;unfold setFlight;apply au (wpAny_field he hd h1 ?_);rw[aF Z2];apply wpAny_setField hT i9 (A9.mp h3).1 ?_;have other:∀b,b≠T->(s.heap.update T (Obj.mapFields λx=>x.setIfInBounds 3 Value.none)).get? b=s.heap.get? b:=λb hb=>je _ _ hb.symm
 have hY:∀b o,s.heap.get? b\o->(∀vs,o.data≠Data.fields vs)->b≠T:=λb o q nf z=>by
  subst z;rw[hT] at q;cases q;exact nf ts i9
 let AK:=Obj.data_mapFields i9 λx=>x.setIfInBounds 3 Value.none;let Rt:=Du (Obj.mapFields λx=>x.setIfInBounds 3 Value.none) hT (Obj.isFreed_of_fields AK);apply hQ _ #[λb o q=>(other b (λz=>?_)).trans (f1 b o q),f2,Heap.FunFrames.of_keeps (λb o q nf=>#[o,(other b (hY b o q nf)).trans q,Z]) f3,oe,vs,T,_,_,(other e i_.symm).trans he,#[hc,h0],hd,h1,qD,i_,Rt,AK,?_,qF] λb o q nf=>#[o.slots,(other b (hY b o q nf)).trans q]
 ·subst z;rw[qD] at q;cases q
 have:=(A9.mp h3).1;simp[this]
end
section
variable{prog:Ad}{w:Af}{A:Ag}{E:Aa->Ab->Prop}{h:Heap}{g:Array GenState}{d:Drawn}{t:Nat}{os:OsState}{nm q:Str}{C N f:Addr}{bs bm KM:aj}{hdct:Bool}{sn:ae}{sub:aj}{ab:Bool}{col:Option Bool}{dd:Option Addr}{k0 k1 k2 k3 k5:Option Aa}{B newId vv:String}{K:af}{rest:aj}
end
open Builtin Builtin.ObjectAttr
def C_(C CE:Addr):aj:=[.ref C,.ref CE,.type "ValueError",.type "Exception",.type "BaseException",.type "object"]
section
variable{prog:Ad}{w:Af}{A:Ag}{E:Aa->Ab->Prop}{s:Ab}{K:af}{x C CE:Addr}{ox:Obj}{od:Option Obj}{name:Str}{tk:Tok}{v:Aa}{cd:ClassData}
end
end L2
namespace L2
open PySem PySem.Spec PySem.Calls PyProof.Rows PySem.W
section
variable{M:Model}{A:Ag}{E:Aa->Ab->Prop}{s:Ab}{env:Env}{nm q:Str}{C N:Addr}{bs bm:aj}{hdct:Bool}{sn:ae}{sub:aj}{ab:Bool}{col:Option Bool}{dd:Option Addr}{k0 k1 k2 k3 k5:Option Aa}{newId:String}
end
def Dc(K:af)(C:Addr)(KM:aj)(newId:String):Bool:=
 match K.lookup C with
 |some ⟨.type "type",_,.cls cd,sl⟩=>
  match cd.mro,sl.toList with
  |.ref C'::bm,[_,_,_,_,some (.builtin n),_]=>C' == C&&n == newId&&!cd.hasDel&&tailIn K KM bm&&nsOkIn K cd.ns
  |_,_=>false
 |_=>false
def TL(K:af)(C CE:Addr):Bool:=
 match clsIn K C with
 |some cd=>cd.mro == C_ C CE&&cd.hasDict
 |none=>false
structure ExO(K:af)(C CE:Addr):Prop where
 kx:lJ K C
 ex:Dc K C bmV "ValueError.__new__"=true
 es:findIn K (.ref C) "__setattr__"\some (.builtin "object.__setattr__")
 cl:TL K C CE=true
structure ExF(K:af)(C:Addr)(f:Str):Prop where
 tk:takerIn K C f\none
 fd:findIn K (.ref C) f\none
structure ExB(K:af)(CE:Addr):Prop where
 sp:specialIn K (.ref CE) "__getattribute__"\some (.builtin "type.__getattribute__")
 rd:readsIn K CE (.type "type")=true
 fc:findCls K (.ref CE) (.type "type") "__init__"\.val (.builtin "ValueError.__init__")
def AS(e C:Addr)(dd:Option Addr):HO:=.ext λh=>∃o vs,h.get? e\o/\o.cls=.ref C/\o.dict=dd/\o.data=.fields vs
section
variable{P:Ad}{w:Af}{H:Hp}{h:Heap}{e C a0 d:Addr}{dd:Option Addr}{fs:List (Str × V)}
def lP_{o:Obj}{vs:Array Aa}(h1:h.get? e\o)(h2:o.cls=.ref C)(h3:o.dict=dd)(h4:o.data=.fields vs):eX P w H h e (AS e C dd):=#[#[o,vs,h1,h2,h3,h4],#[o,h1],λ_ _ ⟨u,vs,q,r⟩ k=>#[u,vs,k u q,r]]
end
section
variable{X:Cx}{C CE:Addr}{x f:Str}{p apos pos pos':Pos}{o e value:Expr}{es:List Expr}{ta tv:TE}{t:TA}
end
def Bd(P:Ad)(w:Af):jm:=λl H s E e s'=>
 ∃a cls H' B a0 dd,e=Value.ref a/\s'.os=s.os/\AllBare s'.gens/\Un (eB l) [] H H' s.heap s'.heap/\dP P w H' s'.heap/\qW B l a cls a0 dd s'.heap/\wD B l H' s.heap s'.heap/\E cls dd H'
section
variable{X:Cx}{π:List (Addr × Obj)}{σ:St}{H H':Hp}{s s1:Ab}{B h:Heap}{a:Addr}{cls a0:Aa}{dd:Option Addr}{E:XK}
def g5_(I:!In H s)(hex:X.ex=[])(os:s1.os=s.os)(bare:AllBare s1.gens)(un:Un (eB X.stack) [] H H' s.heap h)(ay:dP X.prog X.w H' h)(i:wD B X.stack H' s.heap h)(ff:h.FunFrames B X.stack)(up:h.UpToSlots s1.heap)
 (fl:qW B X.outer a cls a0 dd s1.heap)(hE:E cls dd H'):Bd X.prog X.w X.outer X.iZ X.cw E (.ref a) s1:=by
 let Oh:=Kj un ff i fl.1 up;let Cr:=KW ay (NH I un) i fl.1;have I1:!In H' s1:=I.jb os Oh Cr bare (λb z=>absurd z Z2);let bs:=I1.base;rw[hex] at bs;apply#[a,cls,H',B,a0,dd,Z,I1.os,I1.bare,bs,I1.ay,fl,λb o e hb c=>?_,hE]
 have nL:b≠X.env.locals:=by
  rcases c with z|⟨o0,z⟩
  ·intro q;rw[q,I1.free] at z;cases z
  exact dD (gO (bW z) I.ok.above)
 apply Km ay un i fl.1 b o e (λhm=>?_) (c.imp id λ⟨o0,z⟩=>I.base.there b o0 z (by rw[hex];simp));rcases cc.mp (I.hU b hm) with z|z
 ·exact nL z
 exact hb z
end
section
variable{P:Ad}{w:Af}{K:af}{mg:Str->Option Aa}{base:Heap}{N:ae}{qual:Str}{scope:Scope}{f:Addr}{cd:Aa}{A:Ag}{outer:List Env}{s:Ab}{H:Hp}{E:XK}
end
section
variable{X:Cx}{x:Str}{C f:Addr}{fd:Ae}{ps:ae}{sp:Sp}{k:Nat}{np bF pos:Pos}{e:Expr}{es:List Expr}{t:TA}{E:XK}
end
section
variable{X:Cx}{i:Nat}{x n:Str}{D C:Addr}{np qC pos:Pos}{kW:Stmt}{gB body:List Stmt}{tb:XK->TS}{ts:TS}{rest:List ExceptHandler}
end
section
variable{P:Ad}{w:Af}{K:af}{mg:Str->Option Aa}{base:Heap}{N:ae}{qual:Str}{scope:Scope}{f:Addr}{cd:Aa}{A:Ag}{outer:List Env}{s:Ab}{H:Hp}{E:XK}
end
section
variable{X:Cx}{i:Nat}{x x2 n:Str}{D C D2 C2:Addr}{np qC V1 XA pos:Pos}{kW c₀:Stmt}{gB OE body:List Stmt}{tb:XK->TS}{ts ts2:TS}
end
section
variable{X:Cx}
inductive Dw(K:af)(xs:ag)(H:Hp)(Q:VK):Prop
 |mk:∀a C dd c cv b,xs=[.ref a,c]->Ke c\cv->H a\AS a C dd->lJ K C->PySem.W.kitOne K (.ref C) cv\b->Q (.bl b) H->Dw K xs H Q
def KS:gF X (.builtin "isinstance") (Dw X.K):=by
 intro π s σ H xs us Q I r h;let#[a,C,dd,c,cv,b,rfl,hc,ha,k,e,q]:=h;let#[u,w',rfl,ru,hX]:=vals2 r;cases (show u=Value.ref a from ru);cases iz_ hX hc;let#[o,vs,h1,h2,_]:=(I.ay a _ ha).1;exact rW (jv_ k) I.fG ⟨o,h1,h2⟩ e nofun λtk=>#[.bl b,H,I.tok tk,Z,q]
end
section
variable{X:Cx}{i:Nat}{x n:Str}{D:Addr}{ok:Addr->Prop}{np qC pos:Pos}{kW:Stmt}{gB body:List Stmt}{tb:XK->TS}{ts:TS}
end
end L2
namespace L2
open PySem PySem.Spec PyProof.Rows
section
variable{X:Cx}
end
section
variable{X:Cx}{k:Nat}{ps:ae}{x:Str}{p pos:Pos}{e:Expr}{es:List Expr}{tn:TE}{t:TA}
end
open PySem.W
structure Kp(ps cQ:ae)(scope:Scope):Prop where
 nd:(ps++cQ).Nodup
 kind:scope.kind=.function
 co:scope.isCoroutine=false
 gen:scope.isGenerator=false
 par:∀p∈ps,scope.names.lookup p\.local
 fv:∀x∈cQ,scope.names.lookup x\.free
 all:∀x,scope.names.lookup x\.free->x∈cQ
 vg:∀x∈scope.names,x.2≠.cell
def E2(CX:jm)(P:Ad)(w:Af)(K:af)(mg:Str->Option Aa)(base:Heap)(N:ae)(qual:Str)(scope:Scope)(f:Addr)(cd:Aa)(cl:List (Str × Addr))(A:Ag)(outer:List Env)(s:Ab)(H:Hp)(E:XK):Cx where
 prog:=P
 w:=w
 K:=K
 mg:=mg
 base:=base
 A:=A.deeper (envX qual scope s.heap.objs.size f cd cl)
 N:=N
 cw:=s
 iZ:=H
 env:=envX qual scope s.heap.objs.size f cd cl
 outer:=outer
 stack:=envX qual scope s.heap.objs.size f cd cl::outer
 ex:=[]
 calm:=true
 fn:=λ_=>false
 pn:=[]
 xe:=λe s'=>wpAny (model P w) (A.deeper (envX qual scope s.heap.objs.size f cd cl)) (leaving (envX qual scope s.heap.objs.size f cd cl) e) (λ_ rC=>CX outer H s E e rC) (λe' rC=>CX outer H s E e' rC) s'
def Zp{x:Str}{u:Aa}:∀{l:List (Str × Aa)},(l.map (·.1)).Nodup->(x,u)∈l->l.lookup x\u
 |(y,v)::l,nd,h=>by
  let n:=j5.mp nd;rcases cc.mp h with e|h
  ·cases e;simp[List.lookup]
  have ne:x≠y:=λz=>n.1 (by rw[<- z];exact bo.mpr #[_,h,Z]);have:(x == y)=false:=⇑ne
  rw[wb,this];exact Zp n.2 h
def Xw:∀(ps:ae)(us:aj),((ps.zip us).map (·.1)).Sublist ps
 |[],_=>by simp
 |_::_,[]=>by simp
 |p::ps,u::us=>by
  simp only[List.zip_cons_cons,fK];exact (Xw ps us).cons₂ p
def dn_{ps:ae}{us:aj}{i:Nat}{x:Str}{u:Aa}(nd:ps.Nodup)(h1:ps[i]? = some x)(h2:us[i]? = some u):(ps.zip us).reverse.lookup x\u:=by
 apply Zp ?_ (List.mem_reverse.mpr (dz (i:=i) ?_))
 ·rw[List.map_reverse];apply (List.reverse_perm _).nodup_iff.mpr (nd.sublist ?_);exact Xw ps us
 rw[List.getElem?_zip_eq_some];exact#[h1,h2]
structure NK(cQ:ae)(cl:List (Str × Addr))(gs:ag)(h:Heap):Prop where
 inj:∀x y c,cl.lookup x\c->cl.lookup y\c->x=y
 has:∀x∈cQ,∃c,cl.lookup x\c
 all:∀x c,cl.lookup x\c->∃v,h.IsCell c v
 is:∀(i:Nat) x v,cQ[i]? = some x->gs[i]? = some v->∃c u,cl.lookup x\c/\RelV v u/\h.IsCell c (some u)
def IsCell.keeps{h h':Heap}{c:Addr}{v:Option Aa}(x:h.IsCell c v)(k:∀o,h.get? c\o->h'.get? c\o):h'.IsCell c v:=let #[o,e,d]:=x;#[o,k o e,d]
def kg_{CX:jm}{P:Ad}{w:Af}{K:af}{mg:Str->Option Aa}{base:Heap}{ps cQ:ae}{qual:Str}{scope:Scope}{f:Addr}{cd:Aa}{cl:List (Str × Addr)}{A:Ag}{outer:List Env}{s:Ab}{H:Hp}{E:XK}{us:aj}{vs gs:ag}{h1:Heap}{tk:Nat}
 (S:Kp ps cQ scope)(hd:A.handled=none)(e0:i3 P w K mg base A outer s H)(hl:vs.length=ps.length)(hg:gs.length=cQ.length)(r:Vals vs us)(C:NK cQ cl gs s.heap)(fc:∀x c,cl.lookup x\c->H c=none)
 (ns:h1.Ns s.heap.objs.size λx=>(ps.zip us).reverse.lookup x)(k:∀b o,s.heap.get? b\o->h1.get? b\o):
  Inv (E2 CX P w K mg base (ps++cQ) qual scope f cd cl A outer s H E) [] (vs.map some++gs.map some) H { s with heap:=h1,toks:=tk }:=by
 have yo:∀b:Addr,b∉(E2 CX P w K mg base (ps++cQ) qual scope f cd cl A outer s H E).ex:=λb z=>absurd (show b∈([]:ai) from z) Z2
 apply#[#[e0.mod,S.kind,Z,Z,bD _,C.inj,λy hy=>?_,λy c h=>(by cases h),λ_=>hd,Around.frames_deeper e0.frames,.inr #[Z,Z],λb z=>absurd z (yo b),e0.bs,e0.r_,λb _ _=>yo b,λb z=>absurd z (yo b),e0.fI,e0.w4],
  rfl,e0.bare,Un.kept k,#[_,ns,λi y v pR h2 h3=>?_],λy c h=>?_,e0.ay.fresh (bD _),fc,λp hp=>absurd (show p∈([]:List (Addr × Obj)) from hp) Z2,e0.ay.kept k,?_]
 ·have hy:scope.names.lookup y\.cell∨scope.names.lookup y\.free:=hy;rcases hy with hy|hy
  ·exact absurd Z (S.vg _ (qT hy))
  exact C.has y (S.all y hy)
 ·have pR:(ps++cQ)[i]? = some y:=pR;by_cases hi:i<ps.length
  ·rw[FK hi] at pR;rw[FK (by simpa [hl] using hi),d0] at h2;let#[v',hv,e]:=Option.map_eq_some_iff.mp h2;cases e;let#[u,hu,rv]:=r.get hv;apply#[u,rv,.inl #[S.par y (dz pR),?_]];have LP:ps.Nodup:=(zC.mp S.nd).1;show (ps.zip us).reverse.lookup y\u;exact dn_ LP pR hu
  rw[D9 Z1] at pR;rw[D9 (by simp[hl];omega),d0,aq,hl] at h2;let#[v',hv,e]:=Option.map_eq_some_iff.mp h2;cases e;let#[c,u,e1,rv,ce]:=C.is _ _ _ pR hv;exact#[u,rv,.inr #[.inr (S.fv y (dz pR)),c,e1,IsCell.keeps ce λo e=>k _ _ e]]
 ·let#[v,ce]:=C.all y c h;exact#[v,IsCell.keeps ce λo e=>k _ _ e]
 show _=(ps++cQ).length;rw[dE,dE,aq,aq,hl,hg]
def kI_{CX:jm}{P:Ad}{w:Af}{K:af}{mg:Str->Option Aa}{base:Heap}{k:Nat}{ps cQ:ae}{qual:Str}{params:Arguments}{body:PySem.Expr}{scope:Scope}{f c':Addr}{pm kP:Aa}{cl:List (Str × Addr)}{A:Ag}{outer:List Env}{s:Ab}{H:Hp}{Q:VK}{E:XK}{us:aj}{vs gs:ag}{t:TE}
 (S:Kp ps cQ scope)(hr:aI (k+1) A)(e0:i3 P w K mg base A outer s H)(hf:s.heap.get? f\kla_obj "<lambda>" qual params body scope cl pm c' kP)(fY:s.heap.CodeRec (.ref c') qual)
 (hb:bindArgs (kla_fn "<lambda>" qual params body scope cl pm (.ref c') kP) #[us,[]]=pure (ps.zip us))(hl:vs.length=ps.length)(hg:gs.length=cQ.length)(r:Vals vs us)(C:NK cQ cl gs s.heap)(fc:∀x c,cl.lookup x\c->H c=none)
 (ht:aI k (A.deeper (envX qual scope s.heap.objs.size f (.ref c') cl))->PE (E2 CX P w K mg base (ps++cQ) qual scope f (.ref c') cl A outer s H E) body t)(hq:t (vs.map some++gs.map some) H Q):
  codeAny (model P w) A (.call (.ref f) #[us,[]]) (CR CX outer P w H s Q E) s:=by
 have lim:s.heap.NoLimit:=e0.mod.nolimit.keeps λb o e=>(e0.bs b o e).1;apply kla_callFunE hr.depth hf Z S.co S.gen Z fY ?_;rw[hb];apply bu (wpAny_newFunctionEnv S.vg (λx hx=>?_) (λh1 ns sb=>?_) S.kind)
 ·exact S.par x.1 (List.of_mem_zip hx).1
 have k1:∀b o,s.heap.get? b\o->h1.get? b\o:=λb o e=>sb.extBut b o (dD (bW e)) (b_ _ e);apply#[lim.keeps k1,?_];show codeAny _ _ (.expr body (envX qual scope s.heap.objs.size f (.ref c') cl)) _ _;let I:=kg_ (CX:=CX) (qual:=qual) (f:=f) (cd:=.ref c') (E:=E) (tk:=s.toks+(ps.zip us).length) S hr.hd e0 hl hg r C fc ns k1;apply kla_codeExpr (gD (ht (hr.deeper _) [] _ _ H _ I hq) (λv s' hs=>?_) λe s' hs=>hs);let#[x,H',J,rv,q]:=hs;exact#[x,H',J.os,J.bare,J.base,J.ay,rv,q]
def kG(f:Addr)(qual:Str)(params:Arguments)(body:PySem.Expr)(scope:Scope)(cl:List (Str × Addr))(c':Addr):HO:=.ext λh=>∃pm kP,h.get? f\kla_obj "<lambda>" qual params body scope cl pm c' kP
def Dx(c':Addr)(qual:Str):HO:=.ext λh=>∃o vs t,h.get? c'\o/\o.data=.fields vs/\vs[1]? = some (.str qual t)
inductive zS(P:Addr)(qual:Str)(params:Arguments)(body:PySem.Expr)(scope:Scope)(pos:Pos)(cl:List (Str × Addr))(H:Hp)(Q:VK):Prop
 |mk:∀ps,H P\.tbl ps->TriplesOk ps.toList->((codeAmong pos ps.toList=none/\∀c' f,H c'=none->H f=none->c'≠f->Q (.ref f) (upd (upd (upd H P (.tbl (ps++(List.toArray [rawInt pos.line,rawInt pos.col,.ref c'])))) c' (Dx c' qual)) f (kG f qual params body scope cl c')))∨∃c',codeAmong pos ps.toList\.ref c'/\∀f,H f=none->Q (.ref f) (upd H f (kG f qual params body scope cl c')))->zS P qual params body scope pos cl H Q
def Gr(P:Addr)(qual:Str)(params:Arguments)(body:PySem.Expr)(scope:Scope)(pos:Pos)(cl:List (Str × Addr)):TE:=λ_ H Q=>zS P qual params body scope pos cl H Q
def WT{X:Cx}{params:Arguments}{body:PySem.Expr}{scope:Scope}{pos:Pos}{cl:List (Str × Addr)}{c P:Addr}(Re:defaultsOf params X.env=([],[]))(yO:closureFor scope X.env=pure cl)(AL:X.env.code=.ref c)(C:CodeHd X.base c P)(vN:X.base.BuiltinsAt X.mg P):
  PE X (.Lambda params body scope pos) (Gr P (X.env.qual++"<lambda>") params body scope pos cl):=by
 intro π s σ H Q I h;let#[ps,hP,ht,h]:=h;have X9:s.heap.get? P\tabObj ps:=I.ay P _ hP
 have XT:H mainGlobals=none:=by
  let#[o,_,_,e,_]:=I.mod.glob;exact (I.bs _ _ e).2
 apply kla_eval Re ?_;rcases h with⟨hn,q⟩|⟨c',hf,q⟩
 ·apply kla_makeFunction yO I.ok.glob (I.mod.glob.keeps I.bk) AL (C.keeps I.bk) X9 ht hn (λz=>by rw[z,hP] at XT;cases XT) (vN.keeps I.bk) λc' kP h' tk hx Q7 dB QE wW=>?_;have fz:s.heap.objs.size<=h'.objs.size:=ma Q7 (Nat.le_of_lt dB);have nc:H c'=none:=I.ay.fresh Q7;have nf:H h'.objs.size=none:=I.ay.fresh fz;have cf:c'≠h'.objs.size:=dD dB;have Pc:P≠c':=bB hP nc;have Pf:P≠h'.objs.size:=bB hP nf
  have old:∀{b u},H b\u->b≠P->upd (upd (upd H P (.tbl (ps++(List.toArray [rawInt pos.line,rawInt pos.col,.ref c'])))) c' (Dx c' (X.env.qual++"<lambda>"))) h'.objs.size (kG h'.objs.size (X.env.qual++"<lambda>") params body scope cl c') b\u:=λ{b u} e n=>by
   rw[aD (bB e nf),aD (bB e nc),aD n];exact e
  have vb:∀{b u},H b\u->(∀ps,u≠.tbl ps)->b≠P:=λ{b u} e n z=>by
   rw[z,hP] at e;cases e;exact n _ Z
  have kp:∀b o,b≠P->s.heap.get? b\o->(h'.push (kla_obj "<lambda>" (X.env.qual++"<lambda>") params body scope cl ((X.mg "__name__").getD .none) c' kP)).get? b\o:=λb o n e=>b_ _ (hx b o n e);apply#[.ref h'.objs.size,_,I.un (t':=tk) #[λb o e n _ _=>kp b o (λz=>by rw[z,hP] at n;cases n) e,λb o e n _ _=>#[o.slots,kp b o (λz=>by rw[z,hP] at n;cases n) e],λb o e n _=>?_,λb o e _=>?_,λb xs e=>old e (vb e Z2),λb o u e=>old e (vb e Z2),λb qs e=>?_] (λb u e=>?_),Z,q c' h'.objs.size nc nf cf]
  ·let lt:=bW e;rw[aD (dD (gO lt fz)),aD (dD (gO lt Q7)),aD (λz=>by rw[z,hP] at n;cases n)];exact n
  ·by_cases z:b=P
   ·subst z;exact#[_,b_ _ wW]
   exact#[o,kp b o z e]
  ·by_cases z:b=P
   ·subst z;rw[hP] at e;cases e;exact#[_,by rw[aD Pf,aD Pc,aE]]
   exact#[#[],by rw[Array.append_empty];exact old e z]
  by_cases z1:b=h'.objs.size
  ·subst z1;rw[aE] at e;cases e;exact#[#[_,_,eL _ Z],#[_,eL _ Z],λh1 h2 ⟨pm,cv,e1⟩ k=>#[pm,cv,k _ e1]]
  rw[aD z1] at e;by_cases z2:b=c'
  ·subst z2;rw[aE] at e;cases e;let#[c2,oc,vs,t,ec,IF,hd,hv]:=QE;cases ec;exact#[#[oc,vs,t,b_ _ IF,hd,hv],#[_,b_ _ IF],λh1 h2 ⟨o,vs,t,e1,r⟩ k=>#[o,vs,t,k _ e1,r]]
  rw[aD z2] at e;by_cases z3:b=P
  ·subst z3;rw[aE] at e;cases e;exact b_ _ wW
  rw[aD z3] at e;apply (I.ay b u e).dJ (λd v hd e1=>kp d v ?_ e1) (λd e1=>old e1 (vb e1 Z2)) λd xs e1=>old e1 (vb e1 Z2);rcases hd with rfl|hd
  ·exact z3
  exact vb hd Z2
 apply kla_makeFunctionHit yO I.ok.glob (I.mod.glob.keeps I.bk) AL (C.keeps I.bk) X9 ht hf (vN.keeps I.bk) λkP h' tk hk hsz=>?_;have nf:H h'.objs.size=none:=I.ay.fresh hsz;apply#[.ref h'.objs.size,_,I.laid (t':=tk) (λb o e=>b_ _ (hk b o e)) hsz ?_,Z,q _ nf];exact#[#[_,_,eL _ Z],#[_,eL _ Z],λh1 h2 ⟨pm,cv,e1⟩ k=>#[pm,cv,k _ e1]]
def yf{P:Ad}{w:Af}{K:af}{mg:Str->Option Aa}{base:Heap}{N:ae}{qual:Str}{scope:Scope}{f:Addr}{cd:Aa}{cl:List (Str × Addr)}{A:Ag}{outer:List Env}{s:Ab}{H:Hp}{E:XK}:oq (Bd P w) (E2 (Bd P w) P w K mg base N qual scope f cd cl A outer s H E) E:=by
 intro π σ H1 s1 e s' I hc;let#[a,cls,H',B,a0,dd,rfl,os,bare,un,ay,fl,i,hE]:=hc;apply gm_ (base:=B) I.ok.frames Z fl λh1 fl1 up=>?_;exact g5_ (s1:={ s' with heap:=h1 }) I Z os bare un ay i fl.2.2.1 up fl1 hE
section
variable{cs:List (Addr × Obj)}{H H':Hp}{b:Addr}{o:Obj}{u:HO}
variable{P:Ad}{w:Af}{h:Heap}
end
section
variable{X:Cx}{π:List (Addr × Obj)}{σ:St}{H:Hp}{s s':Ab}{cs:List (Addr × Obj)}
def ji(P:Ad)(w:Af)(K:af)(mg:Str->Option Aa)(base:Heap)(k:Nat)(qual:Str)(params:Arguments)(body:PySem.Expr)(scope:Scope)(ps cQ:ae)(sp:ag->ag->Hp->VK->XK->Prop):Prop:=
 ∀(A:Ag) (outer:List Env) (s:Ab) (H:Hp) (f c':Addr) (pm kP:Aa) (cl:List (Str × Addr)) (us:aj) (vs gs:ag) (Q:VK) (E:XK),aI k A->i3 P w K mg base A outer s H->s.heap.get? f\kla_obj "<lambda>" qual params body scope cl pm c' kP->s.heap.CodeRec (.ref c') qual->
  vs.length=ps.length->gs.length=cQ.length->Vals vs us->NK cQ cl gs s.heap->(∀x c,cl.lookup x\c->H c=none)->sp vs gs H Q E->codeAny (model P w) A (.call (.ref f) #[us,[]]) (CR (Bd P w) outer P w H s Q E) s
def Aw{P:Ad}{w:Af}{K:af}{mg:Str->Option Aa}{base:Heap}{k:Nat}{qual:Str}{params:Arguments}{body:PySem.Expr}{scope:Scope}{ps cQ:ae}{sp:ag->ag->Hp->VK->XK->Prop}(S:Kp ps cQ scope)
 (hb:∀pm c' kP cl us,us.length=ps.length->bindArgs (kla_fn "<lambda>" qual params body scope cl pm (.ref c') kP) #[us,[]]=pure (ps.zip us))
 (bY:∀(A:Ag)(outer:List Env)(s:Ab)(H:Hp)(f:Addr)(cd:Aa)(cl:List (Str × Addr))(vs gs:ag)(Q:VK)(E:XK),aI k (A.deeper (envX qual scope s.heap.objs.size f cd cl))->sp vs gs H Q E->oq (Bd P w) (E2 (Bd P w) P w K mg base (ps++cQ) qual scope f cd cl A outer s H E) E->
   ∃t,PE (E2 (Bd P w) P w K mg base (ps++cQ) qual scope f cd cl A outer s H E) body t/\t (vs.map some++gs.map some) H Q):!ji (k+1) qual params body scope ps cQ sp:=by
 intro A outer s H f c' pm kP cl us vs gs Q E hr e0 hf fY hl hg r C fc iA;let#[t,ht,hq]:=bY A outer s H f (.ref c') cl vs gs Q E (hr.deeper _) iA yf;exact kI_ S hr e0 hf fY (hb pm c' kP cl us (by rw[<- r.length];exact hl)) hl hg r C fc (λ_=>ht) hq
end
structure N7(cQ:ae)(cl:List (Str × Addr))(cs:List (Addr × Obj))(gs:ag):Prop where
 len:gs.length=cQ.length
 inj:∀x y c,cl.lookup x\c->cl.lookup y\c->x=y
 has:∀x∈cQ,∃c,cl.lookup x\c
 all:∀x c,cl.lookup x\c->∃o v,cs.lookup c\o/\o.data=.cell v
 is:∀(i:Nat) x v,cQ[i]? = some x->gs[i]? = some v->∃c o u,cl.lookup x\c/\cs.lookup c\o/\o.data=.cell (some u)/\RelV v u
section
variable{X:Cx}{k:Nat}{x:Str}{p pos:Pos}{tn:TE}{qual:Str}{params:Arguments}{body:PySem.Expr}{scope:Scope}{cQ ps:ae}{sp':ag->ag->Hp->VK->XK->Prop}{E:XK}
end
section
variable{X:Cx}{k:Nat}{x:Str}{p pos:Pos}{e:PySem.Expr}{es:List PySem.Expr}{ta:TA}{cQ ps:ae}{sp:Sp}{f:Addr}{fd:Ae}{cl:List (Str × Addr)}{is:List Nat}
end
def gN_{P:Ad}{w:Af}{K:af}{mg mb:Str->Option Aa}{CX:jm}{k:Nat}{fa a:Addr}{ts:ai}{fd:Ae}{x:Str}{sp:Sp}{aV:Ab}{vs:aj}{ns:List Int}
 (hT:∀T∈ts,K.lookup T=none)(eT:∀T∈ts,aV.heap.get? T\tabObj #[])(Jt:∀T∈ts,isCodeTable aV.heap T)
 (KX:K.In aV.heap)(Cu:aV.heap.Ns mainGlobals mg)(hb:aV.heap.Ns builtinsNs mb)(hbb:∀x:Str,x≠"__name__"->mb x=bootBuiltins x)(QU:aV.heap.NoLimit)(hg:aV.gens=#[])
 (ha:aV.heap.get? a=some { cls:=.type "list",data:=.seq vs.toArray })(hi:IntsAre vs ns)(hl:ns.length<=sizeLine)(hr:aI k callerA)
 (vN:∃bm ob,mg "__builtins__"\.ref bm/\bm≠builtinsNs/\aV.heap.get? bm\ob/\ob.cls=.type "module"/\ob.dict\builtinsNs/\ob.data=.plain)
 (F:∀base:Heap,K.In base->base.Ns mainGlobals mg->(∀T∈ts,base.BuiltinsAt mg T)->!ak CX k fa fd [x] sp)(Ju:∀(s:Ab)(u:Aa),BindsTo s fd #[[u],[]] [(x,u)])
 (iA:∀H:Hp,(∀T∈ts,H T\.tbl #[])->dU K H a (ns.map V.int)->sp [.ref a] H (λv _=>v=.bl true) λ_ _ _=>False)
 (RB:∀H e s',CX [] H aV (λ_ _ _=>False) e s'->False):
  codeAny (model P w) callerA (.call (.ref fa) #[[.ref a],[]]) (λr s'=>r=.ok (.ret (.bool true))/\OldK aV.heap s'.heap/\s'.os=aV.os/\AllBare s'.gens) aV:=by
 let rv:=Zv hi;let P3:=hi.length
 have aT:∀{b},b∈ts->b≠a:=λ{b} hb z=>by
  have:=eT b hb;rw[z,ha] at this;cases this
 have core:∀H:Hp,(∀b,H b=none∨(b∈ts/\H b\.tbl #[])∨(b∉ts/\∃o xs,H b\.frz o (.lst xs)))->(∀T∈ts,H T\.tbl #[])->dU K H a (ns.map V.int)->dP P w H aV.heap->(∀b,H b≠none->b=a∨b∈ts)->(H a≠none->K.lookup a=none)->
   codeAny (model P w) callerA (.call (.ref fa) #[[.ref a],[]]) (λr s'=>r=.ok (.ret (.bool true))/\OldK aV.heap s'.heap/\s'.os=aV.os/\AllBare s'.gens) aV:=by
  intro H hO hHT hS ay hA hK;have jF:∀{b:Addr} {o:Obj},aV.heap.get? b\o->H b=none->(iN aV.heap H).get? b\o:=λe n=>iy_ e n
  have yo:∀{b:Addr} {o:Obj} {es:Array DictEntry} {ep:Nat},aV.heap.get? b\o->o.data=.dict es ep->H b=none:=λ{b o es ep} e d=>by
   cases q:H b with
   |none=>rfl
   |some u=>
    rcases hA b (by rw[q];simp) with e'|e'
    ·subst e';rw[ha] at e;cases e;have d':Data.seq vs.toArray _=Data.dict es ep:=d;cases d'
    rw[eT b e'] at e;cases e;cases d
  have LI:∀{b:Addr} {m:Str->Option Aa},aV.heap.Ns b m->(iN aV.heap H).Ns b m:=λ{b m} ⟨o,es,ep,e,d,r⟩=>#[o,es,ep,jF e (yo e d),d,r]
  have Ya:K.In (iN aV.heap H):=λb o e=>jF (KX b o e) (by
   cases q:H b with
   |none=>rfl
   |some u=>
    rcases hA b (by rw[q];simp) with e'|e'
    ·subst e';rw[hK (by rw[q];simp)] at e;cases e
    rw[hT b e'] at e;cases e)
  have hB:∀T∈ts,(iN aV.heap H).BuiltinsAt mg T:=λT Rr=>by
   let#[bm,ob,h1,h2,h3,h4,h5,h6]:=vN
   have n1:bm≠mainGlobals:=λz=>by
    let#[o,es,ep,e,d,_]:=Cu;rw[z,e] at h3;cases h3;rw[d] at h6;cases h6
   have n2:∀{b},b∈ts->bm≠b:=λ{b} hb z=>by
    rw[z,eT b hb] at h3;cases h3;cases h6
   apply#[bm,ob,h1,h2,n1,n2 Rr,jF h3 ?_,h4,h5,h6];cases q:H bm with
   |none=>rfl
   |some u=>
    rcases hA bm (by rw[q];simp) with e'|e'
    ·subst e';rw[ha] at h3;cases h3;cases h6
    exact absurd Z (n2 e')
  have hM:Mod K mg (iN aV.heap H):=#[Ya,LI Cu,#[mb,LI hb,hbb],let #[mc,h1,h2]:=QU;#[mc,LI h1,h2]];have e0:i3 P w K mg (iN aV.heap H) callerA [] aV H:=#[Z,hM,λb o e=>kZ_ e,Nat.le_of_eq (hR_ _ _),trivial,λb hb=>absurd (show b∈([]:ai) from hb) Z2,ay,.of_eq hg];apply codeAny_mono ((F _ Ya (LI Cu) hB).run callerA [] aV H #[[.ref a],[]] [.ref a] [.ref a] _ _ hr e0 (Ju aV (.ref a)) (.cons Z .nil) (iA H hHT hS)) λr s' h=>?_;cases r with
  |error e=>exact (RB H e s' h).elim
  |ok fl=>
   cases fl with
   |next=>exact False.elim h
   |brk=>exact False.elim h
   |cont=>exact False.elim h
   |ret u=>
    let#[v,H',os,bare,un,ID,r',q]:=h;have q':v=.bl true:=q;subst q';obtain rfl:u=Value.bool true:=r'
    have main:∀b o,aV.heap.get? b\o->s'.heap.get? b\o∨(b∈ts/\o=tabObj #[]/\∃more,s'.heap.get? b\tabObj (#[]++more)):=λb o e=>by
     cases q:H b with
     |none=>exact .inl (un.keep b o e q (by intro z;exact absurd (show b∈([]:ai) from z) Z2) Z2)
     |some u=>
      rcases hO b with z|⟨zT,z⟩|⟨_,ob,xs,z⟩
      ·rw[q] at z;cases z
      ·rw[eT b zT] at e;cases e;let#[more,z]:=un.fQ b _ z;exact .inr #[zT,Z,more,ID b _ z]
      let z2:=un.e_ b ob _ z;let#[e1,_]:=ay b _ z;let#[e2,_]:=ID b _ z2;rw[e] at e1;cases e1;exact .inl e2
    apply#[Z,#[λb o e=>?_,λb o e=>?_],os,bare]
    ·rcases main b o e with z|⟨zT,rfl,more,z⟩
     ·exact .inl z
     exact .inr (.inl #[Jt b zT,Z,_,_,Z,z])
    rcases main b o e with z|⟨_,_,more,z⟩
    ·exact#[_,z]
    exact#[_,z]
 cases hk:K.lookup a with
 |some o=>
  let e:=KX a o hk;rw[ha] at e;cases e;apply core (λb=>if b∈ts then some (.tbl #[]) else none) (λb=>?_) (λT h=>aF h) (.inr #[_,vs.toArray,_,hk,Z,Z,Z,by rw[c_,P3];exact hl,by simpa using rv]) (λb u z=>?_) (λb z=>?_) λz=>absurd (aA λq=>aT q Z) z
  ·by_cases hb:b∈ts
   ·exact .inr (.inl #[hb,aF hb])
   exact .inl (aA hb)
  ·by_cases hb:b∈ts
   ·let z':=(aF hb).symm.trans z;cases z';exact eT b hb
   let z':=(aA hb).symm.trans z;cases z'
  ·by_cases hb:b∈ts
   ·exact .inr hb
   ·exact absurd (aA hb) z
 |none=>
  have T2:∀{b:Addr},b∈ts->(λb=>if b∈ts then some (.tbl #[]) else if b=a then some (HO.frz { cls:=.type "list",data:=.seq vs.toArray } (.lst (ns.map V.int))) else none) b\.tbl #[]:=λ{b} hb=>aF hb;apply core (λb=>if b∈ts then some (.tbl #[]) else if b=a then some (.frz { cls:=.type "list",data:=.seq vs.toArray } (.lst (ns.map V.int))) else none) (λb=>?_) (λT h=>aF h) (.inl (.inr #[{ cls:=.type "list",data:=.seq vs.toArray },(aA λq=>aT q Z).trans (aF Z)])) (λb u z=>?_) (λb z=>?_) λ_=>hk
  ·by_cases pP:b∈ts
   ·exact .inr (.inl #[pP,aF pP])
   by_cases hb:b=a
   ·exact .inr (.inr #[pP,_,_,(aA pP).trans (aF hb)])
   exact .inl ((aA pP).trans (aA hb))
  ·by_cases pP:b∈ts
   ·let z':=(aF pP).symm.trans z;cases z';exact eT b pP
   by_cases hb:b=a
   ·let z':=((aA pP).trans (aF hb)).symm.trans z;cases z';subst hb;exact#[ha,by rw[aq];exact hl,vs,_,rv,ha]
   let z':=((aA pP).trans (aA hb)).symm.trans z;cases z'
  by_cases pP:b∈ts
  ·exact .inr pP
  by_cases hb:b=a
  ·exact .inl hb
  exact absurd ((aA pP).trans (aA hb)) z
def gx_{K:af}{T:Addr}(h:T∉K.map (·.1)):K.lookup T=none:=by
 induction K with
 |nil=>rfl
 |cons p K ih=>
  let#[b,o]:=p;simp only[fK,cc,not_or] at h;rw[wb,show (T == b)=false by simpa using h.1];exact ih h.2
def sQ{l:PySem.W.OpenLaw}{n k:Nat}{q:Ad}{loose:ae}{XP:(Str->Option Aa)->Heap->Prop}{d:DefRec}{K:Params->af}{as ts:ai}{MN:∀P:Params,as=(K P).map (·.1)}{CX:Af->jm}{sp:Af->Sp}{x:Str}
 (hn:l.most\n)(AD:n<=sizeLine)(vK:d.params.defaults=[])(hr:aI k callerA)
 (Ck:(ts.all λT=>!as.contains T)=true)
 (F:∀(w:Af)(mg:Str->Option Aa)(fa:Addr)(h:Heap),(K w.params).In h->h.Ns mainGlobals mg->mg d.name\.ref fa->
   ∃fd:Ae,(∀(s:Ab)(u:Aa),BindsTo s fd #[[u],[]] [(x,u)])/\(∀T∈ts,isCodeTable h T) /\
    ∀base:Heap,(K w.params).In base->base.Ns mainGlobals mg->(∀T∈ts,base.BuiltinsAt mg T)->ak l.prog w (K w.params) mg base (CX w) k fa fd [x] (sp w))
 (iA:∀(w:Af)(H:Hp)(a:Addr)(ns:List Int),ns.length<=n->(∀T∈ts,H T\.tbl #[])->dU (K w.params) H a (ns.map V.int)->sp w [.ref a] H (λv _=>v=.bl true) λ_ _ _=>False)
 (RB:∀(w:Af)(H:Hp)(s:Ab)(e:Aa)(s':Ab),CX w [] H s (λ_ _ _=>False) e s'->False):
  PySem.W.WalkO q loose XP (kmHook K as MN ts).says l.row.toRowW d [] (λf vs=>PySem.call f vs):=by
 apply Att.kY hn vK λw cw aV mg mb fa o pm cd doc a vs ns G Y ho hd fY hmg Cs hints hlen hg=>?_;have KX:(K w.params).In aV.heap:=km_in_of Y;have eT:∀T∈ts,aV.heap.get? T\tabObj #[]:=Y.2;let#[fd,hb,Jt,hF]:=F w mg fa _ KX G.T.g hmg;apply gN_ (λT h=>gx_ ?_) eT Jt KX G.T.g G.T.b G.T.builtins G.T.nolimit hg Cs hints (ma hlen AD) hr G.T.bmain hF hb (λH hO hS=>iA w H a ns hlen hO hS) λH e s'=>RB w H aV e s';have:=List.all_eq_true.mp Ck T h;rw[<- MN w.params];simpa using this
end L2
namespace L2
open PySem PySem.Spec PyProof.Rows
section
variable{X:Cx}
end
open PySem.W in
def ow:List (Pos × Addr)->aj
 |[]=>[]
 |(p,c)::es=>rawInt p.line::rawInt p.col::.ref c::ow es
def cu(H:Hp)(T:Addr)(qual:Str):Prop:=∃es:List (Pos × Addr),H T\.tbl (ow es).toArray/\∀e∈es,H e.2\Dx e.2 qual
def cu.same{H H':Hp}{T:Addr}{qual:Str}(s:aa H H')(h:cu H T qual):cu H' T qual:=by
 let#[es,a,b]:=h;exact#[es,s _ _ a,λe he=>s _ _ (b e he)]
def YM:∀es:List (Pos × Addr),TriplesOk (ow es)
 |[]=>trivial
 |(p,c)::es=>by
  have:=YM es;simp[ow,TriplesOk,rawInt,this]
def Z4:∀(es:List (Pos × Addr))(p:Pos)(c:Addr),ow (es++[(p,c)])=ow es++[rawInt p.line,rawInt p.col,.ref c]
 |[],p,c=>rfl
 |(p',c')::es,p,c=>by
  show rawInt p'.line::rawInt p'.col::.ref c'::ow (es++[(p,c)])=_;rw[Z4 es p c];rfl
def _u(pos:Pos):∀es:List (Pos × Addr),codeAmong pos (ow es)=none∨∃e∈es,codeAmong pos (ow es)\.ref e.2
 |[]=>.inl Z
 |(p,c)::es=>by
  by_cases h:codeAmong pos (ow ((p,c)::es))\.ref c
  ·exact .inr #[(p,c),fi,h]
  have e:codeAmong pos (ow ((p,c)::es))=codeAmong pos (ow es):=by
   show codeAmong pos (rawInt p.line::rawInt p.col::.ref c::ow es)=_;have h:¬codeAmong pos (rawInt p.line::rawInt p.col::.ref c::ow es)=some (.ref c):=h;simp only[codeAmong,rawInt] at h ⊢;split at h
   ·exact absurd Z h
   rename_i q
   rw[aA q]
  rcases _u pos es with q|⟨x,hx,q⟩
  ·exact .inl (e.trans q)
  exact .inr #[x,fj _ hx,e.trans q]
end L2
namespace L2
open PySem PySem.Spec PyProof.Rows PySem.W oH
section
variable{X:Cx}{π:List (Addr × Obj)}{σ:St}{H:Hp}{s:Ab}
def Inv.Bk{h':Heap}{t':Nat}{fp:ai}{T:Addr}{ys:ag}{its:aj}{n:Nat}(I:!In H s)(k:∀b o,b∉fp->s.heap.get? b\o->h'.get? b\o)(hf:∀b∈fp,dc X π H b)
 (hT:T∈fp)(hz:ys.length<=sizeLine)(r:Vals ys its)(ht:h'.get? T=some { cls:=.type "list",data:=.seq its.toArray n }):!In (upd H T (.lst ys)) { s with heap:=h',toks:=t' }:=by
 have fT:H T=none:=(hf T hT).1;have nf:∀b u,H b\u->b∉fp:=λb u e hb=>by rw[(hf b hb).1] at e;cases e
 have old:∀{b u},H b\u->upd H T (.lst ys) b\u:=λe=>by rw[aD (bB e fT)];exact e
 apply I.step (g':=s.gens) (d':=s.drawn) (ch:=fp) (λb hb=>?_) (λb o _ _ hc e _=>k b o hc e) (λb o _ _ hc e _=>#[o.slots,k b o hc e]) (λb o hc e n=>?_)
  (λb o hc e=>#[o,k b o hc e]) (λb ys e=>old e) (λb o u e=>old e) (λb ps e=>#[#[],by rw[Array.append_empty];exact old e]) (λm hm=>?_) (λb u e=>?_) I.bare
 ·let#[f0,f1,f2,f3,f4,f5]:=hf b hb;exact#[f3,f1,f4,f5]
 ·rw[aD (λz=>hc (by rw[z];exact hT))];exact n
 ·let#[o,es,ep,ho,r]:=hm;exact#[o,es,ep,k _ o (λhb=>(hf _ hb).2.1 Z) ho,r]
 by_cases z:b=T
 ·subst z;rw[aE] at e;cases e;exact#[hz,its,n,r,ht]
 rw[aD z] at e;apply (I.ay b u e).dJ (λc v hc q=>k c v ?_ q) (λ_ q=>old q) λ_ _ q=>old q;rcases hc with z|z
 ·rw[z];exact nf b u e
 exact nf c _ z
def dc.at{H':Hp}{b:Addr}(f:dc X π H b)(n:H' b=none):dc X π H' b:=#[n,f.2]
def qb(X:Cx)(σ:St)(B:Ag)(fv:Aa)(H0:Hp)(kf:V->ax)(xs:ag):Prop:=
 ∀(π:List (Addr × Obj)) (H:Hp) (s:Ab) (x:V) (u:Aa),!In H s->aa H0 H->x∈xs->RelV x u->
  wpAny (model X.prog X.w) B (call fv [u]) (EP X π σ λv H'=>aa H H'/\∃t,v=.ref t/\H' t\.tup ((kf x).map kV)) (λ_ _=>False) s
def kd_{B:Ag}{fv:Aa}{a kS:Addr}{e1:Nat}{H0:Hp}{kf:V->ax}{all:ag}{Q:PUnit->Ab->Prop}{E:Aa->Ab->Prop}{body:Aa->PUnit->Sem (ForInStep PUnit)}(nZ:a≠kS)(kU:qb X σ B fv H0 kf all)
 (hb:∀(u:Aa)(s:Ab)(Qb:ForInStep PUnit->Ab->Prop),wpAny (model X.prog X.w) B (call fv [u]) (λk s'=>wpAny (model X.prog X.w) B (Builtin.List.listUpdate (.ref kS) (·.push k)) (λ_ rC=>Qb (.yield ⟨⟩) rC) E s') (λ_ _=>False) s->wpAny (model X.prog X.w) B (body u ⟨⟩) Qb E s):
  ∀(xs:ag)(us:aj)(ks:ag)(kvs:aj)(kk:List ax)(H:Hp)(s:Ab)(c:Nat),Vals xs us->(∀x∈xs,x∈all)->!In H s->aa H0 H->dc X π H a->dc X π H kS->s.heap.get? a\seqObj "list" #[] e1->s.heap.get? kS\seqObj "list" kvs.toArray c->
   Vals ks kvs->bj X.K H ks kk->kvs.length+us.length<64->
   (∀H' s' dW c',!In H' s'->aa H0 H'->dc X π H' a->dc X π H' kS->s'.heap.get? a\seqObj "list" #[] e1->s'.heap.get? kS\seqObj "list" dW.toArray c'->dW.length=kvs.length+us.length->(∃vq,Vals vq dW/\bj X.K H' vq (kk++xs.map kf))->Q ⟨⟩ s')->
   wpAny (model X.prog X.w) B (forIn us PUnit.unit body) Q E s:=by
 intro xs
 induction xs with
 |nil=>
  intro us ks kvs kk H s c rv _ I sm fa fk ha hk r t _ q;cases rv;rw[List.forIn_nil];exact bu (q H s kvs c I sm fa fk ha hk Z2 #[ks,r,by simpa using t])
 |cons x xs ih=>
  intro us ks kvs kk H s c rv hx I sm fa fk ha hk r t hz q
  obtain⟨u,us,rfl,ru,rr⟩:∃u Va,us=u::Va/\RelV x u/\Vals xs Va:=by
   cases rv with
   |cons h t=>exact#[_,_,Z,h,t]
  rw[List.forIn_cons];rw[jf] at hz;apply au (hb u s _ ?_)
  have hf:∀b∈[a,kS],dc X π H b:=λb hb=>by
   rcases cc.mp hb with rfl|hb
   ·exact fa
   obtain rfl:b=kS:=⇑hb
   exact fk
  let I1:=I.pinned (fp:=[a,kS]) hf (λb hb=>by
   rcases cc.mp hb with rfl|hb
   ·exact#[_,ha,λv z=>by cases z]
   obtain rfl:b=kS:=⇑hb
   exact#[_,hk,λv z=>by cases z])
  apply gD (kU _ H s x u I1 sm (hx x fi) ru) (λk s1 ⟨v,H1,J,rv,VQ,tk,ev,etk⟩=>?_) λ_ _ z=>z
  have pa:(a,seqObj "list" #[] e1)∈zk [a,kS] s.heap:=by
   unfold zk;exact wc.mpr #[a,by simp,by rw[ha];rfl]
  have pk:(kS,seqObj "list" kvs.toArray c)∈zk [a,kS] s.heap:=by
   unfold zk;exact wc.mpr #[kS,by simp,by rw[hk];rfl]
  let#[Rn,na1,_]:=J.pin _ (iT _ (iT _ pa));let#[Mn,nk1,_]:=J.pin _ (iT _ (iT _ pk));have Rn:s1.heap.get? a\seqObj "list" #[] e1:=Rn;have Mn:s1.heap.get? kS\seqObj "list" kvs.toArray c:=Mn;let J0:=J.eO;let fa1:=fa.at (H':=H1) na1;let YH:=fk.at (H':=H1) nk1;have P7:kvs.length<64:=by omega
  apply listUpdate_at Mn Z ?_ (by rw[c_,cX];omega) (ma (Nat.le_of_eq (Array.size_push ..)) (by rw[c_,cX];omega));have u_:∀b o,b∉[kS]->s1.heap.get? b\o->(s1.heap.update kS (Obj.mapSeq (·.push k))).get? b\o:=λb o hb e=>(je _ _ (λz=>hb (by simp[z]))).trans e;have ea:kvs.toArray.push k=(kvs++[k]).toArray:=by simp
  obtain⟨c2,EI⟩:∃c2,(s1.heap.update kS (Obj.mapSeq (·.push k))).get? kS\seqObj "list" (kvs++[k]).toArray c2:=#[_,by rw[<- ea];exact get?_update_seq Mn (·.push k)]
  have I2:!In H1 { s1 with heap:=s1.heap.update kS (Obj.mapSeq (·.push k)) }:=J0.jq (t':=s1.toks) (fp:=[kS]) u_ (λb hb=>by
   obtain rfl:b=kS:=⇑hb
   exact YH)
  subst ev;apply ih us (ks++[.ref tk]) (kvs++[k]) (kk++[kf x]) H1 _ c2 rr (λy hy=>hx y (fj _ hy)) I2 (sm.trans VQ) fa1 YH ?_ EI (r.append (.cons rv .nil)) ?_ (by rw[dE,D0];omega) λH' s' dW c' a1 a2 a3 a4 a5 a6 a7 a8=>?_
  ·exact u_ a _ ⇑nZ Rn
  ·exact Paired.snoc (t.same VQ) #[tk,Z,etk]
  apply q H' s' dW c' a1 a2 a3 a4 a5 a6 (by rw[a7,dE,D0,jf];omega) ?_;let#[vq,b1,b2]:=a8;exact#[vq,b1,by simpa using b2]
end
section
variable{X:Cx}{π:List (Addr × Obj)}{σ:St}{H:Hp}{s:Ab}{B:Ag}
def kr_{xs zs:ag}{kf:V->ax}{p:Array Nat}(g:Good xs.length p)(up:Up (λi j=>bK ((xs.map kf).getD i []) ((xs.map kf).getD j [])) p xs.length)(ez:zs=p.toList.map λi=>xs.getD i .non):zs.Perm xs/\zs.map kf=aN (xs.map kf):=by
 have gk:Good (xs.map kf).length p:=by rw[aq];exact g
 let asc:=RO (ks:=xs.map kf) (λi j _ _=>rfl) gk (by rw[aq];exact up)
 have perm:(p.toList.map λi=>(xs.map kf).getD i []).Perm (xs.map kf):=by
  have:=KN gk λi=>(xs.map kf).getD i [];rwa [KZ] at this
 let es:=SQ perm asc;apply#[?_,?_]
 ·have:=KN (n:=xs.length) g λi=>xs.getD i .non;rw[KZ] at this;rw[ez];exact this
 rw[<- es,ez,bU];apply p4 λi hi=>?_;have m:i∈(List.range xs.length).toArray:=g.mem_iff.mp ⇑hi;have m:i<xs.length:=⇑m
 show kf (xs.getD i .non)=(xs.map kf).getD i [];simp[List.getD,m]
def hW_{f a:Addr}{xs:ag}{us:aj}{n:Nat}{P:PySem.Fin->Ab->Prop}{E:Aa->Ab->Prop}{kf:V->ax}{sh:List Bool}(I:!In H s)(fa:dc X π H a)(ho:s.heap.get? a\seqObj "list" us.toArray n)(r:Vals xs us)(dC:us.length<64)(al:Dh (xs.map kf) sh)(kU:qb X σ B (.ref f) H kf xs)
 (h:∀zs H' s',!In (upd H' a (.lst zs)) s'->aa H H'->H' a=none->zs.Perm xs->zs.map kf=aN (xs.map kf)->P (.done (.ret .none)) s'):wpAny (model X.prog X.w) B (ksk_tree a (.ref f) false) P E s:=by
 let lx:=r.length;obtain⟨e1,ED⟩:∃e1,(s.heap.update a (Obj.mapSeq λ_=>(#[]:Array Aa))).get? a\seqObj "list" #[] e1:=#[_,get?_update_seq ho λ_=>#[]];have u_:∀b o,b∉[a]->s.heap.get? b\o->(s.heap.update a (Obj.mapSeq λ_=>(#[]:Array Aa))).get? b\o:=λb o hb e=>(je _ _ (λz=>hb (by simp[z]))).trans e
 have I1:!In H { s with heap:=s.heap.update a (Obj.mapSeq λ_=>(#[]:Array Aa)) }:=I.jq (t':=s.toks) (fp:=[a]) u_ (λb hb=>by
  obtain rfl:b=a:=⇑hb
  exact fa)
 unfold ksk_tree;apply au (listItems_at ho Z ?_);apply au (listUpdate_at ho Z ?_ (by rw[c_,cX];omega) (gQ _));apply au (seqEpoch_at ED Z ?_);apply au (wpAny_newTuple ?_ (by show us.length<=_;rw[cX];omega));apply au (wpAny_newList ?_ (gQ _));apply pV ?_;have I2:!In H { s with heap:=(s.heap.update a (Obj.mapSeq λ_=>(#[]:Array Aa))).push (seqObj "tuple" us.toArray 0) }:=I1.kept (t':=s.toks) λb u e=>b_ _ e;have I3:!In H { s with heap:=((s.heap.update a (Obj.mapSeq λ_=>(#[]:Array Aa))).push (seqObj "tuple" us.toArray 0)).push (seqObj "list" #[] 0) }:=I2.kept (t':=s.toks) λb u e=>b_ _ e;have fk:dc X π H ((s.heap.update a (Obj.mapSeq λ_=>(#[]:Array Aa))).push (seqObj "tuple" us.toArray 0)).objs.size:=I2.kL (bD _) (I2.ay.fresh (bD _));have lP:(((s.heap.update a (Obj.mapSeq λ_=>(#[]:Array Aa))).push (seqObj "tuple" us.toArray 0)).push (seqObj "list" #[] 0)).get? a\seqObj "list" #[] e1:=b_ _ (b_ _ ED);have QZ:(((s.heap.update a (Obj.mapSeq λ_=>(#[]:Array Aa))).push (seqObj "tuple" us.toArray 0)).push (seqObj "list" #[] 0)).get? ((s.heap.update a (Obj.mapSeq λ_=>(#[]:Array Aa))).push (seqObj "tuple" us.toArray 0)).objs.size\seqObj "list" #[] 0:=eL _ Z;have nZ:a≠((s.heap.update a (Obj.mapSeq λ_=>(#[]:Array Aa))).push (seqObj "tuple" us.toArray 0)).objs.size:=dD (bW (b_ (seqObj "tuple" us.toArray 0) ED));show wpAny (model X.prog X.w) B (ksk_rest a (.ref f) false us.toArray e1 (.ref ((s.heap.update a (Obj.mapSeq λ_=>(#[]:Array Aa))).push (seqObj "tuple" us.toArray 0)).objs.size)) P E { s with heap:=((s.heap.update a (Obj.mapSeq λ_=>(#[]:Array Aa))).push (seqObj "tuple" us.toArray 0)).push (seqObj "list" #[] 0) };generalize ((s.heap.update a (Obj.mapSeq λ_=>(#[]:Array Aa))).push (seqObj "tuple" us.toArray 0)).objs.size=kS at fk QZ nZ ⊢;generalize ((s.heap.update a (Obj.mapSeq λ_=>(#[]:Array Aa))).push (seqObj "tuple" us.toArray 0)).push (seqObj "list" #[] 0)=h3 at I3 lP QZ ⊢;clear I2 I1 u_;unfold ksk_rest;apply au (wpAny_rule ?_);rw[List.forIn_toArray];apply au (kd_ (π:=π) (E:=E) (e1:=e1) nZ kU (λu s4 Qb hq=>?_) xs us [] [] [] H _ 0 r (λx hx=>hx) I3 (aa.refl H) fa fk lP QZ .nil .nil ⇑dC λH5 s5 kvs c5 I5 sm5 YI fk5 Rm XJ lk ⟨ks,rk,tk⟩=>?_)
 ·apply au (wpAny_attempt (gD hq (λk rC hk=>?_) λ_ _ hF=>hF.elim));exact au (gD hk (λ_ s6 h6=>bu h6) λ_ _ z=>z)
 rw[List.nil_append] at tk;rw[vZ,Nat.zero_add] at lk;apply au (listItems_at XJ Z ?_)
 have tail:∀(p:Array Nat) (st:SortSt),Good xs.length p->Up (λi j=>bK ((xs.map kf).getD i []) ((xs.map kf).getD j [])) p xs.length->(arrOf st).map (·.2)=(ou p us).toArray->failedOf st=none->wpAny (model X.prog X.w) B (ksk_tail a false e1 (.ref kS) st) P E s5:=λp st g up QH vI=>by
  have gu:Good us.length p:=by rw[<- lx];exact g
  have hz:(ou p us).length=us.length:=by
   unfold ou;rw[aq,we];exact gu.size
  let s1:=Heap.SameBut.update s5.heap kS (Obj.mapSeq λ_=>(#[]:Array Aa));have vO:(s5.heap.update kS (Obj.mapSeq λ_=>(#[]:Array Aa))).get? a\seqObj "list" #[] e1:=(je _ _ (Ne.symm nZ)).trans Rm;unfold ksk_tail;dsimp only;rw[QH];apply au (listUpdate_at XJ Z ?_ (by rw[c_,cX];omega) (gQ _));apply au (wpAny_letGo ?_);apply au (seqEpoch_at vO Z ?_);simp only[Ba,if_false];apply au (listUpdate_at vO Z ?_ (gQ _) (by rw[c_,hz,cX];omega));rw[vI];simp only[bne_self_eq_false,Ba,if_false]
  have zl:(p.toList.map λi=>xs.getD i .non).length<=sizeLine:=by
   rw[aq,we,g.size,cX];omega
  let#[pz,ek]:=kr_ (zs:=p.toList.map λi=>xs.getD i .non) g up Z;apply bu (h _ H5 _ (I5.Bk (t':=s5.toks) (fp:=[a,kS]) (T:=a) (λb o hb e=>?_) (λb hb=>?_) Z2 zl (S5 r gu) (get?_update_seq vO _)) sm5 YI.1 pz ek)
  ·have n1:b≠a:=λz=>hb (by simp[z]);have n2:b≠kS:=λz=>hb (by simp[z]);exact (je _ _ (Ne.symm n1)).trans ((je _ _ (Ne.symm n2)).trans e)
  rcases cc.mp hb with rfl|hb
  ·exact YI
  obtain rfl:b=kS:=⇑hb
  exact fk5
 unfold ksk_end;dsimp only;simp only[Ba,if_false];by_cases h2:us.toArray.size<2
 ·rw[aF h2,aF h2];apply au (bu ?_);rw[StateT.run_pure];apply au (bu (tail (List.range xs.length).toArray _ (Array.Perm.refl _) (λi j pL hj=>?_) ?_ Z))
  ·have e:i=j:=by
    simp only[c_] at h2;omega
   subst e;exact S8 _
  show ((kvs.toArray.zip us.toArray).map λx:Keyed=>x.2)=_;rw[show xs.length=us.length from lx,_l];apply Array.ext' ?_;simp[List.map_snd_zip,lk]
 rw[aA h2,aA h2]
 have jW:2<=us.length:=by
  simp only[c_] at h2;omega
 let#[κ,hk,hc]:=ZW (A:=B) (s':=s5) I5 rk tk al Z1 (λ_ _ e=>e);apply au (gD (hk (λk s'=>k=κ/\s'=s5) #[Z,Z]) (λk s7 Ja=>?_) λ_ _ x=>x.elim);let#[rfl,rfl]:=Ja;have O:Ord (λi j=>bK ((xs.map kf).getD i []) ((xs.map kf).getD j [])):=S6 _
 apply au (gD (kat_run (ks:=kvs) (vs:=us) (G:=λp s'=>s'=s7/\Good us.length p/\Up (λi j=>bK ((xs.map kf).getD i []) ((xs.map kf).getD j [])) p us.length)
  (Q:=λfu s'=>∃p:Array Nat,arrOf fu=p.map (kas_item (kvs.toArray.zip us.toArray))/\failedOf fu=none/\s'=s7/\Good us.length p/\Up (λi j=>bK ((xs.map kf).getD i []) ((xs.map kf).getD j [])) p us.length)
  lk jW dC (λp fu s' _ q1 q2 q3=>#[p,q1,q2,q3]) (Ok.wp (n:=us.length) (λi j C hi hj=>hc i j C Z1 Z1) (λp q=>#[Z,q]) (Xe O Z1))) ?_ λ_ _ x=>x)
 rintro⟨⟨⟩,fu⟩ s' ⟨p,Rj,hf,rG,g,u⟩;subst rG;rw[<- lx] at g u;exact tail p fu g u (kat_snds lk Rj) hf
end
section
variable{X:Cx}{π:List (Addr × Obj)}{σ:St}{H:Hp}{s:Ab}
def Inv.vU{cQ:ae}{cl:List (Str × Addr)}{is:List Nat}{gs:ag}(I:!In H s)(rK:∀q∈cl,X.env.cells.lookup q.1\q.2)(yO:∀x∈cQ,∃c,cl.lookup x\c)(Jc:∀x∈cQ,X.env.scope.names.lookup x\.cell)(hN:is.map (λi=>X.N[i]?)=cQ.map some)
 (EF:is.map (λi=>σ[i]?)=gs.map (λv=>some (some v))):gs.length=cQ.length/\NK cQ cl gs s.heap/\∀x c,cl.lookup x\c->H c=none:=by
 have lk:∀{x c},cl.lookup x\c->(x,c)∈cl:=λe=>qT e;apply#[?_,#[λa b c h1 h2=>I.ok.inj a b c (rK _ (lk h1)) (rK _ (lk h2)),yO,λa c h1=>I.cell a c (rK _ (lk h1)),λj a v h1 h2=>?_],λx c e=>I.dk x c (rK _ (lk e))]
 ·let a:=dH List.length EF;let b:=dH List.length hN;simp only[aq] at a b;omega
 let#[c,hc]:=yO a (dz h1);have e1:(is.map λi=>X.N[i]?)[j]? = some (some a):=by rw[hN,d0,h1];rfl
 have e2:(is.map λi=>σ[i]?)[j]? = some (some (some v)):=by rw[EF,d0,h2];rfl
 rw[d0] at e1 e2;let#[i,hi,e1]:=Option.map_eq_some_iff.mp e1;rw[hi] at e2;have e2:σ[i]? = some (some v):=c7 e2;let#[m,_,hl]:=I.loc;let kd:=Jc a (dz h1);let#[u,ru,lo]:=hl i a v e1 e2 (.inr (.inl kd));rcases lo with⟨z,_⟩|⟨_,c2,e3,o,e4,e5⟩
 ·have z:X.env.scope.names.lookup a\.local:=z;rw[kd] at z;cases z
 rw[rK _ (lk hc)] at e3;cases e3;exact#[c,u,hc,ru,o,e4,e5]
def kW_{B:Ag}{k:Nat}{qual:Str}{params:Arguments}{body:PySem.Expr}{scope:Scope}{p:Str}{cQ:ae}{sp:ag->ag->Hp->VK->XK->Prop}{f c':Addr}{cl:List (Str × Addr)}{is:List Nat}{gs xs:ag}{kf:V->ax}{H0:Hp}(F:ji X.prog X.w X.K X.mg X.base k qual params body scope [p] cQ sp)(hr:aI k B)(hB:B.frames=X.A.frames)
 (hf:H0 f\kG f qual params body scope cl c')(hc:H0 c'\Dx c' qual)(rK:∀q∈cl,X.env.cells.lookup q.1\q.2)(yO:∀x∈cQ,∃c,cl.lookup x\c)(Jc:∀x∈cQ,X.env.scope.names.lookup x\.cell)(hN:is.map (λi=>X.N[i]?)=cQ.map some)(EF:is.map (λi=>σ[i]?)=gs.map (λv=>some (some v)))
 (iA:∀H x,aa H0 H->x∈xs->sp [x] gs H (λv H'=>aa H H'/\∃t,v=.ref t/\H' t\.tup ((kf x).map kV)) (λ_ _ _=>False)):qb X σ B (.ref f) H0 kf xs:=by
 intro π H s x u I sm hx ru;let#[#[pm,kP,ef],_]:=I.ay f _ (sm _ _ hf);let#[#[oc,Ef,t,ec,d1,d2],_]:=I.ay c' _ (sm _ _ hc);let#[hg,C,fc]:=I.vU rK yO Jc hN EF;let e0:=I.yV;apply wpAny_call (codeAny_mono (F B X.stack s H f c' pm kP cl [u] [x] gs _ _ hr #[hB.trans e0.frames,e0.mod,e0.bs,e0.r_,e0.fI,e0.w4,e0.ay,e0.bare] ef #[c',oc,Ef,t,Z,ec,d1,d2] Z hg (.cons ru .nil) C fc (iA H x sm hx)) λr s' hq=>?_);cases r with
 |error e=>
  let#[a,cls,H',B,a0,dd,rfl,os,bare,un,ay,fl,i,hE]:=hq;exact hE.elim
 |ok fl=>
  cases fl with
  |ret u=>exact I.after hq
  |next=>exact False.elim hq
  |brk=>exact False.elim hq
  |cont=>exact False.elim hq
def sortedK{f:Addr}{x:Aa}{xs:ag}{kf:V->ax}{sh:List Bool}{Q:VK}{E:Aa->Ab->Prop}(I:!In H s)(dC:xs.length<64)(al:Dh (xs.map kf) sh)(kU:qb X σ X.A.in1.in1 (.ref f) H kf xs)
 (og:∀R:aj->Ab->Prop,(∀vs s1,!In H s1->Vals xs vs->R vs s1)->wpAny (model X.prog X.w) X.A.in1 (collect x) R E s)
 (q:∀l zs H',aa H H'->H' l=none->H l=none->zs.Perm xs->zs.map kf=aN (xs.map kf)->Q (.ref l) (upd H' l (.lst zs))):wpAny (model X.prog X.w) X.A (call (.builtin "sorted") [x] [(Str.ofString "key",.ref f)]) (EP X π σ Q) E s:=by
 apply call_function_entry_kw kind_sorted plain_sorted entry_sorted (ksk_s1 _ _) ?_;unfold Builtin.«sorted»;apply au (m:=checkCount "sorted" 1 1 _) (bu ?_);apply au (og _ λvs s1 I1 r=>?_);let lv:=r.length;apply au (wpAny_newList ?_ (by rw[cX];omega));have IG:(s1.heap.push (seqObj "list" vs.toArray 0)).get? s1.heap.objs.size\seqObj "list" vs.toArray 0:=eL _ Z;have I2:!In H { s1 with heap:=s1.heap.push (seqObj "list" vs.toArray 0) }:=I1.kept (t':=s1.toks) λb u e=>b_ _ e;have fa:dc X π H s1.heap.objs.size:=I1.kL (bD _) (I1.ay.fresh (bD _));have nl:H s1.heap.objs.size=none:=I1.ay.fresh (bD _);apply au (pV (wpAny_call_entry_kw slot_list_sort #[_,IG,Z] entry_list_sort ?body (ksk_l1 _ _)))
 case body=>
  show wpAny (model X.prog X.w) X.A.in1.in1 (Builtin.«list.sort» #[[.ref s1.heap.objs.size],[(Str.ofString "key",.ref f)]]) _ _ _;rw[ksk_t1];apply hW_ (s:={ s1 with heap:=s1.heap.push (seqObj "list" vs.toArray 0) }) I2 fa IG r Z1 al kU λzs H' s' I' sm na pz ek=>?_;exact#[_,Z,bu #[_,Z,.ref _,_,I',Z,q _ zs H' sm na nl pz ek]]
end
def UR(K:af)(H:Hp)(x:V)(xs:ag):Prop:=(∃l,x=.ref l/\dU K H l xs)∨∃d kvs,x=.ref d/\H d\.dK kvs/\xs=kvs.map λkv=>kV kv.1
inductive oO(K:af)(qual:Str)(params:Arguments)(body:PySem.Expr)(scope:Scope)(cl:List (Str × Addr))(is:List Nat)(sp:ag->ag->Hp->VK->XK->Prop)(t:TA)(σ:St)(H:Hp)(Q:VK)(vs:ag)(ws:ag)(H2:Hp):Prop
 |mk:∀x f c' xs kf sh gs,vs=[x]->ws=[.ref f]->H2 f\kG f qual params body scope cl c'->H2 c'\Dx c' qual->UR K H2 x xs->xs.length<64->Dh (xs.map kf) sh->is.map (λi=>σ[i]?)=gs.map (λv=>some (some v))->(∀H x,aa H2 H->x∈xs->sp [x] gs H (λv H'=>aa H H'/\∃t,v=.ref t/\H' t\.tup ((kf x).map kV)) (λ_ _ _=>False))->(∀l zs H',aa H2 H'->H' l=none->H2 l=none->zs.Perm xs->zs.map kf=aN (xs.map kf)->Q (.ref l) (upd H' l (.lst zs)))->oO K qual params body scope cl is sp t σ H Q vs ws H2
def Bm(K:af)(qual:Str)(params:Arguments)(body:PySem.Expr)(scope:Scope)(cl:List (Str × Addr))(is:List Nat)(sp:ag->ag->Hp->VK->XK->Prop)(t tk:TA):TE:=λσ H Q=>t σ H λvs H1=>tk σ H1 λws H2=>oO K qual params body scope cl is sp t σ H Q vs ws H2
def YA{X:Cx}{e:PySem.Expr}{t tk:TA}{p pos kp vk:Pos}{k:Nat}{params:Arguments}{body:PySem.Expr}{scope:Scope}{px:Str}{cQ:ae}{qual:Str}{sp:ag->ag->Hp->VK->XK->Prop}{cl:List (Str × Addr)}{is:List Nat}(hc:X.calm=true)(hg:Gl X "sorted")(hm:X.mg "sorted"=none)(ha:PA X [e] t)(hkw:PK X [#[some "key",.Lambda params body scope vk,kp]] tk)
 (F:ji X.prog X.w X.K X.mg X.base k qual params body scope [px] cQ sp)(hr:aI (k+2) X.A)(rK:∀q∈cl,X.env.cells.lookup q.1\q.2)(yO:∀x∈cQ,∃c,cl.lookup x\c)(Jc:∀x∈cQ,X.env.scope.names.lookup x\.cell)(hN:is.map (λi=>X.N[i]?)=cQ.map some)
 (he:starEach [e] X.env=[(false,eval e X.env)]:=by rfl)(CO:(backToKw pos (keywordEach [#[some "key",.Lambda params body scope vk,kp]] X.env)).all (·.1.isSome)=true:=by rfl)(Ja:(backToKw pos (keywordEach [#[some "key",.Lambda params body scope vk,kp]] X.env)).filterMap (·.1)=[Str.ofString "key"]:=by rfl)
 (hkn:(backToKw pos (keywordEach [#[some "key",.Lambda params body scope vk,kp]] X.env)).any (·.1.isNone)=false:=by rfl):PE X (.Call (.Name "sorted" p) [e] [#[some "key",.Lambda params body scope vk,kp]] pos) (Bm X.K qual params body scope cl is sp t tk):=by
 intro π s σ H Q I h;apply wpAny_Call_Name_kw (E7 I hg hm Fu ?_);let hA:=ha pos π s σ H _ I h;rw[he] at hA ⊢;apply callWith_builtin_kwB (first:=[]) Z hkn (evalArgs_kwB CO (aU hA λus s1 ⟨vs,H1,I1,r1,q1⟩=>?_));apply aU (hkw pos π s1 σ H1 _ I1 q1) λws s2 ⟨zs,H2,I2,rz,x,f,c',xs,kf,sh,gs,ev,ez,hf,fY,src,dC,al,EF,iA,q⟩=>?_;subst ev ez;let#[u,rfl,ru]:=Vals.one r1;let#[fv,rfl,rf]:=Vals.one rz;cases rf;rw[Ja];have hd:X.A.in1.handled=none:=I.ok.hd hc;apply sortedK I2 dC al (kW_ F hr.in1.in1 Z hf fY rK yO Jc hN EF iA) (λR hR=>?_) q;rcases src with⟨l,rfl,hl⟩|⟨d,kvs,rfl,hd2,rfl⟩
 ·cases ru;exact YN I2 hl Z1 hR
 cases ru;exact WM hd I2 (.inl hd2) hR
end L2
namespace L2
open PySem PySem.Spec PyProof.Rows
structure lI(K:af)(x qual:Str)(st:Stmt)(f c:Addr)(fd:Ae):Prop where
 ex:∃(oc:Aa) (od:Option Addr) (kV doc pm:Aa) (an:Option Addr) (ct:Aa) (gK:Array (Option Aa)),
  fd=PySem.W.fnOf x qual (gY st) (fg st) (aM st) .none kV doc pm an (.ref c) ct/\K.lookup f=some #[oc,od,.func fd,gK]/\PySem.W.codeIn K (.ref c) qual=true
 kp:PySem.W.keepIn K (.ref f)=true
def lI.fn{K:af}{x qual:Str}{st:Stmt}{f c:Addr}{fd:Ae}(F:lI K x qual st f c fd):bc K x qual st f fd:=by
 let#[oc,od,kV,doc,pm,an,ct,gK,e,l,h]:=F.ex;exact#[#[oc,od,kV,doc,pm,an,.ref c,ct,gK,e,l,h],F.kp]
def lI.ok{P:Ad}{w:Af}{K:af}{mg:Str->Option Aa}{base:Heap}{x qual:Str}{st:Stmt}{f c:Addr}{fd:Ae}{N ps:ae}{k:Nat}{sp:Sp}(F:lI K x qual st f c fd)(S:bA N ps (aM st))(len:∀vs H Q E,sp vs H Q E->vs.length=ps.length)
 (bY:∀(A:Ag)(outer:List Env)(s:Ab)(H:Hp)(vs:ag)(Q:VK)(E:XK),aI k (A.deeper (envOfC qual (aM st) s.heap.objs.size f (.ref c)))->sp vs H Q E->
   ∃t,iy (dY bg P w K mg base N qual (aM st) f (.ref c) A outer s H E).pB (fg st) t/\t { nx:=λ_ H'=>Q .non H',rt:=Q } (start N vs) H):!ak bg (k+1) f fd ps sp:=by
 let#[oc,od,kV,doc,pm,an,ct,gK,rfl,lk,fY]:=F.ex;apply L_ lk fY S len λA outer s H vs Q E hr iA=>?_;let#[t,h,q]:=bY A outer s H vs Q E hr iA;exact#[t,h.pB,q]
end L2
namespace Ev
open PySem L2
def NT(H G:Hp):Prop:=∀b o,H b\o->(∀vs,o≠.tbl vs)->G b\o
def NT.of{H G:Hp}(s:aa H G):NT H G:=λb o e _=>s b o e
def bf.nt{T:Addr}{H G:Hp}{vs:Array Aa}(b:bf T H G)(hT:H T\.tbl vs):NT H G:=λc o e n=>b c o e (λz=>by
 rw[z,hT] at e;exact n _ (c7 e).symm)
def NT.tup{H G:Hp}(s:NT H G){a:Addr}{xs:ag}(h:H a\.tup xs):G a\.tup xs:=s _ _ h nofun
def NT.lst{H G:Hp}(s:NT H G){a:Addr}{xs:ag}(h:H a\.lst xs):G a\.lst xs:=s _ _ h nofun
def NT.dK{H G:Hp}(s:NT H G){a:Addr}{xs:List (Key × V)}(h:H a\.dK xs):G a\.dK xs:=s _ _ h nofun
def NT.ins{H G:Hp}(s:NT H G){a C dx:Addr}{fs:List (Str × V)}(h:H a\.ins C dx fs):G a\.ins C dx fs:=s _ _ h nofun
section
variable{K:af}{H G:Hp}{v:V}
def bj.nt{ys:ag}{ks:List ax}(h:bj K H ys ks)(s:NT H G):bj K G ys ks:=Paired.bJ h λy k ⟨a,z,q⟩=>#[a,z,s.tup q]
def eC.nt{C p:Addr}{hs:Xa}{ts:Xb}{fp:ai}(W:eC K C H p hs ts fp)(s:NT H G):eC K C G p hs ts fp:=by
 let#[dx,d1,l2,d3,zs,as,rfl,h1,h2,h3,h4,h5,h6,h7]:=W.ex;exact#[dx,d1,l2,d3,zs,as,Z,s _ _ h1 nofun,s.dK h2,s.lst h3,bj.nt h4 s,s.dK h5,h6,λi n a e1 e2=>s.lst (h7 i n a e1 e2)]
def bO.nt{o:Option (Xb)}(h:bO K H v o)(s:NT H G):bO K G v o:=by
 cases o with
 |none=>exact h
 |some ws=>
  let#[a,ys,e,ha,t]:=h;exact#[a,ys,e,s.lst ha,bj.nt t s]
def fO.nt{CG CW g p:Addr}{hs:Xa}{ts:Xb}{qs:aJ}{fp:ai}(h:fO K CG CW H g p hs ts qs fp)(s:NT H G):fO K CG CW G g p hs ts qs fp:=by
 let#[dx,dw,dy,vs,bq,h1,h2,h3,h4,h5,r]:=h.ex;exact#[dx,dw,dy,vs,bq,s _ _ h1 nofun,h2.nt s,s.dK h3,s.dK h4,Paired.bJ h5 λv q h=>h.nt s,r]
end
def WX{H:Hp}{T:Addr}{qual q':Str}{a a':Arguments}{b b':Expr}{sc Ln:Scope}{ps:Pos}{cl:List (Str × Addr)}{σ:St}{Q:VK}(h:cu H T qual)(e1:q'=qual)(e2:a'=a)(e3:b'=b)(e4:Ln=sc)(q:∀f c' H1,bf T H H1->cu H1 T qual->H1 f\kG f qual a b sc cl c'->H1 c'\Dx c' qual->Q (.ref f) H1):Gr T q' a' b' Ln ps cl σ H Q:=by
 subst e1 e2 e3 e4;let#[es,h,CF]:=h;apply#[_,h,YM es,?_];rcases _u ps es with e|⟨e,he,q1⟩
 ·apply .inl #[e,λc' f n1 n2 n3=>?_];have nT1:T≠c':=bB h n1;have nT2:T≠f:=bB h n2
  have B:bf T H (upd (upd (upd H T (.tbl ((ow es).toArray++(List.toArray [rawInt ps.line,rawInt ps.col,.ref c'])))) c' (Dx c' q')) f (kG f q' a' b' Ln cl c')):=λb o e n=>by
   rw[aD (bB e n2),aD (bB e n1),aD n];exact e
  apply q f c' _ B #[es++[(ps,c')],?_,λx hx=>?_] aE ?_
  ·rw[aD nT2,aD nT1,aE,Z4];simp
  ·rcases fB.mp hx with hx|hx
   ·exact B _ _ (CF x hx) (λz=>by have:=CF x hx;rw[z,h] at this;cases this)
   rw[oC.mp hx];show upd _ f _ c'=_;rw[aD n3,aE]
  rw[aD n3,aE]
 apply .inr #[e.2,q1,λf hf=>?_];let s:=aa.new (o:=kG f q' a' b' Ln cl e.2) hf;exact q f e.2 _ (bf.of s) #[es,s _ _ h,λx hx=>s _ _ (CF x hx)] aE (s _ _ (CF e he))
def gz{H:Hp}{T:Addr}{qual:Str}(h:cu H T qual):∃vs,H T\.tbl vs:=by
 let#[es,e,_]:=h;exact#[_,e]
def cu.but{H G:Hp}{T T':Addr}{q:Str}(h:cu H T q)(b:bf T' H G)(hT:∃vs,H T'\.tbl vs)(ne:T≠T'):cu G T q:=by
 let#[es,e,a]:=h;let#[vs,hT]:=hT;exact#[es,b _ _ e ne,λx hx=>b _ _ (a x hx) (λz=>by have:=a x hx;rw[z,hT] at this;cases this)]
def kF:Expr->Scope
 |.Lambda _ _ s _=>s
 |_=>aM hV
def HP:Expr->Expr
 |.Lambda _ b _ _=>b
 |e=>e
def HQ:Expr->Arguments
 |.Lambda a _ _ _=>a
 |_=>gY hV
def WE:Expr->Expr
 |.Call _ _ (k::_) _=>k.value
 |e=>e
def Hj(l:List Stmt)(i:Nat):Stmt:=l.getD i (.Pass #[0,0,0,0])
def RM:Stmt->Expr
 |.For _ i _ _ _=>i
 |_=>.Constant .none 0 #[0,0,0,0]
def OZ:Stmt->Expr
 |.Return (some e) _=>e
 |_=>.Constant .none 0 #[0,0,0,0]
def Hw{σ:St}{H:Hp}{k:ag->Hp->Prop}(h:k [] H):mj σ H k:=h
def A2{te:TE}{t:TA}{σ:St}{H:Hp}{k:ag->Hp->Prop}(h:te σ H λx H1=>t σ H1 λxs H2=>k (x::xs) H2):j9 te t σ H k:=h
abbrev gS(qs:aJ)(n:Str):Int:=strOf (qs.map eN) n
def kN(qs:aJ)(n:Str):ax:=[.inl (-(gS qs n)),.inr n]
def ki:ax->Str
 |[_,.inr n]=>n
 |_=>⟨#[]⟩
def qz(qs:aJ):ae:=(aN ((qs.map (·.1)).map (kN qs))).map ki
def HS(qs:aJ):V->ax
 |.str n=>kN qs n
 |_=>[]
def ZE{zs:ag}{ns:ae}(p:zs.Perm (ns.map V.str)):∃ms:ae,zs=ms.map V.str/\ms.Perm ns:=by
 have all:∀z∈zs,∃n,z=V.str n:=λz hz=>by
  let#[n,_,e]:=bo.mp (p.mem_iff.mp hz);exact#[n,e.symm]
 have mk:∀l:ag,(∀z∈l,∃n,z=V.str n)->∃ms:ae,l=ms.map V.str:=λl=>by
  induction l with
  |nil=>intro _;exact#[[],Z]
  |cons a r ih=>
   intro h;let#[n,rfl]:=h a fi;let#[ms,rfl]:=ih λz hz=>h z (fj _ hz);exact#[n::ms,Z]
 let#[ms,rfl]:=mk zs all;apply#[ms,Z,?_];have:=p.map (λv:V=>match v with | .str n=>n|_=>(⟨#[]⟩:Str));rw[bU,bU] at this;simpa [Function.comp_def] using this
def m7_{qs:aJ}{zs:ag}(p:zs.Perm ((qs.map (·.1)).map V.str))(e:zs.map (HS qs)=aN (((qs.map (·.1)).map V.str).map (HS qs))):zs=(qz qs).map V.str:=by
 let#[ms,rfl,_]:=ZE p;have e1:(ms.map V.str).map (HS qs)=ms.map (kN qs):=by rw[bU];rfl
 have e2:((qs.map (·.1)).map V.str).map (HS qs)=(qs.map (·.1)).map (kN qs):=by
  rw[bU];rfl
 rw[e1,e2] at e
 have em:(ms.map (kN qs)).map ki=ms:=by
  rw[bU];exact List.map_id' ms
 unfold qz;rw[<- e,em]
def J_(qs:aJ):(qz qs).Perm (qs.map (·.1)):=by
 unfold qz;let p:=(jN ((qs.map (·.1)).map (kN qs))).map ki
 have e:((qs.map (·.1)).map (kN qs)).map ki=qs.map (·.1):=by
  generalize qs.map (·.1)=ns;rw[bU];exact List.map_id' _
 rw[e] at p;exact p
def ee(qs:aJ)(f:az)(h:Str):ae:=(qz qs).filter λn=>decide (f n=h)
abbrev Ao:Str:="heaviest_first.<locals>.<lambda>"
def qu:Expr:=WE (RM (Hj (fg iI) 1))
abbrev C0:ae:=["goods"]
def JC:∀y∈(kF qu).names,y.2=.free->y.1∈C0:=by decide +kernel
def BF:Kp ["name"] C0 (kF qu):=#[by decide +kernel,Z,Z,Z,by decide +kernel,by decide +kernel,λx h=>JC (x,.free) (qT h) Z,by decide +kernel]
section v
inductive oW(K:af)(CG CW:Addr)(vs:ag)(gs:ag)(H:Hp)(Q:VK):Prop
 |mk:∀(g p:Addr) (q:Pc) (hs:Xa) (ts:Xb) (qs:aJ) (fp:ai),vs=[.str q.1]->gs=[.ref g]->fO K CG CW H g p hs ts qs fp->(qs.map (·.1)).Nodup->q∈qs->0<=q.2.1->q.2.1<=1000000000->(∀t,H t=none->Q (.ref t) (upd H t (.tup [.int (-q.2.1),.str q.1])))->oW K CG CW vs gs H Q
def Bv(K:af)(CG CW:Addr):ag->ag->Hp->VK->XK->Prop:=λvs gs H Q _=>oW K CG CW vs gs H Q
def k5_{CG CW CP:Addr}(T:dO K CG)(cW:!aZ CG 2 "weight" AY (DU K CG CW CP)):!ji 3 Ao (HQ qu) (HP qu) (kF qu) ["name"] C0 (Bv K CG CW):=by
 apply Aw BF (λpm c' kP cl us hl=>?_) (λA outer s H f cd cl vs gs Q E hr h hp=>?_)
 ·match us,hl with
  |[_],_=>rfl
 let#[g,p,q,hs,ts,qs,fp,rfl,rfl,G,nd,hq,w0,w1,k]:=h;let#[dx,dw,dy,vs,bq,h1,h2,_]:=id G.ex;apply#[_,dS %[Ws WO (eU cW T.cl hr (pv 1) %[0|0]),0|0],?_];have rH:(bZ p dw dy).lookup ("weight":Str)=none:=zt _ _ _ Z0 Z0 Z0;apply#[_,Z,g,dx,_,Z,h1,rH,_,Z,g,p,.str q.1,some q.1,hs,ts,qs,fp,Z,G,nd,Z,.inl #[q,hq,Z,?_]];exact#[_,Z,_,Z,zl,λt ht=>k t ht]
def Kf(L:Addr):List (Str × Addr):=[("goods",L+1)]
def TM{L f:Addr}{cd:Aa}:closureFor (kF qu) (PyProof.Rows.envOfC rR (aM iI) L f cd)=pure (Kf L):=by rfl
def TQ{L f:Addr}{cd:Aa}:∀q∈Kf L,(PyProof.Rows.envOfC rR (aM iI) L f cd).cells.lookup q.1\q.2:=by
 intro q hq;simp only[Kf,cc,List.not_mem_nil,or_false] at hq;rcases hq with rfl;rfl
def P5{L:Addr}:∀x∈C0,∃c,(Kf L).lookup x\c:=by
 intro x hx;simp only[C0,cc,List.not_mem_nil,or_false] at hx;rcases hx with rfl;exact#[_,Z]
def P1:∀x∈C0,(aM iI).names.lookup x\.cell:=by decide +kernel
def uh:bA ["goods","placed","found","piece"] lV (aM iI):=bI
def Ec(H:Hp)(ns:ae)(ad:Str->Addr)(g:Str->ae):Prop:=(∀h∈ns,H (ad h)\.lst ((g h).map V.str))/\∀h∈ns,∀h'∈ns,ad h=ad h'->h=h'
inductive oY(K:af)(CG CW T:Addr):Sp|k:∀(g p d:Addr)(hs:Xa)(ts:Xb)(qs:aJ)(fp:ai)(f:az),vs=[.ref g,.ref d]->sj K CG CW H g p d hs ts qs fp f->(∀q∈qs,0<=q.2.1/\q.2.1<=1000000000)->cu H T Ao->(∀d' ad H',bf T H H'->cu H' T Ao->H d'=none->H' d'\.dK (dR (aB hs) λh=>.ref (ad h))->Ec H' (aB hs) ad (ee qs f)->(∀h∈aB hs,H (ad h)=none)->Q (.ref d') H')->oY K CG CW T vs H Q E
def cu.putL{H:Hp}{T a:Addr}{q:Str}{xs:ag}{o:HO}(h:cu H T q)(ha:H a\.lst xs):cu (upd H a o) T q:=by
 let#[es,e,c]:=h;apply⟨es,by rw[aD (aR e ha nofun)];exact e,λx hx=>?_⟩;rw[aD (λz=>by have:=c x hx;rw[z,ha] at this;cases this)];exact c x hx
def Ds{H:Hp}{d:Addr}{ns:ae}{g:Str->V}{n:Str}(h:H d\.dK (dR ns g))(m:n∈ns):fq H d (.str n) (some (g n)):=by
 have:=fq.k (k:=Sum.inr n) h;rw[Nf m] at this;exact this
def Ib{qs:aJ}(nd:(qs.map (·.1)).Nodup){q:Pc}(h:q∈qs):gS qs q.1=q.2.1:=by
 apply jB_ ?_ (bo.mpr ⟨q,h,rfl⟩);rw[bU];exact nd
def lG_{f0 c0 CG CW CP T:Addr}{fd:Ae}(F:lI K rR rR iI f0 c0 fd)(B:Bi mg)(TG:dO K CG)(TW:Txt K mg CW)(hC:PySem.W.CodeHd base c0 T)(vN:base.BuiltinsAt mg T)(cH:!aZ CW 1 "hands" dG (Fj K CW))(cW:!aZ CG 2 "weight" AY (DU K CG CW CP)):
  ak P w K mg base bg 6 f0 fd lV (oY K CG CW T):=by
 apply F.ok uh (λvs H Q E h=>?_) (λA outer s H vs Q E hr h=>?_)
 ·let#[g,p,d,hs,ts,qs,fp,f,rfl,_]:=h;rfl
 let#[g,p,d,hs,ts,qs,fp,f,rfl,Pl,wq,tab,k]:=h;let hu:=gE hr;let sz:=cX;have fH:aI 1 _:=hr.mono (by decide);refine' ⟨_,ao ?s1 (ao ?s2 (aK ?s3)),?kk⟩
 case' s1=>refine' bC 2 uh.nd (sy (FD Z) (by rfl) B.dict Fp %[pX ["hand"] 1 [] (eS (j2 cH TW.cl fH (bP (pv 0) Z))) (λfp s H=>gy (i:=0) (show (["hand"]:ae).Nodup by decide +kernel) Z (Or.inl Z)) (λfp s H=>lW) (λfp s H=>?e1)|0])
 case e1=>exact dS %[0,dI aX|0]
 case' s2=>refine' gc fV Z (eS ?l2) (dF 3 uh.nd) (aK ?b2)
 case l2=>exact YA (px:="name") (cQ:=C0) (cl:=Kf s.heap.objs.size) (is:=[0]) (k:=3) Z (by rfl) B.sorted %[1|0] (Xp (WT (P:=T) (c:=c0) Z TM Z hC vN) WL) (k5_ TG cW) hr TQ P5 P1 Z
 case b2=>exact iX (jL jI xo xq v_ (lU hu (pv 2) (lU hu (pv 1) (pv 3))) %[3|0])
 case s3=>exact bw (pv 2)
 let nd:=Pl.Gd.qp;have n8:(aB hs).length<=8:=by have:=Pl.Gd.fF;have:=Pl.Gd.h8;omega
 let#[dx,dw,dy,vs,bq,h1,h2,h3,h4,h5,m1,m2,m3,m4,m5]:=id Pl.G.ex;let#[eW,d1,l2,d3,jR,as,ef,w1,_]:=id h2.ex;have gL:(cB d1 l2 d3).lookup ("hands":Str)=none:=iW _ _ _ Z0 Z0 Z0;apply#[_,Z,g,CG,dx,_,_,Z,h1,TG.cl,TG.nW,pY _ _ _,p,eW,_,Z,w1,gL,p,hs,ts,bq,Z,h2,λlh nh=>?_];let#[s1,e1]:=bS (X:=.lst ((aB hs).map V.str)) nh;generalize upd H lh _=H1 at s1 e1 ⊢;apply#[lh,Z,#[_,.of e1],λD hD=>?_]
 let bx:eI:=λi out H'=>∃ad:Str->Addr,aa H1 H'/\H' D\.lst out/\qY K H' out (dR ((aB hs).take i) λh=>.ref (ad h))/\Ec H' ((aB hs).take i) ad (λ_=>[])/\∀h∈(aB hs).take i,H1 (ad h)=none/\ad h≠D
 apply p0 (own:=1) (fv:=[]) (xs:=(aB hs).map V.str) Z gr bx #[λ_=>D,aa.new hD,aE,.nil,#[by simp,by simp],by simp] (λi out H' _ ⟨_,sm,_⟩=>.of (sm _ _ e1)) (λout H2 ⟨ad,s2,AN,pa,ls,fr⟩=>?_) (λi x out H' hx ⟨ad,sm,hd,pa,ls,fr⟩=>?_);rotate_left
 ·let#[n,hn,rfl]:=lZ hx;have nn:n∉(aB hs).take i:=Y8 nd hn;apply#[_,Z,Z,λNx hN=>fD ?_];apply#[_,Z,zl,λl nl=>?_];let#[s3,e3]:=bS (X:=.lst []) nl;generalize upd H' l _=H3 at s3 e3 ⊢;apply#[zl,λt nt=>?_];let#[s4,e4]:=bS (X:=.tup [.str n,.ref l]) nt;generalize upd H3 t _=H4 at s4 e4 ⊢;let rB:=s3.trans s4;let rQ:=rB _ _ hd;have lD:l≠D:=λz=>by rw[z,hd] at nl;cases nl
  have adl:∀h∈(aB hs).take i,ad h≠l:=λh hh z=>by
   have:=ls.1 h hh;rw[z,nl] at this;cases this
  let lo:=bG pa;rw[si,dZ] at lo
  have pD:∀{b:Addr} {zs:ag},H4 b\.tup zs->b≠D:=λhb z=>by
   rw[z,rQ] at hb;cases hb
  have ne:∀h∈(aB hs).take i,h≠n:=λh hh z=>nn (z▸hh);apply#[out,rQ,by omega,hN (out++[.ref t]) _ #[λm=>if m=n then l else ad m,jP (sm.trans rB) hD,aE,?_,#[λh hh=>?_,λh hh h' vH z=>?_],λh hh=>?_]]
  ·have e:dR ((aB hs).take (i+1)) (λh=>.ref (if h=n then l else ad h))=dR ((aB hs).take i) (λh=>.ref (ad h))++[(Sum.inr n,.ref l)]:=by
    rw[qS hn];unfold dR;rw[cZ,fK,List.map_nil];dsimp only;rw[aF Z];congr 1;exact p4 λm hm=>by rw[aA (ne m hm)]
   rw[e];exact iU (Paired.bJ pa λy kv ⟨b,z,hb⟩=>#[b,z,by rw[aD (pD (rB _ _ hb))];exact rB _ _ hb]) (.cons #[t,Z,by rw[aD (pD e4)];exact e4] .nil)
  ·rw[qS hn] at hh;rcases fB.mp hh with hh|hh
   ·dsimp only;rw[aA (ne h hh),aD (fr h hh).2];exact rB _ _ (ls.1 h hh)
   obtain rfl:h=n:=⇑hh
   dsimp only;rw[aF Z,aD lD];exact s4 _ _ e3
  ·rw[qS hn] at hh vH;dsimp only at z;rcases fB.mp hh with a1|a1<;>rcases fB.mp vH with a2|a2
   ·rw[aA (ne h a1),aA (ne h' a2)] at z;exact ls.2 h a1 h' a2 z
   ·have a2:h'=n:=⇑a2
    rw[aA (ne h a1),aF a2] at z;exact absurd z (adl h a1)
   ·have a1:h=n:=⇑a1
    rw[aA (ne h' a2),aF a1] at z;exact absurd z.symm (adl h' a2)
   rw[show h=n by simpa using a1,show h'=n by simpa using a2]
  rw[qS hn] at hh;dsimp only;rcases fB.mp hh with hh|hh
  ·rw[aA (ne h hh)];exact fr h hh
  obtain rfl:h=n:=⇑hh
  rw[aF Z];exact#[sm.free nl,lD]
 rw[aq,gG] at pa ls fr;apply#[D,out,_,Z,AN,pa,by rw[si];omega,λdf B6=>?_]
 have Ar:((dR (aB hs) λh=>V.ref (ad h)).map (·.1)).Nodup:=by
  rw[NG,wk,md];exact nd.imp λn e=>n (gX e)
 rw[Fy Ar];let#[s3,e3]:=bS (X:=.dK (dR (aB hs) λh=>V.ref (ad h))) B6;lk;generalize upd H2 df _=H3 at s3 e3 ⊢;let xZ:=(s1.trans s2).trans s3;have PJ:H df=none:=(s1.trans s2).free B6;have YD:∀h∈aB hs,H (ad h)=none:=λh hh=>s1.free (fr h hh).1;have Wk:∀h∈aB hs,H3 (ad h)\.lst []:=λh hh=>s3 _ _ (ls.1 h hh);let inj:=ls.2;clear s1 s2 s3 e1 pa ls fr AN nh hD B6;apply#[_,Z,Hw (A2 ?_)];apply WX (tab.same xZ) Z Z Z Z λfl c' H4 b4 gH vI EJ=>?_;let#[tv,hT]:=gz tab
 have neT:∀{b:Addr} {o:HO},H3 b\o->(∀vs,o≠.tbl vs)->b≠T:=λ{b o} e n z=>by
  rw[z,xZ _ _ hT] at e;exact n _ (c7 e).symm
 have Hk:NT H H4:=λb o e n=>b4 _ _ (xZ _ _ e) (neT (xZ _ _ e) n);have Wj:∀h∈aB hs,H4 (ad h)\.lst []:=λh hh=>b4 _ _ (Wk h hh) (neT (Wk h hh) nofun);let e4:=b4 _ _ e3 (neT e3 nofun);have zy:bf T H H4:=λb o e n=>b4 _ _ (xZ _ _ e) n;apply#[.ref d,fl,c',(qs.map (·.1)).map V.str,HS qs,[false,true],[.ref g],Z,Z,vI,EJ,.inr #[d,_,Z,Hk.dK Pl.hd,?_],by rw[aq,aq];exact Pl.dC,#[by decide,λk hk=>?_],Z,λH' x sm hx=>?_,λl zs H5 s5 nl Ep pz ek=>?_]
 ·show _=((qs.map (·.1)).map _).map _;generalize qs.map (·.1)=ns';rw[bU];rfl
 ·let#[v,hv,rfl]:=bo.mp hk;let#[n,_,rfl]:=bo.mp hv;rfl
 ·let#[n,hn,rfl]:=bo.mp hx;let#[q,hq,rfl]:=bo.mp hn;apply#[g,p,q,hs,ts,qs,fp,Z,Z,(Pl.G.nt Hk).same sm,Pl.nd,hq,(wq q hq).1,(wq q hq).2,λt nt=>#[aa.new nt,t,Z,?_]];rw[aE];show _\HO.tup [.int (-(gS qs q.1)),.str q.1];rw[Ib Pl.nd hq]
 rw[m7_ pz ek];let hl:=us H5 l (.lst ((qz qs).map V.str));have s6:aa H4 (upd H5 l (.lst ((qz qs).map V.str))):=s5.trans (aa.new nl)
 have B_:∀h∈aB hs,ad h≠l:=λh hh z=>by
  have:=Wj h hh;rw[z,Ep] at this;cases this
 generalize upd H5 l _=H6 at hl s6 ⊢
 have Wq:(qz qs).length<64:=by
  rw[(J_ qs).length_eq,aq];exact Pl.dC
 have dT:d≠T:=λz=>by
  have:=Pl.hd;rw[z,hT] at this;cases this
 let ck:bX:=λi σ H'=>∃v3:aQ,σ=[some (.ref g),some (.ref d),some (.ref df),v3]/\bf T H H'/\cu H' T Ao/\H' df\.dK (dR (aB hs) λh=>V.ref (ad h))/\H' l\.lst ((qz qs).map V.str)/\Ec H' (aB hs) ad (λh=>((qz qs).take i).filter λn=>decide (f n=h))
 apply#[l,Z,#[_,.of hl],jh (K:=K) (a:=l) (xs:=(qz qs).map V.str) ck #[none,Z,λb o e n=>s6 _ _ (zy b o e n),gH.same s6,s6 _ _ e4,hl,λh hh=>s6 _ _ (Wj h hh),inj] (λi σ H' _ ⟨_,_,_,_,_,z,_⟩=>.of z) ?_ ?_]
 ·rintro i x σ H' hx ⟨v3,rfl,bT,j8,vK,Mm,ls⟩;let#[n,hn,rfl]:=lZ hx;have nm:n∈qs.map (·.1):=(J_ qs).mem_iff.mp (dz hn);have fm:f n∈aB hs:=(iY hs).mem_iff.mpr (Pl.at_ n nm);let pN:=bT _ _ Pl.hd dT;let la:=ls.1 (f n) fm;lk;apply#[_,Z,_,Z,_,Z,d,_,Z,Ds pN nm,df,_,Z,Ds vK fm,.inl #[Z,_,.of la],_,Z,ad (f n),_,_,Z,Z,la,?_,?_]
  ·rw[aq];have:=List.length_filter_le (λn'=>decide (f n'=f n)) ((qz qs).take i);rw[dZ] at this;dsimp only;omega
  apply#[_,Z,λb o e ne=>?_,cu.putL j8 la,?_,?_,λh hh=>?_,inj]
  ·rw[aD (bB e (YD _ fm))];exact bT b o e ne
  ·rw[aD (aR vK la nofun)];exact vK
  ·rw[aD (B_ _ fm).symm];exact Mm
  by_cases z:h=f n
  ·subst z;dsimp only;rw[aE,qS hn,List.filter_append,D8 Z2,List.filter_nil,cZ];rfl
  dsimp only;rw[aD (λy=>z (inj h hh _ fm y)),qS hn,List.filter_append,D7 ⇑(λy=>z y.symm),List.filter_nil,wa];exact ls.1 h hh
 rintro σ H' ⟨v3,rfl,bT,j8,vK,Mm,ls⟩;rw[aq,gG] at ls;exact#[_,Z,k df ad H' bT j8 PJ vK ls YD]
end
abbrev mY:Stmt:=gx MP 0
abbrev uC:Stmt:=gx MP 1
abbrev nj:Stmt:=gx MP 2
abbrev xf:Stmt:=gx MP 3
def dM(g dl dv dp:Addr):List (Str × V):=aL C9 (.ref dp) (aL rT (.ref dv) (aL lX (.ref dl) (aL "wares" (.ref g) [])))
def gJ(g dl dv dp:Addr):(dM g dl dv dp).lookup ("wares":Str)\.ref g:=by
 unfold dM;rw[eZ,eZ,eZ,eZ,aA Z0,aA Z0,aA Z0,aF Z]
def GQ(g dl dv dp:Addr):(dM g dl dv dp).lookup (lX:Str)\.ref dl:=by
 unfold dM;rw[eZ,eZ,eZ,aA Z0,aA Z0,aF Z]
def OR(g dl dv dp:Addr):(dM g dl dv dp).lookup (rT:Str)\.ref dv:=by
 unfold dM;rw[eZ,eZ,aA Z0,aF Z]
def GP(g dl dv dp:Addr):(dM g dl dv dp).lookup (C9:Str)\.ref dp:=by
 unfold dM;rw[eZ,aF Z]
def EN(g dl dv dp:Addr){m:Str}(h1:¬m="wares")(h2:¬m=lX)(h3:¬m=rT)(h4:¬m=C9):(dM g dl dv dp).lookup m=none:=by
 unfold dM;rw[eZ,eZ,eZ,eZ,aA h4,aA h3,aA h2,aA h1];rfl
structure gA(K:af)(CS:Addr):Prop where
 cl:j6 K CS
 nW:ip K CS "wares"
 nL:ip K CS lX
 nV:ip K CS rT
 nP:ip K CS C9
structure Wd(hs:Xa)(ts:Xb)(qs:aJ)(f:az):Prop where
 Gd:Good hs ts
 nd:(qs.map (·.1)).Nodup
 dC:qs.length<64
 at_:∀n∈qs.map (·.1),f n∈hs.map (·.1)
 wq:∀q∈qs,0<=q.2.1/\q.2.1<=1000000000
structure jd(K:af)(CS CG CW:Addr)(H:Hp)(v g p:Addr)(hs:Xa)(ts:Xb)(qs:aJ)(fp:ai)(f:az):Prop where
 ex:∃(dx dl dv dp:Addr) (ad:Str->Addr),H v\.ins CS dx (dM g dl dv dp)/\fO K CG CW H g p hs ts qs fp/\H dl\.dK (vp hs qs f)/\H dv\.dK (dR (aB hs) λh=>.int (jw hs qs f h))/\H dp\.dK (dR (aB hs) λh=>.ref (ad h))/\∀h∈aB hs,H (ad h)\.lst ((ee qs f h).map V.str)
def jd.nt{K:af}{CS CG CW:Addr}{H G:Hp}{v g p:Addr}{hs:Xa}{ts:Xb}{qs:aJ}{fp:ai}{f:az}(S:jd K CS CG CW H v g p hs ts qs fp f)(s:NT H G):jd K CS CG CW G v g p hs ts qs fp f:=by
 let#[dx,dl,dv,dp,ad,h1,h2,h3,h4,h5,h6]:=S.ex;exact#[dx,dl,dv,dp,ad,s.ins h1,h2.nt s,s.dK h3,s.dK h4,s.dK h5,λh hh=>s.lst (h6 h hh)]
def jd.same{K:af}{CS CG CW:Addr}{H G:Hp}{v g p:Addr}{hs:Xa}{ts:Xb}{qs:aJ}{fp:ai}{f:az}(S:jd K CS CG CW H v g p hs ts qs fp f)(s:aa H G):jd K CS CG CW G v g p hs ts qs fp f:=S.nt (NT.of s)
abbrev lo(qs:aJ)(f:az)(h:Str):Int:=ld f (qs.map eN) h
def jJ(hs:Xa)(qs:aJ)(f:az)(a b:Str):Int:=lo qs f a * strOf hs b - lo qs f b * strOf hs a
def jC(hs:Xa)(a b:Str):Int:=strOf hs a+strOf hs b
section v
def xR:bA lC lC (aM mY):=bI
inductive M6(K:af)(CS CG CW T:Addr):Sp|k:∀(v dx g p d:Addr)(hs:Xa)(ts:Xb)(qs:aJ)(fp:ai)(f:az),vs=[.ref v,.ref g,.ref d]->H v\.ins CS dx []->v∉fp->sj K CG CW H g p d hs ts qs fp f->Wd hs ts qs f->cu H T Ao->(∀H',(∀b o,H b\o->b≠v->b≠T->H' b\o)->cu H' T Ao->jd K CS CG CW H' v g p hs ts qs fp f->Q .non H')->M6 K CS CG CW T vs H Q E
def iV_{f0 CS CG CW T:Addr}{fd:Ae}(F:bc K "__init__" "Sight.__init__" mY f0 fd)(TS:gA K CS)(KC:!bH 3 "loads_at" lV (KR K CG CW))(NJ:!bH 4 "levels_at" lV (NO K CG CW))(Uq:!bH 6 rR lV (oY K CG CW T)):
  ak P w K mg base bg 7 f0 fd lC (M6 K CS CG CW T):=by
 exists F.bN xR;let#[v,dx,g,p,d,hs,ts,qs,fp,f,rfl,hv,Eg,Pl,W,tab,k]:=h;refine' #[_,ao ?s1 (ao ?s2 (ao ?s3 (aK ?s4))),?kk]
 case s1=>exact iS (pv 0) (pv 1) Z
 case s2=>exact iS (pv 0) (bp KC hr %[1,2|0]) Z
 case s3=>exact iS (pv 0) (bp NJ hr %[1,2|0]) Z
 case s4=>exact iS (pv 0) (bp Uq hr %[1,2|0]) Z
 have dv:d≠v:=aR Pl.hd hv nofun;have vt:∀{G:Hp},(∀b o,H b\o->b≠v->G b\o)->sj K CG CW G g p d hs ts qs fp f:=λ{G} up=>#[Pl.G.keep (λb hb o e=>up b o e (λz=>Eg (z▸hb))) (λb xs e=>up b _ e (aR e hv nofun)),Pl.Gd,Pl.JX,up _ _ Pl.hd dv,Pl.at_,Pl.nd,Pl.dC];apply#[_,Z,_,Z,v,CS,dx,_,Z,hv,TS.cl,TS.nW,by show 0<1000;decide,?_];let#[up1,vA]:=lM H v (X:=.ins CS dx (aL "wares" (.ref g) []));have EO:∀{b},upd H v (.ins CS dx (aL "wares" (.ref g) [])) b=none->b≠v:=λ{b} e z=>by rw[z,aE] at e;cases e
 generalize upd H v _=H1 at up1 vA EO ⊢;apply#[_,Z,_,Z,g,p,d,hs,ts,qs,fp,f,Z,vt up1,λdl H2 s2 nl hl=>?_];let Qy:=s2 _ _ vA;have lv:dl≠v:=EO nl;apply#[_,Z,v,CS,dx,_,Z,Qy,TS.cl,TS.nL,by show 1<1000;decide,?_];have Oe:∀b o,H b\o->b≠v->upd H2 v (.ins CS dx (aL lX (.ref dl) (aL "wares" (.ref g) []))) b\o:=λb o e n=>by rw[aD n];exact s2 _ _ (up1 b o e n)
 let Xu:=us H2 v (.ins CS dx (aL lX (.ref dl) (aL "wares" (.ref g) [])));have JE:∀{b},upd H2 v (.ins CS dx (aL lX (.ref dl) (aL "wares" (.ref g) []))) b=none->b≠v:=λ{b} e z=>by rw[z,aE] at e;cases e
 have AF:upd H2 v (.ins CS dx (aL lX (.ref dl) (aL "wares" (.ref g) []))) dl\.dK (vp hs qs f):=by rw[aD lv];exact hl
 generalize upd H2 v _=H3 at Oe Xu JE AF ⊢;apply#[_,Z,_,Z,g,p,d,hs,ts,qs,fp,f,Z,vt Oe,W.wq,λde H4 s4 ne he=>?_];let hv4:=s4 _ _ Xu;have ev:de≠v:=JE ne;apply#[_,Z,v,CS,dx,_,Z,hv4,TS.cl,TS.nV,by show 2<1000;decide,?_];have wK:∀b o,H b\o->b≠v->upd H4 v (.ins CS dx (aL rT (.ref de) (aL lX (.ref dl) (aL "wares" (.ref g) [])))) b\o:=λb o e n=>by rw[aD n];exact s4 _ _ (Oe b o e n)
 let Xt:=us H4 v (.ins CS dx (aL rT (.ref de) (aL lX (.ref dl) (aL "wares" (.ref g) []))));have pS:∀{b},upd H4 v (.ins CS dx (aL rT (.ref de) (aL lX (.ref dl) (aL "wares" (.ref g) [])))) b=none->b≠v:=λ{b} e z=>by rw[z,aE] at e;cases e
 have IY:upd H4 v (.ins CS dx (aL rT (.ref de) (aL lX (.ref dl) (aL "wares" (.ref g) [])))) dl\.dK (vp hs qs f):=by rw[aD lv];exact s4 _ _ AF
 have Ms:upd H4 v (.ins CS dx (aL rT (.ref de) (aL lX (.ref dl) (aL "wares" (.ref g) [])))) de\.dK (dR (aB hs) λh=>.int (jw hs qs f h)):=by rw[aD ev];exact he
 generalize upd H4 v _=H5 at wK Xt pS IY Ms ⊢;let#[es,hT,Mu]:=id tab;have Tv:T≠v:=aR hT hv nofun;have Ou:cu H5 T Ao:=#[es,wK _ _ hT Tv,λe he=>wK _ _ (Mu e he) (λz=>by have:=Mu e he;rw[z,hv] at this;cases this)];let Pl5:=vt wK;apply#[_,Z,_,Z,g,p,d,hs,ts,qs,fp,f,Z,Pl5,W.wq,Ou,λdp ad H6 b6 Bl np hp ls fra=>?_];have Em:NT H5 H6:=b6.nt (wK _ _ hT Tv);let Mc:=Em.ins Xt;have pv':dp≠v:=pS np;have av:∀h∈aB hs,ad h≠v:=λh hh=>pS (fra h hh);apply#[_,Z,v,CS,dx,_,Z,Mc,TS.cl,TS.nP,by show 3<1000;decide,?_];apply k _ (λb o e n1 n2=>?_) ?_ #[dx,dl,de,dp,ad,aE,(Pl5.G.nt Em).keep (λb hb o e=>?_) (λb xs e=>?_),?_,?_,?_,λh hh=>?_]
 ·rw[aD n1];exact b6 _ _ (wK b o e n1) n2
 ·let#[es,e1,e2]:=Bl;exact#[es,by rw[aD (aR e1 Mc nofun)];exact e1,λe he=>by rw[aD (λz=>by have:=e2 e he;rw[z,Mc] at this;cases this)];exact e2 e he]
 ·rw[aD (λz:b=v=>Eg (z▸hb))];exact e
 ·rw[aD (aR e Mc nofun)];exact e
 ·rw[aD lv];exact Em.dK IY
 ·rw[aD ev];exact Em.dK Ms
 ·rw[aD pv'];exact hp
 rw[aD (av h hh)];exact ls.1 h hh
def uf:bA ["self","one","other","web"] lR (aM uC):=bI
inductive Ft(K:af)(CS CG CW:Addr):Sp|k:∀(v g p:Addr)(a b:Str)(hs:Xa)(ts:Xb)(qs:aJ)(fp:ai)(f:az),vs=[.ref v,.str a,.str b]->jd K CS CG CW H v g p hs ts qs fp f->Wd hs ts qs f->a∈aB hs->b∈aB hs->Q (.int (jJ hs qs f a b)) H->Ft K CS CG CW vs H Q E
def k4_{f0 CS CG CW:Addr}{fd:Ae}(F:bc K "lead" "Sight.lead" uC f0 fd)(TS:gA K CS)(TG:dO K CG)(TW:Txt K mg CW)(cS:!aZ CW 2 "strength" jK (DX K CW)):!ak bg 3 f0 fd lR (Ft K CS CG CW):=by
 exists F.bN uf;let#[v,g,p,a,b,hs,ts,qs,fp,f,rfl,S,W,ha,hb,k]:=h;let hu:=gE hr;refine' #[_,ao ?s1 (aK ?s2),?kk]
 case s1=>exact bC 3 uf.nd (bP (bP (pv 0) Z) Z)
 case s2=>exact bw (bV MF (bV sk (lU hu (bP (pv 0) Z) (pv 1)) (eU cS TW.cl hr (pv 3) %[2|0])) (bV sk (lU hu (bP (pv 0) Z) (pv 2)) (eU cS TW.cl hr (pv 3) %[1|0])))
 let#[dx,dl,dv,dp,ad,h1,G,h3,h4,h5,h6]:=S.ex;let#[fZ,dw,dy,vs,bq,g1,g2,_]:=id G.ex;let#[eW,d1,l2,d3,jR,as,ef,w1,_]:=id g2.ex;have gL:(cB d1 l2 d3).lookup ("strength":Str)=none:=iW _ _ _ Z0 Z0 Z0;let la:=Qc W.wq W.dC f a;let lb:=Qc W.wq W.dC f b;apply#[_,Z,v,CS,dx,_,_,Z,h1,TS.cl,TS.nW,gJ _ _ _ _,g,CG,fZ,_,_,Z,g1,TG.cl,TG.nW,pY _ _ _,?_];lk;apply#[_,Z,v,CS,dx,_,_,Z,h1,TS.cl,TS.nL,GQ _ _ _ _,_,Z,dl,_,Z,Ds h3 ha,_,Z,p,eW,_,Z,w1,gL,_,Z,p,b,strOf hs b,hs,ts,bq,Z,g2,W.Gd.yB,zw ((iY hs).mem_iff.mp hb),?_];apply#[_,_,Z,Z,.inl #[by omega,by omega],?_];apply#[_,Z,v,CS,dx,_,_,Z,h1,TS.cl,TS.nL,GQ _ _ _ _,_,Z,dl,_,Z,Ds h3 hb,_,Z,p,eW,_,Z,w1,gL,_,Z,p,a,strOf hs a,hs,ts,bq,Z,g2,W.Gd.yB,zw ((iY hs).mem_iff.mp ha),?_];exact#[_,_,Z,Z,.inl #[by omega,by omega],_,_,Z,Z,k]
def xU:bA lR lR (aM nj):=bI
inductive Nb(K:af)(CS CG CW:Addr):Sp|k:∀(v g p:Addr)(a b:Str)(hs:Xa)(ts:Xb)(qs:aJ)(fp:ai)(f:az),vs=[.ref v,.str a,.str b]->jd K CS CG CW H v g p hs ts qs fp f->Wd hs ts qs f->a∈aB hs->b∈aB hs->Q (.int (jC hs a b)) H->Nb K CS CG CW vs H Q E
def iM_{f0 CS CG CW:Addr}{fd:Ae}(F:bc K "joint_strength" "Sight.joint_strength" nj f0 fd)(TS:gA K CS)(TG:dO K CG)(TW:Txt K mg CW)(cS:!aZ CW 2 "strength" jK (DX K CW)):!ak bg 3 f0 fd lR (Nb K CS CG CW):=by
 exists F.bN xU;let#[v,g,p,a,b,hs,ts,qs,fp,f,rfl,S,W,ha,hb,k]:=h;refine' #[_,aK ?s2,?kk]
 case s2=>exact bw (bV jM (eU cS TW.cl hr (bP (bP (pv 0) Z) Z) %[1|0]) (eU cS TW.cl hr (bP (bP (pv 0) Z) Z) %[2|0]))
 let#[dx,dl,dv,dp,ad,h1,G,h3,h4,h5,h6]:=S.ex;let#[fZ,dw,dy,vs,bq,g1,g2,_]:=id G.ex;let#[eW,d1,l2,d3,jR,as,ef,w1,_]:=id g2.ex;have gL:(cB d1 l2 d3).lookup ("strength":Str)=none:=iW _ _ _ Z0 Z0 Z0;apply#[_,Z,v,CS,dx,_,_,Z,h1,TS.cl,TS.nW,gJ _ _ _ _,g,CG,fZ,_,_,Z,g1,TG.cl,TG.nW,pY _ _ _,p,eW,_,Z,w1,gL,_,Z,p,a,strOf hs a,hs,ts,bq,Z,g2,W.Gd.yB,zw ((iY hs).mem_iff.mp ha),?_];apply#[_,Z,v,CS,dx,_,_,Z,h1,TS.cl,TS.nW,gJ _ _ _ _,g,CG,fZ,_,_,Z,g1,TG.cl,TG.nW,pY _ _ _,p,eW,_,Z,w1,gL,_,Z,p,b,strOf hs b,hs,ts,bq,Z,g2,W.Gd.yB,zw ((iY hs).mem_iff.mp hb),?_];exact#[_,_,Z,Z,k]
end
def sx(a b:Str):decide (V.str a=V.str b)=decide (a=b):=by
 by_cases z:a=b
 ·simp[z]
 have:¬(V.str a=V.str b):=λe=>z (V.str.inj e);simp[z,this]
abbrev nb(hs:Xa)(ts:Xb)(h:Str):ae:=near (aB hs) (aO ts) h
def kR(hs:Xa)(qs:aJ)(f:az)(n:Str):ax:=[.inl (jw hs qs f n),.inr n]
def di(hs:Xa)(ts:Xb)(qs:aJ)(f:az)(h:Str):ae:=(aN ((nb hs ts h).map (kR hs qs f))).map ki
def HU(hs:Xa)(qs:aJ)(f:az):V->ax
 |.str n=>kR hs qs f n
 |_=>[]
def lx_{hs:Xa}{ts:Xb}{qs:aJ}{f:az}{h:Str}{zs:ag}(p:zs.Perm ((nb hs ts h).map V.str))(e:zs.map (HU hs qs f)=aN (((nb hs ts h).map V.str).map (HU hs qs f))):zs=(di hs ts qs f h).map V.str:=by
 let#[ms,rfl,_]:=ZE p;have e1:(ms.map V.str).map (HU hs qs f)=ms.map (kR hs qs f):=by rw[bU];rfl
 have e2:((nb hs ts h).map V.str).map (HU hs qs f)=(nb hs ts h).map (kR hs qs f):=by
  rw[bU];rfl
 rw[e1,e2] at e
 have em:(ms.map (kR hs qs f)).map ki=ms:=by
  rw[bU];exact List.map_id' ms
 unfold di;rw[<- e,em]
def Fw(hs:Xa)(ts:Xb)(qs:aJ)(f:az)(h:Str):(di hs ts qs f h).Perm (nb hs ts h):=by
 unfold di;let p:=(jN ((nb hs ts h).map (kR hs qs f))).map ki
 have e:((nb hs ts h).map (kR hs qs f)).map ki=nb hs ts h:=by
  rw[bU];exact List.map_id' _
 rw[e] at p;exact p
def Dq{hs:Xa}{ts:Xb}{h n:Str}(m:n∈nb hs ts h):n∈aB hs:=(List.mem_filter.mp m).1
def Fe(hs:Xa)(ts:Xb)(h:Str):(nb hs ts h).length<=(aB hs).length:=List.length_filter_le ..
abbrev kz:Str:="Sight.rising_neighbours.<locals>.<lambda>"
def qv:Expr:=WE (OZ (Hj (fg xf) 0))
abbrev C1:ae:=dG
def JD:∀y∈(kF qv).names,y.2=.free->y.1∈C1:=by decide +kernel
def BG:Kp ["other"] C1 (kF qv):=#[by decide +kernel,Z,Z,Z,by decide +kernel,by decide +kernel,λx h=>JD (x,.free) (qT h) Z,by decide +kernel]
section v
inductive oX(K:af)(CS CG CW:Addr)(vs:ag)(gs:ag)(H:Hp)(Q:VK):Prop
 |mk:∀(v g p:Addr) (n:Str) (hs:Xa) (ts:Xb) (qs:aJ) (fp:ai) (f:az),vs=[.str n]->gs=[.ref v]->jd K CS CG CW H v g p hs ts qs fp f->n∈aB hs->(∀t,H t=none->Q (.ref t) (upd H t (.tup [.int (jw hs qs f n),.str n])))->oX K CS CG CW vs gs H Q
def Bw(K:af)(CS CG CW:Addr):ag->ag->Hp->VK->XK->Prop:=λvs gs H Q _=>oX K CS CG CW vs gs H Q
def l4_{CS CG CW:Addr}(TS:gA K CS):!ji 1 kz (HQ qv) (HP qv) (kF qv) ["other"] C1 (Bw K CS CG CW):=by
 apply Aw BG (λpm c' kP cl us hl=>?_) (λA outer s H f0 cd cl vs gs Q E hr h hp=>?_)
 ·match us,hl with
  |[_],_=>rfl
 let#[v,g,p,n,hs,ts,qs,fp,f,rfl,rfl,S,hn,k]:=h;let hu:=gE hr;let#[dx,dl,dv,dp,ad,h1,G,h3,h4,h5,h6]:=S.ex;apply#[_,dS %[lU hu (bP (pv 1) Z) (pv 0),0|0],?_];exact#[_,Z,v,CS,dx,_,_,Z,h1,TS.cl,TS.nV,OR _ _ _ _,_,Z,dv,_,Z,Ds h4 hn,_,Z,zl,λt ht=>k t ht]
def Kg(L:Addr):List (Str × Addr):=[("self",L+1)]
def TN{L f:Addr}{cd:Aa}:closureFor (kF qv) (PyProof.Rows.envOfC "Sight.rising_neighbours" (aM xf) L f cd)=pure (Kg L):=by rfl
def TR{L f:Addr}{cd:Aa}:∀q∈Kg L,(PyProof.Rows.envOfC "Sight.rising_neighbours" (aM xf) L f cd).cells.lookup q.1\q.2:=by
 intro q hq;simp only[Kg,cc,List.not_mem_nil,or_false] at hq;rcases hq with rfl;rfl
def P6{L:Addr}:∀x∈C1,∃c,(Kg L).lookup x\c:=by
 intro x hx;simp only[C1,cc,List.not_mem_nil,or_false] at hx;rcases hx with rfl;exact#[_,Z]
def P2:∀x∈C1,(aM xf).names.lookup x\.cell:=by decide +kernel
def Bz:bA jK jK (aM xf):=bI
inductive J8(K:af)(CS CG CW T:Addr):Sp|k:∀(v g p:Addr)(h:Str)(hs:Xa)(ts:Xb)(qs:aJ)(fp:ai)(f:az),vs=[.ref v,.str h]->jd K CS CG CW H v g p hs ts qs fp f->Wd hs ts qs f->h∈aB hs->cu H T kz->(∀l H',bf T H H'->cu H' T kz->H l=none->H' l\.lst ((di hs ts qs f h).map V.str)->Q (.ref l) H')->J8 K CS CG CW T vs H Q E
def ky_{f0 c0 CS CG CW T:Addr}{fd:Ae}(F:lI K Df "Sight.rising_neighbours" xf f0 c0 fd)(B:Bi mg)(TS:gA K CS)(TG:dO K CG)(TW:Txt K mg CW)(hC:PySem.W.CodeHd base c0 T)(vN:base.BuiltinsAt mg T)(cN:!aZ CW 2 "neighbours" jK (Na K CW)):
  ak P w K mg base bg 4 f0 fd jK (J8 K CS CG CW T):=by
 apply F.ok Bz (λvs H Q E h=>?_) (λA outer s H vs Q E hr h=>?_)
 ·let#[v,g,p,h,hs,ts,qs,fp,f,rfl,_]:=h;rfl
 let#[v,g,p,h,hs,ts,qs,fp,f,rfl,S,W,hh,tab,k]:=h;have qB:aI 2 _:=hr.mono (by decide);refine' ⟨_,aK (bw ?l2),?kk⟩
 case l2=>exact YA (px:="other") (cQ:=C1) (cl:=Kg s.heap.objs.size) (is:=[0]) (k:=1) Z (by rfl) B.sorted %[eU cN TW.cl qB (bP (bP (pv 0) Z) Z) %[1|0]|0] (Xp (WT (P:=T) (c:=c0) Z TN Z hC vN) WL) (l4_ (CG:=CG) (CW:=CW) TS) hr TR P6 P2 Z
 let#[dx,dl,dv,dp,ad,h1,G,h3,h4,h5,h6]:=S.ex;let#[fZ,dw,dy,vs,bq,g1,g2,_]:=id G.ex;let#[eW,d1,l2,d3,jR,as,ef,w1,_]:=id g2.ex;have gL:(cB d1 l2 d3).lookup ("neighbours":Str)=none:=iW _ _ _ Z0 Z0 Z0;apply#[_,Z,v,CS,dx,_,_,Z,h1,TS.cl,TS.nW,gJ _ _ _ _,g,CG,fZ,_,_,Z,g1,TG.cl,TG.nW,pY _ _ _,p,eW,_,Z,w1,gL,_,Z,p,h,hs,ts,bq,Z,g2,W.Gd.qp,(iY hs).mem_iff.mp hh,λln nn=>?_];let#[s1,e1]:=bS (X:=.lst ((nb hs ts h).map V.str)) nn;show mj _ (upd H ln (.lst ((nb hs ts h).map V.str))) _;generalize upd H ln _=H1 at s1 e1 ⊢;apply Hw (A2 ?_);apply WX (tab.same s1) Z Z Z Z λfl c' H4 b4 gH vI EJ=>?_;let#[tv,hT]:=gz tab;have Hk:NT H1 H4:=b4.nt (s1 _ _ hT);let S4:=(S.same s1).nt Hk;have n8:(nb hs ts h).length<=8:=by have:=Fe hs ts h;have:=W.Gd.fF;have:=W.Gd.h8;omega
 apply#[.ref ln,fl,c',(nb hs ts h).map V.str,HU hs qs f,[false,true],[.ref v],Z,Z,vI,EJ,.inl #[ln,Z,.of (Hk.lst e1)],by rw[aq];omega,#[by decide,λk hk=>?_],Z,λH' x sm hx=>?_,λl zs H5 s5 nl Ep pz ek=>?_]
 ·let#[v,hv,rfl]:=bo.mp hk;let#[n,_,rfl]:=bo.mp hv;rfl
 ·let#[n,hn,rfl]:=bo.mp hx;apply#[v,g,p,n,hs,ts,qs,fp,f,Z,Z,S4.same sm,Dq hn,λt nt=>#[aa.new nt,t,Z,?_]];rw[aE];rfl
 rw[lx_ pz ek];have s6:aa H4 (upd H5 l (.lst ((di hs ts qs f h).map V.str))):=s5.trans (aa.new nl);apply k l _ (λb o e n=>s6 _ _ (b4 _ _ (s1 _ _ e) n)) (gH.same s6) ?_ aE;cases z:H l with
 |none=>rfl
 |some o=>
  by_cases y:l=T
  ·let#[es,e,_]:=gH;rw[y,e] at Ep;cases Ep
  rw[b4 _ _ (s1 _ _ z) y] at Ep;cases Ep
def BJ:bA p9 p9 (aM uJ):=bI
def qH(g:Str)(a b:Int):Bool:=if g="high" then decide (0<a) else if g="fall" then decide (b<2 * a) else decide (b<=a)
def tP:Sp:=λvs H Q _=>∃(g:Str) (a b:Int),vs=[.str g,.int a,.int b]/\Q (.bl (qH g a b)) H
def kz_{f0:Addr}{fd:Ae}(F:bc K "fits" "fits" uJ f0 fd):!ak bg 1 f0 fd p9 tP:=by
 exists F.bN BJ;let#[g,a,b,rfl,k]:=h;refine' #[_,ao ?s1 (ao ?s2 (aK ?s3)),?kk]
 case s1=>exact bQ (dm jZ (pv 0) bL) (aK (bw (sd C5 (pv 1) aH))) bR
 case s2=>exact bQ (dm jZ (pv 0) bL) (aK (bw (sd C5 (bV sk aH (pv 1)) (pv 2)))) bR
 case s3=>exact bw (sd Qj (pv 1) (pv 2))
 unfold qH at k;apply#[_,Z,Z,_,Z,?_];rw[sx];apply br (λc=>?_) (λc=>?_)
 ·have c:g="high":=zd c;rw[aF c] at k;exact#[_,Z,_,_,Z,Z,k]
 have c:¬g="high":=λz=>c (cj z);rw[aA c] at k;apply#[_,Z,Z,_,Z,?_];rw[sx];apply br (λc=>?_) (λc=>?_)
 ·have c:g="fall":=zd c;rw[aF c] at k;exact#[_,Z,_,_,Z,Z,.inl #[by decide,by decide],_,Z,_,_,Z,Z,k]
 have c:¬g="fall":=λz=>c (cj z);rw[aA c] at k;exact#[_,Z,_,Z,_,_,Z,Z,k]
end
abbrev Mv:=Str × Str × Str
def kM(m:Mv):ax:=[.inr m.1,.inr m.2.1,.inr m.2.2]
def Ob(qs:aJ)(n:Str):Option (Xb):=match qs.find? λq=>decide (q.1=n) with
 |some q=>q.2.2
 |none=>none
def Ww{qs:aJ}(nd:(qs.map (·.1)).Nodup){q:Pc}(h:q∈qs):Ob qs q.1=q.2.2:=by
 unfold Ob;cases e:qs.find? λp=>decide (p.1=q.1) with
 |none=>
  have:=List.find?_eq_none.mp e q h;simp at this
 |some p=>
  let a:=List.mem_of_find?_eq_some e;let b:=List.find?_some e;have b:p.1=q.1:=zd b;rw[Ti nd a h b]
def nK(hs:Xa)(ts:Xb)(qs:aJ)(n a b:Str):Bool:=EM hs ts (Ob qs n) (some a) (some b)
def rJ(hs:Xa)(ts:Xb)(qs:aJ)(f:az)(gd:Str)(gv:ae)(a b n:Str):Bool:=!decide (n∈gv)&&(qH gd (jJ hs qs f a b) (gS qs n * jC hs a b)&&nK hs ts qs n a b)
def gM(hs:Xa)(ts:Xb)(qs:aJ)(f:az)(gd:Str)(gv:ae)(a b:Str):List Mv:=match (ee qs f a).find? (rJ hs ts qs f gd gv a b) with
 |some n=>[(n,a,b)]
 |none=>[]
def Yo{α:Type}{p:α->Bool}:∀{l:List α}{i:Nat}{x:α},l[i]? = some x->p x=true->(∀y∈l.take i,p y=false)->l.find? p\x
 |a::l,0,x,h,hp,_=>by
  cases h;rw[List.find?_cons_of_pos hp]
 |a::l,i+1,x,h,hp,hn=>by
  have na:¬p a=true:=by rw[hn a Z2];decide
  rw[List.find?_cons_of_neg na];exact Yo ⇑h hp λy hy=>hn y (by simp[hy])
 |[],i,x,h,_,_=>by simp at h
def DM{qs:aJ}{f:az}{h n:Str}(m:n∈ee qs f h):n∈qs.map (·.1)/\f n=h:=by
 let#[a,b]:=List.mem_filter.mp m;exact#[(J_ qs).mem_iff.mp a,zd b]
section v
def o4:bA ["sight","one","other","guard","given","lead","joint","piece"] lE (aM BQ):=bI
inductive kb(K:af)(CS CG CW:Addr):Sp|k:∀(v g p lg:Addr)(a b gd:Str)(gv:ae)(hs:Xa)(ts:Xb)(qs:aJ)(fp:ai)(f:az),vs=[.ref v,.str a,.str b,.str gd,.ref lg]->jd K CS CG CW H v g p hs ts qs fp f->Wd hs ts qs f->a∈aB hs->b∈aB hs->H lg\.lst (gv.map V.str)->(∀l ys H',aa H H'->H l=none->H' l\.lst ys->bj K H' ys ((gM hs ts qs f gd gv a b).map kM)->Q (.ref l) H')->kb K CS CG CW vs H Q E
def lX_{f0 CS CG CW CP:Addr}{fd:Ae}(F:bc K "heaviest_move" "heaviest_move" BQ f0 fd)(TS:gA K CS)(TG:dO K CG)(cL:!aZ CS 3 "lead" lR (Ft K CS CG CW))(cJ:!aZ CS 3 "joint_strength" lR (Nb K CS CG CW))(cF:!bH 1 "fits" p9 tP)(cW:!aZ CG 2 "weight" AY (DU K CG CW CP))(cM:!aZ CG 3 "may_go" qa (MU K CG CW CP)):
  ak P w K mg base bg 4 f0 fd lE (kb K CS CG CW):=by
 exists F.bN o4;let#[v,g,p,lg,a,b,gd,gv,hs,ts,qs,fp,f,rfl,S,W,ha,hb,hg,k]:=h;let hu:=gE hr;let sz:=cX;have qB:aI 2 _:=hr.mono (by decide);refine' #[_,?r0,?kk]
 case' r0=>refine' ao ?s1 ?r1
 case' r1=>refine' ao ?s2 ?r2
 case' r2=>refine' ao ?s3 (aK ?s4)
 case s1=>exact bC 5 o4.nd (eU cL TS.cl hr (pv 0) %[1,2|0])
 case s2=>exact bC 6 o4.nd (eU cJ TS.cl hr (pv 0) %[1,2|0])
 case' s3=>refine' gc fV Z (eS (lU hu (bP (pv 0) Z) (pv 1))) (dF 7 o4.nd) (aK ?b3)
 case' b3=>refine' bQ (PW.pt (JI ?c1 (Nh ?c2))) (aK ?b4) bR
 case c1=>exact dm (ZU il (oy hr 0)) (pv 7) (pv 4) (by with_unfolding_all rfl)
 case c2=>exact fo (bp cF hr %[3,5,bV sk (eU cW TG.cl qB (bP (pv 0) Z) %[7|0]) (pv 6)|0])
 case b4=>exact bQ (fo (eU cM TG.cl hr (bP (pv 0) Z) %[7,1,2|0])) (aK (bw (dI %[dS %[7,1,2|0]|0]))) bR
 case s4=>exact bw (dI aX)
 let#[dx,dl,dv,dp,ad,h1,G,h3,h4,h5,h6]:=S.ex;have no:∀{m:Str},¬m="wares"->¬m=lX->¬m=rT->¬m=C9->(dM g dl dv dp).lookup m=none:=λa b c d=>EN _ _ _ _ a b c d;apply#[_,Z,v,dx,_,Z,h1,no Z0 Z0 Z0 Z0,_,Z,_,Z,v,g,p,a,b,hs,ts,qs,fp,f,Z,S,W,ha,hb,?_];lk;apply#[_,Z,v,dx,_,Z,h1,no Z0 Z0 Z0 Z0,_,Z,_,Z,v,g,p,a,b,hs,ts,qs,fp,f,Z,S,W,ha,hb,?_];lk;let hl:=h6 a ha
 let bx:bX:=λi σ H'=>∃v7:aQ,σ=[some (.ref v),some (.str a),some (.str b),some (.str gd),some (.ref lg),some (.int (jJ hs qs f a b)),some (.int (jC hs a b)),v7]/\aa H H'/\∀n∈(ee qs f a).take i,rJ hs ts qs f gd gv a b n=false
 apply#[_,Z,v,CS,dx,_,_,Z,h1,TS.cl,TS.nP,GP _ _ _ _,_,Z,dp,_,Z,Ds h5 ha,ad a,Z,#[_,.of hl],jh (K:=K) (a:=ad a) (xs:=(ee qs f a).map V.str) bx #[none,Z,aa.refl H,by simp] (λi σ H' _ ⟨_,_,sm,_⟩=>.of (sm _ _ hl)) ?_ ?_]
 ·rintro i x σ H' hx ⟨v7,rfl,sm,nf⟩;let#[n,hn,rfl]:=lZ hx;let#[nm,fn]:=DM (dz hn);let#[q,hq,rfl]:=bo.mp nm;let G':=G.same sm;let pR:=sm _ _ h1;let#[fZ,dw,dy,vs,bq,g1,g2,_]:=id G'.ex;have Qw:(bZ p dw dy).lookup ("weight":Str)=none:=zt _ _ _ Z0 Z0 Z0;have QP:(bZ p dw dy).lookup ("may_go":Str)=none:=zt _ _ _ Z0 Z0 Z0;let wq:=W.wq q hq;let ew:=Ib W.nd hq;let ey:=Ww W.nd hq
  have go:∀{H2:Hp},aa H' H2->rJ hs ts qs f gd gv a b q.1=false->∃v7:aQ,[some (V.ref v),some (V.str a),some (V.str b),some (V.str gd),some (V.ref lg),some (V.int (jJ hs qs f a b)),some (V.int (jC hs a b)),some (V.str q.1)]=[some (V.ref v),some (V.str a),some (V.str b),some (V.str gd),some (V.ref lg),some (V.int (jJ hs qs f a b)),some (V.int (jC hs a b)),v7]/\aa H H2/\∀n∈(ee qs f a).take (i+1),rJ hs ts qs f gd gv a b n=false:=λ{H2} s2 e=>#[_,Z,sm.trans s2,λm hm=>by
   rw[qS hn] at hm;rcases fB.mp hm with hm|hm
   ·exact nf m hm
   rw[oC.mp hm];exact e]
  lk;apply#[_,Z,_,Z,q.1,gv,Z,#[lg,_,Z,.of (sm _ _ hg),Kb gv],_,Z,?_];rw[aF Z];apply br (λc=>?_) (λc=>?_)
  ·have c:¬q.1∈gv:=⇑c
   apply#[_,Z,_,Z,_,Z,v,CS,dx,_,_,Z,pR,TS.cl,TS.nW,gJ _ _ _ _,g,fZ,_,Z,g1,Qw,_,Z,g,p,.str q.1,some q.1,hs,ts,qs,fp,Z,G',W.nd,Z,.inl #[q,hq,Z,?_]];apply#[_,Z,_,_,Z,Z,.inl #[by omega,by omega],gd,jJ hs qs f a b,q.2.1 * jC hs a b,Z,_,Z,?_];apply br (λc2=>?_) (λc2=>?_)
   ·apply#[_,Z,v,CS,dx,_,_,Z,pR,TS.cl,TS.nW,gJ _ _ _ _,g,fZ,_,Z,g1,QP,_,Z,_,Z,_,Z,g,p,.str q.1,.str a,.str b,some q.1,some a,some b,hs,ts,qs,fp,Z,G',W.nd,W.Gd.qp,Z,.inl #[q,hq,Z,Z,Z,λH2 s2=>#[_,Z,?_]]];apply br (λc3=>?_) (λc3=>?_)
    ·have pt:rJ hs ts qs f gd gv a b q.1=true:=by
      unfold rJ nK;rw[ew,ey,c2,d7 c];simpa using c3
     apply#[_,Z,_,Z,_,Z,zl,λt nt=>?_];let#[s3,e3]:=bS (X:=.tup [.str q.1,.str a,.str b]) nt;generalize upd H2 t _=H3 at s3 e3 ⊢;apply#[zl,λl nl=>?_];let s4:=aa.new (o:=.lst [.ref t]) nl;let Ek:=(sm.trans s2).trans s3;apply k l [.ref t] _ (Ek.trans s4) (Ek.free nl) aE ?_;unfold gM;rw[Yo hn pt nf];exact .cons #[t,Z,s4 _ _ e3] .nil
    apply go s2 ?_;unfold rJ nK;rw[ew,ey,c2];have c3:EM hs ts q.2.2 (some a) (some b)=false:=⇑c3
    rw[c3,Bool.and_false,Bool.and_false]
   apply go (aa.refl H') ?_;unfold rJ;rw[ew,show qH gd (jJ hs qs f a b) (q.2.1 * jC hs a b)=false by simpa using c2,Bool.false_and,Bool.and_false]
  have c:q.1∈gv:=⇑c
  apply go (aa.refl H') ?_;unfold rJ;rw[cj c];rfl
 rintro σ H' ⟨v7,rfl,sm,nf⟩;rw[aq,gG] at nf;apply#[zl,λl nl=>?_];apply k l [] _ (sm.trans (aa.new nl)) (sm.free nl) aE ?_;unfold gM;rw[List.find?_eq_none.mpr λn hn=>by rw[nf n hn];decide];exact .nil
def xt(hs:Xa)(ts:Xb)(qs:aJ)(f:az)(gd h:Str):List Mv:=match di hs ts qs f h with
 |[]=>[]
 |o::_=>gM hs ts qs f gd [] h o
def _m:bA ["sight","hand","guard","around"] EV (aM SS):=bI
inductive ka(K:af)(CS CG CW T:Addr)(mv:Xa->Xb->aJ->(Str->Str)->Str->Str->List Mv):Sp|k:∀(v g p:Addr)(h gd:Str)(hs:Xa)(ts:Xb)(qs:aJ)(fp:ai)(f:az),vs=[.ref v,.str h,.str gd]->jd K CS CG CW H v g p hs ts qs fp f->Wd hs ts qs f->h∈aB hs->cu H T kz->(∀l ys H',bf T H H'->cu H' T kz->H l=none->H' l\.lst ys->bj K H' ys ((mv hs ts qs f gd h).map kM)->Q (.ref l) H')->ka K CS CG CW T mv vs H Q E
def bf.new{T l:Addr}{H G:Hp}(b:bf T H G)(hT:∃vs,G T\.tbl vs)(n:G l=none):H l=none:=by
 cases z:H l with
 |none=>rfl
 |some o=>
  by_cases y:l=T
  ·let#[vs,e]:=hT;rw[y,e] at n;cases n
  rw[b _ _ z y] at n;cases n
def gq_{f0 CS CG CW T:Addr}{fd:Ae}(F:bc K "moves_by_least" "moves_by_least" SS f0 fd)(TS:gA K CS)(cR:!aZ CS 4 Df jK (J8 K CS CG CW T))(cH:!bH 4 "heaviest_move" lE (kb K CS CG CW)):!ak bg 5 f0 fd EV (ka K CS CG CW T xt):=by
 exists F.bN _m;let#[v,g,p,h,gd,hs,ts,qs,fp,f,rfl,S,W,hh,tab,k]:=h;refine' #[_,ao ?s1 (ao ?s2 (aK ?s3)),?kk]
 case s1=>exact bC 3 _m.nd (eU cR TS.cl hr (pv 0) %[1|0])
 case s2=>exact bQ (dm (W6 il (oy hr 0)) (pv 3) (dI aX)) (aK (bw (dI aX))) bR
 case s3=>exact bw (bp cH hr %[0,1,bE iF (pv 3) aH,2,dI aX|0])
 let#[dx,dl,dv,dp,ad,h1,G,h3,h4,h5,h6]:=S.ex;apply#[_,Z,v,dx,_,Z,h1,EN _ _ _ _ Z0 Z0 Z0 Z0,_,Z,v,g,p,h,hs,ts,qs,fp,f,Z,S,W,hh,tab,λl1 H1 b1 xE n1 e1=>?_];lk;let#[tv,hT]:=gz tab;let S1:=S.nt (b1.nt hT);apply#[_,Z,zl,λl2 n2=>?_];let#[s2,e2]:=bS (X:=.lst []) n2;generalize upd H1 l2 _=H2 at s2 e2 ⊢;let SJ:=s2 _ _ e1;have b2:bf T H H2:=λb o e n=>s2 _ _ (b1 _ _ e n);let mi:=xE.same s2;let Hc:=Fw hs ts qs f h;apply#[di hs ts qs f h,[],ZM SJ,ZM e2,_,Z,?_];cases z:di hs ts qs f h with
 |nil=>
  apply cz #[zl,λl3 n3=>?_];let s3:=aa.new (o:=.lst []) n3;apply k l3 [] _ (λb o e n=>s3 _ _ (b2 _ _ e n)) (mi.same s3) (bf.new b2 (gz mi) n3) aE ?_;unfold xt;rw[z];exact .nil
 |cons o r=>
  rw[d7 Z2];apply a_ ?_;rw[z] at SJ Hc;have ob:o∈aB hs:=Dq (Hc.mem_iff.mp fi);apply#[_,Z,_,Z,_,Z,l1,_,0,.str o,Z,Z,.of SJ,L2.fU (j:=0) Z,_,Z,zl,λl3 n3=>?_];let#[s3,e3]:=bS (X:=.lst []) n3;generalize upd H2 l3 _=H3 at s3 e3 ⊢;apply#[v,g,p,l3,h,o,gd,[],hs,ts,qs,fp,f,Z,(S1.same s2).same s3,W,hh,ob,e3,λl ys H4 s4 nl hl tu=>?_];let rB:=s3.trans s4;apply k l ys H4 (λb o e n=>rB _ _ (b2 _ _ e n)) (mi.same rB) (bf.new b2 (gz mi) (s3.free nl)) hl ?_;unfold xt;rw[z];exact tu
end
end Ev
abbrev eR:=List Ev.Mv
namespace Ev
open PySem L2
abbrev Bc:=Rl->Xa->Xb->aJ->(Str->Str)->Str->eR
def Fs(mv:Bc)(r:Rl)(hs:Xa)(ts:Xb)(qs:aJ)(f:az):eR:=if r.2.2.1="one" then ((aB hs).flatMap (mv r hs ts qs f)).take 1 else (aB hs).flatMap (mv r hs ts qs f)
def A1:Bc:=λr hs ts qs f h=>xt hs ts qs f (r.2.2.2.getD "") h
def Xk:∀r∈rl,r.2.1≠"shares"->r.2.2.2.isSome=true:=by decide +kernel
def se(hs:Xa)(ts:Xb)(qs:aJ)(f:az)(gd:Str)(gv:ae)(a b:Str):(gM hs ts qs f gd gv a b).length<=1:=by
 unfold gM;split
 ·exact bD 1
 exact gQ 1
def h2_(r:Rl)(hs:Xa)(ts:Xb)(qs:aJ)(f:az)(h:Str):(A1 r hs ts qs f h).length<=1:=by
 unfold A1 xt;split
 ·exact gQ 1
 exact se ..
def Yw{α:Type}{g:Str->List α}{n:Nat}(h:∀x,(g x).length<=n):∀l:ae,(l.flatMap g).length<=n * l.length
 |[]=>by simp
 |a::l=>by
  have:=h a;let ih:=Yw h l;rw[List.flatMap_cons,dE,jf,Nat.mul_succ];omega
section v
def SV:bA xb xb (aM Ku):=bI
inductive xu(K:af)(CS CG CW T:Addr)(pr:Rl->Prop)(mv:Bc):Sp|k:∀(v g p aw:Addr)(h:Str)(hs:Xa)(ts:Xb)(qs:aJ)(fp:ai)(f:az),∀r∈rl,vs=[.ref v,.str h,.ref aw]->pr r->(∀H',iw K H' aw [.str r.2.1,.str r.2.2.1,va r.2.2.2])->jd K CS CG CW H v g p hs ts qs fp f->Wd hs ts qs f->h∈aB hs->cu H T kz->(∀l ys H',bf T H H'->cu H' T kz->H l=none->H' l\.lst ys->bj K H' ys ((mv r hs ts qs f h).map kM)->Q (.ref l) H')->xu K CS CG CW T pr mv vs H Q E
def gl_{f0 CS CG CW T:Addr}{fd:Ae}(F:bc K "moves_from" "moves_from" Ku f0 fd)(cL:!bH 5 "moves_by_least" EV (ka K CS CG CW T xt)):!ak bg 6 f0 fd xb (xu K CS CG CW T (λr=>r.2.1="least") A1):=by
 exists F.bN SV;let#[v,g,p,aw,h,hs,ts,qs,fp,f,r,eA,rfl,le,ha,S,W,hh,tab,k]:=h;refine' #[_,ao ?s1 fC,?kk]
 case s1=>exact bQ (dm jZ (bE cg (pv 2) aH) bL) (aK (bw (bp cL hr %[0,1,bE cg (pv 2) aH|0]))) bR
 let so:=Xk r eA (by rw[le];decide +kernel);let#[gd,eg]:=wg.mp so;apply#[_,Z,aw,_,_,_,Z,Z,ha _,Z,Z,_,Z,?_];rw[sx,cj le];apply cz ?_;apply#[_,Z,_,Z,_,Z,aw,_,_,.str gd,Z,Z,ha _,?_,v,g,p,h,gd,hs,ts,qs,fp,f,Z,S,W,hh,tab,λl ys H' b t n e tu=>k l ys H' b t n e ?_]
 ·rw[eg];rfl
 unfold A1;rw[eg];exact tu
def MX:bA ["sight","rule","moment","words","moves","hand"] yZ (aM ko):=bI
inductive mz(K:af)(CS CG CW T:Addr)(pr:Rl->Prop)(mv:Bc):Sp|k:∀(v g p:Addr)(m:Int)(hs:Xa)(ts:Xb)(qs:aJ)(fp:ai)(f:az),∀r∈rl,vs=[.ref v,.str r.1,.int m]->pr r->jd K CS CG CW H v g p hs ts qs fp f->Wd hs ts qs f->cu H T kz->(∀l ys H',bf T H H'->cu H' T kz->H l=none->H' l\.lst ys->bj K H' ys ((Fs mv r hs ts qs f).map kM)->Q (.ref l) H')->mz K CS CG CW T pr mv vs H Q E
def l0_{f0 CS CG CW T:Addr}{fd:Ae}{pr:Rl->Prop}{mv:Bc}(F:bc K "moves_seen" "moves_seen" ko f0 fd)(TS:gA K CS)(TG:dO K CG)(TW:Txt K mg CW)(npr:∀r,pr r->r.2.1≠"turns")(hb:∀r hs ts qs f h,Wd hs ts qs f->(mv r hs ts qs f h).length<=1000)(Kq:!bH 2 Di ["rule"] (Ky K))(cH:!aZ CW 1 "hands" dG (Fj K CW))(cF:!bH 6 "moves_from" xb (xu K CS CG CW T pr mv)):
  ak P w K mg base bg 7 f0 fd yZ (mz K CS CG CW T pr mv):=by
 exists F.bN MX;let#[v,g,p,m,hs,ts,qs,fp,f,r,eA,rfl,hp,S,W,tab,k]:=h;let sz:=cX;have fH:aI 1 _:=hr.mono (by decide);refine' #[_,?r0,?kk]
 case' r0=>refine' ao ?s1 ?r1
 case' r1=>refine' ao ?s2 ?r2
 case' r2=>refine' ao ?s3 ?r3
 case' r3=>refine' ao ?s4 (aK ?s5)
 case s1=>exact bC 3 MX.nd (bp Kq hr %[1|0])
 case s2=>exact bQ (dm jZ (bE cg (pv 3) aH) bL) fC bR
 case s3=>exact bC 4 MX.nd (dI aX)
 case' s4=>refine' gc fV Z (eS (j2 cH TW.cl fH (bP (bP (pv 0) Z) Z))) (dF 5 MX.nd) (ao ?b1 (aK ?b2))
 case b1=>exact iX (jL jI DC DD DP (pv 4) %[bp cF hr %[0,5,3|0]|0])
 case b2=>exact bQ (PW.pt (JI (dm jZ (bE cg (pv 3) aH) bL) (Nh (dm (YZ (oy hr 0)) (pv 4) (dI aX))))) (aK (bw (FF Fg (pv 4) Fo (Fn aH)))) bR
 case s5=>exact bw (pv 4)
 apply#[_,Z,r,eA,Z,λaw ha=>?_];lk;apply#[_,Z,aw,_,_,_,Z,Z,ha _,Z,Z,_,Z,?_];rw[sx,d7 (npr r hp)];apply a_ ?_;apply#[zl,λlm nm=>?_];lk;let#[s1,e1]:=bS (X:=.lst []) nm;generalize upd H lm _=H1 at s1 e1 ⊢;let#[dx,dl,dv,dp,ad,h1,G,h3,h4,h5,h6]:=(S.same s1).ex;let#[fZ,dw,dy,vs,bq,g1,g2,_]:=id G.ex;let#[eW,d1,l2,d3,jR,as,ef,w1,_]:=id g2.ex;have gL:(cB d1 l2 d3).lookup ("hands":Str)=none:=iW _ _ _ Z0 Z0 Z0;apply#[_,Z,v,CS,dx,_,_,Z,h1,TS.cl,TS.nW,gJ _ _ _ _,g,CG,fZ,_,_,Z,g1,TG.cl,TG.nW,pY _ _ _,p,eW,_,Z,w1,gL,p,hs,ts,bq,Z,g2,λlh nh=>?_];let#[s2,e2]:=bS (X:=.lst ((aB hs).map V.str)) nh;generalize upd H1 lh _=H2 at s2 e2 ⊢;have lmh:lm≠lh:=bB e1 nh;let cq:=s1.trans s2;let#[tv,hT]:=gz tab;have neT:∀{b:Addr} {xs:ag},H2 b\.lst xs->b≠T:=λe z=>by rw[z,cq _ _ hT] at e;cases e
 have n8:(aB hs).length<=8:=by have:=W.Gd.fF;have:=W.Gd.h8;omega
 have bound:∀i,(((aB hs).take i).flatMap (mv r hs ts qs f)).length<=8000:=λi=>by
  have:=Yw (g:=mv r hs ts qs f) (n:=1000) (λx=>hb r hs ts qs f x W) ((aB hs).take i);rw[dZ] at this;omega
 let bx:bX:=λi σ H'=>∃(v5:aQ) (ys:ag),σ=[some (.ref v),some (.str r.1),some (.int m),some (.ref aw),some (.ref lm),v5]/\bf T H H'/\cu H' T kz/\H' lh\.lst ((aB hs).map V.str)/\H' lm\.lst ys/\bj K H' ys ((((aB hs).take i).flatMap (mv r hs ts qs f)).map kM)/\(r.2.2.1="one"->((aB hs).take i).flatMap (mv r hs ts qs f)=[])
 apply#[lh,Z,#[_,.of e2],jh (K:=K) (a:=lh) (xs:=(aB hs).map V.str) bx #[none,[],Z,λb o e n=>cq _ _ e,tab.same cq,e2,s2 _ _ e1,.nil,λ_=>rfl] (λi σ H' _ ⟨_,_,_,_,_,z,_⟩=>.of z) ?_ ?_]
 ·rintro i x σ H' hx ⟨v5,ys,rfl,bT,j8,vF,vE,tu,one⟩;let#[n,hn,rfl]:=lZ hx;let Px:=dz hn;lk;let S':=S.nt (bT.nt hT);apply#[_,Z,.inl #[Z,_,.of vE],_,Z,_,Z,_,Z,v,g,p,aw,n,hs,ts,qs,fp,f,r,eA,Z,hp,ha,S',W,Px,j8,λl zs H3 b3 hJ nl hl tz=>?_];let#[tv',EL]:=gz j8;let kB:=b3.nt EL;let yH:=kB.lst vE;let wL:=bj.nt tu kB;have lT:l≠T:=λz=>by rw[z,EL] at nl;cases nl
  have LW:lm≠l:=bB vE nl;let UL:=bound i;let ly:=bG tu;let lz:=bG tz;rw[aq] at ly lz;let bz:=hb r hs ts qs f n W;apply#[lm,l,ys,zs,Z,Z,yH,hl,by omega,?_];let e4:=us H3 lm (.lst (ys++zs))
  have b4:bf T H (upd H3 lm (.lst (ys++zs))):=λb o e ne=>by
   rw[aD (bB e nm)];exact b3 _ _ (bT _ _ e ne) ne
  have gH:cu (upd H3 lm (.lst (ys++zs))) T kz:=cu.putL hJ yH
  have Cz:upd H3 lm (.lst (ys++zs)) lh\.lst ((aB hs).map V.str):=by
   rw[aD lmh.symm];exact kB.lst vF
  have fl:((aB hs).take (i+1)).flatMap (mv r hs ts qs f)=((aB hs).take i).flatMap (mv r hs ts qs f)++mv r hs ts qs f n:=by
   rw[qS hn,List.flatMap_append,List.flatMap_cons,List.flatMap_nil,wa]
  have oN:bj K (upd H3 lm (.lst (ys++zs))) (ys++zs) ((((aB hs).take (i+1)).flatMap (mv r hs ts qs f)).map kM):=by
   rw[fl,cZ];exact iU (k_ wL yH) (k_ tz yH)
  generalize upd H3 lm _=H4 at e4 b4 gH Cz oN ⊢;dsimp only;apply#[_,Z,aw,_,_,_,Z,Z,ha _,Z,Z,_,Z,?_];rw[sx];apply br (λc=>?_) (λc=>?_)
  ·have c:r.2.2.1="one":=zd c;apply#[_,Z,zl,λle ne=>?_];let#[s5,e5]:=bS (X:=.lst []) ne;generalize upd H4 le _=H5 at s5 e5 ⊢;apply#[lm,le,ys++zs,Z,Z,.of (s5 _ _ e4),.of e5,_,Z,?_];let ll:=bG oN;rw[aq] at ll;apply br (λc2=>?_) (λc2=>?_)
   ·apply#[_,Z,_,Z,lm,_,Z,.of (s5 _ _ e4),λlq nq=>?_];rw[show fe (ys++zs) none (some 1)=(ys++zs).take 1 from Tw (ys++zs) 1];let s6:=aa.new (o:=.lst ((ys++zs).take 1)) nq;let GU:=s5.trans s6;have b6:bf T H (upd H5 lq (.lst ((ys++zs).take 1))):=λb o e n=>GU _ _ (b4 _ _ e n);apply k lq _ _ b6 (gH.same GU) (bf.new (T:=T) (G:=H5) (λb o e n=>s5 _ _ (b4 _ _ e n)) (gz (gH.same s5)) nq) aE ?_;unfold Fs;rw[aF c]
    have nz:((aB hs).take (i+1)).flatMap (mv r hs ts qs f)≠[]:=λz=>by
     rw[z,vZ] at ll;have y:ys++zs=[]:=D6.mp ll;rw[y] at c2;simp at c2
    have e7:((aB hs).flatMap (mv r hs ts qs f)).take 1=(((aB hs).take (i+1)).flatMap (mv r hs ts qs f)).take 1:=by
     conv=>lhs;rw[<- List.take_append_drop (i+1) (aB hs),List.flatMap_append]
     cases z:((aB hs).take (i+1)).flatMap (mv r hs ts qs f) with
     |nil=>exact absurd z nz
     |cons a b=>rfl
    rw[e7,List.map_take];exact NW 1 (oN.same GU)
   have z:ys++zs=[]:=⇑c2
   apply#[_,_,Z,λb o e n=>s5 _ _ (b4 _ _ e n),gH.same s5,s5 _ _ Cz,s5 _ _ e4,oN.same s5,λ_=>?_];rw[z,vZ] at ll;exact D6.mp ll.symm
  apply#[_,_,Z,b4,gH,Cz,e4,oN,λz=>absurd (cj z) c]
 rintro σ H' ⟨v5,ys,rfl,bT,j8,vF,vE,tu,one⟩;rw[aq,gG] at tu one;apply#[_,Z,k lm ys H' bT j8 nm vE ?_];unfold Fs;by_cases c:r.2.2.1="one"
 ·rw[aF c];have:=one c;rw[this] at tu ⊢;exact tu
 rw[aA c];exact tu
end
structure jQ(P:Ad)(w:Af)(K:af)(mg:Str->Option Aa)(base:Heap)(C:Addr)(k:Nat)(x:Str)(ps:ae)(sp:Sp):Prop where
 ex:∃f fd,ak P w K mg base bg k f fd ps sp/\Mk K C f/\mg x\.ref C/\kX K fd ps []
def Jz{n_:Nat}{X:Cx}{C:Addr}{k:Nat}{x:Str}{ps:ae}{sp:Sp}{p pos:Pos}{e:Expr}{es:List Expr}{t:TA}(c:jQ X.prog X.w X.K X.mg X.base C k x ps sp)(hr:aI n_ X.A)(ha:PA X (e::es) t)(hg:Gl X x:=by rfl)(qG:(x == ("__debug__":Str))=false:=by decide)
 (he:starEach (e::es) X.env=(false,eval e X.env)::starEach es X.env:=by rfl)(fX:(backTo pos (starEach es X.env)).any (·.1)=false:=by rfl)(hk:(k+1)<=n_:=by decide):PE X (.Call (.Name x p) (e::es) [] pos) (zR C sp [] E0 t):=by
 let#[f,fd,F,M,m,b]:=c.ex;exact kp_ M F (hr.mono hk) hg m b .nil pA ha qG he fX
section v
def tZ:bA ["thing","least"] ["thing","least"] (aM SE):=bI
def ZS:Sp:=λvs H Q _=>∃i a:Int,vs=[.int i,.int a]/\Q (.bl (decide (a<=i))) H
def gR_{f0:Addr}{fd:Ae}(F:bc K "is_whole_from" "is_whole_from" SE f0 fd)(cI:!bH 1 "is_whole" f_ tN):!ak bg 2 f0 fd ["thing","least"] ZS:=by
 exists F.bN tZ;let#[i,a,rfl,k]:=h;apply#[_,aK (bw (qO (bp cI hr %[0|0]) (qQ (sd AU (pv 1) (pv 0))))),?_];exact#[_,Z,i,Z,_,Z,cz #[_,Z,_,Z,_,_,Z,Z,k]]
def eW':bA f_ f_ (aM Ud):=bI
structure Stn(K:af)(CG CW:Addr)(H:Hp)(g p d:Addr)(hs:Xa)(ts:Xb)(qs:aJ)(fp:ai)(ns:ae)(f:az):Prop where
 G:fO K CG CW H g p hs ts qs fp
 JX:d∉fp
 hd:H d\.dK (gf ns f)
 so:zD hs qs ns f
 has:∀b∈fp,∃o,H b\o/\∀vs,o≠.tbl vs
structure Tb(H:Hp)(T1 T2:Addr):Prop where
 a:cu H T1 Ao
 b:cu H T2 kz
 ne:T1≠T2
end
def pU(hs:Xa)(ts:Xb)(qs:aJ)(f:az)(gd h:Str):eR->ae->eR
 |ms,[]=>ms
 |ms,o::l=>if 0<jJ hs qs f h o then pU hs ts qs f gd h (ms++gM hs ts qs f gd (ms.map (·.1)) h o) l else pU hs ts qs f gd h ms l
def Fk(hs:Xa)(ts:Xb)(qs:aJ)(f:az)(gd h:Str):eR:=pU hs ts qs f gd h [] (di hs ts qs f h)
section v
def Nt:bA ["sight","hand","guard","moves","other","given"] EV (aM SW):=bI
def gp_{f0 CS CG CW T:Addr}{fd:Ae}(F:bc K "moves_by_below" "moves_by_below" SW f0 fd)(TS:gA K CS)(cR:!aZ CS 4 Df jK (J8 K CS CG CW T))(cL:!aZ CS 3 "lead" lR (Ft K CS CG CW))(cH:!bH 4 "heaviest_move" lE (kb K CS CG CW)):!ak bg 5 f0 fd EV (ka K CS CG CW T Fk):=by
 exists F.bN Nt;let#[v,g,p,h,gd,hs,ts,qs,fp,f,rfl,S,W,hh,tab,k]:=h;let sz:=cX;have Cp:aI 3 _:=hr.mono (by decide);refine' #[_,ao ?s1 (ao ?s2 (aK ?s3)),?kk]
 case s1=>exact bC 3 Nt.nd (dI aX)
 case' s2=>refine' gc fV Z (eS (eU cR TS.cl hr (pv 0) %[1|0])) (dF 4 Nt.nd) (aK (bQ ?t1 (ao ?b1 (aK ?b2)) bR))
 case t1=>exact dm C5 (eU cL TS.cl Cp (pv 0) %[1,4|0]) aH
 case b1=>exact Nj (i:=5) ["move"] 1 [] Nt.nd Z (Or.inl Z) (eS (pv 3)) (λfp s H=>gy (i:=0) (show (["move"]:ae).Nodup by decide +kernel) Z (Or.inl Z)) (λfp s H=>lW) (λfp s H=>bE (Cg (K:=K) ql cg) (pv 0) aH)
 case b2=>exact iX (jL jI DC DD DP (pv 3) %[bp cH hr %[0,1,4,2,5|0]|0])
 case s3=>exact bw (pv 3)
 have n8:(aB hs).length<=8:=by have:=W.Gd.fF;have:=W.Gd.h8;omega
 apply#[zl,λlm nm=>?_];lk;let#[s1,e1]:=bS (X:=.lst []) nm;generalize upd H lm _=H1 at s1 e1 ⊢;let S1:=S.same s1;let xE:=tab.same s1;let#[dx,dl,dv,dp,ad,h1,G,h3,h4,h5,h6]:=S1.ex;apply#[_,Z,v,dx,_,Z,h1,EN _ _ _ _ Z0 Z0 Z0 Z0,_,Z,v,g,p,h,hs,ts,qs,fp,f,Z,S1,W,hh,xE,λl1 H2 b2 mi n1 e2=>?_];let#[tv,hT]:=gz xE;let#[xD,rN]:=gz mi;let En:=b2.nt hT;let S2:=S1.nt En;let m2:=En.lst e1;have LW:lm≠l1:=bB e1 n1;let Hc:=Fw hs ts qs f h;have Eu:∀x∈di hs ts qs f h,x∈aB hs:=λx hx=>Dq (Hc.mem_iff.mp hx)
 have ll:(di hs ts qs f h).length<=8:=by
  rw[Hc.length_eq];have:=Fe hs ts h;omega
 have bT:bf T H H2:=λb o e n=>b2 _ _ (s1 _ _ e) n
 let bx:bX:=λi σ H'=>∃(v4 v5:aQ) (ys:ag) (ms:eR),σ=[some (.ref v),some (.str h),some (.str gd),some (.ref lm),v4,v5]/\bf T H H'/\cu H' T kz/\H' l1\.lst ((di hs ts qs f h).map V.str)/\H' lm\.lst ys/\bj K H' ys (ms.map kM)/\ms.length<=i/\pU hs ts qs f gd h ms ((di hs ts qs f h).drop i)=Fk hs ts qs f gd h
 apply#[l1,Z,#[_,.of e2],jh (K:=K) (a:=l1) (xs:=(di hs ts qs f h).map V.str) bx #[none,none,[],[],Z,bT,mi,e2,m2,.nil,bD _,Z] (λi σ H' _ ⟨_,_,_,_,_,_,_,z,_⟩=>.of z) ?_ ?_]
 ·rintro i x σ H3 hx ⟨v4,v5,ys,ms,rfl,KU,hJ,l3,m3,t3,P0,eq3⟩;let#[o,ho,rfl]:=lZ hx;have hi:i<(di hs ts qs f h).length:=(cK.mp ho).1;let om:=Eu o (dz ho)
  have dr:(di hs ts qs f h).drop i=o::(di hs ts qs f h).drop (i+1):=by
   let#[h1,h2]:=cK.mp ho;rw[List.drop_eq_getElem_cons h1,h2]
  rw[dr] at eq3;let#[tv0,hT0]:=gz tab;let S3:=S.nt (KU.nt hT0);let#[E9,_,_,_,_,k1,_]:=S3.ex;let ly:=bG t3;rw[aq] at ly;lk;apply#[_,Z,v,E9,_,Z,k1,EN _ _ _ _ Z0 Z0 Z0 Z0,_,Z,_,Z,v,g,p,h,o,hs,ts,qs,fp,f,Z,S3,W,hh,om,_,_,Z,Z,_,Z,?_];apply br (λc=>?_) (λc=>?_)
  ·have c:0<jJ hs qs f h o:=⇑c
   have eq3:pU hs ts qs f gd h (ms++gM hs ts qs f gd (ms.map (·.1)) h o) ((di hs ts qs f h).drop (i+1))=Fk hs ts qs f gd h:=by
    rw[pU,aF c] at eq3;exact eq3
   apply#[_,Z,lm,Z,#[_,.of m3],λD hD=>?_]
   let ck:eI:=λj out H'=>aa H3 H'/\H' D\.lst out/\out=((ms.map (·.1)).take j).map V.str
   apply p0 (own:=1) (fv:=[]) (xs:=ys) Z gr ck #[aa.new hD,aE,Z] (λj out H' _ ⟨sm,_⟩=>.of (sm _ _ m3)) (λout H4 ⟨s4,d4,eo⟩=>?_) (λj x out H' hx ⟨sm,hd,eo⟩=>?_);rotate_left
   ·let#[q,hq,a,rfl,ha]:=oA t3 hx;have hj:j<ms.length:=(cK.mp hq).1;apply#[_,Z,Z,λNx hN=>fD ?_];apply#[_,Z,a,_,0,.str q.1,Z,Z,.of (sm _ _ ha),L2.fU (j:=0) Z,out,hd,?_,hN (out++[.str q.1]) _ #[jP sm hD,aE,?_]]
    ·rw[eo,aq,dZ];omega
    rw[eo,qS (show (ms.map (·.1))[j]? = some q.1 by rw[d0,hq];rfl),cZ];rfl
   rw[ly,xv (by rw[aq];exact bD _)] at eo;subst eo;lk;let m4:=s4 _ _ m3;apply#[_,Z,.inl #[Z,_,.of m4],?_];apply#[_,Z,_,Z,_,Z,_,Z,_,Z,v,g,p,D,h,o,gd,ms.map (·.1),hs,ts,qs,fp,f,Z,S3.same s4,W,hh,om,d4,λl5 zs H5 s5 n5 e5 t5=>?_];let wO:=s4.trans s5;let m5:=wO _ _ m3;let lz:=bG t5;let hl:=se hs ts qs f gd (ms.map (·.1)) h o;rw[aq] at lz;apply#[lm,l5,ys,zs,Z,Z,m5,e5,by omega,?_];apply#[_,_,ys++zs,ms++gM hs ts qs f gd (ms.map (·.1)) h o,Z,λb u e n=>?_,cu.putL (hJ.same wO) m5,?_,aE,?_,?_,eq3]
   ·rw[aD (bB e nm)];exact wO _ _ (KU _ _ e n)
   ·rw[aD LW.symm];exact wO _ _ l3
   ·rw[cZ];exact iU (k_ (t3.same wO) m5) (k_ t5 m5)
   rw[dE];omega
  have c:¬0<jJ hs qs f h o:=⇑c
  apply#[_,_,ys,ms,Z,KU,hJ,l3,m3,t3,by omega,?_];rw[pU,aA c] at eq3;exact eq3
 rintro σ H3 ⟨v4,v5,ys,ms,rfl,KU,hJ,l3,m3,t3,P0,eq3⟩;rw[aq,List.drop_length] at eq3;apply#[_,Z,k lm ys H3 KU hJ nm m3 ?_];rw[<- eq3];exact t3
end
def DG:Bc:=λr hs ts qs f h=>Fk hs ts qs f (r.2.2.2.getD "") h
def R0{hs:Xa}{ts:Xb}{qs:aJ}{f:az}{gd h:Str}:∀(l:ae)(ms:eR),(pU hs ts qs f gd h ms l).length<=ms.length+l.length
 |[],ms=>bD _
 |o::l,ms=>by
  rw[pU,jf];split
  ·let h1:=R0 (hs:=hs) (ts:=ts) (qs:=qs) (f:=f) (gd:=gd) (h:=h) l (ms++gM hs ts qs f gd (ms.map (·.1)) h o);let h2:=se hs ts qs f gd (ms.map (·.1)) h o;rw[dE] at h1;omega
  let h1:=R0 (hs:=hs) (ts:=ts) (qs:=qs) (f:=f) (gd:=gd) (h:=h) l ms;omega
def gH_(r:Rl)(hs:Xa)(ts:Xb)(qs:aJ)(f:az)(h:Str)(W:Wd hs ts qs f):(DG r hs ts qs f h).length<=8:=by
 unfold DG Fk;let h1:=R0 (hs:=hs) (ts:=ts) (qs:=qs) (f:=f) (gd:=r.2.2.2.getD "") (h:=h) (di hs ts qs f h) [];let h2:=(Fw hs ts qs f h).length_eq;let h3:=Fe hs ts h;let h4:=W.Gd.fF;let h5:=W.Gd.h8;rw[vZ] at h1;omega
section v
def gw_{f0 CS CG CW T:Addr}{fd:Ae}(F:bc K "moves_from" "moves_from" Ku f0 fd)(cL:!bH 5 "moves_by_below" EV (ka K CS CG CW T Fk)):!ak bg 6 f0 fd xb (xu K CS CG CW T (λr=>r.2.1="below") DG):=by
 exists F.bN SV;let#[v,g,p,aw,h,hs,ts,qs,fp,f,r,eA,rfl,le,ha,S,W,hh,tab,k]:=h;refine' #[_,ao ?s0 (ao ?s1 fC),?kk]
 case s0=>exact bQ (dm jZ (bE cg (pv 2) aH) bL) fC bR
 case s1=>exact bQ (dm jZ (bE cg (pv 2) aH) bL) (aK (bw (bp cL hr %[0,1,bE cg (pv 2) aH|0]))) bR
 let so:=Xk r eA (by rw[le];decide +kernel);let#[gd,eg]:=wg.mp so;have ln:¬r.2.1="least":=by rw[le];decide +kernel
 apply#[_,Z,aw,_,_,_,Z,Z,ha _,Z,Z,_,Z,?_];rw[sx,d7 ln];apply a_ ?_;apply#[_,Z,aw,_,_,_,Z,Z,ha _,Z,Z,_,Z,?_];rw[sx,cj le];apply cz ?_;apply#[_,Z,_,Z,_,Z,aw,_,_,.str gd,Z,Z,ha _,?_,v,g,p,h,gd,hs,ts,qs,fp,f,Z,S,W,hh,tab,λl ys H' b t n e tu=>k l ys H' b t n e ?_]
 ·rw[eg];rfl
 unfold DG;rw[eg];exact tu
end
def yY(hs:Xa)(ts:Xb):Int:=((gm hs ts).max?).getD 0
def la_{hs:Xa}{ts:Xb}{m:Int}(h1:m∈gm hs ts)(h2:∀a∈gm hs ts,a<=m):m=yY hs ts:=by
 unfold yY;rw[List.max?_eq_some_iff.mpr #[h1,h2]];rfl
def kM_{hs:Xa}{ts:Xb}(G:Good hs ts){m:Int}(h:m∈gm hs ts):0<=m/\m<=8:=by
 let#[n,_,rfl]:=bo.mp h;let h1:=Fe hs ts n;let h2:=G.fF;let h3:=G.h8;show 0<=((nb hs ts n).length:Int)/\((nb hs ts n).length:Int)<=8;omega
def iU_{hs:Xa}{ts:Xb}(G:Good hs ts){a b:Str}(ha:a∈aB hs)(hb:b∈aB hs):2<=jC hs a b/\jC hs a b<=2000:=by
 let h1:=zr G ha;let h2:=zr G hb;unfold jC;omega
def tU(wt:Str->Int)(ok:Str->Bool):Int->ae->ae
 |_,[]=>[]
 |l,n::ns=>if (ok n&&decide (wt n<=l))=true then n::tU wt ok (l - wt n) ns else tU wt ok l ns
def Fi(wt:Str->Int)(ok:Str->Bool):∀(l:Int)(ns:ae),(tU wt ok l ns).Sublist ns
 |_,[]=>.slnil
 |l,n::ns=>by
  unfold tU;split
  ·exact (Fi wt ok _ ns).cons_cons n
  exact (Fi wt ok _ ns).cons n
def gI(hs:Xa)(ts:Xb)(qs:aJ)(gv:ae)(a b n:Str):Bool:=!decide (n∈gv)&&nK hs ts qs n a b
def tT(hs:Xa)(ts:Xb)(qs:aJ)(f:az)(a b:Str):Int:=jJ hs qs f a b / (jC hs a b * (yY hs ts+1))
def GN(hs:Xa)(ts:Xb)(qs:aJ)(f:az)(gv:ae)(a b:Str):ae:=tU (gS qs) (gI hs ts qs gv a b) (tT hs ts qs f a b) (ee qs f a)
abbrev to3(a b:Str)(n:Str):Mv:=(n,a,b)
def wN(hs:Xa)(ts:Xb)(qs:aJ)(f:az)(gv:ae)(a b:Str):eR:=(GN hs ts qs f gv a b).map (to3 a b)
def Yy{hs:Xa}{ts:Xb}{qs:aJ}{f:az}(W:Wd hs ts qs f)(a:Str):(ee qs f a).length<=63:=by
 have h1:(ee qs f a).length<=(qz qs).length:=List.length_filter_le ..;let h2:=(J_ qs).length_eq;rw[aq] at h2;have:=W.dC;omega
def XE{hs:Xa}{ts:Xb}{qs:aJ}{f:az}(W:Wd hs ts qs f)(gv:ae)(a b:Str):(wN hs ts qs f gv a b).length<=63:=by
 unfold wN;rw[aq];have:=(Fi (gS qs) (gI hs ts qs gv a b) (tT hs ts qs f a b) (ee qs f a)).length_le;let h2:=Yy W a;unfold GN;omega
def Yc{α:Type}{l:List α}{i:Nat}{x:α}(h:l[i]? = some x):l.drop i=x::l.drop (i+1):=by
 let#[h1,h2]:=cK.mp h;rw[List.drop_eq_getElem_cons h1,h2]
section v
abbrev OQ:ae:=["sight","one","other","given","parts","left","moves","piece","weight"]
def Dm:bA OQ ["sight","one","other","given"] (aM BO):=bI
inductive tI(K:af)(CS CG CW:Addr):Sp|k:∀(v g p lg:Addr)(a b:Str)(gv:ae)(hs:Xa)(ts:Xb)(qs:aJ)(fp:ai)(f:az),vs=[.ref v,.str a,.str b,.ref lg]->jd K CS CG CW H v g p hs ts qs fp f->Wd hs ts qs f->a∈aB hs->b∈aB hs->H lg\.lst (gv.map V.str)->(∀l ys H',aa H H'->H l=none->H' l\.lst ys->bj K H' ys ((wN hs ts qs f gv a b).map kM)->Q (.ref l) H')->tI K CS CG CW vs H Q E
def lw_{f0 CS CG CW CP:Addr}{fd:Ae}(F:bc K "share_moves" "share_moves" BO f0 fd)(TS:gA K CS)(TG:dO K CG)(TW:Txt K mg CW)(cL:!aZ CS 3 "lead" lR (Ft K CS CG CW))(cJ:!aZ CS 3 "joint_strength" lR (Nb K CS CG CW))(cN:!aZ CW 1 "most_neighbours" dG (mE K CW))(cW:!aZ CG 2 "weight" AY (DU K CG CW CP))(cM:!aZ CG 3 "may_go" qa (MU K CG CW CP)):
  ak P w K mg base bg 4 f0 fd ["sight","one","other","given"] (tI K CS CG CW):=by
 exists F.bN Dm;let#[v,g,p,lg,a,b,gv,hs,ts,qs,fp,f,rfl,S,W,ha,hb,hg,k]:=h;let hu:=gE hr;let sz:=cX;have fH:aI 1 _:=hr.mono (by decide);have qB:aI 2 _:=hr.mono (by decide);refine' #[_,?r0,?kk]
 case' r0=>refine' ao ?s1 ?r1
 case' r1=>refine' ao ?s2 ?r2
 case' r2=>refine' ao ?s3 ?r3
 case' r3=>refine' ao ?s4 (aK ?s5)
 case s1=>exact bC 4 Dm.nd (bV sk (eU cJ TS.cl hr (pv 0) %[1,2|0]) (bV jM (j2 cN TW.cl fH (bP (bP (pv 0) Z) Z)) aH))
 case s2=>exact bC 5 Dm.nd (bV zv (eU cL TS.cl hr (pv 0) %[1,2|0]) (pv 4))
 case s3=>exact bC 6 Dm.nd (dI aX)
 case' s4=>refine' gc fV Z (eS (lU hu (bP (pv 0) Z) (pv 1))) (dF 7 Dm.nd) (ao ?b1 (aK ?b2))
 case b1=>exact bC 8 Dm.nd (eU cW TG.cl qB (bP (pv 0) Z) %[7|0])
 case' b2=>refine' bQ (PW.pt (JI ?c1 (JI ?c2 (Nh ?c3)))) (ao ?b3 (aK ?b4)) bR
 case c1=>exact dm (ZU il (oy hr 0)) (pv 7) (pv 3) (by with_unfolding_all rfl)
 case c2=>exact dm AU (pv 8) (pv 5)
 case c3=>exact fo (eU cM TG.cl hr (bP (pv 0) Z) %[7,1,2|0])
 case b3=>exact iX (jL jI xo xq v_ (pv 6) %[dS %[7,1,2|0]|0])
 case b4=>exact bC 5 Dm.nd (bV MF (pv 5) (pv 8))
 case s5=>exact bw (pv 6)
 let#[dx,dl,dv,dp,ad,h1,G,h3,h4,h5,h6]:=S.ex;let#[fZ,dw,dy,vs,bq,g1,g2,_]:=id G.ex;let#[eW,d1,l2,d3,jR,as,ef,w1,_]:=id g2.ex;have hnm:(cB d1 l2 d3).lookup ("most_neighbours":Str)=none:=iW _ _ _ Z0 Z0 Z0;have no:∀{m:Str},¬m="wares"->¬m=lX->¬m=rT->¬m=C9->(dM g dl dv dp).lookup m=none:=λa b c d=>EN _ _ _ _ a b c d;let jo:=iU_ W.Gd ha hb;let nl:=W.Gd.fF;let n1:=W.Gd.h1;let n8:=W.Gd.h8;apply#[_,Z,v,dx,_,Z,h1,no Z0 Z0 Z0 Z0,_,Z,_,Z,v,g,p,a,b,hs,ts,qs,fp,f,Z,S,W,ha,hb,?_];apply#[_,Z,v,CS,dx,_,_,Z,h1,TS.cl,TS.nW,gJ _ _ _ _,g,CG,fZ,_,_,Z,g1,TG.cl,TG.nW,pY _ _ _,p,eW,_,Z,w1,hnm,p,hs,ts,bq,Z,g2,by omega,by omega,λm H1 s1 m1 m2=>?_];let mo:=kM_ W.Gd m1;obtain rfl:=la_ m1 m2;have pp:0<jC hs a b * (yY hs ts+1):=Int.mul_pos Z1 Z1
 have pl:jC hs a b * (yY hs ts+1)<1073741824:=by
  have:=Int.mul_le_mul jo.2 (show yY hs ts+1<=9 by omega) Z1 (by decide);omega
 apply#[_,_,Z,Z,_,_,Z,Z,.inl #[by omega,by omega],?_];lk;apply#[_,Z,v,dx,_,Z,s1 _ _ h1,no Z0 Z0 Z0 Z0,_,Z,_,Z,v,g,p,a,b,hs,ts,qs,fp,f,Z,S.same s1,W,ha,hb,_,Z,_,_,Z,Z,#[pp,pl],?_];lk;apply#[zl,λlm nm=>?_];lk;let#[s2,e2]:=bS (X:=.lst []) nm;let Eo:=s1.free nm;generalize upd H1 lm _=H2 at s2 e2 ⊢;let cq:=s1.trans s2;let hl:=h6 a ha;let l63:=Yy W a
 let bx:bX:=λi σ H'=>∃(v7 v8:aQ) (left:Int) (ys:ag) (ns:ae),σ=[some (.ref v),some (.str a),some (.str b),some (.ref lg),some (.int (jC hs a b * (yY hs ts+1))),some (.int left),some (.ref lm),v7,v8]/\aa H H'/\H' lm\.lst ys/\bj K H' ys ((ns.map (to3 a b)).map kM)/\ns.length<=i/\ns++tU (gS qs) (gI hs ts qs gv a b) left ((ee qs f a).drop i)=GN hs ts qs f gv a b
 apply#[_,Z,v,CS,dx,_,_,Z,cq _ _ h1,TS.cl,TS.nP,GP _ _ _ _,_,Z,dp,_,Z,Ds (cq _ _ h5) ha,ad a,Z,#[_,.of (cq _ _ hl)],jh (K:=K) (a:=ad a) (xs:=(ee qs f a).map V.str) bx #[none,none,_,[],[],Z,cq,e2,.nil,bD _,Z] (λi σ H' _ ⟨_,_,_,_,_,_,sm,_⟩=>.of (sm _ _ hl)) ?_ ?_]
 ·rintro i x σ H' hx ⟨v7,v8,left,ys,ns,rfl,sm,vE,tu,ln,eq⟩;let#[n,hn,rfl]:=lZ hx;have hi:i<(ee qs f a).length:=(cK.mp hn).1;let#[Px,fn]:=DM (dz hn);let#[q,hq,rfl]:=bo.mp Px;let G':=G.same sm;let pR:=sm _ _ h1;let#[JQ,Z_,Z7,Ef,fpw',Yt,g2',_]:=id G'.ex;have Qw:(bZ p Z_ Z7).lookup ("weight":Str)=none:=zt _ _ _ Z0 Z0 Z0;have QP:(bZ p Z_ Z7).lookup ("may_go":Str)=none:=zt _ _ _ Z0 Z0 Z0;let ew:=Ib W.nd hq;let ey:=Ww W.nd hq;rw[Yc hn,tU] at eq;let ly:=bG tu;rw[aq,aq] at ly
  have go:∀{H2:Hp} {v8:aQ},aa H' H2->(gI hs ts qs gv a b q.1&&decide (gS qs q.1<=left))=false->∃(v7 v8':aQ) (Av:Int) (ys:ag) (ns:ae),[some (V.ref v),some (.str a),some (.str b),some (.ref lg),some (.int (jC hs a b * (yY hs ts+1))),some (.int left),some (.ref lm),some (.str q.1),v8]=[some (V.ref v),some (.str a),some (.str b),some (.ref lg),some (.int (jC hs a b * (yY hs ts+1))),some (.int Av),some (.ref lm),v7,v8']/\aa H H2/\H2 lm\.lst ys/\bj K H2 ys ((ns.map (to3 a b)).map kM)/\ns.length<=i+1/\ns++tU (gS qs) (gI hs ts qs gv a b) Av ((ee qs f a).drop (i+1))=GN hs ts qs f gv a b:=λ{H2 v8} s2 e=>by
   rw[e,aA (by decide)] at eq;exact#[_,_,_,ys,ns,Z,sm.trans s2,s2 _ _ vE,tu.same s2,by omega,eq]
  lk;apply#[_,Z,v,CS,dx,_,_,Z,pR,TS.cl,TS.nW,gJ _ _ _ _,g,JQ,_,Z,Yt,Qw,_,Z,g,p,.str q.1,some q.1,hs,ts,qs,fp,Z,G',W.nd,Z,.inl #[q,hq,Z,?_]];lk;apply#[_,Z,_,Z,q.1,gv,Z,#[lg,_,Z,.of (sm _ _ hg),Kb gv],_,Z,?_];apply br (λc=>?_) (λc=>?_)
  ·have c:¬q.1∈gv:=⇑c
   apply#[_,Z,_,Z,_,_,Z,Z,_,Z,?_];apply br (λc2=>?_) (λc2=>?_)
   ·have c2:q.2.1<=left:=⇑c2
    apply#[_,Z,v,CS,dx,_,_,Z,pR,TS.cl,TS.nW,gJ _ _ _ _,g,JQ,_,Z,Yt,QP,_,Z,_,Z,_,Z,g,p,.str q.1,.str a,.str b,some q.1,some a,some b,hs,ts,qs,fp,Z,G',W.nd,W.Gd.qp,Z,.inl #[q,hq,Z,Z,Z,λH3 s3=>#[_,Z,?_]]];apply br (λc3=>?_) (λc3=>?_)
    ·have pt:(gI hs ts qs gv a b q.1&&decide (gS qs q.1<=left))=true:=by
      unfold gI nK;rw[ew,ey,cj c2,d7 c];simpa using c3
     rw[aF pt,ew] at eq;apply#[_,Z,.inl #[Z,_,.of (s3 _ _ vE)],_,Z,_,Z,_,Z,zl,λt nt=>?_];let#[s4,e4]:=bS (X:=.tup [.str q.1,.str a,.str b]) nt;generalize upd H3 t _=H4 at s4 e4 ⊢;let rB:=s3.trans s4;let IT:=rB _ _ vE;apply#[lm,_,_,Z,Z,IT,by omega,?_];dsimp only;apply#[_,Z,_,Z,_,_,Z,Z,?_];lk;apply#[_,_,_,ys++[.ref t],ns++[q.1],Z,λb' o e=>?_,aE,?_,?_,?_]
     ·rw[aD (bB e Eo)];exact rB _ _ (sm _ _ e)
     ·rw[cZ,cZ];exact k_ (DO (tu.same rB) e4) IT
     ·rw[dE];show ns.length+1<=i+1;omega
     rw[List.append_assoc];exact eq
    apply go s3 ?_;unfold gI nK;have c3:EM hs ts q.2.2 (some a) (some b)=false:=⇑c3
    rw[ey,c3,Bool.and_false,Bool.false_and]
   apply go (aa.refl H') ?_;have c2:¬q.2.1<=left:=⇑c2
   rw[ew,d7 c2,Bool.and_false]
  have c:q.1∈gv:=⇑c
  apply go (aa.refl H') ?_;unfold gI;rw[cj c];rfl
 rintro σ H' ⟨v7,v8,left,ys,ns,rfl,sm,vE,tu,ln,eq⟩;rw[aq,List.drop_length,tU,wa] at eq;apply#[_,Z,k lm ys H' sm Eo vE ?_];unfold wN;rw[<- eq];exact tu
end
def qM(hs:Xa)(ts:Xb)(qs:aJ)(f:az)(h:Str):eR->ae->eR
 |ms,[]=>ms
 |ms,o::l=>if 0<jJ hs qs f h o then qM hs ts qs f h (ms++wN hs ts qs f (ms.map (·.1)) h o) l else qM hs ts qs f h ms l
def Kk(hs:Xa)(ts:Xb)(qs:aJ)(f:az)(h:Str):eR:=qM hs ts qs f h [] (nb hs ts h)
def Fl:Bc:=λ_ hs ts qs f h=>Kk hs ts qs f h
def RN{hs:Xa}{ts:Xb}{qs:aJ}{f:az}(W:Wd hs ts qs f){h:Str}:∀(l:ae)(ms:eR),(qM hs ts qs f h ms l).length<=ms.length+63 * l.length
 |[],ms=>bD _
 |o::l,ms=>by
  rw[qM,jf];split
  ·let h1:=RN W (h:=h) l (ms++wN hs ts qs f (ms.map (·.1)) h o);let h2:=XE W (ms.map (·.1)) h o;rw[dE] at h1;omega
  let h1:=RN W (h:=h) l ms;omega
def g8_(r:Rl)(hs:Xa)(ts:Xb)(qs:aJ)(f:az)(h:Str)(W:Wd hs ts qs f):(Fl r hs ts qs f h).length<=1000:=by
 unfold Fl Kk;let h1:=RN W (h:=h) (nb hs ts h) [];let h3:=Fe hs ts h;let h4:=W.Gd.fF;let h5:=W.Gd.h8;rw[vZ] at h1;omega
section v
def NS:bA ["sight","hand","moves","other","given"] ["sight","hand"] (aM Uh):=bI
inductive SL(K:af)(CS CG CW:Addr):Sp|k:∀(v g p:Addr)(h:Str)(hs:Xa)(ts:Xb)(qs:aJ)(fp:ai)(f:az),vs=[.ref v,.str h]->jd K CS CG CW H v g p hs ts qs fp f->Wd hs ts qs f->h∈aB hs->(∀l ys H',aa H H'->H l=none->H' l\.lst ys->bj K H' ys ((Kk hs ts qs f h).map kM)->Q (.ref l) H')->SL K CS CG CW vs H Q E
def f3_{f0 CS CG CW:Addr}{fd:Ae}(F:bc K "moves_by_shares" "moves_by_shares" Uh f0 fd)(TS:gA K CS)(TG:dO K CG)(TW:Txt K mg CW)(cN:!aZ CW 2 "neighbours" jK (Na K CW))(cL:!aZ CS 3 "lead" lR (Ft K CS CG CW))(cH:!bH 4 "share_moves" ["sight","one","other","given"] (tI K CS CG CW)):!ak bg 5 f0 fd ["sight","hand"] (SL K CS CG CW):=by
 exists F.bN NS;let#[v,g,p,h,hs,ts,qs,fp,f,rfl,S,W,hh,k]:=h;let sz:=cX;have qB:aI 2 _:=hr.mono (by decide);have Cp:aI 3 _:=hr.mono (by decide);refine' #[_,ao ?s1 (ao ?s2 (aK ?s3)),?kk]
 case s1=>exact bC 2 NS.nd (dI aX)
 case' s2=>refine' gc fV Z (eS (eU cN TW.cl qB (bP (bP (pv 0) Z) Z) %[1|0])) (dF 3 NS.nd) (aK (bQ ?t1 (ao ?b1 (aK ?b2)) bR))
 case t1=>exact dm C5 (eU cL TS.cl Cp (pv 0) %[1,3|0]) aH
 case b1=>exact Nj (i:=4) ["move"] 1 [] NS.nd Z (Or.inl Z) (eS (pv 2)) (λfp s H=>gy (i:=0) (show (["move"]:ae).Nodup by decide +kernel) Z (Or.inl Z)) (λfp s H=>lW) (λfp s H=>bE (Cg (K:=K) ql cg) (pv 0) aH)
 case b2=>exact iX (jL jI DC DD DP (pv 2) %[bp cH hr %[0,1,3,4|0]|0])
 case s3=>exact bw (pv 2)
 have n8:(aB hs).length<=8:=by have:=W.Gd.fF;have:=W.Gd.h8;omega
 apply#[zl,λlm nm=>?_];lk;let#[s1,e1]:=bS (X:=.lst []) nm;generalize upd H lm _=H1 at s1 e1 ⊢;let#[dx,dl,dv,dp,ad,h1,G,h3,h4,h5,h6]:=(S.same s1).ex;let#[fZ,dw,dy,vs,bq,g1,g2,_]:=id G.ex;let#[eW,d1,l2,d3,jR,as,ef,w1,_]:=id g2.ex;have gL:(cB d1 l2 d3).lookup ("neighbours":Str)=none:=iW _ _ _ Z0 Z0 Z0;apply#[_,Z,v,CS,dx,_,_,Z,h1,TS.cl,TS.nW,gJ _ _ _ _,g,CG,fZ,_,_,Z,g1,TG.cl,TG.nW,pY _ _ _,p,eW,_,Z,w1,gL,_,Z,p,h,hs,ts,bq,Z,g2,W.Gd.qp,(iY hs).mem_iff.mp hh,λl1 n1=>?_];let#[s2,e2]:=bS (X:=.lst ((nb hs ts h).map V.str)) n1;have LW:lm≠l1:=bB e1 n1;let cq:=s1.trans s2;generalize upd H1 l1 _=H2 at s2 e2 cq ⊢;have Eu:∀x∈nb hs ts h,x∈aB hs:=λx hx=>Dq hx
 have ll:(nb hs ts h).length<=8:=by
  have:=Fe hs ts h;omega
 let bx:bX:=λi σ H'=>∃(v3 v4:aQ) (ys:ag) (ms:eR),σ=[some (.ref v),some (.str h),some (.ref lm),v3,v4]/\aa H H'/\H' l1\.lst ((nb hs ts h).map V.str)/\H' lm\.lst ys/\bj K H' ys (ms.map kM)/\ms.length<=63 * i/\qM hs ts qs f h ms ((nb hs ts h).drop i)=Kk hs ts qs f h
 apply#[l1,Z,#[_,.of e2],jh (K:=K) (a:=l1) (xs:=(nb hs ts h).map V.str) bx #[none,none,[],[],Z,cq,e2,s2 _ _ e1,.nil,bD _,Z] (λi σ H' _ ⟨_,_,_,_,_,_,z,_⟩=>.of z) ?_ ?_]
 ·rintro i x σ H3 hx ⟨v3,v4,ys,ms,rfl,GM,l3,m3,t3,P0,eq3⟩;let#[o,ho,rfl]:=lZ hx;have hi:i<(nb hs ts h).length:=(cK.mp ho).1;let om:=Eu o (dz ho);rw[Yc ho] at eq3;let S3:=S.same GM;let#[E9,_,_,_,_,k1,_]:=S3.ex;let ly:=bG t3;rw[aq] at ly;lk;apply#[_,Z,v,E9,_,Z,k1,EN _ _ _ _ Z0 Z0 Z0 Z0,_,Z,_,Z,v,g,p,h,o,hs,ts,qs,fp,f,Z,S3,W,hh,om,_,_,Z,Z,_,Z,?_];apply br (λc=>?_) (λc=>?_)
  ·have c:0<jJ hs qs f h o:=⇑c
   have eq3:qM hs ts qs f h (ms++wN hs ts qs f (ms.map (·.1)) h o) ((nb hs ts h).drop (i+1))=Kk hs ts qs f h:=by
    rw[qM,aF c] at eq3;exact eq3
   apply#[_,Z,lm,Z,#[_,.of m3],λD hD=>?_]
   let ck:eI:=λj out H'=>aa H3 H'/\H' D\.lst out/\out=((ms.map (·.1)).take j).map V.str
   apply p0 (own:=1) (fv:=[]) (xs:=ys) Z gr ck #[aa.new hD,aE,Z] (λj out H' _ ⟨sm,_⟩=>.of (sm _ _ m3)) (λout H4 ⟨s4,d4,eo⟩=>?_) (λj x out H' hx ⟨sm,hd,eo⟩=>?_);rotate_left
   ·let#[q,hq,a,rfl,ha]:=oA t3 hx;have hj:j<ms.length:=(cK.mp hq).1;apply#[_,Z,Z,λNx hN=>fD ?_];apply#[_,Z,a,_,0,.str q.1,Z,Z,.of (sm _ _ ha),L2.fU (j:=0) Z,out,hd,?_,hN (out++[.str q.1]) _ #[jP sm hD,aE,?_]]
    ·rw[eo,aq,dZ];omega
    rw[eo,qS (show (ms.map (·.1))[j]? = some q.1 by rw[d0,hq];rfl),cZ];rfl
   rw[ly,xv (by rw[aq];exact bD _)] at eo;subst eo;lk;let m4:=s4 _ _ m3;apply#[_,Z,.inl #[Z,_,.of m4],?_];apply#[_,Z,_,Z,_,Z,_,Z,v,g,p,D,h,o,ms.map (·.1),hs,ts,qs,fp,f,Z,S3.same s4,W,hh,om,d4,λl5 zs H5 s5 n5 e5 t5=>?_];let wO:=s4.trans s5;let m5:=wO _ _ m3;let lz:=bG t5;let hl:=XE W (ms.map (·.1)) h o;rw[aq] at lz;apply#[lm,l5,ys,zs,Z,Z,m5,e5,by omega,?_];apply#[_,_,ys++zs,ms++wN hs ts qs f (ms.map (·.1)) h o,Z,λb u e=>?_,?_,aE,?_,?_,eq3]
   ·rw[aD (bB e nm)];exact wO _ _ (GM _ _ e)
   ·rw[aD LW.symm];exact wO _ _ l3
   ·rw[cZ];exact iU (k_ (t3.same wO) m5) (k_ t5 m5)
   rw[dE];omega
  have c:¬0<jJ hs qs f h o:=⇑c
  apply#[_,_,ys,ms,Z,GM,l3,m3,t3,by omega,?_];rw[qM,aA c] at eq3;exact eq3
 rintro σ H3 ⟨v3,v4,ys,ms,rfl,GM,l3,m3,t3,P0,eq3⟩;rw[aq,List.drop_length] at eq3;apply#[_,Z,k lm ys H3 GM nm m3 ?_];rw[<- eq3];exact t3
def gc_{f0 CS CG CW T:Addr}{fd:Ae}(F:bc K "moves_from" "moves_from" Ku f0 fd)(cL:!bH 5 "moves_by_shares" ["sight","hand"] (SL K CS CG CW)):!ak bg 6 f0 fd xb (xu K CS CG CW T (λr=>r.2.1="shares") Fl):=by
 exists F.bN SV;let#[v,g,p,aw,h,hs,ts,qs,fp,f,r,eA,rfl,le,ha,S,W,hh,tab,k]:=h;refine' #[_,ao ?s0 (ao ?s1 (aK ?s2)),?kk]
 case s0=>exact bQ (dm jZ (bE cg (pv 2) aH) bL) fC bR
 case s1=>exact bQ (dm jZ (bE cg (pv 2) aH) bL) fC bR
 case s2=>exact bw (bp cL hr %[0,1|0])
 have ln:¬r.2.1="least":=by rw[le];decide +kernel
 have lb:¬r.2.1="below":=by rw[le];decide +kernel
 apply#[_,Z,aw,_,_,_,Z,Z,ha _,Z,Z,_,Z,?_];rw[sx,d7 ln];apply a_ ?_;apply#[_,Z,aw,_,_,_,Z,Z,ha _,Z,Z,_,Z,?_];rw[sx,d7 lb];apply a_ ?_;exact#[_,Z,_,Z,v,g,p,h,hs,ts,qs,fp,f,Z,S,W,hh,λl ys H' b n e tu=>k l ys H' (bf.of b) (tab.same b) n e tu]
end
def hit(t u:Str × Str):Bool:=(decide (u.1=t.1) || decide (u.2=t.1)) || (decide (u.1=t.2) || decide (u.2=t.2))
def fJ(rs:List Xb)(t:Str × Str):Nat:=rs.findIdx λr=>!r.any (hit t)
def zi(K:af)(H:Hp)(l:Addr)(as:ai)(rs:List Xb):Prop:=H l=some (.lst (as.map V.ref))/\Paired (λa r=>∃zs,H a\.lst zs/\bj K H zs (r.map kT)) as rs
def zi.same{K:af}{H H':Hp}{l:Addr}{as:ai}{rs:List Xb}(h:zi K H l as rs)(s:aa H H'):zi K H' l as rs:=#[s _ _ h.1,Paired.bJ h.2 λa r ⟨zs,e,t⟩=>#[zs,s _ _ e,t.same s]]
section v
def uc:bA ["rows","tie","place","row"] ["rows","tie"] (aM T7):=bI
inductive tK(K:af):Sp|k:∀(l t:Addr)(as:ai)(rs:List Xb)(tt:Str × Str),vs=[.ref l,.ref t]->zi K H l as rs->H t\.tup ((kT tt).map kV)->(∀r∈rs,r.length<=1000)->(∀H',aa H H'->Q (.int (fJ rs tt)) H')->tK K vs H Q E
def lv_{f:Addr}{fd:Ae}(F:bc K "first_row_without" "first_row_without" T7 f fd)(B:Bi mg):!ak bg 1 f fd ["rows","tie"] (tK K):=by
 exists F.bN uc;let#[l,t,as,rs,tt,rfl,R,ht,AO,k]:=h;let sz:=cX
 apply#[_,ao (gc fV Z (Xj (by rfl) B.enum %[0|0]) (qP Z (eF (dF 2 uc.nd) (eF (dF 3 uc.nd) kZ)))
   (aK (bQ (fP (fo (cO (jw_ Z) (by rfl) B.any PyProof.Rows.Boot.«any» (eV
    (pX ["there","tie"] 1 [1] (eS (pv 3)) (λfp s H=>gy (i:=0) (show (["there","tie"]:ae).Nodup by decide +kernel) Z (Or.inl Z)) (λfp s H=>lW)
     (λfp s H=>Wz (sd (Pi (K:=K) (λK=>Lx K false) ZF) (bE (Cg (K:=K) ql cg) (pv 1) aH) (pv 0) (by with_unfolding_all rfl)) (qQ (sd (Pi (K:=K) (λK=>Lx K false) ZF) (bE (Cg (K:=K) ql cg) (pv 1) aH) (pv 0) (by with_unfolding_all rfl))))) aX)))) (aK (bw (pv 2))) bR)))
  (aK (bw (cO l0 (by rfl) B.len jH %[0|0]))),?_]
 let la:=bG R.2
 let bx:bX:=λi σ H2=>∃(v2 v3:aQ),σ=[some (.ref l),some (.ref t),v2,v3]/\aa H H2/\∀r∈rs.take i,r.any (hit tt)=true
 apply#[_,Z,l,Z,#[_,.of R.1],YT (K:=K) (a:=l) (xs:=as.map V.ref) bx #[none,none,Z,aa.refl H,by simp] (λi σ H2 _ ⟨_,_,_,s2,_⟩=>.of (s2 _ _ R.1)) ?_ ?_]
 ·rintro i x σ H2 hx ⟨v2,v3,rfl,s2,past⟩ u hu
  have hi:i<as.length:=by
   have:=(cK.mp hx).1;rwa [aq] at this
  have ex:x=.ref as[i]:=by
   rw[d0,cE hi] at hx;exact (c7 hx).symm
  subst ex;have Mh:i<rs.length:=by omega
  let#[zs,Xn,tz]:=jg R.2 i hi Mh;have s3:aa H (upd H2 u (.tup [.int i,.ref as[i]])):=s2.trans (aa.new hu);let QA:=us H2 u (.tup [.int i,.ref as[i]]);generalize upd H2 u _=H3 at s3 QA ⊢;apply#[u,_,Z,.of QA,Z,_,_,Z,_,_,Z,Z,?_];apply#[_,Z,as[i],Z,#[_,.of (s3 _ _ Xn)],λD hD=>?_];let lz:=bG tz;rw[aq] at lz;let lr:=AO rs[i] (lA Mh)
  let ck:eI:=λj out H'=>aa H3 H'/\H' D\.lst out/\out=((rs[i].take j).map (hit tt)).map V.bl
  apply p0 (own:=1) (fv:=[some (.ref t)]) (xs:=zs) Z gr ck #[aa.new hD,aE,Z] (λj out H' _ ⟨sm,_,_⟩=>.of (sm _ _ (s3 _ _ Xn))) (λout H4 ⟨s4,rQ,eo⟩=>?_) (λj y out H' hy ⟨sm,gC,eo⟩=>?_)
  ·rw[lz,gG] at eo;subst eo;apply#[D,rs[i].map (hit tt),Z,.of rQ,#[_,Z,?_]];have JP:(rs[i].map (hit tt)).any id=rs[i].any (hit tt):=by rw[List.any_map];rfl
   apply br (λc=>?_) (λc=>?_)
   ·have c:rs[i].any (hit tt)=false:=by
     have:(!(rs[i].map (hit tt)).any id)=true:=c;rw[JP] at this;simpa using this
    have e:fJ rs tt=i:=by
     unfold fJ;rw[List.findIdx_eq Mh];apply#[by rw[c];rfl,λj hj=>?_];have:=past (rs[j]' Z1) (List.mem_iff_getElem?.mpr #[j,by rw[List.getElem?_take_of_lt hj,cE Z1]]);rw[this];rfl
    apply#[_,Z,?_];have:=k H4 (s3.trans s4);rw[e] at this;exact this
   have c:rs[i].any (hit tt)=true:=by
    have:¬(!(rs[i].map (hit tt)).any id)=true:=c;rw[JP] at this;simpa using this
   apply#[_,_,Z,s3.trans s4,λr hr=>?_];rw[lB,cE Mh] at hr;rcases fB.mp hr with hr|hr
   ·exact past r hr
   obtain rfl:r=rs[i]:=⇑hr
   exact c
  let#[q,hq,a,rfl,ha]:=oA tz hy;let CU:=sm _ _ (s3 _ _ (AB ha));let wX:=sm _ _ (s3 _ _ (AB ht))
  have lo:out.length<sizeLine:=by
   rw[eo,aq,aq,dZ];omega
  apply#[_,Z,Z,λNx hN=>fD ?_];have nx:Nx (upd H' D (.lst (out++[.bl (hit tt q)]))):=hN _ _ #[jP sm hD,aE,by rw[FJ _ hq,cZ,eo];rfl];apply#[_,Z,t,_,_,_,Z,Z,.of wX,Z,_,Z,a,_,Z,.inr (.of CU),Z,Z,_,Z,?_];apply br (λc=>?_) (λc=>?_)
  ·have c:(decide (q.1=tt.1) || decide (q.2=tt.1))=true:=by rw[<- RJ];exact c
   apply#[out,gC,lo,?_];rwa [show hit tt q=true by unfold hit;rw[c];rfl] at nx
  have c:(decide (q.1=tt.1) || decide (q.2=tt.1))=false:=by
   rw[<- RJ];simpa using c
  apply#[_,Z,t,_,_,_,Z,Z,.of wX,Z,_,Z,a,_,Z,.inr (.of CU),Z,Z,out,gC,lo,?_];rw[show hit tt q=Ic (.str tt.2) [.str q.1,.str q.2] by unfold hit;rw[c,Bool.false_or,RJ]] at nx;exact nx
 rintro σ H2 ⟨v2,v3,rfl,s2,past⟩;rw[aq,la,gG] at past;apply#[_,Z,l,_,Z,.inl (.of (s2 _ _ R.1)),?_]
 have e:fJ rs tt=rs.length:=by
  unfold fJ;rw[List.findIdx_eq_length];intro r hr;rw[past r hr];rfl
 have:=k H2 s2;rw[e] at this;rw[aq,la];exact this
end
abbrev mT:Stmt:=gx jt 8
def Tu{α β:Type}{F:α->β->Prop}:∀{l:List α}{m:List β},l.length=m.length->(∀(i:Nat)(h1:i<l.length)(h2:i<m.length),F l[i] m[i])->Paired F l m
 |[],[],_,_=>.nil
 |[],_::_,h,_=>by cases h
 |_::_,[],h,_=>by cases h
 |a::l,b::m,h,f=>.cons (f 0 Z2 Z2) (Tu ⇑h λi h1 h2=>f (i+1) ⇑h1 ⇑h2)
def iB(rs:List Xb)(t:Str × Str):List Xb:=if h:fJ rs t<rs.length then rs.set (fJ rs t) (rs[fJ rs t]++[t]) else rs++[[t]]
def turnsOf(ts:Xb):List Xb:=ts.foldl iB []
def jl_(rs:List Xb)(t:Str × Str):fJ rs t<=rs.length:=List.findIdx_le_length
def TF(rs:List Xb)(t:Str × Str):(iB rs t).length<=rs.length+1:=by
 unfold iB;split
 ·rw[List.length_set];omega
 rw[dE];exact bD _
def Uk{rs:List Xb}{t:Str × Str}{n:Nat}(h:∀r∈rs,r.length<=n):∀r∈iB rs t,r.length<=n+1:=by
 unfold iB;intro r hr;split at hr
 ·rename_i dB
  rcases List.mem_or_eq_of_mem_set hr with m|rfl
  ·have:=h r m;omega
  have:=h rs[fJ rs t] (lA dB);rw[dE];show rs[fJ rs t].length+1<=n+1;omega
 rcases fB.mp hr with m|m
 ·have:=h r m;omega
 obtain rfl:r=[t]:=⇑m
 simp
def zi.add{K:af}{H H':Hp}{l a:Addr}{as:ai}{rs:List Xb}{t:Str × Str}{zs:ag}(h:zi K H l as rs)(nd:as.Nodup){p:Nat}(hp:p<rs.length)(ha:as[p]? = some a)(hl:H' l\.lst (as.map V.ref))(hz:H' a\.lst zs)(tz:bj K H' zs ((rs[p]++[t]).map kT))
 (k:∀b o,H b\o->b≠l->b≠a->H' b\o)(wY:∀b∈as,b≠l)(kt:∀b xs,H b\.tup xs->H' b\.tup xs):zi K H' l as (rs.set p (rs[p]++[t])):=by
 let la:=bG h.2;apply#[hl,Tu (by rw[List.length_set,la]) λi h1 h2=>?_];rw[List.length_set] at h2;let#[Ez,ea]:=cK.mp ha;by_cases e:p=i
 ·subst e;rw[List.getElem_set_self,ea];exact#[zs,hz,tz]
 rw[List.getElem_set_ne e];let#[FQ,e2,t2]:=jg h.2 i h1 h2;have ne:as[i]≠a:=λq=>e ((List.getElem_inj nd).mp (ea.trans q.symm));exact#[FQ,k _ _ e2 (wY _ (lA h1)) ne,Paired.bJ t2 λy q ⟨c,z,e⟩=>#[c,z,kt _ _ e]]
def fh_{α β:Type}{F:α->β->Prop}{l:List α}{m:List β}{a:α}{b:β}(h:Paired F l m)(f:F a b):Paired F (l++[a]) (m++[b]):=Paired.snoc h f
section v
def Nc:bA ["self","rows","tie","place"] dG (aM mT):=bI
inductive M5(K:af)(C:Addr):Sp|k:∀(p:Addr)(hs:Xa)(ts:Xb)(fp:ai),vs=[.ref p]->eC K C H p hs ts fp->ts.length<64->(∀(l:Addr)(as:ai)(H':Hp),aa H H'->H l=none->(∀a∈as,H a=none)->(∀a∈as,a≠l)->as.Nodup->zi K H' l as (turnsOf (aO ts))->Q (.ref l) H')->M5 K C vs H Q E
def je_{f C:Addr}{fd:Ae}(F:bc K "turns" "Web.turns" mT f fd)(B:Bi mg)(T:Txt K mg C)(cT:!aZ C 2 "ties" dG (S0 K C))(cR:!bH 1 "first_row_without" ["rows","tie"] (tK K)):!ak bg 3 f fd dG (M5 K C):=by
 exists F.bN Nc;let#[p,hs,ts,fp,rfl,W,dC,k]:=h;let sz:=cX;let#[dx,d1,l2,d3,jR,_Y,efp,h1,_]:=id W.ex;have noT:(cB d1 l2 d3).lookup ("ties":Str)=none:=iW _ _ _ Z0 Z0 Z0
 apply#[_,ao (bC 1 Nc.nd (dI aX))
  (ao (gc fV Z (eS (j2 cT T.cl hr (pv 0))) (dF 2 Nc.nd)
   (ao (bC 3 Nc.nd (bp cR hr %[1,2|0]))
   (ao (bQ (dm jZ (pv 3) (cO l0 (by rfl) B.len jH %[1|0]))
    (aK (iX (jL jI xo xq v_ (pv 1) %[dI aX|0]))) bR)
   (aK (iX (jL jI xo xq v_ (bE iF (pv 1) (pv 3)) %[2|0]))))))
  (aK (bw (pv 1)))),?_]
 apply#[zl,λlr QS=>?_];let#[s0,yG]:=bS (X:=.lst []) QS;generalize upd H lr _=H0 at s0 yG ⊢;apply#[_,Z,p,dx,_,Z,s0 _ _ h1,noT,p,hs,ts,fp,Z,W.same s0,dC,λlt zs H1 s1 dB vD tz=>?_];have V2:lt≠lr:=(bB yG dB).symm;let lz:=bG tz;rw[aq,FE] at lz;let wU:=FE ts
 let bx:bX:=λi σ H2=>∃(v2 v3:aQ) (as:ai),σ=[some (.ref p),some (.ref lr),v2,v3]/\bf lr H1 H2/\(∀a∈as,H1 a=none/\a≠lr)/\as.Nodup/\zi K H2 lr as (turnsOf ((aO ts).take i))/\(turnsOf ((aO ts).take i)).length<=i/\∀r∈turnsOf ((aO ts).take i),r.length<=i
 apply#[lt,Z,#[_,.of vD],jh (K:=K) (a:=lt) (xs:=zs) bx
  #[none,none,[],Z,bf.refl _ _,by simp,.nil,#[s1 _ _ yG,.nil],bD _,by intro r hr;simp[turnsOf] at hr] (λi σ H2 _ ⟨_,_,_,_,b,_⟩=>.of (b _ _ vD V2)) ?_ ?_]
 ·rintro i y σ H2 hy ⟨v2,v3,as,rfl,b2,fa,nd,R,l1,Es⟩;let#[t,ht,a,rfl,ha]:=oA tz hy;have hi:i<(aO ts).length:=(cK.mp ht).1;let QR:=s1 _ _ yG;have nal:a≠lr:=aR ha QR nofun;let rM:=b2 _ _ ha nal;let la:=bG R.2
  have yT:turnsOf ((aO ts).take (i+1))=iB (turnsOf ((aO ts).take i)) t:=by
   unfold turnsOf;rw[lB,ht,List.foldl_append];rfl
  generalize turnsOf ((aO ts).take i)=rs at R l1 Es la yT;apply#[_,Z,_,Z,lr,a,as,rs,t,Z,R,rM,λr hr=>by have:=Es r hr;omega,λH3 s3=>?_];let R3:=R.same s3;let lP:=s3 _ _ rM;have b3:bf lr H1 H3:=b2.trans (bf.of s3);have f3:∀a∈as,H1 a=none/\a≠lr:=fa;apply#[_,Z,_,Z,lr,_,Z,.inl (.of R3.1),Z,_,Z,?_];apply br (λc=>?_) (λc=>?_)
  ·have c:fJ rs t=rs.length:=by
    have:V.int (fJ rs t)=V.int ((as.map V.ref).length:Nat):=⇑c
    rw[aq,la] at this;have:=V.int.inj this;omega
   apply#[_,Z,.inl #[Z,_,.of R3.1],zl,λln IS=>?_];let#[s4,QT]:=bS (X:=.lst []) IS;have vi:ln≠lr:=(bB R3.1 IS).symm;apply#[lr,_,_,Z,Z,s4 _ _ R3.1,by rw[aq];omega,?_]
   have fln:H1 ln=none:=by
    cases z:H1 ln with
    |none=>rfl
    |some o=>
     have:=b3 _ _ z vi;rw[IS] at this;cases this
   have nin:ln∉as:=λm=>by
    let#[j,hj,e]:=j3 m;let#[zz,e2,_]:=jg R3.2 j hj Z1;rw[e,IS] at e2;cases e2
   have UM:gP (as.map V.ref++[V.ref ln]) (fJ rs t:Int)\.ref ln:=by
    rw[fU Z1 (by rw[dE,aq];show ((fJ rs t:Nat):Int)<((as.length+1:Nat):Int);omega),A_,c,D9 (by rw[aq];omega),aq,la,Nat.sub_self];rfl
   let Cw:=us (upd H3 ln (.lst [])) lr (.lst (as.map V.ref++[.ref ln]));have Cy:upd (upd H3 ln (.lst [])) lr (.lst (as.map V.ref++[.ref ln])) ln\.lst []:=by rw[aD vi];exact QT
   have k5:∀{b o},H3 b\o->b≠lr->upd (upd H3 ln (.lst [])) lr (.lst (as.map V.ref++[.ref ln])) b\o:=λe ne=>by rw[aD ne];exact s4 _ _ e
   generalize upd (upd H3 ln (.lst [])) lr _=H5 at Cw Cy k5 ⊢;apply#[_,Z,_,Z,lr,_,_,_,Z,Z,.of Cw,UM,.inl #[Z,_,.of Cy],_,Z,ln,_,_,Z,Z,Cy,by show 0<sizeLine;decide,?_];have k6:∀{b o},H3 b\o->b≠lr->upd H5 ln (.lst ([]++[.ref a])) b\o:=λe ne=>by rw[aD (bB e IS)];exact k5 e ne
   have IR:upd H5 ln (.lst ([]++[.ref a])) ln\.lst [.ref a]:=aE;have IP:upd H5 ln (.lst ([]++[.ref a])) lr\.lst (as.map V.ref++[.ref ln]):=by rw[aD vi.symm];exact Cw
   generalize upd H5 ln _=H6 at k6 IR IP ⊢;have kt:∀b xs,H3 b\.tup xs->H6 b\.tup xs:=λb xs e=>k6 e (aR e R3.1 nofun)
   have ep:iB rs t=rs++[[t]]:=by
    unfold iB;rw[dif_neg Z1]
   apply#[_,_,as++[ln],Z,λb o e ne=>k6 (b3 _ _ e ne) ne,λx hx=>?_,?_,?_,?_,?_]
   ·rcases fB.mp hx with m|m
    ·exact fa x m
    obtain rfl:x=ln:=⇑m
    exact#[fln,vi]
   ·rw[zC]
    exact#[nd,by simp,λx hx z hz=>by
     obtain rfl:z=ln:=⇑hz
     exact λq=>nin (q▸hx)]
   ·rw[yT,ep];apply#[by rw[cZ];exact IP,fh_ (Tu la λj h1 h2=>?_) #[_,IR,.cons #[a,Z,kt _ _ lP] .nil]];let#[zz,e,tt]:=jg R3.2 j h1 h2;exact#[zz,k6 e (fa _ (lA h1)).2,Paired.bJ tt λy q ⟨c,z,e⟩=>#[c,z,kt _ _ e]]
   ·rw[yT];have:=TF rs t;omega
   rw[yT];exact Uk Es
  have c:fJ rs t<rs.length:=by
   let h1:=jl_ rs t
   have:¬fJ rs t=rs.length:=λe=>c (by
    rw[aq,la,e];simp)
   omega
  have Ez:fJ rs t<as.length:=by omega
  have nl:as[fJ rs t]≠lr:=(fa _ (lA Ez)).2;let#[zz,ez,Vu]:=jg R3.2 (fJ rs t) Ez c;let lzz:=bG Vu;rw[aq] at lzz;let lrow:=Es _ (lA c)
  have UM:gP (as.map V.ref) (fJ rs t:Int)\.ref as[fJ rs t]:=by
   rw[fU Z1 (by rw[aq];omega),A_,d0,cE Ez];rfl
  apply#[_,Z,_,Z,lr,_,_,_,Z,Z,.of R3.1,UM,.inl #[Z,_,.of ez],_,Z,_,_,_,Z,Z,ez,by omega,?_];have k6:∀{b o},H3 b\o->b≠as[fJ rs t]->upd H3 as[fJ rs t] (.lst (zz++[.ref a])) b\o:=λe ne=>by rw[aD ne];exact e
  have h6:upd H3 as[fJ rs t] (.lst (zz++[.ref a])) as[fJ rs t]\.lst (zz++[.ref a]):=aE;generalize upd H3 as[fJ rs t] (.lst (zz++[.ref a]))=H6 at k6 h6 ⊢;have kt:∀b xs,H3 b\.tup xs->H6 b\.tup xs:=λb xs e=>k6 e (aR e ez nofun)
  have ep:iB rs t=rs.set (fJ rs t) (rs[fJ rs t]++[t]):=by
   unfold iB;rw[dif_pos c]
  apply#[_,_,as,Z,λb o e ne=>k6 (b3 _ _ e ne) (bB e (fa _ (lA Ez)).1),fa,nd,?_,?_,?_]
  ·rw[yT,ep];apply R3.add nd c (cE Ez) (k6 R3.1 nl.symm) h6 ?_ (λb o e _ ne=>k6 e ne) (λb hb=>(fa b hb).2) kt;rw[cZ];exact DO (Paired.bJ Vu λy q ⟨c,z,e⟩=>#[c,z,kt _ _ e]) (kt _ _ lP)
  ·rw[yT];have:=TF rs t;omega
  rw[yT];exact Uk Es
 rintro σ H2 ⟨v2,v3,as,rfl,b2,fa,nd,R,_,_⟩;rw[lz,<- wU,gG] at R;have s2:aa H H2:=λb o e=>b2 _ _ (s1 _ _ (s0 _ _ e)) (bB e QS);exact#[_,Z,k lr as H2 s2 QS (λa ha=>(s0.trans s1).free (fa a ha).1) (λa ha=>(fa a ha).2) nd R]
end
end Ev
namespace L2
open PySem PyProof.Rows
section
variable{X:Cx}
inductive uY(K:af)(x:V)(y:V)(H:Hp)(Q:VK):Prop
 |mk:∀a b xs,x=.ref a->y=.ref b->dU K H a xs->dU K H b []->Q (.bl xs.isEmpty) H->uY K x y H Q
def j4_(hu:X.A.units+0+1<cLine):eG X (compareOp .Eq) (uY X.K):=by
 intro π s σ H x y v u Q I rx ry h;let#[a,b,xs,rfl,rfl,t,t',hq]:=h;cases xs with
 |nil=>exact W6 il hu π s σ H (.ref a) (.ref b) v u Q I rx ry #[[],[],#[a,[],Z,t,.nil],#[b,[],Z,t',.nil],hq]
 |cons z zs=>
  cases rx;cases ry;let#[us,r,pl,_]:=I.list t;let#[vs,r',qm,_]:=I.list t';let l1:=r.length;let l2:=r'.length;exact SeqAt.eq_list_lengthsAt pl.isList qm.isList (by simp only[c_,bne_iff_ne];simp at l1 l2;omega) Z1 #[.bl false,H,I,Z,hq]
end
end L2
namespace Ev
open PySem L2
def jX(ts:Xb)(m:Int):Xb:=((turnsOf (aO ts))[(m % ((turnsOf (aO ts)).length:Int)).toNat]?).getD []
def qU(hs:Xa)(ts:Xb)(qs:aJ)(f:az)(gd:Str)(t:Str × Str):eR:=gM hs ts qs f gd [] t.1 t.2++gM hs ts qs f gd [] t.2 t.1
def zu(hs:Xa)(ts:Xb)(qs:aJ)(f:az)(gd:Str)(m:Int):eR:=(jX ts m).flatMap (qU hs ts qs f gd)
def gj_{rs:List Xb}{t u:Str × Str}{r:Xb}(hr:r∈iB rs t)(hu:u∈r):u=t∨∃r'∈rs,u∈r':=by
 unfold iB at hr;split at hr
 ·rename_i dB
  rcases List.mem_or_eq_of_mem_set hr with m|rfl
  ·exact .inr #[r,m,hu]
  rcases fB.mp hu with h|h
  ·exact .inr #[_,lA dB,h]
  exact .inl ⇑h
 rcases fB.mp hr with m|m
 ·exact .inr #[r,m,hu]
 obtain rfl:r=[t]:=⇑m
 exact .inl ⇑hu
def Zk{u:Str × Str}:∀(ts:Xb)(rs:List Xb){r:Xb},r∈ts.foldl iB rs->u∈r->u∈ts∨∃r'∈rs,u∈r'
 |[],rs,r,hr,hu=>.inr #[r,hr,hu]
 |t::ts,rs,r,hr,hu=>by
  rw[List.foldl_cons] at hr;rcases Zk ts (iB rs t) hr hu with h|⟨r',h1,h2⟩
  ·exact .inl (fj _ h)
  rcases gj_ h1 h2 with rfl|h
  ·exact .inl fi
  exact .inr h
def ZG:∀(ts:Xb)(rs:List Xb),(ts.foldl iB rs).length<=rs.length+ts.length
 |[],rs=>bD _
 |t::ts,rs=>by
  rw[List.foldl_cons,jf];let h1:=ZG ts (iB rs t);let h2:=TF rs t;omega
def ZZ{n:Nat}:∀(ts:Xb)(rs:List Xb),(∀r∈rs,r.length<=n)->∀r∈ts.foldl iB rs,r.length<=n+ts.length
 |[],rs,h,r,hr=>h r hr
 |t::ts,rs,h,r,hr=>by
  rw[List.foldl_cons] at hr;have:=ZZ (n:=n+1) ts (iB rs t) (Uk h) r hr;rw[jf];omega
def FC{ts:Xb}{m:Int}{u:Str × Str}(h:u∈jX ts m):u∈aO ts:=by
 unfold jX at h;cases e:(turnsOf (aO ts))[(m % ((turnsOf (aO ts)).length:Int)).toNat]? with
 |none=>rw[e] at h;cases h
 |some r=>
  rw[e] at h;rcases Zk (aO ts) [] (dz e) h with z|⟨_,z,_⟩
  ·exact z
  cases z
def f9_{hs:Xa}{ts:Xb}(G:Good hs ts)(m:Int):(jX ts m).length<64:=by
 unfold jX;cases e:(turnsOf (aO ts))[(m % ((turnsOf (aO ts)).length:Int)).toNat]? with
 |none=>show 0<64;decide
 |some r=>
  have:=ZZ (n:=0) (aO ts) [] Z2 r (dz e);rw[FE] at this;have:=G.tH;show r.length<64;omega
def Kl{hs:Xa}{ts:Xb}(G:Good hs ts){u:Str × Str}(h:u∈aO ts):u.1∈aB hs/\u.2∈aB hs:=by
 have k:kT u∈(aO ts).map kT:=bo.mpr #[u,h,Z];rw[Fv,(jN _).mem_iff] at k;let#[t,ht,e]:=bo.mp k;let e:=Ff e;let#[h1,h2]:=G.Le t ht;let n1:=(iY hs).mem_iff.mpr h1;let n2:=(iY hs).mem_iff.mpr h2;rw[<- e];unfold aP;split
 ·exact#[n1,n2]
 exact#[n2,n1]
def YR{α β:Type}{g:α->List β}{n:Nat}(h:∀x,(g x).length<=n):∀l:List α,(l.flatMap g).length<=n * l.length
 |[]=>gQ _
 |a::l=>by
  let h1:=h a;let h2:=YR h l;rw[List.flatMap_cons,dE,jf,Nat.mul_succ];omega
def gt_(hs:Xa)(ts:Xb)(qs:aJ)(f:az)(gd:Str)(t:Str × Str):(qU hs ts qs f gd t).length<=2:=by
 unfold qU;rw[dE];let h1:=se hs ts qs f gd [] t.1 t.2;let h2:=se hs ts qs f gd [] t.2 t.1;omega
section v
def KP:bA ["sight","guard","moment","rows","moves","one","other"] ["sight","guard","moment"] (aM Td):=bI
inductive Ur(K:af)(CS CG CW:Addr):Sp|k:∀(v g p:Addr)(gd:Str)(m:Int)(hs:Xa)(ts:Xb)(qs:aJ)(fp:ai)(f:az),vs=[.ref v,.str gd,.int m]->0<=m->jd K CS CG CW H v g p hs ts qs fp f->Wd hs ts qs f->(∀l ys H',aa H H'->H l=none->H' l\.lst ys->bj K H' ys ((zu hs ts qs f gd m).map kM)->Q (.ref l) H')->Ur K CS CG CW vs H Q E
def gd_{f0 CS CG CW:Addr}{fd:Ae}(F:bc K "moves_by_turns" "moves_by_turns" Td f0 fd)(B:Bi mg)(TS:gA K CS)(TG:dO K CG)(TW:Txt K mg CW)(cT:!aZ CW 3 "turns" dG (M5 K CW))(cH:!bH 4 "heaviest_move" lE (kb K CS CG CW)):!ak bg 5 f0 fd ["sight","guard","moment"] (Ur K CS CG CW):=by
 exists F.bN KP;let#[v,g,p,gd,m,hs,ts,qs,fp,f,rfl,m0,S,W,k]:=h;let sz:=cX;have Cp:aI 3 _:=hr.mono (by decide);refine' #[_,?r0,?kk]
 case' r0=>refine' ao ?s1 ?r1
 case' r1=>refine' ao ?s2 ?r2
 case' r2=>refine' ao ?s3 (ao ?s4 (aK ?s5))
 case s1=>exact bC 3 KP.nd (j2 cT TW.cl Cp (bP (bP (pv 0) Z) Z))
 case s2=>exact bQ (dm (j4_ (oy hr 0)) (pv 3) (dI aX)) (aK (bw (dI aX))) bR
 case s3=>exact bC 4 KP.nd (dI aX)
 case' s4=>refine' gc fV Z (eS (bE iF (pv 3) (bV zo (pv 2) (cO l0 (by rfl) B.len jH %[3|0])))) (qP Z (eF (dF 5 KP.nd) (eF (dF 6 KP.nd) kZ))) (ao ?b1 (aK ?b2))
 case b1=>exact iX (jL jI DC DD DP (pv 4) %[bp cH hr %[0,5,6,1,dI aX|0]|0])
 case b2=>exact iX (jL jI DC DD DP (pv 4) %[bp cH hr %[0,6,5,1,dI aX|0]|0])
 case s5=>exact bw (pv 4)
 let#[dx,dl,dv,dp,ad,h1,G,h3,h4,h5,h6]:=S.ex;let#[fZ,dw,dy,vs,bq,g1,g2,_]:=id G.ex;let#[eW,d1,l2,d3,jR,_Y,ef,w1,_]:=id g2.ex;have gL:(cB d1 l2 d3).lookup ("turns":Str)=none:=iW _ _ _ Z0 Z0 Z0;apply#[_,Z,v,CS,dx,_,_,Z,h1,TS.cl,TS.nW,gJ _ _ _ _,g,CG,fZ,_,_,Z,g1,TG.cl,TG.nW,pY _ _ _,p,eW,_,Z,w1,gL,p,hs,ts,bq,Z,g2,W.Gd.tH,λlr as H1 s1 nr _ _ _ R=>?_];lk;let la:=bG R.2;apply#[_,Z,zl,λle ne=>?_];let#[s12,e2]:=bS (X:=.lst []) ne;generalize upd H1 le _=H2 at s12 e2 ⊢;let s2:=s1.trans s12;let R2:=R.same s12;apply#[lr,le,_,Z,Z,.of R2.1,.of e2,_,Z,?_];apply br (λc=>?_) (λc=>?_)
 ·have z:as=[]:=⇑c
  have z:turnsOf (aO ts)=[]:=by
   rw[z] at la;exact D6.mp la.symm
  apply#[zl,λl nl=>?_];apply k l [] _ (s2.trans (aa.new nl)) (s2.free nl) aE ?_;unfold zu jX;rw[z];exact .nil
 have z:as≠[]:=⇑c
 have pos:0<as.length:=List.length_pos_iff.mpr z;apply#[zl,λlm nm=>?_];lk;let#[BS,e3]:=bS (X:=.lst []) nm;generalize upd H2 lm _=H3 at BS e3 ⊢;let s3:=s2.trans BS;have Eo:H lm=none:=s2.free nm;let R3:=R2.same BS
 have lt:(m % ((turnsOf (aO ts)).length:Int)).toNat<as.length:=by
  let h1:=Int.emod_nonneg m (show ((as.length:Nat):Int)≠0 by omega);let h2:=Int.emod_lt_of_pos m (show 0<((as.length:Nat):Int) by omega);rw[<- la];omega
 have lt':(m % ((turnsOf (aO ts)).length:Int)).toNat<(turnsOf (aO ts)).length:=by omega
 let#[zs,hz,tz]:=jg R2.2 _ lt lt'
 have er:jX ts m=(turnsOf (aO ts))[(m % ((turnsOf (aO ts)).length:Int)).toNat]:=by
  unfold jX;rw[cE lt'];rfl
 rw[<- er] at tz;let lm63:=f9_ W.Gd m;have rin:∀u∈jX ts m,u.1∈aB hs/\u.2∈aB hs:=λu hu=>Kl W.Gd (FC hu);let h0:=Int.emod_nonneg m (show (((turnsOf (aO ts)).length:Nat):Int)≠0 by omega)
 have ix:gP (as.map V.ref) (m % ((as.map V.ref).length:Int))\.ref (as[(m % ((turnsOf (aO ts)).length:Int)).toNat]):=by
  rw[aq,la,fU h0 (by rw[aq];omega),d0,cE lt];rfl
 generalize as[(m % ((turnsOf (aO ts)).length:Int)).toNat]=ar at hz ix;let lz:=bG tz;rw[aq] at lz;have UN:ar≠lm:=bB hz nm;replace hz:=BS _ _ hz;replace tz:=tz.same BS
 let bx:bX:=λi σ H'=>∃(v5 v6:aQ) (ys:ag),σ=[some (.ref v),some (.str gd),some (.int m),some (.ref lr),some (.ref lm),v5,v6]/\aa H H'/\bf lm H3 H'/\H' lm\.lst ys/\bj K H' ys ((((jX ts m).take i).flatMap (qU hs ts qs f gd)).map kM)
 apply#[_,Z,_,Z,_,Z,lr,_,Z,.inl (.of R3.1),_,_,Z,Z,by rw[aq];omega,lr,_,_,_,Z,Z,.of R3.1,ix,ar,Z,#[_,.of hz],jh (K:=K) (a:=ar) (xs:=zs) bx #[none,none,[],Z,s3,bf.refl _ _,e3,.nil] (λi σ H' _ ⟨_,_,_,_,_,b,_⟩=>.of (b _ _ hz UN)) ?_ ?_]
 ·rintro i x σ H4 hx ⟨v5,v6,ys,rfl,s4,b4,m4,t4⟩;let#[u,hu,a,rfl,ha]:=oA tz hx;have hi:i<(jX ts m).length:=(cK.mp hu).1;let#[n1,n2]:=rin u (dz hu);have EK:H4 a\.tup [.str u.1,.str u.2]:=b4 _ _ ha (aR ha e3 nofun);apply#[a,_,Z,.of EK,Z,_,_,Z,_,_,Z,Z,?_];dsimp only;let ly:=bG t4;rw[aq] at ly;let bl:=YR (gt_ hs ts qs f gd) ((jX ts m).take i);rw[dZ] at bl;let l1:=se hs ts qs f gd [] u.1 u.2;let Es:=se hs ts qs f gd [] u.2 u.1;apply#[_,Z,.inl #[Z,_,.of m4],_,Z,_,Z,_,Z,_,Z,zl,λlg ng=>?_];let#[BR,e5]:=bS (X:=.lst []) ng;generalize upd H4 lg _=H5 at BR e5 ⊢;apply#[v,g,p,lg,u.1,u.2,gd,[],hs,ts,qs,fp,f,Z,S.same (s4.trans BR),W,n1,n2,e5,λl6 z6 H6 GU n6 e6 t6=>?_];let Lu:=BR.trans GU;let m6:=Lu _ _ m4;let lz6:=bG t6;rw[aq] at lz6;apply#[lm,l6,ys,z6,Z,Z,m6,e6,by omega,?_];have s7:aa H (upd H6 lm (.lst (ys++z6))):=jP (s4.trans Lu) Eo;have b7:bf lm H3 (upd H6 lm (.lst (ys++z6))):=λb o e n=>by rw[aD n];exact Lu _ _ (b4 _ _ e n)
  let e7:=us H6 lm (.lst (ys++z6))
  have t7:bj K (upd H6 lm (.lst (ys++z6))) (ys++z6) ((((jX ts m).take i).flatMap (qU hs ts qs f gd)++gM hs ts qs f gd [] u.1 u.2).map kM):=by
   rw[cZ];exact iU (k_ (t4.same Lu) m6) (k_ t6 m6)
  generalize upd H6 lm _=H7 at s7 b7 e7 t7 ⊢;dsimp only;apply#[_,Z,.inl #[Z,_,.of e7],_,Z,_,Z,_,Z,_,Z,zl,λWp ng2=>?_];let#[uO,e8]:=bS (X:=.lst []) ng2;generalize upd H7 Wp _=H8 at uO e8 ⊢;apply#[v,g,p,Wp,u.2,u.1,gd,[],hs,ts,qs,fp,f,Z,S.same (s7.trans uO),W,n2,n1,e8,λl9 z9 H9 s89 n9 e9 t9=>?_];let Lr:=uO.trans s89;let m9:=Lr _ _ e7;let lz9:=bG t9;have ly7:(ys++z6).length=ys.length+z6.length:=dE;rw[aq] at lz9;apply#[lm,l9,ys++z6,z9,Z,Z,m9,e9,by omega,?_];apply#[_,_,(ys++z6)++z9,Z,jP (s7.trans Lr) Eo,λb o e n=>by rw[aD n];exact Lr _ _ (b7 _ _ e n),aE,?_];rw[show (jX ts m).take (i+1)=(jX ts m).take i++[u] by rw[lB,hu];rfl,List.flatMap_append,List.flatMap_cons,List.flatMap_nil,wa];unfold qU;rw[<- List.append_assoc,cZ];exact iU (k_ (t7.same Lr) m9) (k_ t9 m9)
 rintro σ H4 ⟨v5,v6,ys,rfl,s4,b4,m4,t4⟩;rw[lz,gG] at t4;exact#[_,Z,k lm ys H4 s4 Eo m4 t4]
def oZ:bA ["sight","rule","moment","words","moves","hand"] yZ (aM ko):=bI
inductive SC(K:af)(CS CG CW:Addr):Sp|k:∀(v g p:Addr)(m:Int)(gd:Str)(hs:Xa)(ts:Xb)(qs:aJ)(fp:ai)(f:az),∀r∈rl,vs=[.ref v,.str r.1,.int m]->r.2.1="turns"->r.2.2.2\gd->0<=m->jd K CS CG CW H v g p hs ts qs fp f->Wd hs ts qs f->(∀l ys H',aa H H'->H l=none->H' l\.lst ys->bj K H' ys ((zu hs ts qs f gd m).map kM)->Q (.ref l) H')->SC K CS CG CW vs H Q E
def jf_{f0 CS CG CW:Addr}{fd:Ae}(F:bc K "moves_seen" "moves_seen" ko f0 fd)(Kq:!bH 2 Di ["rule"] (Ky K))(cT:!bH 5 "moves_by_turns" ["sight","guard","moment"] (Ur K CS CG CW)):!ak bg 6 f0 fd yZ (SC K CS CG CW):=by
 exists F.bN oZ;let#[v,g,p,m,gd,hs,ts,qs,fp,f,r,eA,rfl,le,eg,m0,S,W,k]:=h;refine' #[_,ao ?s1 (ao ?s2 fC),?kk]
 case s1=>exact E_ (i:=3) oZ.nd Z (Or.inl Z) (bp Kq hr %[1|0])
 case s2=>exact bQ (dm jZ (bE cg (pv 3) aH) bL) (aK (bw (bp cT hr %[0,bE cg (pv 3) aH,2|0]))) bR
 apply#[_,Z,r,eA,Z,λaw ha=>?_];lk;apply#[_,Z,aw,_,_,_,Z,Z,ha _,Z,Z,_,Z,?_];rw[sx,cj le];apply cz ?_;apply#[_,Z,_,Z,aw,_,_,.str gd,Z,Z,ha _,?_,_,Z,v,g,p,gd,m,hs,ts,qs,fp,f,Z,m0,S,W,k];rw[eg];rfl
end
def ak.two{P:Ad}{w:Af}{K:af}{mg:Str->Option Aa}{base:Heap}{CX:jm}{k:Nat}{f:Addr}{fd:Ae}{ps:ae}{sp VG OG:Sp}(F:!ak CX k f fd ps VG)(G:!ak CX k f fd ps OG)(h:∀vs H Q E,sp vs H Q E->VG vs H Q E∨OG vs H Q E):!ak CX k f fd ps sp:=
 #[λvs H Q E q=>(h vs H Q E q).elim (F.len vs H Q E) (G.len vs H Q E),λA outer s H args us vs Q E hr e b v q=>(h vs H Q E q).elim (F.run A outer s H args us vs Q E hr e b v) (G.run A outer s H args us vs Q E hr e b v)]
def lS:Bc:=λr hs ts qs f h=>if r.2.1="least" then A1 r hs ts qs f h else if r.2.1="below" then DG r hs ts qs f h else Fl r hs ts qs f h
def XZ:∀r∈rl,r.2.1≠"turns"->r.2.1≠"least"->r.2.1≠"below"->r.2.1="shares":=by decide +kernel
def iB_:∀r∈rl,r.2.1="turns"->r.2.2.2.isSome=true:=by decide +kernel
def ZX{r:Rl}(h:r.2.1="least")(hs:Xa)(ts:Xb)(qs:aJ)(f:az)(x:Str):lS r hs ts qs f x=A1 r hs ts qs f x:=aF h
def Zo{r:Rl}(h:r.2.1="below")(hs:Xa)(ts:Xb)(qs:aJ)(f:az)(x:Str):lS r hs ts qs f x=DG r hs ts qs f x:=(aA (by rw[h];decide +kernel)).trans (aF h)
def _c{r:Rl}(h:r.2.1="shares")(hs:Xa)(ts:Xb)(qs:aJ)(f:az)(x:Str):lS r hs ts qs f x=Fl r hs ts qs f x:=(aA (by rw[h];decide +kernel)).trans (aA (by rw[h];decide +kernel))
def dQ(r:Rl)(hs:Xa)(ts:Xb)(qs:aJ)(f:az)(m:Int):eR:=if r.2.1="turns" then zu hs ts qs f (r.2.2.2.getD "") m else Fs lS r hs ts qs f
def Dv(r:Rl)(ts:Xb):Nat:=if r.2.1="turns" then max 1 (turnsOf (aO ts)).length else 1
def EY(r:Rl)(hs:Xa)(ts:Xb)(qs:aJ)(f:az):Bool:=(List.range (Dv r ts)).all λm=>(dQ r hs ts qs f m).isEmpty
def BT(T1 T2:Addr)(H H':Hp):Prop:=∀b o,H b\o->b≠T1->b≠T2->H' b\o
def BT.of{T1 T2:Addr}{H H':Hp}(s:aa H H'):BT T1 T2 H H':=λb o e _ _=>s b o e
def BT.trans{T1 T2:Addr}{H H1 H2:Hp}(a:BT T1 T2 H H1)(b:BT T1 T2 H1 H2):BT T1 T2 H H2:=λc o e n1 n2=>b c o (a c o e n1 n2) n1 n2
def BT.nt{T1 T2:Addr}{H H':Hp}(a:BT T1 T2 H H')(tb:Tb H T1 T2):NT H H':=λb o e n=>by
 let#[v1,h1]:=gz tb.a;let#[v2,h2]:=gz tb.b;exact a b o e (λz=>n v1 (by rw[z,h1] at e;exact (c7 e).symm)) (λz=>n v2 (by rw[z,h2] at e;exact (c7 e).symm))
def BT.sec{T1 T2:Addr}{H H':Hp}(a:bf T2 H H'):BT T1 T2 H H':=λb o e _ n=>a b o e n
section
variable{P:Ad}{w:Af}{K:af}{mg:Str->Option Aa}{base:Heap}{CS CG CW T1 T2:Addr}
def g3_{f0:Addr}{fd:Ae}{T:Addr}(l:!ak bg 6 f0 fd xb (xu K CS CG CW T (λr=>r.2.1="least") A1))(b:!ak bg 6 f0 fd xb (xu K CS CG CW T (λr=>r.2.1="below") DG))(s:!ak bg 6 f0 fd xb (xu K CS CG CW T (λr=>r.2.1="shares") Fl)):!ak bg 6 f0 fd xb (xu K CS CG CW T (λr=>r.2.1≠"turns") lS):=by
 apply ak.two l (OG:=xu K CS CG CW T (λr=>r.2.1≠"turns"/\r.2.1≠"least") lS) (ak.two b s λvs H Q E q=>?_) λvs H Q E q=>?_
 ·let#[v,g,p,aw,h,hs,ts,qs,fp,f,r,hr,e,#[n1,n2],ha,S,W,hh,tab,k]:=q;by_cases c:r.2.1="below"
  ·exact .inl #[v,g,p,aw,h,hs,ts,qs,fp,f,r,hr,e,c,ha,S,W,hh,tab,λl ys H' b t n e tu=>k l ys H' b t n e (by rw[Zo c];exact tu)]
  let c:=XZ r hr n1 n2 c;exact .inr #[v,g,p,aw,h,hs,ts,qs,fp,f,r,hr,e,c,ha,S,W,hh,tab,λl ys H' b t n e tu=>k l ys H' b t n e (by rw[_c c];exact tu)]
 let#[v,g,p,aw,h,hs,ts,qs,fp,f,r,hr,e,n1,ha,S,W,hh,tab,k]:=q;by_cases c:r.2.1="least"
 ·exact .inl #[v,g,p,aw,h,hs,ts,qs,fp,f,r,hr,e,c,ha,S,W,hh,tab,λl ys H' b t n e tu=>k l ys H' b t n e (by rw[ZX c];exact tu)]
 exact .inr #[v,g,p,aw,h,hs,ts,qs,fp,f,r,hr,e,#[n1,c],ha,S,W,hh,tab,k]
inductive M8(K:af)(CS CG CW T:Addr):Sp|k:∀(v g p:Addr)(m:Int)(hs:Xa)(ts:Xb)(qs:aJ)(fp:ai)(f:az),∀r∈rl,vs=[.ref v,.str r.1,.int m]->0<=m->jd K CS CG CW H v g p hs ts qs fp f->Wd hs ts qs f->cu H T kz->(∀l ys H',bf T H H'->cu H' T kz->H l=none->H' l\.lst ys->bj K H' ys ((dQ r hs ts qs f m).map kM)->Q (.ref l) H')->M8 K CS CG CW T vs H Q E
def iX_{f0:Addr}{fd:Ae}{T:Addr}(a:!ak bg 7 f0 fd yZ (mz K CS CG CW T (λr=>r.2.1≠"turns") lS))(t:!ak bg 6 f0 fd yZ (SC K CS CG CW)):!ak bg 7 f0 fd yZ (M8 K CS CG CW T):=by
 apply ak.two a (t.mono (by decide)) λvs H Q E q=>?_;let#[v,g,p,m,hs,ts,qs,fp,f,r,hr,e,m0,S,W,tab,k]:=q;by_cases c:r.2.1="turns"
 ·let#[gd,eg]:=wg.mp (iB_ r hr c);exact .inr #[v,g,p,m,gd,hs,ts,qs,fp,f,r,hr,e,c,eg,m0,S,W,λl ys H' s n e tu=>k l ys H' (bf.of s) (tab.same s) n e (by unfold dQ;rw[aF c,eg];exact tu)]
 exact .inl #[v,g,p,m,hs,ts,qs,fp,f,r,hr,e,c,S,W,tab,λl ys H' b t n e tu=>k l ys H' b t n e (by unfold dQ;rw[aA c];exact tu)]
def ub:bA ["web","rule"] ["web","rule"] (aM Sk):=bI
inductive Tc(K:af)(C:Addr):Sp|k:∀(p:Addr)(hs:Xa)(ts:Xb)(fp:ai),∀r∈rl,vs=[.ref p,.str r.1]->eC K C H p hs ts fp->ts.length<64->(∀H',aa H H'->Q (.int (Dv r ts)) H')->Tc K C vs H Q E
def gC_{f C:Addr}{fd:Ae}(F:bc K "rows_by" "rows_by" Sk f fd)(B:Bi mg)(T:Txt K mg C)(cW:!bH 2 Di ["rule"] (Ky K))(cT:!aZ C 3 "turns" dG (M5 K C)):!ak bg 4 f fd ["web","rule"] (Tc K C):=by
 exists F.bN ub;let#[p,hs,ts,fp,r,eA,rfl,W,h1,k]:=h;refine' #[_,ao ?s1 (aK ?s2),?kk]
 case s1=>exact bQ (dm ze (bE cg (bp cW hr %[1|0]) aH) bL) (aK (bw aH)) bR
 case s2=>exact bw (cO (gD_ Z) (by rfl) B.max Rq %[aH,cO l0 (by rfl) B.len jH %[j2 cT T.cl hr (pv 0)|0]|0])
 apply#[_,Z,r,eA,Z,λa ha=>?_];apply#[a,_,_,_,Z,Z,ha _,Z,Z,_,Z,?_];apply br (λc=>?_) (λc=>?_)
 ·have c:¬r.2.1="turns":=by simpa [sx] using c
  have:=k H (aa.refl _);unfold Dv at this;rw[aA c] at this;exact this
 have c:r.2.1="turns":=by simpa [sx] using c
 let#[eW,d1,l2,d3,jR,_Y,ef,w1,_]:=id W.ex;apply#[_,Z,p,eW,_,Z,w1,iW _ _ _ Z0 Z0 Z0,p,hs,ts,fp,Z,W,h1,λl as H' s _ _ _ _ R=>?_];apply#[l,_,Z,.inl (.of R.1),_,_,Z,?_];let la:=bG R.2;have:=k H' s;unfold Dv at this;rw[aF c,<- la] at this;rw[aq,show (if ((as.length:Nat):Int) > 1 then ((as.length:Nat):Int) else 1)=((max 1 as.length:Nat):Int) by split<;>omega]
 exact this
def R7:bA ["goods","placed","rule","sight","moment"] ["goods","placed","rule"] (aM Tf):=bI
structure Pld(K:af)(CG CW T1 T2:Addr)(H:Hp)(g p d:Addr)(hs:Xa)(ts:Xb)(qs:aJ)(fp:ai)(f:az):Prop where
 Pl:sj K CG CW H g p d hs ts qs fp f
 W:Wd hs ts qs f
 tb:Tb H T1 T2
 has:∀b∈fp,∃o,H b\o
inductive SD(K:af)(CG CW T1 T2:Addr):Sp|k:∀(g p d:Addr)(hs:Xa)(ts:Xb)(qs:aJ)(fp:ai)(f:az),∀r∈rl,vs=[.ref g,.ref d,.str r.1]->Pld K CG CW T1 T2 H g p d hs ts qs fp f->(∀H',BT T1 T2 H H'->Tb H' T1 T2->Q (.bl (EY r hs ts qs f)) H')->SD K CG CW T1 T2 vs H Q E
def j2_{f0:Addr}{fd:Ae}(F:bc K "rests_at" "rests_at" Tf f0 fd)(B:Bi mg)(TG:dO K CG)(Ug:!jQ CS 7 "Sight" lC (M6 K CS CG CW T1))(Fm:!bH 7 "moves_seen" yZ (M8 K CS CG CW T2))(Ub:!bH 4 "rows_by" ["web","rule"] (Tc K CW)):!ak bg 9 f0 fd ["goods","placed","rule"] (SD K CG CW T1 T2):=by
 exists F.bN R7;let#[g,p,d,hs,ts,qs,fp,f,r,eA,rfl,D,k]:=h;let sz:=cX;refine' #[_,ao ?s1 (ao ?s2 (aK (bw w9))),?kk]
 case s1=>exact bC 3 R7.nd (Jz Ug hr %[0,1|0])
 case' s2=>refine' gc fV Z (Nz (by rfl) B.range %[bp Ub hr %[bP (pv 0) Z,2|0]|0]) (dF 4 R7.nd) (aK (bQ ?e1 (aK (bw w9)) bR))
 case e1=>exact dm (YZ (oy hr 0)) (bp Fm hr %[3,2,4|0]) (dI aX)
 apply#[_,Z,_,Z,λv dx hv yM ne=>?_];have s2:aa H (upd (upd H dx (.own v)) v (.ins CS dx [])):=(aa.new yM).trans (aa.new (by rw[aD ne.symm];exact hv));let e2:=us (upd H dx (.own v)) v (.ins CS dx []);generalize upd (upd H dx (.own v)) v _=H2 at s2 e2 ⊢
 have Eg:v∉fp:=λhm=>by
  let#[o,e]:=D.has v hm;rw[e] at hv;cases hv
 have Pl2:sj K CG CW H2 g p d hs ts qs fp f:=#[D.Pl.G.same s2,D.W.Gd,D.Pl.JX,s2 _ _ D.Pl.hd,D.W.at_,D.W.nd,D.W.dC];apply#[v,dx,g,p,d,hs,ts,qs,fp,f,Z,e2,Eg,Pl2,D.W,D.tb.a.same s2,λH3 k3 hJ S3=>#[Z,?_]];lk;let#[zL,rP]:=gz D.tb.a;have yu:∀b o,H b\o->b≠T1->H3 b\o:=λb o e n=>k3 b o (s2 _ _ e) (bB e hv) n;have kB:NT H H3:=λb o e n=>yu b o e (λz=>by rw[z,rP] at e;exact n _ (c7 e).symm)
 have sS:cu H3 T2 kz:=by
  let#[es,a1,a2]:=D.tb.b;exact#[es,yu _ _ a1 D.tb.ne.symm,λx hx=>kB _ _ (a2 x hx) nofun]
 let#[_,_,_,_,_,_,GA3,_]:=id S3.ex;let#[fZ,dw,dy,vs,bq,g1,g2,_]:=id GA3.ex
 have rn:Dv r ts<=64:=by
  let tl:=ZG (aO ts) [];rw[FE,vZ] at tl;let tH:=D.W.Gd.tH
  have:(turnsOf (aO ts)).length<=64:=by
   show ((aO ts).foldl iB []).length<=64;omega
  unfold Dv;split<;>omega
 apply#[_,Z,g,CG,fZ,_,_,Z,g1,TG.cl,TG.nW,pY _ _ _,_,Z,p,hs,ts,bq,r,eA,Z,g2,D.W.Gd.tH,λH4 s4=>?_];apply#[((Dv r ts:Nat):Int),Z,by omega,by omega,?_];have _T:BT T1 T2 H H4:=λb o e n1 n2=>s4 _ _ (yu b o e n1);let S4:=S3.same s4;have iH:Tb H4 T1 T2:=#[hJ.same s4,sS.same s4,D.tb.ne]
 let bx:bX:=λi σ H'=>∃v4:aQ,σ=[some (.ref g),some (.ref d),some (.str r.1),some (.ref v),v4]/\BT T1 T2 H4 H'/\Tb H' T1 T2/\∀j:Nat,j<i->(dQ r hs ts qs f j).isEmpty=true
 apply Nw bx #[none,Z,BT.of (aa.refl _),iH,by omega] ?_ ?_
 ·rintro i σ H5 hi ⟨v4,rfl,LH,jS,em⟩;rw[A_] at hi;lk;let#[xD,rN]:=gz jS.b;apply#[_,Z,_,Z,_,Z,v,g,p,0+(i:Int),hs,ts,qs,fp,f,r,eA,Z,by omega,S4.nt (LH.nt iH),D.W,jS.b,λl ys H6 b6 Bl nl hl tu=>?_];have Em:BT T1 T2 H5 H6:=BT.sec b6;apply#[zl,λle ne'=>?_];let s7:=aa.new (o:=.lst []) ne';have qh:Tb (upd H6 le (.lst [])) T1 T2:=#[cu.same s7 (cu.but jS.a b6 #[_,rN] D.tb.ne),Bl.same s7,D.tb.ne];let ly:=bG tu;rw[aq,Int.zero_add] at ly;apply#[l,le,ys,Z,Z,.of (s7 _ _ hl),.of aE,_,Z,?_];let VZ:=(LH.trans Em).trans (BT.of s7);apply br (λc=>?_) (λc=>?_)
  ·have c:ys.isEmpty=false:=⇑c
   have hf:EY r hs ts qs f=false:=by
    apply List.all_eq_false.mpr #[i,List.mem_range.mpr hi,?_];rw[List.isEmpty_eq_false_iff] at c;rw[List.isEmpty_iff];intro z;rw[z,vZ] at ly;exact c (D6.mp ly)
   have:=k _ (_T.trans VZ) qh;rw[hf] at this;exact this
  have c:ys.isEmpty=true:=⇑c
  apply#[_,Z,VZ,qh,λj hj=>?_];by_cases e:j=i
  ·rw[e,List.isEmpty_iff];rw[List.isEmpty_iff] at c;rw[c,vZ] at ly;exact D6.mp ly.symm
  exact em j Z1
 rintro σ H5 ⟨v4,rfl,LH,jS,em⟩;rw[A_] at em;have ht:EY r hs ts qs f=true:=List.all_eq_true.mpr λj hj=>em j (List.mem_range.mp hj);have:=k H5 (_T.trans LH) jS;rw[ht] at this;exact this
end
def KQ{α:Type}{xs:List α}{i:Nat}{x:α}(h:xs[i]? = some x):xs.take (i+1)=xs.take i++[x]:=by rw[lB,h];rfl
def nI(f:az)(m:Mv):az:=λn=>if n=m.1 then m.2.2 else f n
def dX(f:az)(ms:eR):az:=ms.foldl nI f
def ic_(f:az)(a:eR)(m:Mv):dX f (a++[m])=nI (dX f a) m:=by
 unfold dX;rw[List.foldl_append];rfl
def j9_{ns:ae}{f:az}{m:Mv}(h:m.1∈ns):putK (gf ns f) (Sum.inr m.1) (.str m.2.2)=gf ns (nI f m):=by
 unfold gf;rw[X2 h];apply KY λn _=>?_;unfold nI;by_cases z:n=m.1
 ·rw[aF z,aF z]
 rw[aA z,aA z]
def hpM{H:Hp}{p:Addr}{m:Mv}(h:H p\.tup ((kM m).map kV)):H p\.tup [.str m.1,.str m.2.1,.str m.2.2]:=h
def X_{A:ae}{n:Str}:∀{ms:eR}{f:az},(∀x∈ms,x.2.2∈A)->f n∈A->dX f ms n∈A
 |[],_,_,h=>h
 |m::ms,f,a,h=>by
  show dX (nI f m) ms n∈A;apply X_ (λx hx=>a x (by simp[hx])) ?_;unfold nI;split
  ·exact a m Z2
  exact h
section
variable{hs:Xa}{ts:Xb}{qs:aJ}{f:az}
def xy(hs:Xa)(qs:aJ)(x:Mv):Prop:=x.1∈qs.map (·.1)/\x.2.2∈aB hs
def MH{gd a b:Str}{gv:ae}(hb:b∈aB hs):∀x∈gM hs ts qs f gd gv a b,xy hs qs x:=λx h=>by
 unfold gM at h;split at h
 ·rename_i n e
  let hm:=oC.mp h;subst hm;exact#[(DM (List.mem_of_find?_eq_some e)).1,hb]
 cases h
def RF{ms ns:eR}(a:∀x∈ms,xy hs qs x)(b:∀x∈ns,xy hs qs x):∀x∈ms++ns,xy hs qs x:=λx h=>(fB.mp h).elim (a x) (b x)
def QM{gd h:Str}:∀{l:ae}{ms:eR},(∀o∈l,o∈aB hs)->(∀x∈ms,xy hs qs x)->∀x∈pU hs ts qs f gd h ms l,xy hs qs x
 |[],ms,_,a=>a
 |o::l,ms,hl,a=>by
  unfold pU;split
  ·exact QM (λx hx=>hl x (by simp[hx])) (RF a (MH (hl o Z2)))
  exact QM (λx hx=>hl x (by simp[hx])) a
def Qp{h:Str}:∀{l:ae}{ms:eR},(∀o∈l,o∈aB hs)->(∀x∈ms,xy hs qs x)->∀x∈qM hs ts qs f h ms l,xy hs qs x
 |[],ms,_,a=>a
 |o::l,ms,hl,a=>by
  unfold qM;split
  ·apply Qp (λx hx=>hl x (by simp[hx])) (RF a λx hx=>?_);let#[n,hn,rfl]:=bo.mp hx;exact#[(DM ((Fi _ _ _ _).subset hn)).1,hl o Z2]
  exact Qp (λx hx=>hl x (by simp[hx])) a
def Qv(W:Wd hs ts qs f)(r:Rl)(m:Int):∀x∈dQ r hs ts qs f m,xy hs qs x:=by
 have El:∀h,∀o∈di hs ts qs f h,o∈aB hs:=λh o ho=>Dq ((Fw hs ts qs f h).mem_iff.mp ho);unfold dQ;split
 ·intro x hx;let#[t,ht,hx]:=List.mem_flatMap.mp hx;let#[t1,t2]:=Kl W.Gd (FC ht);exact RF (MH t2) (MH t1) x hx
 have full:∀x∈(aB hs).flatMap (lS r hs ts qs f),xy hs qs x:=λx hx=>by
  let#[h,hh,hx]:=List.mem_flatMap.mp hx;revert hx;unfold lS;split
  ·unfold A1 xt;have:=El h;split
   ·intro z;cases z
   rename_i o _ e
   rw[e] at this;exact MH (this o Z2) x
  split
  ·exact QM (El h) (λx z=>by cases z) x
  exact Qp (λo ho=>Dq ho) (λx z=>by cases z) x
 unfold Fs;split
 ·exact λx hx=>full x (List.mem_of_mem_take hx)
 exact full
end
def eC.yR{K:af}{C:Addr}{H:Hp}{p:Addr}{hs:Xa}{ts:Xb}{fp:ai}(W:eC K C H p hs ts fp){b:Addr}(hb:b∈fp):∃o,H b\o/\∀vs,o≠.tbl vs:=by
 let#[dx,d1,l2,d3,zs,as,rfl,h1,h2,h3,h4,h5,h6,h7]:=W.ex;simp only[cc] at hb;rcases hb with rfl|rfl|rfl|rfl|hb
 ·exact#[_,h1,by intro vs z;cases z]
 ·exact#[_,h2,by intro vs z;cases z]
 ·exact#[_,h3,by intro vs z;cases z]
 ·exact#[_,h5,by intro vs z;cases z]
 let#[i,hi,e]:=j3 hb;exact#[_,h7 i ((aB hs)[i]' Z1) b (cE Z1) (by rw[<- e];exact cE hi),by intro vs z;cases z]
def fO.yR{K:af}{CG CW:Addr}{H:Hp}{g p:Addr}{hs:Xa}{ts:Xb}{qs:aJ}{fp:ai}(G:fO K CG CW H g p hs ts qs fp):∃gW,fO K CG CW H g p hs ts qs gW/\(∀b∈gW,b∈fp)/\∀b∈gW,∃o,H b\o/\∀vs,o≠.tbl vs:=by
 let#[dx,dw,dy,vs,bq,h1,h2,h3,h4,h5,m1,m2,m3,m4,m5]:=G.ex;apply#[g::dw::dy::(bq++vs.filterMap λv=>match v with | .ref a=>some a|_=>none),#[dx,dw,dy,vs,bq,h1,h2,h3,h4,h5,by simp,by simp,by simp,λb hb=>by simp[hb],λv hv a z=>?_],λb hb=>?_,λb hb=>?_]
 ·have:a∈vs.filterMap λv=>match v with | .ref a=>some a|_=>none:=wc.mpr #[v,hv,by rw[z]];simp only[cc,fB];exact .inr (.inr (.inr (.inr this)))
 ·simp only[cc,fB] at hb;rcases hb with rfl|rfl|rfl|hb|hb
  ·exact m1
  ·exact m2
  ·exact m3
  ·exact m4 b hb
  let#[v,hv,e]:=wc.mp hb;cases v with
  |ref a=>cases e;exact m5 _ hv _ Z
  |_=>cases e
 simp only[cc,fB] at hb;rcases hb with rfl|rfl|rfl|hb|hb
 ·exact#[_,h1,by intro vs z;cases z]
 ·exact#[_,h3,by intro vs z;cases z]
 ·exact#[_,h4,by intro vs z;cases z]
 ·exact h2.yR hb
 let#[v,hv,e]:=wc.mp hb;let#[i,hi,ev]:=j3 hv;let le:=bG h5;let w:=jg h5 i hi Z1;rw[ev] at w;cases o:(qs[i]' Z1).2.2 with
 |none=>
  rw[o] at w;rw[show v=.non from w] at e;cases e
 |some ws=>
  rw[o] at w;let#[a,ys,ea,ha,_]:=w;rw[ea] at e;cases e;exact#[_,ha,by intro vs z;cases z]
section
variable{K:af}{CG CW:Addr}
end
def rE:ae:=["least one high","least one fall","least one calm","least all high","least all fall","least all calm","below one high","below one fall","below one calm","below all high","below all fall","below all calm","shares one","shares all","turns high","turns fall","turns calm"]
def lF_:∀x∈rE,∃r∈rl,r.1=x:=by decide +kernel
section
variable{P:Ad}{w:Af}{K:af}{mg:Str->Option Aa}{base:Heap}{CG CW:Addr}
def MO:bA [iE,"_law_some"] [iE] (aM uv):=bI
def tJ:Sp:=λvs H Q _=>∃l:Addr,vs=[.ref l]/\dA H l/\∀(r:Rl) (H':Hp),r∈rl->bf l H H'->dA H' l->Q (.str r.1) H'
def kv_{f0:Addr}{fd:Ae}(F:bc K "_law_rule" "_law_rule" uv f0 fd)(cD:!bH 1 zp A0 DZ):!ak bg 2 f0 fd [iE] tJ:=by
 exists F.bN MO;let#[l,rfl,st,k]:=h;refine' #[_,ao ?s1 (ao ?s2 (ao ?s3 (aK ?s4))),?kk]
 case s1=>exact bC 1 MO.nd (dI %[bL,bL,bL,bL,bL,bL|0])
 case s2=>exact bC 1 MO.nd (bV Fc (pv 1) (dI %[bL,bL,bL,bL,bL|0]))
 case s3=>exact bC 1 MO.nd (bV Fc (pv 1) (dI %[bL,bL,bL,bL,bL,bL|0]))
 case s4=>exact bw (bE iF (pv 1) (bp cD hr %[0,aH|0]))
 apply#[zl,λa na=>?_];let#[s1,e1]:=bS (X:=.lst ((rE.take 6).map V.str)) na;show gZ _ _ _ (upd H a (.lst ((rE.take 6).map V.str))) _;generalize upd H a _=H1 at s1 e1 ⊢;lk;apply#[_,Z,zl,λb nb=>?_];let#[s2,e2]:=bS (X:=.lst (((rE.drop 6).take 5).map V.str)) nb;show uZ _ _ (upd H1 b (.lst (((rE.drop 6).take 5).map V.str))) _;generalize upd H1 b _=H2 at s2 e2 ⊢;apply#[a,b,_,_,Z,Z,s2 _ _ e1,e2,by decide +kernel,λc nc=>?_];let#[s3,e3]:=bS (X:=.lst ((rE.take 11).map V.str)) nc;show gZ _ _ _ (upd H2 c (.lst ((rE.take 11).map V.str))) _;generalize upd H2 c _=H3 at s3 e3 ⊢;lk;apply#[_,Z,zl,λb2 LR=>?_];let#[s4,e4]:=bS (X:=.lst ((rE.drop 11).map V.str)) LR;show uZ _ _ (upd H3 b2 (.lst ((rE.drop 11).map V.str))) _;generalize upd H3 b2 _=H4 at s4 e4 ⊢;apply#[c,b2,_,_,Z,Z,s4 _ _ e3,e4,by decide +kernel,λe ne=>?_];let#[s5,e5]:=bS (X:=.lst (rE.map V.str)) ne;show gZ _ _ _ (upd H4 e (.lst (rE.map V.str))) _;generalize upd H4 e _=H5 at s5 e5 ⊢;lk;let Ai:=(((s1.trans s2).trans s3).trans s4).trans s5;have el:e≠l:=(((((st.same s1).same s2).same s3).same s4)).ne ne;apply#[_,Z,_,Z,l,17,Z,by decide,by decide,st.same Ai,λq H6 q0 q1 b6 oS=>?_]
 let#[v,hv,r,fH,rfl]:=Q0 (p:=λv:V=>∃r∈rl,v=.str r.1) (xs:=rE.map V.str) (r:=q) (n:=17) Z q0 q1 (λv hv=>by
  let#[x,hx,rfl]:=bo.mp hv;let#[r,h1,h2]:=lF_ x hx;exact#[r,h1,by rw[h2]])
 exact#[e,_,_,_,Z,Z,.inl (.inl (b6 _ _ e5 el)),hv,k r H6 fH ((bf.of Ai).trans b6) oS]
end
end Ev
namespace L2
open PySem PySem.Spec PyProof.Rows PySem.W
section
variable{X:Cx}
def Z6{k:V}:∀{xs:ag}{us:aj},Vals xs us->xs.all lQ=true->us.countP (oh k)=xs.countP λy=>ja y k
 |_,_,.nil,_=>rfl
 |y::xs,u::us,.cons r t,f=>by
  rw[List.all_cons,pZ] at f;rw[List.countP_cons,List.countP_cons,Z6 t f.2,ME r f.1]
inductive pe(x:V)(vs:ag)(H:Hp)(Q:VK):Prop
 |mk:∀(l:Addr) (xs:ag) (k:V),x=.ref l->vs=[k]->H l\.lst xs->lQ k=true->xs.all lQ=true->Q (.int ((xs.countP λy=>ja y k:Nat):Int)) H->pe x vs H Q
def hi_:N4 X "list.count" pe:=by
 intro π s σ H x vs v us Q I rx rv h;let#[l,xs,k,rfl,rfl,hH,fk,fx,q]:=h;cases rx;let#[u,rfl,ru]:=rv.one;let#[z,its,n,r,hl,e]:=I.kD hH;apply call_meets PySem.F.slot_list_count ⟨_,e,rfl⟩ PySem.F.entry_list_count (PySem.F.args_list_count_2 _ _) (SeqAt.list_countAt l its.toArray n none _ u (oh k)) ⟨e,λy hy=>Ko ru fk r fx y ⇑hy,?_⟩;rw[show its.toArray.toList=its from rfl,Z6 r fx];exact⟨.int _,H,I.tok _,⟨_,rfl⟩,q⟩
def RV:∀{xs:ag}{us:aj},Vals xs us->xs.all lQ=true->∀(k:V)(j:Nat)(h:j<us.length),∃h2:j<xs.length,oh k us[j]=ja xs[j] k
 |_,_,.nil,_,k,j,h=>absurd h (Nat.not_lt_zero _)
 |y::xs,u::us,.cons r t,f,k,j,h=>by
  rw[List.all_cons,pZ] at f;cases j with
  |zero=>exact#[Nat.zero_lt_succ _,ME r f.1]
  |succ j=>
   let#[h2,e]:=RV t f.2 k j (Nat.lt_of_succ_lt_succ h);exact#[Nat.succ_lt_succ h2,e]
inductive o9(x:V)(vs:ag)(H:Hp)(Q:VK):Prop
 |mk:∀(l:Addr) (xs:ag) (k:V) (j:Nat),x=.ref l->vs=[k]->H l\.lst xs->lQ k=true->xs.all lQ=true->j<1000->(∃y,xs[j]? = some y/\ja y k=true)->(∀i y,i<j->xs[i]? = some y->ja y k=false)->Q (.int (j:Int)) H->o9 x vs H Q
def h9_:N4 X "list.index" o9:=by
 intro π s σ H x vs v us Q I rx rv h;let#[l,xs,k,j,rfl,rfl,hH,fk,fx,hj,#[y,hy,ey],no,q]:=h;cases rx;let#[u,rfl,ru]:=rv.one;let#[z,its,n,r,hl,e]:=I.kD hH;let#[hjx,ejx]:=cK.mp hy;apply call_meets PySem.F.slot_list_index ⟨_,e,rfl⟩ PySem.F.entry_list_index (PySem.F.args_list_index_2 _ _) (SeqAt.list_indexAt l its.toArray n none _ u (oh k) j (by show j<its.length;omega) Z1 ?_ ?_) ⟨e,λy hy=>Ko ru fk r fx y ⇑hy,⟨.int _,H,I.tok _,⟨_,rfl⟩,q⟩⟩
 ·let#[h2,e2]:=RV r fx k j Z1;show oh k its[j]=true;rw[e2,ejx];exact ey
 intro m hm lt;let#[h2,e2]:=RV r fx k m ⇑hm;show oh k its[m]=false;rw[e2];exact no m _ lt (cE h2)
end
end L2
namespace g0
open PySem PySem.W PyProof.Rows
section
variable{prog:Ad}{w:Af}{A:Ag}{E:Aa->Ab->Prop}{s:Ab}
end
end g0
namespace L2
open PySem PySem.Spec PyProof.Rows PySem.W g0
section
variable{X:Cx}{o i e value:Expr}{pos pos' F6:Pos}{td ty tv:TE}
end
section
variable{X:Cx}
inductive uV(xs:ag)(H:Hp)(Q:VK):Prop
 |mk:∀v d kvs,xs=[.ref v]->H v\qX v d->Rd H d (.dK kvs)->(∀l,H l=none->Q (.ref l) (upd H l (.lst (kvs.map (·.2)))))->uV xs H Q
def gr_(hc:X.calm=true):gF X (.type "list") uV:=by
 intro π s σ H xs us Q I r h;let#[v,d,kvs,rfl,hv,hd,q]:=h;let#[u,rfl,ru]:=vals1 r;cases ru;let#[z,hdn,vs,rel,dd]:=oo I.ay hd;let#[ep,dat]:=dd.dictAt;let#[iv,_,_]:=I.ay v _ hv;let hl:=rel.length;apply kdl_call (kdl_values (knd:=eD X.prog X.w) (kvs:=vs) (ep:=ep)) (I.ok.hd hc) ⟨iv,dat⟩ Z1 λh' tk acc c k hD a=>?_;have a':ItemsOf (λi v=>∃k,vs[i]? = some (k,v)) acc (kvs.map (·.2)).length:=by rw[aq,hl];exact a
 apply#[.ref s.heap.objs.size,_,I.laid (t':=tk) k (bD _) (show eX X.prog X.w _ h' _ (.lst (kvs.map (·.2))) from #[by rw[aq];exact z,acc.toList,c,NU a' λj v ⟨k,e⟩ y hy=>?_,by rw[Array.toArray_toList];exact hD]),Z,q _ I.fresh];rw[d0] at hy;cases e3:kvs[j]? with
 |none=>rw[e3] at hy;cases hy
 |some kv=>
  rw[e3] at hy;let#[u,hu,ru]:=MK rel j (k:=kv.1) (x:=kv.2) e3;rw[e] at hu;let hu:=c7 hu;have g2:v=u:=dH Prod.snd hu;cases (c7 hy:kv.2=y);rw[g2];exact ru
end
section
variable{X:Cx}{CX:jm}{k:Nat}{f C:Addr}{fd:Ae}{ps ks:ae}{sp:Sp}{E:XK}{m:Str}{pos apos:Pos}{e o:Expr}{es:List Expr}{Et:List Keyword}{ta:TE}{t tk:TA}{g:aj->aj->aj}{gV:ag->ag->ag}
end
structure wG(K:af)(x qual:Str)(st:Stmt)(f:Addr)(fd:Ae):Prop where
 ex:∃(oc:Aa) (od:Option Addr) (T:Addr) (kV doc pm:Aa) (an:Option Addr) (aC ct:Aa) (gK:Array (Option Aa)) (o:Obj) (n:Nat),
  fd=PySem.W.fnOf x qual (gY st) (fg st) (aM st) (.ref T) kV doc pm an aC ct/\K.lookup f=some #[oc,od,.func fd,gK]/\PySem.W.codeIn K aC qual=true/\K.lookup T\o/\o.data=.seq (List.toArray [.none]) n
end L2
namespace L2
open PySem PySem.Spec PyProof.Rows PySem.W
section
variable{prog:Ad}{w:Af}{A:Ag}
def _b{d it:Addr}{vs:List (Key × Aa)}{ep:Nat}(hh:A.handled=none)(nZ:d≠it):Walks prog w A it [it,d] [it] vs.length (λi v=>∃k,vs[i]? = some (k,v)) (λi h=>h.IsValIter it d i vs.length ep/\h.DictAt (eD prog w) d vs ep) where
 sub:=λb hb=>by simp at hb;simp[hb]
 frame:=λi h h' st k=>#[st.1.at λo e=>k it Z2 o e,by
  let#[o,es,ho,r]:=st.2;exact#[o,es,k d Z2 o ho,r]]
 item:=by
  intro i s Q E hi st h;obtain⟨⟨k,v⟩,hx⟩:∃p,vs[i]? = some p:=#[vs[i],by simp[hi]];apply wpAny_pyNext_values_item st.1 st.2 hx λh' fu sb=>?_;apply h v h' s.toks #[k,hx] #[fu,?_] λb o hb e=>(sb.2 b ⇑hb).trans e;let#[o,es,ho,r]:=st.2;exact#[o,es,(sb.2 d nZ).trans ho,r]
 done:=by
  intro s Q E st h;exact wpAny_pyNext_values_end hh st.1 st.2 Z2 λh' eb=>h h' s.toks λb o hb e=>eb b o ⇑hb e
 self:=λ_ _ _ _ st h=>wpAny_pyIter_valiter st.1 h
end
def MZ{ns:List (Key × Int)}{vs:List (Key × Aa)}(r:KV (ns.map λx=>(x.1,V.int x.2)) vs){i:Nat}{k:Key}{v:Aa}(h:vs[i]? = some (k,v)):∃n t,(ns.map (·.2))[i]? = some n/\v=.int n t:=by
 let hl:=r.length;rw[aq] at hl
 have hi:i<ns.length:=by
  have:=(cK.mp h).1;omega
 let#[u,hu,ru]:=MK r i (k:=(ns[i]'hi).1) (x:=V.int (ns[i]'hi).2) (by rw[d0,cE hi];rfl);rw[h] at hu;let e:=dH Prod.snd (c7 hu);let#[t,rfl]:=(show ∃t,u=Value.int (ns[i]'hi).2 t from ru);exact#[_,t,by rw[d0,cE hi];rfl,e]
inductive Al(xs:ag)(H:Hp)(Q:VK):Prop
 |mk:∀(v d:Addr) (ns:List (Key × Int)),xs=[.ref v]->H v\qX v d->Rd H d (.dK (ns.map λx=>(x.1,V.int x.2)))->0<ns.length->(∀m,m∈ns.map (·.2)->(∀a∈ns.map (·.2),a<=m)->Q (.int m) H)->Al xs H Q
inductive Ak(xs:ag)(H:Hp)(Q:VK):Prop
 |mk:∀(v d:Addr) (ns:List (Key × Int)),xs=[.ref v]->H v\qX v d->Rd H d (.dK (ns.map λx=>(x.1,V.int x.2)))->0<ns.length->(∀m,m∈ns.map (·.2)->(∀a∈ns.map (·.2),m<=a)->Q (.int m) H)->Ak xs H Q
def hI_{X:Cx}(hc:X.calm=true):gF X (.builtin "max") Al:=by
 intro π s σ H xs us Q I r h;let#[v,d,ns,rfl,hv,hd,h0,q]:=h;let#[u,rfl,ru]:=vals1 r;cases ru;let#[z,nZ,vs,rel,dd]:=oo I.ay hd;let#[ep,dat]:=dd.dictAt;let#[iv,_,_]:=I.ay v _ hv;let hl:=rel.length;rw[aq] at hl
 have JU:d<s.heap.objs.size:=by
  let#[o,es,ho,_]:=dat;exact bW ho
 apply call_max_walk (wpAny_pyIter_values (knd:=eD X.prog X.w) (kvs:=vs) (ep:=ep) iv dat ?_);apply⟨s.heap.objs.size,[s.heap.objs.size,d],[s.heap.objs.size],vs.length,λi v=>∃k,vs[i]? = some (k,v),_,_,rfl,_b (ep:=ep) (I.ok.hd hc) (dD JU),⟨⟨_,eL _ rfl,rfl,rfl⟩,?_⟩,λb hb=>?_,by omega,CmpOf.ints_gt (λi=>((ns.map (·.2))[i]?).getD 0) (λi v ⟨k,hv⟩=>?_),λv' h' tk hP k=>?_⟩
 ·let#[o,es,ho,r]:=dat;exact⟨o,es,b_ _ ho,r⟩
 ·have hb:b=s.heap.objs.size∨b=d:=⇑hb
  show b<(s.heap.objs.push _).size;rw[Array.size_push];rcases hb with e|e
  ·rw[e];exact Nat.lt_succ_self _
  rw[e];exact Nat.lt_succ_of_lt JU
 ·let#[n,t,e1,e2]:=MZ rel hv;apply⟨t,?_⟩;rw[e1];exact e2
 let#[k',Im]:=hP;let#[n,t,e1,rfl]:=MZ rel Im;let#[b1,b2]:=argBest_gt (λi=>((ns.map (·.2))[i]?).getD 0) (vs.length - 1);rw[e1] at b2;apply⟨.int n,H,I.kept (t':=tk) (λb o e=>k b o (λm=>?_) (b_ _ e)),⟨t,rfl⟩,q n (dz e1) λa ha=>?_⟩
 ·have m:b=s.heap.objs.size:=⇑m
  exact absurd m (dD (bW e))
 let#[j,hj,ej]:=j3 ha;have:=b2 j (by rw[aq] at hj;omega);rw[cE hj,ej] at this;exact this
def i0_{X:Cx}(hc:X.calm=true):gF X (.builtin "min") Ak:=by
 intro π s σ H xs us Q I r h;let#[v,d,ns,rfl,hv,hd,h0,q]:=h;let#[u,rfl,ru]:=vals1 r;cases ru;let#[z,nZ,vs,rel,dd]:=oo I.ay hd;let#[ep,dat]:=dd.dictAt;let#[iv,_,_]:=I.ay v _ hv;let hl:=rel.length;rw[aq] at hl
 have JU:d<s.heap.objs.size:=by
  let#[o,es,ho,_]:=dat;exact bW ho
 apply call_min_walk (wpAny_pyIter_values (knd:=eD X.prog X.w) (kvs:=vs) (ep:=ep) iv dat ?_);apply⟨s.heap.objs.size,[s.heap.objs.size,d],[s.heap.objs.size],vs.length,λi v=>∃k,vs[i]? = some (k,v),_,_,rfl,_b (ep:=ep) (I.ok.hd hc) (dD JU),⟨⟨_,eL _ rfl,rfl,rfl⟩,?_⟩,λb hb=>?_,by omega,CmpOf.ints_lt (λi=>((ns.map (·.2))[i]?).getD 0) (λi v ⟨k,hv⟩=>?_),λv' h' tk hP k=>?_⟩
 ·let#[o,es,ho,r]:=dat;exact⟨o,es,b_ _ ho,r⟩
 ·have hb:b=s.heap.objs.size∨b=d:=⇑hb
  show b<(s.heap.objs.push _).size;rw[Array.size_push];rcases hb with e|e
  ·rw[e];exact Nat.lt_succ_self _
  rw[e];exact Nat.lt_succ_of_lt JU
 ·let#[n,t,e1,e2]:=MZ rel hv;apply⟨t,?_⟩;rw[e1];exact e2
 let#[k',Im]:=hP;let#[n,t,e1,rfl]:=MZ rel Im;let#[b1,b2]:=argBest_lt (λi=>((ns.map (·.2))[i]?).getD 0) (vs.length - 1);rw[e1] at b2;apply⟨.int n,H,I.kept (t':=tk) (λb o e=>k b o (λm=>?_) (b_ _ e)),⟨t,rfl⟩,q n (dz e1) λa ha=>?_⟩
 ·have m:b=s.heap.objs.size:=⇑m
  exact absurd m (dD (bW e))
 let#[j,hj,ej]:=j3 ha;have:=b2 j (by rw[aq] at hj;omega);rw[cE hj,ej] at this;exact this
end L2
namespace g0
open PySem PySem.W PyProof.Rows
section
variable{prog:Ad}{w:Af}{A:Ag}{E:Aa->Ab->Prop}{s:Ab}
end
end g0
namespace L2
open PySem PySem.Spec PyProof.Rows PySem.W
section
variable{X:Cx}{π:List (Addr × Obj)}{σ:St}{H:Hp}{s:Ab}{d:Addr}{kvs:List (ax × V)}
end
structure rp(P:Ad)(w:Af)(K:af)(mg:Str->Option Aa)(base:Heap)(k:Nat)(x:Str)(ps:ae)(sp:Sp):Prop where
 ex:∃f fd,ak P w K mg base (d8 P w) k f fd ps sp/\mg x\.ref f/\PySem.W.keepIn K (.ref f)=true/\kX K fd ps []
def Wr{X:Cx}{E:XK}{k:Nat}{x:Str}{ps:ae}{sp:Sp}{p pos:Pos}{e:Expr}{es:List Expr}{t:TA}(c:rp X.prog X.w X.K X.mg X.base k x ps sp)(hr:aI k X.A)(hx:oq (d8 X.prog X.w) X E)(ha:PA X (e::es) t)(hg:Gl X x:=by rfl)(qG:(x == ("__debug__":Str))=false:=by decide)
 (he:starEach (e::es) X.env=(false,eval e X.env)::starEach es X.env:=by rfl)(fX:(backTo pos (starEach es X.env)).any (·.1)=false:=by rfl):PE X (.Call (.Name x p) (e::es) [] pos) (tF sp [] E t):=by
 let#[f,fd,F,m,kp,b]:=c.ex;exact Yr F hr hg m kp b .nil hx ha qG he fX
structure lK(P:Ad)(w:Af)(K:af)(mg:Str->Option Aa)(base:Heap)(C:Addr)(k:Nat)(m:Str)(ps:ae)(sp:Sp):Prop where
 ex:∃f fd,ak P w K mg base (d8 P w) k f fd ps sp/\Meth K C m f/\kX K fd ps []
def wG.okE{P:Ad}{w:Af}{K:af}{mg:Str->Option Aa}{base:Heap}{x qual:Str}{st:Stmt}{f:Addr}{fd:Ae}{N ps:ae}{k:Nat}{sp:Sp}(F:wG K x qual st f fd)(S:bA N ps (aM st))(len:∀vs H Q E,sp vs H Q E->vs.length=ps.length)
 (bY:∀(aC:Aa)(A:Ag)(outer:List Env)(s:Ab)(H:Hp)(vs:ag)(Q:VK)(E:XK),aI k (A.deeper (envOfC qual (aM st) s.heap.objs.size f aC))->sp vs H Q E->
   PassesOwn (model P w) (ij P w K mg base N qual (aM st) f aC A outer s H E).A (ij P w K mg base N qual (aM st) f aC A outer s H E).env (ij P w K mg base N qual (aM st) f aC A outer s H E).xe->
   oq (d8 P w) (ij P w K mg base N qual (aM st) f aC A outer s H E) E->Fq (ij P w K mg base N qual (aM st) f aC A outer s H E) E->
   ∃t,iy (ij P w K mg base N qual (aM st) f aC A outer s H E) (fg st) t/\t { nx:=λ_ H'=>Q .non H',rt:=Q } (start N vs) H):!ak (d8 P w) (k+1) f fd ps sp:=by
 let#[oc,od,T,kV,doc,pm,an,aC,ct,gK,o,n,rfl,lk,fY,_]:=F.ex;apply L_ lk fY S len λA outer s H vs Q E hr iA=>?_;let#[t,h,q]:=bY aC A outer s H vs Q E hr iA Hf ph o6;exact#[t,λπ s1 σ H1 D I hw=>gD (h π s1 σ H1 D (I.eM _) hw) (λ_ _ q=>q.bM) λ_ _ z=>vo z,q]
def iD{f g:Str}{v:V}{r:List (Str × V)}(h:f≠g):List.lookup f ((g,v)::r)=List.lookup f r:=by
 have:(f == g)=false:=⇑h
 simp[List.lookup,this]
def Dp{f:Str}{v:V}{r:List (Str × V)}:List.lookup f ((f,v)::r)\v:=by simp[List.lookup]
def WA{f:Str}:∀{r:List (Str × V)},f∉r.map (·.1)->List.lookup f r=none
 |[],_=>rfl
 |(g,v)::r,h=>by
  have h:¬(f=g∨f∈r.map (·.1)):=⇑h
  rw[iD (λz=>h (.inl z))];exact WA λz=>h (.inr z)
def zg{f g:Str}{v x:V}{r:List (Str × V)}(h:g≠f):aL f v ((g,x)::r)=(g,x)::aL f v r:=aA h
def Wx{f:Str}{v x:V}{r:List (Str × V)}:aL f v ((f,x)::r)=(f,v)::r:=aF Z
def Xc{f:Str}{v:V}:∀{r:List (Str × V)},f∉r.map (·.1)->aL f v r=r++[(f,v)]
 |[],_=>rfl
 |(g,x)::r,h=>by
  have h:¬(f=g∨f∈r.map (·.1)):=⇑h
  rw[zg (λz=>h (.inl z.symm)),Xc λz=>h (.inr z)];rfl
end L2
namespace Ev
open PySem L2
abbrev mP:Stmt:=gx y_ 0
abbrev DJ:Stmt:=gx y_ 1
abbrev BM:Stmt:=gx y_ 2
abbrev SO:Stmt:=gx y_ 3
abbrev mL:Stmt:=gx y_ 4
abbrev mO:Stmt:=gx y_ 5
abbrev Tp:Stmt:=gx y_ 6
abbrev Sd:Stmt:=gx y_ 7
abbrev Tx:Stmt:=gx y_ 8
structure fW(K:af)(CY:Addr):Prop where
 cl:j6 K CY
 nW:ip K CY "web"
 nR:ip K CY "rule"
 nM:ip K CY "moment"
 nP:ip K CY xc
 nH:ip K CY zc
 nD:ip K CY "deeds"
 nB:ip K CY "bound_in_parts"
def U5:ae:=["come","go","loosen","tick","moves_made","goods","stand","loads","heights","spread","at_rest","bound","log"]
def U6:ae:=["web","rule","moment",xc,zc,"deeds","bound_in_parts"]
def yMF:∀m∈U5,m∉U6:=by decide +kernel
def yF(p:Addr)(r:Str)(m:Int)(dp dh ld:Addr)(b:Int):List (Str × V):=[("web",.ref p),("rule",.str r),("moment",.int m),(xc,.ref dp),(zc,.ref dh),("deeds",.ref ld),("bound_in_parts",.int b)]
section
variable{p dp dh ld:Addr}{r:Str}{m b:Int}
def sN:(yF p r m dp dh ld b).lookup ("web":Str)\.ref p:=Dp
def FZ:(yF p r m dp dh ld b).lookup ("rule":Str)\.str r:=by unfold yF;rw[iD Z0,Dp]
def sO:(yF p r m dp dh ld b).lookup ("moment":Str)\.int m:=by unfold yF;rw[iD Z0,iD Z0,Dp]
def qf:(yF p r m dp dh ld b).lookup (xc:Str)\.ref dp:=by unfold yF;rw[iD Z0,iD Z0,iD Z0,Dp]
def xB:(yF p r m dp dh ld b).lookup (zc:Str)\.ref dh:=by unfold yF;rw[iD Z0,iD Z0,iD Z0,iD Z0,Dp]
def Bg:(yF p r m dp dh ld b).lookup ("deeds":Str)\.ref ld:=by unfold yF;rw[iD Z0,iD Z0,iD Z0,iD Z0,iD Z0,Dp]
def Oa:(yF p r m dp dh ld b).lookup ("bound_in_parts":Str)\.int b:=by unfold yF;rw[iD Z0,iD Z0,iD Z0,iD Z0,iD Z0,iD Z0,Dp]
def oj{x:Str}(h:x∈U5):(yF p r m dp dh ld b).lookup x=none:=WA (show x∉U6 from yMF x h)
def Wm{m':Int}:aL "moment" (.int m') (yF p r m dp dh ld b)=yF p r m' dp dh ld b:=by unfold yF;rw[zg Z0,zg Z0,Wx]
def WB{b':Int}:aL "bound_in_parts" (.int b') (yF p r m dp dh ld b)=yF p r m dp dh ld b':=by unfold yF;rw[zg Z0,zg Z0,zg Z0,zg Z0,zg Z0,zg Z0,Wx]
def MG:(yF p r m dp dh ld b).length<1000:=by show 7<1000;decide
end
def i5(ps:aJ)(yp:ag):List (Key × V):=List.zipWith (λ(q:Pc) v=>((Sum.inr q.1:Key),v)) ps yp
def J9:∀{ps:aJ}{yp:ag},yp.length=ps.length->(i5 ps yp).map (·.1)=(ps.map (·.1)).map Sum.inr
 |[],[],_=>rfl
 |q::ps,v::yp,h=>by
  show Sum.inr q.1::(i5 ps yp).map (·.1)=_;rw[J9 ⇑h];rfl
 |[],_::_,h=>by cases h
 |_::_,[],h=>by cases h
def YW:∀{ps:aJ}{yp:ag},yp.length=ps.length->(i5 ps yp).map (·.2)=yp
 |[],[],_=>rfl
 |q::ps,v::yp,h=>by
  show v::(i5 ps yp).map (·.2)=_;rw[YW ⇑h]
 |[],_::_,h=>by cases h
 |_::_,[],h=>by cases h
def XN{ps:aJ}{yp:ag}(h:yp.length=ps.length):(i5 ps yp).length=ps.length:=by
 rw[<- aq (f:=(·.1)),J9 h,aq,aq]
def kf_{ps:aJ}{yp:ag}{q:Pc}{v:V}(h:yp.length=ps.length)(n:q.1∉ps.map (·.1)):putK (i5 ps yp) (Sum.inr q.1) v=i5 (ps++[q]) (yp++[v]):=by
 rw[DV _ (wj (by
  rw[J9 h];intro z;let#[x,hx,e]:=bo.mp z;cases e;exact n hx))]
 unfold i5;rw[List.zipWith_append h.symm];rfl
def Qt{R:V->Pc->Prop}{n:Str}:∀{ps:aJ}{yp:ag},Paired R yp ps->n∈ps.map (·.1)->∃v q,a9 (i5 ps yp) (Sum.inr n)\v/\q∈ps/\q.1=n/\R v q
 |q::ps,v::yp,.cons a t,h=>by
  by_cases z:q.1=n
  ·exact#[v,q,l_ (dH Sum.inr z),by simp,z,a]
  have h:n∈ps.map (·.1):=by
   rcases cc.mp h with e|e
   ·exact absurd e.symm z
   exact e
  let#[v',q',e,m,en,r]:=Qt t h;exact#[v',q',(l8 λe=>z (gX e)).trans e,by simp[m],en,r]
def cU(ps:aJ)(n:Str):aJ:=ps.filter λq=>decide (q.1≠n)
def YC{R:V->Pc->Prop}{n:Str}:∀{ps:aJ}{yp:ag},Paired R yp ps->∃zJ,Dj (i5 ps yp) (Sum.inr n)=i5 (cU ps n) zJ/\Paired R zJ (cU ps n)
 |[],[],.nil=>#[[],Z,.nil]
 |q::ps,v::yp,.cons a t=>by
  let#[zJ,e,r]:=YC (n:=n) t;by_cases z:q.1=n
  ·apply#[zJ,?_,?_]
   ·show ((((Sum.inr q.1:Key),v))::i5 ps yp).filter _=_;rw[D7 (by simp[z])];unfold cU;rw[D7 (by simp[z])];exact e
   unfold cU;rw[D7 (by simp[z])];exact r
  apply#[v::zJ,?_,?_]
  ·show ((((Sum.inr q.1:Key),v))::i5 ps yp).filter _=_;rw[D8 (by simp[z])];unfold cU;rw[D8 (by simp[z])];exact dH _ e
  unfold cU;rw[D8 (by simp[z])];exact .cons a r
def SH{n:Str}{f:az}:∀{ps:aJ},Dj (gf (ps.map (·.1)) f) (Sum.inr n)=gf ((cU ps n).map (·.1)) f
 |[]=>rfl
 |q::ps=>by
  by_cases z:q.1=n
  ·show ((((Sum.inr q.1:Key),V.str (f q.1)))::gf (ps.map (·.1)) f).filter _=_;rw[D7 (by simp[z])];unfold cU;rw[D7 (by simp[z])];exact SH
  show ((((Sum.inr q.1:Key),V.str (f q.1)))::gf (ps.map (·.1)) f).filter _=_;rw[D8 (by simp[z])];unfold cU;rw[D8 (by simp[z])];exact dH _ SH
def S7(ps:aJ)(n:Str):(cU ps n).Sublist ps:=List.filter_sublist
def PcY(K:af)(H:Hp)(ld:Addr)(fp:ai)(v:V)(q:Pc):Prop:=∃t z,v=.ref t/\H t\.tup [.str q.1,.int q.2.1,z]/\bO K H z q.2.2/\∀a,z=.ref a->a∈fp/\a≠ld
structure YS where
 ps:aJ
 f:Str->Str
 m:Nat
 b:Int
 ds:List ax
structure du(K:af)(CY CW:Addr)(H:Hp)(y p dp dh ld:Addr)(r:Str)(hs:Xa)(ts:Xb)(S:YS)(fp:ai):Prop where
 ex:∃dx,H y\.ins CY dx (yF p r S.m dp dh ld S.b)
 W:∃bq,eC K CW H p hs ts bq/\(∀c∈bq,c∈fp)/\y∉bq/\dp∉bq/\dh∉bq/\ld∉bq
 P:∃yp,H dp\.dK (i5 S.ps yp)/\Paired (PcY K H ld fp) yp S.ps
 Hd:H dh\.dK (gf (S.ps.map (·.1)) S.f)
 D:∃dv,H ld\.lst dv/\bj K H dv S.ds
 nd:dp≠dh
 m:y∈fp/\dp∈fp/\dh∈fp/\ld∈fp
 has:∀c∈fp,∃o,H c\o/\∀vs,o≠.tbl vs
section
variable{K:af}{CY CW:Addr}{H H':Hp}{l y p dp dh ld:Addr}{r:Str}{hs:Xa}{ts:Xb}{S:YS}{fp:ai}
def jO{H H':Hp}{xs:ag}{ks:List ax}(h:bj K H xs ks)(kt:∀c xs,H c\.tup xs->H' c\.tup xs):bj K H' xs ks:=Paired.bJ h λ_ _ ⟨c,e,hc⟩=>#[c,e,kt _ _ hc]
def du.keep(Y:du K CY CW H y p dp dh ld r hs ts S fp)(k:∀c∈fp,∀o,H c\o->H' c\o)(kt:∀c xs,H c\.tup xs->H' c\.tup xs):du K CY CW H' y p dp dh ld r hs ts S fp:=by
 let#[dx,h1]:=Y.ex;let#[bq,w1,w2,w3]:=Y.W;let#[yp,p1,p2]:=Y.P;let#[dv,d1,d2]:=Y.D;let#[m1,m2,m3,m4]:=Y.m;exact#[#[dx,k _ m1 _ h1],#[bq,w1.keep (λc hc o e=>k c (w2 c hc) o e) kt,w2,w3],#[yp,k _ m2 _ p1,Paired.bJ p2 λv q ⟨t,z,e,ht,wy,n⟩=>#[t,z,e,kt _ _ ht,wy.keep (λa e u h=>k a (n a e).1 u h) kt,n]],k _ m3 _ Y.Hd,#[dv,k _ m4 _ d1,jO d2 kt],Y.nd,Y.m,λc hc=>let #[o,e,n]:=Y.has c hc;#[o,k c hc o e,n]]
def du.same(Y:du K CY CW H y p dp dh ld r hs ts S fp)(s:aa H H'):du K CY CW H' y p dp dh ld r hs ts S fp:=Y.keep (λc _ o e=>s c o e) λc xs e=>s c _ e
def du.nt(Y:du K CY CW H y p dp dh ld r hs ts S fp)(s:NT H H'):du K CY CW H' y p dp dh ld r hs ts S fp:=Y.keep (λc hc o e=>s c o e (by
 let#[o',e',n]:=Y.has c hc;rw[e] at e';cases e';exact n)) λc xs e=>s.tup e
def du.but(Y:du K CY CW H y p dp dh ld r hs ts S fp)(bt:bf l H H')(st:dA H l)(n:l∉fp):du K CY CW H' y p dp dh ld r hs ts S fp:=by
 let#[U7,hl]:=st.some;exact Y.keep (λc hc o e=>bt c o e λz=>n (z▸hc)) λc xs e=>bt c _ e (aR e hl nofun)
end
def wB(y dp dh ld:Addr)(H H':Hp):Prop:=∀c o,H c\o->c≠y->c≠dp->c≠dh->c≠ld->H' c\o
structure wx(y:Addr)(H H':Hp):Prop where
 k:∀c o,H c\o->c≠y->H' c\o
 fr:∀c,H' c=none->H c=none
def wx.refl(y:Addr)(H:Hp):wx y H H:=#[λ_ _ e _=>e,λ_ e=>e]
def wx.put{y:Addr}{H H':Hp}{o o':HO}(s:wx y H H')(h:H' y\o):wx y H (upd H' y o'):=#[λc u e n=>by rw[aD n];exact s.k c u e n,λc e=>by
 by_cases z:c=y
 ·rw[z,aE] at e;cases e
 rw[aD z] at e;exact s.fr c e]
def wx.new{y a:Addr}{H H':Hp}{o:HO}(s:wx y H H')(h:H' a=none):wx y H (upd H' a o):=#[λc u e n=>by
 let q:=s.k c u e n;rw[aD (λz=>by rw[z,h] at q;cases q)];exact q,λc e=>by
 by_cases z:c=a
 ·rw[z,aE] at e;cases e
 rw[aD z] at e;exact s.fr c e]
section v
def xN:bA ["self","web","rule"] ["self","web","rule"] (aM mP):=bI
inductive Sj(K:af)(CY CW:Addr):Sp|k:∀(y dx p:Addr)(r:Rl)(hs:Xa)(ts:Xb)(bq:ai),r∈rl->vs=[.ref y,.ref p,.str r.1]->H y\.ins CY dx []->eC K CW H p hs ts bq->y∉bq->(∀dp dh ld fp f H',(∀c o,H c\o->c≠y->H' c\o)->du K CY CW H' y p dp dh ld r.1 hs ts ⟨[],f,0,0,[]⟩ fp->(∀c∈fp,c=y∨c∈bq∨H c=none)->Q .non H')->Sj K CY CW vs H Q E
def j5_{f0 CY CW:Addr}{fd:Ae}(F:bc K "__init__" "Yard.__init__" mP f0 fd)(T:fW K CY)(Kq:!bH 2 Di ["rule"] (Ky K)):!ak bg 3 f0 fd ["self","web","rule"] (Sj K CY CW):=by
 exists F.bN xN;let#[y,dx,p,r,hs,ts,bq,eA,rfl,hy,W,yw,k]:=h;refine' #[_,ao ?s1 ?r1,?kk]
 case' r1=>refine' ao ?s2 ?r2
 case' r2=>refine' ao ?s3 ?r3
 case' r3=>refine' ao ?s4 ?r4
 case' r4=>refine' ao ?s5 ?r5
 case' r5=>refine' ao ?s6 ?r6
 case' r6=>refine' ao ?s7 (aK ?s8)
 case s1=>exact iX (bp Kq hr %[2|0])
 case s2=>exact iS (pv 0) (pv 1) Z
 case s3=>exact iS (pv 0) (pv 2) Z
 case s4=>exact iS (pv 0) aH Z
 case s5=>exact iS (pv 0) DT Z
 case s6=>exact iS (pv 0) DT Z
 case s7=>exact iS (pv 0) (dI aX) Z
 case s8=>exact iS (pv 0) aH Z
 have put:∀{G:Hp} {fs:List (Str × V)} {x:Str} {v:V},wx y H G->G y\.ins CY dx fs->x∉fs.map (·.1)->∃G',upd G y (.ins CY dx (aL x v fs))=G'/\wx y H G'/\G' y\.ins CY dx (fs++[(x,v)])/\∀c,c≠y->G' c=G c:=λs e n=>#[_,Z,s.put e,by rw[aE,Xc n],λc n=>aD n];apply#[_,Z,r,eA,Z,λa _=>?_];let s0:=wx.refl y H;apply#[_,Z,_,Z,y,CY,dx,_,Z,hy,T.cl,T.nW,by show 0<1000;decide,?_];let#[H1,e,s1,y1,_]:=put (x:="web") (v:=.ref p) s0 hy Z2;rw[e];clear e;apply#[_,Z,_,Z,y,CY,dx,_,Z,y1,T.cl,T.nR,by show 1<1000;decide,?_];let#[H2,e,s2,y2,_]:=put (x:="rule") (v:=.str r.1) s1 y1 (show ("rule":Str)∉(["web"]:ae) by decide +kernel);rw[e];clear e;apply#[_,Z,y,CY,dx,_,Z,y2,T.cl,T.nM,by show 2<1000;decide,?_];let#[H3,e,s3,y3,_]:=put (x:="moment") (v:=.int 0) s2 y2 (show ("moment":Str)∉(["web","rule"]:ae) by decide +kernel);rw[e];clear e;intro dp Er;let GL:=s3.new (o:=.dK []) Er;have JS:dp≠y:=(bB y3 Er).symm;let FW:=(aD (H:=H3) (o:=.dK []) JS.symm).trans y3;let ZC:=us H3 dp (.dK []);generalize upd H3 dp _=Hn3 at GL FW ZC ⊢;apply#[_,Z,y,CY,dx,_,Z,FW,T.cl,T.nP,by show 3<1000;decide,?_];let#[H4,e,s4,y4,k4]:=put (x:=xc) (v:=.ref dp) GL FW (show (xc:Str)∉(["web","rule","moment"]:ae) by decide +kernel);rw[e];clear e;let JM:=(k4 _ JS).trans ZC;intro dh LO;let VI:=s4.new (o:=.dK []) LO;have M_:dh≠y:=(bB y4 LO).symm;let FV:=(aD (H:=H4) (o:=.dK []) M_.symm).trans y4;let ZD:=us H4 dh (.dK []);have JT:dp≠dh:=bB JM LO;let qK:=(aD (H:=H4) (o:=.dK []) JT).trans JM;generalize upd H4 dh _=Hn4 at VI FV ZD qK ⊢;apply#[_,Z,y,CY,dx,_,Z,FV,T.cl,T.nH,by show 4<1000;decide,?_];let#[H5,e,s5,y5,k5]:=put (x:=zc) (v:=.ref dh) VI FV (show (zc:Str)∉(["web","rule","moment",xc]:ae) by decide +kernel);rw[e];clear e;let JL:=(k5 _ JS).trans qK;let JN:=(k5 _ M_).trans ZD;apply#[zl,λld Hs=>?_];let VH:=s5.new (o:=.lst []) Hs;have P4:ld≠y:=(bB y5 Hs).symm;let FU:=(aD (H:=H5) (o:=.lst []) P4.symm).trans y5;let Se:=us H5 ld (.lst []);have SN:dp≠ld:=bB JL Hs;have SU:dh≠ld:=bB JN Hs;let qK:=(aD (H:=H5) (o:=.lst []) SN).trans JL;let Dk:=(aD (H:=H5) (o:=.lst []) SU).trans JN;generalize upd H5 ld _=Hn5 at VH FU qK Dk Se ⊢;apply#[_,Z,y,CY,dx,_,Z,FU,T.cl,T.nD,by show 5<1000;decide,?_];let#[H6,e,s6,y6,k6]:=put (x:="deeds") (v:=.ref ld) VH FU (show ("deeds":Str)∉(["web","rule","moment",xc,zc]:ae) by decide +kernel);rw[e];clear e;apply#[_,Z,y,CY,dx,_,Z,y6,T.cl,T.nB,by show 6<1000;decide,?_];let#[H7,e,s7,y7,k7]:=put (x:="bound_in_parts") (v:=.int 0) s6 y6 (show ("bound_in_parts":Str)∉(["web","rule","moment",xc,zc,"deeds"]:ae) by decide +kernel);show Q .non _;rw[e];clear e;have ff:∀{c:Addr} {o:HO},c≠y->Hn5 c\o->H7 c\o:=λn e=>by rw[k7 _ n,k6 _ n];exact e
 have W7:eC K CW H7 p hs ts bq:=W.keep (λc hc o e=>s7.k c o e (λz=>yw (z▸hc))) λc xs e=>s7.k c _ e (aR e hy nofun)
 have fr:∀{c:Addr},Hn3 c=none∨H4 c=none∨H5 c=none∨H3 c=none->H c=none:=λh=>by
  rcases h with h|h|h|h
  ·exact GL.fr _ h
  ·exact s4.fr _ h
  ·exact s5.fr _ h
  exact s3.fr _ h
 have Hx:H dp=none:=fr (.inr (.inr (.inr Er)));have Hy:H dh=none:=fr (.inr (.inl LO));have Hr:H ld=none:=fr (.inr (.inr (.inl Hs)))
 have nw:∀{c:Addr},H c=none->c∉bq:=λn m=>by
  let#[o,e]:=W.has m;rw[n] at e;cases e
 apply k dp dh ld (y::dp::dh::ld::bq) (λn=>n) H7 (λc o e n=>s7.k c o e n) #[#[dx,y7],#[bq,W7,λc hc=>by simp[hc],yw,nw Hx,nw Hy,nw Hr],#[[],ff JS qK,.nil],ff M_ Dk,#[[],ff P4 Se,.nil],JT,by simp,λc hc=>?_] (λc hc=>?_)
 ·simp only[cc] at hc;rcases hc with rfl|rfl|rfl|rfl|hc
  ·exact#[_,y7,by intro vs z;cases z]
  ·exact#[_,ff JS qK,by intro vs z;cases z]
  ·exact#[_,ff M_ Dk,by intro vs z;cases z]
  ·exact#[_,ff P4 Se,by intro vs z;cases z]
  exact W7.yR hc
 simp only[cc] at hc;rcases hc with rfl|rfl|rfl|rfl|hc
 ·exact .inl Z
 ·exact .inr (.inr Hx)
 ·exact .inr (.inr Hy)
 ·exact .inr (.inr Hr)
 exact .inr (.inl hc)
end
def ZY(a b:Str):aP (aP a b).1 (aP a b).2=aP a b:=by
 rcases Fh a b with e|e
 ·rw[e];exact e
 rw[e];show aP b a=(b,a);rw[<- T4,e]
def kF_(ws:Xb):(aO ws).map kO=(aO ws).map kT:=p4 λt ht=>by
 let#[u,_,rfl]:=Kn.mp ht;unfold kO;rw[ZY]
def qV.ts{ts ws:Xb}(W:qV ts ws):qV ts (aO ws):=by
 apply#[λw hw=>?_,?_,λw hw=>?_,by rw[FE];exact W.len]
 ·let#[t,ht,rfl]:=Kn.mp hw;let#[g1,g2,g3]:=W.good t ht;rcases Fh t.1 t.2 with e|e
  ·rw[e];exact#[g1,g2,g3]
  rw[e];exact#[g2,g1,g3.symm]
 ·rw[kF_,Fv];exact (jN _).nodup_iff.mpr W.nd
 let#[t,ht,rfl]:=Kn.mp hw;have:kO (aP t.1 t.2)=kO t:=by unfold kO;rw[ZY]
 rw[this];exact W.Eu t ht
def zf.gi{ts:Xb}{q:Pc}(g:zf ts q):zf ts (gi q):=by
 apply#[g.nm,g.w1,g.w2,λws e=>?_];have e:q.2.2.map aO\ws:=e;cases o:q.2.2 with
 |none=>rw[o] at e;cases e
 |some us=>
  rw[o] at e;cases e;exact (g.ws us o).ts
section v
def _n(K:af)(C GD:Addr):Sp:=λvs H Q E=>NP K C vs H Q E∨∃(p t:Addr) (n:Str) (wt:Int) (z:V),vs=[.ref p,.ref t]/\H t\.tup [.str n,.int wt,z]/\n.length<=1000/\(eY n=false∨¬(1<=wt/\wt<=1000000000))/\∀H',aa H H'->E (.ref GD) none H'
def gf_{f C GD:Addr}{fd:Ae}(F:bc K Dy Dy NQ f fd)(B:Bi mg)(R:Ref K mg "NoGoods" GD)(cN:!bH 1 "is_name" f_ J7)(cW:!bH 2 "is_whole_within" EW Nl)(cC:!bH 4 "checked_ways" ["web","ways"] (M7 K C)){tk:Tok}(mW:mg "MOST_WEIGHT"\.int 1000000000 tk):
  ak P w K mg base (d8 P w) 5 f fd E3 (_n K C GD):=by
 apply F.VX ZQ (λvs H Q E h=>?_) (λaC A outer s H vs Q E hr h ro hp rm=>?_)
 ·rcases h with⟨p,y,q,hs,ts,fp,rfl,_⟩|⟨p,t,n,wt,z,rfl,_⟩<;>rfl
 have fH:aI 1 _:=hr.mono (by decide)
 apply#[_,ao (bQ (rY (fP (fo (cO oB (by rfl) B.iL iV %[1,l7 (v:=.ty "tuple") (by rfl) B.tuple NI Z|0])))
   (sr (dm ze (cO l0 (by rfl) B.len jH %[1|0]) aH))).pt fC bR)
  (ao (bQ (fP (fo (bp cN hr %[bE cg (pv 1) aH|0]))) (aK (DN Z rm R.mg R.ex DE (by rfl) %[bL|0])) bR)
  (ao (bQ (fP (fo (bp cW hr %[bE cg (pv 1) aH,aH,qR (v:=.int 1000000000) (by rfl) mW #[tk,Z]|0]))) (aK (DN Z rm R.mg R.ex DE (by rfl) %[bL|0])) bR)
  (aK (bw (dS %[bE cg (pv 1) aH,bE cg (pv 1) aH,bp cC hr %[0,bE cg (pv 1) aH|0]|0]))))),?_]
 have one:1<=sizeLine:=by decide
 rcases h with⟨p,y,q,hs,ts,fp,rfl,W,G,⟨t,v,rfl,ht,wy⟩,gp,k⟩|⟨p,t,n,wt,z,rfl,ht,nl,bad,k⟩
 ·apply#[_,Z,_,_,_,_,Z,.tup ht,Z,_,Z,a_ ?_];apply#[_,Z,t,_,Z,.inr (.of ht),Z,_,Z,?_];apply Dn (show V.int ((3:Nat):Int)=V.int 3 from Z) ?_;apply#[_,Z,t,_,_,_,Z,Z,.of ht,Z,q.1,Z,by have:=DQ gp.nm;omega,λH1 s1=>#[_,Z,?_]];rw[gp.nm];apply a_ ?_;let qA:=s1 _ _ ht;apply#[_,Z,t,_,_,_,Z,Z,.of qA,Z,q.2.1,1,1000000000,Z,_,Z,?_];rw[cj gp.w1,cj gp.w2];apply a_ ?_;apply#[_,Z,t,_,_,_,Z,Z,.of qA,Z,_,Z,t,_,_,_,Z,Z,.of qA,Z,_,Z,_,Z,t,_,_,_,Z,Z,.of qA,Z,p,v,q.2.2,hs,ts,fp,Z,W.same s1,G,wy.same s1,gp.ws,λv' H2 s2 Oc hf=>?_];apply#[zl,λt' wX=>?_];exact k (.ref t') _ (s1.trans (s2.trans (aa.new wX))) #[t',v',Z,aE,Oc.same (aa.new wX),λa z=>s1.free (hf a z)]
 apply#[_,Z,_,_,_,_,Z,.tup ht,Z,_,Z,a_ ?_];apply#[_,Z,t,_,Z,.inr (.of ht),Z,_,Z,?_];apply Dn (show V.int ((3:Nat):Int)=V.int 3 from Z) ?_;apply#[_,Z,t,_,_,_,Z,Z,.of ht,Z,n,Z,by omega,λH1 s1=>#[_,Z,?_]];apply br (λc=>#[one,k H1 s1]) (λc=>?_);have c:eY n=true:=⇑c
 have bad:¬(1<=wt/\wt<=1000000000):=by
  rcases bad with b|b
  ·rw[c] at b;cases b
  exact b
 let qA:=s1 _ _ ht;apply#[_,Z,t,_,_,_,Z,Z,.of qA,Z,wt,1,1000000000,Z,_,Z,?_];apply br (λc=>#[one,k H1 s1]) (λc=>absurd ?_ bad);simpa using c
def ZV:bA ["self","weight","hand","parts"] p7 (aM SO):=bI
inductive NM(K:af)(CY CW:Addr):Sp|k:∀(y dx p dp dh ld:Addr)(r:Str)(m b wt:Int)(h:Str)(hs:Xa)(ts:Xb)(bq:ai),vs=[.ref y,.int wt,.str h]->H y\.ins CY dx (yF p r m dp dh ld b)->eC K CW H p hs ts bq->Good hs ts->h∈hs.map (·.1)->0<=wt->wt<=1000000000->(∀H1,aa H H1->Q .non (upd H1 y (.ins CY dx (yF p r m dp dh ld (b+wt * (AZ hs / strOf hs h))))))->NM K CY CW vs H Q E
def il_{f0 CY CW:Addr}{fd:Ae}(F:bc K "loosen" "Yard.loosen" SO f0 fd)(T:fW K CY)(TW:Txt K mg CW)(cM:!bH 3 lG ["web"] (MV K CW))(cS:!aZ CW 2 "strength" jK (DX K CW)):!ak bg 4 f0 fd p7 (NM K CY CW):=by
 exists F.bN ZV;let#[y,dx,p,dp,dh,ld,r,m,b,wt,h,hs,ts,bq,rfl,hy,W,Gd,hm,w0,w1,k]:=h;have qB:aI 2 _:=hr.mono (by decide);refine' #[_,ao ?s1 (aK ?s2),?kk]
 case s1=>exact bC 3 ZV.nd (bV zv (bp cM hr %[bP (pv 0) Z|0]) (eU cS TW.cl qB (bP (pv 0) Z) %[2|0]))
 case s2=>exact iS (pv 0) (bV jM (bP (pv 0) Z) (bV sk (pv 1) (pv 3))) Z
 let sm:=zw hm;let sg:=zr Gd ((iY hs).mem_iff.mpr hm);apply#[_,Z,y,CY,dx,_,_,Z,hy,T.cl,T.nW,sN,p,hs,ts,bq,Z,W,Gd,λH1 s1=>?_];let W1:=W.same s1;let#[eW,d1,l2,d3,jR,as,ef,w2,_]:=id W1.ex;have gL:(cB d1 l2 d3).lookup ("strength":Str)=none:=iW _ _ _ Z0 Z0 Z0;apply#[_,Z,y,CY,dx,_,_,Z,s1 _ _ hy,T.cl,T.nW,sN,p,eW,_,Z,w2,gL,_,Z,p,h,strOf hs h,hs,ts,bq,Z,W1,Gd.yB,sm,?_];apply#[_,_,Z,Z,#[by omega,by omega],?_];lk;apply#[_,Z,y,CY,dx,_,_,Z,s1 _ _ hy,T.cl,T.nB,Oa,_,Z,_,Z,_,_,Z,Z,.inl #[by omega,by omega],_,_,Z,Z,?_];apply#[_,Z,y,CY,dx,_,Z,s1 _ _ hy,T.cl,T.nB,MG,?_];rw[WB];exact k H1 s1
def GV:V->ai
 |.ref a=>[a]
 |_=>[]
abbrev G_:ae:=["self","name","weight","hand","ways"]
def gs_{f:Addr}{fd:Ae}(F:wG K "come" "Yard.come" DJ f fd):kX K fd G_ []:=by
 let#[oc,od,T,kV,doc,pm,an,aC,ct,gK,o,n,rfl,lk,fY,ho,hs]:=F.ex;intro s us X hl;rw[wa] at hl ⊢
 match us,hl with
 |[a,b,c,d,e],_=>exact PySem.W.binds_K X Z ho hs Z Z
def um:bA ["self","name","weight","hand","ways","piece"] G_ (aM DJ):=bI
def iQ(hs:Xa)(ps:aJ)(n:Str)(wt:Int)(h:Str):Option Nat:=if ¬(eY n=true/\1<=wt/\wt<=1000000000/\n∉ps.map (·.1)) then some 0 else if h∉hs.map (·.1) then some 1 else if 30<=ps.length then some 0 else none
abbrev YS.ik(S:YS)(hs:Xa)(q:Pc)(h:Str):YS:=#[S.ps++[gi q],λm=>if m=q.1 then h else S.f m,S.m,S.b+q.2.1 * (AZ hs / strOf hs h),S.ds++[[.inr "come",.inr q.1,.inl q.2.1,.inr h]]]
inductive MQ(K:af)(CY CW GD HD:Addr):Sp|k:∀(y p dp dh ld:Addr)(v:V)(h:Str)(q:Pc)(r:Str)(hs:Xa)(ts:Xb)(S:YS)(fp:ai),vs=[.ref y,.str q.1,.int q.2.1,.str h,v]->du K CY CW H y p dp dh ld r hs ts S fp->Good hs ts->bO K H v q.2.2->(∀ws,q.2.2\ws->qV ts ws)->q.1.length<=1000->S.ps.length<=30->S.ds.length<=1000000->(iQ hs S.ps q.1 q.2.1 h=none->∀H' gW,wB y dp dh ld H H'->du K CY CW H' y p dp dh ld r hs ts (S.ik hs q h) gW->(∀c∈gW,c∈fp∨H c=none)->Q .non H')->(iQ hs S.ps q.1 q.2.1 h\0->∀H',aa H H'->E (.ref GD) none H')->(iQ hs S.ps q.1 q.2.1 h\1->∀H',aa H H'->E (.ref HD) none H')->MQ K CY CW GD HD vs H Q E
def kQ_{f0 CY CW GD HD:Addr}{fd:Ae}(F:wG K "come" "Yard.come" DJ f0 fd)(B:Bi mg)(T:fW K CY)(TW:Txt K mg CW)(RG:Ref K mg "NoGoods" GD)(RH:Ref K mg "NoHand" HD)(cP:!rp 5 Dy E3 (_n K CW GD))(cH:!aZ CW 1 "has_hand" qL (ke K CW))(cL:!aZ CY 4 "loosen" p7 (NM K CY CW)){tk:Tok}(mM:mg "MOST_PIECES"\.int 30 tk):!ak (d8 P w) 6 f0 fd G_ (MQ K CY CW GD HD):=by
 apply F.okE um (λvs H Q E h=>?_) (λaC A outer s H vs Q E hr h ro hp rm=>?_)
 ·let#[y,p,dp,dh,ld,v,h,q,r,hs,ts,S,fp,rfl,_]:=h;rfl
 let#[y,p,dp,dh,ld,v,h,q,r,hs,ts,S,fp,rfl,Y,Gd,wy,wo,nl,VV,d6,k,kg,kh]:=h;let hu:=gE hr;let sz:=cX;have one:1<=sizeLine:=by decide
 have fH:aI 1 _:=hr.mono (by decide);have hr4:aI 4 _:=hr.mono (by decide);refine' ⟨_,ao ?s1 ?r1,?kk⟩
 case' r1=>refine' ao ?s2 ?r2
 case' r2=>refine' ao ?s3 ?r3
 case' r3=>refine' ao ?s4 ?r4
 case' r4=>refine' ao ?s5 ?r5
 case' r5=>refine' ao ?s6 ?r6
 case' r6=>refine' ao ?s7 (aK ?s8)
 case s1=>exact bC 5 um.nd (Wr cP hr hp %[bP (pv 0) Z,dS %[1,2,4|0]|0])
 case s2=>exact bQ (xj (Dr hu (pv 1) (bP (pv 0) Z))) (aK (DN Z rm RG.mg RG.ex DE (by rfl) %[bL|0])) bR
 case s3=>exact bQ (fP (fo (eU cH TW.cl fH (bP (pv 0) Z) %[3|0]))) (aK (DN Z rm RH.mg RH.ex DE (by rfl) %[bL|0])) bR
 case s4=>exact bQ (dm Qj (cO ZT (by rfl) B.len jH %[bP (pv 0) Z|0]) (qR (v:=.int 30) (by rfl) mM #[tk,Z])) (aK (DN Z rm RG.mg RG.ex DE (by rfl) %[bL|0])) bR
 case s5=>exact xn hu (bP (pv 0) Z) (pv 1) (pv 5) Z
 case s6=>exact xn hu (bP (pv 0) Z) (pv 1) (pv 3) Z
 case s7=>exact iX (eU cL T.cl hr4 (pv 0) %[2,3|0])
 case s8=>exact iX (jL jI xo xq v_ (bP (pv 0) Z) %[dS %[bL,1,2,3|0]|0])
 let#[dx,hy]:=Y.ex;let#[bq,W,wf,wI,rq,rA,wJ]:=Y.W;let#[yp,gn,py]:=Y.P;let iP:=Y.Hd;let#[ds,i6,Ca]:=Y.D;let Au:=bG py;let lyd:=bG Ca;apply#[_,Z,y,CY,dx,_,_,Z,hy,T.cl,T.nW,sN,_,Z,_,Z,_,Z,zl,λt ht=>?_];let#[s1,e1]:=bS (X:=.tup [.str q.1,.int q.2.1,v]) ht;generalize upd H t _=H1 at s1 e1 ⊢;by_cases cb:eY q.1=true/\1<=q.2.1/\q.2.1<=1000000000;rotate_left 1
 ·apply .inr #[p,t,q.1,q.2.1,v,Z,e1,nl,?_,λH' s'=>kg (aF λz=>cb #[z.1,z.2.1,z.2.2.1]) H' (s1.trans s')];by_cases cn:eY q.1=true
  ·exact .inr λz=>cb #[cn,z]
  exact .inl ⇑cn
 have gp:zf ts q:=#[cb.1,cb.2.1,cb.2.2,wo];apply .inl #[p,.ref t,q,hs,ts,bq,Z,W.same s1,Gd,#[t,v,Z,e1,wy.same s1],gp,λv' H2 s2 pn=>?_];lk;let cq:=s1.trans s2;let qy:=cq _ _ hy;let gN:=cq _ _ gn;let iO:=cq _ _ iP;let iM:=cq _ _ i6;let W2:=W.same cq;apply#[_,Z,_,Z,y,CY,dx,_,_,Z,qy,T.cl,T.nP,qf,?_];by_cases nq:q.1∈S.ps.map (·.1)
 ·let#[v0,q0,ev,_]:=Qt py nq;apply#[dp,some v0,Z,?_,_,Z,cz #[one,kg (aF λz=>z.2.2.2 nq) H2 cq]];rw[<- ev];exact .inl #[_,Sum.inr q.1,.inl gN,Z,Z]
 have pC:a9 (i5 S.ps yp) (Sum.inr q.1)=none:=wj (by
  rw[J9 Au];intro z;let#[x,hx,e]:=bo.mp z;cases e;exact nq hx)
 apply#[dp,none,Z,?_,_,Z,a_ ?_]
 ·rw[<- pC];exact .inl #[_,Sum.inr q.1,.inl gN,Z,Z]
 have c0:¬¬(eY q.1=true/\1<=q.2.1/\q.2.1<=1000000000/\q.1∉S.ps.map (·.1)):=λz=>z #[cb.1,cb.2.1,cb.2.2,nq];let#[eW,d1,l2,d3,jR,as,ef,w2,_]:=id W2.ex;have gL:(cB d1 l2 d3).lookup ("has_hand":Str)=none:=iW _ _ _ Z0 Z0 Z0;apply#[_,Z,y,CY,dx,_,_,Z,qy,T.cl,T.nW,sN,p,eW,_,Z,w2,gL,_,Z,p,h,hs,ts,bq,Z,W2,_,Z,?_];apply br (λc=>?_) (λc=>?_)
 ·have c:h∉hs.map (·.1):=⇑c
  exact#[one,kh ((aA c0).trans (aF c)) H2 cq]
 have hm:h∈hs.map (·.1):=⇑c
 apply#[_,Z,y,CY,dx,_,_,Z,qy,T.cl,T.nP,qf,dp,_,Z,gN,_,_,Z,Z,_,Z,?_];rw[XN Au];apply br (λc=>?_) (λc=>?_)
 ·have c:(30:Int)<=S.ps.length:=⇑c
  exact#[one,kg ((aA c0).trans ((aA (λz=>z hm)).trans (aF Z1))) H2 cq]
 have jA:¬30<=S.ps.length:=by
  have:¬(30:Int)<=S.ps.length:=⇑c
  omega
 let k:=k ((aA c0).trans ((aA (λz=>z hm)).trans (aA jA)));clear kg kh c;have sM:y≠dp:=aR qy gN nofun;have qe:y≠dh:=aR qy iO nofun;have iG:y≠ld:=aR qy iM nofun;have iK:ld≠dp:=aR iM gN nofun;have ib:ld≠dh:=aR iM iO nofun;apply#[_,Z,_,Z,y,CY,dx,_,_,Z,qy,T.cl,T.nP,qf,_,Z,dp,_,Z,.k (k:=Sum.inr q.1) gN (by rw[XN Au];omega),?_];rw[show putK (i5 S.ps yp) (Sum.inr q.1) v'=i5 (S.ps++[gi q]) (yp++[v']) from kf_ (q:=gi q) Au nq];let#[k3,Jm]:=lM H2 dp (X:=.dK (i5 (S.ps++[gi q]) (yp++[v'])));generalize upd H2 dp _=H3 at k3 Jm ⊢;let yz:=k3 _ _ qy sM;apply#[_,Z,_,Z,y,CY,dx,_,_,Z,yz,T.cl,T.nH,xB,_,Z,dh,_,Z,.k (k:=Sum.inr q.1) (k3 _ _ iO Y.nd.symm) (by rw[si,aq];omega),?_]
 have yT:putK (gf (S.ps.map (·.1)) S.f) (Sum.inr q.1) (.str h)=gf ((S.ps++[gi q]).map (·.1)) (λm=>if m=q.1 then h else S.f m):=by
  rw[show putK (gf (S.ps.map (·.1)) S.f) (Sum.inr q.1) (.str h)=_ from Ys nq,cZ];apply KY λm _=>?_;by_cases z:m=q.1
  ·simp[z]
  simp[z]
 rw[yT];let#[k4,CJ]:=lM H3 dh (X:=.dK (gf ((S.ps++[gi q]).map (·.1)) (λm=>if m=q.1 then h else S.f m)));generalize upd H3 dh _=H4 at k4 CJ ⊢;let yy:=k4 _ _ yz qe;let Jl:=k4 _ _ Jm Y.nd;let vG:=k4 _ _ (k3 _ _ iM iK) ib;have Qk:∀c o,H2 c\o->c≠dp->c≠dh->H4 c\o:=λc o e n1 n2=>k4 _ _ (k3 _ _ e n1) n2;have W4:eC K CW H4 p hs ts bq:=W2.keep (λc hc o e=>Qk c o e (λz=>rq (z▸hc)) (λz=>rA (z▸hc))) λc xs e=>Qk c _ e (aR e gN nofun) (aR e iO nofun);apply#[_,Z,y,dx,_,Z,yy,oj Z0,_,Z,_,Z,y,dx,p,dp,dh,ld,r,_,S.b,q.2.1,h,hs,ts,bq,Z,yy,W4,Gd,hm,by omega,by omega,λH5 s5=>?_];let#[k6,qw]:=lM H5 y (X:=.ins CY dx (yF p r S.m dp dh ld (S.b+q.2.1 * (AZ hs / strOf hs h))));generalize upd H5 y _=H6 at k6 qw ⊢;let oa:=k6 _ _ (s5 _ _ vG) iG.symm;apply#[_,Z,y,CY,dx,_,_,Z,qw,T.cl,T.nD,Bg,.inl #[Z,_,.of oa],_,Z,_,Z,_,Z,zl,λt2 En=>?_];let s7:=aa.new (o:=.tup [.str "come",.str q.1,.int q.2.1,.str h]) En;have e7:upd H6 t2 (.tup [.str "come",.str q.1,.int q.2.1,.str h]) t2\.tup (([.inr "come",.inr q.1,.inl q.2.1,.inr h]:ax).map kV):=aE;generalize upd H6 t2 _=H7 at s7 e7 ⊢;apply#[ld,ds,_,Z,Z,s7 _ _ oa,by omega,?_];let#[k8,CA]:=lM H7 ld (X:=.lst (ds++[.ref t2]));let e8:=k8 _ _ e7 (aR e7 (s7 _ _ oa) nofun);generalize upd H7 ld _=H8 at k8 CA e8 ⊢;have HX:∀c o,H4 c\o->c≠y->c≠ld->H8 c\o:=λc o e n1 n2=>k8 _ _ (s7 _ _ (k6 _ _ (s5 _ _ e) n1)) n2;have HY:∀c o,H2 c\o->c≠y->c≠dp->c≠dh->c≠ld->H8 c\o:=λc o e n1 n2 n3 n4=>HX _ _ (Qk _ _ e n2 n3) n1 n4;have kt:∀c xs,H2 c\.tup xs->H8 c\.tup xs:=λc xs e=>HY c _ e (aR e qy nofun) (aR e gN nofun) (aR e iO nofun) (aR e iM nofun);have kl:∀c xs,H2 c\.lst xs->c≠ld->H8 c\.lst xs:=λc xs e n=>HY c _ e (aR e qy nofun) (aR e gN nofun) (aR e iO nofun) n
 have kw:∀(z:V) (o:Option (Xb)),bO K H2 z o->(∀a,z=.ref a->a≠ld)->bO K H8 z o:=λz o wz nz=>by
  cases o with
  |none=>exact wz
  |some ws=>
   let#[a,ys,e,ha,tu]:=wz;exact#[a,ys,e,kl a ys ha (nz a e),Paired.bJ tu λx k ⟨c,e,hc⟩=>#[c,e,kt _ _ hc]]
 let#[t',z,rfl,wX,wz,zn]:=pn
 have U3:∀a,z=.ref a->a≠ld:=λa e q=>by
  have:=zn a e;rw[q,s1 _ _ i6] at this;cases this
 let#[m1,m2,m3,m4]:=Y.m;apply k H8 (GV z++fp) (λc o e n1 n2 n3 n4=>HY c o (cq _ _ e) n1 n2 n3 n4) #[#[dx,k8 _ _ (s7 _ _ qw) iG],#[bq,W2.keep (λc hc o e=>HY c o e (λz=>wI (z▸hc)) (λz=>rq (z▸hc)) (λz=>rA (z▸hc)) (λz=>wJ (z▸hc))) kt,λc hc=>iT _ (wf c hc),wI,rq,rA,wJ],#[yp++[V.ref t'],HX _ _ Jl sM.symm iK.symm,iU ?_ ?_],HX _ _ CJ qe.symm ib.symm,#[_,CA,iU (jO Ca λc xs e=>kt c xs (cq _ _ e)) (.cons #[t2,Z,e8] .nil)],Y.nd,#[iT _ m1,iT _ m2,iT _ m3,iT _ m4],λc hc=>?_] (λc hc=>?_)
 ·exact Paired.bJ py λv q ⟨t,z,e,ht,wz,n⟩=>#[t,z,e,kt _ _ (cq _ _ ht),kw z _ (wz.same cq) (λa e=>(n a e).2),λa e=>#[iT _ (n a e).1,(n a e).2]]
 ·exact .cons #[t',z,Z,kt _ _ wX,kw z _ wz U3,λa e=>#[List.mem_append_left _ (by rw[e];exact oC.mpr Z),U3 a e]] .nil
 ·by_cases c1:c=y
  ·exact#[_,c1▸k8 _ _ (s7 _ _ qw) iG,by intro vs z;cases z]
  by_cases c2:c=dp
  ·exact#[_,c2▸HX _ _ Jl sM.symm iK.symm,by intro vs z;cases z]
  by_cases c3:c=dh
  ·exact#[_,c3▸HX _ _ CJ qe.symm ib.symm,by intro vs z;cases z]
  by_cases c4:c=ld
  ·exact#[_,c4▸CA,by intro vs z;cases z]
  rcases fB.mp hc with hc|hc
  ·cases z with
   |ref a=>
    rw[oC.mp hc] at c1 c2 c3 c4 ⊢;cases eo:(gi q).2.2 with
    |none=>
     rw[eo] at wz;cases (show V.ref a=.non from wz)
    |some ws=>
     rw[eo] at wz;let#[a',ys,e,ha,_]:=wz;cases e;exact#[_,kl a ys ha c4,by intro vs z;cases z]
   |_=>cases hc
  let#[o,e,n]:=Y.has c hc;exact#[o,HY c o (cq _ _ e) c1 c2 c3 c4,n]
 rcases fB.mp hc with hc|hc
 ·apply .inr ?_;cases z with
  |ref a=>
   rw[oC.mp hc];exact s1.free (zn a Z)
  |_=>cases hc
 exact .inl hc
end
structure fN(hs:Xa)(ts:Xb)(S:YS):Prop where
 Gd:Good hs ts
 gp:∀q∈S.ps,zf ts q
 nd:(S.ps.map (·.1)).Nodup
 jA:S.ps.length<=30
 at_:∀n∈S.ps.map (·.1),S.f n∈hs.map (·.1)
abbrev YS.go(S:YS)(hs:Xa)(n:Str):YS:=#[cU S.ps n,S.f,S.m,S.b+gS S.ps n * (AZ hs / strOf hs (S.f n)),S.ds++[[.inr "go",.inr n,.inr (S.f n)]]]
section
variable{hs:Xa}{ts:Xb}{S:YS}
def ji_{n h:Str}{wt:Int}(c:iQ hs S.ps n wt h=none):eY n=true/\1<=wt/\wt<=1000000000/\n∉S.ps.map (·.1)/\h∈hs.map (·.1)/\S.ps.length<30:=by
 unfold iQ at c;split at c
 ·cases c
 rename_i c1
 split at c
 ·cases c
 rename_i c2
 split at c
 ·cases c
 rename_i c3
 let c1:=Classical.not_not.mp c1;exact#[c1.1,c1.2.1,c1.2.2.1,c1.2.2.2,Classical.not_not.mp c2,by omega]
def fN.ik(O:fN hs ts S){q:Pc}{h:Str}(c:iQ hs S.ps q.1 q.2.1 h=none)(wo:∀ws,q.2.2\ws->qV ts ws):fN hs ts (S.ik hs q h):=by
 let#[c1,c2,c3,c4,c5,c6]:=ji_ c;apply#[O.Gd,λx hx=>?_,?_,?_,λn hn=>?_]
 ·rcases fB.mp hx with hx|hx
  ·exact O.gp x hx
  rw[oC.mp hx];exact zf.gi #[c1,c2,c3,wo]
 ·show ((S.ps++[gi q]).map (·.1)).Nodup;rw[cZ];apply zC.mpr #[O.nd,by simp,λa ha b hb e=>?_];have hb:b=q.1:=oC.mp hb;exact c4 (by rw[<- hb,<- e];exact ha)
 ·show (S.ps++[gi q]).length<=30;rw[dE];show S.ps.length+1<=30;omega
 show (if n=q.1 then h else S.f n)∈_;split
 ·exact c5
 rename_i ne
 apply O.at_ n ?_;have hn:n∈(S.ps++[gi q]).map (·.1):=hn;rw[cZ] at hn;rcases fB.mp hn with hn|hn
 ·exact hn
 exact absurd (oC.mp hn) ne
def TK{ps:aJ}{n x:Str}:x∈(cU ps n).map (·.1) ↔ x∈ps.map (·.1)/\x≠n:=by
 unfold cU;simp only[bo,List.mem_filter,decide_eq_true_eq];constructor
 ·rintro⟨q,⟨a,b⟩,rfl⟩;exact#[#[q,a,Z],b]
 rintro⟨⟨q,a,rfl⟩,b⟩;exact#[q,#[a,b],Z]
def fN.go(O:fN hs ts S)(n:Str):fN hs ts (S.go hs n):=#[O.Gd,λq hq=>O.gp q ((S7 _ _).subset hq),((S7 S.ps n).map (·.1)).nodup O.nd,ma (S7 S.ps n).length_le O.jA,λx hx=>O.at_ x (TK.mp hx).1]
end
section v
def tY:bA ["self","name","piece","hand"] ["self","name"] (aM BM):=bI
inductive Bx(K:af)(CY CW PD:Addr):Sp|k:∀(y p dp dh ld:Addr)(n:Str)(r:Str)(hs:Xa)(ts:Xb)(S:YS)(fp:ai),vs=[.ref y,.str n]->du K CY CW H y p dp dh ld r hs ts S fp->fN hs ts S->S.ds.length<=1000000->(n∉S.ps.map (·.1)->E (.ref PD) none H)->(n∈S.ps.map (·.1)->∀H',wB y dp dh ld H H'->du K CY CW H' y p dp dh ld r hs ts (S.go hs n) fp->Q .non H')->Bx K CY CW PD vs H Q E
def lo_{f0 CY CW PD:Addr}{fd:Ae}(F:bc K "go" "Yard.go" BM f0 fd)(B:Bi mg)(T:fW K CY)(RP:Ref K mg "NoPiece" PD)(cL:!aZ CY 4 "loosen" p7 (NM K CY CW)):!ak (d8 P w) 5 f0 fd ["self","name"] (Bx K CY CW PD):=by
 apply F.BY tY λaC A outer s H vs Q E hr h ro hp rm=>?_;let#[y,p,dp,dh,ld,n,r,hs,ts,S,fp,rfl,Y,O,d6,kn,k]:=h;let hu:=gE hr;let sz:=cX;refine' #[_,ao ?s1 ?r1,?kk]
 case' r1=>refine' ao ?s2 ?r2
 case' r2=>refine' ao ?s3 ?r3
 case' r3=>refine' ao ?s4 (aK ?s5)
 case s1=>exact bQ (rY (fP (fo (cO oB (by rfl) B.iL iV %[1,l7 (v:=.ty "str") (by rfl) B.str Fb Z|0]))) (sr (xj (Tn hu (pv 1) (bP (pv 0) Z))))).pt (aK (DN Z rm RP.mg RP.ex DE (by rfl) %[bL|0])) bR
 case s2=>exact bC 2 tY.nd (YY (bP (pv 0) Z) (pv 1) #[by rfl,by rfl,by rfl,by rfl])
 case s3=>exact bC 3 tY.nd (YY (bP (pv 0) Z) (pv 1) #[by rfl,by rfl,by rfl,by rfl])
 case s4=>exact iX (eU cL T.cl hr (pv 0) %[bE cg (pv 2) aH,3|0])
 case s5=>exact iX (jL jI xo xq v_ (bP (pv 0) Z) %[dS %[bL,1,3|0]|0])
 let#[dx,hy]:=Y.ex;let#[bq,W,wf,wI,rq,rA,wJ]:=Y.W;let#[yp,gn,py]:=Y.P;let iP:=Y.Hd;let#[ds,i6,Ca]:=Y.D;let Au:=bG py;let lyd:=bG Ca;apply#[_,Z,_,_,_,_,Z,.str n,Z,_,Z,a_ ?_];apply#[_,Z,_,Z,y,CY,dx,_,_,Z,hy,T.cl,T.nP,qf,?_];by_cases nq:n∈S.ps.map (·.1);rotate_left 1
 ·have pC:a9 (i5 S.ps yp) (Sum.inr n)=none:=wj (by
   rw[J9 Au];intro z;let#[x,hx,e]:=bo.mp z;cases e;exact nq hx)
  apply#[dp,none,Z,?_,_,Z,cz #[zl,kn nq]];rw[<- pC];exact .inl #[_,Sum.inr n,.inl gn,Z,Z]
 let#[v,q,ev,mq,rfl,t,z,rfl,ht,wz,zn]:=Qt py nq;let k:=k nq;clear kn;apply#[dp,some (.ref t),Z,?_,_,Z,a_ ?_]
 ·rw[<- ev];exact .inl #[_,Sum.inr q.1,.inl gn,Z,Z]
 apply#[_,Z,y,CY,dx,_,_,Z,hy,T.cl,T.nP,qf,dp,Z,.inl #[_,.inl gn],_,Z,_,Sum.inr q.1,.ref t,gn,Z,ev,?_];let#[zJ,ed,py']:=YC (n:=q.1) py;rw[ed];let#[k1,Jn]:=lM H dp (X:=.dK (i5 (cU S.ps q.1) zJ));lk;generalize upd H dp _=H1 at k1 Jn ⊢;have sM:y≠dp:=aR hy gn nofun;have qe:y≠dh:=aR hy iP nofun;have iG:y≠ld:=aR hy i6 nofun;have iK:ld≠dp:=aR i6 gn nofun;have ib:ld≠dh:=aR i6 iP nofun;let Il:=k1 _ _ hy sM;let Jo:=k1 _ _ iP Y.nd.symm;apply#[_,Z,y,CY,dx,_,_,Z,Il,T.cl,T.nH,xB,dh,Z,.inl #[_,.inl Jo],_,Z,_,Sum.inr q.1,.str (S.f q.1),Jo,Z,Nf nq,?_];rw[SH];let#[k2,iO]:=lM H1 dh (X:=.dK (gf ((cU S.ps q.1).map (·.1)) S.f));lk;generalize upd H1 dh _=H2 at k2 iO ⊢;let qy:=k2 _ _ Il qe;let gN:=k2 _ _ Jn Y.nd;let iM:=k2 _ _ (k1 _ _ i6 iK) ib;have LY:∀c o,H c\o->c≠dp->c≠dh->H2 c\o:=λc o e n1 n2=>k2 _ _ (k1 _ _ e n1) n2;have W2:eC K CW H2 p hs ts bq:=W.keep (λc hc o e=>LY c o e (λz=>rq (z▸hc)) (λz=>rA (z▸hc))) λc xs e=>LY c _ e (aR e gn nofun) (aR e iP nofun);let Ey:=LY _ _ ht (aR ht gn nofun) (aR ht iP nofun);let gq:=O.gp q mq;let w1:=gq.w1;let w2:=gq.w2;let hm:=O.at_ q.1 nq;apply#[_,Z,y,dx,_,Z,qy,oj Z0,_,Z,t,_,_,_,Z,Z,.of Ey,L2.fU (j:=1) Z,_,Z,y,dx,p,dp,dh,ld,r,_,S.b,q.2.1,S.f q.1,hs,ts,bq,Z,qy,W2,O.Gd,hm,by omega,by omega,λH3 s3=>?_];let#[k4,yy]:=lM H3 y (X:=.ins CY dx (yF p r S.m dp dh ld (S.b+q.2.1 * (AZ hs / strOf hs (S.f q.1)))));generalize upd H3 y _=H4 at k4 yy ⊢;let vG:=k4 _ _ (s3 _ _ iM) iG.symm;apply#[_,Z,y,CY,dx,_,_,Z,yy,T.cl,T.nD,Bg,.inl #[Z,_,.of vG],_,Z,_,Z,zl,λt2 En=>?_];let s5:=aa.new (o:=.tup [.str "go",.str q.1,.str (S.f q.1)]) En;have e5:upd H4 t2 (.tup [.str "go",.str q.1,.str (S.f q.1)]) t2\.tup (([.inr "go",.inr q.1,.inr (S.f q.1)]:ax).map kV):=aE;generalize upd H4 t2 _=H5 at s5 e5 ⊢;apply#[ld,ds,_,Z,Z,s5 _ _ vG,by omega,?_];let#[k6,oa]:=lM H5 ld (X:=.lst (ds++[.ref t2]));let e6:=k6 _ _ e5 (aR e5 (s5 _ _ vG) nofun);generalize upd H5 ld _=H6 at k6 oa e6 ⊢;have HZ:∀c o,H2 c\o->c≠y->c≠ld->H6 c\o:=λc o e n1 n2=>k6 _ _ (s5 _ _ (k4 _ _ (s3 _ _ e) n1)) n2;have Cf:∀c o,H c\o->c≠y->c≠dp->c≠dh->c≠ld->H6 c\o:=λc o e n1 n2 n3 n4=>HZ _ _ (LY _ _ e n2 n3) n1 n4;have kt:∀c xs,H c\.tup xs->H6 c\.tup xs:=λc xs e=>Cf c _ e (aR e hy nofun) (aR e gn nofun) (aR e iP nofun) (aR e i6 nofun);have kl:∀c xs,H c\.lst xs->c≠ld->H6 c\.lst xs:=λc xs e n=>Cf c _ e (aR e hy nofun) (aR e gn nofun) (aR e iP nofun) n
 have kw:∀(z:V) (o:Option (Xb)),bO K H z o->(∀a,z=.ref a->a≠ld)->bO K H6 z o:=λz o wz nz=>by
  cases o with
  |none=>exact wz
  |some ws=>
   let#[a,ys,e,ha,tu]:=wz;exact#[a,ys,e,kl a ys ha (nz a e),Paired.bJ tu λx k ⟨c,e,hc⟩=>#[c,e,kt _ _ hc]]
 have wq:gS S.ps q.1=q.2.1:=Ib O.nd mq;apply k H6 Cf #[#[dx,?_],#[bq,W.keep (λc hc o e=>Cf c o e (λz=>wI (z▸hc)) (λz=>rq (z▸hc)) (λz=>rA (z▸hc)) (λz=>wJ (z▸hc))) kt,wf,wI,rq,rA,wJ],#[zJ,HZ _ _ gN sM.symm iK.symm,Paired.bJ py' λv q ⟨t,z,e,ht,wz,n⟩=>#[t,z,e,kt _ _ ht,kw z _ wz (λa e=>(n a e).2),n]],HZ _ _ iO qe.symm ib.symm,#[_,oa,iU (jO Ca kt) (.cons #[t2,Z,e6] .nil)],Y.nd,Y.m,λc hc=>?_]
 ·show H6 y\.ins CY dx (yF p r S.m dp dh ld (S.b+gS S.ps q.1 * _));rw[wq];exact k6 _ _ (s5 _ _ yy) iG
 by_cases c1:c=y
 ·exact#[_,c1▸k6 _ _ (s5 _ _ yy) iG,by intro vs z;cases z]
 by_cases c2:c=dp
 ·exact#[_,c2▸HZ _ _ gN sM.symm iK.symm,by intro vs z;cases z]
 by_cases c3:c=dh
 ·exact#[_,c3▸HZ _ _ iO qe.symm ib.symm,by intro vs z;cases z]
 by_cases c4:c=ld
 ·exact#[_,c4▸oa,by intro vs z;cases z]
 let#[o,e,n]:=Y.has c hc;exact#[o,Cf c o e c1 c2 c3 c4,n]
end
def ga_{ns:ae}(f:az):aN (ns.map λn=>kT (n,f n))=(fA ns).map λn=>kT (n,f n):=by
 have C3:∀k∈aN (ns.map λn=>kT (n,f n)),∃n,n∈ns/\k=kT (n,f n):=λk hk=>by
  let#[n,hn,e]:=bo.mp ((jN _).mem_iff.mp hk);exact#[n,hn,e.symm]
 have e1:aN (ns.map λn=>kT (n,f n))=((aN (ns.map λn=>kT (n,f n))).map vP).map λn=>kT (n,f n):=by
  rw[bU]
  conv=>lhs;rw[<- List.map_id (aN (ns.map λn=>kT (n,f n)))]
  apply p4 λk hk=>?_;let#[n,_,rfl]:=C3 k hk;rfl
 rw[e1];congr 1;apply eX_ ?_ ?_ (im_ _)
 ·let p:=(jN (ns.map λn=>kT (n,f n))).map vP;rw[bU] at p
  have e:ns.map (vP ∘ λn=>kT (n,f n))=ns:=by
   conv=>rhs;rw[<- List.map_id ns]
   exact p4 λn _=>rfl
  rw[e] at p;exact p.trans (lY _).symm
 unfold q_;rw[md];apply (Ux (ns.map λn=>kT (n,f n))).imp_of_mem λ{a b} ha hb q=>?_;let#[x,_,rfl]:=C3 a ha;let#[y,_,rfl]:=C3 b hb;show pF y x=false;by_cases h:y=x
 ·rw[h,XH]
 have q:(if (Sum.inr y:Key)=Sum.inr x then bK [Sum.inr (f y)] [Sum.inr (f x)] else pF y x)=false:=q;rwa [aA λe=>h (gX e)] at q
def _B{K:af}{H:Hp}{f:az}:∀{ms:ae}{zs:ag},bj K H zs (ms.map λn=>kT (n,f n))->qY K H zs (gf ms f)
 |[],_,.nil=>.nil
 |_::_,_,.cons ⟨a,e,h⟩ t=>.cons #[a,e,h] (_B (K:=K) t)
section v
def tX:bA dG dG (aM Tp):=bI
inductive Ka(K:af)(CY CG CW:Addr):Sp|k:∀(y p dp dh ld:Addr)(r:Str)(hs:Xa)(ts:Xb)(S:YS)(fp:ai),vs=[.ref y]->du K CY CW H y p dp dh ld r hs ts S fp->fN hs ts S->(∀g qs eJ H',aa H H'->H g=none->fO K CG CW H' g p hs ts qs eJ->Qs S.ps qs->(∀c∈eJ,∃o,H' c\o/\∀vs,o≠.tbl vs)->(∀c∈eJ,(c∈fp∨H c=none)/\c≠y/\c≠dp/\c≠dh/\c≠ld)->Q (.ref g) H')->Ka K CY CG CW vs H Q E
def i4_{f0 CY CG CW:Addr}{fd:Ae}(F:bc K "goods" "Yard.goods" Tp f0 fd)(B:Bi mg)(T:fW K CY)(cG:!jQ CG 7 "Goods" ["self","web","pieces"] (Ts K CG CW)):!ak bg 9 f0 fd dG (Ka K CY CG CW):=by
 exists F.bN tX;let#[y,p,dp,dh,ld,r,hs,ts,S,fp,rfl,Y,O,k]:=h;apply#[_,aK (bw (Jz cG hr %[bP (pv 0) Z,sy (gr_ Z) (by rfl) B.list A6 %[Nq (bP (pv 0) Z)|0]|0])),?_];let#[dx,hy]:=Y.ex;let#[bq,W,wf,wI,rq,rA,wJ]:=Y.W;let#[yp,gn,py]:=Y.P;let Au:=bG py;let jA:=O.jA;apply#[_,Z,y,CY,dx,_,_,Z,hy,T.cl,T.nW,sN,_,Z,y,CY,dx,_,_,Z,hy,T.cl,T.nP,qf,dp,_,Z,gn,λv hv=>?_];let#[s1,e1]:=bS (X:=qX v dp) hv;generalize upd H v _=H1 at s1 e1 ⊢;apply#[v,dp,_,Z,e1,.of (s1 _ _ gn),λl hl=>?_];rw[YW Au];let#[s2,e2]:=bS (X:=.lst yp) hl;generalize upd H1 l _=H2 at s2 e2 ⊢;let cq:=s1.trans s2;intro g fZ hg hdg ndg;have iJ:aa H2 (upd (upd H2 fZ (.own g)) g (.ins CG fZ [])):=(aa.new hdg).trans (aa.new (by rw[aD ndg.symm];exact hg));let XW:=us (upd H2 fZ (.own g)) g (.ins CG fZ []);generalize upd (upd H2 fZ (.own g)) g _=jk at iJ XW ⊢;let qk:=cq.trans iJ
 have gw:g∉bq:=λm=>by
  let#[o,e]:=(W.same cq).has m;rw[hg] at e;cases e
 apply#[g,fZ,p,l,yp,S.ps,hs,ts,bq,Z,XW,W.same qk,gw,O.Gd,iJ _ _ e2,Paired.bJ py λv q ⟨t,z,e,ht,wy,_⟩=>#[t,z,e,qk _ _ ht,wy.same qk],O.gp,O.nd,by omega,λqs eJ UY keep GA Qq nf=>#[Z,?_]];let#[gW,G',sub,has]:=GA.yR;let#[m1,m2,m3,m4]:=Y.m
 have nz:∀{c:Addr},H c=none->c≠y/\c≠dp/\c≠dh/\c≠ld:=λ{c} e=>by
  have no:∀a∈fp,c≠a:=λa ha z=>by
   let#[o,e',_]:=Y.has a ha;rw[<- z,e] at e';cases e'
  exact#[no _ m1,no _ m2,no _ m3,no _ m4]
 exact k g qs gW UY (λc o e=>keep c o (qk _ _ e) (bB (cq _ _ e) hg)) (cq.free hg) G' Qq has (λc hc=>by
  rcases nf c (sub c hc) with rfl|z|z
  ·exact#[.inr (cq.free hg),nz (cq.free hg)]
  ·exact#[.inl (wf c z),λe=>wI (e▸z),λe=>rq (e▸z),λe=>rA (e▸z),λe=>wJ (e▸z)]
  exact#[.inr (qk.free z),nz (qk.free z)])
def tV:bA dG dG (aM Sd):=bI
inductive DS(K:af)(CY CW:Addr):Sp|k:∀(y p dp dh ld:Addr)(r:Str)(hs:Xa)(ts:Xb)(S:YS)(fp:ai),vs=[.ref y]->du K CY CW H y p dp dh ld r hs ts S fp->fN hs ts S->(∀d H',aa H H'->H d=none->H' d\.dK (gf (fA (S.ps.map (·.1))) S.f)->Q (.ref d) H')->DS K CY CW vs H Q E
def hG_{f0 CY CW:Addr}{fd:Ae}(F:bc K "stand" "Yard.stand" Sd f0 fd)(B:Bi mg)(T:fW K CY):!ak bg 1 f0 fd dG (DS K CY CW):=by
 exists F.bN tV;let#[y,p,dp,dh,ld,r,hs,ts,S,fp,rfl,Y,O,k]:=h;apply#[_,aK (bw (sy (FD Z) (by rfl) B.dict Fp %[cO (_o Z) (by rfl) B.sorted Fu %[Kh (bP (pv 0) Z)|0]|0])),?_];let#[dx,hy]:=Y.ex;let jA:=O.jA;have lns:(S.ps.map (·.1)).length<=30:=by rw[aq];exact jA
 apply#[_,Z,y,CY,dx,_,_,Z,hy,T.cl,T.nH,xB,dh,_,Z,Y.Hd,λv hv=>?_];let#[s1,e1]:=bS (X:=zj v dh) hv;generalize upd H v _=H1 at s1 e1 ⊢;let ns1:=O.nd;apply#[v,dh,_,(S.ps.map (·.1)).map λn=>(Sum.inr n,Sum.inr (S.f n)),[true,true],Z,e1,s1 _ _ Y.Hd,?_,#[by decide,λq hq=>?_],by rw[aq];omega,λl H2 zs s2 hn tz=>?_]
 ·show (S.ps.map (·.1)).map (λn=>((Sum.inr n:Key),V.str (S.f n)))=_;generalize S.ps.map (·.1)=ns;rw[bU];rfl
 ·rw[bU] at hq;let#[n,_,rfl]:=bo.mp hq;rfl
 have ez:(((S.ps.map (·.1)).map λn=>((Sum.inr n:Key),(Sum.inr (S.f n):Key))).map λk=>[k.1,k.2])=(S.ps.map (·.1)).map λn=>kT (n,S.f n):=by generalize S.ps.map (·.1)=ns;rw[bU];rfl
 rw[ez,ga_] at tz;let#[s3,e3]:=bS (X:=.lst zs) hn;let pz:=_B (tz.same s3);generalize upd H2 l _=H3 at s3 e3 pz ⊢;have ls:(fA (S.ps.map (·.1))).length<=30:=by rw[(lY _).length_eq];exact lns
 apply#[l,zs,_,Z,e3,pz,by show (dR _ _).length<=1000;rw[si];omega,λd hd=>?_]
 have Ar:((gf (fA (S.ps.map (·.1))) S.f).map (·.1)).Nodup:=by
  rw[show (gf (fA (S.ps.map (·.1))) S.f).map (·.1)=(fA (S.ps.map (·.1))).map Sum.inr from NG ..,wk,md];exact ((lY _).nodup_iff.mpr ns1).imp λn e=>n (gX e)
 rw[Fy Ar];let uN:=(s1.trans s2).trans s3;exact k d _ (uN.trans (aa.new hd)) (uN.free hd) aE
def Tq{CG CW:Addr}{H H':Hp}{g p d:Addr}{hs:Xa}{ts:Xb}{S:YS}{qs:aJ}{eJ:ai}(O:fN hs ts S)(s:aa H H')(G:fO K CG CW H g p hs ts qs eJ)(Qq:Qs S.ps qs)(has:∀c∈eJ,∃o,H c\o/\∀vs,o≠.tbl vs)(nd:H d=none)(hd:H' d\.dK (gf (fA (S.ps.map (·.1))) S.f)):sj K CG CW H' g p d hs ts qs eJ S.f:=by
 apply#[G.same s,O.Gd,λm=>?_,by rw[Qq.vh];exact hd,λn hn=>?_,Qq.nd O.nd,?_]
 ·let#[o,e,_]:=has d m;rw[nd] at e;cases e
 ·rw[Qq.vh] at hn;exact O.at_ n ((lY _).mem_iff.mp hn)
 have:=Qq.len;have:=O.jA;omega
def lr_{hs:Xa}{ts:Xb}{S:YS}{qs:aJ}(O:fN hs ts S)(Qq:Qs S.ps qs):vp hs qs S.f=vp hs S.ps S.f:=by
 unfold vp;exact KY λh _=>dH V.int (kq_ S.f (Qq.ws O.nd) h)
end
end Ev
namespace g0
open PySem PySem.Spec PySem.Calls PyProof.Rows PySem.W
section
variable{prog:Ad}{w:Af}{A:Ag}
end
end g0
namespace L2
open PySem PySem.Spec PySem.Calls PyProof.Rows PySem.W g0
end L2
namespace Ev
open PySem L2
def lq_{rs:List Xb}{t:Str × Str}(h:∀r∈rs,r.Pairwise λu v=>hit v u=false):∀r∈iB rs t,r.Pairwise λu v=>hit v u=false:=by
 intro r hr;unfold iB at hr;split at hr
 ·rename_i dB
  rcases List.mem_or_eq_of_mem_set hr with m|rfl
  ·exact h r m
  rw[List.pairwise_append];apply#[h _ (lA dB),List.pairwise_singleton ..,λu hu v hv=>?_];obtain rfl:v=t:=⇑hv
  have:=@List.findIdx_getElem _ (λr:Xb=>!r.any (hit v)) rs dB;have this:(!(rs[fJ rs v].any (hit v)))=true:=this;have this:rs[fJ rs v].any (hit v)=false:=⇑this
  have:=List.any_eq_false.mp this u hu;simpa using this
 rcases fB.mp hr with m|m
 ·exact h r m
 obtain rfl:r=[t]:=⇑m
 exact List.pairwise_singleton ..
def YL:∀(ts:Xb)(rs:List Xb),(∀r∈rs,r.Pairwise λu v=>hit v u=false)->∀r∈ts.foldl iB rs,r.Pairwise λu v=>hit v u=false
 |[],rs,h=>h
 |t::ts,rs,h=>by
  rw[List.foldl_cons];exact YL ts _ (lq_ h)
def gv_(ts:Xb)(m:Int):(jX ts m).Pairwise λu v=>hit v u=false:=by
 unfold jX;cases e:(turnsOf (aO ts))[(m % ((turnsOf (aO ts)).length:Int)).toNat]? with
 |none=>exact .nil
 |some r=>exact YL (aO ts) [] Z2 r (dz e)
def Yf{gd:Str}{a b:Int}(h:qH gd a b=true)(hb:1<=b):0<a:=by
 unfold qH at h;split at h
 ·simpa using h
 split at h
 ·have:b<2 * a:=⇑h
  omega
 have:b<=a:=⇑h
 omega
section
variable{hs:Xa}{ts:Xb}{qs:aJ}{f:az}
def Sx(W:Wd hs ts qs f)(hw:∀n∈qs.map (·.1),1<=gS qs n){gd a b:Str}(ha:a∈aB hs)(hb:b∈aB hs){m:Mv}(h:m∈gM hs ts qs f gd [] a b):m.2=(a,b)/\0<jJ hs qs f a b:=by
 unfold gM at h;cases e:(ee qs f a).find? (rJ hs ts qs f gd [] a b) with
 |none=>rw[e] at h;cases h
 |some n=>
  rw[e] at h;obtain rfl:m=(n,a,b):=⇑h
  apply#[Z,?_];let p:=List.find?_some e;unfold rJ at p;let p:=(Bool.and_eq_true_iff.mp (Bool.and_eq_true_iff.mp p).2).1;let n1:=hw n (DM (List.mem_of_find?_eq_some e)).1;let h1:=zr W.Gd ha;let h2:=zr W.Gd hb;have j:1<=jC hs a b:=by unfold jC;omega
  apply Yf p ?_;have:=Int.mul_le_mul n1 j (by decide) Z1;omega
def iD_(a b:Str):jJ hs qs f b a=-(jJ hs qs f a b):=by
 unfold jJ;omega
def jp_(W:Wd hs ts qs f)(hw:∀n∈qs.map (·.1),1<=gS qs n){gd:Str}{u:Str × Str}(h1:u.1∈aB hs)(h2:u.2∈aB hs):qU hs ts qs f gd u=[]∨∃m:Mv,qU hs ts qs f gd u=[m]/\(m.2=u∨m.2=(u.2,u.1)):=by
 unfold qU;let l1:=se hs ts qs f gd [] u.1 u.2;let l2:=se hs ts qs f gd [] u.2 u.1;cases e1:gM hs ts qs f gd [] u.1 u.2 with
 |nil=>
  cases e2:gM hs ts qs f gd [] u.2 u.1 with
  |nil=>exact .inl Z
  |cons m r=>
   rw[e2,jf] at l2;obtain rfl:r=[]:=D6.mp Z1;exact .inr #[m,Z,.inr (Sx W hw h2 h1 (by rw[e2];exact fi)).1]
 |cons m r=>
  rw[e1,jf] at l1;obtain rfl:r=[]:=D6.mp Z1;let#[q1,q2]:=Sx W hw h1 h2 (show m∈gM hs ts qs f gd [] u.1 u.2 by rw[e1];exact fi);cases e2:gM hs ts qs f gd [] u.2 u.1 with
  |nil=>exact .inr #[m,Z,.inl q1]
  |cons m' r'=>
   let q3:=(Sx W hw h2 h1 (show m'∈gM hs ts qs f gd [] u.2 u.1 by rw[e2];exact fi)).2;rw[iD_] at q3;omega
def apart(m m':Mv):Prop:=m.2.1≠m'.2.1/\m.2.1≠m'.2.2/\m.2.2≠m'.2.1/\m.2.2≠m'.2.2
def _w(W:Wd hs ts qs f)(hw:∀n∈qs.map (·.1),1<=gS qs n){gd:Str}:∀{r:Xb},(∀u∈r,u.1∈aB hs/\u.2∈aB hs/\u.1≠u.2)->(r.Pairwise λu v=>hit v u=false)->(r.flatMap (qU hs ts qs f gd)).Pairwise apart/\∀m∈r.flatMap (qU hs ts qs f gd),m.2.1≠m.2.2/\∃u∈r,m.2=u∨m.2=(u.2,u.1)
 |[],_,_=>#[.nil,λm hm=>by cases hm]
 |u::r,rK,pw=>by
  let#[p1,p2]:=List.pairwise_cons.mp pw;let#[h1,h2,h3]:=rK u fi;let#[i1,i2]:=_w W hw (gd:=gd) (λv hv=>rK v (fj _ hv)) p2;rw[List.flatMap_cons]
  have up:∀m∈r.flatMap (qU hs ts qs f gd),m.2.1≠m.2.2/\∃v∈u::r,m.2=v∨m.2=(v.2,v.1):=λm hm=>by
   let#[q1,v,hv,q2]:=i2 m hm;exact#[q1,v,fj _ hv,q2]
  rcases jp_ W hw (gd:=gd) h1 h2 with e|⟨m,e,hm⟩
  ·rw[e,List.nil_append];exact#[i1,up]
  rw[e,List.singleton_append,List.pairwise_cons];apply#[#[λm' hm'=>?_,i1],λm' hm'=>?_]
  ·let#[_,v,hv,q]:=i2 m' hm';let hh:=p1 v hv;unfold hit at hh;simp only[Bool.or_eq_false_iff,DB] at hh;let#[#[a1,a2],a3,a4]:=hh;unfold apart;rcases hm with hm|hm<;>rcases q with q|q<;>rw[hm,q]
   ·exact#[a1,a3,a2,a4]
   ·exact#[a3,a1,a4,a2]
   ·exact#[a2,a4,a1,a3]
   exact#[a4,a2,a3,a1]
  rcases cc.mp hm' with rfl|hm'
  ·apply#[?_,u,fi,hm];rcases hm with hm|hm<;>rw[hm]
   ·exact h3
   exact λz=>h3 z.symm
  exact up m' hm'
def ln_{M:eR}(h:M.Pairwise apart)(hd:∀m∈M,m.2.1≠m.2.2):(M.map (·.2.1)++M.map (·.2.2)).Nodup:=by
 rw[zC];apply#[?_,?_,?_]
 ·rw[wk,md];exact h.imp λq=>q.1
 ·rw[wk,md];exact h.imp λq=>q.2.2.2
 intro x hx y hy;let#[m,hm,rfl]:=bo.mp hx;let#[m',hm',rfl]:=bo.mp hy
 have key:∀{L:eR},L.Pairwise apart->(∀m∈L,m.2.1≠m.2.2)->∀m∈L,∀m'∈L,m.2.1≠m'.2.2:=by
  intro L
  induction L with
  |nil=>intro _ _ m hm;cases hm
  |cons a l ih=>
   intro pw hd m hm m' hm';let#[p1,p2]:=List.pairwise_cons.mp pw;rcases cc.mp hm with e|hm1
   ·rcases cc.mp hm' with e'|hm1'
    ·rw[e,e'];exact hd _ fi
    rw[e];exact (p1 m' hm1').2.1
   rcases cc.mp hm' with e'|hm1'
   ·rw[e'];exact λz=>(p1 m hm1).2.2.1 z.symm
   exact ih p2 (λx hx=>hd x (fj _ hx)) m hm1 m' hm1'
 exact key h hd m hm m' hm'
def m2_(G:Good hs ts){u:Str × Str}(h:u∈aO ts):u.1≠u.2:=by
 have k:kT u∈(aO ts).map kT:=bo.mpr #[u,h,Z];rw[Fv,(jN _).mem_iff] at k;let#[t,ht,e]:=bo.mp k;let e:=Ff e;let ne:=(G.tok t ht).2.2;rw[<- e];unfold aP;split
 ·exact ne
 exact λz=>ne z.symm
def hL_(W:Wd hs ts qs f)(hw:∀n∈qs.map (·.1),1<=gS qs n)(gd:Str)(m:Int):((zu hs ts qs f gd m).map (·.2.1)++(zu hs ts qs f gd m).map (·.2.2)).Nodup:=by
 let#[h1,h2]:=_w W hw (gd:=gd) (r:=jX ts m) (λu hu=>#[(Kl W.Gd (FC hu)).1,(Kl W.Gd (FC hu)).2,m2_ W.Gd (FC hu)]) (gv_ ts m);exact ln_ h1 λm hm=>(h2 m hm).1
structure N3(hs:Xa)(ts:Xb)(qs:aJ)(f:az)(m:Mv):Prop where
 n:m.1∈qs.map (·.1)
 a:f m.1=m.2.1
 may:nK hs ts qs m.1 m.2.1 m.2.2=true
 ld:0<jJ hs qs f m.2.1 m.2.2
def L9(W:Wd hs ts qs f)(hw:∀n∈qs.map (·.1),1<=gS qs n){gd a b:Str}{gv:ae}(ha:a∈aB hs)(hb:b∈aB hs){m:Mv}(h:m∈gM hs ts qs f gd gv a b):m.2=(a,b)/\m.1∉gv/\N3 hs ts qs f m:=by
 unfold gM at h;split at h
 ·rename_i n e
  let hm:=oC.mp h;let hp:=List.find?_some e;let hn:=List.mem_of_find?_eq_some e;let#[n1,n2]:=DM hn;unfold rJ at hp;simp only[pZ,Bool.not_eq_true',DB] at hp;let#[h1,h2,h3]:=hp;subst hm;apply#[Z,h1,#[n1,n2,h3,Yf h2 ?_]];let w1:=hw n n1;let s1:=(zr W.Gd ha).1;let s2:=(zr W.Gd hb).1;unfold jC;have:1 * 1<=gS qs n * (strOf hs a+strOf hs b):=Int.mul_le_mul w1 Z1 (by decide) Z1;omega
 cases h
def Xd{α β:Type}{l:List α}(g:α->β)(h:(l.map g).Nodup):l.Nodup:=(md.mp h).imp λq e=>q (by rw[e])
def LQ{α:Type}{l:List α}(h:l.length<=1):l.Nodup:=by
 match l,h with
 |[],_=>simp
 |[a],_=>simp
structure gR(hs:Xa)(ts:Xb)(qs:aJ)(f:az)(h:Str)(ms:eR):Prop where
 fr:∀m∈ms,m.2.1=h/\N3 hs ts qs f m
 nd:(ms.map (·.1)).Nodup
def kH_(W:Wd hs ts qs f)(a:Str):(ee qs f a).Nodup:=((J_ qs).nodup_iff.mpr W.nd).filter _
def Yq{h:Str}{ms ns:eR}(A:gR hs ts qs f h ms)(B:gR hs ts qs f h ns)(d:∀m∈ns,m.1∉ms.map (·.1)):gR hs ts qs f h (ms++ns):=#[λm hm=>(fB.mp hm).elim (A.fr m) (B.fr m),by
 rw[cZ];apply zC.mpr #[A.nd,B.nd,λx hx y hy e=>?_];let#[m,hm,rfl]:=bo.mp hy;exact d m hm (e▸hx)]
def Yi(W:Wd hs ts qs f)(hw:∀n∈qs.map (·.1),1<=gS qs n){gd a b:Str}{gv:ae}(ha:a∈aB hs)(hb:b∈aB hs):gR hs ts qs f a (gM hs ts qs f gd gv a b):=#[λm hm=>by
 let#[e,_,g]:=L9 W hw ha hb hm;exact#[by rw[e],g],LQ (by rw[aq];exact se ..)]
def R4(W:Wd hs ts qs f)(hw:∀n∈qs.map (·.1),1<=gS qs n){gd h:Str}(hh:h∈aB hs):∀{l:ae}{ms:eR},(∀o∈l,o∈aB hs)->l.Nodup->gR hs ts qs f h ms->(ms.map (·.2)).Nodup->(∀m∈ms,m.2.2∉l)->gR hs ts qs f h (pU hs ts qs f gd h ms l)/\((pU hs ts qs f gd h ms l).map (·.2)).Nodup
 |[],ms,_,_,R,nd,_=>#[R,nd]
 |o::l,ms,hl,nl,R,nd,dj=>by
  unfold pU;let#[no,nl]:=j5.mp nl;split
  ·let ho:=hl o Z2;let g:=λm hm=>L9 (gd:=gd) (gv:=ms.map (·.1)) W hw hh ho (m:=m) hm;apply R4 W hw hh (λx hx=>hl x (by simp[hx])) nl (Yq R (Yi W hw hh ho) λm hm=>(g m hm).2.1) ?_ λm hm=>?_
   ·rw[cZ];apply zC.mpr #[nd,?_,λx hx y hy e=>?_]
    ·exact LQ (by rw[aq];exact se ..)
    let#[m,hm,rfl]:=bo.mp hy;let#[m',hm',rfl]:=bo.mp hx;apply dj m' hm' ?_;rw[e,(g m hm).1];simp
   rcases fB.mp hm with z|z
   ·exact λq=>dj m z (by simp[q])
   rw[(g m z).1];exact no
  exact R4 W hw hh (λx hx=>hl x (by simp[hx])) nl R nd λm hm q=>dj m hm (by simp[q])
def QK(wt:Str->Int)(ok:Str->Bool):∀(l:Int)(ns:ae),∀n∈tU wt ok l ns,ok n=true
 |_,[],n,h=>by cases h
 |l,x::ns,n,h=>by
  unfold tU at h;split at h
  ·rename_i c
   rcases cc.mp h with z|z
   ·rw[z];simp only[pZ] at c;exact c.1
   exact QK wt ok _ ns n z
  exact QK wt ok l ns n h
def RW(W:Wd hs ts qs f){h:Str}:∀{l:ae}{ms:eR},gR hs ts qs f h ms->gR hs ts qs f h (qM hs ts qs f h ms l)
 |[],ms,R=>R
 |o::l,ms,R=>by
  unfold qM;split
  ·rename_i ld
   have key:∀m∈wN hs ts qs f (ms.map (·.1)) h o,∃n∈ee qs f h,m=(n,h,o)/\gI hs ts qs (ms.map (·.1)) h o n=true:=λm hm=>by
    let#[n,hn,rfl]:=bo.mp hm;exact#[n,(Fi _ _ _ _).subset hn,Z,QK _ _ _ _ n hn]
   apply RW W (Yq R #[λm hm=>?_,?_] λm hm=>?_)
   ·let#[n,hn,rfl,ok]:=key m hm;let#[n1,n2]:=DM hn;unfold gI at ok;simp only[pZ] at ok;exact#[Z,n1,n2,ok.2,ld]
   ·unfold wN;rw[bU];show ((GN hs ts qs f (ms.map (·.1)) h o).map λn=>n).Nodup;rw[List.map_id'];exact (kH_ W h).sublist (Fi _ _ _ _)
   let#[n,hn,rfl,ok]:=key m hm;unfold gI at ok;simp only[pZ,Bool.not_eq_true',DB] at ok;exact ok.1
  exact RW W R
def gM_:∀r∈rl,r.2.1="turns"->¬r.2.2.1="one":=by decide +kernel
def M4{β γ:Type}{g:Str->List β}{k:β->γ}:∀{L:ae},L.Nodup->(∀h∈L,((g h).map k).Nodup)->(∀h∈L,∀h'∈L,h≠h'->∀x∈g h,∀y∈g h',k x≠k y)->((L.flatMap g).map k).Nodup
 |[],_,_,_=>by simp
 |h::L,nd,a,b=>by
  let#[n1,n2]:=j5.mp nd;rw[List.flatMap_cons,cZ];apply zC.mpr #[a h Z2,M4 n2 (λx hx=>a x (by simp[hx])) (λx hx y hy=>b x (by simp[hx]) y (by simp[hy])),λx hx y hy e=>?_];let#[m,hm,rfl]:=bo.mp hx;let#[m',hm',rfl]:=bo.mp hy;let#[h',vH,hm']:=List.mem_flatMap.mp hm';exact b h Z2 h' (by simp[vH]) (λz=>n1 (z▸vH)) m hm m' hm' e
structure EX(r:Rl)(hs:Xa)(ts:Xb)(qs:aJ)(f:az)(M:eR):Prop where
 all:∀m∈M,N3 hs ts qs f m
 nd:(M.map (·.1)).Nodup
 pr:r.2.1≠"shares"->(M.map (·.2)).Nodup
 gv:r.2.1="least"->(M.map (·.2.1)).Nodup
def EX.sub{r:Rl}{M N:eR}(h:EX r hs ts qs f M)(s:N.Sublist M):EX r hs ts qs f N:=#[λm hm=>h.all m (s.subset hm),h.nd.sublist (s.map _),λe=>(h.pr e).sublist (s.map _),λe=>(h.gv e).sublist (s.map _)]
def Sz{r:Rl}(W:Wd hs ts qs f){g:Str->eR}(R:∀h∈aB hs,gR hs ts qs f h (g h))(p:r.2.1≠"shares"->∀h∈aB hs,((g h).map (·.2)).Nodup)(o:r.2.1="least"->∀h∈aB hs,(g h).length<=1):EX r hs ts qs f ((aB hs).flatMap g):=by
 let nn:=W.Gd.qp;apply#[λm hm=>?_,M4 nn (λh hh=>(R h hh).nd) λh hh h' vH ne x hx y hy e=>?_,λe=>M4 nn (p e) λh hh h' vH ne x hx y hy e=>?_,λe=>M4 nn (λh hh=>LQ (by rw[aq];exact o e h hh)) λh hh h' vH ne x hx y hy e=>?_]
 ·let#[h,hh,hm]:=List.mem_flatMap.mp hm;exact ((R h hh).fr m hm).2
 ·let#[a1,a2]:=(R h hh).fr x hx;let#[b1,b2]:=(R h' vH).fr y hy;exact ne (by rw[<- a1,<- b1,<- a2.a,<- b2.a,e])
 ·exact ne (by rw[<- ((R h hh).fr x hx).1,<- ((R h' vH).fr y hy).1,e])
 exact ne (by rw[<- ((R h hh).fr x hx).1,<- ((R h' vH).fr y hy).1];exact e)
def WQ(W:Wd hs ts qs f)(hw:∀n∈qs.map (·.1),1<=gS qs n){gd:Str}{m:Int}{x:Mv}(h:x∈zu hs ts qs f gd m):N3 hs ts qs f x:=by
 let#[t,ht,hx]:=List.mem_flatMap.mp h;let#[t1,t2]:=Kl W.Gd (FC ht);unfold qU at hx;rcases fB.mp hx with z|z
 ·exact (L9 W hw t1 t2 z).2.2
 exact (L9 W hw t2 t1 z).2.2
def lV_{r:Rl}(hr:r∈rl)(W:Wd hs ts qs f)(hw:∀n∈qs.map (·.1),1<=gS qs n)(m:Int):EX r hs ts qs f (dQ r hs ts qs f m)/\(r.2.2.1="one"->(dQ r hs ts qs f m).length<2):=by
 have El:∀{h},h∈aB hs->(∀o∈di hs ts qs f h,o∈aB hs)/\(di hs ts qs f h).Nodup:=λ{h} hh=>#[λo ho=>Dq ((Fw hs ts qs f h).mem_iff.mp ho),(Fw hs ts qs f h).nodup_iff.mpr (W.Gd.qp.filter _)];unfold dQ;by_cases c:r.2.1="turns"
 ·rw[aF c];let nd:=hL_ W hw (r.2.2.2.getD "") m;let n1:=(zC.mp nd).1;apply#[#[λx hx=>WQ W hw hx,?_,λ_=>?_,λ_=>n1],λz=>absurd z ?_]
  ·apply Xd f ?_;rw[bU,show (zu hs ts qs f (r.2.2.2.getD "") m).map (f ∘ λx=>x.1)=(zu hs ts qs f (r.2.2.2.getD "") m).map (·.2.1) from p4 λx hx=>(WQ W hw hx).a];exact n1
  ·apply Xd (·.1) ?_;rw[bU];exact n1
  exact gM_ r hr c
 rw[aA c]
 have full:EX r hs ts qs f ((aB hs).flatMap (lS r hs ts qs f)):=by
  by_cases c1:r.2.1="least"
  ·have key:∀h∈aB hs,gR hs ts qs f h (lS r hs ts qs f h)/\(lS r hs ts qs f h).length<=1:=λh hh=>by
    rw[ZX c1];show gR hs ts qs f h (xt hs ts qs f (r.2.2.2.getD "") h)/\(xt hs ts qs f (r.2.2.2.getD "") h).length<=1;unfold xt;have:=(El hh).1;split
    ·exact#[#[λm hm=>(by cases hm),by simp],by simp]
    rename_i o _ e
    rw[e] at this;exact#[Yi W hw hh (this o Z2),se ..]
   exact Sz W (λh hh=>(key h hh).1) (λ_ h hh=>LQ (by rw[aq];exact (key h hh).2)) λ_ h hh=>(key h hh).2
  by_cases c2:r.2.1="below"
  ·have key:∀h∈aB hs,gR hs ts qs f h (lS r hs ts qs f h)/\((lS r hs ts qs f h).map (·.2)).Nodup:=λh hh=>by
    rw[Zo c2];exact R4 W hw hh (El hh).1 (El hh).2 #[λm hm=>(by cases hm),by simp] Z2 λm hm=>by cases hm
   exact Sz W (λh hh=>(key h hh).1) (λ_ h hh=>(key h hh).2) λz=>absurd z c1
  let c3:=XZ r hr c c1 c2;apply Sz W (λh hh=>?_) (λz=>absurd c3 z) λz=>absurd z c1;rw[_c c3];exact RW W #[λm hm=>(by cases hm),by simp]
 unfold Fs;by_cases c4:r.2.2.1="one"
 ·rw[aF c4];exact#[full.sub (List.take_sublist _ _),λ_=>by rw[dZ];omega]
 rw[aA c4];exact#[full,λz=>absurd z c4]
end
end Ev
namespace L2
open PySem PySem.Spec PyProof.Rows PySem.W
section
variable{prog:Ad}{w:Af}{A:Ag}{E:Aa->Ab->Prop}{s:Ab}
end
end L2
namespace Ev
open PySem L2
def wC(hs:Xa)(qs:aJ)(f:az)(r:Int):Prop:=∃x∈aB hs,∃y∈aB hs,r=jw hs qs f x - jw hs qs f y/\∀z∈aB hs,jw hs qs f z<=jw hs qs f x/\jw hs qs f y<=jw hs qs f z
def fN.wd{hs:Xa}{ts:Xb}{S:YS}{qs:aJ}(O:fN hs ts S)(Qq:Qs S.ps qs):Wd hs ts qs S.f:=by
 let len:=Qq.len;let jA:=O.jA;apply#[O.Gd,Qq.nd O.nd,by omega,λn hn=>?_,λq hq=>?_]
 ·rw[Qq.vh] at hn;exact O.at_ n ((lY _).mem_iff.mp hn)
 let#[q',hq',rfl]:=Qq.mem q hq;let g:=O.gp q' hq';let w1:=g.w1;let w2:=g.w2;show 0<=q'.2.1/\q'.2.1<=1000000000;omega
def fN.w1{hs:Xa}{ts:Xb}{S:YS}{qs:aJ}(O:fN hs ts S)(Qq:Qs S.ps qs):∀n∈qs.map (·.1),1<=gS qs n:=λn hn=>by
 let#[q,hq,rfl]:=bo.mp hn;rw[Ib (Qq.nd O.nd) hq];let#[q',hq',rfl]:=Qq.mem q hq;exact (O.gp q' hq').w1
def ik_{l m:ae}(nd:l.Nodup)(s:∀x∈l,x∈m):l.length<=m.length:=by
 induction l generalizing m with
 |nil=>exact gQ _
 |cons x l ih=>
  let#[n1,n2]:=j5.mp nd;let hm:=s x Z2;have:=ih (m:=m.erase x) n2 λy hy=>(List.mem_erase_of_ne (λe=>n1 (by rw[<- e];exact hy))).mpr (s y (by simp[hy]));rw[List.length_erase_of_mem hm] at this;have:=List.length_pos_of_mem hm;rw[jf];omega
def wR(m:Nat)(x:Mv):ax:=[.inr "move",.inl m,.inr x.1,.inr x.2.1,.inr x.2.2]
abbrev YS.moved(S:YS)(M:eR):YS:=#[S.ps,dX S.f M,S.m,S.b,S.ds++M.map (wR S.m)]
abbrev YS.step(S:YS)(M:eR):YS:=#[S.ps,dX S.f M,S.m+1,S.b,S.ds++M.map (wR S.m)]
def du.re{K:af}{CY CW:Addr}{H H':Hp}{y p dp dh ld:Addr}{r:Str}{hs:Xa}{ts:Xb}{S S':YS}{fp:ai}(Y:du K CY CW H y p dp dh ld r hs ts S fp)(k4:wB y dp dh ld H H')(ps:S'.ps=S.ps)(h1:∃dx,H' y\.ins CY dx (yF p r S'.m dp dh ld S'.b))(h2:∀o,H dp\o->H' dp\o)(h3:H' dh\.dK (gf (S'.ps.map (·.1)) S'.f))(h4:∃dv,H' ld\.lst dv/\bj K H' dv S'.ds):du K CY CW H' y p dp dh ld r hs ts S' fp:=by
 let#[dx,hy]:=Y.ex;let#[bq,W,wf,wI,rq,rA,wJ]:=Y.W;let#[yp,gn,py]:=Y.P;let iP:=Y.Hd;let#[ds,i6,Ca]:=Y.D;have kt:∀c xs,H c\.tup xs->H' c\.tup xs:=λc xs e=>k4 c _ e (aR e hy nofun) (aR e gn nofun) (aR e iP nofun) (aR e i6 nofun);have kl:∀c xs,H c\.lst xs->c≠ld->H' c\.lst xs:=λc xs e n=>k4 c _ e (aR e hy nofun) (aR e gn nofun) (aR e iP nofun) n
 have kw:∀(z:V) (o:Option (Xb)),bO K H z o->(∀a,z=.ref a->a≠ld)->bO K H' z o:=λz o wz nz=>by
  cases o with
  |none=>exact wz
  |some ws=>
   let#[a,ys,e,ha,tu]:=wz;exact#[a,ys,e,kl a ys ha (nz a e),Paired.bJ tu λx k ⟨c,e,hc⟩=>#[c,e,kt _ _ hc]]
 apply#[h1,#[bq,W.keep (λc hc o e=>k4 c o e (λz=>wI (z▸hc)) (λz=>rq (z▸hc)) (λz=>rA (z▸hc)) (λz=>wJ (z▸hc))) kt,wf,wI,rq,rA,wJ],#[yp,by rw[ps];exact h2 _ gn,by
  rw[ps];exact Paired.bJ py λv q ⟨t,z,e,ht,wz,n⟩=>#[t,z,e,kt _ _ ht,kw z _ wz (λa e=>(n a e).2),n]],h3,h4,Y.nd,Y.m,λc hc=>?_]
 by_cases c1:c=y
 ·let#[JR,h1]:=h1;exact#[_,c1▸h1,by intro vs z;cases z]
 by_cases c2:c=dp
 ·exact#[_,c2▸h2 _ gn,by intro vs z;cases z]
 by_cases c3:c=dh
 ·exact#[_,c3▸h3,by intro vs z;cases z]
 by_cases c5:c=ld
 ·let#[dv,h4,_]:=h4;exact#[_,c5▸h4,by intro vs z;cases z]
 let#[o,e,n]:=Y.has c hc;exact#[o,k4 c o e c1 c2 c3 c5,n]
def du.ne{K:af}{CY CW:Addr}{H:Hp}{y p dp dh ld:Addr}{r:Str}{hs:Xa}{ts:Xb}{S:YS}{fp:ai}(Y:du K CY CW H y p dp dh ld r hs ts S fp):y≠dp/\y≠dh/\y≠ld/\ld≠dp/\ld≠dh:=by
 let#[dx,hy]:=Y.ex;let#[yp,gn,py]:=Y.P;let iP:=Y.Hd;let#[ds,i6,Ca]:=Y.D;exact#[aR hy gn nofun,aR hy iP nofun,aR hy i6 nofun,aR i6 gn nofun,aR i6 iP nofun]
section v
def ud:bA ["goods","placed","levels"] lV (aM uw):=bI
inductive mB(K:af)(CG CW:Addr):Sp|k:∀(g p d:Addr)(hs:Xa)(ts:Xb)(qs:aJ)(fp:ai)(f:az),vs=[.ref g,.ref d]->sj K CG CW H g p d hs ts qs fp f->(∀q∈qs,0<=q.2.1/\q.2.1<=1000000000)->(∀r H',aa H H'->wC hs qs f r->Q (.int r) H')->mB K CG CW vs H Q E
def l3_{f CG CW:Addr}{fd:Ae}(F:bc K "rise_at" "rise_at" uw f fd)(B:Bi mg)(PQ:mg "min"=none)(cV:!bH 4 "levels_at" lV (NO K CG CW)):!ak bg 5 f fd lV (mB K CG CW):=by
 exists F.bN ud;let#[g,p,d,hs,ts,qs,fp,f,rfl,Pl,wp,k]:=h;let nl:=Pl.Gd.fF;let h1:=Pl.Gd.h1;refine' #[_,ao ?s1 (aK ?s2),?kk]
 case s1=>exact bC 2 ud.nd (bp cV hr %[0,1|0])
 case s2=>exact bw (bV MF (cO (hI_ Z) (by rfl) B.max Rq %[Nq (pv 2)|0]) (cO (i0_ Z) (by rfl) PQ PyProof.Rows.Boot.«min» %[Nq (pv 2)|0]))
 apply#[_,Z,_,Z,g,p,d,hs,ts,qs,fp,f,Z,Pl,wp,λdv H1 s1 n1 e1=>?_]
 have em:((aB hs).map λh=>((Sum.inr h:Key),jw hs qs f h)).map (·.2)=(aB hs).map (jw hs qs f):=by
  rw[bU];rfl
 have Sg:dR (aB hs) (λh=>V.int (jw hs qs f h))=((aB hs).map λh=>((Sum.inr h:Key),jw hs qs f h)).map λx=>(x.1,V.int x.2):=by
  rw[bU];rfl
 rw[Sg] at e1;apply#[_,Z,dv,_,Z,e1,λv hv=>?_];let#[s2,ev]:=bS (X:=qX v dv) hv;generalize upd H1 v _=H2 at s2 ev ⊢;apply#[v,dv,(aB hs).map λh=>((Sum.inr h:Key),jw hs qs f h),Z,ev,.of (s2 _ _ e1),by rw[aq];omega,λm hm mx=>?_];rw[em] at hm mx;apply#[_,Z,dv,_,Z,s2 _ _ e1,λv2 Qy=>?_];let#[s3,Zi]:=bS (X:=qX v2 dv) Qy;generalize upd H2 v2 _=H3 at s3 Zi ⊢;apply#[v2,dv,(aB hs).map λh=>((Sum.inr h:Key),jw hs qs f h),Z,Zi,.of (s3 _ _ (s2 _ _ e1)),by rw[aq];omega,λm2 XF mn=>?_];rw[em] at XF mn;let#[x,hx,rfl]:=bo.mp hm;let#[y,hy,rfl]:=bo.mp XF;exact#[_,_,Z,Z,k _ H3 (s1.trans (s2.trans s3)) #[x,hx,y,hy,Z,λz hz=>#[mx _ (bo.mpr #[z,hz,Z]),mn _ (bo.mpr #[z,hz,Z])]]]
def iz(y dh ld T1 T2:Addr)(H H':Hp):Prop:=∀b o,H b\o->b≠y->b≠dh->b≠ld->b≠T1->b≠T2->H' b\o
def J3:bA ["self","goods","moves","piece","one","other"] ["self","goods"] (aM mO):=bI
inductive mF(K:af)(CY CG CW T1 T2:Addr):Sp|k:∀(y p dp dh ld g:Addr)(hs:Xa)(ts:Xb)(S:YS)(qs:aJ)(fp eJ:ai),∀r∈rl,vs=[.ref y,.ref g]->du K CY CW H y p dp dh ld r.1 hs ts S fp->fN hs ts S->fO K CG CW H g p hs ts qs eJ->Qs S.ps qs->(∀c∈eJ,∃o,H c\o/\∀vs,o≠.tbl vs)->Tb H T1 T2->S.ds.length<=2000000->(∀l ys H',iz y dh ld T1 T2 H H'->Tb H' T1 T2->H l=none->H' l\.lst ys->bj K H' ys ((dQ r hs ts qs S.f S.m).map kM)->(dQ r hs ts qs S.f S.m).length<=30->du K CY CW H' y p dp dh ld r.1 hs ts (S.step (dQ r hs ts qs S.f S.m)) fp->Q (.ref l) H')->mF K CY CG CW T1 T2 vs H Q E
def kC_{f0 CY CS CG CW T1 T2:Addr}{fd:Ae}(F:bc K "moves_made" "Yard.moves_made" mO f0 fd)(T:fW K CY)(cS:!aZ CY 1 "stand" dG (DS K CY CW))(Ug:!jQ CS 7 "Sight" lC (M6 K CS CG CW T1))(Fm:!bH 7 "moves_seen" yZ (M8 K CS CG CW T2)):!ak bg 9 f0 fd ["self","goods"] (mF K CY CG CW T1 T2):=by
 exists F.bN J3;let#[y,p,dp,dh,ld,g,hs,ts,S,qs,fp,eJ,r,eA,rfl,Y,O,G,Qq,has,tb,d6,k]:=h;let sz:=cX;let hu:=gE hr;have fH:aI 1 _:=hr.mono (by decide);refine' #[_,ao ?s1 ?r1,?kk]
 case' r1=>refine' ao ?s2 ?r2
 case' r2=>refine' ao ?s3 (aK (bw (pv 2)))
 case s1=>exact bC 2 J3.nd (bp Fm hr %[Jz Ug hr %[1,j2 cS T.cl fH (pv 0)|0],bP (pv 0) Z,bP (pv 0) Z|0])
 case' s2=>refine' gc fV Z (eS (pv 2)) (qP Z (eF (dF 3 J3.nd) (eF (dF 4 J3.nd) (eF (dF 5 J3.nd) kZ)))) (ao ?b1 (aK ?b2))
 case b1=>exact xn hu (bP (pv 0) Z) (pv 3) (pv 5) Z
 case b2=>exact iX (jL jI xo xq v_ (bP (pv 0) Z) %[dS %[bL,bP (pv 0) Z,3,4,5|0]|0])
 case s3=>exact iS (pv 0) (bV jM (bP (pv 0) Z) aH) Z
 let#[dx,hy]:=Y.ex;let W:=O.wd Qq;let#[sM,qe,iG,iK,ib]:=Y.ne;let#[zL,rP]:=gz tb.a;let#[xD,rN]:=gz tb.b
 have nT:∀{c:Addr},c∈fp->c≠T1/\c≠T2:=λ{c} hc=>by
  let#[o,e,n]:=Y.has c hc;exact#[λz=>n zL (by rw[z,rP] at e;exact (c7 e).symm),λz=>n xD (by rw[z,rN] at e;exact (c7 e).symm)]
 let#[my,Wg,LU,LS]:=Y.m;apply#[_,Z,_,Z,y,dx,_,Z,hy,oj Z0,y,p,dp,dh,ld,r.1,hs,ts,S,fp,Z,Y,O,λd H1 s1 nd e1=>?_];intro v E6 hv yM ne;have s2:aa H1 (upd (upd H1 E6 (.own v)) v (.ins CS E6 [])):=(aa.new yM).trans (aa.new (by rw[aD ne.symm];exact hv));let e2:=us (upd H1 E6 (.own v)) v (.ins CS E6 []);generalize upd (upd H1 E6 (.own v)) v _=H2 at s2 e2 ⊢;let cq:=s1.trans s2
 have Eg:v∉eJ:=λhm=>by
  let#[o,e,_]:=has v hm;rw[s1 _ _ e] at hv;cases hv
 apply#[v,E6,g,p,d,hs,ts,qs,eJ,S.f,Z,e2,Eg,Tq O cq G Qq has nd (s2 _ _ e1),W,tb.a.same cq,λH3 k3 hJ S3=>#[Z,?_]];have yu:∀b o,H b\o->b≠T1->H3 b\o:=λb o e n=>k3 b o (cq _ _ e) (bB (s1 _ _ e) hv) n
 have lN:cu H3 T2 kz:=by
  let#[es,a1,a2]:=tb.b;exact#[es,yu _ _ a1 tb.ne.symm,λx hx=>yu _ _ (a2 x hx) (λz=>by have:=a2 x hx;rw[z,rP] at this;cases this)]
 let yz:=yu _ _ hy (nT my).1;apply#[_,Z,y,CY,dx,_,_,Z,yz,T.cl,T.nR,FZ,_,Z,y,CY,dx,_,_,Z,yz,T.cl,T.nM,sO,v,g,p,(S.m:Int),hs,ts,qs,eJ,S.f,r,eA,Z,by omega,S3,W,lN,λl ys H4 b4 gH nl hl tu=>?_];lk;let#[tv3,hT3]:=gz lN;have zy:BT T1 T2 H H4:=λb o e n1 n2=>b4 _ _ (yu b o e n1) n2;have iH:Tb H4 T1 T2:=#[cu.but hJ b4 #[_,hT3] tb.ne,gH,tb.ne];let Y4:=Y.nt (zy.nt tb)
 have V4:H l=none:=by
  cases z:H l with
  |none=>rfl
  |some o=>
   by_cases y1:l=T1
   ·let#[tv,hT]:=gz hJ;rw[y1,hT] at nl;cases nl
   rw[yu _ _ z y1] at nl;cases nl
 have lfp:l∉fp:=λhm=>by
  let#[o,e,_]:=Y.has l hm;rw[V4] at e;cases e
 let ly:=bG tu;rw[aq] at ly
 have PR:(dQ r hs ts qs S.f S.m).length<=30:=by
  let h1:=(lV_ eA W (O.w1 Qq) S.m).1
  have h2:((dQ r hs ts qs S.f S.m).map (·.1)).length<=(qs.map (·.1)).length:=ik_ h1.nd λn hn=>by
   let#[x,hx,rfl]:=bo.mp hn;exact (Qv W r S.m x hx).1
  rw[aq,aq,Qq.len] at h2;have:=O.jA;omega
 have kM:∀{j:Nat} {x:Mv},(dQ r hs ts qs S.f S.m)[j]? = some x->x.1∈S.ps.map (·.1):=λhx=>by
  have:=(Qv W r S.m _ (dz hx)).1;rw[Qq.vh] at this;exact (lY _).mem_iff.mp this
 generalize dQ r hs ts qs S.f S.m=M at *
 let bx:bX:=λj σ H'=>∃v3 v4 v5:aQ,σ=[some (.ref y),some (.ref g),some (.ref l),v3,v4,v5]/\(∀b o,H4 b\o->b≠dh->b≠ld->H' b\o)/\du K CY CW H' y p dp dh ld r.1 hs ts (S.moved (M.take j)) fp
 apply#[_,Z,l,Z,#[_,.of hl],jh (K:=K) (a:=l) (xs:=ys) bx #[none,none,none,Z,λ_ _ e _ _=>e,by simpa [YS.moved,dX] using Y4] (λj σ H' _ ⟨_,_,_,_,b,_⟩=>.of (b _ _ hl (λz=>lfp (z▸LU)) (λz=>lfp (z▸LS)))) ?_ ?_]
 ·rintro j x0 σ H' Xr ⟨v3,v4,v5,rfl,b',Y'⟩;let#[x,hx,On,rfl,Io]:=oA tu Xr;let Io:=hpM Io
  have VY:On≠dh/\On≠ld:=by
   let#[dv,h4,_]:=Y4.D;exact#[aR Io Y4.Hd nofun,aR Io h4 nofun]
  apply#[On,_,Z,.of (b' _ _ Io VY.1 VY.2),Z,_,_,Z,_,_,Z,_,_,Z,Z,?_];dsimp only;let#[JR,hyp]:=Y'.ex;let Jp:=Y'.Hd;let#[dv,IV,Eh]:=Y'.D;let#[yp,hdp',_]:=Y'.P;let pG:=bG Eh;let n30:=O.jA;have mt:(M.take j).length<=1000000:=by rw[dZ];omega
  apply#[_,Z,_,Z,y,CY,JR,_,_,Z,hyp,T.cl,T.nH,xB,_,Z,dh,_,Z,.k (k:=Sum.inr x.1) Jp (by rw[si,aq];show S.ps.length<_;omega),?_];rw[j9_ (kM hx)];let#[k1,h1]:=lM H' dh (X:=.dK (gf (S.ps.map (·.1)) (nI (dX S.f (M.take j)) x)));generalize upd H' dh _=G1 at k1 h1 ⊢;let Il:=k1 _ _ hyp qe;let IU:=k1 _ _ IV ib;apply#[_,Z,y,CY,JR,_,_,Z,Il,T.cl,T.nD,Bg,.inl #[Z,_,.of IU],_,Z,y,CY,JR,_,_,Z,Il,T.cl,T.nM,sO,_,Z,_,Z,_,Z,zl,λt nt=>?_];let s2:=aa.new (o:=.tup [.str "move",.int (S.m:Int),.str x.1,.str x.2.1,.str x.2.2]) nt;have e2:upd G1 t (.tup [.str "move",.int (S.m:Int),.str x.1,.str x.2.1,.str x.2.2]) t\.tup ((wR S.m x).map kV):=aE;show Tr _ _ (upd G1 t (.tup [.str "move",.int (S.m:Int),.str x.1,.str x.2.1,.str x.2.2])) _;generalize upd G1 t _=G2 at s2 e2 ⊢;let iM:=s2 _ _ IU;apply#[ld,dv,_,Z,Z,iM,?_,?_]
  ·rw[pG];show (S.ds++(M.take j).map (wR S.m)).length<sizeLine;rw[dE,aq];omega
  let#[k3,h3]:=lM G2 ld (X:=.lst (dv++[.ref t]));let et:=k3 _ _ e2 (aR e2 iM nofun);generalize upd G2 ld _=G3 at k3 h3 et ⊢;have H_:∀c o,H' c\o->c≠dh->c≠ld->G3 c\o:=λc o e n1 n2=>k3 _ _ (s2 _ _ (k1 _ _ e n1)) n2;apply#[_,_,_,Z,λb o e n1 n2=>H_ _ _ (b' b o e n1 n2) n1 n2,Y'.re (λc o e n1 n2 n3 n4=>H_ _ _ e n3 n4) Z #[JR,H_ _ _ hyp qe iG] (λo e=>H_ _ _ e Y'.nd iK.symm) ?_ #[_,h3,?_]]
  ·show G3 dh\.dK (gf (S.ps.map (·.1)) (dX S.f (M.take (j+1))));rw[KQ hx,ic_];exact k3 _ _ (s2 _ _ h1) ib.symm
  show bj K G3 _ (S.ds++(M.take (j+1)).map (wR S.m));rw[KQ hx,cZ,<- List.append_assoc];apply iU (jO Eh λc xs e=>H_ _ _ e (aR e Jp nofun) (aR e IV nofun)) (.cons #[t,Z,et] .nil)
 rintro σ H5 ⟨v3,v4,v5,rfl,b5,Y5⟩;rw[ly,gG] at Y5;let#[AV,Ew]:=Y5.ex;apply#[_,Z,y,CY,AV,_,_,Z,Ew,T.cl,T.nM,sO,_,_,Z,Z,_,Z,y,CY,AV,_,Z,Ew,T.cl,T.nM,MG,?_];rw[Wm];let#[k6,qw]:=lM H5 y (X:=.ins CY AV (yF p r.1 ((S.moved M).m+1) dp dh ld (S.moved M).b));show Gi _ _ _ (upd H5 y (.ins CY AV (yF p r.1 ((S.moved M).m+1) dp dh ld (S.moved M).b)));generalize upd H5 y _=H6 at k6 qw ⊢;let Ml:=k6 _ _ (b5 _ _ hl (λz=>lfp (z▸LU)) (λz=>lfp (z▸LS))) (λz=>lfp (z▸my));let#[dv,QW,Eh]:=Y5.D;have Y6:du K CY CW H6 y p dp dh ld r.1 hs ts (S.step M) fp:=Y5.re (S':=S.step M) (λc o e n1 _ _ _=>k6 _ _ e n1) Z #[AV,qw] (λo e=>k6 _ _ e sM.symm) (k6 _ _ Y5.Hd qe.symm) #[dv,k6 _ _ QW iG.symm,jO Eh λc xs e=>k6 _ _ e (aR e Ew nofun)];have Cf:iz y dh ld T1 T2 H H6:=λb o e n1 n2 n3 n4 n5=>k6 _ _ (b5 _ _ (zy _ _ e n4 n5) n2 n3) n1;apply#[_,Z,k l ys H6 Cf ?_ V4 Ml (jO tu λc xs e=>k6 _ _ (b5 _ _ e (aR e Y4.Hd nofun) ?_) (aR e Y4.ex.choose_spec nofun)) PR Y6]
 ·have kk:∀{c:Addr} {o:HO},H4 c\o->(∀fs,o≠.ins CY dx fs)->(∀kvs,o≠.dK kvs)->(∀xs,o≠.lst xs)->H6 c\o:=λ{c o} e n1 n2 n3=>k6 _ _ (b5 _ _ e (λz=>n2 _ (by rw[z,Y4.Hd] at e;exact (c7 e).symm)) (λz=>by
   let#[dv,h4,_]:=Y4.D;exact n3 _ (by rw[z,h4] at e;exact (c7 e).symm))) (λz=>by
   let yy:=zy _ _ hy (nT my).1 (nT my).2;exact n1 _ (by rw[z,yy] at e;exact (c7 e).symm))
  have kT:∀{T qn},cu H4 T qn->cu H6 T qn:=λ⟨es,a1,a2⟩=>#[es,kk a1 (by intro _ z;cases z) (by intro _ z;cases z) (by intro _ z;cases z),λx hx=>kk (a2 x hx) (by intro _ z;cases z) (by intro _ z;cases z) (by intro _ z;cases z)];exact#[kT iH.a,kT iH.b,tb.ne]
 intro z;let#[dv,h4,_]:=Y4.D;rw[z,h4] at e;cases e
end
def K2(r:Rl)(hs:Xa)(ts:Xb)(qs:aJ):Nat->YS->YS->eR->Prop
 |0,S,S',M=>S'=S/\M=[]
 |n+1,S,S',M=>(EY r hs ts qs (dX S.f (dQ r hs ts qs S.f S.m))=true/\∃b,wC hs qs (dX S.f (dQ r hs ts qs S.f S.m)) b/\S'=#[S.ps,dX S.f (dQ r hs ts qs S.f S.m),S.m+(n+1),b,S.ds++(dQ r hs ts qs S.f S.m).map (wR S.m)]/\M=dQ r hs ts qs S.f S.m) ∨
  (EY r hs ts qs (dX S.f (dQ r hs ts qs S.f S.m))=false/\∃M2,M=dQ r hs ts qs S.f S.m++M2/\K2 r hs ts qs n (S.step (dQ r hs ts qs S.f S.m)) S' M2)
def iz.trans{y dh ld T1 T2:Addr}{H H1 H2:Hp}(a:iz y dh ld T1 T2 H H1)(b:iz y dh ld T1 T2 H1 H2):iz y dh ld T1 T2 H H2:=λc o e n1 n2 n3 n4 n5=>b c o (a c o e n1 n2 n3 n4 n5) n1 n2 n3 n4 n5
def iz.of{y dh ld T1 T2:Addr}{H H1:Hp}(s:aa H H1):iz y dh ld T1 T2 H H1:=λc o e _ _ _ _ _=>s c o e
def iz.bt{y dh ld T1 T2:Addr}{H H1:Hp}(s:BT T1 T2 H H1):iz y dh ld T1 T2 H H1:=λc o e _ _ _ n4 n5=>s c o e n4 n5
def fN.step{r:Rl}{hs:Xa}{ts:Xb}{S:YS}{qs:aJ}(O:fN hs ts S)(Qq:Qs S.ps qs){m':Nat}{b':Int}{ds':List ax}:fN hs ts #[S.ps,dX S.f (dQ r hs ts qs S.f S.m),m',b',ds']:=
 #[O.Gd,O.gp,O.nd,O.jA,λn hn=>X_ (λx hx=>(iY hs).mem_iff.mp (Qv (O.wd Qq) r S.m x hx).2) (O.at_ n hn)]
section v
def tR(MD:Addr):Sp:=λvs H Q E=>∃i:Int,vs=[.int i]/\((0<=i/\Q (.int i) H)∨(i<0/\E (.ref MD) none H))
def l9_{f0 MD:Addr}{fd:Ae}(F:bc K "checked_moments" "checked_moments" Ud f0 fd)(R:Ref K mg "NoMoment" MD)(cI:!bH 2 "is_whole_from" ["thing","least"] ZS):!ak (d8 P w) 3 f0 fd f_ (tR MD):=by
 apply F.BY eW' λaC A outer s H vs Q E hr h ro hp rm=>?_;let#[i,rfl,h]:=h;apply#[_,ao (bQ (fP (fo (bp cI hr %[0,aH|0]))) (aK (DN Z rm R.mg R.ex DE (by rfl) %[bL|0])) bR) (aK (bw (pv 0))),?_];apply#[_,Z,i,0,Z,_,Z,?_];rcases h with⟨i0,k⟩|⟨i0,k⟩
 ·rw[cj i0];exact a_ #[_,Z,k]
 rw[d7 (show ¬0<=i by omega)];exact cz #[zl,k]
def J6:bA ["self","moments","end","goods","moves","placed"] ["self","moments"] (aM mL):=bI
inductive mr(K:af)(CY CW T1 T2 MD:Addr):Sp|k:∀(y p dp dh ld:Addr)(i:Int)(hs:Xa)(ts:Xb)(S:YS)(fp:ai),∀r∈rl,vs=[.ref y,.int i]->du K CY CW H y p dp dh ld r.1 hs ts S fp->fN hs ts S->Tb H T1 T2->((i<0/\E (.ref MD) none H)∨∃n:Nat,i=n/\S.ds.length+30 * n<=1000000/\∀l ys S' M qs H',iz y dh ld T1 T2 H H'->Tb H' T1 T2->H l=none->H' l\.lst ys->bj K H' ys (M.map kM)->du K CY CW H' y p dp dh ld r.1 hs ts S' fp->fN hs ts S'->S'.ps=S.ps->S'.ds.length<=S.ds.length+30 * n->Qs S.ps qs->K2 r hs ts qs n S S' M->Q (.ref l) H')->mr K CY CW T1 T2 MD vs H Q E
def ku_{f0 CY CG CW T1 T2 MD:Addr}{fd:Ae}(F:bc K "tick" "Yard.tick" mL f0 fd)(T:fW K CY)(cMo:!rp 3 "checked_moments" f_ (tR MD))(cG:!aZ CY 9 "goods" dG (Ka K CY CG CW))(cMa:!aZ CY 9 "moves_made" ["self","goods"] (mF K CY CG CW T1 T2))(cS:!aZ CY 1 "stand" dG (DS K CY CW))(cRe:!bH 9 "rests_at" ["goods","placed","rule"] (SD K CG CW T1 T2))(cRi:!bH 5 "rise_at" lV (mB K CG CW)):!ak (d8 P w) 10 f0 fd ["self","moments"] (mr K CY CW T1 T2 MD):=by
 apply F.BY J6 λaC A outer s H vs Q E hr h ro hp rm=>?_;let#[y,p,dp,dh,ld,i,hs,ts,S,fp,r,eA,rfl,Y,O,tb,k]:=h;let sz:=cX;have fH:aI 1 _:=hr.mono (by decide);have Cp:aI 3 _:=hr.mono (by decide);refine' #[_,ao ?s1 ?r1,?kk]
 case' r1=>refine' ao ?s2 ?r2
 case' r2=>refine' ao ?s3 ?r3
 case' r3=>refine' ao ?s4 (aK (bw (pv 4)))
 case s1=>exact bC 2 J6.nd (bV jM (bP (pv 0) Z) (Wr cMo Cp hp %[1|0]))
 case s2=>exact bC 3 J6.nd (j2 cG T.cl hr (pv 0))
 case s3=>exact bC 4 J6.nd (dI aX)
 case' s4=>refine' Yv ro (dm Wi (bP (pv 0) Z) (pv 2)) (ao ?b1 (ao ?b2 (aK ?b3)))
 case b1=>exact iX (jL jI DC DD DP (pv 4) %[eU cMa T.cl hr (pv 0) %[3|0]|0])
 case b2=>exact bC 5 J6.nd (j2 cS T.cl fH (pv 0))
 case b3=>exact bQ (fo (bp cRe hr %[3,5,bP (pv 0) Z|0])) (ao (iS (pv 0) (bp cRi hr %[3,5|0]) Z) (aK (iS (pv 0) (pv 2) Z))) bR
 let#[dx,hy]:=Y.ex;let#[my,Wg,LU,LS]:=Y.m;let#[sM,qe,iG,iK,ib]:=Y.ne
 have nfp:∀{c:Addr},H c=none->c∉fp:=λn hm=>by
  let#[o,e,_]:=Y.has _ hm;rw[n] at e;cases e
 apply#[_,Z,y,CY,dx,_,_,Z,hy,T.cl,T.nM,sO,_,Z,i,Z,?_];rcases k with⟨i0,k⟩|⟨n,rfl,d6,k⟩
 ·exact .inr #[i0,k]
 apply .inl #[by omega,_,_,Z,Z,?_];lk;apply#[_,Z,y,dx,_,Z,hy,oj Z0,y,p,dp,dh,ld,r.1,hs,ts,S,fp,Z,Y,O,λg qs eJ H1 s1 ng G Qq has nf=>?_];lk;apply#[zl,λlm Pz=>?_];let#[s2,yW]:=bS (X:=.lst []) Pz;show gZ _ _ _ (upd H1 lm (.lst [])) _;generalize upd H1 lm _=H2 at s2 yW ⊢;lk;let cq:=s1.trans s2;let B3:=s1.free Pz;let vm:=nfp B3
 have Wl:∀c∈eJ,c≠lm:=λc hc=>by
  let#[o,e,_]:=has c hc;exact bB e Pz
 have sS:Tb H2 T1 T2:=#[tb.a.same cq,tb.b.same cq,tb.ne];let G2:=G.same s2;have Ri:∀c∈eJ,∃o,H2 c\o/\∀vs,o≠.tbl vs:=λc hc=>let #[o,e,q]:=has c hc;#[o,s2 _ _ e,q]
 have Gk:∀{Ga Gb:Hp},iz y dh ld T1 T2 Ga Gb->Tb Ga T1 T2->(∀c xs,Ga c\.tup xs->Gb c\.tup xs)->fO K CG CW Ga g p hs ts qs eJ/\(∀c∈eJ,∃o,Ga c\o/\∀vs,o≠.tbl vs)->fO K CG CW Gb g p hs ts qs eJ/\(∀c∈eJ,∃o,Gb c\o/\∀vs,o≠.tbl vs):=λ{Ga Gb} kp Vy kt ⟨ga,ha⟩=>by
  let#[zL,rP]:=gz Vy.a;let#[xD,rN]:=gz Vy.b
  have kc:∀c∈eJ,∀o,Ga c\o->Gb c\o:=λc hc o e=>by
   let#[o',e',q]:=ha c hc;rw[e] at e';cases e';let#[_,n1,n2,n3,n4]:=nf c hc;exact kp c o e n1 n3 n4 (λz=>q zL (by rw[z,rP] at e;exact (c7 e).symm)) (λz=>q xD (by rw[z,rN] at e;exact (c7 e).symm))
  exact#[ga.keep kc kt,λc hc=>let #[o,e,q]:=ha c hc;#[o,kc c hc o e,q]]
 apply#[λm σ H'=>∃(S1:YS) (M1:eR) (ys:ag) (v5:aQ),σ=[some (.ref y),some (.int (n:Int)),some (.int ((S.m:Int)+(n:Int))),some (.ref g),some (.ref lm),v5]/\S1.m+m=S.m+n/\m<=n/\iz y dh ld T1 T2 H H'/\Tb H' T1 T2/\H' lm\.lst ys/\bj K H' ys (M1.map kM)/\du K CY CW H' y p dp dh ld r.1 hs ts S1 fp/\fN hs ts S1/\S1.ps=S.ps/\S1.ds.length<=S.ds.length+30 * (n - m)/\M1.length<=30 * (n - m)/\(fO K CG CW H' g p hs ts qs eJ/\∀c∈eJ,∃o,H' c\o/\∀vs,o≠.tbl vs)/\∀S' M,K2 r hs ts qs m S1 S' M->K2 r hs ts qs n S S' (M1++M),#[n,S,[],[],none,Z,Z,bD _,iz.of cq,sS,yW,.nil,Y.same cq,O,Z,by omega,by simp,#[G2,Ri],λS' M h=>h],?_];rintro m σ H3 ⟨S1,M1,ys,v5,rfl,em,mn,Qf,lN,w6,wL,Y3,O3,LA,ld3,lm3,G3,Oo⟩;let#[E9,yz]:=Y3.ex;apply#[_,Z,y,CY,E9,_,_,Z,yz,T.cl,T.nM,sO,_,Z,_,_,Z,Z,_,Z,?_];apply br (λc=>?_) (λc=>?_);rotate_left 1
 ·have c:¬(S1.m:Int)<(S.m:Int)+(n:Int):=⇑c
  obtain rfl:m=0:=by omega
  exact#[_,Z,k lm ys S1 (M1++[]) qs H3 Qf lN B3 w6 (by rw[wa];exact wL) Y3 O3 LA Z1 Qq (Oo S1 [] #[Z,Z])]
 have c:(S1.m:Int)<(S.m:Int)+(n:Int):=⇑c
 obtain⟨m,rfl⟩:∃m',m=m'+1:=#[m - 1,by omega];apply#[_,λbh H' h=>h,?_];have FM:Qs S1.ps qs:=by rw[LA];exact Qq
 apply#[_,Z,.inl #[Z,_,.of w6],_,Z,y,E9,_,Z,yz,oj Z0,_,Z,y,p,dp,dh,ld,g,hs,ts,S1,qs,fp,eJ,r,eA,Z,Y3,O3,G3.1,FM,G3.2,lN,by omega,λl2 FT H4 k4 iH yr Zt oN PR Y4=>?_]
 have Wn:lm≠T1/\lm≠T2:=by
  let#[zL,rP]:=gz lN.a;let#[xD,rN]:=gz lN.b;exact#[aR w6 rP nofun,aR w6 rN nofun]
 have LV:lm≠y/\lm≠dp/\lm≠dh/\lm≠ld:=#[λz=>vm (z▸my),λz=>vm (z▸Wg),λz=>vm (z▸LU),λz=>vm (z▸LS)];let vS:=k4 _ _ w6 LV.1 LV.2.2.1 LV.2.2.2 Wn.1 Wn.2;let ly:=bG wL;let ly2:=bG oN;rw[aq] at ly ly2
 have Qd:∀c xs,H3 c\.tup xs->H4 c\.tup xs:=λc xs e=>by
  let#[zL,rP]:=gz lN.a;let#[xD,rN]:=gz lN.b;let#[dv,QX,_]:=Y3.D;exact k4 _ _ e (aR e yz nofun) (aR e Y3.Hd nofun) (aR e QX nofun) (aR e rP nofun) (aR e rN nofun)
 let jU:=O3.step (r:=r) FM (m':=S1.m+1) (b':=S1.b) (ds':=S1.ds++(dQ r hs ts qs S1.f S1.m).map (wR S1.m));apply#[lm,l2,ys,FT,Z,Z,vS,Zt,by omega,?_];let#[b5,Zs]:=lM H4 lm (X:=.lst (ys++FT));generalize upd H4 lm _=H5 at b5 Zs ⊢;have pH:∀c xs,H4 c\.tup xs->H5 c\.tup xs:=λc xs e=>b5 _ _ e (aR e vS nofun);let Y5:=Y4.keep (λc hc o e=>b5 c o e (λz=>vm (z▸hc))) pH
 have tu5:bj K H5 (ys++FT) ((M1++dQ r hs ts qs S1.f S1.m).map kM):=by
  rw[cZ];exact iU (jO (jO wL Qd) pH) (jO oN pH)
 have jS:Tb H5 T1 T2:=by
  have kT:∀{T qn},cu H4 T qn->cu H5 T qn:=λ⟨es,a1,a2⟩=>#[es,b5 _ _ a1 (aR a1 vS nofun),λx hx=>b5 _ _ (a2 x hx) (aR (a2 x hx) vS nofun)];exact#[kT iH.a,kT iH.b,iH.ne]
 let G4:=Gk k4 lN Qd G3;have G5:fO K CG CW H5 g p hs ts qs eJ/\∀c∈eJ,∃o,H5 c\o/\∀vs,o≠.tbl vs:=#[G4.1.keep (λc hc o e=>b5 c o e (Wl c hc)) pH,λc hc=>let #[o,e,q]:=G4.2 c hc;#[o,b5 c o e (Wl c hc),q]];have kp5:iz y dh ld T1 T2 H H5:=λc o e n1 n2 n3 n4 n5=>b5 _ _ (k4 _ _ (Qf _ _ e n1 n2 n3 n4 n5) n1 n2 n3 n4 n5) (bB e B3);clear Zt Y4 iH G4 vS G3 wL oN pH Qd Y3 k4 b5 w6 Qf yr;let#[AV,Ew]:=Y5.ex;apply#[_,Z,y,AV,_,Z,Ew,oj Z0,y,p,dp,dh,ld,r.1,hs,ts,_,fp,Z,Y5,jU,λd H6 s6 nd ed=>?_];lk;let qw:=s6 _ _ Ew;have Pl:∀{G:Hp},aa H6 G->sj K CG CW G g p d hs ts qs eJ (dX S1.f (dQ r hs ts qs S1.f S1.m)):=λ{G} s=>Tq (S:=S1.step (dQ r hs ts qs S1.f S1.m)) jU (s6.trans s) G5.1 FM G5.2 nd (s _ _ ed);let W1:=jU.wd (qs:=qs) FM;have Gc:Tb H6 T1 T2:=#[jS.a.same s6,jS.b.same s6,jS.ne];apply#[_,Z,_,Z,_,Z,y,CY,AV,_,_,Z,qw,T.cl,T.nR,FZ,g,p,d,hs,ts,qs,eJ,_,r,eA,Z,#[Pl (aa.refl _),W1,Gc,λc hc=>let #[o,e,_]:=G5.2 c hc;#[o,s6 _ _ e]],λH7 b7 qh=>#[_,Z,?_]];let yn:=b7.nt Gc;have HR:∀c xs,H5 c\.tup xs->H7 c\.tup xs:=λc xs e=>yn.tup (s6 _ _ e);let Zr:=yn.lst (s6 _ _ Zs);let K_:=jO tu5 HR;let Y7:=(Y5.same s6).nt yn;let WG:=kp5.trans ((iz.of s6).trans (iz.bt b7));let G7:=Gk ((iz.of s6).trans (iz.bt b7)) jS HR G5;apply br (λcr=>?_) (λcr=>?_);rotate_left 1
 ·have cr:EY r hs ts qs (dX S1.f (dQ r hs ts qs S1.f S1.m))=false:=⇑cr
  apply#[m,by omega,S1.step (dQ r hs ts qs S1.f S1.m),M1++dQ r hs ts qs S1.f S1.m,_,_,Z,by show S1.m+1+m=_;omega,by omega,WG,qh,Zr,K_,Y7,jU,LA,?_,?_,G7,λS' M h=>?_]
  ·show (S1.ds++(dQ r hs ts qs S1.f S1.m).map (wR S1.m)).length<=_;rw[dE,aq];omega
  ·rw[dE];omega
  rw[List.append_assoc];exact Oo S' _ (.inr #[cr,M,Z,h])
 let#[E8,Ma]:=Y7.ex;let ed7:=yn.dK ed
 have Pl7:sj K CG CW H7 g p d hs ts qs eJ (dX S1.f (dQ r hs ts qs S1.f S1.m)):=by
  apply#[G7.1,jU.Gd,λhm=>?_,by rw[FM.vh];exact ed7,W1.at_,W1.nd,W1.dC];let#[o,e,_]:=G5.2 d hm;rw[nd] at e;cases e
 apply#[_,Z,_,Z,g,p,d,hs,ts,qs,eJ,_,Z,Pl7,W1.wq,λb H8 s8 ir=>?_];let hy8:=s8 _ _ Ma;apply#[_,Z,y,CY,E8,_,Z,hy8,T.cl,T.nB,MG,?_];rw[WB];let#[k9,Xq]:=lM H8 y (X:=.ins CY E8 (yF p r.1 (S1.step (dQ r hs ts qs S1.f S1.m)).m dp dh ld b));generalize upd H8 y _=H9 at k9 Xq ⊢;apply#[_,Z,_,Z,y,CY,E8,_,Z,Xq,T.cl,T.nM,MG,?_];rw[Wm];let#[WI,Ik]:=lM H9 y (X:=.ins CY E8 (yF p r.1 ((S.m:Int)+(n:Int)) dp dh ld b));generalize upd H9 y _=jk at WI Ik ⊢;have ic:∀c o,H7 c\o->c≠y->jk c\o:=λc o e n=>WI _ _ (k9 _ _ (s8 _ _ e) n) n;have Cc:∀c xs,H7 c\.tup xs->jk c\.tup xs:=λc xs e=>ic _ _ e (aR e Ma nofun);let#[dv,QV,Eh]:=Y7.D
 have K1:du K CY CW jk y p dp dh ld r.1 hs ts #[S1.ps,dX S1.f (dQ r hs ts qs S1.f S1.m),S1.m+(m+1),b,S1.ds++(dQ r hs ts qs S1.f S1.m).map (wR S1.m)] fp:=by
  apply Y7.re (λc o e n1 _ _ _=>ic _ _ e n1) Z #[E8,?_] (λo e=>ic _ _ e sM.symm) (ic _ _ Y7.Hd qe.symm) #[dv,ic _ _ QV iG.symm,jO Eh Cc];rw[Ik];show _\HO.ins CY E8 (yF p r.1 ((S1.m+(m+1):Nat):Int) dp dh ld b);rw[em];rfl
 have sT:Tb jk T1 T2:=by
  have kT:∀{T qn},cu H7 T qn->cu jk T qn:=λ⟨es,a1,a2⟩=>#[es,ic _ _ a1 (aR a1 Ma nofun),λx hx=>ic _ _ (a2 x hx) (aR (a2 x hx) Ma nofun)];exact#[kT qh.a,kT qh.b,qh.ne]
 have Qg:iz y dh ld T1 T2 H jk:=λc o e n1 n2 n3 n4 n5=>ic _ _ (WG _ _ e n1 n2 n3 n4 n5) n1;apply#[0,by omega,_,M1++dQ r hs ts qs S1.f S1.m,_,_,Z,by show S1.m+(m+1)+0=_;omega,by omega,Qg,sT,ic _ _ Zr LV.1,jO K_ Cc,K1,O3.step (r:=r) FM,LA,?_,?_,#[G7.1.keep (λc hc o e=>ic c o e (nf c hc).2.1) Cc,λc hc=>let #[o,e,q]:=G7.2 c hc;#[o,ic c o e (nf c hc).2.1,q]],λS' M h=>?_]
 ·show (S1.ds++(dQ r hs ts qs S1.f S1.m).map (wR S1.m)).length<=_;rw[dE,aq];omega
 ·rw[dE];omega
 let#[rfl,rfl]:=h;rw[wa];exact Oo _ _ (.inl #[cr,b,ir,Z,Z])
end
end Ev
namespace L2
open PySem PySem.Spec PyProof.Rows
section
variable{X:Cx}
end
open PySem.Builtin PySem.Builtin.Str
section
variable{X:Cx}
def RS{i:Nat}{x:Str}{e:Expr}{te:XS->TE}{pos pos':Pos}(hN:X.N.Nodup)(hi:X.N[i]? = some x)(hx:Loc X.env.scope x)(he:UT X e te)(hs:swapsWith e (some (.Name x pos')) pos.line X.env=pure false:=by rfl)(hf:X.fn x=true∨X.env.scope.names.lookup x\.local:=by first|exact .inl Z|exact .inr Z|assumption):
  US X (.Assign [.Name x pos'] e pos) (λES=>xI (te ES) (gZ i)):=by
 intro ES π s σ H D I h;apply wpAny_Assign_Name (aU (he ES π s σ H _ I h) λv s1 ⟨y,H1,I1,r1,q1⟩=>?_) hs;exact NF I1 hN hi hx r1 (λs2 I2=>#[_,H1,I2,q1]) hf
end
end L2
namespace L2
open PySem PySem.Spec PySem.Calls PyProof.Rows PySem.W
section
variable{X:Cx}{i:Nat}{x n:Str}{D C:Addr}{ok:Addr->Prop}{np qC pos:Pos}{kW:Stmt}{gB body:List Stmt}{tb:XS->TS}{ts:TS}{rest:List ExceptHandler}
def g9_{π:List (Addr × Obj)}{σ:St}{H:Hp}{s s':Ab}{e:Aa}{R:Ends}(hN:X.N.Nodup)(hi:X.N[i]? = some n)(hl:X.env.scope.names.lookup n\.local)(gT:X.stack=X.env::X.outer)(i7:X.env.frame\X.env.locals)
 (hg:Gl X x)(hm:X.mg x\.ref D)(hx:PySem.W.exmOne X.K (.ref C) (.ref D)\true)(hs:∀a,iy (X.rF a).pB (kW::gB) ts)(I:!In H s)
 (hc:Bd X.prog X.w X.stack H s (λcls dd H'=>cls=.ref C/\∀a:Addr,H' a=none->ts (R.gone i) (σ.set i (some (.ref a))) (upd H' a (AS a C dd))) e s')(hd:(x == ("__debug__":Str))=false:=by decide):
  wpAny (model X.prog X.w) X.A (noteFrame e X.env) (λ_ fR=>wpAny (model X.prog X.w) X.A (setFlight e none) (λ_ xJ=>
   wpAny (model X.prog X.w) X.A (handleBy e X.env (.ExceptHandler (some (.Name x np)) (some n) (kW::gB) qC::rest)) (SP X π R) X.xe xJ) X.xe fR) X.xe s':=by
 let#[a,cls,H',B,a0,dd,rfl,os,bare,un,ay,fl,i',rfl,hE]:=hc;let fr:=NH I un;let ff:=fl.2.2.1;apply _N (base:=B) (by rw[I.ok.frames,gT]) i7 (by rw[<- gT];exact fl) λIj C4 Od=>?_;rw[<- gT] at C4;let Og:=Kj un ff i' C4.1 Od;let Cq:=KW ay fr i' C4.1;let Qn:=Km ay un i' C4.1;have I5:!In H' { s' with heap:=Ij }:=I.jb (s':={ s' with heap:=Ij }) os Og Cq bare (λb z=>absurd z Z2);let J5:=I5.rF a;let#[oe,vs5,Ms,hce,_]:=C4.obj;apply wpAny_handleBy_cons (codeAny_handlers_test (JW (X:=X.rF a) J5 hg hm ?_ hd)) (by intro q;cases q);apply (PySem.W.exm_one (K:=X.K) J5.fG (by subst_eqs;exact hce▸(PySem.W.Looks.ld Ms).andThen .now) hx).at ?_;apply codeAny_handlers_suite_as ?_;apply eI_ (base:=B) (by exact C4) λnU ER up6=>?_;let ff5:=C4.2.2.1;let zK:=Kj Og ff5 Qn ER.1 up6;let IC:=KW Cq fr Qn ER.1;let Xf:=Km Cq Og Qn ER.1;have I6:!In H' { s' with heap:=nU }:=I.jb (s':={ s' with heap:=nU }) os zK IC bare (λb z=>absurd z Z2);let#[ox,vs,Mb,Js,yM,Rf]:=ER.obj
 have V6:a∉eB X.stack:=λhm=>by
  let#[_,o,ho,d]:=ER.2.2.1.mem hm;have ho:nU.get? a\o:=ho;rw[Mb] at ho;cases ho;exact d _ yM
 have nB:B.get? a=none:=ER.2.1
 have nH:H' a=none:=by
  cases q:H' a with
  |none=>rfl
  |some u=>
   let z:=Xf a ox Mb V6 (.inl (by rw[q];rfl));rw[nB] at z;cases z
 have nS:s.heap.get? a=none:=by
  cases q:s.heap.get? a with
  |none=>rfl
  |some u=>
   let z:=Xf a ox Mb V6 (.inr #[u,q]);rw[nB] at z;cases z
 have Hi:∀c,H' c≠none->c≠a:=λc z q=>z (q▸nH)
 have un7:Un (eB X.stack) [] H (upd H' a (AS a C dd)) s.heap nU:=
  #[zK.keep,zK.slot,λb o q m z=>by
   rw[aD (λy=>by rw[y,nS] at q;cases q)];exact zK.free b o q m z,zK.there,λb xs q=>by
   have:=zK.d9 b xs q;rw[aD (Hi b (by rw[this];simp))];exact this,λb o u q=>by
   have:=zK.e_ b o u q;rw[aD (Hi b (by rw[this];simp))];exact this,λb p q=>by
   let#[more,this]:=zK.fQ b p q;exact#[more,by rw[aD (Hi b (by rw[this];simp))];exact this]]
 have QI:dP X.prog X.w (upd H' a (AS a C dd)) nU:=λb u q=>by
  by_cases hb:b=a
  ·subst hb;rw[aE] at q;cases q;exact lP_ Mb Js Rf yM
  rw[aD hb] at q;exact (IC b u q).dJ (λ_ _ _ z=>z) (λc z=>by rw[aD (Hi c (by rw[z];simp))];exact z) λc xs z=>by rw[aD (Hi c (by rw[z];simp))];exact z
 have I7:!In (upd H' a (AS a C dd)) { s' with heap:=nU }:=I.jb (s':={ s' with heap:=nU }) os un7 QI bare (λb z=>absurd z Z2);apply NF (X:=X.rF a) (v:=.ref a) (I7.rF a) hN hi (.inl hl) Z (λs8 I8=>?_) (.inr hl);apply gD (hs a π s8 _ _ _ (I8.eM _) (hE a nH)) (λf s9 q=>?_) λ_ _ z=>False.elim z;let q:=q.bM;show wpAny _ _ _ _ _ _;cases f with
 |next=>
  let#[bh,H9,I9,q]:=q;exact Ni (X:=X) (I9.yj I.ok) hN hi hl λiJ zG=>#[_,_,zG,q]
 |brk=>
  let#[bh,H9,I9,q]:=q;exact Ni (X:=X) (I9.yj I.ok) hN hi hl λiJ zG=>#[_,_,zG,q]
 |cont=>
  let#[bh,H9,I9,q]:=q;exact Ni (X:=X) (I9.yj I.ok) hN hi hl λiJ zG=>#[_,_,zG,q]
 |ret u=>
  let#[v,bh,H9,I9,r,q]:=q;exact Ni (X:=X) (I9.yj I.ok) hN hi hl λiJ zG=>#[v,_,_,zG,r,q]
inductive zN(i:Nat)(ok:Addr->Prop)(tb:XS->TS)(ts:TS)(R:Ends)(σ:St)(H:Hp):Prop
 |mk:∀ES:XS,(∀bh cls H',ES bh cls H'->∃C,ok C/\cls=.ref C/\∀(dd:Option Addr) (a:Addr),H' a=none->ts (R.gone i) (bh.set i (some (.ref a))) (upd H' a (AS a C dd)))->tb ES R σ H->zN i ok tb ts R σ H
def k1_(hN:X.N.Nodup)(hi:X.N[i]? = some n)(hl:X.env.scope.names.lookup n\.local)(gT:X.stack=X.env::X.outer)(i7:X.env.frame\X.env.locals)
 (hg:Gl X x)(hm:X.mg x\.ref D)(hx:∀C,ok C->PySem.W.exmOne X.K (.ref C) (.ref D)\true)(hb:zF X body tb)(hs:∀a,iy (X.rF a).pB (kW::gB) ts)(hd:(x == ("__debug__":Str))=false:=by decide):
  PS X (.Try body [.ExceptHandler (some (.Name x np)) (some n) (kW::gB) qC] [] [] pos) (zN i ok tb ts):=by
 intro π s σ H R I ⟨ES,h1,h⟩;apply wpAny_Try_except (gD (hb ES π s σ H R I h) (λf s1 q=>?_) λe s1 ⟨bh,H',s0,I0,hc⟩=>?_)
 ·cases f with
  |next=>exact wpAny_execs_nil q
  |ret v=>exact q
  |brk=>exact q
  |cont=>exact q
 let#[a,cls,H2,B,a0,e1,os,bare,un,ay,#[fl,_],i',hE]:=hc;let#[C,okC,ec,hE]:=h1 _ _ _ hE;let#[f1,f2,f3,oe,Ef,T,oT,ts',g1,g2,g3,g4,g5,g6,g7,g8,g9]:=fl;exact g9_ hN hi hl gT i7 hg hm (hx C okC) hs I0 #[a,cls,H2,B,a0,oe.dict,e1,os,bare,un,ay,#[f1,f2,f3,oe,Ef,T,oT,ts',g1,g2,g3,g4,g5,g6,g7,g8,g9,Z],i',ec,λa n=>hE _ a n] hd
def Ro{X:Cx}{C:Addr}{k:Nat}{m:Str}{ps:ae}{sp:Sp}{pos apos:Pos}{o e:Expr}{es:List Expr}{ta:TE}{t:TA}{pl:Sem Bool}(c:lK X.prog X.w X.K X.mg X.base C k m ps sp)(cl:j6 X.K C)(hr:aI k X.A)(he:PE X.pB o ta)(ha:PA X.pB (e::es) t)
 (gT:starEach (e::es) X.env=(false,eval e X.env)::starEach es X.env:=by rfl)(fX:(backTo pos (starEach es X.env)).any (·.1)=false:=by rfl)
 (ht:eval (.Call (.Attribute o m apos) (e::es) [] pos) X.env=(do
   let ov <- eval o X.env
   standAt apos.atName
   let (f,first) <- holding [ov] (getMethod ov m pl)
   callWith pos f first (backTo pos (starEach (e::es) X.env)) (backToKw pos (keywordEach [] X.env))):=by rfl):
  UT X (.Call (.Attribute o m apos) (e::es) [] pos) (tm C m sp [] ta t):=by
 let#[f,fd,F,hm,b]:=c.ex;exact jj_ he cl hm F hr b .nil ha gT fX ht
end
end L2
namespace Ev
open PySem L2
section v
def Sl:bA [iE,"_law_names_here","_law_hands","_law_ties","_law_weight","_law_name"] wu (aM nA):=bI
inductive R8(K:af):Sp|k:∀(l ln lh lt:Addr)(ns:ae)(ys zs:ag)(hs:Xa)(ts:Xb),vs=[.ref l,.ref ln,.ref lh,.ref lt]->dA H l->H ln\.lst (ns.map V.str)->ln≠l->0<ns.length->ns.length<=1000->H lh\.lst ys->lh≠l->bj K H ys (hs.map kH)->0<hs.length->hs.length<=1000->H lt\.lst zs->lt≠l->bj K H zs (ts.map kT)->ts.length<64->(∀t∈ts,AX t)->(ts.map kO).Nodup->(∀(t:Addr)(v:V)(q:Pc)(h:Str)(H':Hp),bf l H H'->dA H' l->q.1∈ns->1<=q.2.1->q.2.1<=1000000000->h∈hs.map (·.1)->bO K H' v q.2.2->(∀a,v=.ref a->H a=none)->(∀ws,q.2.2\ws->qV ts ws)->H t=none->H' t\.tup [.str "come",.str q.1,.int q.2.1,.str h,v]->Q (.ref t) H')->R8 K vs H Q E
def jx_{f:Addr}{fd:Ae}(F:bc K "_law_come" "_law_come" nA f fd)(B:Bi mg)(cD:!bH 1 zp A0 DZ)(cW:!bH 2 "_law_ways" [iE,"_law_ties"] (ml K)):!ak bg 3 f fd wu (R8 K):=by
 exists F.bN Sl;let#[l,ln,lh,lt,ns,ys,zs,hs,ts,rfl,st,hn,wV,n0,n3,hh,HM,th,h0,h3,ht,wU,tt,tH,good,nd,k]:=h;let sz:=cX;refine' #[_,ao ?s1 (ao ?s2 (aK ?s3)),?kk]
 case s1=>exact bC 4 Sl.nd (bV jM aH (bp cD hr %[0,bE iF (dI %[aH,aH,bV W8 aH aH|0]) (bp cD hr %[0,aH|0])|0]))
 case s2=>exact bC 5 Sl.nd (bE iF (pv 1) (bp cD hr %[0,cO l0 (by rfl) B.len jH %[1|0]|0]))
 case' s3=>refine' bw (dS %[?a1,?a2,?a3,?a4,?a5|0])
 case a1=>exact bL
 case a2=>exact pv 5
 case a3=>exact pv 4
 case a4=>exact bE cg (bE iF (pv 2) (bp cD hr %[0,cO l0 (by rfl) B.len jH %[2|0]|0])) aH
 case a5=>exact bp cW hr %[0,3|0]
 let#[U7,CB]:=st.some;let PU:=bG th;rw[aq] at PU;apply#[_,Z,_,_,Z,Z,#[by decide,by decide,by decide],zl,λp hp=>?_];let s1:=aa.new (o:=.lst [.int 3,.int 100,.int ((10:Int) ^ (9:Int).toNat)]) hp;have pl:p≠l:=st.ne hp;apply#[_,Z,l,3,Z,by decide,by decide,st.same s1,λr1 H2 q0 q1 b2 d_=>?_];let#[y,hy,bb,eb,e1,e2]:=Jd (p:=λy:V=>∃n:Int,y=.int n/\0<n/\n<=1000000000) (a:=V.int 3) (b:=.int 100) (c:=.int ((10:Int) ^ (9:Int).toNat)) q0 q1 #[3,Z,by decide,by decide] #[100,Z,by decide,by decide] #[_,Z,by decide,by decide];subst eb;apply#[p,_,_,_,Z,Z,.of (b2 _ _ aE pl),hy,l,bb,Z,e1,by omega,d_,λr2 H3 q2 q3 b3 j_=>#[_,_,Z,Z,?_]];have UL:bf l H H3:=(bf.of s1).trans (b2.trans b3);lk;let hn3:=UL _ _ hn wV;apply#[_,Z,_,Z,_,Z,ln,_,Z,.inl (.of hn3),l,((ns.map V.str).length:Int),Z,by rw[aq];omega,by rw[aq];omega,j_,λj H4 j0 j1 b4 js=>?_];let#[j,rfl]:=xw j0;rw[aq] at j1;have hj:j<ns.length:=by omega
 let zy:=UL.trans b4;apply#[ln,_,_,.str (ns[j]'hj),Z,Z,.of (zy _ _ hn wV),L2.fU (by rw[d0,cE hj];rfl),?_];lk;let Mp:=zy _ _ hh HM;apply#[_,Z,_,Z,_,Z,_,Z,_,Z,lh,_,Z,.inl (.of Mp),l,(ys.length:Int),Z,by omega,by omega,js,λi H5 i0 i1 b5 jT=>?_];let#[i,rfl]:=xw i0;let FG:=zy.trans b5;have hi:i<ys.length:=by omega
 have Xo:ys[i]? = some (ys[i]'hi):=cE hi;let#[hd,hhd,a,ea,ha]:=oA th Xo;have al:a≠l:=aR ha CB nofun;let Rm:=XC (FG _ _ ha al);apply#[lh,_,_,.ref a,Z,Z,.of (FG _ _ hh HM),L2.fU (by rw[Xo,ea]),a,_,_,.str hd.1,Z,Z,.of Rm,Z,?_];let Mf:=FG _ _ ht wU;apply#[_,Z,_,Z,l,lt,zs,ts,Z,jT,Mf,me tt FG CB,wU,tH,good,nd,λv o H6 b6 oS wy fresh gw=>#[zl,λt nt=>?_]];let _W:=FG.trans b6;let s7:=aa.new (o:=.tup [.str "come",.str (ns[j]'hj),.int (1+r2),.str hd.1,v]) nt;exact k t v (ns[j]'hj,1+r2,o) hd.1 _ (_W.trans (bf.of s7)) (oS.same s7) (lA hj) (by show 1<=1+r2;omega) (by show 1+r2<=_;omega) (bo.mpr #[hd,dz hhd,Z]) (wy.same s7) (λa e=>FG.free jT (fresh a e)) gw (_W.free oS nt) aE
end
def W_{X:Cx}{K:af}{o e:Expr}{es:List Expr}{to:TE}{t:TA}{name:Str}{apos bF:Pos}{T id:String}{r:V->ag->Hp->VK->Prop}(pa:PlainAttrs T)(slot:Slot T name id)(QB:typeOf (.builtin id)=pure (.type "method_descriptor"))(hm:MtR X id r)(ho:PE X o to)(ha:PA X (e::es) t)
 (hK:X.K=K:=by rfl)(eQ:attributeBase o name X.env (eval o X.env)=eval o X.env:=by rfl)
 (CD:((backTo bF (starEach (e::es) X.env)).all (λx=>!x.1)&&(backToKw bF (keywordEach [] X.env)).all (λx=>x.1.isSome)
   && decide ((e::es).length+([]:List Keyword).length+(if ([]:List Keyword).isEmpty then 0 else 1)<30))=true:=by rfl)
 (ie:(apos.endLine == bF.line)=true:=by rfl)(hs:starEach (e::es) X.env=(false,eval e X.env)::starEach es X.env:=by rfl)(nX:(backTo bF (starEach es X.env)).any (·.1)=false:=by rfl):
  PE X (.Call (.Attribute o name apos) (e::es) [] bF) (VB K T r to t):=by
 subst hK;exact jL pa slot QB hm ho ha eQ CD ie hs nX
def vR(K:af)(C:Addr):Bool:=(PySem.W.clsIn K C).isSome&&PySem.W.findIn K (.ref C) "__getattribute__" == some (some (.builtin "BaseException.__getattribute__"))&&PySem.W.findIn K (.ref C) "__getattr__" == some none&&PySem.W.findIn K (.ref C) "__class__" == some (some (.builtin "object.__class__")) &&
 PySem.W.specialIn K (.builtin "object.__class__") "__get__" == some (some (.builtin "getset_descriptor.__get__"))&&PySem.W.takesIn K (.builtin "object.__class__") == some true&&PySem.W.mroIn K C (.type "object") == some true&&PySem.W.mroIn K C (.type "BaseException") == some true
def lc_{K:af}{C:Addr}(h:vR K C=true):lJ K C:=by
 simp only[vR,pZ,beq_iff_eq] at h;let#[#[#[#[#[#[#[a,b],c],d],e],f],g],i]:=h;exact#[a,b,c,d,e,f,g,i]
def uR(K:af)(CE:Addr)(cs:ai):Bool:=cs.all λC=>vR K C&&PySem.W.exmOne K (.ref C) (.ref CE) == some true&&PySem.W.kitOne K (.ref C) (.type "ValueError") == some true&&cs.all λD=>PySem.W.kitOne K (.ref C) (.ref D) == some (C == D)
structure N2(K:af)(mg:Str->Option Aa)(CE GD HD PD MD:Addr):Prop where
 e:mg "EvenError"\.ref CE
 g:Ref K mg "NoGoods" GD
 h:Ref K mg "NoHand" HD
 p:Ref K mg "NoPiece" PD
 m:Ref K mg "NoMoment" MD
 all:uR K CE [GD,HD,PD,MD]=true
 nd:[GD,HD,PD,MD].Nodup
def N2.at_{K:af}{mg:Str->Option Aa}{CE GD HD PD MD:Addr}(R:N2 K mg CE GD HD PD MD){C:Addr}(hC:C∈[GD,HD,PD,MD]):lJ K C/\PySem.W.exmOne K (.ref C) (.ref CE)\true/\PySem.W.kitOne K (.ref C) (.type "ValueError")\true/\∀D∈[GD,HD,PD,MD],PySem.W.kitOne K (.ref C) (.ref D)\(C == D):=by
 let h:=List.all_eq_true.mp R.all C hC;simp only[pZ,beq_iff_eq] at h;let#[#[#[a,b],c],d]:=h;exact#[lc_ a,b,c,λD hD=>by simpa using List.all_eq_true.mp d D hD]
def Bh:Nat->Str
 |0=>"goods"
 |1=>"hand"
 |2=>"piece"
 |_=>"moment"
def Qz{x z:Str}(h:x≠z):decide (V.str x=V.str z)=false:=d7 λe=>h (V.str.inj e)
section
variable{P:Ad}{w:Af}{K:af}{mg:Str->Option Aa}{base:Heap}{CE GD HD PD MD:Addr}
def four{i:Nat}{Ce:Addr}(nd:[GD,HD,PD,MD].Nodup)(h:[GD,HD,PD,MD][i]? = some Ce):Ce∈[GD,HD,PD,MD]/\i<4/\(Ce == GD)=decide (0=i)/\(Ce == HD)=decide (1=i)/\(Ce == PD)=decide (2=i)/\(Ce == MD)=decide (3=i):=by
 apply#[dz h,?_];simp only[j5,cc,List.not_mem_nil,or_false,not_or] at nd;let#[#[a,b,c],#[d,e],f,_]:=nd
 match i,h with
 |0,h=>cases (c7 h:GD=Ce);simp[a,b,c,d,e,f]
 |1,h=>cases (c7 h:HD=Ce);simp[a,b,c,d,e,f,Ne.symm a]
 |2,h=>cases (c7 h:PD=Ce);simp[Ne.symm b,Ne.symm d,e,f]
 |3,h=>cases (c7 h:MD=Ce);simp[Ne.symm c,Ne.symm e,Ne.symm f]
def xr:bA ["_law_yard","_law_deed","_law_told","_law_word","e","_law_some"] ["_law_yard","_law_deed"] (aM mU):=bI
inductive Sb(K:af)(CY CW T1 T2:Addr):Sp|k:∀(y p dp dh ld t:Addr)(hs:Xa)(ts:Xb)(S:YS)(fp:ai),∀r∈rl,vs=[.ref y,.ref t]->du K CY CW H y p dp dh ld r.1 hs ts S fp->fN hs ts S->Tb H T1 T2->S.ds.length<=900000->((∃(q:Pc)(h:Str)(v:V),H t\.tup [.str "come",.str q.1,.int q.2.1,.str h,v]/\bO K H v q.2.2/\(∀ws,q.2.2\ws->qV ts ws)/\q.1.length<=1000/\(iQ hs S.ps q.1 q.2.1 h=none->∀t' H' gW,wB y dp dh ld H H'->du K CY CW H' y p dp dh ld r.1 hs ts (S.ik hs q h) gW->(∀c∈gW,c∈fp∨H c=none)->H' t'\.tup [.str "told",.non]->Q (.ref t') H')/\(∀j,iQ hs S.ps q.1 q.2.1 h\j->∀t' H',aa H H'->H' t'\.tup [.str (Bh j),.non]->Q (.ref t') H'))∨(∃n:Str,H t\.tup [.str "go",.str n]/\(n∉S.ps.map (·.1)->∀t' H',aa H H'->H' t'\.tup [.str "piece",.non]->Q (.ref t') H')/\(n∈S.ps.map (·.1)->∀t' H',wB y dp dh ld H H'->du K CY CW H' y p dp dh ld r.1 hs ts (S.go hs n) fp->H' t'\.tup [.str "told",.non]->Q (.ref t') H'))∨∃i:Int,H t\.tup [.str "tick",.int i]/\((i<0/\∀t' H',aa H H'->H' t'\.tup [.str "moment",.non]->Q (.ref t') H')∨∃n:Nat,i=n/\S.ds.length+30 * n<=1000000/\∀t' l ys S' M qs H',iz y dh ld T1 T2 H H'->Tb H' T1 T2->H l=none->H' l\.lst ys->bj K H' ys (M.map kM)->du K CY CW H' y p dp dh ld r.1 hs ts S' fp->fN hs ts S'->S'.ps=S.ps->S'.ds.length<=S.ds.length+30 * n->Qs S.ps qs->K2 r hs ts qs n S S' M->H' t'\.tup [.str "told",.ref l]->Q (.ref t') H'))->Sb K CY CW T1 T2 vs H Q E
def jc_{f:Addr}{fd:Ae}{CY CW T1 T2:Addr}(F:bc K "_law_tried" "_law_tried" mU f fd)(B:Bi mg)(mV:mg "ValueError"=none)(T:fW K CY)(R:N2 K mg CE GD HD PD MD)(cC:!lK CY 6 "come" G_ (MQ K CY CW GD HD))(cG:!lK CY 5 "go" ["self","name"] (Bx K CY CW PD))(cT:!lK CY 10 "tick" ["self","moments"] (mr K CY CW T1 T2 MD)):!ak bg 11 f fd ["_law_yard","_law_deed"] (Sb K CY CW T1 T2):=by
 exists F.bN xr;let#[y,p,dp,dh,ld,t,hs,ts,S,fp,r,eA,rfl,Y,O,tb,d6,h]:=h;have hr6:aI 6 _:=hr.mono (by decide);have hr5:aI 5 _:=hr.mono (by decide);refine' #[_,ao ?s1 ?r1,?kk]
 case' r1=>refine' ao ?s2 ?r2
 case' r2=>refine' ao ?s3 (aK ?s4)
 case s1=>exact bC 2 xr.nd vY
 case s2=>exact bC 3 xr.nd bL
 case' s3=>refine' k1_ (i:=4) (ok:=λCe=>Ce∈[GD,HD,PD,MD]) xr.nd Z Z Z Z (by rfl) R.e (λCe h=>(R.at_ h).2.1) ?hb (λa=>?hs)
 case hb=>exact Ki (WR (dm jZ (bE cg (pv 1) aH) bL) (Ki (RS (i:=2) xr.nd Z (Or.inl Z) (Ro cC T.cl hr6 (pv 0) %[bE cg (pv 1) aH,bE cg (pv 1) aH,bE cg (pv 1) aH,bE cg (pv 1) aH|0])))
  (Ki (WR (dm jZ (bE cg (pv 1) aH) bL) (Ki (RS (i:=2) xr.nd Z (Or.inl Z) (Ro cG T.cl hr5 (pv 0) %[bE cg (pv 1) aH|0]))) (Ki (RS (i:=2) xr.nd Z (Or.inl Z) (Ro cT T.cl hr (pv 0) %[bE cg (pv 1) aH|0]))))))
 case' hs=>refine' ao ?h1 (ao ?h2 (aK ?h3))
 case h1=>exact bC 5 xr.nd (dI %[cO (EZ (K:=K) Dw KS) (by rfl) B.iL iV %[4,qR (v:=.ref GD) (by rfl) R.g.mg Z|0],cO (EZ (K:=K) Dw KS) (by rfl) B.iL iV %[4,qR (v:=.ref HD) (by rfl) R.h.mg Z|0],cO (EZ (K:=K) Dw KS) (by rfl) B.iL iV %[4,qR (v:=.ref PD) (by rfl) R.p.mg Z|0],cO (EZ (K:=K) Dw KS) (by rfl) B.iL iV %[4,qR (v:=.ref MD) (by rfl) R.m.mg Z|0]|0])
 case h2=>exact bC 3 xr.nd bL
 case' h3=>refine' bQ (JI ?c1 (Nh ?c2)).pt (aK ?c3) bR
 case c1=>exact dm jZ (W_ (K:=K) jI PySem.F.slot_list_count PySem.F.type_list_count hi_ (pv 5) %[w9|0]) aH
 case c2=>exact fo (cO (EZ (K:=K) Dw KS) (by rfl) B.iL iV %[4,l7 (v:=.ty "ValueError") (by rfl) mV PyProof.Rows.Boot.«ValueError» rfl|0])
 case c3=>exact bC 3 xr.nd (bE (Cg (K:=K) uX iF) (dI %[bL,bL,bL,bL|0]) (W_ (K:=K) jI PySem.F.slot_list_index PySem.F.type_list_index h9_ (pv 5) %[w9|0]))
 case s4=>exact bw (dS %[3,2|0])
 lk;lk;apply#[λbh cls H'=>∃(j:Nat) (Ce:Addr),[GD,HD,PD,MD][j]? = some Ce/\cls=.ref Ce/\bh=[some (.ref y),some (.ref t),some .non,some (.str "told"),none,none]/\∀t' wF,aa H' wF->wF t'\.tup [.str (Bh j),.non]->Q (.ref t') wF,?_,?_]
 ·rintro bh cls H3 ⟨j,Ce,hj,rfl,rfl,kq⟩;let#[mC,j4,q0,q1,q2,q3]:=four R.nd hj;let#[kx,_,kv,kk]:=R.at_ mC;let k0:=kk GD Z2;let k1:=kk HD Z2;let k2:=kk PD Z2;let k3:=kk MD Z2;rw[q0] at k0;rw[q1] at k1;rw[q2] at k2;rw[q3] at k3;apply#[Ce,mC,Z,λd a ha=>?_];let#[s1,ea]:=bS (X:=AS a Ce d) ha;generalize upd H3 a _=H4 at s1 ea ⊢;apply#[_,Z,a,Ce,d,_,_,_,Z,Z,ea,kx,k0,_,Z,a,Ce,d,_,_,_,Z,Z,ea,kx,k1,_,Z,a,Ce,d,_,_,_,Z,Z,ea,kx,k2,_,Z,a,Ce,d,_,_,_,Z,Z,ea,kx,k3,zl,λl hl=>?_];let#[s2,el]:=bS (X:=.lst [.bl (decide (0=j)),.bl (decide (1=j)),.bl (decide (2=j)),.bl (decide (3=j))]) hl;let ZH:=s2 _ _ ea;lk;generalize upd H4 l _=H5 at s2 el ZH ⊢;apply setG ?_
  have ec:(([.bl (decide (0=j)),.bl (decide (1=j)),.bl (decide (2=j)),.bl (decide (3=j))]:ag).countP λy=>ja y (.bl true))=1:=by
   match j,j4 with
   |0,_=>rfl
   |1,_=>rfl
   |2,_=>rfl
   |3,_=>rfl
  apply#[_,Z,.inl #[Z,_,.of el],l,_,_,Z,Z,el,Z,Z,?_];rw[ec];apply#[Z,_,Z,cz ?_];apply#[_,Z,a,Ce,d,_,_,true,Z,Z,ZH,kx,kv,_,Z,cz ?_];apply#[zl,λl2 jy=>?_];let#[s3,yW]:=bS (X:=.lst [.str "goods",.str "hand",.str "piece",.str "moment"]) jy;let w6:=s3 _ _ el;generalize upd H5 l2 _=H6 at s3 yW w6 ⊢;apply#[_,Z,.inl #[Z,_,.of w6],l,_,_,j,Z,Z,w6,Z,Z,by omega,?_,?_,l2,_,_,.str (Bh j),Z,Z,.inl (.inl yW),?_,?_]
  ·match j,j4 with
   |0,_=>exact#[_,Z,Z]
   |1,_=>exact#[_,Z,Z]
   |2,_=>exact#[_,Z,Z]
   |3,_=>exact#[_,Z,Z]
  ·match j,j4 with
   |0,_=>intro i y hi;exact absurd hi (Nat.not_lt_zero _)
   |1,_=>intro i y hi hy;match i,hi,hy with|0,_,hy=>cases hy;rfl
   |2,_=>intro i y hi hy;match i,hi,hy with|0,_,hy=>cases hy;rfl|1,_,hy=>cases hy;rfl
   |3,_=>intro i y hi hy;match i,hi,hy with|0,_,hy=>cases hy;rfl|1,_,hy=>cases hy;rfl|2,_,hy=>cases hy;rfl
  ·match j,j4 with
   |0,_=>rfl
   |1,_=>rfl
   |2,_=>rfl
   |3,_=>rfl
  apply setG ?_;apply#[_,Z,_,Z,zl,λt' BZ=>?_];exact kq t' _ (((s1.trans s2).trans s3).trans (aa.new BZ)) aE
 let#[dx,hy]:=Y.ex;have K0:∀{x:V} {xs:ag},gP (x::xs) 0\x:=L2.fU (j:=0) Z;have strT:∀{x:Str},decide (V.str x=V.str x)=true:=cj Z;have told:∀{u:V} {G:Hp} (k:∀t' H',aa G H'->H' t'\.tup [.str "told",u]->Q (.ref t') H'),∀t',G t'=none->Q (.ref t') (upd G t' (.tup [.str "told",u])):=λk t' nt=>k t' _ (aa.new nt) aE;rcases h with⟨q,h,v,ht,wy,wo,nl,kn,kj⟩|⟨n,ht,kn,k⟩|⟨i,ht,k⟩
 ·apply#[_,Z,t,_,_,.str "come",Z,Z,.of ht,K0,Z,_,Z,cz ?_];apply#[_,Z,y,dx,_,Z,hy,oj Z0,_,Z,t,_,_,_,Z,Z,.of ht,L2.fU (j:=1) Z,_,Z,t,_,_,_,Z,Z,.of ht,L2.fU (j:=2) Z,_,Z,t,_,_,_,Z,Z,.of ht,L2.fU (j:=3) Z,_,Z,t,_,_,_,Z,Z,.of ht,L2.fU (j:=4) Z,?_];apply#[y,p,dp,dh,ld,v,h,q,r.1,hs,ts,S,fp,Z,Y,O.Gd,wy,wo,nl,O.jA,by omega,λc H' gW k4 Y' nf=>?_,λc H' s=>#[0,GD,Z,Z,Z,λt' wF s' e=>kj 0 c t' wF (s.trans s') e],λc H' s=>#[1,HD,Z,Z,Z,λt' wF s' e=>kj 1 c t' wF (s.trans s') e]];lk;apply#[_,Z,_,Z,zl,λt' BZ=>?_];let s5:=aa.new (o:=.tup [.str "told",.non]) BZ;exact kn c t' _ gW (λc o e n1 n2 n3 n4=>s5 _ _ (k4 c o e n1 n2 n3 n4)) (Y'.same s5) nf aE
 ·apply#[_,Z,t,_,_,.str "go",Z,Z,.of ht,K0,Z,_,Z,?_];rw[show decide (V.str ("go":Str)=V.str ("come":Str))=false from Qz Z0];apply a_ ?_;apply#[_,Z,t,_,_,.str "go",Z,Z,.of ht,K0,Z,_,Z,cz ?_];apply#[_,Z,y,dx,_,Z,hy,oj Z0,_,Z,t,_,_,_,Z,Z,.of ht,L2.fU (j:=1) Z,?_];apply#[y,p,dp,dh,ld,n,r.1,hs,ts,S,fp,Z,Y,O,by omega,λc=>#[2,PD,Z,Z,Z,λt' wF s' e=>kn c t' wF s' e],λc H' k4 Y'=>?_];lk;apply#[_,Z,_,Z,zl,λt' BZ=>?_];let s5:=aa.new (o:=.tup [.str "told",.non]) BZ;exact k c t' _ (λc o e n1 n2 n3 n4=>s5 _ _ (k4 c o e n1 n2 n3 n4)) (Y'.same s5) aE
 apply#[_,Z,t,_,_,.str "tick",Z,Z,.of ht,K0,Z,_,Z,?_];rw[show decide (V.str ("tick":Str)=V.str ("come":Str))=false from Qz Z0];apply a_ ?_;apply#[_,Z,t,_,_,.str "tick",Z,Z,.of ht,K0,Z,_,Z,?_];rw[show decide (V.str ("tick":Str)=V.str ("go":Str))=false from Qz Z0];apply a_ ?_;apply#[_,Z,y,dx,_,Z,hy,oj Z0,_,Z,t,_,_,_,Z,Z,.of ht,L2.fU (j:=1) Z,?_];apply#[y,p,dp,dh,ld,i,hs,ts,S,fp,r,eA,Z,Y,O,tb,?_];rcases k with⟨i0,k⟩|⟨n,en,dn,k⟩
 ·exact .inl #[i0,3,MD,Z,Z,Z,λt' wF s' e=>k t' wF s' e]
 apply .inr #[n,en,dn,λl ys S' M qs H' km Ot nl el tu Y' O' ep dl Qq tk=>?_];lk;apply#[_,Z,_,Z,zl,λt' BZ=>?_];let s5:=aa.new (o:=.tup [.str "told",.ref l]) BZ;exact k t' l ys S' M qs _ (km.trans (iz.of s5)) #[Ot.a.same s5,Ot.b.same s5,Ot.ne] nl (s5 _ _ el) (tu.same s5) (Y'.same s5) O' ep dl Qq tk aE
end
section v
def tW:bA dG dG (aM Tx):=bI
inductive Te(K:af)(CY CW:Addr):Sp|k:∀(y p dp dh ld:Addr)(r:Str)(hs:Xa)(ts:Xb)(S:YS)(fp:ai),vs=[.ref y]->du K CY CW H y p dp dh ld r hs ts S fp->fN hs ts S->(∀d H',aa H H'->H d=none->H' d\.dK (vp hs S.ps S.f)->Q (.ref d) H')->Te K CY CW vs H Q E
def iq_{f0 CY CG CW:Addr}{fd:Ae}(F:bc K "loads" "Yard.loads" Tx f0 fd)(T:fW K CY)(cY:!aZ CY 9 "goods" dG (Ka K CY CG CW))(cS:!aZ CY 1 "stand" dG (DS K CY CW))(cL:!bH 3 "loads_at" lV (KR K CG CW)):!ak bg 10 f0 fd dG (Te K CY CW):=by
 exists F.bN tW;let#[y,p,dp,dh,ld,r,hs,ts,S,fp,rfl,Y,O,k]:=h;have fH:aI 1 _:=hr.mono (by decide);apply#[_,aK (bw (bp cL hr %[j2 cY T.cl hr (pv 0),j2 cS T.cl fH (pv 0)|0])),?_];let#[dx,hy]:=Y.ex;apply#[_,Z,y,dx,_,Z,hy,oj Z0,y,p,dp,dh,ld,r,hs,ts,S,fp,Z,Y,O,λg qs eJ H1 s1 hg G Qq has _=>?_];apply#[_,Z,y,dx,_,Z,s1 _ _ hy,oj Z0,y,p,dp,dh,ld,r,hs,ts,S,fp,Z,Y.same s1,O,λd H2 s2 nd e2=>?_];apply#[g,p,d,hs,ts,qs,eJ,S.f,Z,Tq O s2 G Qq has nd e2,λd2 H3 s3 n3 e3=>?_];exact k d2 H3 ((s1.trans s2).trans s3) ((s1.trans s2).free n3) (by rw[<- lr_ O Qq];exact e3)
end
def rD(q:Pc):ax:=[.inr q.1,.inl q.2.1]
def Iy{H:Hp}{p:Addr}{q:Pc}(h:H p\.tup ((rD q).map kV)):H p\.tup [.str q.1,.int q.2.1]:=h
def RT{H:Hp}:∀ns:ae,Paired (rS H) (ns.map V.str) ns
 |[]=>.nil
 |n::ns=>.cons Z (RT ns)
def qZ(kvs:List (Key × V))(f:az)(ws:Xa):Prop:=∀h:Str,a9 kvs (Sum.inr h)\.int (ld f ws h)∨(a9 kvs (Sum.inr h)=none/\ld f ws h=0)
def qZ.snoc{kvs:List (Key × V)}{f:az}{ws:Xa}(h:qZ kvs f ws)(x:Str × Int):qZ (putK kvs (Sum.inr (f x.1)) (.int (ld f ws (f x.1)+x.2))) f (ws++[x]):=λn=>by
 rw[iJ_,X7];by_cases c:n=f x.1
 ·rw[aF (dH Sum.inr c),aF c]
  left
  rw[c]
 rw[aA (λe=>c (gX e)),aA c];exact h n
section v
def J2:bA ["_law_yard","_law_rows","_law_stand","_law_found","_law_name","_law_weight"] E1 (aM uu):=bI
inductive mw(K:af)(CY CW:Addr):Sp|k:∀(y p dp dh pG lr:Addr)(zs:ag)(r:Str)(hs:Xa)(ts:Xb)(S:YS)(fp:ai),vs=[.ref y,.ref lr]->du K CY CW H y p dp dh pG r hs ts S fp->fN hs ts S->H lr\.lst zs->bj K H zs (S.ps.map rD)->(∀d kvs H',aa H H'->H d=none->H' d\.dK kvs->qZ kvs S.f (S.ps.map eN)->kvs.length<=30->Q (.ref d) H')->mw K CY CW vs H Q E
def kN_{f0 CY CW:Addr}{fd:Ae}(F:bc K "_law_sums" "_law_sums" uu f0 fd)(T:fW K CY)(cS:!aZ CY 1 "stand" dG (DS K CY CW)):!ak bg 2 f0 fd E1 (mw K CY CW):=by
 apply F.ok J2 (λvs H Q E h=>?_) (λaC A outer s H vs Q E hr h=>?_)
 ·let#[y,p,dp,dh,pG,lr,zs,r,hs,ts,S,fp,rfl,_]:=h;rfl
 let#[y,p,dp,dh,pG,lr,zs,r,hs,ts,S,fp,rfl,Y,O,hl,tz,k]:=h;let sz:=cX;let hu:=gE hr;refine' ⟨_,ao ?s1 (ao ?s2 (ao ?s3 (aK ?s4))),?kk⟩
 case s1=>exact bC 2 J2.nd (j2 cS T.cl hr (pv 0))
 case s2=>exact bC 3 J2.nd DT
 case s3=>exact gc fV Z (eS (pv 1)) (qP Z (eF (dF 4 J2.nd) (eF (dF 5 J2.nd) kZ))) (aK (xn hu (pv 3) (lU hu (pv 2) (pv 4)) (bV jM (Yx hu (pv 3) (lU hu (pv 2) (pv 4)) aH #[Z,Z,Z,Z]) (pv 5)) Z))
 case s4=>exact bw (pv 3)
 let#[dx,hy]:=Y.ex;let lz:=bG tz;rw[aq] at lz;let jA:=O.jA;apply#[_,Z,y,dx,_,Z,hy,oj Z0,y,p,dp,dh,pG,r,hs,ts,S,fp,Z,Y,O,λd H1 s1 nd e1=>?_];lk;intro df B6;let#[s2,e2]:=bS (X:=.dK []) B6;show gZ _ _ _ (upd H1 df (.dK [])) _;generalize upd H1 df _=H2 at s2 e2 ⊢;lk;let cq:=s1.trans s2;let LM:=s1.free B6;have ddf:d≠df:=bB e1 B6
 let bx:bX:=λi σ H'=>∃(v4 v5:aQ) (kvs:List (Key × V)),σ=[some (.ref y),some (.ref lr),some (.ref d),some (.ref df),v4,v5]/\bf df H2 H'/\H' df\.dK kvs/\kvs.length<=i/\qZ kvs S.f ((S.ps.map eN).take i)
 apply#[_,Z,lr,Z,#[_,.of (cq _ _ hl)],jh (K:=K) (a:=lr) (xs:=zs) bx #[none,none,[],Z,bf.refl _ _,e2,bD _,λh=>.inr #[Z,Z]] (λi σ H' _ ⟨_,_,_,_,b,_⟩=>.of (b _ _ (cq _ _ hl) (bB hl LM))) ?_ ?_]
 ·rintro i x σ H3 hx ⟨v4,v5,kvs,rfl,b3,e3,lk,sm⟩;let#[q,hq,a,rfl,ha]:=oA tz hx;let ha:=Iy ha;let lP:=b3 _ _ (cq _ _ ha) (bB ha LM);apply#[a,_,Z,.of lP,Z,_,_,Z,_,_,Z,Z,?_];dsimp only;have nm:q.1∈fA (S.ps.map (·.1)):=(lY _).mem_iff.mpr (bo.mpr #[q,dz hq,Z]);let JO:=b3 _ _ (s2 _ _ e1) ddf;have gt:a9 (gf (fA (S.ps.map (·.1))) S.f) (Sum.inr q.1)\.str (S.f q.1):=Nf nm
  have gk:fq H3 d (.str q.1) (some (.str (S.f q.1))):=by
   rw[<- gt];exact .k (k:=Sum.inr q.1) JO
  have hi:i<zs.length:=(cK.mp hx).1
  have fin:∀z:Int,z=ld S.f ((S.ps.map eN).take i) (S.f q.1)->∃(v4 v5:aQ) (dW:List (Key × V)),[some (V.ref y),some (.ref lr),some (.ref d),some (.ref df),some (.str q.1),some (.int q.2.1)]=[some (V.ref y),some (.ref lr),some (.ref d),some (.ref df),v4,v5]/\bf df H2 (upd H3 df (.dK (putK kvs (Sum.inr (S.f q.1)) (.int (z+q.2.1)))))/\upd H3 df (.dK (putK kvs (Sum.inr (S.f q.1)) (.int (z+q.2.1)))) df\.dK dW/\dW.length<=i+1/\qZ dW S.f ((S.ps.map eN).take (i+1)):=λz ez=>by
   apply#[_,_,_,Z,b3.trans bf.upd,aE,ma (NX _ _ _) Z1,?_];rw[show (S.ps.map eN).take (i+1)=(S.ps.map eN).take i++[eN q] from KQ (by rw[d0,hq];rfl),ez];exact sm.snoc (eN q)
  rcases sm (S.f q.1) with sv|⟨sv,s0⟩
  ·apply#[_,Z,df,Z,.inl #[_,.inl e3],_,Z,_,Z,d,.str (S.f q.1),Z,gk,some (.int (ld S.f ((S.ps.map eN).take i) (S.f q.1))),?_,_,Z,_,_,Z,Z,?_]
   ·rw[<- sv];exact .inl #[_,Sum.inr (S.f q.1),.inl e3,Z,Z]
   apply#[_,Z,_,Z,_,Z,d,.str (S.f q.1),Z,gk,df,_,Z,.k (k:=Sum.inr (S.f q.1)) e3 Z1,fin _ Z]
  apply#[_,Z,df,Z,.inl #[_,.inl e3],_,Z,_,Z,d,.str (S.f q.1),Z,gk,none,?_,_,Z,_,_,Z,Z,?_]
  ·rw[<- sv];exact .inl #[_,Sum.inr (S.f q.1),.inl e3,Z,Z]
  apply#[_,Z,_,Z,_,Z,d,.str (S.f q.1),Z,gk,df,_,Z,.k (k:=Sum.inr (S.f q.1)) e3 Z1,fin 0 s0.symm]
 rintro σ H3 ⟨v4,v5,kvs,rfl,b3,e3,lk,sm⟩;rw[lz,xv (by rw[aq];omega)] at sm;exact#[_,Z,k df kvs H3 (λc o e=>b3 _ _ (cq _ _ e) (bB e LM)) LM e3 sm Z1]
def uk:bA ["_law_yard","_law_rows","_law_due"] E1 (aM uI):=bI
inductive MS(K:af)(CY CW:Addr):Sp|k:∀(y p dp dh pG lr:Addr)(zs:ag)(r:Str)(hs:Xa)(ts:Xb)(S:YS)(fp:ai),vs=[.ref y,.ref lr]->du K CY CW H y p dp dh pG r hs ts S fp->fN hs ts S->H lr\.lst zs->bj K H zs (S.ps.map rD)->(∀H',aa H H'->Q (.bl true) H')->MS K CY CW vs H Q E
def l8_{f0 CY CG CW:Addr}{fd:Ae}(F:bc K "_law_full" "_law_full" uI f0 fd)(B:Bi mg)(T:fW K CY)(TG:dO K CG)(cG:!aZ CY 9 "goods" dG (Ka K CY CG CW))(cN:!aZ CG 1 "names" dG (SK K CG CW))(cS:!aZ CY 1 "stand" dG (DS K CY CW))(cL:!aZ CY 10 "loads" dG (Te K CY CW))(T8:!bH 2 "_law_sums" E1 (mw K CY CW)):!ak bg 11 f0 fd E1 (MS K CY CW):=by
 apply F.ok uk (λvs H Q E h=>?_) (λaC A outer s H vs Q E hr h=>?_)
 ·let#[y,p,dp,dh,pG,lr,zs,r,hs,ts,S,fp,rfl,_]:=h;rfl
 let#[y,p,dp,dh,pG,lr,zs,r,hs,ts,S,fp,rfl,Y,O,hl,tz,k]:=h;let sz:=cX;let hu:=gE hr;have fH:aI 1 _:=hr.mono (by decide);have hr9:aI 9 _:=hr.mono (by decide);refine' ⟨_,ao ?s1 (ao ?s2 (aK ?s3)),?kk⟩
 case' s1=>refine' bQ (rY ?c1 (sr ?c2)).pt (aK (bw w9)) bR
 case' c1=>refine' dm (WW il (oy hr 0)) (j2 cN TG.cl fH (j2 cG T.cl hr9 (pv 0))) (cO go_ (by rfl) B.sorted Fu %[?w1|0])
 case w1=>exact pX ["_law_name","_law_weight"] 2 [] (eS (pv 1)) (λfp s H=>JY (n:=2) (eF (gy (i:=0) (show (["_law_name","_law_weight"]:ae).Nodup by decide +kernel) Z (Or.inl Z)) (eF (gy (i:=1) (show (["_law_name","_law_weight"]:ae).Nodup by decide +kernel) Z (Or.inl Z)) kZ))) (λfp s H=>lW) (λfp s H=>pv 0)
 case c2=>exact dm ze (cO ZT (by rfl) B.len jH %[j2 cS T.cl fH (pv 0)|0]) (cO l0 (by rfl) B.len jH %[1|0])
 case s2=>exact bC 2 uk.nd (bp T8 hr %[0,1|0])
 case' s3=>refine' bw (cO (Y9 Z) (by rfl) B.all PyProof.Rows.Boot.«all» %[pX wm 2 [2] (SI (Kh (j2 cL T.cl hr (pv 0)))) (λfp s H=>?g1) (λfp s H=>lW) (λfp s H=>?e1)|0])
 case g1=>exact JY (n:=2) (eF (gy (i:=0) (show (wm:ae).Nodup by decide +kernel) Z (Or.inl Z)) (eF (gy (i:=1) (show (wm:ae).Nodup by decide +kernel) Z (Or.inl Z)) kZ))
 case e1=>exact sd jZ (pv 1) (Yx hu (pv 2) (pv 0) aH #[Z,Z,Z,Z])
 let#[dx,hy]:=Y.ex;let lz:=bG tz;rw[aq] at lz;let jA:=O.jA;apply#[_,Z,y,dx,_,Z,hy,oj Z0,y,p,dp,dh,pG,r,hs,ts,S,fp,Z,Y,O,λg qs eJ H1 s1 ng G Qq has _=>?_];let#[fZ,dw,dy,vs0,bq,g1,g2,_]:=id G.ex;apply#[g,fZ,_,Z,g1,zt _ _ _ Z0 Z0 Z0,g,p,hs,ts,qs,eJ,Z,G,λln Hq=>?_];rw[Qq.vh];let#[s2,e2]:=bS (X:=.lst ((fA (S.ps.map (·.1))).map V.str)) Hq;generalize upd H1 ln _=H2 at s2 e2 ⊢;let cq:=s1.trans s2;apply#[_,Z,lr,Z,#[_,.of (cq _ _ hl)],λD nD=>?_]
 let ck:eI:=λi out H'=>aa H2 H'/\H' D\.lst out/\out=((S.ps.map (·.1)).take i).map V.str
 apply p0 (own:=2) (fv:=[]) (xs:=zs) Z CV ck #[aa.new nD,aE,Z] (λi out H' _ ⟨sm,_,_⟩=>.of (sm _ _ (cq _ _ hl))) (λout H3 ⟨s3,Ry,eo⟩=>?_) (λi x out H' hx ⟨sm,gC,eo⟩=>?_);rotate_left 1
 ·let#[q,hq,a,rfl,ha]:=oA tz hx;let ha:=Iy ha;have hi:i<zs.length:=(cK.mp hx).1;apply#[[some (.str q.1),some (.int q.2.1)],#[a,_,_,Z,.of (sm _ _ (cq _ _ ha)),Z],Z,λNx hN=>fD ?_];apply#[_,Z,out,gC,by rw[eo,aq,dZ,aq];omega,hN _ _ #[jP sm nD,aE,?_]];rw[show (S.ps.map (·.1)).take (i+1)=(S.ps.map (·.1)).take i++[q.1] from KQ (by rw[d0,hq];rfl),cZ,eo];rfl
 rw[lz,xv (by rw[aq];omega)] at eo;subst eo;apply#[D,_,Z,.inl (.inl Ry),by rw[aq];omega,λl nl=>?_];let#[s4,e4]:=bS (X:=.lst ((fA (S.ps.map (·.1))).map V.str)) nl;let Z5:=s4 _ _ (s3 _ _ e2);generalize upd H3 l _=H4 at s4 e4 Z5 ⊢;let Ek:=(cq.trans s3).trans s4;apply#[fA (S.ps.map (·.1)),fA (S.ps.map (·.1)),#[ln,_,Z,.inl (.inl Z5),RT _],#[l,_,Z,.inl (.inl e4),RT _],?_];apply#[_,Z,?_];rw[cj Z];apply a_ ?_;apply#[_,Z,y,dx,_,Z,Ek _ _ hy,oj Z0,y,p,dp,dh,pG,r,hs,ts,S,fp,Z,Y.same Ek,O,λd H5 s5 nd e5=>?_];let Ai:=Ek.trans s5;apply#[d,_,Z,e5,_,Z,lr,_,Z,.inl (.of (Ai _ _ hl)),?_];rw[show (gf (fA (S.ps.map (·.1))) S.f).length=zs.length by rw[show (gf (fA (S.ps.map (·.1))) S.f).length=(fA (S.ps.map (·.1))).length from si ..,(lY _).length_eq,aq,lz]];apply#[Z,_,Z,Dn Z ?_];apply#[_,Z,_,Z,y,p,dp,dh,pG,lr,zs,r,hs,ts,S,fp,Z,Y.same Ai,O,Ai _ _ hl,tz.same Ai,λdf kvs H6 s6 nf e6 sm lk=>?_];lk;let OY:=Ai.trans s6;apply#[_,Z,y,dx,_,Z,OY _ _ hy,oj Z0,y,p,dp,dh,pG,r,hs,ts,S,fp,Z,Y.same OY,O,λdl H7 s7 n7 e7=>?_];apply#[dl,_,Z,e7,λv hv=>?_];let#[s8,vA]:=bS (X:=zj v dl) hv;let e8:=s8 _ _ e7;let VP:=s7.trans s8;generalize upd H7 v _=H8 at s8 vA e8 VP ⊢;apply#[v,dl,_,Z,vA,e8,λo D2 hD=>?_];have sf:aa H6 (upd H8 dl (.frz o (.dK (vp hs S.ps S.f)))):=jP VP n7;let ef:=us H8 dl (.frz o (.dK (vp hs S.ps S.f)));generalize upd H8 dl _=H9 at sf ef hD ⊢
 let oE:eI:=λi out H'=>aa H9 H'/\H' D2\.lst out/\∃n,out=(List.replicate n true).map V.bl/\n<=i
 apply g6_ (own:=2) (fv:=[some (.ref df)]) Z CV oE #[aa.new hD,aE,0,Z,bD _] (λi out H' _ ⟨sm,_,_⟩=>sm _ _ ef) (λout jk ⟨iJ,Rz,n,eo,_⟩=>?_) (λi ky x out H' hx ⟨sm9,gC,n,eo,ni⟩ t ht=>?_)
 ·subst eo;apply#[D2,List.replicate n true,Z,.of Rz,?_];rw[show (List.replicate n true).all id=true from List.all_eq_true.mpr λb hb=>(List.mem_replicate.mp hb).2];exact k jk (OY.trans (sf.trans iJ))
 let#[h,hh,rfl,rfl]:=Rv hx;have hi:i<(aB hs).length:=(cK.mp hh).1;let nl:=O.Gd.fF;let h8:=O.Gd.h8;let#[ss,et]:=bS (X:=.tup [.str h,.int (ld S.f (S.ps.map eN) h)]) ht;apply#[[some (.str h),some (.int (ld S.f (S.ps.map eN) h))],#[t,_,_,Z,.of et,Z],Z,λNx hN=>fD ?_];let sD:=ss _ _ gC;let s5:=sm9.trans ss;let JK:=(sf.trans s5) _ _ e6;show Gm _ _ _ _ (upd H' t (.tup [.str h,.int (ld S.f (S.ps.map eN) h)])) _;generalize upd H' t _=UY at sD s5 JK ⊢;have fin:hN=hN:=rfl;rcases sm h with sv|⟨sv,s0⟩
 ·apply#[_,Z,_,Z,df,Z,.inl #[_,.inl JK],_,Z,some (.int (ld S.f (S.ps.map eN) h)),?_,Z,out,sD,by rw[eo,aq,A8];omega,hN _ _ #[jP s5 hD,aE,n+1,?_,by omega]]
  ·rw[<- sv];exact .inl #[_,Sum.inr h,.inl JK,Z,Z]
  rw[List.replicate_succ',cZ,eo];exact dH (λb=>List.map V.bl (List.replicate n true)++[V.bl b]) (cj Z)
 apply#[_,Z,_,Z,df,Z,.inl #[_,.inl JK],_,Z,none,?_,Z,out,sD,by rw[eo,aq,A8];omega,hN _ _ #[jP s5 hD,aE,n+1,?_,by omega]]
 ·rw[<- sv];exact .inl #[_,Sum.inr h,.inl JK,Z,Z]
 rw[List.replicate_succ',cZ,eo,s0];exact dH (λb=>List.map V.bl (List.replicate n true)++[V.bl b]) (cj Z)
end
end Ev
namespace L2
open PySem PySem.Spec PyProof.Rows PySem.W oH g0
def oV:Option Str->V
 |none=>.non
 |some x=>.str x
def rO:Rp (Option Str):=λ_ x d=>x=oV d
def lW_{d e:Option Str}(h:oV d=oV e):d=e:=by
 cases d with
 |none=>cases e with
  |none=>rfl
  |some y=>cases h
 |some x=>cases e with
  |none=>cases h
  |some y=>rw[V.str.inj h]
def O0(K:af){D:Type}(R:Rp D):Rp (List D):=λH x ds=>∃a xs,x=.ref a/\iw K H a xs/\Paired (R H) xs ds
section
variable{X:Cx}
def vT:rj X 0 rO where
 eq:=λ{π σ H s A x y u v d e} I ru rv hx hy hu=>by
  have hx:x=oV d:=hx;have hy:y=oV e:=hy;subst hx;subst hy;have fl:∀o:Option Str,lQ (oV o)=true:=λo=>by cases o<;>rfl
  let q:=MB (A:=A) (s:=s) ru rv (fl d) (fl e)
  have e2:ja (oV d) (oV e)=decide (d=e):=by
   cases d with
   |none=>cases e with
    |none=>rfl
    |some y=>rfl
   |some x=>cases e with
    |none=>rfl
    |some y=>
     show (x == y)=_;by_cases h:x=y
     ·subst h;simp
     simp[h]
  rwa [e2] at q
 one:=λ{π σ H s x d e} I hx hy=>lW_ (Eq.trans (Eq.symm hx) hy)
def Ym{D:Type}[DecidableEq D]{ds es:List D}:((List.range (min ds.length es.length)).all (λj=>decide (ds[j]? = es[j]?))&&ds.length == es.length)=decide (ds=es):=by
 by_cases hl:ds.length=es.length
 ·rw[hl,Nat.min_self,<- hl,UE hl];simp
 rw[d7 (λz=>hl (by rw[z])),show (ds.length == es.length)=false by rw[beq_eq_false_iff_ne];exact hl,Bool.and_false]
end
section
variable{X:Cx}{e st:Expr}{te ts:TE}{pos p2:Pos}
end
section
variable{X:Cx}
def M3{n:Nat}{D:Type}[DecidableEq D]{R:Rp D}(c:rj X n R)(hu:X.A.units+n+1<cLine):eG X (compareOp .NotEq) (ye (O0 X.K R) true):=by
 intro π s σ H x y v u Q I rx ry h;let#[d,e,#[a,xs,rfl,t,q],#[b,ys,rfl,t',q'],hq]:=h;cases rx;cases ry;let#[us,r,pl,_]:=I.tuple t;let#[vs,r',qm,_]:=I.tuple t';let l1:=r.length;let l2:=r'.length;let l3:=bG q;let l4:=bG q';apply SeqAt.RcNeAt.tuples (FA pl) (FA qm) Z1 (ND c I r r' q q' (A:=X.A.in1) (by show X.A.units+1+n<cLine;omega)) X.prog X.w _ _ #[.bl _,H,I,Z,?_];rw[show us.toArray.size=d.length by simp only[c_];omega,show vs.toArray.size=e.length by simp only[c_];omega,Ym];exact hq
def k3_{n:Nat}{D:Type}[DecidableEq D]{R:Rp D}(c:rj X n R)(hu:X.A.units+n+1<cLine):eG X (compareOp .Eq) (ye (O0 X.K R) false):=by
 intro π s σ H x y v u Q I rx ry h;let#[d,e,#[a,xs,rfl,t,q],#[b,ys,rfl,t',q'],hq]:=h;cases rx;cases ry;let#[us,r,pl,_]:=I.tuple t;let#[vs,r',qm,_]:=I.tuple t';let l1:=r.length;let l2:=r'.length;let l3:=bG q;let l4:=bG q';apply SeqAt.eq_tupleAt (FA pl) (FA qm) Z1 (ND c I r r' q q' (A:=X.A.in1) (by show X.A.units+1+n<cLine;omega)) #[.bl _,H,I,Z,?_];rw[show us.toArray.size=d.length by simp only[c_];omega,show vs.toArray.size=e.length by simp only[c_];omega,Ym];exact hq
end
end L2
namespace Ev
open PySem L2
def Kx(fp:ai)(H H':Hp):Prop:=∀c o,H c\o->(c∉fp∨∃xs,o=.tup xs)->(∀vs,o≠.tbl vs)->H' c\o
def Kx.of{fp:ai}{H H':Hp}(s:aa H H'):Kx fp H H':=λc o e _ _=>s c o e
section
variable{K:af}{CY CW:Addr}{H H':Hp}{l2 lh lt ln lr t y p dp dh ld T1 T2:Addr}{r:Str}{hs:Xa}{ts:Xb}{ns:ae}{ps:aJ}{S:YS}{fp gW:ai}{q:Pc}{h:Str}
def Kx.four(Y:du K CY CW H y p dp dh ld r hs ts S fp)(k:wB y dp dh ld H H'):Kx fp H H':=λc o e n _=>by
 let#[dx,hy]:=Y.ex;let#[yp,gn,_]:=Y.P;let iP:=Y.Hd;let#[dv,i6,_]:=Y.D;let#[m1,m2,m3,m4]:=Y.m;rcases n with n|⟨xs,rfl⟩
 ·exact k c o e (λz=>n (z▸m1)) (λz=>n (z▸m2)) (λz=>n (z▸m3)) (λz=>n (z▸m4))
 exact k c _ e (aR e hy nofun) (aR e gn nofun) (aR e iP nofun) (aR e i6 nofun)
def Kx.mom(Y:du K CY CW H y p dp dh ld r hs ts S fp)(tb:Tb H T1 T2)(k:iz y dh ld T1 T2 H H'):Kx fp H H':=λc o e n nt=>by
 let#[dx,hy]:=Y.ex;let iP:=Y.Hd;let#[dv,i6,_]:=Y.D;let#[m1,m2,m3,m4]:=Y.m;let#[zL,rP]:=gz tb.a;let#[xD,rN]:=gz tb.b;have t1:c≠T1:=λz=>nt zL (by rw[z,rP] at e;exact (c7 e).symm);have t2:c≠T2:=λz=>nt xD (by rw[z,rN] at e;exact (c7 e).symm);rcases n with n|⟨xs,rfl⟩
 ·exact k c o e (λz=>n (z▸m1)) (λz=>n (z▸m3)) (λz=>n (z▸m4)) t1 t2
 exact k c _ e (aR e hy nofun) (aR e iP nofun) (aR e i6 nofun) t1 t2
def Kx.tup{xs:ag}(k:Kx fp H H')(e:H t\.tup xs):H' t\.tup xs:=k _ _ e (.inr #[xs,Z]) nofun
def Kx.lst{xs:ag}(k:Kx fp H H')(e:H t\.lst xs)(n:t∉fp):H' t\.lst xs:=k _ _ e (.inl n) nofun
def Kx.d9{xs:ag}{ks:List ax}(k:Kx fp H H')(h:bj K H xs ks):bj K H' xs ks:=jO h λ_ _ e=>k.tup e
def Kx.wy{v:V}{o:Option (Xb)}(k:Kx fp H H')(h:bO K H v o)(n:∀a,v=.ref a->a∉fp):bO K H' v o:=by
 cases o with
 |none=>exact h
 |some ws=>
  let#[a,ys,e,ha,tu]:=h;exact#[a,ys,e,k.lst ha (n a e),k.d9 tu]
def wB.tb(Y:du K CY CW H y p dp dh ld r hs ts S fp)(k:wB y dp dh ld H H')(tb:Tb H T1 T2):Tb H' T1 T2:=by
 let#[dx,hy]:=Y.ex;let#[yp,gn,_]:=Y.P;let iP:=Y.Hd;let#[dv,i6,_]:=Y.D;have kk:∀{c:Addr} {o:HO},H c\o->o≠.ins CY dx (yF p r S.m dp dh ld S.b)->(∀kvs,o≠.dK kvs)->(∀xs,o≠.lst xs)->H' c\o:=λ{c o} e n1 n2 n3=>k c o e (λz=>n1 (by rw[z,hy] at e;exact (c7 e).symm)) (λz=>n2 _ (by rw[z,gn] at e;exact (c7 e).symm)) (λz=>n2 _ (by rw[z,iP] at e;exact (c7 e).symm)) (λz=>n3 _ (by rw[z,i6] at e;exact (c7 e).symm));have kT:∀{T qn},cu H T qn->cu H' T qn:=λ⟨es,a1,a2⟩=>#[es,kk a1 nofun (by intro _ z;cases z) (by intro _ z;cases z),λx hx=>kk (a2 x hx) nofun (by intro _ z;cases z) (by intro _ z;cases z)];exact#[kT tb.a,kT tb.b,tb.ne]
structure LL(K:af)(l2 lh lt ln lr:Addr)(H:Hp)(hs:Xa)(ts:Xb)(ns:ae)(ps:aJ)(fp:ai):Prop where
 h:∃ys,H lh\.lst ys/\bj K H ys (hs.map kH)
 t:∃zs,H lt\.lst zs/\bj K H zs (ts.map kT)
 n:H ln\.lst (ns.map V.str)
 r:∃rs,H lr\.lst rs/\bj K H rs (ps.map rD)
 st:dA H l2
 nf:l2∉fp/\lh∉fp/\lt∉fp/\ln∉fp/\lr∉fp
 ne:lh≠l2/\lt≠l2/\ln≠l2/\lr≠l2
def dA.kx{l:Addr}(h:dA H l)(k:Kx fp H H')(n:l∉fp):dA H' l:=by
 rcases h with⟨x,e⟩|⟨x,y,z,e⟩
 ·exact .inl #[x,k.lst e n]
 exact .inr #[x,y,z,k.lst e n]
def LL.kx(L:LL K l2 lh lt ln lr H hs ts ns ps fp)(k:Kx fp H H')(f:∀c∈gW,c∈fp∨H c=none):LL K l2 lh lt ln lr H' hs ts ns ps gW:=by
 let#[ys,h1,h2]:=L.h;let#[zs,t1,t2]:=L.t;let#[rs,r1,r2]:=L.r;let#[n1,n2,n3,n4,n5]:=L.nf;let#[xs,l1]:=L.st.some;have nf:∀{c:Addr} {o:HO},H c\o->c∉fp->c∉gW:=λe n m=>(f _ m).elim n λz=>by rw[e] at z;cases z
 exact#[#[ys,k.lst h1 n2,k.d9 h2],#[zs,k.lst t1 n3,k.d9 t2],k.lst L.n n4,#[rs,k.lst r1 n5,k.d9 r2],L.st.kx k n1,#[nf l1 n1,nf h1 n2,nf t1 n3,nf L.n n4,nf r1 n5],L.ne]
def LL.same(L:LL K l2 lh lt ln lr H hs ts ns ps fp)(s:aa H H'):LL K l2 lh lt ln lr H' hs ts ns ps fp:=L.kx (Kx.of s) λ_ h=>.inl h
def LL.but(L:LL K l2 lh lt ln lr H hs ts ns ps fp)(b:bf l2 H H')(st:dA H' l2):LL K l2 lh lt ln lr H' hs ts ns ps fp:=by
 let#[ys,h1,h2]:=L.h;let#[zs,t1,t2]:=L.t;let#[rs,r1,r2]:=L.r;let#[n1,n2,n3,n4]:=L.ne;let#[xs,l1]:=L.st.some;exact#[#[ys,b _ _ h1 n1,me h2 b l1],#[zs,b _ _ t1 n2,me t2 b l1],b _ _ L.n n3,#[rs,b _ _ r1 n4,me r2 b l1],st,L.nf,L.ne]
def DL(K:af)(l2 lr:Addr)(H:Hp)(fp:ai)(t:Addr)(q:Pc)(h:Str):Prop:=∃v,H t\.tup [.str "come",.str q.1,.int q.2.1,.str h,v]/\bO K H v q.2.2/\∀a,v=.ref a->a∉fp/\a≠l2/\a≠lr
def DL.kx(D:DL K l2 lr H fp t q h)(k:Kx fp H H')(f:∀c∈gW,c∈fp∨H c=none):DL K l2 lr H' gW t q h:=by
 let#[v,e,w,n]:=D;apply#[v,k.tup e,k.wy w λa z=>(n a z).1,λa z=>#[λm=>?_,(n a z).2]];rcases f _ m with m|m
 ·exact (n a z).1 m
 cases o:q.2.2 with
 |none=>
  rw[o] at w;rw[show v=.non from w] at z;cases z
 |some ws=>
  rw[o] at w;let#[a',ys,e',ha,_]:=w;rw[z] at e';cases e';rw[ha] at m;cases m
def DL.same(D:DL K l2 lr H fp t q h)(s:aa H H'):DL K l2 lr H' fp t q h:=D.kx (Kx.of s) λ_ h=>.inl h
def DL.but(D:DL K l2 lr H fp t q h)(b:bf l2 H H')(st:dA H l2):DL K l2 lr H' fp t q h:=by
 let#[v,e,w,n]:=D;let#[xs,l1]:=st.some;apply#[v,b _ _ e (aR e l1 nofun),?_,n];cases o:q.2.2 with
 |none=>rw[o] at w;exact w
 |some ws=>
  rw[o] at w;let#[a,ys,ea,ha,tu]:=w;exact#[a,ys,ea,b _ _ ha (n a ea).2.1,me tu b l1]
end
def YF:∀{ps:aJ}{i:Nat}{n:Str},(ps.map (·.1)).Nodup->(ps.map (·.1))[i]? = some n->cU ps n=ps.take i++ps.drop (i+1)
 |q::ps,0,n,nd,e=>by
  have e:q.1=n:=c7 e;subst e;let nd:=j5.mp (show (q.1::ps.map (·.1)).Nodup from nd);unfold cU;rw[D7 Z2];show _=ps;exact List.filter_eq_self.mpr λx hx=>cj λz=>nd.1 (bo.mpr #[x,hx,z])
 |q::ps,i+1,n,nd,e=>by
  let nd:=j5.mp (show (q.1::ps.map (·.1)).Nodup from nd);have e:(ps.map (·.1))[i]? = some n:=e;have ne:q.1≠n:=λz=>nd.1 (by rw[z];exact dz e);let ih:=YF nd.2 e;unfold cU at ih ⊢;rw[D8 ⇑ne,ih];rfl
 |[],_,_,_,e=>by simp at e
def Nm.noZ{ns:ae}(N:Nm 30 ns):("zzzzzzzz":Str)∉ns:=λh=>by
 let#[k,w,hk,e]:=N.two (by decide) _ h;have e2:("zzzzzzzz":Str).cps.toList=[122,122,122,122,122,122,122,122]:=by decide +kernel
 rw[e2] at e;let l:=dH (λx=>x.dropLast.getLast?) e;simp only[List.dropLast_concat] at l;rw[List.getLast?_append] at l;simp at l;omega
def h5_{hs:Xa}{ts:Xb}(G:Good hs ts):("Nobody":Str)∉hs.map (·.1):=λh=>by
 let#[x,hx,e]:=bo.mp h;have:=(G.ay x hx).1;rw[e] at this;exact absurd this Z0
def ft{K:af}{H:Hp}{t:Addr}{x:Str}(e:H t\.tup [.str x,.non]):O0 K rO H (.ref t) [some x,none]:=#[t,_,Z,.of e,.cons Z (.cons Z .nil)]
def Xl{hs:Xa}{ps:aJ}{n h:Str}{wt:Int}(nn:n∉ps.map (·.1))(nm:eY n=true)(w1:1<=wt)(w2:wt<=1000000000)(hh:h∈hs.map (·.1))(f:30<=ps.length):iQ hs ps n wt h\0:=by
 unfold iQ;rw[aA (λz=>z #[nm,w1,w2,nn]),aA (λz=>z hh),aF f]
def Yp{hs:Xa}{ps:aJ}{n h:Str}{wt:Int}(nn:n∉ps.map (·.1))(nm:eY n=true)(w1:1<=wt)(w2:wt<=1000000000)(hh:h∈hs.map (·.1))(f:ps.length<30):iQ hs ps n wt h=none:=by
 unfold iQ;rw[aA (λz=>z #[nm,w1,w2,nn]),aA (λz=>z hh),aA Z1]
def km_{hs:Xa}{ps:aJ}{n h:Str}{wt:Int}(nn:n∉ps.map (·.1))(nm:eY n=true)(w1:1<=wt)(w2:wt<=1000000000)(hh:h∉hs.map (·.1)):iQ hs ps n wt h\1:=by
 unfold iQ;rw[aA (λz=>z #[nm,w1,w2,nn]),aF hh]
def WU{hs:Xa}{ps:aJ}{n h:Str}{wt:Int}(b:eY n=false∨wt<1):iQ hs ps n wt h\0:=by
 unfold iQ;rw[aF λz=>?_];rcases b with b|b
 ·rw[z.1] at b;cases b
 omega
def BdW:ae:=["goods","goods","hand","goods"]
section
variable{P:Ad}{w:Af}{K:af}{mg:Str->Option Aa}{base:Heap}{CY CG CW T1 T2:Addr}
def Tb.sm{H G:Hp}(t:Tb H T1 T2)(s:aa H G):Tb G T1 T2:=#[t.a.same s,t.b.same s,t.ne]
def Tb.bt{l:Addr}{H H':Hp}(t:Tb H T1 T2)(b:bf l H H')(st:dA H l):Tb H' T1 T2:=by
 let#[xs,hl]:=st.some;have kT:∀{T qn},cu H T qn->cu H' T qn:=λ⟨es,a1,a2⟩=>#[es,b _ _ a1 (aR a1 hl nofun),λx hx=>b _ _ (a2 x hx) (aR (a2 x hx) hl nofun)];exact#[kT t.a,kT t.b,t.ne]
def lC_{H H':Hp}{a:Addr}{xs:ag}(s:aa H H')(h:dU K H a xs):dU K H' a xs:=by
 rcases h with (h|⟨o,h⟩)|h
 ·exact .inl (.inl (s _ _ h))
 ·exact .inl (.inr #[o,s _ _ h])
 exact .inr h
def BD(K:af)(l2 lr:Addr)(hs:Xa)(ts:Xb)(ps:aJ)(fp:ai)(H:Hp)(v:V)(w:Str):Prop:=∃(b d:Addr) (q:Pc) (h:Str) (j:Nat),v=.ref b/\H b\.tup [.ref d,.str w]/\DL K l2 lr H fp d q h/\(∀ws,q.2.2\ws->qV ts ws)/\q.1.length<=1000/\iQ hs ps q.1 q.2.1 h\j/\w=Bh j
def BD.kx{l2 lr:Addr}{hs:Xa}{ts:Xb}{ps:aJ}{fp:ai}{H H':Hp}{v:V}{w:Str}(h:BD K l2 lr hs ts ps fp H v w)(k:Kx fp H H'):BD K l2 lr hs ts ps fp H' v w:=by
 let#[b,d,q,h,j,e,hb,D,r]:=h;exact#[b,d,q,h,j,e,k.tup hb,D.kx k (λ_ m=>.inl m),r]
def BD.but{l2 lr:Addr}{hs:Xa}{ts:Xb}{ps:aJ}{fp:ai}{H H':Hp}{v:V}{w:Str}(h:BD K l2 lr hs ts ps fp H v w)(b:bf l2 H H')(st:dA H l2):BD K l2 lr hs ts ps fp H' v w:=by
 let#[b',d,q,h,j,e,hb,D,r]:=h;let#[xs,hl]:=st.some;exact#[b',d,q,h,j,e,b _ _ hb (aR hb hl nofun),D.but b st,r]
structure WK(K:af)(CY CW T1 T2:Addr)(H:Hp)(l2 lh lt ln lr y p dp dh ld tl lb:Addr)(r:Str)(hs:Xa)(ts:Xb)(ns:ae)(S:YS)(fp:ai)(ps:aJ)(q:Pc)(h:Str)(bs:ag):Prop where
 tb:Tb H T1 T2
 Y:du K CY CW H y p dp dh ld r hs ts S fp
 O:fN hs ts S
 L:LL K l2 lh lt ln lr H hs ts ns ps fp
 ep:S.ps=ps
 D:DL K l2 lr H fp tl q h
 b:H lb\.lst bs/\lb∉fp/\lb≠l2/\Paired (BD K l2 lr hs ts ps fp H) bs BdW
section
variable{H H':Hp}{l2 lh lt ln lr y p dp dh ld tl lb:Addr}{r:Str}{hs:Xa}{ts:Xb}{ns:ae}{S S':YS}{fp:ai}{ps:aJ}{q:Pc}{h:Str}{bs:ag}
def WK.kx(W:WK K CY CW T1 T2 H l2 lh lt ln lr y p dp dh ld tl lb r hs ts ns S fp ps q h bs)(k:Kx fp H H')(tb:Tb H' T1 T2)(Y:du K CY CW H' y p dp dh ld r hs ts S' fp)(O:fN hs ts S')(ep:S'.ps=S.ps):WK K CY CW T1 T2 H' l2 lh lt ln lr y p dp dh ld tl lb r hs ts ns S' fp ps q h bs:=by
 let#[b1,b2,b3,b4]:=W.b;exact#[tb,Y,O,W.L.kx k λ_ m=>.inl m,ep.trans W.ep,W.D.kx k λ_ m=>.inl m,#[k.lst b1 b2,b2,b3,Paired.bJ b4 λ_ _ x=>x.kx k]]
def WK.same(W:WK K CY CW T1 T2 H l2 lh lt ln lr y p dp dh ld tl lb r hs ts ns S fp ps q h bs)(s:aa H H'):WK K CY CW T1 T2 H' l2 lh lt ln lr y p dp dh ld tl lb r hs ts ns S fp ps q h bs:=W.kx (Kx.of s) (W.tb.sm s) (W.Y.same s) W.O Z
def WK.but(W:WK K CY CW T1 T2 H l2 lh lt ln lr y p dp dh ld tl lb r hs ts ns S fp ps q h bs)(b:bf l2 H H')(st:dA H' l2):WK K CY CW T1 T2 H' l2 lh lt ln lr y p dp dh ld tl lb r hs ts ns S fp ps q h bs:=by
 let#[b1,b2,b3,b4]:=W.b;exact#[W.tb.bt b W.L.st,W.Y.but b W.L.st W.L.nf.1,W.O,W.L.but b st,W.ep,W.D.but b W.L.st,#[b _ _ b1 b3,b2,b3,Paired.bJ b4 λ_ _ x=>x.but b W.L.st]]
end
abbrev lwN:ae:=[zh,iE,"_law_hands","_law_ties","_law_web_here","_law_yard","_law_deeds","_law_names_here","_law_rows","_law_name","_law_deed","_law_last","_law_bad","_law_turn","_law_word","_law_told","_law_gone"]
def iR:bA lwN [zh] (aM hV):=bI
def oU(K:af)(T1 T2:Addr):Sp:=λvs H Q _=>∃(a:Addr) (ns:List Int),vs=[.ref a]/\Tb H T1 T2/\dU K H a (ns.map V.int)/\ns.length<=63/\∀H',Q (.bl true) H'
def lR_{f0:Addr}{fd:Ae}(F:bc K "law" "law" hV f0 fd)(B:Bi mg)(T:fW K CY)(cC:!bH 1 "_law_cell_at" p6 (tQ K))(cD:!bH 1 zp A0 DZ)(cN:!bH 2 "_law_names" p_ Si)(cL:!bH 3 "_law_web" [iE,"_law_most"] (tM K))(cR:!bH 2 "_law_rule" [iE] tJ)(cW:!jQ CW 5 "Web" ["self","hands","ties"] (mG K CW))(cY:!jQ CY 3 "Yard" ["self","web","rule"] (Sj K CY CW))(_O:!bH 3 "_law_come" wu (R8 K))(A3:!bH 11 "_law_tried" ["_law_yard","_law_deed"] (Sb K CY CW T1 T2))(cF:!bH 11 "_law_full" E1 (MS K CY CW)):!ak bg 12 f0 fd [zh] (oU K T1 T2):=by
 exists F.bN iR;let#[ls,V0,rfl,tb,IM,h63,k]:=h;let sz:=cX;refine' #[_,?r0,?kk]
 case' r0=>refine' ao ?s1 ?r1
 case' r1=>refine' ao ?s2 ?r2
 case' r2=>refine' ao ?s3 ?r3
 case' r3=>refine' ao ?s4 ?r4
 case' r4=>refine' ao ?s5 ?r5
 case' r5=>refine' ao ?s6 ?r6
 case' r6=>refine' ao ?s7 ?r7
 case' r7=>refine' ao ?s8 ?r8
 case' r8=>refine' ao ?s9 ?r9
 case' r9=>refine' ao ?iJ ?O5
 case' O5=>refine' ao ?Ah ?r11
 case' r11=>refine' ao ?s12 ?r12
 case' r12=>refine' ao ?xY ?r13
 case' r13=>refine' ao ?Lw ?An
 case' An=>refine' ao ?s15 (aK ?s16)
 case s1=>exact bC 1 iR.nd (dI %[bp cC hr %[0,aH|0]|0])
 case s2=>exact JJ (bp cL hr %[1,aH|0]) (qP Z (eF (dF 2 iR.nd) (eF (dF 3 iR.nd) kZ)))
 case s3=>exact bC 4 iR.nd (Jz cW hr %[2,3|0])
 case s4=>exact bC 5 iR.nd (Jz cY hr %[4,bp cR hr %[1|0]|0])
 case s5=>exact bC 6 iR.nd (dI %[bp cC hr %[0,aH|0]|0])
 case s6=>exact bC 7 iR.nd (bp cN hr %[6,aH|0])
 case s7=>exact bC 8 iR.nd (dI aX)
 case' s8=>refine' gc fV Z (eS (pv 7)) (dF 9 iR.nd) (ao ?b1 (ao ?b2 (aK ?b3)))
 case b1=>exact bC 10 iR.nd (bp _O hr %[6,dI %[9|0],2,3|0])
 case b2=>exact iX (jL jI xo xq v_ (pv 8) %[dS %[9,bE cg (pv 10) aH|0]|0])
 case b3=>exact bQ (dm (M3 vT (oy hr 0)) (bp A3 hr %[5,10|0]) (dS %[bL,vY|0])) fC bR
 case s9=>exact bC 11 iR.nd (bp _O hr %[6,dI %[bL|0],2,3|0])
 case' iJ=>refine' bC 12 iR.nd ?Ph
 case' Ph=>refine' dI %[?Pg,?Pe|0]
 case Pg=>exact dS %[11,bL|0]
 case' Pe=>refine' dS %[?Pd,bL|0]
 case Pd=>exact dS %[bL,bL,aH,bE cg (pv 11) aH,bE cg (pv 11) aH|0]
 case' Ah=>refine' bC 12 iR.nd (bV Fc (pv 12) ?Pb)
 case' Pb=>refine' dI %[?Pa,?O_|0]
 case' Pa=>refine' dS %[?O9,bL|0]
 case O9=>exact dS %[bL,bL,aH,bL,vY|0]
 case' O_=>refine' dS %[?O8,bL|0]
 case O8=>exact dS %[bL,bL,aH,bE cg (pv 11) aH,vY|0]
 case' s12=>refine' gc fV Z (Nz (by rfl) B.range %[aH|0]) (dF 13 iR.nd) (ao ?c1 (ao ?c2 (aK ?c3)))
 case' c1=>refine' gc fV Z (eS (pv 12)) (qP Z (eF (dF 10 iR.nd) (eF (dF 14 iR.nd) kZ))) (aK ?d1)
 case d1=>exact bQ (rY (dm (M3 vT (oy hr 0)) (bp A3 hr %[5,10|0]) (dS %[14,vY|0])) (sr (fP (fo (bp cF hr %[5,8|0]))))).pt fC bR
 case c2=>exact JJ (bp A3 hr %[5,dS %[bL,bV jM aH (bp cD hr %[6,aH|0])|0]|0]) (qP Z (eF (dF 14 iR.nd) (eF (dF 15 iR.nd) kZ)))
 case c3=>exact bQ (rY (dm ze (pv 14) bL) (sr (fP (fo (bp cF hr %[5,8|0]))))).pt fC bR
 case xY=>exact bC 16 iR.nd (bp cD hr %[6,aH|0])
 case' Lw=>refine' bQ (rY ?e1 (sr ?e2)).pt fC bR
 case e1=>exact dm (M3 vT (oy hr 0)) (bp A3 hr %[5,dS %[bL,bE iF (pv 7) (pv 16)|0]|0]) (dS %[bL,vY|0])
 case e2=>exact dm (M3 vT (oy hr 0)) (bp A3 hr %[5,11|0]) (dS %[bL,vY|0])
 case s15=>exact bC 8 iR.nd (bV Fc (bV Fc (FF Fg (pv 8) Fo (Fn (pv 16))) (FF Fg (pv 8) (Fn (bV jM (pv 16) aH)) Fo)) (dI %[dS %[bL,bE cg (pv 11) aH|0]|0]))
 case' s16=>refine' bw (qO (bp cF hr %[5,8|0]) (qQ ?g1))
 case' g1=>refine' sd (k3_ vT (oy hr 0)) (bp A3 hr %[5,?g2|0]) (dS %[bL,vY|0])
 case g2=>exact dS %[bL,bE iF (pv 7) (pv 16),aH,bE cg (pv 11) aH,vY|0]
 apply#[_,Z,ls,V0,0,Z,by decide,IM,λn0=>?_];apply#[zl,λl nl=>?_];let s0:=aa.new (o:=.lst [.int n0]) nl;have GI:dA (upd H l (.lst [.int n0])) l:=.inl #[n0,aE];lk;generalize upd H l _=H0 at s0 GI ⊢;apply#[_,Z,l,Z,GI,λt0 lh lt yh yt hs ts H2 b2 d_ Ey vF dB V2 yJ Lg yE Ol Gd _=>?_];apply#[t0,_,Z,.of Ey,Z,_,_,Z,_,_,Z,Z,?_];dsimp only;have HM:lh≠l:=GI.ne vF;have wU:lt≠l:=GI.ne dB;have cq:aa H H2:=λc o e=>b2 _ _ (s0 _ _ e) (bB e nl);clear b2 GI Ey vF dB s0;let PU:=bG Lg;rw[aq] at PU;let h0:=Gd.h1;let h8:=Gd.h8;apply#[_,Z,_,Z,λp dx hp yM Er=>?_];have s3:aa H2 (upd (upd H2 dx (.own p)) p (.ins CW dx [])):=(aa.new yM).trans (aa.new (by rw[aD Er.symm];exact hp));let AC:=us (upd H2 dx (.own p)) p (.ins CW dx []);generalize upd (upd H2 dx (.own p)) p _=H3 at s3 AC ⊢;apply#[p,dx,lh,lt,yh,yt,hs,ts,Z,AC,s3 _ _ yJ,Lg.same s3,s3 _ _ yE,Ol.same s3,Gd,λbq H4 k4 W fw=>#[Z,?_]];lk;have wQ:aa H2 H4:=λb o e=>k4 b o (s3 _ _ e) (bB e hp)
 have old:∀c o,H2 c\o->c∉bq:=λc o e m=>by
  rcases fw c m with z|z
  ·rw[z,hp] at e;cases e
  rw[s3 _ _ e] at z;cases z
 let js:=d_.same wQ;clear k4 fw s3 AC;apply#[_,Z,_,Z,l,Z,js,λr H5 eA b5 jT=>?_]
 have W5:eC K CW H5 p hs ts bq:=W.keep (λc hc o e=>b5 c o e λz=>by
  let#[xs,hl]:=d_.some;exact old l _ hl (z▸hc)) λc xs e=>by
  let#[ys,hl]:=js.some;exact b5 c _ e (aR e hl nofun)
 intro y E5 hy EH V9;have s6:aa H5 (upd (upd H5 E5 (.own y)) y (.ins CY E5 [])):=(aa.new EH).trans (aa.new (by rw[aD V9.symm];exact hy));let qw:=us (upd H5 E5 (.own y)) y (.ins CY E5 []);generalize upd (upd H5 E5 (.own y)) y _=H6 at s6 qw ⊢
 have yw:y∉bq:=λm=>by
  let#[o,e]:=W5.has m;rw[hy] at e;cases e
 apply#[y,E5,p,r,hs,ts,bq,eA,Z,qw,W5.same s6,yw,λdp dh ld fp f H7 k7 Y fy=>#[Z,?_]];lk;have Za:∀c o,H5 c\o->H7 c\o:=λc o e=>k7 c o (s6 _ _ e) (bB e hy);have AR:∀c o,H2 c\o->c≠l->H7 c\o:=λc o e n=>Za _ _ (b5 _ _ (wQ _ _ e) n);have OX:aa H H7:=λc o e=>AR c o (cq _ _ e) (bB e nl)
 have PF:∀c o,H2 c\o->c≠l->c∉fp:=λc o e n m=>by
  rcases fy c m with z|z|z
  ·rw[z] at e;rw[b5 _ _ (wQ _ _ e) (z▸n)] at hy;cases hy
  ·exact old c o e z
  rw[s6 _ _ (b5 _ _ (wQ _ _ e) n)] at z;cases z
 let yI:=AR _ _ yJ HM;let yD:=AR _ _ yE wU;let#[xl,jy]:=d_.some;have F9:bj K H7 yh (hs.map kH):=jO Lg λc xs e=>AR c _ e (aR e jy nofun);have La:bj K H7 yt (ts.map kT):=jO Ol λc xs e=>AR c _ e (aR e jy nofun);let V3:=PF _ _ yJ HM;let Hn:=PF _ _ yE wU;let qh:=tb.sm OX;let IL:=lC_ (K:=K) OX IM;have O7:fN hs ts #[[],f,0,0,[]]:=#[Gd,λq hq=>by simp at hq,by simp,by simp,λn hn=>by simp at hn];clear Za AR OX PF tb IM cq wQ old d_ js jT W W5 yw fy k7 s6 qw hy EH V9 hp yM Er b5 yJ Lg yE Ol jy;apply#[_,Z,ls,V0,1,Z,by decide,IL,λn1=>?_];apply#[zl,λl2 yr=>?_]
 have LJ:∀{c:Addr},H7 c=none->c∉fp:=λn m=>by
  let#[o,e,_]:=Y.has _ m;rw[n] at e;cases e
 let s8:=aa.new (o:=.lst [.int n1]) yr;have Ll:dA (upd H7 l2 (.lst [.int n1])) l2:=.inl #[n1,aE];lk;generalize upd H7 l2 _=H8 at s8 Ll ⊢;apply#[_,Z,l2,30,Z,by decide,Ll,λln ns H9 b9 zY Hq Cv N=>?_];lk;apply#[zl,λlr vi=>?_];let#[iJ,De]:=bS (X:=.lst []) vi;show gZ _ _ _ (upd H9 lr (.lst [])) _;generalize upd H9 lr _=jk at iJ De ⊢;lk;have yS:∀c o,H7 c\o->jk c\o:=λc o e=>iJ _ _ (b9 _ _ (s8 _ _ e) (bB e yr));have nE:aa H7 jk:=yS;have wV:ln≠l2:=Ll.ne Hq;have lrl:lr≠l2:=zY.ne vi;have Ho:H7 ln=none:=s8.free Hq
 have yq:H7 lr=none:=by
  cases z:H7 lr with
  |none=>rfl
  |some o=>
   rw[b9 _ _ (s8 _ _ z) (bB z yr)] at vi;cases vi
 have N5:LL K l2 lh lt ln lr jk hs ts ns [] fp:=#[#[yh,yS _ _ yI,F9.same nE],#[yt,yS _ _ yD,La.same nE],iJ _ _ Cv,#[[],De,.nil],zY.same iJ,#[LJ yr,V3,Hn,LJ Ho,LJ yq],#[bB yI yr,bB yD yr,wV,lrl]];have B2:lh≠lr/\lt≠lr/\ln≠lr:=#[bB yI yq,bB yD yq,bB Cv vi];let K1:=Y.same nE;let sT:=qh.sm nE;clear IL qh Ll zY Hq Cv vi De b9 s8 Ho yq yS nE iJ yI F9 yD La Y LJ yr V3 Hn;let len:=N.len;let nd:=N.nd;have F7:(ts.map kO).Nodup:=Gd.F7
 let bx:bX:=λi σ H'=>∃(v9 v10:aQ) (S:YS) (fp:ai),σ=[some (.ref ls),some (.ref l),some (.ref lh),some (.ref lt),some (.ref p),some (.ref y),some (.ref l2),some (.ref ln),some (.ref lr),v9,v10,none,none,none,none,none,none]/\Tb H' T1 T2/\du K CY CW H' y p dp dh ld r.1 hs ts S fp/\fN hs ts S/\LL K l2 lh lt ln lr H' hs ts ns S.ps fp/\S.ps.map (·.1)=ns.take i/\S.ds.length<=i
 apply#[_,Z,ln,Z,#[_,.of N5.n],jh (K:=K) (a:=ln) (xs:=ns.map V.str) bx #[none,none,_,fp,Z,sT,K1,O7,N5,Z,bD _] (λi σ H' _ ⟨_,_,_,_,_,_,_,_,L,_⟩=>.of L.n) ?_ ?_]
 ·clear N5 K1 sT O7;rintro i x σ H1 hx ⟨v9,v10,S,fp,rfl,Ge,Y1,O1,L1,en,Wt⟩;let#[n,hn,rfl]:=lZ hx;have hi:i<ns.length:=(cK.mp hn).1;lk;apply#[_,Z,_,Z,zl,λl3 Hv=>?_];let s2:=aa.new (o:=.lst [.str n]) Hv;have e2:upd H1 l3 (.lst [.str n]) l3\.lst ([n].map V.str):=aE;let L2:=L1.same s2;have P8:l3≠l2:=L1.st.ne Hv;let O1':=O1;let sS:=Ge.sm s2;let Y2:=Y1.same s2;generalize upd H1 l3 _=H2 at s2 e2 L2 sS Y2 ⊢;let#[ys,h1,h2]:=id L2.h;let#[zs,t1,t2]:=id L2.t;dsimp only[List.set];apply#[_,Z,_,Z,l2,l3,lh,lt,[n],ys,zs,hs,ts,Z,L2.st,e2,P8,Nat.one_pos,by show 1<=1000;decide,h1,L2.ne.1,h2,h0,by omega,t1,L2.ne.2.1,t2,Gd.tH,Gd.tok,F7,λt v q h H3 b3 j_ mq w1 w2 hh wy fr gw nt et=>?_];obtain rfl:q.1=n:=oC.mp mq;let L3:=L2.but b3 j_;let lN:=sS.bt b3 L2.st;let Y3:=Y2.but b3 L2.st L2.nf.1
  have vf:∀a,v=.ref a->a∉fp/\a≠l2/\a≠lr:=λa e=>by
   let na:=fr a e;apply#[λm=>?_,λz=>?_,λz=>?_]
   ·let#[o,e',_]:=Y2.has a m;rw[na] at e';cases e'
   ·let#[xs,e']:=L2.st.some;rw[<- z,na] at e';cases e'
   let#[rs,e',_]:=L2.r;rw[<- z,na] at e';cases e'
  have D3:DL K l2 lr H3 fp t q h:=#[v,et,wy,vf];clear b3 j_ e2 t1 t2 h1 h2 L2 sS Y2 fr s2 Ge Y1 L1;apply setG ?_;dsimp only[List.set];let#[rs,r1,r2]:=id L3.r;let PX:=bG r2;rw[aq] at PX
  have ei:S.ps.length=i:=by
   have:=dH List.length en;rw[aq,dZ] at this;omega
  apply#[_,Z,.inl #[Z,_,.of r1],_,Z,_,Z,t,_,_,_,Z,Z,.of et,L2.fU (j:=2) Z,zl,λa na=>?_];let s4:=aa.new (o:=.tup [.str q.1,.int q.2.1]) na;have ea:upd H3 a (.tup [.str q.1,.int q.2.1]) a\.tup ((rD (gi q)).map kV):=aE;let L4:=L3.same s4;let D4:=D3.same s4;let iH:=lN.sm s4;let Y4:=Y3.same s4;let An:=s4 _ _ r1;let O2:=r2.same s4;generalize upd H3 a _=H4 at s4 ea L4 D4 iH Y4 An O2 ⊢;clear L3 D3 lN Y3 r1 r2 et wy;apply#[lr,rs,_,Z,Z,An,by omega,?_];let#[b5,Sa]:=lM H4 lr (X:=.lst (rs++[.ref a]));generalize upd H4 lr _=H5 at b5 Sa ⊢;have pH:∀c xs,H4 c\.tup xs->H5 c\.tup xs:=λc xs e=>b5 _ _ e (aR e An nofun);let Y5:=Y4.keep (λc hc o e=>b5 c o e λz=>L4.nf.2.2.2.2 (z▸hc)) pH
  have jS:Tb H5 T1 T2:=by
   have kT:∀{T qn},cu H4 T qn->cu H5 T qn:=λ⟨es,a1,a2⟩=>#[es,b5 _ _ a1 (aR a1 An nofun),λx hx=>b5 _ _ (a2 x hx) (aR (a2 x hx) An nofun)];exact#[kT iH.a,kT iH.b,iH.ne]
  let#[v,et,wy,vf]:=D4;let et5:=pH _ _ et
  have wy5:bO K H5 v q.2.2:=by
   cases o:q.2.2 with
   |none=>rw[o] at wy;exact wy
   |some ws=>
    rw[o] at wy;let#[a',xs,e',ha,tu]:=wy;exact#[a',xs,e',b5 _ _ ha (vf a' e').2.2,jO tu pH]
  let#[ys,h1,h2]:=L4.h;let#[zs,t1,t2]:=L4.t;have B_:lh≠lr/\lt≠lr/\ln≠lr/\l2≠lr:=#[B2.1,B2.2.1,B2.2.2,L4.ne.2.2.2.symm]
  have L5:LL K l2 lh lt ln lr H5 hs ts ns (S.ps++[gi q]) fp:=#[#[ys,b5 _ _ h1 B_.1,jO h2 pH],#[zs,b5 _ _ t1 B_.2.1,jO t2 pH],b5 _ _ L4.n B_.2.2.1,#[_,Sa,by rw[cZ];exact iU (jO O2 pH) (.cons #[a,Z,pH _ _ ea] .nil)],(by
   rcases L4.st with⟨x,e⟩|⟨x,y,z,e⟩
   ·exact .inl #[x,b5 _ _ e B_.2.2.2]
   exact .inr #[x,y,z,b5 _ _ e B_.2.2.2]),L4.nf,L4.ne]
  have en':q.1∉S.ps.map (·.1):=by
   rw[en];intro m;let#[j,hj,e]:=j3 m;rw[List.getElem_take] at e
   have lj:j<i:=by
    rw[dZ] at hj;omega
   have:=(List.getElem_inj nd).mp (e.trans (cK.mp hn).2.symm);omega
  let nq:=N.ok q.1 (dz hn);have cm:iQ hs S.ps q.1 q.2.1 h=none:=Yp en' nq w1 w2 hh Z1;clear b5 Sa pH Y4 iH L4 wy et h1 h2 t1 t2 An O2 ea s4;apply#[_,Z,_,Z,y,p,dp,dh,ld,t,hs,ts,S,fp,r,eA,Z,Y5,O1,jS,by omega,.inl #[q,h,v,et5,wy5,gw,by have:=DQ nq;omega,λ_ t' H6 gW k4 Y6 LK qJ=>?_,λj c=>by rw[cm] at c;cases c]];apply#[zl,λt3 kB=>?_];let s7:=aa.new (o:=.tup [.str "told",.non]) kB;apply#[_,_,ft (s7 _ _ qJ),ft aE,_,Z,br (λc=>by simp at c) (λ_=>?_)]
  exact#[_,_,S.ik hs q h,gW,Z,(wB.tb Y5 k4 jS).sm s7,Y6.same s7,O1.ik cm gw,(L5.kx (Kx.four Y5 k4) LK).same s7,(by
   show (S.ps++[gi q]).map (·.1)=_;rw[cZ,en,KQ hn];rfl),(by
   show (S.ds++[_]).length<=_;rw[dE];show S.ds.length+1<=_;omega)]
 clear N5 K1 sT O7;rintro σ H1 ⟨v9,v10,S,fp,rfl,Ge,Y1,O1,L1,en,Wt⟩;rw[aq,xv (bD _)] at en;rw[aq,len] at Wt
 have VV:S.ps.length=30:=by
  have:=dH List.length en;rw[aq,len] at this;exact this
 have nz:("zzzzzzzz":Str)∉S.ps.map (·.1):=by rw[en];exact N.noZ
 apply#[_,Z,zl,λl3 Hv=>?_];let s2:=aa.new (o:=.lst [.str "zzzzzzzz"]) Hv;have e2:upd H1 l3 (.lst [.str "zzzzzzzz"]) l3\.lst (([("zzzzzzzz":Str)]:ae).map V.str):=aE;let L2:=L1.same s2;have P8:l3≠l2:=L1.st.ne Hv;let sS:=Ge.sm s2;let Y2:=Y1.same s2;generalize upd H1 l3 _=H2 at s2 e2 L2 sS Y2 ⊢;let#[ys,h1,h2]:=id L2.h;let#[zs,t1,t2]:=id L2.t;apply#[_,Z,_,Z,l2,l3,lh,lt,["zzzzzzzz"],ys,zs,hs,ts,Z,L2.st,e2,P8,Nat.one_pos,by show 1<=1000;decide,h1,L2.ne.1,h2,h0,by omega,t1,L2.ne.2.1,t2,Gd.tH,Gd.tok,F7,λtl v q h H3 b3 j_ mq w1 w2 hh wy fr gw nt et=>?_];have zq:q.1="zzzzzzzz":=oC.mp mq;let L3:=L2.but b3 j_;let lN:=sS.bt b3 L2.st;let Y3:=Y2.but b3 L2.st L2.nf.1
 have vf:∀a,v=.ref a->a∉fp/\a≠l2/\a≠lr:=λa e=>by
  let na:=fr a e;apply#[λm=>?_,λz=>?_,λz=>?_]
  ·let#[o,e',_]:=Y2.has a m;rw[na] at e';cases e'
  ·let#[xs,e']:=L2.st.some;rw[<- z,na] at e';cases e'
  let#[rs,e',_]:=L2.r;rw[<- z,na] at e';cases e'
 clear b3 j_ e2 t1 t2 h1 h2 L2 sS Y2 fr s2 Ge Y1 L1;apply setG ?_;dsimp only[List.set];have Pw:eY ("zzzzzzzz":Str)=true:=by decide +kernel
 have LG:∀{G:Hp} {d:Addr} {x:Str} {wt:Int} {hd:Str} {o:Option (Xb)} {u:V},aa H3 G->G d\.tup [.str "come",.str x,.int wt,.str hd,u]->((u=v/\o=q.2.2)∨(u=.non/\o=none))->DL K l2 lr G fp d (x,wt,o) hd:=λ{G d x wt hd o u} s e z=>by
  rcases z with⟨rfl,rfl⟩|⟨rfl,rfl⟩
  ·exact#[u,e,wy.same s,vf]
  exact#[.non,e,Z,λa z=>by cases z]
 apply#[_,Z,zl,λb1 Wf=>?_];let#[s4,Su]:=bS (X:=.tup [.ref tl,.str "goods"]) Wf;generalize upd H3 b1 _=H4 at s4 Su ⊢;let R_:=s4 _ _ et;apply#[_,Z,tl,_,_,_,Z,Z,.of R_,L2.fU (j:=3) Z,_,Z,tl,_,_,_,Z,Z,.of R_,L2.fU (j:=4) Z,zl,λd2 Wb=>?_];let#[s5,Sn]:=bS (X:=.tup [.str "come",.str "zzzzzzzz",.int 0,.str h,v]) Wb;generalize upd H4 d2 _=H5 at s5 Sn ⊢;apply#[zl,λb2 LR=>?_];let#[s6,Ss]:=bS (X:=.tup [.ref d2,.str "goods"]) LR;generalize upd H5 b2 _=H6 at s6 Ss ⊢;apply#[zl,λWv Hu=>?_];let#[s7,ET]:=bS (X:=.lst [.ref b1,.ref b2]) Hu;generalize upd H6 Wv _=H7' at s7 ET ⊢;apply setG ?_;dsimp only[List.set];apply#[_,Z,zl,λd3 Wa=>?_];let#[s8,JO]:=bS (X:=.tup [.str "come",.str "zzzzzzzz",.int 5,.str "Nobody",.non]) Wa;generalize upd H7' d3 _=H8' at s8 JO ⊢;apply#[zl,λb3 We=>?_];let#[s9,Sr]:=bS (X:=.tup [.ref d3,.str "hand"]) We;generalize upd H8' b3 _=H9' at s9 Sr ⊢;let Lv:=((((s4.trans s5).trans s6).trans s7).trans s8).trans s9;apply#[_,Z,tl,_,_,_,Z,Z,.of (Lv _ _ et),L2.fU (j:=3) Z,zl,λd4 V_=>?_];let#[sA,Sm]:=bS (X:=.tup [.str "come",.str "Z",.int 5,.str h,.non]) V_;generalize upd H9' d4 _=HA at sA Sm ⊢;apply#[zl,λb4 Wc=>?_];let#[sB,Sq]:=bS (X:=.tup [.ref d4,.str "goods"]) Wc;generalize upd HA b4 _=HB at sB Sq ⊢;apply#[zl,λWu Ht=>?_];let#[sC,yW]:=bS (X:=.lst [.ref b3,.ref b4]) Ht;generalize upd HB Wu _=HC at sC yW ⊢;let Lq:=(sA.trans sB).trans sC;let OW:=(s8.trans s9).trans Lq;apply#[Wv,Wu,_,_,Z,Z,OW _ _ ET,yW,zl,λlb PB=>?_];let#[sD,Sf]:=bS (X:=.lst [.ref b1,.ref b2,.ref b3,.ref b4]) PB;show gZ _ _ _ (upd HC lb (.lst [.ref b1,.ref b2,.ref b3,.ref b4])) _;generalize upd HC lb _=HD at sD Sf ⊢;apply setG ?_;dsimp only[List.set];let xX:=OW.trans sD;let Lp:=Lq.trans sD;let uQ:=Lv.trans Lp;have B5:H3 lb=none:=(Lv.trans Lq).free PB
 have WD:WK K CY CW T1 T2 HD l2 lh lt ln lr y p dp dh ld tl lb r.1 hs ts ns S fp S.ps q h [.ref b1,.ref b2,.ref b3,.ref b4]:=by
  apply#[lN.sm uQ,Y3.same uQ,O1,L3.same uQ,Z,#[v,uQ _ _ et,wy.same uQ,vf],#[Sf,λm=>?_,L3.st.ne B5,?_]]
  ·let#[o,e,_]:=Y3.has _ m;rw[B5] at e;cases e
  apply .cons #[b1,tl,q,h,0,Z,((s5.trans s6).trans s7).trans xX _ _ Su,#[v,uQ _ _ et,wy.same uQ,vf],gw,by rw[zq];decide +kernel,?_,Z] (.cons #[b2,d2,("zzzzzzzz",0,q.2.2),h,0,Z,s7.trans xX _ _ Ss,LG uQ ((s6.trans s7).trans xX _ _ Sn) (.inl #[Z,Z]),gw,(show ("zzzzzzzz":Str).length<=1000 by decide +kernel),WU (.inr (show (0:Int)<1 by decide)),Z] (.cons #[b3,d3,("zzzzzzzz",5,none),"Nobody",1,Z,Lp _ _ Sr,LG uQ (s9.trans Lp _ _ JO) (.inr #[Z,Z]),(λws z=>by cases z),(show ("zzzzzzzz":Str).length<=1000 by decide +kernel),km_ nz Pw (show (1:Int)<=5 by decide) (show (5:Int)<=1000000000 by decide) (h5_ Gd),Z] (.cons #[b4,d4,("Z",5,none),h,0,Z,sC.trans sD _ _ Sq,LG uQ ((sB.trans sC).trans sD _ _ Sm) (.inr #[Z,Z]),(λws z=>by cases z),(show ("Z":Str).length<=1000 by decide +kernel),WU (.inl (show eY ("Z":Str)=false by decide +kernel)),Z] .nil)));exact Xl (by rw[zq];exact nz) (by rw[zq];exact Pw) w1 w2 hh Z1
 clear uQ Lp xX sD Sf PB OW Lq sC yW Ht sB Sq Wc sA Sm V_ Lv s9 Sr We s8 JO Wa s7 ET Hu s6 Ss LR s5 Sn Wb R_ s4 Su Wf LG B5 lN Y3 L3 et wy vf;generalize ([.ref b1,.ref b2,.ref b3,.ref b4]:ag)=bs at WD
 have full:∀{G:Hp} {S1:YS} {R:V->Hp->Prop},WK K CY CW T1 T2 G l2 lh lt ln lr y p dp dh ld tl lb r.1 hs ts ns S1 fp S.ps q h bs->(∀G',WK K CY CW T1 T2 G' l2 lh lt ln lr y p dp dh ld tl lb r.1 hs ts ns S1 fp S.ps q h bs->R (.bl true) G')->MS K CY CW ([.ref y,.ref lr]++[]) G R E0:=λ{G S1 R} W k=>by
  let#[rs,r1,r2]:=W.L.r;exact#[y,p,dp,dh,ld,lr,rs,r.1,hs,ts,S1,fp,Z,W.Y,W.O,r1,by rw[W.ep];exact r2,λG' s=>k G' (W.same s)]
 let ck:bX:=λj σ H'=>∃(v10 U_ Bj F1:aQ) (S1:YS),σ=[some (.ref ls),some (.ref l),some (.ref lh),some (.ref lt),some (.ref p),some (.ref y),some (.ref l2),some (.ref ln),some (.ref lr),v9,v10,some (.ref tl),some (.ref lb),U_,Bj,F1,none]/\WK K CY CW T1 T2 H' l2 lh lt ln lr y p dp dh ld tl lb r.1 hs ts ns S1 fp S.ps q h bs/\S1.ds.length<=30+60 * j
 apply#[2,Z,by decide,by decide,Nw (lo:=0) (n:=2) ck #[v10,none,none,none,S,Z,WD,by omega] ?_ ?_]
 ·clear WD;rintro j σ G hj ⟨v10,U_,Bj,F1,S1,rfl,W1,l1⟩;apply setG ?_;dsimp only[List.set];let pb:=W1.b.2.2.2;let lbs:=bG pb
  let oE:bX:=λi σ H'=>∃v10 Bj:aQ,σ=[some (.ref ls),some (.ref l),some (.ref lh),some (.ref lt),some (.ref p),some (.ref y),some (.ref l2),some (.ref ln),some (.ref lr),v9,v10,some (.ref tl),some (.ref lb),some (.int (0+(j:Int))),Bj,F1,none]/\WK K CY CW T1 T2 H' l2 lh lt ln lr y p dp dh ld tl lb r.1 hs ts ns S1 fp S.ps q h bs
  apply#[_,Z,lb,Z,#[_,.of W1.b.1],jh (K:=K) (a:=lb) (xs:=bs) oE #[v10,Bj,Z,W1] (λi σ H' _ ⟨_,_,_,W⟩=>.of W.b.1) ?_ ?_]
  ·clear W1 pb;rintro i x σ G1 hx ⟨U9,U8,rfl,W⟩;have hi:i<bs.length:=(cK.mp hx).1;let bd:=jg W.b.2.2.2 i hi Z1;rw[(cK.mp hx).2] at bd;generalize BdW[i]' Z1=wd at bd;let#[b,d,qd,hd,jj,rfl,eb,#[v,ed,wy,vf],go,nl,cm,rfl]:=bd;have cm:iQ hs S1.ps qd.1 qd.2.1 hd\jj:=by rw[W.ep];exact cm
   apply#[b,_,Z,.of eb,Z,_,_,Z,_,_,Z,Z,?_];dsimp only[List.set];apply#[_,Z,_,Z,y,p,dp,dh,ld,d,hs,ts,S1,fp,r,eA,Z,W.Y,W.O,W.tb,by omega,.inl #[qd,hd,v,ed,wy,go,nl,(λc=>by rw[cm] at c;cases c),λj c t' G2 s2 qJ=>?_]];rw[cm] at c;cases c;apply#[_,Z,zl,λt3 kB=>?_];let s3:=aa.new (o:=.tup [.str (Bh jj),.non]) kB;apply#[_,_,ft (s3 _ _ qJ),ft aE,_,Z,br (λc=>by simp at c) (λ_=>?_)];apply#[_,Z,_,Z,full (W.same (s2.trans s3)) λG4 W4=>#[_,Z,a_ ?_]];exact#[_,_,Z,W4]
  clear W1 pb;rintro σ G1 ⟨U9,U8,rfl,W⟩;apply#[_,Z,_,Z,l2,2,Z,by decide,by decide,W.L.st,λz G2 z0 z1 b2 d_=>#[_,_,Z,Z,zl,λt nt=>?_]];let W2:=W.but b2 d_;let#[s3,et]:=bS (X:=.tup [.str "tick",.int (1+z)]) nt;let W3:=W2.same s3;generalize upd G2 t _=G3 at et W3 ⊢;clear W W2 s3 b2 d_;apply#[y,p,dp,dh,ld,t,hs,ts,S1,fp,r,eA,Z,W3.Y,W3.O,W3.tb,by omega,.inr (.inr #[1+z,et,.inr #[1+z.toNat,by omega,by omega,λt' lm ys S2 M qs G4 km iH _ _ _ Y4 O4 ep dl _ _ qJ=>?_]])];let W4:=W3.kx (Kx.mom W3.Y W3.tb km) iH Y4 O4 ep;apply#[t',_,Z,.of qJ,Z,_,_,Z,_,_,Z,Z,?_];dsimp only[List.set];apply#[_,Z,Z,_,Z,Dn Z ?_];apply#[_,Z,_,Z,full W4 λG5 W5=>#[_,Z,a_ ?_]];exact#[_,_,_,_,S2,Z,W5,by omega]
 clear WD;rintro σ G ⟨U9,w13,U8,w15,S1,rfl,W1,l1⟩;apply#[_,Z,l2,30,Z,by decide,by decide,W1.L.st,λz G2 z0 z1 b2 d_=>?_];apply setG ?_;dsimp only[List.set];let#[z,rfl]:=xw z0;have hz:z<ns.length:=by omega
 let W2:=W1.but b2 d_;clear W1 b2 d_;have EE:ns[z]? = some (ns[z]'hz):=cE hz;generalize ns[z]'hz=n at EE;have p1:S1.ps.map (·.1)=ns:=by rw[W2.ep];exact en
 have nm:n∈S1.ps.map (·.1):=by rw[p1];exact dz EE
 let nn:=N.ok n (dz EE);apply#[_,Z,_,Z,_,Z,ln,_,_,.str n,Z,Z,.of W2.L.n,L2.fU (by rw[d0,EE];rfl),zl,λt nt=>?_];let#[s3,et]:=bS (X:=.tup [.str "go",.str n]) nt;let W3:=W2.same s3;generalize upd G2 t _=G3 at et W3 ⊢;clear W2 s3;apply#[y,p,dp,dh,ld,t,hs,ts,S1,fp,r,eA,Z,W3.Y,W3.O,W3.tb,by omega,.inr (.inl #[n,et,λc=>absurd nm c,λ_ t' G4 k4 Y4 qJ=>?_])];let Qa:=Kx.four W3.Y k4;let iH:=wB.tb W3.Y k4 W3.tb;have L4:LL K l2 lh lt ln lr G4 hs ts ns S.ps fp:=W3.L.kx Qa λ_ m=>.inl m;have D4:DL K l2 lr G4 fp tl q h:=W3.D.kx Qa λ_ m=>.inl m;let O4:=W3.O.go n;apply#[zl,λt3 kB=>?_];let s5:=aa.new (o:=.tup [.str "told",.non]) kB;apply#[_,_,ft (s5 _ _ qJ),ft aE,_,Z,br (λc=>by simp at c) (λ_=>?_)];let L5:=L4.same s5;let D5:=D4.same s5;let jS:=iH.sm s5;let Y5:=Y4.same s5;generalize upd G4 t3 _=G5 at L5 D5 jS Y5 ⊢;let e1:=W3.ep;clear W3 L4 D4 iH Y4 s5 Qa k4 et qJ kB;let#[v,ev,wy,vf]:=D5;have len1:S1.ps.length=30:=by rw[e1];exact VV
 have mid:cU S1.ps n=S1.ps.take z++S1.ps.drop (z+1):=YF (by rw[p1];exact nd) (by rw[p1];exact EE)
 have l29:(cU S1.ps n).length=29:=by
  rw[mid,dE,dZ,zB];omega
 have zn:("zzzzzzzz":Str)∉(cU S1.ps n).map (·.1):=λm=>nz (by
  rw[<- e1];exact (TK.mp m).1)
 have cm:iQ hs (S1.go hs n).ps q.1 q.2.1 h=none:=Yp (by rw[zq];exact zn) (by rw[zq];exact Pw) w1 w2 hh (by show (cU S1.ps n).length<30;omega);apply#[_,Z,_,Z,y,p,dp,dh,ld,tl,hs,ts,S1.go hs n,fp,r,eA,Z,Y5,O4,jS,?_,.inl #[q,h,v,ev,wy,gw,by rw[zq];decide +kernel,λ_ t' G6 gW k6 Y6 LK qJ=>?_,λj c=>by rw[cm] at c;cases c]]
 ·show (S1.ds++[_]).length<=_;rw[dE];show S1.ds.length+1<=_;omega
 let P_:=Kx.four Y5 k6;let Gc:=wB.tb Y5 k6 jS;let L6:=L5.kx P_ LK;let Zh:=P_.tup ev;let O6:=O4.ik cm gw;apply#[zl,λt3 kB=>?_];let s7:=aa.new (o:=.tup [.str "told",.non]) kB;apply#[_,_,ft (s7 _ _ qJ),ft aE,_,Z,br (λc=>by simp at c) (λ_=>?_)];let L7:=L6.same s7;let qh:=Gc.sm s7;let Y7:=Y6.same s7;let R6:=s7 _ _ Zh;generalize upd G6 t3 _=G7 at L7 qh Y7 R6 ⊢;clear L6 L5 Gc jS Y6 Y5 Zh ev wy vf P_ k6 qJ kB s7 LK O4;let#[rs,r1,r2]:=id L7.r;let PX:=bG r2;rw[aq] at PX;apply#[_,Z,_,Z,_,Z,lr,_,Z,.of r1,λLD np1=>?_];let s8:=aa.new (o:=.lst (fe rs none (some (z:Int)))) np1;have Zn:upd G7 LD (.lst (fe rs none (some (z:Int)))) LD\.lst (rs.take z):=by rw[aE,Tw]
 generalize upd G7 LD _=G8 at s8 Zn ⊢;apply#[_,Z,_,Z,_,_,Z,Z,_,Z,lr,_,Z,.of (s8 _ _ r1),λLC V1=>?_];let s9:=aa.new (o:=.lst (fe rs (some ((z:Int)+1)) none)) V1;have Zm:upd G8 LC (.lst (fe rs (some ((z:Int)+1)) none)) LC\.lst (rs.drop (z+1)):=by rw[aE,show (z:Int)+1=((z+1:Nat):Int) from Z,Zc]
 generalize upd G8 LC _=G9 at s9 Zm ⊢;apply#[LD,LC,_,_,Z,Z,s9 _ _ Zn,Zm,by rw[dZ,zB];omega,λp3 np3=>?_];let#[sA,Zl]:=bS (X:=.lst (rs.take z++rs.drop (z+1))) np3;show Gq _ _ (upd G9 p3 (.lst (rs.take z++rs.drop (z+1)))) _;generalize upd G9 p3 _=GA at sA Zl ⊢;let VO:=(s8.trans s9).trans sA;apply#[_,Z,tl,_,_,_,Z,Z,.of (VO _ _ R6),L2.fU (j:=2) Z,zl,λa na=>?_];let sB:=aa.new (o:=.tup [.str "zzzzzzzz",.int q.2.1]) na
 have ea:upd GA a (.tup [.str "zzzzzzzz",.int q.2.1]) a\.tup ((rD (gi q)).map kV):=by
  rw[aE];show _\HO.tup [.str q.1,.int q.2.1];rw[zq]
 generalize upd GA a _=GB at sB ea ⊢;apply#[zl,λP9 nl1=>?_];let#[sC,ET]:=bS (X:=.lst [.ref a]) nl1;show uZ _ _ (upd GB P9 (.lst [.ref a])) _;generalize upd GB P9 _=GC at sC ET ⊢;apply#[p3,P9,_,_,Z,Z,sC _ _ (sB _ _ Zl),ET,by rw[dE,dZ,zB,D0];omega,λPY Py=>?_];let#[sD,er]:=bS (X:=.lst (rs.take z++rs.drop (z+1)++[.ref a])) Py;show gZ _ _ _ (upd GC PY (.lst (rs.take z++rs.drop (z+1)++[.ref a]))) _;generalize upd GC PY _=GD at sD er ⊢;apply setG ?_;dsimp only[List.set];let VM:=sC.trans sD;let xX:=(VO.trans sB).trans VM
 have tr:bj K GD (rs.take z++rs.drop (z+1)++[.ref a]) (((S1.go hs n).ik hs q h).ps.map rD):=by
  have e:((S1.go hs n).ik hs q h).ps.map rD=(S.ps.map rD).take z++(S.ps.map rD).drop (z+1)++[rD (gi q)]:=by
   show (cU S1.ps n++[gi q]).map rD=_;rw[cZ,mid,cZ,List.map_take,List.map_drop,e1];rfl
  rw[e];exact iU (iU (NW z (r2.same xX)) (Uz (z+1) (r2.same xX))) (.cons #[a,Z,VM _ _ ea] .nil)
 apply#[_,Z,_,Z,y,p,dp,dh,ld,PY,_,r.1,hs,ts,_,gW,Z,Y7.same xX,O6,er,tr,λGE sE=>#[_,Z,cz ?_]];let OV:=xX.trans sE;let ln7:=L7.n;apply#[_,Z,_,Z,_,Z,ln,_,_,.str n,Z,Z,.of (OV _ _ ln7),L2.fU (by rw[d0,EE];rfl),_,Z,tl,_,_,_,Z,Z,.of (OV _ _ R6),L2.fU (j:=3) Z,zl,λt nt=>?_];let#[sF,et]:=bS (X:=.tup [.str "come",.str n,.int 1,.str h,.non]) nt;generalize upd GE t _=GF at sF et ⊢;let VN:=OV.trans sF
 have n2:n∉((S1.go hs n).ik hs q h).ps.map (·.1):=λm=>by
  have m:n∈(cU S1.ps n++[gi q]).map (·.1):=m;rw[cZ] at m;rcases fB.mp m with m|m
  ·exact (TK.mp m).2 Z
  have m:n=q.1:=oC.mp m;rw[m,zq] at nm;exact nz (by rw[<- e1];exact nm)
 have cm:iQ hs ((S1.go hs n).ik hs q h).ps n 1 h\0:=Xl n2 nn (by decide) (by decide) hh (by
  show 30<=(cU S1.ps n++[gi q]).length;rw[dE,l29];show 30<=29+1;decide)
 apply#[y,p,dp,dh,ld,t,hs,ts,_,gW,r,eA,Z,Y7.same VN,O6,qh.sm VN,?_,.inl #[(n,1,none),h,.non,et,Z,(λws z=>by cases z),by have:=DQ nn;show n.length<=1000;omega,(λc=>by rw[cm] at c;cases c),λj c t' GG sG qJ=>?_]]
 ·show (S1.ds++[_]++[_]).length<=_;rw[dE,dE];show S1.ds.length+1+1<=_;omega
 rw[cm] at c;cases c;apply#[zl,λt3 kB=>?_];let sH:=aa.new (o:=.tup [.str "goods",.non]) kB;apply#[_,_,ft (sH _ _ qJ),ft aE,?_];show Q (.bl (decide (([some (Bh 0),none]:List (Option Str))=[some ("goods":Str),none]))) _;rw[cj (show ([some (Bh 0),none]:List (Option Str))=[some ("goods":Str),none] from Z)];exact k _
end
structure Fd(K:af)(mg:Str->Option Aa)(x:Str)(st:Stmt):Prop where
 ex:∃f fd,bc K x x st f fd/\mg x\.ref f/\PySem.W.keepIn K (.ref f)=true
def JF{K:af}{h:Heap}{mg:Str->Option Aa}{x:Str}{st:Stmt}(X:K.In h)(G:h.Ns mainGlobals mg){f:Addr}{oc:Aa}{od an:Option Addr}{gK:Array (Option Aa)}{kV doc pm aC ct:Aa}(a:PySem.W.nsIn K mainGlobals x\some (.ref f))
 (l:K.lookup f=some #[oc,od,.func (PySem.W.fnOf x x (gY st) (fg st) (aM st) .none kV doc pm an aC ct),gK])(c:PySem.W.codeIn K aC x=true)(k:PySem.W.keepIn K (.ref f)=true):Fd K mg x st:=#[_,_,QF l c k,jG X G a,k]
structure Md(K:af)(C:Addr)(m qual:Str)(st:Stmt):Prop where
 ex:∃f fd,bc K m qual st f fd/\Meth K C m f
def HF{K:af}{C:Addr}{m qual:Str}{st:Stmt}{f:Addr}{oc:Aa}{od an:Option Addr}{gK:Array (Option Aa)}{kV doc pm aC ct:Aa}(a:PySem.W.findIn K (.ref C) m\some (.ref f))(i:PySem.W.isFn K (.ref f)=true)
 (l:K.lookup f=some #[oc,od,.func (PySem.W.fnOf m qual (gY st) (fg st) (aM st) .none kV doc pm an aC ct),gK])(c:PySem.W.codeIn K aC qual=true)(k:PySem.W.keepIn K (.ref f)=true):Md K C m qual st:=#[_,_,QF l c k,a,i,k]
def cal{P:Ad}{w:Af}{K:af}{mg:Str->Option Aa}{base:Heap}{x:Str}{st:Stmt}{k:Nat}{ps:ae}{sp:Sp}(d:Fd K mg x st)(ok:∀f fd,bc K x x st f fd->!ak bg k f fd ps sp)
 (h:∀(kV doc pm:Aa)(an:Option Addr)(aC ct:Aa)(us:aj),us.length=ps.length->bindArgs (PySem.W.fnOf x x (gY st) (fg st) (aM st) .none kV doc pm an aC ct) #[us,[]]=pure (ps.zip us)):!bH k x ps sp:=by
 let#[f,fd,F,m,kp]:=d.ex;exact#[f,fd,ok f fd F,m,kp,F.binds h]
def TX{P:Ad}{w:Af}{K:af}{mg:Str->Option Aa}{base:Heap}{C:Addr}{m qual:Str}{st:Stmt}{k:Nat}{ps:ae}{sp:Sp}(d:Md K C m qual st)(ok:∀f fd,bc K m qual st f fd->!ak bg k f fd ps sp)
 (h:∀(kV doc pm:Aa)(an:Option Addr)(aC ct:Aa)(us:aj),us.length=ps.length->bindArgs (PySem.W.fnOf m qual (gY st) (fg st) (aM st) .none kV doc pm an aC ct) #[us,[]]=pure (ps.zip us)):!aZ C k m ps sp:=by
 let#[f,fd,F,m]:=d.ex;exact#[f,fd,ok f fd F,m,F.binds h]
def T3{P:Ad}{w:Af}{K:af}{mg:Str->Option Aa}{base:Heap}{C:Addr}{x qual:Str}{st:Stmt}{k:Nat}{ps:ae}{sp:Sp}(d:Md K C "__init__" qual st)(hx:mg x\.ref C)(mk:PySem.W.makesIn K C=true)(kc:PySem.W.keepIn K (.ref C)=true)(ok:∀f fd,bc K "__init__" qual st f fd->!ak bg k f fd ps sp)
 (h:∀(kV doc pm:Aa)(an:Option Addr)(aC ct:Aa)(us:aj),us.length=ps.length->bindArgs (PySem.W.fnOf "__init__" qual (gY st) (fg st) (aM st) .none kV doc pm an aC ct) #[us,[]]=pure (ps.zip us)):!jQ C k x ps sp:=by
 let#[f,fd,F,m]:=d.ex;exact#[f,fd,ok f fd F,#[mk,m.1,m.2,kc],hx,F.binds h]
def TZ{P:Ad}{w:Af}{K:af}{mg:Str->Option Aa}{base:Heap}{x:Str}{st:Stmt}{k:Nat}{ps:ae}{sp:Sp}(d:Fd K mg x st)(ok:∀f fd,bc K x x st f fd->!ak (d8 P w) k f fd ps sp)
 (h:∀(kV doc pm:Aa)(an:Option Addr)(aC ct:Aa)(us:aj),us.length=ps.length->bindArgs (PySem.W.fnOf x x (gY st) (fg st) (aM st) .none kV doc pm an aC ct) #[us,[]]=pure (ps.zip us)):!rp k x ps sp:=by
 let#[f,fd,F,m,kp]:=d.ex;exact#[f,fd,ok f fd F,m,kp,F.binds h]
def TV{P:Ad}{w:Af}{K:af}{mg:Str->Option Aa}{base:Heap}{C:Addr}{m qual:Str}{st:Stmt}{k:Nat}{ps:ae}{sp:Sp}(d:Md K C m qual st)(ok:∀f fd,bc K m qual st f fd->!ak (d8 P w) k f fd ps sp)
 (h:∀(kV doc pm:Aa)(an:Option Addr)(aC ct:Aa)(us:aj),us.length=ps.length->bindArgs (PySem.W.fnOf m qual (gY st) (fg st) (aM st) .none kV doc pm an aC ct) #[us,[]]=pure (ps.zip us)):!lK C k m ps sp:=by
 let#[f,fd,F,m]:=d.ex;exact#[f,fd,ok f fd F,m,F.binds h]
def eP{K:af}{a:Addr}{od:Option Addr}{p q:Str}{x y:Tok}{z:Aa}{u:V}{n:Nat}{sl:Array (Option Aa)}(h:K.lookup a=some #[.type "tuple",od,.seq (List.toArray [.str p x,.str q y,z]) n,sl])(r:RelV u z):∀H,iw K H a [.str p,.str q,u]:=λH=>
 .inr #[_,_,_,h,Z,Z,(show 3<=sizeLine by decide),.cons #[x,Z] (.cons #[y,Z] (.cons r .nil))]
def rules_at{K:af}{w:Af}{mg:Str->Option Aa}{d:Addr}{es:Array DictEntry}{ep:Nat}{t0 t1 t2 t3 t4 t5 t6 t7 t8 t9 Lk Lj Li VF VE VD VC:Tok}{b0 b1 b2 b3 b4 b5 b6 b7 b8 b9 oz N1 N0 NZ zx NY A7:Addr}
 {od0 od1 od2 od3 od4 od5 od6 od7 od8 od9 Pq Pp Po Pn Pm Pk Pj:Option Addr}{x0 y0 n0 v0 x1 y1 n1 v1 x2 y2 n2 v2 x3 y3 n3 v3 x4 y4 n4 v4 x5 y5 n5 v5 x6 y6 n6 v6 x7 y7 n7 v7 x8 y8 n8 v8 x9 y9 n9 v9 x10 y10 n10 v10 x11 y11 n11 v11 x12 y12 PM x13 y13 PL x14 y14 n14 Bj x15 y15 n15 F1 x16 y16 n16 v16:Nat}{sl0 sl1 Lm sl3 sl4 sl5 sl6 sl7 sl8 sl9 OO ON OM OL OJ OI OH:Array (Option Aa)}
 (m:mg "RULES"\.ref d)(hs:(d == sysModules)=false)(hl:K.lookup d=some #[.type "dict",none,.dict es ep,#[]])(he:es.toList=MR w [("least one high",t0,.ref b0),("least one fall",t1,.ref b1),("least one calm",t2,.ref b2),("least all high",t3,.ref b3),("least all fall",t4,.ref b4),("least all calm",t5,.ref b5),("below one high",t6,.ref b6),("below one fall",t7,.ref b7),("below one calm",t8,.ref b8),("below all high",t9,.ref b9),("below all fall",Lk,.ref oz),("below all calm",Lj,.ref N1),("shares one",Li,.ref N0),("shares all",VF,.ref NZ),("turns high",VE,.ref zx),("turns fall",VD,.ref NY),("turns calm",VC,.ref A7)])
 (u0:K.lookup b0=some #[.type "tuple",od0,.seq (List.toArray [.str "least" x0,.str "one" y0,.str "high" v0]) n0,sl0])
 (u1:K.lookup b1=some #[.type "tuple",od1,.seq (List.toArray [.str "least" x1,.str "one" y1,.str "fall" v1]) n1,sl1])
 (u2:K.lookup b2=some #[.type "tuple",od2,.seq (List.toArray [.str "least" x2,.str "one" y2,.str "calm" v2]) n2,Lm])
 (u3:K.lookup b3=some #[.type "tuple",od3,.seq (List.toArray [.str "least" x3,.str "all" y3,.str "high" v3]) n3,sl3])
 (u4:K.lookup b4=some #[.type "tuple",od4,.seq (List.toArray [.str "least" x4,.str "all" y4,.str "fall" v4]) n4,sl4])
 (u5:K.lookup b5=some #[.type "tuple",od5,.seq (List.toArray [.str "least" x5,.str "all" y5,.str "calm" v5]) n5,sl5])
 (u6:K.lookup b6=some #[.type "tuple",od6,.seq (List.toArray [.str "below" x6,.str "one" y6,.str "high" v6]) n6,sl6])
 (u7:K.lookup b7=some #[.type "tuple",od7,.seq (List.toArray [.str "below" x7,.str "one" y7,.str "fall" v7]) n7,sl7])
 (u8:K.lookup b8=some #[.type "tuple",od8,.seq (List.toArray [.str "below" x8,.str "one" y8,.str "calm" v8]) n8,sl8])
 (u9:K.lookup b9=some #[.type "tuple",od9,.seq (List.toArray [.str "below" x9,.str "all" y9,.str "high" v9]) n9,sl9])
 (u10:K.lookup oz=some #[.type "tuple",Pq,.seq (List.toArray [.str "below" x10,.str "all" y10,.str "fall" v10]) n10,OO])
 (u11:K.lookup N1=some #[.type "tuple",Pp,.seq (List.toArray [.str "below" x11,.str "all" y11,.str "calm" v11]) n11,ON])
 (u12:K.lookup N0=some #[.type "tuple",Po,.seq (List.toArray [.str "shares" x12,.str "one" y12,.none]) PM,OM])
 (u13:K.lookup NZ=some #[.type "tuple",Pn,.seq (List.toArray [.str "shares" x13,.str "all" y13,.none]) PL,OL])
 (u14:K.lookup zx=some #[.type "tuple",Pm,.seq (List.toArray [.str "turns" x14,.str "all" y14,.str "high" Bj]) n14,OJ])
 (u15:K.lookup NY=some #[.type "tuple",Pk,.seq (List.toArray [.str "turns" x15,.str "all" y15,.str "fall" F1]) n15,OI])
 (u16:K.lookup A7=some #[.type "tuple",Pj,.seq (List.toArray [.str "turns" x16,.str "all" y16,.str "calm" v16]) n16,OH]):
  Np K w mg d [b0,b1,b2,b3,b4,b5,b6,b7,b8,b9,oz,N1,N0,NZ,zx,NY,A7]:=by
 apply#[m,Z,#[hs,?_,[("least one high",t0,.ref b0),("least one fall",t1,.ref b1),("least one calm",t2,.ref b2),("least all high",t3,.ref b3),("least all fall",t4,.ref b4),("least all calm",t5,.ref b5),("below one high",t6,.ref b6),("below one fall",t7,.ref b7),("below one calm",t8,.ref b8),("below all high",t9,.ref b9),("below all fall",Lk,.ref oz),("below all calm",Lj,.ref N1),("shares one",Li,.ref N0),("shares all",VF,.ref NZ),("turns high",VE,.ref zx),("turns fall",VD,.ref NY),("turns calm",VC,.ref A7)],_,es,ep,hl,#[Z,Z,Z],Z,he,?_],?_]
 ·rw[ZA Z];exact hE_
 ·exact .cons #[Z,Z] (.cons #[Z,Z] (.cons #[Z,Z] (.cons #[Z,Z] (.cons #[Z,Z] (.cons #[Z,Z] (.cons #[Z,Z] (.cons #[Z,Z] (.cons #[Z,Z] (.cons #[Z,Z] (.cons #[Z,Z] (.cons #[Z,Z] (.cons #[Z,Z] (.cons #[Z,Z] (.cons #[Z,Z] (.cons #[Z,Z] (.cons #[Z,Z] (.nil)))))))))))))))))
 exact .cons (eP u0 #[_,Z]) (.cons (eP u1 #[_,Z]) (.cons (eP u2 #[_,Z]) (.cons (eP u3 #[_,Z]) (.cons (eP u4 #[_,Z]) (.cons (eP u5 #[_,Z]) (.cons (eP u6 #[_,Z]) (.cons (eP u7 #[_,Z]) (.cons (eP u8 #[_,Z]) (.cons (eP u9 #[_,Z]) (.cons (eP u10 #[_,Z]) (.cons (eP u11 #[_,Z]) (.cons (eP u12 Z) (.cons (eP u13 Z) (.cons (eP u14 #[_,Z]) (.cons (eP u15 #[_,Z]) (.cons (eP u16 #[_,Z]) (.nil)))))))))))))))))
structure Tg(P:Ad)(w:Af)(b:Heap):Prop where
def dq{P:Ad}{w:Af}{K:af}{mg:Str->Option Aa}{base:Heap}{x:Str}{st:Stmt}{k:Nat}{ps:ae}{sp:Sp}(q:Tg P w base)(d:Fd K mg x st)(ok:∀f fd,bc K x x st f fd->!ak bg k f fd ps sp)(h:∀(kV doc pm:Aa)(an:Option Addr)(aC ct:Aa)(us:aj),us.length=ps.length->bindArgs (PySem.W.fnOf x x (gY st) (fg st) (aM st) .none kV doc pm an aC ct) #[us,[]]=pure (ps.zip us):=by first|(exact λ_ _ _ _ _ _ us (hl:us.length=1)=>match us,hl with | [_],_=>rfl)|(exact λ_ _ _ _ _ _ us (hl:us.length=2)=>match us,hl with | [_,_],_=>rfl)|(exact λ_ _ _ _ _ _ us (hl:us.length=3)=>match us,hl with | [_,_,_],_=>rfl)|(exact λ_ _ _ _ _ _ us (hl:us.length=4)=>match us,hl with | [_,_,_,_],_=>rfl)|(exact λ_ _ _ _ _ _ us (hl:us.length=5)=>match us,hl with | [_,_,_,_,_],_=>rfl)|(exact λ_ _ _ _ _ _ us (hl:us.length=0)=>match us,hl with | [],_=>rfl)):!bH k x ps sp:=cal d ok h
def jc{P:Ad}{w:Af}{K:af}{mg:Str->Option Aa}{base:Heap}{C:Addr}{m qual:Str}{st:Stmt}{k:Nat}{ps:ae}{sp:Sp}(q:Tg P w base)(d:Md K C m qual st)(ok:∀f fd,bc K m qual st f fd->!ak bg k f fd ps sp)(h:∀(kV doc pm:Aa)(an:Option Addr)(aC ct:Aa)(us:aj),us.length=ps.length->bindArgs (PySem.W.fnOf m qual (gY st) (fg st) (aM st) .none kV doc pm an aC ct) #[us,[]]=pure (ps.zip us):=by first|(exact λ_ _ _ _ _ _ us (hl:us.length=1)=>match us,hl with | [_],_=>rfl)|(exact λ_ _ _ _ _ _ us (hl:us.length=2)=>match us,hl with | [_,_],_=>rfl)|(exact λ_ _ _ _ _ _ us (hl:us.length=3)=>match us,hl with | [_,_,_],_=>rfl)|(exact λ_ _ _ _ _ _ us (hl:us.length=4)=>match us,hl with | [_,_,_,_],_=>rfl)|(exact λ_ _ _ _ _ _ us (hl:us.length=5)=>match us,hl with | [_,_,_,_,_],_=>rfl)|(exact λ_ _ _ _ _ _ us (hl:us.length=0)=>match us,hl with | [],_=>rfl)):!aZ C k m ps sp:=TX d ok h
def _E{P:Ad}{w:Af}{K:af}{mg:Str->Option Aa}{base:Heap}{x:Str}{st:Stmt}{k:Nat}{ps:ae}{sp:Sp}(q:Tg P w base)(d:Fd K mg x st)(ok:∀f fd,bc K x x st f fd->!ak (d8 P w) k f fd ps sp)(h:∀(kV doc pm:Aa)(an:Option Addr)(aC ct:Aa)(us:aj),us.length=ps.length->bindArgs (PySem.W.fnOf x x (gY st) (fg st) (aM st) .none kV doc pm an aC ct) #[us,[]]=pure (ps.zip us):=by first|(exact λ_ _ _ _ _ _ us (hl:us.length=1)=>match us,hl with | [_],_=>rfl)|(exact λ_ _ _ _ _ _ us (hl:us.length=2)=>match us,hl with | [_,_],_=>rfl)|(exact λ_ _ _ _ _ _ us (hl:us.length=3)=>match us,hl with | [_,_,_],_=>rfl)|(exact λ_ _ _ _ _ _ us (hl:us.length=4)=>match us,hl with | [_,_,_,_],_=>rfl)|(exact λ_ _ _ _ _ _ us (hl:us.length=5)=>match us,hl with | [_,_,_,_,_],_=>rfl)|(exact λ_ _ _ _ _ _ us (hl:us.length=0)=>match us,hl with | [],_=>rfl)):!rp k x ps sp:=TZ d ok h
def _D{P:Ad}{w:Af}{K:af}{mg:Str->Option Aa}{base:Heap}{C:Addr}{m qual:Str}{st:Stmt}{k:Nat}{ps:ae}{sp:Sp}(q:Tg P w base)(d:Md K C m qual st)(ok:∀f fd,bc K m qual st f fd->!ak (d8 P w) k f fd ps sp)(h:∀(kV doc pm:Aa)(an:Option Addr)(aC ct:Aa)(us:aj),us.length=ps.length->bindArgs (PySem.W.fnOf m qual (gY st) (fg st) (aM st) .none kV doc pm an aC ct) #[us,[]]=pure (ps.zip us):=by first|(exact λ_ _ _ _ _ _ us (hl:us.length=1)=>match us,hl with | [_],_=>rfl)|(exact λ_ _ _ _ _ _ us (hl:us.length=2)=>match us,hl with | [_,_],_=>rfl)|(exact λ_ _ _ _ _ _ us (hl:us.length=3)=>match us,hl with | [_,_,_],_=>rfl)|(exact λ_ _ _ _ _ _ us (hl:us.length=4)=>match us,hl with | [_,_,_,_],_=>rfl)|(exact λ_ _ _ _ _ _ us (hl:us.length=5)=>match us,hl with | [_,_,_,_,_],_=>rfl)|(exact λ_ _ _ _ _ _ us (hl:us.length=0)=>match us,hl with | [],_=>rfl)):!lK C k m ps sp:=TV d ok h
def NB{P:Ad}{w:Af}{K:af}{mg:Str->Option Aa}{base:Heap}{C:Addr}{x qual:Str}{st:Stmt}{k:Nat}{ps:ae}{sp:Sp}(q:Tg P w base)(d:Md K C "__init__" qual st)(hx:mg x\.ref C)(mk:PySem.W.makesIn K C=true)(kc:PySem.W.keepIn K (.ref C)=true)(ok:∀f fd,bc K "__init__" qual st f fd->!ak bg k f fd ps sp)(h:∀(kV doc pm:Aa)(an:Option Addr)(aC ct:Aa)(us:aj),us.length=ps.length->bindArgs (PySem.W.fnOf "__init__" qual (gY st) (fg st) (aM st) .none kV doc pm an aC ct) #[us,[]]=pure (ps.zip us):=by first|(exact λ_ _ _ _ _ _ us (hl:us.length=1)=>match us,hl with | [_],_=>rfl)|(exact λ_ _ _ _ _ _ us (hl:us.length=2)=>match us,hl with | [_,_],_=>rfl)|(exact λ_ _ _ _ _ _ us (hl:us.length=3)=>match us,hl with | [_,_,_],_=>rfl)|(exact λ_ _ _ _ _ _ us (hl:us.length=4)=>match us,hl with | [_,_,_,_],_=>rfl)|(exact λ_ _ _ _ _ _ us (hl:us.length=5)=>match us,hl with | [_,_,_,_,_],_=>rfl)|(exact λ_ _ _ _ _ _ us (hl:us.length=0)=>match us,hl with | [],_=>rfl)):!jQ C k x ps sp:=T3 d hx mk kc ok h
def kU_(r:Rl)(hs:Xa)(ts:Xb)(qs:aJ)(f:az)(h:Str)(W:Wd hs ts qs f):(lS r hs ts qs f h).length<=1000:=by
 unfold lS;split
 ·exact ma (h2_ r hs ts qs f h) (by decide)
 split
 ·exact ma (gH_ r hs ts qs f h W) (by decide)
 exact g8_ r hs ts qs f h W
structure MdD(K:af)(CY:Addr):Prop where
 ex:∃f fd,wG K "come" "Yard.come" DJ f fd/\Meth K CY "come" f
def mdd_mk{K:af}{CY f T:Addr}{oc:Aa}{od an:Option Addr}{gK:Array (Option Aa)}{kV doc pm aC ct:Aa}{ot:Aa}{odt:Option Addr}{n:Nat}{slt:Array (Option Aa)}(a:PySem.W.findIn K (.ref CY) "come"\some (.ref f))(i:PySem.W.isFn K (.ref f)=true)
 (l:K.lookup f=some #[oc,od,.func (PySem.W.fnOf "come" "Yard.come" (gY DJ) (fg DJ) (aM DJ) (.ref T) kV doc pm an aC ct),gK])(c:PySem.W.codeIn K aC "Yard.come"=true)(k:PySem.W.keepIn K (.ref f)=true)(t:K.lookup T=some #[ot,odt,.seq (List.toArray [.none]) n,slt]):MdD K CY:=
 #[f,_,#[oc,od,T,kV,doc,pm,an,aC,ct,gK,_,n,Z,l,c,t,Z],a,i,k]
def all_mk{l:W.OpenLaw}{w:Af}{K:af}{h:Heap}{mg:Str->Option Aa}{fa CW CG CS CY CE GD HD PD MD d fl fh fr c1 c2 T1 T2:Addr}{TU:Aa}{as:ai}(X:K.In h)(G:h.Ns mainGlobals mg)(hfa:mg "law"\.ref fa)
 (f0:Fd K mg "is_whole" BP)
 (f1:Fd K mg "is_whole_from" SE)
 (f2:Fd K mg "is_whole_within" mR)
 (f3:Fd K mg "is_name" uz)
 (f4:Fd K mg "lesser_first" Sv)
 (f5:Fd K mg "is_pair_of_names" ux)
 (f6:Fd K mg "sorted_ties" Sh)
 (f7:Fd K mg "greatest_divisor" OT)
 (f8:Fd K mg "least_multiple" OS)
 (f9:Fd K mg "is_hand_with_strength" uF)
 (f10:Fd K mg "checked_strengths" BN)
 (f11:Fd K mg "checked_ties" uq)
 (f12:Fd K mg "neighbours_of_all" uy)
 (f13:Fd K mg "checked_ways" nC)
 (Zb:Fd K mg Dy NQ)
 (f15:Fd K mg "checked_pieces" SR)
 (f16:Fd K mg "loads_at" Ta)
 (f17:Fd K mg lG uA)
 (f18:Fd K mg "levels_at" SA)
 (f19:Fd K mg "is_rule" Tj)
 (f20:Fd K mg Di mQ)
 (f21:Fd K mg "fits" uJ)
 (f22:Fd K mg "heaviest_move" BQ)
 (f23:Fd K mg "moves_by_least" SS)
 (f24:Fd K mg "moves_by_below" SW)
 (f25:Fd K mg "share_moves" BO)
 (f26:Fd K mg "moves_by_shares" Uh)
 (AR:Fd K mg "moves_from" Ku)
 (f28:Fd K mg "ties_anew" uM)
 (f29:Fd K mg "first_row_without" T7)
 (f30:Fd K mg "moves_by_turns" Td)
 (f31:Fd K mg "moves_seen" ko)
 (f32:Fd K mg "checked_moments" Ud)
 (f33:Fd K mg "rows_by" Sk)
 (f34:Fd K mg "rests_at" Tf)
 (f35:Fd K mg "rise_at" uw)
 (f36:Fd K mg "_law_cell_at" uL)
 (f37:Fd K mg zp ny)
 (f38:Fd K mg "_law_names" m_)
 (f39:Fd K mg "_law_web" uD)
 (f40:Fd K mg "_law_ways" uo)
 (f41:Fd K mg "_law_come" nA)
 (f42:Fd K mg "_law_rule" uv)
 (f43:Fd K mg "_law_tried" mU)
 (f44:Fd K mg "_law_sums" uu)
 (f45:Fd K mg "_law_full" uI)
 (m0:Md K CW "__init__" "Web.__init__" uE)
 (m1:Md K CW "has_hand" "Web.has_hand" xW)
 (m2:Md K CW "hands" "Web.hands" nu)
 (m3:Md K CW "strength" "Web.strength" Uj)
 (m4:Md K CW "neighbours" "Web.neighbours" mZ)
 (m5:Md K CW "are_tied" "Web.are_tied" ur)
 (m6:Md K CW "ties" "Web.ties" mX)
 (m7:Md K CW "most_neighbours" "Web.most_neighbours" uB)
 (m8:Md K CW "turns" "Web.turns" mT)
 (m9:Md K CG "__init__" "Goods.__init__" nv)
 (m10:Md K CG "has_piece" "Goods.has_piece" uH)
 (m11:Md K CG "names" "Goods.names" R5)
 (m12:Md K CG "weight" "Goods.weight" SM)
 (m13:Md K CG "may_go" "Goods.may_go" uG)
 (m14:Md K CS "__init__" "Sight.__init__" mY)
 (m15:Md K CS "lead" "Sight.lead" uC)
 (m16:Md K CS "joint_strength" "Sight.joint_strength" nj)
 (m17:Md K CY "__init__" "Yard.__init__" mP)
 (m18:Md K CY "loosen" "Yard.loosen" SO)
 (m19:Md K CY "go" "Yard.go" BM)
 (m20:Md K CY "goods" "Yard.goods" Tp)
 (m21:Md K CY "stand" "Yard.stand" Sd)
 (m22:Md K CY "moves_made" "Yard.moves_made" mO)
 (m23:Md K CY "tick" "Yard.tick" mL)
 (m24:Md K CY "loads" "Yard.loads" Tx)
 {ocl WH _j VS _x:Aa}{odl _Z:Option Addr}{sll:Array (Option Aa)}{och kVh dch pmh cth:Aa}{odh anh:Option Addr}{slh:Array (Option Aa)}{ocr kVr dcr pmr ctr:Aa}{odr anr:Option Addr}{slr:Array (Option Aa)}{t8 t9 Lk Lj Li:Tok}
 (al:W.nsIn K mainGlobals "law"\some (.ref fl))(ll:K.lookup fl=some #[ocl,odl,.func (W.fnOf "law" "law" (gY hV) (fg hV) (aM hV) .none WH _j VS _Z TU _x),sll])(cl:W.codeIn K TU "law"=true)(kl:W.keepIn K (.ref fl)=true)(ah:W.nsIn K mainGlobals rR\some (.ref fh))(lh:K.lookup fh=some #[och,odh,.func (W.fnOf rR rR (gY iI) (fg iI) (aM iI) .none kVh dch pmh anh (.ref c1) cth),slh])(fY:W.codeIn K (.ref c1) rR=true)(kh:W.keepIn K (.ref fh)=true)(h1:W.codeHdIn K c1 T1=true)(aY:W.nsIn K mainGlobals "Yard"\some (.ref CY))(eE:W.nsIn K mainGlobals "EvenError"\some (.ref CE))(aW:W.nsIn K mainGlobals "Web"\some (.ref CW))(aG:W.nsIn K mainGlobals "Goods"\some (.ref CG))(aS:W.nsIn K mainGlobals "Sight"\some (.ref CS))(eg:W.nsIn K mainGlobals "NoGoods"\some (.ref GD))(xg:W.excIn K GD [.type "ValueError",.type "Exception",.type "BaseException",.type "object"] "ValueError.__new__"=true)(eh:W.nsIn K mainGlobals "NoHand"\some (.ref HD))(xh:W.excIn K HD [.type "ValueError",.type "Exception",.type "BaseException",.type "object"] "ValueError.__new__"=true)(ep:W.nsIn K mainGlobals "NoPiece"\some (.ref PD))(xp:W.excIn K PD [.type "ValueError",.type "Exception",.type "BaseException",.type "object"] "ValueError.__new__"=true)(em:W.nsIn K mainGlobals "NoMoment"\some (.ref MD))(xm:W.excIn K MD [.type "ValueError",.type "Exception",.type "BaseException",.type "object"] "ValueError.__new__"=true)(ar:W.findIn K (.ref CS) Df\some (.ref fr))(ir:W.isFn K (.ref fr)=true)(lr:K.lookup fr=some #[ocr,odr,.func (W.fnOf Df "Sight.rising_neighbours" (gY xf) (fg xf) (aM xf) .none kVr dcr pmr anr (.ref c2) ctr),slr])(rcd:W.codeIn K (.ref c2) "Sight.rising_neighbours"=true)(kr:W.keepIn K (.ref fr)=true)(h2:W.codeHdIn K c2 T2=true)(c8_:W.nsIn K mainGlobals "MOST_LETTERS"\some (.int 8 t8))(c9_:W.nsIn K mainGlobals "MOST_HANDS"\some (.int 8 t9))(UD:W.nsIn K mainGlobals "MOST_STRENGTH"\some (.int 1000 Lk))(KJ:W.nsIn K mainGlobals "MOST_WEIGHT"\some (.int 1000000000 Lj))(UC:W.nsIn K mainGlobals "MOST_PIECES"\some (.int 30 Li))(wpg:W.plainGet K CW Str.empty=true)(whd:W.hasDictIn K CW=true)(wpo:W.plainOver K CW=true)(wsa:W.findIn K (.ref CW) "__setattr__"\some (.builtin "object.__setattr__"))(wmk:W.makesIn K CW=true)(wkc:W.keepIn K (.ref CW)=true)(wn0:W.findIn K (.ref CW) xa\none)(wn1:W.findIn K (.ref CW) "sorted_pairs"\none)(wn2:W.findIn K (.ref CW) C8\none)(gpg:W.plainGet K CG Str.empty=true)(ghd:W.hasDictIn K CG=true)(gpo:W.plainOver K CG=true)(gsa:W.findIn K (.ref CG) "__setattr__"\some (.builtin "object.__setattr__"))(gmk:W.makesIn K CG=true)(gkc:W.keepIn K (.ref CG)=true)(gn0:W.findIn K (.ref CG) "web"\none)(gn1:W.findIn K (.ref CG) xi\none)(gn2:W.findIn K (.ref CG) Dz\none)(spg:W.plainGet K CS Str.empty=true)(shd:W.hasDictIn K CS=true)(spo:W.plainOver K CS=true)(ssa:W.findIn K (.ref CS) "__setattr__"\some (.builtin "object.__setattr__"))(smk:W.makesIn K CS=true)(skc:W.keepIn K (.ref CS)=true)(sn0:W.findIn K (.ref CS) "wares"\none)(sn1:W.findIn K (.ref CS) lX\none)(sn2:W.findIn K (.ref CS) rT\none)(GL:W.findIn K (.ref CS) C9\none)(ypg:W.plainGet K CY Str.empty=true)(yhd:W.hasDictIn K CY=true)(ypo:W.plainOver K CY=true)(ysa:W.findIn K (.ref CY) "__setattr__"\some (.builtin "object.__setattr__"))(ymk:W.makesIn K CY=true)(ykc:W.keepIn K (.ref CY)=true)(yn0:W.findIn K (.ref CY) "web"\none)(yn1:W.findIn K (.ref CY) "rule"\none)(yn2:W.findIn K (.ref CY) "moment"\none)(FW:W.findIn K (.ref CY) xc\none)(FV:W.findIn K (.ref CY) zc\none)(FU:W.findIn K (.ref CY) "deeds"\none)(yn6:W.findIn K (.ref CY) "bound_in_parts"\none)(iha:W.findIn K (.ref CW) "__class__"\some (.builtin "object.__class__"))(ihn:W.specialIn K (.builtin "object.__class__") "__get__"\some (.builtin "getset_descriptor.__get__"))(itk:W.takesIn K (.builtin "object.__class__")\true)(imo:W.mroIn K CW (.type "object")\true)(ra:uR K CE [GD,HD,PD,MD]=true)(rn:[GD,HD,PD,MD].Nodup)(yd:MdD K CY)(FS:W.nsIn K mainGlobals "min"\none)(jn:W.nsIn K mainGlobals "ValueError"\none)(z0:W.nsIn K mainGlobals "isinstance"\none)(z1:W.nsIn K mainGlobals "int"\none)(z2:W.nsIn K mainGlobals "bool"\none)(z3:W.nsIn K mainGlobals "str"\none)(z4:W.nsIn K mainGlobals "tuple"\none)(z5:W.nsIn K mainGlobals "list"\none)(z6:W.nsIn K mainGlobals "dict"\none)(z7:W.nsIn K mainGlobals "len"\none)(z8:W.nsIn K mainGlobals "all"\none)(z9:W.nsIn K mainGlobals "sorted"\none)(z10:W.nsIn K mainGlobals "max"\none)(z11:W.nsIn K mainGlobals "range"\none)(z12:W.nsIn K mainGlobals "any"\none)(z13:W.nsIn K mainGlobals "enumerate"\none)(z14:W.nsIn K mainGlobals "min"\none)(z15:W.nsIn K mainGlobals "abs"\none)(R:Np K w mg d as):
  ∃fd:Ae,(∀(s:Ab)(v:Aa),BindsTo s fd #[[v],[]] [(zh,v)])/\(∀T'∈[T2,T1],isCodeTable h T')/\∀base:Heap,K.In base->base.Ns mainGlobals mg->(∀T'∈[T2,T1],base.BuiltinsAt mg T')->ak l.prog w K mg base bg 12 fa fd [zh] (oU K T1 T2):=by
 let e:=hfa.symm.trans (jG X G al);cases e;have B:Bi mg:=#[jY X G z0,jY X G z1,jY X G z2,jY X G z3,jY X G z4,jY X G z5,jY X G z6,jY X G z7,jY X G z8,jY X G z9,jY X G z10,jY X G z11,jY X G z12,jY X G z13,jY X G z14,jY X G z15];have TW:Txt K mg CW:=#[#[wpg,whd,wpo,wsa],wn0,wn1,wn2];have TG:dO K CG:=#[#[gpg,ghd,gpo,gsa],gn0,gn1,gn2];have TS:gA K CS:=#[#[spg,shd,spo,ssa],sn0,sn1,sn2,GL];have IW:K8 K CW:=#[iha,ihn,itk,imo];have TY:fW K CY:=#[#[ypg,yhd,ypo,ysa],yn0,yn1,yn2,FW,FV,FU,yn6];have RY:N2 K mg CE GD HD PD MD:=#[jG X G eE,#[jG X G eg,xg],#[jG X G eh,xh],#[jG X G ep,xp],#[jG X G em,xm],ra,rn];let FL:=QF (st:=hV) ll cl kl;have FH:lI K rR rR iI fh c1 _:=#[#[_,_,_,_,_,_,_,_,Z,lh,fY],kh];have FR:lI K Df "Sight.rising_neighbours" xf fr c2 _:=#[#[_,_,_,_,_,_,_,_,Z,lr,rcd],kr];apply#[W.fnOf "law" "law" (gY hV) (fg hV) (aM hV) .none WH _j VS _Z TU _x,λs v=>.of_eq Z,λT' EL=>?_,λbase KB _ vN=>?_]
 ·have cd:∀{c T0:Addr},W.codeHdIn K c T0=true->isCodeTable h T0:=λ{c _} z=>by
   let#[o,Ef,file,tf,flags,tg,inF,text,tt,q1,q2,q3,q4,_]:=W.codeHd_of_K X z;exact#[c,o,Ef,q1,q2,q3,q4]
  have EL:T'=T2∨T'=T1:=⇑EL
  rcases EL with rfl|rfl
  ·exact cd h2
  exact cd h1
 have q:Tg l.prog w base:=⟨⟩;let KD:=dq q f0 λ_ _ F=>m0_ F B;let oi:=dq q f2 λ_ _ F=>jk_ F KD;let T5:=dq q f1 λ_ _ F=>gR_ F KD;let pW:=dq q f3 λ_ _ F=>kj_ F B (jG X G c8_);let DI:=dq q f4 λ_ _ F=>ir_ F;let Kv:=dq q f5 λ_ _ F=>k7_ F B pW;let A4:=dq q f6 λ_ _ F=>h6_ F B Kv DI;let KG:=dq q f9 λ_ _ F=>kh_ F B pW oi (jG X G UD);let cStr:=dq q f10 λ_ _ F=>lu_ F B KG (jG X G c9_);let Kt:=dq q f11 λ_ _ F=>kw_ F B A4;let KA:=dq q f12 λ_ _ F=>kb_ F DI;let T6:=NB q m0 (jG X G aW) wmk wkc λ_ _ F=>kJ_ F TW B cStr Kt KA;let B7:=jc q m1 λ_ _ F=>lL_ F TW B;let HI:=jc q m1 λ_ _ F=>kX_ F TW B;let jv:=jc q m2 λ_ _ F=>iT_ F TW B;let vj:=jc q m3 λ_ _ F=>f6_ F TW B7;let HG:=jc q m4 λ_ _ F=>iA_ F TW B B7;let As:=jc q m5 λ_ _ F=>j7_ F TW HI;let KI:=dq q f13 λ_ _ F=>ix_ F TW A4 As;let cCP:=dq q Zb λ_ _ F=>iv_ F B pW oi KI (jG X G KJ);let Uv:=dq q f15 λ_ _ F=>gi_ F B cCP;let DK:=NB q m9 (jG X G aG) gmk gkc λ_ _ F=>iI_ F TG TW IW B (jG X G aW) Uv;let JB:=jc q m10 λ_ _ F=>kR_ (CW:=CW) F TG B;let CZ:=jc q m11 λ_ _ F=>hO_ (CW:=CW) F TG B;let gU:=jc q m12 λ_ _ F=>g7_ (CP:=CW) F TG JB;let JA:=jc q m13 λ_ _ F=>kP_ (CP:=CW) F TG TW JB As DI;let cGd:=dq q f7 λ_ _ F=>m9_ F;let cLM:=dq q f8 λ_ _ F=>m3_ F cGd;let KC:=dq q f16 λ_ _ F=>gz_ F B TG TW jv gU;let _J:=dq q f17 λ_ _ F=>kk_ F TW cLM jv vj;let NJ:=dq q f18 λ_ _ F=>i2_ F TG TW KC _J vj;have Uq:bH l.prog w K mg base 6 rR lV (oY K CG CW T1):=#[_,_,lG_ FH B TG TW (W.codeHd_of_K KB h1) (vN T1 Z2) jv gU,jG X G ah,kh,FH.fn.binds (λ_ _ _ _ _ _ us (hl:us.length=2)=>match us,hl with | [_,_],_=>rfl)];let vX:=NB q m14 (jG X G aS) smk skc λ_ _ F=>iV_ F TS KC NJ Uq;let Lo:=jc q m15 λ_ _ F=>k4_ F TS TG TW vj;let VL:=jc q m16 λ_ _ F=>iM_ F TS TG TW vj;have VJ:aZ l.prog w K mg base CS 4 Df jK (J8 K CS CG CW T2):=#[_,_,ky_ FR B TS TG TW (W.codeHd_of_K KB h2) (vN T2 Z2) HG,#[ar,ir,kr],FR.fn.binds (λ_ _ _ _ _ _ us (hl:us.length=2)=>match us,hl with | [_,_],_=>rfl)];let cIR:=dq q f19 λ_ _ F=>h3_ F B R;let NC:=dq q f20 λ_ _ F=>iW_ F R cIR;let cFi:=dq q f21 λ_ _ F=>kz_ F;let Uo:=dq q f22 λ_ _ F=>lX_ F TS TG Lo VL cFi gU JA;let cBL:=dq q f23 λ_ _ F=>gq_ F TS VJ Uo;let cBB:=dq q f24 λ_ _ F=>gp_ F TS VJ Lo Uo;let mMo:=jc q m7 λ_ _ F=>lb_ F TW B;let T9:=dq q f25 λ_ _ F=>lw_ F TS TG TW Lo VL mMo gU JA;let cBS:=dq q f26 λ_ _ F=>f3_ F TS TG TW HG Lo T9;let cMF:=dq q AR λ_ _ F=>g3_ (gl_ F cBL) (gw_ F cBB) (gc_ F cBS);let cAn:=dq q f28 λ_ _ F=>k9_ F;let mTi:=jc q m6 λ_ _ F=>iQ_ F TW cAn;let Ub:=dq q f29 λ_ _ F=>lv_ F B;let Wh:=jc q m8 λ_ _ F=>je_ F B TW mTi Ub;let cBT:=dq q f30 λ_ _ F=>gd_ F B TS TG TW Wh Uo;let Fm:=dq q f31 λ_ _ F=>iX_ (l0_ F TS TG TW (λr z=>z) kU_ NC jv cMF) (jf_ F NC cBT);let Uw:=_E q Zb λ_ _ F=>gf_ F B RY.g pW oi KI (jG X G KJ);let Ua:=dq q f33 λ_ _ F=>gC_ F B TW NC Wh;let Uc:=dq q f34 λ_ _ F=>j2_ F B TG vX Fm Ua;let T_:=dq q f35 λ_ _ F=>l3_ F B (jY X G FS) NJ;let cYd:=NB q m17 (jG X G aY) ymk ykc λ_ _ F=>j5_ (CW:=CW) F TY NC;let FY:=jc q m18 λ_ _ F=>il_ F TY TW _J vj
 have yCo:lK l.prog w K mg base CY 6 "come" G_ (MQ K CY CW GD HD):=by
  let#[f,fd,F,m]:=yd.ex;exact#[f,fd,kQ_ F B TY TW RY.g RY.h Uw B7 FY (jG X G UC),m,gs_ F]
 let yGo:=_D q m19 λ_ _ F=>lo_ F B TY RY.p FY;let Bf:=jc q m20 λ_ _ F=>i4_ F B TY DK;let FX:=jc q m21 λ_ _ F=>hG_ (CW:=CW) F B TY;let yLo:=jc q m24 λ_ _ F=>iq_ F TY Bf FX KC;let yMa:=jc q m22 λ_ _ F=>kC_ F TY FX vX Fm;let Ue:=_E q f32 λ_ _ F=>l9_ F RY.m T5;let yTi:=_D q m23 λ_ _ F=>ku_ F TY Ue Bf yMa FX Uc T_;let KH:=dq q f36 λ_ _ F=>kV_ F B;let qN:=dq q f37 λ_ _ F=>j0_ F B;let Kz:=dq q f38 λ_ _ F=>iE_ F B qN;let cLW:=dq q f39 λ_ _ F=>kB_ F B qN Kz;let cLY:=dq q f40 λ_ _ F=>ks_ F B qN;let cCm:=dq q f41 λ_ _ F=>jx_ F B qN cLY;let cLR:=dq q f42 λ_ _ F=>kv_ F qN;let A3:=dq q f43 λ_ _ F=>jc_ F B (jY X G jn) TY RY yCo yGo yTi;let T8:=dq q f44 λ_ _ F=>kN_ F TY FX;let cFu:=dq q f45 λ_ _ F=>l8_ F B TY TG Bf CZ FX yLo T8;exact lR_ FL B TY KH qN Kz cLW cLR T6 cYd cCm A3 cFu
def X5{H:Hp}{T:Addr}{q:Str}(h:H T\.tbl #[]):cu H T q:=#[[],h,λe he=>by cases he]
def walk{l:PySem.W.OpenLaw}{q:Ad}{loose:ae}{XP:(Str->Option Aa)->Heap->Prop}{d:DefRec}{K:Params->af}{as:ai}{T1 T2:Addr}{MN:∀P:Params,as=(K P).map (·.1)}(hn:l.most\63)(vK:d.params.defaults=[])(Ck:([T2,T1].all λT=>!as.contains T)=true)(ne:T1≠T2)
 (F:∀(w:Af)(mg:Str->Option Aa)(fa:Addr)(h:Heap),(K w.params).In h->h.Ns mainGlobals mg->mg d.name\.ref fa->
   ∃fd:Ae,(∀(s:Ab)(u:Aa),BindsTo s fd #[[u],[]] [(zh,u)])/\(∀T'∈[T2,T1],isCodeTable h T')/\∀base:Heap,(K w.params).In base->base.Ns mainGlobals mg->(∀T'∈[T2,T1],base.BuiltinsAt mg T')->ak l.prog w (K w.params) mg base bg 12 fa fd [zh] (oU (K w.params) T1 T2)):
  PySem.W.WalkO q loose XP (PySem.W.kmHook K as MN [T2,T1]).says l.row.toRowW d [] (λf vs=>PySem.call f vs):=
 L2.sQ (n:=63) (k:=12) (x:=zh) (CX:=λ_=>bg) (sp:=λw=>oU (K w.params) T1 T2) hn (by decide) vK #[Z,by decide,by decide] Ck F (λ_ _ a ns hl hT hS=>#[a,ns,Z,#[X5 (hT T1 Z2),X5 (hT T2 Z2),ne],hS,hl,λ_=>rfl]) λ_ _ _ _ _ z=>z
end Ev
namespace PySem.W.Fast
universe t7RHpaqmZnHy t31526aTl0cg tkmbrpKiTUOY thQUEcI1Sg8N tfcEQCP5YEIF t7Mp5y3ogS9Y tbcMcUZpUfrK t5VQwXOYr3H7 tlbA7sxpS76R tfXhpbIEVci2 t2apoFVPkUek t1F6WkKWH9cQ tlJ2rUjcS5Zv t42Fc9KTJ5Y5 tbmSFkORP2nn tfLUOKoHPwOT tiqJCfBiOYfF tjfB54FoIUTq tlUpatn0xkRK t1oUCwci5GK9 texWqJNSSTSd t6MUbGtS33rO tcgkLD52Cphu tf5H288Fmlix tawVIArKP99V tdARs1z8TqRJ t1qeSOCVHmGV t2912xSFK3lR t17E5kxIGarn t55nkVfPVsBH teqaaFeyYPI5 tcDmc12APAAa t3as8Q7f8LTt te1JqtvdPC8Y t9ABY3ImU9Wc teXx67XNquVS tkvbrg3gc7EN tfwLXUr5QIj4 tjhzyE7huq74 tk1HCQua7FIH tjoewyt9ACDb t5CVb9kg6XeY t29CcEEBCx3s tg4spCPGLfTM taC9qqaVXseH tavVqQabQJNW tlaYNHLG2Lcp tkUkzfDB9Xku t4ynAGs7wIZA tg1CG43IbFwG tkiQuVda5h3D tjSMs9YyouSP taTgnAkm0kSn tjeaxzi1T2Pp thVHM4G8CbBZ tajmRb6X1GGs tjEWK7rV95hm tkODbBx9PDLE tdNuQbv2UnKj tkGdzuugzUem t6YGfekBRzQN tbX6TtWHEAXl t79ccAtnuSmb td99DGBuuhiU tctR3Ud52Cel tiD16oFzXbfP tj8iFdRKmoU9 t8vtONtnUzKH tdnpQsjUbT1w td4antzcoE4e tapGpQz6wJMs tgV2vzhgu3ZE tgWXnwSJ9t7y tl5RrjpRVGcM tbSuHfHUugDl t1rpmusxLkxW t1bmK8oxXBJT tlvy3Bz4gxye t24B2PCQsnCp tfxdJAm9WXlR t81KxEbtK5nf t6V19QBvtZhd tjDJSwVpUG31 tirN3wRUci6r thXSXvSLWjEd t4H1VcNqJ98W t5s2GGC3nqnx tksH3L8fIOat t3WtZheAalqc teisG4LKmwNs trz6JJ3QYzD t8y6U4LUj8Ra t6f18Wt428Jt tlFf62sLj8Gg tc7HIEb5gBRU t2Ik2yqSLNtW t4GGIfW40E8o t21IaqCYjl92 tkkf5XiDQdRL t4CSBsz4CwRa tgtEvoBbxy1U t2gRwaqpbLXc tb7sjH0dTUFg thEmFX6tkVWk tbIsx39THOm3 t8QQgWXKFBvy tbu5FotlmdPM tYKgj5pbQDk t3yjr3mjIcN6 t5FijmaHBcjE t764o3V2zLbW tjqYw522uQMk tb06aesUoSZT t321N8VQVjpT tbIgjTox3mci thKpywFxXsmw tdyGxKT732nk t116C5Jj4f7B tgmzFSkeU87b t9szyqnKay9B tk21tBoK7sVu t4aBsI4JYH6T t2Nxjk0MuOda tedLRL1KuRYw tc3B1nJMqAqK tfB9x8hKzSy6 t2L2ZfnbU3mA tfOgFBtc95BL timBsj9yrRAq t7nNK2O9QADB tawnGd8lyz44 tadhoIhEzL6 t6fdeKeGrgZ3 tbNSCDZ2xZau t4rWWFBNLMNU thhH7F5c6f9Y tiYlALGmPAvo tklCagHpdcMm tDlVPas9N5f tcVSKjpSQblC t4jnkJpww4sQ tgzbFMRgKCSw tcWtwvOiSnTu tc1rQ3by9Dwu tg41n8SeOcxK t1s53dX9BmVF tk4X6sBhJuuR t5P2nXtAqlDx t5SjumtbdEJv tgHbq90t3kiG tizKx0N1iK3z tkSxCbNaTPRp t4XKLRDSmaRX tknDHEfsd8G5 t3WSbx7ozweq tcaonSNOpG4i ti8KK3X6PRWD t7zqKw8l3dxO tkSpcpd5RcUO ticIaSYVJTK6 t3dAfUvUOvn5 tjK44MIXgwjp taTXiEsLtiTN tj3VrHcVCHbf t7pjHw1Yw87c t9KkQ2DeNkkB tlDGH1RT7gWy taFjQp4FhEW9 tdp6ni6TLfJF tlpa0QXUvAxn tgqRhTwPGIsz tdWKNITGIq3I td4h8wqiF5Kx tcl0FcxOL6iG tdJ4BHX4cMg1 t3tIlzwGMsF6 t7nUinxZChJV tfGhVlOTNhAu tdzHNIvNchtG t5lm5jH0t0hK tdIidbVJ1Bb2 t6NOXE9TrSvH tggPVlkyf14J tbJDHSZPY41K tj8gjeVATfWI t5nyuTOgZ6mo t5f0zm95xFlq t2fhDkfRhfGf tfubHCC1KsAd t6ftLt58LGgQ t7X1LxaXg5Cr tdXzdSod7bMf tfXeQ7fbGYE5 tfylaZIQVrTF t9kWi9ap72J5 t7dAtW7UL21I t8QpAnwWk05C te5U0sBRZqGR thsqLUfyKRMo tcSKtMgehMGT tfzxHHl6ByNN taHy71ORSti7 tIB2NeVwjd5 t9ck244tgmCi th4GL3uFuF79 tad5PSfbjWVF tfqWSwd0Lh1Y tbIR4ePi97Xd t2wGrr9WyIPi ta4LykpfZF8O tdup8zio2awP tbNxzuWFxdk9 tdbby7rQBhWh t3yXm7Z9k286 te9c0aPSMeTR tap00xyx7El6 t9sE9YKC5YWh tdoIUhWfCkfS tcdd8LQN7dW4 t7oe90fPacaP t3JDNIn5UPVS tdG5rjBf0cUo t7MZ1D2ZyTSz t6a9geYRGcYK t5Ro1dqM5nIf ti0m089n0oeK t7rXj7OibKyg t6mQww6cYNa t76w71X12sAr t6KQxoTnJCBY t6zoFb7wUMaE t2vMCdhle0pE tixVFU3a6tf5 tliTIyyqNfzx teR9hxEu6TrR tiroExTBnX3B tftaCJXiEH4D t2yP2ucligAM t6ntX62iRvoe tevXtYVWcQN4 t9XUmfnig4Ae t1dNnKdJsq5Q tknZ211rmqJ1 tAxrDyMVc1I t1fOQqDSlc4J tctzNu0fkpWR tvufzMuOQEy t7BAfRURuG3A tjA0mO1Hc2fp t7XnYGHWBaP2 t33EUUKJWKyT tb0CuQfxl34S tePDKaloDky0 tiHSaOa2OAvX tf8FYeDqBAAx t4J9otWx1iq0 taQQoSrzo0HC tjRM3w19ItDl tbmv9TXFPb5L t8vZingDIXel tjn8gKFn1CyI ta6ilRVHmf7X tk5wKAOPm2AG tetY2WO9DHzV t66K0UnvWpCH tGJM4W7HpbI t55aDNLUDbEM teuPH95HFfHY t1hpMukJDI2 tiWsGv1kW4lx tlTDEmKiTFyo tk9yDa209F7q td5ME4Y9ADaE tkknJYDiJZAl tgoYk0TChBn t5jm8MzfdM87 tbwKocF1cn3H tktS74ko4j3I t1qYO4rzGM5f ta4SE6ofA5bV tERSZqtKB6I thQTh8pLULjB ta0yJKyEkfCt t9jppFqHVFBn tlMaP8Kk1kn9 tfPybScBbGp3 thY8ySCsp6Uj t4G81uBbdb0h tjb6hzl9gPlb t9YUgVGRCq2F ta0Ji9cUsefw thdxcRTAeQ9B t5UG0A9FiNzj tlmeUTCwy1IN t8TKs2fGmk19 t17kDudVCRKS tjuegGULc4xi tjqB29OtlpH7 taVeMpqpYnmX t7Rk7XJt2WkL tesIwitr0ia7 ta6cH315P5qW t8tB9ko5I2RX tlj37dYWIIf2 tlPO4s4LnP6S t8U6A7Ic6T9o t84Hs02uiKt2 t1h68vdaeT2V taqU24wzReaN thwJQq3evFZB tdLnfKe3hEFo tlKwybRywJF7 tiNIcz6ErOP3 t4MSRqn9Biig teAFmHbdQEKF t6fhoVFdr4Ab t1WiUQd6DTzY tjoqggRNhjc1 tiIYb8iRg2Ob t5x3j5vbLkaY tjVoE1U2UgPU taHIXLsaM3MH thTQ4q281bpI t5FyEvodhC9Z tkx5YJqYMjzy t7qflluNN2Ek tcmyJ0Aribsu tjG92t53esDF th17aSmlxaZP t6zoPf3fX4Zt tj4GzWhd9Pij t38ZQER7u2RC tcs254s4xrky tcqLtMX4f1Nn t6860HwoMrWO tcjh0Ye2rIcP thYbNdi1aJsv tlgvG8i5pJCx t3Ro0Pc9Thhw t6RqFIE06qcm tjoIHxdOMYXu t6hJUSMfRrQG tek9CdhUIZb3 t9mXEhIfVKIA t9M5tpdAykPG t1Q5UX0CyqhP taLvIzxpmxMG tk8AizIwexIj td3aCphJHZPX tfC368YJORrG tc7H6D51DXUd tiiLGIsSO7Mb t1dOWkeB8pU2 tfj8bMmhoRAv tcPuzMgBUW2L t67zno0BCI4A t7oBhBHsQ8Vs td2EFq2EjCnV taehzWsl2p5G tbEM7SEgZKNe tivQtbaxAdO0 t8XMAoSy8NxZ t5ScFrAn9Wn7 t3B7XBKj8Qov tfDYVq6HTv8b t2XYkSKsTVpi tbmvIovXcW12 tlCGUaR3Pi1x t2J56cpGhWQW tgcFEbWouwZt t4RxZWIsNn9g temvUF9dWmco tdrEpvn5fqAR tevXeaWkHHO9 tq03NxSnF5b tkALY1JDFtKG thzlEPhpAID tfXAzPizPrx4 t32x49A2Gd0Y tlCDKQLYrT0u tDBzLG4mEhK tf2OMWE0HOzi tcrxlHnSjhI8 t78VBcCLnbed tfu6IMFQw4hK tcmgju7fPUZz te7DdT89Ry8e tjvTtMLkzNmA tghR3avQPwE8 tc2GOcNnmjBE t27IztgglQ3X teISdeWmznjX t8C1u4qDQKw0 t9fnvkCznNj8 t74paxA92vPS tkrSBkRr6k8m tzEZJGGkCIP tiCDwsejAcVc tjouEKOsBHYg teUNEPGlaJk5 teNyDgnZqtKJ txiaVrSdwoU t4740S2Zlrz3 thKcKqqRXRFT teYMQK65M8qX tjfnozuLWgRt t213yc7QeU4r t7NULvwoZxyC tj3duvv6mHAd tg8k3ALfppgu tc6yAXfeaDWv tbAubmy14iMA t3dfalL2D3rP t3xjdsd2foFa taJMzxMdHL3b t97TSLEQRuyE t2ZigAx7Hey5 teS5EDBdBOlJ tjxzecW7BRD3 t13atEKvmhEe t61z5HuNcEVE timi8W1nPeAA ti2WUaAjebIP t6BwyW1Xjk6Q tqLttYDIeHG t36NQ9A0Yuxk tePewz4Sw7nn t9ilUbOHd6yE tfIc9Nxg8ZZd t4HZWtqjU0F4 t31tRWGZsVxG tkmJWTS6Z3VK tkTHrP3XNVUR t7lhHFJByxH8 tg6tQojH2A30 t9KHvXLE4uS7 t5jBko5kwlmv
end PySem.W.Fast
open PySem PySem.W PyProof.Rows
set_option maxRecDepth 100000 in
local macro_rules|`(%[|$k:num])=>let i:=Lean.mkIdent;if k.getNat==1 then`(Ev.JF $(i `KX) $(i `G) ?_ ?_ ?_ ?_)else`(Ev.HF ?_ ?_ ?_ ?_ ?_)
theorem PySem.Challenge.cw_evenpieces_k62_thirty_pieces_holds : PySem.Challenge.rw_evenpieces_k62_thirty_pieces.Holds := by
 w_on;o_law;k_head;(case hw=>w_witness2)
 k_fill
 apply Ev.walk (l:=PySem.Challenge.rw_evenpieces_k62_thirty_pieces) rfl rfl (by rfl) (by decide) ?F
 case F=>
  intro w mg fa h KX G hmg;refine' Ev.all_mk KX G hmg %[|1] %[|1] %[|1] %[|1] %[|1] %[|1] %[|1] %[|1] %[|1] %[|1] %[|1] %[|1] %[|1] %[|1] %[|1] %[|1] %[|1] %[|1] %[|1] %[|1] %[|1] %[|1] %[|1] %[|1] %[|1] %[|1] %[|1] %[|1] %[|1] %[|1] %[|1] %[|1] %[|1] %[|1] %[|1] %[|1] %[|1] %[|1] %[|1] %[|1] %[|1] %[|1] %[|1] %[|1] %[|1] %[|1] %[|2] %[|2] %[|2] %[|2] %[|2] %[|2] %[|2] %[|2] %[|2] %[|2] %[|2] %[|2] %[|2] %[|2] %[|2] %[|2] %[|2] %[|2] %[|2] %[|2] %[|2] %[|2] %[|2] %[|2] %[|2] ?_ ?_ ?_ ?_ ?_ ?_ ?_ ?_ ?h1 ?aY ?eE ?aW ?aG ?aS ?eg ?xg ?eh ?xh ?ep ?xp ?em ?xm ?_ ?_ ?_ ?_ ?_ ?h2 ?_ ?_ ?_ ?_ ?_ ?_ ?_ ?_ ?_ ?_ ?_ ?_ ?_ ?_ ?_ ?_ ?_ ?_ ?_ ?_ ?_ ?_ ?_ ?_ ?_ ?_ ?_ ?_ ?_ ?_ ?_ ?_ ?_ ?_ ?_ ?_ ?_ ?_ ?_ ?_ ?_ ?_ ?_ ?_ ?_ ?_ ?_ ?_ ?_ ?_ ?ra ?rn ?yd ?_ ?_ ?_ ?_ ?_ ?_ ?_ ?_ ?_ ?_ ?_ ?_ ?_ ?_ ?_ ?_ ?_ ?_ (Ev.rules_at ?rm ?rs ?rl ?re ?_ ?_ ?_ ?_ ?_ ?_ ?_ ?_ ?_ ?_ ?_ ?_ ?_ ?_ ?_ ?_ ?_)
  (case aW=>k_is);(case aG=>k_is);(case aS=>k_is);(case eg=>k_is);(case eh=>k_is);(case ep=>k_is);(case em=>k_is);(case aY=>k_is);(case eE=>k_is)
  any_goals k_is
  (case h1=>kernel_rfl);(case xg=>k_exc);(case xh=>k_exc);(case xp=>k_exc);(case xm=>k_exc);(case h2=>kernel_rfl);(case ra=>kernel_rfl);(case rn=>decide);(case yd=>refine' Ev.mdd_mk ?ya ?yi ?yl ?yc ?yk ?yt;(case ya=>k_is);(case yi=>k_is);(case yl=>k_is);(case yc=>k_is);(case yk=>k_is);(case yt=>k_is))
  case' rm=>refine' PySem.W.mg_of KX G ?rmn
  (first|(case rmn=>k_is)|(case rm=>k_is))
  (try (case rl=>k_is))
  (case rs=>rfl)
  (case re=>rfl)
  any_goals k_is

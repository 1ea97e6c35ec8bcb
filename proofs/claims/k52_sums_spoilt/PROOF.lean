import PyProof.Rows.All
import Wide.All
import OpenK.AllK
import Wide.FinOn
import Lean
import PyProof.EqAt
import PyProof.EqKinds
import PyProof.TupleCall
import KE.KLam
import KE.KSortTup
import KE.KEqDict
import PyProof.NeKinds
import PySem.Challenge.RW_evenpieces_k52_sums_spoilt
set_option maxHeartbeats 0
set_option Elab.async false
set_option linter.all false
noncomputable section
local macro_rules|`(def $x:declId $s:optDeclSig $v:declVal)=>`(noncomputable def $x:declId $s:optDeclSig $v:declVal)
local macro_rules|`(abbrev $x:declId $s:optDeclSig $v:declVal)=>`(noncomputable abbrev $x:declId $s:optDeclSig $v:declVal)
local macro_rules|`(universe $x*)=>return Lean.mkNullNode (←x.mapM λa=>do return(←`(theorem $a:ident:True:=⟨⟩)).raw)
abbrev Xa:=List (PySem.Str × Int)
abbrev Xb:=List (PySem.Str × PySem.Str)
set_option compiler.extract_closed false
set_option maxRecDepth 100000
theorem aF:type_of% @PySem.wpAny_bind:=@PySem.wpAny_bind
theorem ck:type_of% @PySem.Heap.get?_push_of_some:=@PySem.Heap.get?_push_of_some
abbrev Aa:=PySem.Value
abbrev Ab:=PySem.Shared
theorem bK:type_of% @PySem.Paired.length:=@PySem.Paired.length
theorem b_:type_of% @decide_eq_true:=@decide_eq_true
theorem bA:type_of% @PySem.wpAny_pure:=@PySem.wpAny_pure
abbrev Ad:=PySem.Program
abbrev Ae:=PySem.FuncData
theorem eQ:type_of% @PySem.Heap.get?_push_size:=@PySem.Heap.get?_push_size
theorem aB:type_of% @if_neg:=@if_neg
theorem cy:type_of% @PySem.Heap.lt_size:=@PySem.Heap.lt_size
theorem aH:type_of% @if_pos:=@if_pos
theorem bZ:type_of% @PySem.sizeLine_eq:=@PySem.sizeLine_eq
theorem d_:type_of% @decide_eq_false:=@decide_eq_false
theorem eE:type_of% @PySem.PassesOwn.never:=@PySem.PassesOwn.never
theorem eF:type_of% @Option.some.inj:=@Option.some.inj
theorem ja:type_of% @PySem.F.plainAttrs_list:=@PySem.F.plainAttrs_list
abbrev Af:=PySem.World
theorem fP:type_of% @PySem.boot_len:=@PySem.boot_len
theorem mF:type_of% @PySem.Heap.get?_update_other:=@PySem.Heap.get?_update_other
theorem j6:type_of% @PySem.W.mg_none_of:=@PySem.W.mg_none_of
abbrev Ag:=PySem.Around
theorem pT:type_of% @PySem.mem_of_lookup:=@PySem.mem_of_lookup
theorem dX:type_of% @congrArg:=@congrArg
theorem xb:type_of% @PySem.F.type_list_append:=@PySem.F.type_list_append
theorem xa:type_of% @PySem.F.slot_list_append:=@PySem.F.slot_list_append
theorem g_:type_of% @Sum.inr.inj:=@Sum.inr.inj
theorem qo:type_of% @PySem.wpAny_loadPart':=@PySem.wpAny_loadPart'
theorem uk:type_of% @PySem.wpAny_truthy_bool:=@PySem.wpAny_truthy_bool
theorem vo:type_of% @PySem.wpAny_newObj_type:=@PySem.wpAny_newObj_type
theorem Bz:type_of% @decide_eq_false_iff_not:=@decide_eq_false_iff_not
theorem pQ:type_of% @PySem.W.mg_of:=@PySem.W.mg_of
theorem uj:type_of% @PySem.W.kia_one:=@PySem.W.kia_one
theorem wZ:type_of% @of_decide_eq_true:=@of_decide_eq_true
theorem Dj:type_of% @PySem.F.type_list_extend:=@PySem.F.type_list_extend
theorem Di:type_of% @PySem.F.slot_list_extend:=@PySem.F.slot_list_extend
theorem Z0{p:Prop}[Decidable p](h:decide p=true:=by decide +kernel):p:=of_decide_eq_true h
theorem Z1{p:Prop}(h:p:=by omega):p:=h
theorem Z2{p:Prop}(h:p:=by simp):p:=h
local macro_rules|`(tactic|let $x:ident:=$e)=>`(tactic|have $x:ident:=$e)
local macro_rules|`($a\$b)=>`($a=some $b)
local macro_rules|`(⇑$h)=>`(by simpa using $h)
local macro_rules|`(tactic|exists $e)=>let i:=Lean.mkIdent;`(tactic|refine $e λ$(i `aP) $(i `A) $(i `outer) $(i `s) $(i `H) $(i `vs) $(i `Q) $(i `E) $(i `hr) $(i `h)=>?_)
local macro_rules|`(section v)=>let i:=Lean.mkIdent;return Lean.mkNullNode #[←`(section),←`(variable{$(i `P):ident:$(i `Ad)}{$(i `w):ident:$(i `Af)}{$(i `K):ident:$(i `af)}{$(i `mg):ident:$(i `Str)->$(i `Option) $(i `Aa)}{$(i `base):ident:$(i `Heap)})]
local macro_rules|`(tactic|apply $e)=>`(tactic|refine $e)
local macro_rules|`(#[$x,$xs,*])=>`(⟨$x,$xs,*⟩)
local macro_rules|`(tactic|let $p:term:=$e)=>let g:=λ(x:Lean.Syntax)=>(if x.isIdent then`(rcasesPat|$(⟨x⟩):ident) else if x.isOfKind ``Lean.Parser.Term.hole then`(rcasesPat|_) else pure ⟨x⟩:Lean.MacroM (Lean.TSyntax `rcasesPat));p.raw.rewriteBottomUpM (λn=>if n.isOfKind `«term#[_,]» then n[1].getSepArgs.mapM (λx=>g x>>=λy=>`(Lean.Parser.Tactic.rcasesPatLo|$y:rcasesPat))>>=λs=>`(rcasesPat|⟨$s,*⟩)>>=λt=>pure t.raw else pure n)>>=λq=>`(tactic|obtain $(⟨q⟩):rcasesPat:=$e)
theorem Z{α:Sort _}{a:α}:a=a:=rfl
abbrev af:=PySem.W.Frag
theorem au:type_of% @List.length_map:=@List.length_map
theorem bO:type_of% @List.getElem?_eq_getElem:=@List.getElem?_eq_getElem
theorem cq:type_of% @List.getElem?_eq_some_iff:=@List.getElem?_eq_some_iff
theorem dC:type_of% @List.mem_of_getElem?:=@List.mem_of_getElem?
theorem cK:type_of% @List.size_toArray:=@List.size_toArray
theorem bj:type_of% @Nat.le_refl:=@Nat.le_refl
theorem bH:type_of% @List.mem_map:=@List.mem_map
theorem cY:type_of% @List.getElem?_map:=@List.getElem?_map
theorem cj:type_of% @List.map_append:=@List.map_append
theorem cX:type_of% @List.length_take:=@List.length_take
theorem dM:type_of% @List.length_append:=@List.length_append
theorem eL:type_of% @List.mem_cons_of_mem:=@List.mem_cons_of_mem
theorem d9:type_of% @List.mem_cons_self:=@List.mem_cons_self
theorem cw:type_of% @List.mem_cons:=@List.mem_cons
theorem cg:type_of% @List.map_map:=@List.map_map
theorem eK:type_of% @List.take_length:=@List.take_length
theorem eZ:type_of% @List.mem_append:=@List.mem_append
theorem gC:type_of% @Bool.false_ne_true:=@Bool.false_ne_true
theorem eG:type_of% @Nat.ne_of_lt:=@Nat.ne_of_lt
theorem gB:type_of% @List.length_cons:=@List.length_cons
theorem fE:type_of% @List.map_cons:=@List.map_cons
theorem jb:type_of% @Nat.lt_of_lt_of_le:=@Nat.lt_of_lt_of_le
theorem iD:type_of% @List.take_add_one:=@List.take_add_one
theorem qE:type_of% @List.nodup_iff_pairwise_ne:=@List.nodup_iff_pairwise_ne
theorem mP:type_of% @List.mem_append_right:=@List.mem_append_right
theorem p5:type_of% @Int.eq_ofNat_of_zero_le:=@Int.eq_ofNat_of_zero_le
theorem mO:type_of% @List.getElem_of_mem:=@List.getElem_of_mem
theorem mN:type_of% @Int.toNat_natCast:=@Int.toNat_natCast
theorem kQ:type_of% @List.getElem_mem:=@List.getElem_mem
theorem xp:type_of% @List.getElem?_append_right:=@List.getElem?_append_right
theorem gD:type_of% @Nat.zero_le:=@Nat.zero_le
theorem vC:type_of% @List.take_of_length_le:=@List.take_of_length_le
theorem pZ:type_of% @List.pairwise_map:=@List.pairwise_map
theorem mL:type_of% @List.nodup_cons:=@List.nodup_cons
theorem uG:type_of% @Array.length_toList:=@Array.length_toList
theorem zj:type_of% @List.getElem?_append_left:=@List.getElem?_append_left
theorem uF:type_of% @List.map_congr_left:=@List.map_congr_left
theorem pY:type_of% @List.length_drop:=@List.length_drop
theorem zi:type_of% @List.length_eq_zero_iff:=@List.length_eq_zero_iff
theorem BW:type_of% @Option.isSome_iff_exists:=@Option.isSome_iff_exists
theorem zh:type_of% @List.length_singleton:=@List.length_singleton
theorem uE:type_of% @List.lookup_cons:=@List.lookup_cons
theorem xo:type_of% @List.mem_filterMap:=@List.mem_filterMap
theorem uD:type_of% @List.length_nil:=@List.length_nil
theorem zf:type_of% @Bool.false_eq_true:=@Bool.false_eq_true
theorem pX:type_of% @Nat.le_trans:=@Nat.le_trans
theorem xn:type_of% @Bool.and_eq_true:=@Bool.and_eq_true
theorem ze:type_of% @List.nodup_append:=@List.nodup_append
theorem Dz:type_of% @List.length_replicate:=@List.length_replicate
theorem xr:type_of% @Bool.and_false:=@Bool.and_false
theorem zk:type_of% @List.append_nil:=@List.append_nil
theorem xq:type_of% @Nat.lt_irrefl:=@Nat.lt_irrefl
theorem vD:type_of% @Nat.ne_of_gt:=@Nat.ne_of_gt
abbrev ak:=List PySem.Value
abbrev ao:=PySem.Str->PySem.Str
abbrev ai:=List PySem.Addr
abbrev ae:=List PySem.Str
namespace L2
open PySem PySem.Spec PyProof.Rows
abbrev Key:=Sum Int Str
def wO:Key->Aa->Bool
 |.inl k,v=>Value.isInt k v
 |.inr x,v=>Value.isStrOf x v
def LV(w:Af):Key->Int
 |.inl k=>hashInt k
 |.inr x=>hashStr w x
theorem qD:∀{k:Key} {v:Aa},wO k v=true->(∃i t,k=Sum.inl i/\v=Value.int i t)∨(∃x t,k=Sum.inr x/\v=Value.str x t)
 |.inl i,v,h=>by
  let#[t,e]:=Value.isInt_shape (k:=i) (v:=v) h;exact .inl #[i,t,Z,e]
 |.inr x,v,h=>by
  let#[t,e]:=Value.isStrOf_shape (x:=x) (v:=v) h;exact .inr #[x,t,Z,e]
theorem hL_(i:Int)(t:Tok):wO (.inl i) (.int i t)=true:=by simp[wO,Value.isInt]
theorem gy_(x:Str)(t:Tok):wO (.inr x) (.str x t)=true:=by simp[wO,Value.isStrOf]
theorem _n(a b:Int):decide ((Sum.inl a:Key)=Sum.inl b)=(a == b):=by
 by_cases e:a=b
 ·subst e;simp
 have h:¬(Sum.inl a:Key)=Sum.inl b:=λq=>e (Sum.inl.inj q);rw[d_ h];exact (beq_eq_false_iff_ne.mpr e).symm
theorem kY_(a b:Str):decide ((Sum.inr a:Key)=Sum.inr b)=decide (a=b):=by
 by_cases e:a=b
 ·subst e;simp
 have h:¬(Sum.inr a:Key)=Sum.inr b:=λq=>e (g_ q);rw[d_ h,d_ e]
theorem _t(a:Int)(b:Str):decide ((Sum.inl a:Key)=Sum.inr b)=false:=d_ (λq=>nomatch q)
theorem _y(a:Str)(b:Int):decide ((Sum.inr a:Key)=Sum.inl b)=false:=d_ (λq=>nomatch q)
def fG(prog:Ad)(w:Af):PySem.KeyKind prog w Key where
 is:=wO
 hash:=LV w
 inj:=λv a b ha hb=>by
  rcases qD ha with⟨i,t,rfl,rfl⟩|⟨x,t,rfl,rfl⟩
  ·rcases qD hb with⟨j,u,rfl,e⟩|⟨y,u,rfl,e⟩
   ·injection e with e1 _;rw[e1]
   exact nomatch e
  rcases qD hb with⟨j,u,rfl,e⟩|⟨y,u,rfl,e⟩
  ·exact nomatch e
  injection e with e1 _;rw[e1]
 byValue:=λk v h=>by
  rcases qD h with⟨i,t,rfl,rfl⟩|⟨x,t,rfl,rfl⟩<;>rfl
 pyHash:=λhv h=>by
  rcases qD hv with⟨i,t,rfl,rfl⟩|⟨x,t,rfl,rfl⟩
  ·exact wpAny_pyHash_int h
  exact wpAny_pyHash_str h
 eqBool:=λhu hv h=>by
  rcases qD hu with⟨i,t,rfl,rfl⟩|⟨x,t,rfl,rfl⟩
  ·rcases qD hv with⟨j,u,rfl,rfl⟩|⟨y,u,rfl,rfl⟩
   ·rw[_n] at h;exact wpAny_eqBool_int h
   rw[_t] at h;exact SeqAt.EqAt.int_str i t y u _ _ _ _ h
  rcases qD hv with⟨j,u,rfl,rfl⟩|⟨y,u,rfl,rfl⟩
  ·rw[_y] at h;exact SeqAt.EqAt.str_int x t j u _ _ _ _ h
  rw[kY_] at h;exact wpAny_eqBool_str h
 «strs»:=λk x t v h=>by
  rcases qD h with⟨i,u,rfl,e⟩|⟨y,u,rfl,e⟩
  ·exact nomatch e
  injection e with e1 _
  subst e1;cases v<;>rfl
theorem eK_(prog:Ad)(w:Af)(i:Int)(t:Tok):(fG prog w).is (.inl i) (.int i t)=true:=hL_ i t
theorem P5(prog:Ad)(w:Af)(x:Str)(t:Tok):(fG prog w).is (.inr x) (.str x t)=true:=gy_ x t
end L2
abbrev aD:=List L2.Key
namespace L2
open PySem PySem.Spec PyProof.Rows
inductive V where
 |non|bl (b:Bool)|int (i:Int)|str (x:Str)|byt (b:Array UInt8)|flt (b:UInt64)|ref (a:Addr)|ty (n:String)
 deriving DecidableEq
def RelV:V->Aa->Prop
 |.non,u=>u=Value.none
 |.bl b,u=>u=Value.bool b
 |.int i,u=>∃t,u=Value.int i t
 |.str x,u=>∃t,u=Value.str x t
 |.byt b,u=>∃t,u=Value.bytes b t
 |.flt b,u=>∃t,u=Value.float b t
 |.ref a,u=>u=Value.ref a
 |.ty n,u=>u=Value.type n
abbrev Vals:List V->ak->Prop:=Paired RelV
theorem Vals.length{xs:List V}{us:ak}(r:Vals xs us):xs.length=us.length:=bK r
theorem Vals.get:∀{xs:List V} {us:ak} {i:Nat} {x:V},Vals xs us->xs[i]? = some x->∃u,us[i]? = some u/\RelV x u
 |_,_,_,_,.nil,e=>by simp at e
 |_,_,0,_,.cons r _,e=>by simp at e;subst e;exact#[_,Z,r]
 |_,_,i+1,x,.cons _ t,e=>by
  let#[u,h1,h2]:=Vals.get (i:=i) (x:=x) t ⇑e;exact#[u,by simpa using h1,h2]
theorem Vals.set{x:V}{u:Aa}(r:RelV x u):∀{xs:List V} {us:ak} (i:Nat),Vals xs us->Vals (xs.set i x) (us.set i u)
 |_,_,_,.nil=>.nil
 |_,_,0,.cons _ t=>.cons r t
 |_,_,i+1,.cons q t=>.cons q (Vals.set r i t)
theorem Vals.append:∀{xs ys:List V} {us ws:ak},Vals xs us->Vals ys ws->Vals (xs++ys) (us++ws)
 |_,_,_,_,.nil,s=>s
 |_,_,_,_,.cons r t,s=>.cons r (Vals.append t s)
theorem Vals.take:∀{xs:List V} {us:ak} (n:Nat),Vals xs us->Vals (xs.take n) (us.take n)
 |_,_,0,_=>.nil
 |_,_,_+1,.nil=>.nil
 |_,_,n+1,.cons r t=>.cons r (Vals.take n t)
theorem Vals.drop:∀{xs:List V} {us:ak} (n:Nat),Vals xs us->Vals (xs.drop n) (us.drop n)
 |_,_,0,r=>r
 |_,_,_+1,.nil=>.nil
 |_,_,n+1,.cons _ t=>Vals.drop n t
def eS:Option V->Option Aa->Prop
 |some v,some u=>RelV v u
 |none,none=>True
 |_,_=>False
def KV{κ:Type}:List (κ × V)->List (κ × Aa)->Prop:=Paired λ(p:κ × V) (q:κ × Aa)=>p.1=q.1/\RelV p.2 q.2
def kV:Key->V
 |.inl i=>.int i
 |.inr x=>.str x
inductive HO where
  |lst (xs:List V)
  |tup (xs:List V)
  |dK (kvs:List (Key × V))|dT (kvs:List (aD × V))
  |set (S:Int->Bool) (n:Nat)
  |ins (C dx:Addr) (fs:List (Str × V))
  |own (x:Addr)
  |xd (fs:List (Str × V))
  |met (f x:Addr)
  |rng (lo hi:Int)
  |frz (o:Obj) (u:HO)
  |tbl (ps:Array Aa)
  |ext (φ:Heap->Prop)
abbrev Hp:=Addr->Option HO
def upd(H:Hp)(a:Addr)(o:HO):Hp:=λb=>if b=a then some o else H b
theorem aq{H:Hp}{a:Addr}{o:HO}:upd H a o a\o:=by unfold upd;rw[aH Z]
theorem aC{H:Hp}{a b:Addr}{o:HO}(h:b≠a):upd H a o b=H b:=by unfold upd;rw[aB h]
theorem Tz{H:Hp}{a:Addr}{o u:HO}:upd (upd H a o) a u=upd H a u:=by
 funext b;unfold upd;split<;>rfl
theorem cb{H:Hp}{a b:Addr}{o u:HO}(h:H a\o)(h':H b\u)(d:o≠u):a≠b:=by
 intro e;subst e;rw[h] at h';exact d (eF h')
theorem bw{H:Hp}{a b:Addr}{o:HO}(h:H a\o)(h':H b=none):a≠b:=by
 intro e;subst e;rw[h] at h';cases h'
section
variable(P:Ad)(w:Af)
def fe(H:Hp)(h:Heap)(a:Addr):HO->Prop
 |.lst xs=>xs.length<=sizeLine/\∃(its:ak) (n:Nat),Vals xs its/\h.get? a=some { cls:=.type "list",data:=.seq its.toArray n }
 |.tup xs=>xs.length<=sizeLine/\∃its:ak,Vals xs its/\IsTup h a its.toArray/\∃o,h.get? a\o/\o.dict=none
 |.dK kvs=>kvs.length<=sizeLine/\(a == sysModules)=false/\∃vs,KV kvs vs/\h.DictOf (fG P w) a vs
 |.dT kvs=>kvs.length<=sizeLine/\(a == sysModules)=false/\∃xs:List (aD × Addr × Aa),
   Paired (λ(p:aD × V) (q:aD × Addr × Aa)=>p.1=q.1/\H q.2.1\.tup (p.1.map kV)/\RelV p.2 q.2.2) kvs xs /\
   ∃o es ep,h.get? a\o/\o.ExactDict/\o.data=.dict es ep/\es.toList=xs.map (entryOfKey (tupleKind (fG P w)))/\(xs.map (·.1)).Nodup
 |.set S n=>h.SetOf (intKind P w) a S n
 |.ins C dx fs=>H dx\.own a/\fs.length<=1000/\dx≠a/\h.get? a\PySem.W.instObj C dx /\
   ∃mA,h.Ns1 dx mA/\(∀f,eS (fs.lookup f) (mA f))/\PySem.Within mA (fs.map (·.1))
 |.own _=>∃o,h.get? a\o
 |.xd fs=>∃mA,h.Ns1 a mA/\∀f,eS (fs.lookup f) (mA f)
 |.rng lo hi=>∃t u v,h.get? a=some { cls:=.type "range",data:=.fields (List.toArray [.int lo t,.int hi u,.int 1 v]) }
 |.frz o u=>h.get? a\o/\fe H h a u
 |.tbl ps=>h.get? a=some { cls:=.none,data:=.fields ps }
 |.met f x=>h.get? a\PySem.W.methodObj (.ref f) (.ref x)
 |.ext φ=>φ h/\(∃o,h.get? a\o)/\∀h1 h2:Heap,φ h1->(∀o,h1.get? a\o->h2.get? a\o)->φ h2
def eU(H:Hp)(h:Heap):Prop:=∀a o,H a\o->fe P w H h a o
end
section
variable{P:Ad}{w:Af}{H H':Hp}{h h':Heap}{a:Addr}{o:HO}
theorem fe.lt(x:fe P w H h a o):a<h.objs.size:=by
 cases o with
 |lst xs=>let#[_,_,_,_,e]:=x;exact cy e
 |tup xs=>let#[_,_,_,p,_]:=x;exact p.lt
 |dK kvs=>let#[_,_,_,_,o,_,_,e,_]:=x;exact cy e
 |dT kvs=>let#[_,_,_,_,o,_,_,e,_]:=x;exact cy e
 |set S n=>let#[o,_,_,_,e,_]:=x;exact cy e
 |ins C dx fs=>let#[_,_,_,e,_]:=x;exact cy e
 |own y=>let#[_,e]:=x;exact cy e
 |xd fs=>let#[_,#[_,_,_,e,_],_]:=x;exact cy e
 |rng lo hi=>let#[_,_,_,e]:=x;exact cy e
 |frz ob u=>let#[e,_]:=x;exact cy e
 |tbl ps=>exact cy (show h.get? a\_ from x)
 |met f y=>exact cy (show h.get? a\_ from x)
 |ext φ=>let#[_,#[_,e],_]:=x;exact cy e
theorem Paired.bL{α β:Type}{F G:α->β->Prop}:∀{EN:List α} {EM:List β},Paired F EN EM->(∀a b,F a b->G a b)->Paired G EN EM
 |_,_,.nil,_=>.nil
 |_,_,.cons r t,f=>.cons (f _ _ r) (Paired.bL t f)
theorem fe.eA(x:fe P w H h a o)(k:∀b u,(b=a∨H b\.own a)->h.get? b\u->h'.get? b\u)
  (ho:∀b,H b\.own a->H' b\.own a) (ht:∀b xs,H b\.tup xs->H' b\.tup xs):fe P w H' h' a o:=by
 induction o with
 |lst xs=>let#[z,its,n,r,e]:=x;exact#[z,its,n,r,k _ _ (.inl Z) e]
 |tup xs=>let#[z,its,r,#[ob,e,c],o2,e2,c2]:=x;exact#[z,its,r,#[ob,k _ _ (.inl Z) e,c],o2,k _ _ (.inl Z) e2,c2]
 |dK kvs=>let#[z,y,vs,r,ob,es,ep,e,c]:=x;exact#[z,y,vs,r,ob,es,ep,k _ _ (.inl Z) e,c]
 |dT kvs=>
  let#[z,y,xs,r,ob,es,ep,e,c]:=x;exact#[z,y,xs,Paired.bL r λp q z=>#[z.1,ht _ _ z.2.1,z.2.2],ob,es,ep,k _ _ (.inl Z) e,c]
 |set S n=>let#[ob,es,ep,t,e,c]:=x;exact#[ob,es,ep,t,k _ _ (.inl Z) e,c]
 |ins C dx fs=>
  let#[d,z,ne,e,mA,#[od,es,ep,e2,c],r]:=x;exact#[ho _ d,z,ne,k _ _ (.inl Z) e,mA,#[od,es,ep,k _ _ (.inr d) e2,c],r]
 |own y=>let#[ob,e]:=x;exact#[ob,k _ _ (.inl Z) e]
 |xd fs=>let#[mA,#[od,es,ep,e,c],r]:=x;exact#[mA,#[od,es,ep,k _ _ (.inl Z) e,c],r]
 |rng lo hi=>let#[t,u,v,e]:=x;exact#[t,u,v,k _ _ (.inl Z) e]
 |frz ob u ih=>let#[e,q]:=x;exact#[k _ _ (.inl Z) e,ih q]
 |tbl ps=>
  have e:h.get? a=some { cls:=.none,data:=.fields ps }:=x;show h'.get? a=some { cls:=.none,data:=.fields ps };exact k a _ (.inl Z) e
 |met f y=>
  have e:h.get? a\PySem.W.methodObj (.ref f) (.ref y):=x;show h'.get? a\PySem.W.methodObj (.ref f) (.ref y);exact k a _ (.inl Z) e
 |ext φ=>let#[p,#[o,e],st]:=x;exact#[st _ _ p λo q=>k _ _ (.inl Z) q,#[o,k _ _ (.inl Z) e],st]
theorem eU.lt(x:eU P w H h)(e:H a\o):a<h.objs.size:=(x a o e).lt
theorem eU.fresh(x:eU P w H h)(e:h.objs.size<=a):H a=none:=by
 cases q:H a with
 |none=>rfl
 |some u=>exact absurd (jb (x.lt q) e) (xq _)
theorem eU.kept(x:eU P w H h)(k:∀b u,h.get? b\u->h'.get? b\u):eU P w H h':=λa o e=>
 (x a o e).eA (λb u _ q=>k b u q) (λ_ q=>q) λ_ _ q=>q
theorem eU.laid(x:eU P w H h)(k:∀b u,h.get? b\u->h'.get? b\u)(hp:h.objs.size<=a)(new:fe P w (upd H a o) h' a o):eU P w (upd H a o) h':=λb u e=>by
 let hn:=x.fresh hp;by_cases hb:b=a
 ·subst hb;rw[aq] at e;cases e;exact new
 rw[aC hb] at e;exact (x b u e).eA (λc v _ q=>k c v q) (λc q=>by rw[aC (bw q hn)];exact q) λc xs q=>by rw[aC (bw q hn)];exact q
end
def Rd(H:Hp)(a:Addr)(u:HO):Prop:=H a=some u∨∃o,H a\.frz o u
theorem Rd.of{H:Hp}{a:Addr}{u:HO}(h:H a\u):Rd H a u:=.inl h
theorem Rd.ok{P:Ad}{w:Af}{H:Hp}{h:Heap}{a:Addr}{u:HO}(r:Rd H a u)(x:eU P w H h):fe P w H h a u:=by
 rcases r with r|⟨o,r⟩
 ·exact x a u r
 let#[_,q]:=x a _ r;exact q
def Hv:Option HO->Prop
 |some (.lst _)=>True
 |some (.dK _)=>True
 |some (.dT _)=>True
 |some (.set _ _)=>True
 |some (.ins _ _ _)=>True
 |some (.ext _)=>True
 |_=>False
section
variable{P:Ad}{w:Af}{H:Hp}{h h':Heap}{x e:Addr}{o':HO}
theorem eU.write(ok:eU P w H h)(mu:Hv (H x))(he:e=x∨H e\.own x)(k:∀b u,b≠e->h.get? b\u->h'.get? b\u)(Cz:∃u,h'.get? e\u)
  (new:fe P w (upd H x o') h' x o'):eU P w (upd H x o') h':=λb u q=>by
 have EC:∀c y,H c\.own y->c≠x:=λc y r z=>by subst z;rw[r] at mu;exact mu
 have Lo:∀c xs,H c\.tup xs->c≠x:=λc xs r z=>by subst z;rw[r] at mu;exact mu
 by_cases hb:b=x
 ·subst hb;rw[aq] at q;cases q;exact new
 rw[aC hb] at q;by_cases AW:b=e
 ·have q':H b\.own x:=by
   rcases he with z|z
   ·exact absurd (AW.trans z) hb
   rw[AW];exact z
  rw[q] at q';cases q';let#[v,hv]:=Cz;exact#[v,by rw[AW];exact hv]
 apply (ok b u q).eA (λc v hc r=>k c v ?_ r) (λc r=>by rw[aC (EC c b r)];exact r) λc xs r=>by rw[aC (Lo c xs r)];exact r
 rcases hc with rfl|hc
 ·exact AW
 rintro rfl;rcases he with z|z
 ·exact EC c b hc z
 rw[hc] at z;cases z;exact hb Z
end
structure Un (fs ex:ai) (H H':Hp) (h h':Heap):Prop where
 keep:∀b o,h.get? b\o->H b=none->b∉fs->b∉ex->h'.get? b\o
 slot:∀b o,h.get? b\o->H b=none->b∈fs->b∉ex->∃sl,h'.get? b=some { o with slots:=sl }
 free:∀b o,h.get? b\o->H b=none->b∉ex->H' b=none
 there:∀b o,h.get? b\o->b∉ex->∃o',h'.get? b\o'
 gG:∀b xs,H b\.tup xs->H' b\.tup xs
 fN:∀b o u,H b\.frz o u->H' b\.frz o u
 gf:∀b ps,H b\.tbl ps->∃more,H' b\.tbl (ps++more)
section
variable{fs fs' ex ex':ai}{H H1 H2:Hp}{h h1 h2 h':Heap}{a x e:Addr}{o:HO}
theorem Un.any(u:Un fs ex H H1 h h1){b:Addr}{ob:Obj}(q:h.get? b\ob)(n:H b=none)(hx:b∉ex):∃sl,h1.get? b=some { ob with slots:=sl }:=by
 by_cases hb:b∈fs
 ·exact u.slot b ob q n hb hx
 exact#[ob.slots,u.keep b ob q n hb hx]
theorem Un.kept(k:∀b u,h.get? b\u->h'.get? b\u):Un fs ex H H h h':=
 #[λb ob q _ _ _=>k b ob q,λb ob q _ _ _=>#[ob.slots,k b ob q],λ_ _ _ n _=>n,λb ob q _=>#[ob,k b ob q],λ_ _ q=>q,λ_ _ _ q=>q,λ_ ps q=>#[#[],by rw[q];simp]]
theorem Un.refl:Un fs ex H H h h:=Un.kept λ_ _ q=>q
theorem Un.laid(k:∀b u,h.get? b\u->h'.get? b\u)(hp:h.objs.size<=a)(hn:H a=none):Un fs ex H (upd H a o) h h' where
 keep:=λb u q _ _ _=>k b u q
 slot:=λb u q _ _ _=>#[u.slots,k b u q]
 free:=λb u q n _=>by rw[aC (eG (jb (cy q) hp))];exact n
 there:=λb u q _=>#[u,k b u q]
 gG:=λb xs q=>by rw[aC (bw q hn)];exact q
 fN:=λb u xs q=>by rw[aC (bw q hn)];exact q
 gf:=λb ps q=>#[#[],by rw[aC (bw q hn),q];simp]
theorem Un.write(mu:Hv (H x))(he:e=x∨H e\.own x)(k:∀b u,b≠e->h.get? b\u->h'.get? b\u)(Cz:∃u,h'.get? e\u):Un fs ex H (upd H x o) h h':=by
 have hx:∀b,H b=none->b≠x:=λb n z=>by subst z;rw[n] at mu;exact mu
 have hb:∀b,H b=none->b≠e:=λb n z=>by
  subst z;rcases he with r|r
  ·exact hx b n r
  rw[n] at r;cases r
 have hm:∀b u,H b\u->¬Hv (some u)->b≠x:=λb u q nm z=>by subst z;rw[q] at mu;exact nm mu
 apply#[λb u q n _ _=>k b u (hb b n) q,λb u q n _ _=>#[u.slots,k b u (hb b n) q],λb u q n _=>by rw[aC (hx b n)];exact n,λb u q _=>?_,
  λb xs q=>by rw[aC (hm b _ q λz=>z)];exact q,λb u xs q=>by rw[aC (hm b _ q λz=>z)];exact q,λb ps q=>#[#[],by rw[aC (hm b _ q λz=>z),q];simp]]
 by_cases AW:b=e
 ·subst AW;exact Cz
 exact#[u,k b u AW q]
end
def HJ(h:Heap)(H:Hp):ai:=(List.range h.objs.size).filter λa=>(H a).isSome
def ia(h:Heap)(H:Hp):Heap:=PySem.W.hideAll h (HJ h H)
theorem gm_(h:Heap)(H:Hp):(ia h H).objs.size=h.objs.size:=PySem.W.hideAll_size _ _
theorem iE_{h:Heap}{H:Hp}{b:Addr}{o:Obj}(e:h.get? b\o)(n:H b=none):(ia h H).get? b\o:=
 PySem.W.hideAll_get _ e λhm=>by
  have q:(H b).isSome=true:=(List.mem_filter.mp hm).2;rw[n] at q;simp at q
theorem jP_{h:Heap}{H:Hp}{b:Addr}{o:Obj}(e:(ia h H).get? b\o):h.get? b\o/\H b=none:=by
 have e':h.get? b\o:=PySem.W.of_hideAll (HJ h H) e;apply#[e',?_];cases q:H b with
 |none=>rfl
 |some x=>
  have hm:b∈HJ h H:=List.mem_filter.mpr #[List.mem_range.mpr (cy e'),by simp[q]];have z:(ia h H).get? b=none:=PySem.W.hideAll_none (HJ h H) hm;rw[z] at e;cases e
end L2
abbrev ag:=List L2.V
abbrev aI:=Option L2.V
namespace L2
open PySem PySem.Spec PyProof.Rows
structure Mod (K:af) (mg:Str->Option Aa) (base:Heap):Prop where
 EU:K.In base
 glob:base.Ns mainGlobals mg
 blt:∃mb,base.Ns builtinsNs mb/\∀x:Str,x≠"__name__"->mb x=bootBuiltins x
 nolimit:base.NoLimit
structure Cx where
 prog:Ad
 w:Af
 K:af
 mg:Str->Option Aa
 base:Heap
 A:Ag
 N:ae
 cO:Ab
 jf:Hp
 env:Env
 outer:List Env
 stack:List Env
 ex:ai
 fn:Str->Bool
 calm:Bool
 pn:List (Addr × Obj)
 xe:Aa->Ab->Prop
def gS(l:List Env):ai:=l.filterMap (·.frame)
abbrev Cx.fs(X:Cx):ai:=gS X.outer
def Qj(sc:Scope)(x:Str):Prop:=sc.names.lookup x=some .local∨sc.names.lookup x\.cell∨sc.names.lookup x\.free
def Loc(sc:Scope)(x:Str):Prop:=sc.names.lookup x=some .local∨sc.names.lookup x\.cell
def Look(env:Env)(h:Heap)(m:Str->Option Aa)(x:Str)(u:Aa):Prop:=
 (env.kindOf x\.local/\m x\u)∨((env.kindOf x\.cell∨env.kindOf x\.free)/\∃c,env.cells.lookup x\c/\h.IsCell c (some u))
structure Cx.Ok (X:Cx):Prop where
 mod:Mod X.K X.mg X.base
 kind:X.env.scope.kind=.function
 glob:X.env.globals=mainGlobals
 blt:X.env.builtins=builtinsNs
 above:X.cO.heap.objs.size<=X.env.locals
 inj:∀x y c,X.env.cells.lookup x\c->X.env.cells.lookup y\c->x=y
 has:∀x,(X.env.kindOf x\.cell∨X.env.kindOf x\.free)->∃c,X.env.cells.lookup x\c
 Dh:∀x c,X.fn x=true->X.env.cells.lookup x\c->X.cO.heap.objs.size<=c
 hd:X.calm=true->X.A.handled=none
 frames:X.A.frames\X.stack
 HW:X.stack=X.outer∨(X.stack=X.env::X.outer/\X.env.frame\X.env.locals)
 Jh:∀b∈X.ex,b≠X.env.locals/\∀x c,X.env.cells.lookup x\c->c≠b
 bs:∀b o,X.base.get? b\o->X.cO.heap.get? b\o/\X.jf b=none
 uz:X.base.objs.size<=X.cO.heap.objs.size
 tJ:∀b o,X.base.get? b\o->b∉X.ex
 uh:∀b∈X.ex,b∉X.fs
 fM:X.cO.heap.FunFrames X.base X.outer
 wH:∀b∈X.fs,X.jf b=none
structure Inv (X:Cx) (pins:List (Addr × Obj)) (σ:List aI) (H:Hp) (s:Ab):Prop where
 ok:X.Ok
 os:s.os=X.cO.os
 bare:AllBare s.gens
 base:Un X.fs X.ex X.jf H X.cO.heap s.heap
 loc:∃m,s.heap.Ns X.env.locals m/\∀(i:Nat) (x:Str) (v:V),X.N[i]? = some x->σ[i]? = some (some v)->Qj X.env.scope x->∃u,RelV v u/\Look X.env s.heap m x u
 cell:∀x c,X.env.cells.lookup x\c->∃v,s.heap.IsCell c v
 free:H X.env.locals=none
 d8:∀x c,X.env.cells.lookup x\c->H c=none
 pin:∀p∈X.pn++pins,s.heap.get? p.1\p.2/\H p.1=none/\p.1≠X.env.locals/\p.1∉X.fs/\∀v,p.2.data≠.cell v
 aJ:eU X.prog X.w H s.heap
 len:σ.length=X.N.length
section
variable{X:Cx}{pins:List (Addr × Obj)}{σ:List aI}{H H':Hp}{s:Ab}{h':Heap}
theorem Cx.Ok.Ls(ok:X.Ok){b:Addr}{o:Obj}(e:X.base.get? b\o):b∉X.fs:=λhb=>by
 have:=(ok.fM.mem hb).1;rw[e] at this;cases this
theorem Inv.bs(I:Inv X pins σ H s):∀b o,X.base.get? b\o->s.heap.get? b\o/\H b=none:=λb o e=>
 #[I.base.keep b o (I.ok.bs b o e).1 (I.ok.bs b o e).2 (I.ok.Ls e) (I.ok.tJ b o e),I.base.free b o (I.ok.bs b o e).1 (I.ok.bs b o e).2 (I.ok.tJ b o e)]
theorem Inv.bk(I:Inv X pins σ H s):∀b o,X.base.get? b\o->s.heap.get? b\o:=λb o e=>(I.bs b o e).1
theorem Inv.mod(I:Inv X pins σ H s):Mod X.K X.mg X.base:=I.ok.mod
theorem Inv.fU(I:Inv X pins σ H s):X.K.In s.heap:=I.ok.mod.EU.keeps I.bk
theorem Inv.lt(I:Inv X pins σ H s):X.env.locals<s.heap.objs.size:=let #[_,hn,_]:=I.loc;hn.lt
theorem Inv.sz(I:Inv X pins σ H s):X.cO.heap.objs.size<=s.heap.objs.size:=pX I.ok.above (Nat.le_of_lt I.lt)
theorem Inv.Lr(I:Inv X pins σ H s){a:Addr}(h:s.heap.objs.size<=a):a∉X.fs:=λhb=>by
 let#[_,o,ho,_]:=I.ok.fM.mem hb;exact absurd (jb (cy ho) (pX I.sz h)) (xq _)
theorem Inv.vn(I:Inv X pins σ H s):∀x c,X.env.cells.lookup x\c->c≠X.env.locals:=λx c e z=>by
 let#[v,o,ho,hd]:=I.cell x c e;let#[m,#[o',es,ep,jU,jX,_],_]:=I.loc;rw[z,jU] at ho;cases ho;rw[jX] at hd;cases hd
theorem Inv.fM(I:Inv X pins σ H s):s.heap.FunFrames X.base X.outer:=by
 have all:∀(l:List Env),(∀b∈gS l,b∈X.fs)->X.cO.heap.FunFrames X.base l->s.heap.FunFrames X.base l:=by
  intro l
  induction l with
  |nil=>intro _ _;trivial
  |cons env r ih=>
   intro hs hl;let#[hk,#[L,o,hf,hn,ho,hd],hr]:=hl;have hL:L∈X.fs:=hs L (by unfold gS;rw[List.filterMap_cons,hf];exact d9);let#[sl,e]:=I.base.slot L o ho (I.ok.wH L hL) hL λz=>I.ok.uh L z hL;exact#[hk,#[L,_,hf,hn,e,hd],ih (λb hb=>hs b (by unfold gS;rw[List.filterMap_cons,hf];exact eL _ hb)) hr]
 exact all X.outer (λ_ hb=>hb) I.ok.fM
theorem Inv.stack(I:Inv X pins σ H s):s.heap.FunFrames X.base X.stack:=by
 rcases I.ok.HW with e|⟨e,hf⟩
 ·rw[e];exact I.fM
 rw[e];let#[m,hn,_]:=I.loc;apply .cons (by rw[I.ok.kind];decide) hf hn ?_ I.fM;exact Heap.get?_none_of_le (pX I.ok.uz I.ok.above)
theorem Inv.iO(I:Inv X pins σ H s):∀b∈gS X.stack,b∈X.env.locals::X.fs:=λb hb=>by
 rcases I.ok.HW with e|⟨e,hf⟩
 ·rw[e] at hb;exact eL _ hb
 rw[e] at hb;unfold gS at hb;rw[List.filterMap_cons,hf] at hb;exact hb
theorem Inv.iP(I:Inv X pins σ H s):∀b∈gS X.stack,H b=none:=λb hb=>by
 rcases cw.mp (I.iO b hb) with e|hb
 ·rw[e];exact I.free
 let#[_,o,ho,_]:=I.ok.fM.mem hb;exact I.base.free b o ho (I.ok.wH b hb) λz=>I.ok.uh b z hb
theorem Inv.step{g':Array GenState}{t':Nat}{d':Drawn}{ch:ai}(I:Inv X pins σ H s)
  (vf:∀b∈ch,(b∈X.ex∨X.cO.heap.objs.size<=b)/\b≠X.env.locals/\(∀x c,X.env.cells.lookup x\c->c≠b)/\∀p∈X.pn++pins,p.1≠b)
  (keep:∀b o,b≠X.env.locals->b∉X.fs->b∉ch->s.heap.get? b\o->H b=none->h'.get? b\o)
  (slot:∀b o,b≠X.env.locals->b∈X.fs->b∉ch->s.heap.get? b\o->H b=none->∃sl,h'.get? b=some { o with slots:=sl }) (free:∀b o,b∉ch->s.heap.get? b\o->H b=none->H' b=none)
  (there:∀b o,b∉ch->s.heap.get? b\o->∃o',h'.get? b\o')
  (gG:∀b xs,H b\.tup xs->H' b\.tup xs) (fN:∀b o u,H b\.frz o u->H' b\.frz o u) (gf:∀b ps,H b\.tbl ps->∃more,H' b\.tbl (ps++more))
  (ns:∀m,s.heap.Ns X.env.locals m->h'.Ns X.env.locals m) (aJ:eU X.prog X.w H' h') (hg:AllBare g') :
  Inv X pins σ H' { s with heap:=h',gens:=g',drawn:=d',toks:=t' }:=by
 have Rw:∀b o,X.cO.heap.get? b\o->b≠X.env.locals:=λb o e=>eG (jb (cy e) I.ok.above)
 have Io:∀b o,X.cO.heap.get? b\o->b∉X.ex->b∉ch:=λb o e hx hb=>by
  rcases (vf b hb).1 with z|z
  ·exact hx z
  exact absurd (jb (cy e) z) (xq _)
 have cellK:∀x c,X.env.cells.lookup x\c->∀v,s.heap.IsCell c v->h'.IsCell c v:=λx c e v ⟨o,ho,hd⟩=>by
  have EH:c∉ch:=λz=>(vf c z).2.2.1 x c e Z;by_cases hc:c∈X.fs
  ·let#[sl,q]:=slot c o (I.vn x c e) hc EH ho (I.d8 x c e);exact#[_,q,hd]
  exact#[o,keep c o (I.vn x c e) hc EH ho (I.d8 x c e),hd]
 apply#[I.ok,I.os,hg,#[λb o e n hb hx=>?_,λb o e n hb hx=>?_,λb o e n hx=>?_,λb o e hx=>?_,λb xs e=>gG b xs (I.base.gG b xs e),λb o xs e=>fN b o xs (I.base.fN b o xs e),λb ps e=>?_],?_,λx c e=>?_,?_,λx c e=>?_,λp hp=>?_,aJ,I.len]
 ·exact keep b o (Rw b o e) hb (Io b o e hx) (I.base.keep b o e n hb hx) (I.base.free b o e n hx)
 ·let#[sl,e1]:=I.base.slot b o e n hb hx;let#[Yy,e2]:=slot b _ (Rw b o e) hb (Io b o e hx) e1 (I.base.free b o e n hx);exact#[Yy,e2]
 ·let#[o',e1]:=I.base.there b o e hx;exact free b o' (Io b o e hx) e1 (I.base.free b o e n hx)
 ·let#[o',e1]:=I.base.there b o e hx;exact there b o' (Io b o e hx) e1
 ·let#[m1,e1]:=I.base.gf b ps e;let#[m2,e2]:=gf b _ e1;exact#[m1++m2,by rw[e2,Array.append_assoc]]
 ·let#[m,hn,hl]:=I.loc;apply#[m,ns m hn,λi x v e1 e2 e3=>?_];let#[u,r,l]:=hl i x v e1 e2 e3;apply#[u,r,?_];rcases l with l|⟨k,c,e,z⟩
  ·exact .inl l
  exact .inr #[k,c,e,cellK x c e _ z]
 ·let#[v,z]:=I.cell x c e;exact#[v,cellK x c e v z]
 ·let#[m,#[o,_,_,ho,_],_]:=I.loc;exact free _ o (λz=>(vf _ z).2.1 Z) ho I.free
 ·let#[v,o,ho,hd]:=I.cell x c e;exact free c o (λz=>(vf c z).2.2.1 x c e Z) ho (I.d8 x c e)
 let#[e,n,ne,nf,d]:=I.pin p hp;have EH:p.1∉ch:=λz=>(vf p.1 z).2.2.2 p hp Z;exact#[keep p.1 p.2 ne nf EH e n,free p.1 p.2 EH e n,ne,nf,d]
theorem Inv.un{t':Nat}(I:Inv X pins σ H s)(u:Un X.fs [] H H' s.heap h')(aJ:eU X.prog X.w H' h'):Inv X pins σ H' { s with heap:=h',toks:=t' }:=by
 let#[m,#[o,es,ep,ho,r],_]:=id I.loc;let#[sl,hL]:=u.any ho I.free Z2
 exact I.step (g':=s.gens) (d':=s.drawn) (ch:=[]) (λ_ z=>nomatch z) (λb o _ hb _ e n=>u.keep b o e n hb Z2) (λb o _ hb _ e n=>u.slot b o e n hb Z2) (λb o _ e n=>u.free b o e n Z2) (λb o _ e=>u.there b o e Z2) u.gG u.fN u.gf (λm' hm=>by
  let#[o',Ji,Jj,jU,r']:=hm;rw[ho] at jU;cases jU;exact#[_,Ji,Jj,hL,r']) aJ I.bare
theorem Inv.call{g':Array GenState}{t':Nat}{d':Drawn}{ch:ai}(I:Inv X pins σ H s)(u:Un (gS X.stack) ch H H' s.heap h')(aJ:eU X.prog X.w H' h')(hg:AllBare g')
  (vf:∀b∈ch,(b∈X.ex∨X.cO.heap.objs.size<=b)/\b≠X.env.locals/\(∀x c,X.env.cells.lookup x\c->c≠b)/\∀p∈X.pn++pins,p.1≠b) :
  Inv X pins σ H' { s with heap:=h',gens:=g',drawn:=d',toks:=t' }:=by
 let#[m,#[o,es,ep,ho,r],_]:=id I.loc;let#[sl,hL]:=u.any ho I.free λz=>(vf _ z).2.1 Z
 exact I.step (ch:=ch) vf (λb o hL hb hc e n=>u.keep b o e n (λz=>(cw.mp (I.iO b z)).elim hL hb) hc) (λb o _ _ hc e n=>u.any e n hc) (λb o hc e n=>u.free b o e n hc) (λb o hc e=>u.there b o e hc) u.gG u.fN u.gf (λm' hm=>by
  let#[o',Ji,Jj,jU,r']:=hm;rw[ho] at jU;cases jU;exact#[_,Ji,Jj,hL,r']) aJ hg
theorem Inv.turned{t':Nat}{it:Addr}(I:Inv X pins σ H s)(k:∀b o,b≠it->s.heap.get? b\o->h'.get? b\o)(hn:H it=none)(hL:it≠X.env.locals)
  (h1:it∈X.ex∨X.cO.heap.objs.size<=it) (h2:∀x c,X.env.cells.lookup x\c->c≠it) (h3:∀p∈X.pn++pins,p.1≠it):Inv X pins σ H { s with heap:=h',toks:=t' }:=by
 have Rv:∀b u,H b\u->b≠it:=λb u e z=>by rw[z,hn] at e;cases e
 apply I.step (g':=s.gens) (d':=s.drawn) (ch:=[it]) (λb hb=>?_) (λb o _ _ hc e _=>k b o (λz=>hc (by simp[z])) e) (λb o _ _ hc e _=>#[o.slots,k b o (λz=>hc (by simp[z])) e]) (λ_ _ _ _ n=>n)
  (λb o hc e=>#[o,k b o (λz=>hc (by simp[z])) e]) (λ_ _ e=>e) (λ_ _ _ e=>e) (λb ps e=>#[#[],by rw[e];simp]) (λm hm=>?_) (λb u e=>?_) I.bare
 ·have e:b=it:=⇑hb
  subst e;exact#[h1,hL,h2,h3]
 ·let#[o,es,ep,ho,r]:=hm;exact#[o,es,ep,k _ o (Ne.symm hL) ho,r]
 apply (I.aJ b u e).eA (λc v hc q=>k c v ?_ q) (λ_ q=>q) λ_ _ q=>q;rcases hc with z|z
 ·rw[z];exact Rv b u e
 exact Rv c _ z
theorem Inv.tok(I:Inv X pins σ H s)(t:Nat):Inv X pins σ H { s with toks:=t }:=I.un (h':=s.heap) (t':=t) Un.refl I.aJ
theorem Inv.kept{t':Nat}(I:Inv X pins σ H s)(k:∀b u,s.heap.get? b\u->h'.get? b\u):Inv X pins σ H { s with heap:=h',toks:=t' }:=I.un (Un.kept k) (I.aJ.kept k)
theorem Inv.laid{a:Addr}{o:HO}{t':Nat}(I:Inv X pins σ H s)(k:∀b u,s.heap.get? b\u->h'.get? b\u)(hp:s.heap.objs.size<=a)(new:fe X.prog X.w (upd H a o) h' a o) :
  Inv X pins σ (upd H a o) { s with heap:=h',toks:=t' }:=I.un (Un.laid k hp (I.aJ.fresh hp)) (I.aJ.laid k hp new)
theorem Inv.write{x e:Addr}{o:HO}{t':Nat}(I:Inv X pins σ H s)(mu:Hv (H x))(he:e=x∨H e\.own x)(k:∀b u,b≠e->s.heap.get? b\u->h'.get? b\u)(Cz:∃u,h'.get? e\u)
  (new:fe X.prog X.w (upd H x o) h' x o):Inv X pins σ (upd H x o) { s with heap:=h',toks:=t' }:=I.un (Un.write mu he k Cz) (I.aJ.write mu he k Cz new)
theorem Inv.nZ{xY:List (Addr × Obj)}(I:Inv X pins σ H s)(h:∀p∈xY,s.heap.get? p.1\p.2/\H p.1=none/\p.1≠X.env.locals/\p.1∉X.fs/\∀v,p.2.data≠.cell v):Inv X xY σ H s:=
 #[I.ok,I.os,I.bare,I.base,I.loc,I.cell,I.free,I.d8,λp hp=>(eZ.mp hp).elim (λz=>I.pin p (List.mem_append_left _ z)) (h p),I.aJ,I.len]
theorem Uk{N:ae}(hN:N.Nodup){i j:Nat}{x:Str}(a:N[i]? = some x)(b:N[j]? = some x):i=j:=by
 let#[h1,e1]:=cq.mp a;let#[h2,e2]:=cq.mp b;exact (List.getElem_inj hN).mp (e1.trans e2.symm)
theorem U3{M:Model}{A:Ag}{E:Aa->Ab->Prop}{i:Nat}{x:Str}{v:V}{u:Aa}{Q:Unit->Ab->Prop}(I:Inv X pins σ H s)(hN:X.N.Nodup)(hi:X.N[i]? = some x)(hx:Loc X.env.scope x)(r:RelV v u)
  (h:∀s',Inv X pins (σ.set i (some v)) H s'->(∃a,Heap.SameBut a s.heap s'.heap/\(a=X.env.locals∨X.env.cells.lookup x\a))->Q () s') (hf:X.fn x=true∨X.env.scope.names.lookup x\.local:=by first|exact .inl Z|exact .inr Z|assumption):wpAny M A (storeName X.env x u) Q E s:=by
 let#[m,hn,hl]:=id I.loc;have MU:(X.env.scope.kind == .class || (X.env.scope.kind == .module&&X.env.locals != X.env.globals))=false:=by rw[I.ok.kind];rfl
 have FJ:i<σ.length:=by rw[I.len];exact (cq.mp hi).1
 let vn:=I.vn
 have tracked:∀{a:Addr} {h':Heap},(∃o,s.heap.get? a\o/\H a=none)->Heap.SameBut a s.heap h'->eU X.prog X.w H h':=λ{a h'} ha hs b ob e=>by
  let#[_,_,yr]:=ha;apply (I.aJ b ob e).eA (λc w' hc q=>(hs.2 c ?_).trans q) (λ_ q=>q) λ_ _ q=>q;rintro rfl;rcases hc with rfl|hc
  ·rw[yr] at e;cases e
  rw[yr] at hc;cases hc
 rcases hx with hk|hk
 ·apply wpAny_storeName_local hk hn (λh' vc hs=>?_) MU;let#[oL,_,_,IJ,_]:=id hn;apply h _ #[I.ok,I.os,I.bare,#[λb o e n hb hx=>?_,λb o e n hb hx=>?_,I.base.free,λb o e hx=>?_,I.base.gG,I.base.fN,I.base.gf],#[_,vc,λj y v' e1 e2 e3=>?_],λy c e=>?_,I.free,I.d8,λp hp=>?_,tracked #[oL,IJ,I.free] hs,by simpa using I.len] #[_,hs,.inl Z]
  ·exact (hs.2 b (eG (jb (cy e) I.ok.above))).trans (I.base.keep b o e n hb hx)
  ·let#[sl,e1]:=I.base.slot b o e n hb hx;exact#[sl,(hs.2 b (eG (jb (cy e) I.ok.above))).trans e1]
  ·let#[o',e1]:=I.base.there b o e hx;exact#[o',(hs.2 b (eG (jb (cy e) I.ok.above))).trans e1]
  ·by_cases hj:j=i
   ·subst hj;rw[hi] at e1;cases e1;rw[List.getElem?_set_self FJ] at e2;cases e2;exact#[u,r,.inl #[hk,by simp]]
   rw[List.getElem?_set_ne (Ne.symm hj)] at e2;let#[u',r',q]:=hl j y v' e1 e2 e3;apply#[u',r',?_];rcases q with⟨k,e⟩|⟨k,c,e,z⟩
   ·apply .inl #[k,?_];have:y≠x:=λe=>hj (Uk hN e1 (e▸hi));simp[this,e]
   exact .inr #[k,c,e,z.sameBut hs (vn y c e)]
  ·let#[w',z]:=I.cell y c e;exact#[w',z.sameBut hs (vn y c e)]
  let#[e,n,ne,nf,d]:=I.pin p hp;exact#[(hs.2 p.1 ne).trans e,n,ne,nf,d]
 have MH:X.fn x=true:=by
  rcases hf with z|z
  ·exact z
  rw[z] at hk;cases hk
 let#[c,hc]:=I.ok.has x (.inl hk);let#[w',z]:=I.cell x c hc;apply wpAny_storeName_cell I.ok.kind hk hc z (λh' CB hs=>?_);let#[oc,Fm,Mf]:=id z;apply h { s with heap:=h' } #[I.ok,I.os,I.bare,#[λb o e n hb hx=>?_,λb o e n hb hx=>?_,I.base.free,λb o e hx=>?_,I.base.gG,I.base.fN,I.base.gf],#[m,hn.sameBut hs (Ne.symm (vn x c hc)),λj y v' e1 e2 e3=>?_],λy c' e=>?_,I.free,I.d8,λp hp=>?_,tracked #[oc,Fm,I.d8 x c hc] hs,by simpa using I.len] #[c,hs,.inr hc]
 ·exact (hs.2 b (eG (jb (cy e) (I.ok.Dh x c MH hc)))).trans (I.base.keep b o e n hb hx)
 ·let#[sl,e1]:=I.base.slot b o e n hb hx;exact#[sl,(hs.2 b (eG (jb (cy e) (I.ok.Dh x c MH hc)))).trans e1]
 ·let#[o',e1]:=I.base.there b o e hx;exact#[o',(hs.2 b (eG (jb (cy e) (I.ok.Dh x c MH hc)))).trans e1]
 ·by_cases hj:j=i
  ·subst hj;rw[hi] at e1;cases e1;rw[List.getElem?_set_self FJ] at e2;cases e2;exact#[u,r,.inr #[.inl hk,c,hc,CB]]
  rw[List.getElem?_set_ne (Ne.symm hj)] at e2;let#[u',r',q]:=hl j y v' e1 e2 e3;apply#[u',r',?_];rcases q with q|⟨k,c',e,z'⟩
  ·exact .inl q
  apply .inr #[k,c',e,z'.sameBut hs ?_];rintro rfl;exact hj (Uk hN e1 (I.ok.inj _ _ _ e hc▸hi))
 ·by_cases SX:c'=c
  ·subst SX;exact#[_,CB]
  let#[w2,z2]:=I.cell y c' e;exact#[w2,z2.sameBut hs SX]
 let#[e,n,ne,nf,d]:=I.pin p hp;apply#[(hs.2 p.1 ?_).trans e,n,ne,nf,d];intro q;rw[q,Fm] at e;have q':oc=p.2:=eF e;exact d w' (by rw[<- q'];exact Mf)
theorem T9{M:Model}{A:Ag}{E:Aa->Ab->Prop}{i:Nat}{x:Str}{v:V}{u:Aa}{Q:Unit->Ab->Prop}(I:Inv X pins σ H s)(hN:X.N.Nodup)(hi:X.N[i]? = some x)(hx:Loc X.env.scope x)(r:RelV v u)
  (h:∀s',Inv X pins (σ.set i (some v)) H s'->Q () s') (hf:X.fn x=true∨X.env.scope.names.lookup x\.local:=by first|exact .inl Z|exact .inr Z|assumption):wpAny M A (storeName X.env x u) Q E s:=
 U3 I hN hi hx r (λs' I' _=>h s' I') hf
theorem Inv.yS{s':Ab}{ch:ai}(I:Inv X pins σ H s)(ho:s'.os=s.os)(u:Un (gS X.stack) ch H H' s.heap s'.heap)(aJ:eU X.prog X.w H' s'.heap)(hg:AllBare s'.gens)
  (vf:∀b∈ch,(b∈X.ex∨X.cO.heap.objs.size<=b)/\b≠X.env.locals/\(∀x c,X.env.cells.lookup x\c->c≠b)/\∀p∈X.pn++pins,p.1≠b):Inv X pins σ H' s':=by
 let#[h',g',d',t',o']:=s';have e:o'=s.os:=ho;subst e;exact I.call (g':=g') (t':=t') (d':=d') u aJ hg vf
end
abbrev XK:=Aa->Option Addr->Hp->Prop
abbrev St:=List aI
abbrev VK:=V->Hp->Prop
abbrev TE:=St->Hp->VK->Prop
abbrev TT:=St->Hp->(Bool->Hp->Prop)->Prop
abbrev TA:=St->Hp->(ag->Hp->Prop)->Prop
structure Ends where
 nx:St->Hp->Prop
 rt:VK
 bk:St->Hp->Prop:=λ_ _=>False
 ct:St->Hp->Prop:=λ_ _=>False
abbrev TS:=Ends->St->Hp->Prop
def EP(X:Cx)(pins:List (Addr × Obj))(σ:St)(Q:VK)(u:Aa)(s':Ab):Prop:=∃v H',Inv X pins σ H' s'/\RelV v u/\Q v H'
def TP(X:Cx)(pins:List (Addr × Obj))(σ:St)(Q:Bool->Hp->Prop)(b:Bool)(s':Ab):Prop:=∃H',Inv X pins σ H' s'/\Q b H'
def AP(X:Cx)(pins:List (Addr × Obj))(σ:St)(Q:ag->Hp->Prop)(us:ak)(s':Ab):Prop:=∃vs H',Inv X pins σ H' s'/\Vals vs us/\Q vs H'
def SP(X:Cx)(pins:List (Addr × Obj))(D:Ends)(f:Flow)(s':Ab):Prop:=
 match f with
 |.next=>∃bu H',Inv X pins bu H' s'/\D.nx bu H'
 |.brk=>∃bu H',Inv X pins bu H' s'/\D.bk bu H'
 |.cont=>∃bu H',Inv X pins bu H' s'/\D.ct bu H'
 |.ret u=>∃v bu H',Inv X pins bu H' s'/\RelV v u/\D.rt v H'
def PE(X:Cx)(e:Expr)(t:TE):Prop:=
 ∀(pins:List (Addr × Obj)) (s:Ab) (σ:St) (H:Hp) (Q:VK),Inv X pins σ H s->t σ H Q->wpAny (model X.prog X.w) X.A (eval e X.env) (EP X pins σ Q) X.xe s
def PT(X:Cx)(e:Expr)(t:TT):Prop:=
 ∀(pins:List (Addr × Obj)) (s:Ab) (σ:St) (H:Hp) (Q:Bool->Hp->Prop),Inv X pins σ H s->t σ H Q->wpAny (model X.prog X.w) X.A (isTrue e X.env (eval e X.env)) (TP X pins σ Q) X.xe s
def PW(X:Cx)(e:Expr)(t:TT):Prop:=
 ∀(whole:Sem Aa) (pins:List (Addr × Obj)) (s:Ab) (σ:St) (H:Hp) (Q:Bool->Hp->Prop),Inv X pins σ H s->t σ H Q->wpAny (model X.prog X.w) X.A (isTrue e X.env whole) (TP X pins σ Q) X.xe s
theorem PW.pt{X:Cx}{e:Expr}{t:TT}(h:PW X e t):PT X e t:=h _
def PA(X:Cx)(es:List Expr)(t:TA):Prop:=
 ∀(pos:Pos) (pins:List (Addr × Obj)) (s:Ab) (σ:St) (H:Hp) (Q:ag->Hp->Prop),Inv X pins σ H s->t σ H Q->wpAny (model X.prog X.w) X.A (spliced (backTo pos (starEach es X.env))) (AP X pins σ Q) X.xe s
def PS(X:Cx)(st:Stmt)(t:TS):Prop:=
 ∀(pins:List (Addr × Obj)) (s:Ab) (σ:St) (H:Hp) (D:Ends),Inv X pins σ H s->t D σ H->wpAny (model X.prog X.w) X.A (exec st X.env) (SP X pins D) X.xe s
def kW(X:Cx)(st:List Stmt)(t:TS):Prop:=
 ∀(pins:List (Addr × Obj)) (s:Ab) (σ:St) (H:Hp) (D:Ends),Inv X pins σ H s->t D σ H->wpAny (model X.prog X.w) X.A (execs st X.env) (SP X pins D) X.xe s
theorem a_{α:Type}{t:Sem α}{Q Q':α->Ab->Prop}{M:Model}{A:Ag}{E:Aa->Ab->Prop}{s:Ab}(h:wpAny M A t Q E s)(hQ:∀a s,Q a s->Q' a s):wpAny M A t Q' E s:=wpAny_mono h hQ λ_ _ x=>x
end L2
abbrev km:=L2.St->L2.Hp->Prop
namespace L2
open PySem PySem.Spec PyProof.Rows
section
variable{X:Cx}
inductive qM (i:Nat) (σ:St) (H:Hp) (Q:VK):Prop
 |mk:∀v,σ[i]? = some (some v)->Q v H->qM i σ H Q
def tC(v:V):TE:=λ_ H Q=>Q v H
theorem _x{i:Nat}{x:Str}{pos:Pos}(hN:X.N[i]? = some x)(hv:Qj X.env.scope x)(hd:(x == ("__debug__":Str))=false:=by decide)(gQ:(x == ("__classdict__":Str))=false:=by decide):PE X (.Name x pos) (qM i):=by
 intro pins s σ H Q I h;let#[v,e,h]:=h;let#[m,hn,hl]:=I.loc;let#[u,r,l]:=hl i x v hN e hv;have fin:EP X pins σ Q u s:=#[v,H,I,r,h];rcases l with⟨hk,hm⟩|⟨hk,c,hc,oB⟩
 ·exact wpAny_Name (wpAny_loadName_local I.ok.kind hk hn hm fin) hd
 rcases hk with hk|hk
 ·exact wpAny_Name (wpAny_loadName_cell I.ok.kind hk hc oB fin) hd
 exact wpAny_Name (wpAny_loadName_free I.ok.kind hk hc oB fin gQ) hd
theorem ay{i j pos}:PE X (.Constant (.int i) j pos) (tC (.int i)):=λ_ _ _ H _ I h=>wpAny_Constant_int #[.int i,H,I.tok _,#[_,Z],h]
theorem qr{b j pos}:PE X (.Constant (.bool b) j pos) (tC (.bl b)):=λ_ _ _ H _ I h=>Constant_bool #[.bl b,H,I,Z,h]
theorem BD{j pos}:PE X (.Constant .none j pos) (tC .non):=λ_ _ _ H _ I h=>Constant_none #[.non,H,I,Z,h]
theorem dc{x j pos}:PE X (.Constant (.str x) j pos) (tC (.str x)):=λ_ _ _ H _ I h=>Calls.Constant_str #[.str x,H,I.tok _,#[_,Z],h]
def Gl(X:Cx)(x:Str):Prop:=X.env.kindOf x=some .globalImplicit
theorem NZ{E:Aa->Ab->Prop}{pins:List (Addr × Obj)}{s:Ab}{σ:St}{H:Hp}{x:Str}{u:Aa}{pos:Pos}{Q:Aa->Ab->Prop}(I:Inv X pins σ H s)(hg:Gl X x)(hm:X.mg x\u)(h:Q u s)
  (hd:(x == ("__debug__":Str))=false:=by decide):wpAny (model X.prog X.w) X.A (eval (.Name x pos) X.env) Q E s:=
 Calls.Name_function_global I.ok.kind hg (Calls.loadGlobal_global (by rw[I.ok.glob];exact I.mod.glob.keeps I.bk) hm h) hd
theorem CY{E:Aa->Ab->Prop}{pins:List (Addr × Obj)}{s:Ab}{σ:St}{H:Hp}{x:Str}{u:Aa}{pos:Pos}{Q:Aa->Ab->Prop}(I:Inv X pins σ H s)(hg:Gl X x)(hm:X.mg x=none)(hv:bootBuiltins x\u)(h:Q u s)
  (hn:x≠"__name__":=by decide) (hd:(x == ("__debug__":Str))=false:=by decide):wpAny (model X.prog X.w) X.A (eval (.Name x pos) X.env) Q E s:=by
 let#[mb,h1,h2]:=I.mod.blt;exact Calls.Name_function_global I.ok.kind hg (Calls.loadGlobal_builtin (by rw[I.ok.glob];exact I.mod.glob.keeps I.bk) hm (by rw[I.ok.blt];exact h1.keeps I.bk) ((h2 x hn).trans hv) h) hd
theorem xh{x:Str}{v:V}{u:Aa}{pos:Pos}(hg:Gl X x)(hm:X.mg x\u)(r:RelV v u)(hd:(x == ("__debug__":Str))=false:=by decide):PE X (.Name x pos) (tC v):=
 λ_ _ _ H _ I h=>NZ I hg hm #[v,H,I,r,h] hd
theorem iG{x:Str}{v:V}{u:Aa}{pos:Pos}(hg:Gl X x)(hm:X.mg x=none)(hv:bootBuiltins x\u)(r:RelV v u)(hn:x≠"__name__":=by decide)(hd:(x == ("__debug__":Str))=false:=by decide):PE X (.Name x pos) (tC v):=
 λ_ _ _ H _ I h=>CY I hg hm hv #[v,H,I,r,h] hn hd
variable{a b:Expr}{ta tb:TE}{pos:Pos}
def PC(X:Cx)(op:CmpOp)(a b:Expr)(t:TE):Prop:=
 ∀(pins:List (Addr × Obj)) (s:Ab) (σ:St) (H:Hp) (Q:VK),Inv X pins σ H s->t σ H Q->
  wpAny (model X.prog X.w) X.A (eval a X.env) (λv aV=>wpAny (model X.prog X.w) X.A (eval b X.env) (λu hX=>wpAny (model X.prog X.w) X.A (compareOp op v u) (EP X pins σ Q) X.xe hX) X.xe aV) X.xe s
theorem jP(b:Expr){op:CmpOp}(h:op≠.In)(h2:op≠.NotIn):behindInMarks op b=false:=by
 have e1:(op == CmpOp.In)=false:=by cases op<;>first|rfl|exact absurd Z h
 have e2:(op == CmpOp.NotIn)=false:=by cases op<;>first|rfl|exact absurd Z h2
 cases b<;>simp[behindInMarks,e1,e2]
def KO(ta:TE):TE:=λσ H Q=>ta σ H λx H1=>Q (.bl (decide (x=.non))) H1
theorem RelV.tH{x:V}{v:Aa}(r:RelV x v):(v == Value.none)=decide (x=.non):=by
 cases x with
 |non=>cases r;rfl
 |bl _=>cases r;rfl
 |int _=>let#[t,rfl]:=r;rfl
 |str _=>let#[t,rfl]:=r;rfl
 |byt _=>let#[t,rfl]:=r;rfl
 |flt _=>let#[t,rfl]:=r;rfl
 |ref _=>cases r;rfl
 |ty _=>cases r;rfl
theorem IZ{j pos'}(ha:PE X a ta):PC X .Is a (.Constant .none j pos') (KO ta):=by
 intro pins s σ H Q I h;apply a_ (ha pins s σ H _ I h) λv s1 ⟨x,H1,I1,r1,q1⟩=>?_;exact Constant_none (is_none_gen #[.bl _,H1,I1,by rw[r1.tH];rfl,q1])
inductive QY (Q:Bool->Hp->Prop) (x:V) (H1:Hp):Prop
 |mk:∀c,x=.bl c->Q c H1->QY Q x H1
def tB(t:TE):TT:=λσ H Q=>t σ H λx H1=>QY Q x H1
theorem F9{op:CmpOp}{t:TE}(h:PC X op a b t)(h1:behindInMarks op b=false:=by first|exact jP _ (by decide) (by decide)|rfl):PE X (.Compare a [op] [b] pos) t:=λpins s σ H Q I hw=>wpAny_Compare1 (h pins s σ H Q I hw) h1
theorem yN{op:CmpOp}{t:TE}(h:PC X op a b t)(h1:behindInMarks op b=false:=by first|exact jP _ (by decide) (by decide)|rfl):PT X (.Compare a [op] [b] pos) (tB t):=by
 intro pins s σ H Q I hw;apply wpAny_isTrue_Compare1 (a_ (h pins s σ H _ I hw) λv s1 h1=>a_ h1 λu s2 h2=>a_ h2 λc s3 ⟨x,H1,I1,r1,q1⟩=>?_) h1;let#[d,rfl,q]:=q1;cases r1;exact uk #[H1,I1,q]
theorem di{e:Expr}{t:TE}(h:PE X e t)(he:∀whole,isTrue e X.env whole=(do let v <- whole;standAt e.pos;holding [v] (truthy v)):=by intro _;rfl):PT X e (tB t):=by
 intro pins s σ H Q I hw;apply isTrue_plain (a_ (h pins s σ H _ I hw) λv s1 ⟨x,H1,I1,r1,q1⟩=>?_) (he _);let#[d,rfl,q]:=q1;cases r1;exact uk #[H1,I1,q]
variable{tA HR:TT}{rest:List Expr}
def KU(t u:TT):TT:=λσ H Q=>t σ H λc H1=>if c=true then u σ H1 Q else Q false H1
def X9(t u:TT):TT:=λσ H Q=>t σ H λc H1=>if c=true then Q true H1 else u σ H1 Q
def KL(t:TT):TT:=λσ H Q=>t σ H λc H1=>Q (!c) H1
theorem uB(ha:PT X a tA):PW X (.BoolOp .And [a] pos) tA:=by
 intro wh pins s σ H Q I h;apply isTrue_and (a_ (ha pins s σ H Q I h) λc s1 e=>?_);cases c with
 |true=>exact isTrue_and_nil e
 |false=>exact e
theorem uC(ha:PT X a tA):PW X (.BoolOp .Or [a] pos) tA:=by
 intro wh pins s σ H Q I h;apply isTrue_or (a_ (ha pins s σ H Q I h) λc s1 e=>?_);cases c with
 |false=>exact isTrue_or_nil e
 |true=>exact e
theorem pW(ha:PT X a tA)(hb:PW X (.BoolOp .And (b::rest) pos) HR):PW X (.BoolOp .And (a::b::rest) pos) (KU tA HR):=by
 intro wh pins s σ H Q I h;apply isTrue_and (a_ (ha pins s σ H _ I h) λc s1 ⟨H1,I1,q1⟩=>?_);cases c with
 |true=>exact hb wh pins s1 σ H1 Q I1 q1
 |false=>exact#[H1,I1,q1]
theorem qq(ha:PT X a tA)(hb:PW X (.BoolOp .Or (b::rest) pos) HR):PW X (.BoolOp .Or (a::b::rest) pos) (X9 tA HR):=by
 intro wh pins s σ H Q I h;apply isTrue_or (a_ (ha pins s σ H _ I h) λc s1 ⟨H1,I1,q1⟩=>?_);cases c with
 |true=>exact#[H1,I1,q1]
 |false=>exact hb wh pins s1 σ H1 Q I1 q1
theorem dZ(ha:PT X a tA):PT X (.UnaryOp .Not a pos) (KL tA):=by
 intro pins s σ H Q I h;exact isTrue_not (ha pins s σ H (λc H1=>Q (!c) H1) I h)
inductive qW (tb:TE) (σ:St) (Q:VK) (x:V) (H1:Hp):Prop
 |mk:∀c,x=.bl c->(if c=true then tb σ H1 Q else Q (.bl false) H1)->qW tb σ Q x H1
def D6(ta tb:TE):TE:=λσ H Q=>ta σ H λx H1=>qW tb σ Q x H1
inductive xC (tb:TE) (σ:St) (Q:VK) (x:V) (H1:Hp):Prop
 |mk:∀c,x=.bl c->(if c=true then Q (.bl true) H1 else tb σ H1 Q)->xC tb σ Q x H1
def KJ(ta tb:TE):TE:=λσ H Q=>ta σ H λx H1=>xC tb σ Q x H1
inductive qQ (Q:VK) (x:V) (H1:Hp):Prop
 |mk:∀c,x=.bl c->Q (.bl (!c)) H1->qQ Q x H1
def DY(ta:TE):TE:=λσ H Q=>ta σ H λx H1=>qQ Q x H1
theorem kF{op}{t:TE}(h:PE X a t):PE X (.BoolOp op [a] pos) t:=λpins s σ H Q I hw=>BoolOp_one (h pins s σ H Q I hw)
theorem kD(ha:PE X a ta)(hb:PE X (.BoolOp .And (b::rest) pos) tb):PE X (.BoolOp .And (a::b::rest) pos) (D6 ta tb):=by
 intro pins s σ H Q I h;apply BoolOp_and (a_ (ha pins s σ H _ I h) λv s1 ⟨x,H1,I1,r1,q1⟩=>?_);let#[c,rfl,q1]:=q1;cases r1;apply uk ?_;cases c with
 |true=>exact hb pins s1 σ H1 Q I1 q1
 |false=>exact#[.bl false,H1,I1,Z,q1]
theorem RH(ha:PE X a ta)(hb:PE X (.BoolOp .Or (b::rest) pos) tb):PE X (.BoolOp .Or (a::b::rest) pos) (KJ ta tb):=by
 intro pins s σ H Q I h;apply BoolOp_or (a_ (ha pins s σ H _ I h) λv s1 ⟨x,H1,I1,r1,q1⟩=>?_);let#[c,rfl,q1]:=q1;cases r1;apply uk ?_;cases c with
 |false=>exact hb pins s1 σ H1 Q I1 q1
 |true=>exact#[.bl true,H1,I1,Z,q1]
theorem R9(ha:PE X a ta):PE X (.UnaryOp .Not a pos) (DY ta):=by
 intro pins s σ H Q I h;apply UnaryOp_ (a_ (ha pins s σ H _ I h) λv s1 ⟨x,H1,I1,r1,q1⟩=>?_);let#[c,rfl,q1]:=q1;cases r1;exact not_of (uk #[.bl (!c),H1,I1,Z,q1])
def X_(t:TT)(ta tb:TE):TE:=λσ H Q=>t σ H λc H1=>if c=true then ta σ H1 Q else tb σ H1 Q
theorem Uc{c:Expr}(hc:PT X c tA)(ha:PE X a ta)(hb:PE X b tb):PE X (.IfExp c a b pos) (X_ tA ta tb):=by
 intro pins s σ H Q I h;apply wpAny_IfExp (a_ (hc pins s σ H _ I h) λd s1 ⟨H1,I1,q1⟩=>?_);cases d with
 |true=>exact ha pins s1 σ H1 Q I1 q1
 |false=>exact hb pins s1 σ H1 Q I1 q1
end
end L2
namespace L2
open PySem PySem.Spec PyProof.Rows
def dJ(K:af)(H:Hp)(a:Addr)(xs:ag):Prop:=
 Rd H a (.lst xs) ∨
  ∃(o:Obj) (its:Array Aa) (n:Nat),K.lookup a\o/\o.cls=.type "list"/\o.dict=none/\o.data=.seq its n/\its.size<=sizeLine/\Vals xs its.toList
def gE(K:af)(H:Hp)(a:Addr)(xs:ag):Prop:=
 Rd H a (.tup xs) ∨
  ∃(o:Obj) (its:Array Aa) (n:Nat),K.lookup a\o/\o.cls=.type "tuple"/\o.data=.seq its n/\its.size<=sizeLine/\Vals xs its.toList
def Qi:Aa->aI
 |.none=>some .non
 |.bool b=>some (.bl b)
 |.int i _=>some (.int i)
 |.str x _=>some (.str x)
 |.bytes b _=>some (.byt b)
 |.float b _=>some (.flt b)
 |.ref a=>some (.ref a)
 |.type n=>some (.ty n)
 |_=>none
theorem RelV.abs{x:V}{u:Aa}(r:RelV x u):Qi u\x:=by
 cases x with
 |non=>cases r;rfl
 |bl _=>cases r;rfl
 |int _=>let#[t,rfl]:=r;rfl
 |str _=>let#[t,rfl]:=r;rfl
 |byt _=>let#[t,rfl]:=r;rfl
 |flt _=>let#[t,rfl]:=r;rfl
 |ref _=>cases r;rfl
 |ty _=>cases r;rfl
theorem RelV.inj{x y:V}{u:Aa}(r:RelV x u)(q:RelV y u):x=y:=eF (r.abs.symm.trans q.abs)
theorem Vals.inj:∀{xs ys:ag} {us:ak},Vals xs us->Vals ys us->xs=ys
 |_,_,_,.nil,.nil=>rfl
 |_,_,_,.cons r t,.cons r' t'=>by rw[r.inj r',Vals.inj t t']
section
variable{X:Cx}{pins:List (Addr × Obj)}{σ:St}{H:Hp}{s:Ab}{a:Addr}{xs ys:ag}
theorem dJ.of{K:af}(h:H a\.lst xs):dJ K H a xs:=.inl (.inl h)
theorem gE.of{K:af}(h:H a\.tup xs):gE K H a xs:=.inl (.inl h)
theorem Inv.list(I:Inv X pins σ H s)(h:dJ X.K H a xs):∃its:ak,Vals xs its/\PlainL s.heap a its.toArray/\xs.length<=sizeLine:=by
 rcases h with h|⟨o,its,n,hk,hc,hd,hs,hz,r⟩
 ·let#[z,its,n,r,e]:=h.ok I.aJ;exact#[its,r,#[_,n,e,Z,Z,Z],z]
 apply#[its.toList,r,#[o,n,I.fU a o hk,hc,hd,by simpa using hs],?_];let e:=r.length;simp only[uG] at e;omega
theorem Inv.tuple(I:Inv X pins σ H s)(h:gE X.K H a xs):∃its:ak,Vals xs its/\IsTup s.heap a its.toArray/\xs.length<=sizeLine:=by
 rcases h with h|⟨o,its,n,hk,hc,hs,hz,r⟩
 ·let#[z,its,r,p,_]:=h.ok I.aJ;exact#[its,r,p,z]
 apply#[its.toList,r,#[o,I.fU a o hk,hc,n,by simpa using hs],?_];let e:=r.length;simp only[uG] at e;omega
theorem Inv.jR(I:Inv X pins σ H s)(h:dJ X.K H a xs)(h':dJ X.K H a ys):xs=ys:=by
 let#[its,r,#[o,n,e,_,_,d],_]:=I.list h;let#[its',r',#[o',n',e',_,_,d'],_]:=I.list h';rw[e] at e';cases e';rw[d] at d'
 injection d' with d1 _
 have:its=its':=⇑(dX Array.toList d1)
 subst this;exact r.inj r'
theorem Inv.ip(I:Inv X pins σ H s)(h:gE X.K H a xs)(h':gE X.K H a ys):xs=ys:=by
 let#[its,r,#[o,e,_,n,d],_]:=I.tuple h;let#[its',r',#[o',e',_,n',d'],_]:=I.tuple h';rw[e] at e';cases e';rw[d] at d'
 injection d' with d1 _
 have:its=its':=⇑(dX Array.toList d1)
 subst this;exact r.inj r'
end
abbrev Cx.hW(X:Cx)(E:Aa->Ab->Prop):Cx:={ X with xe:=E }
abbrev Cx.Al(X:Cx):Cx:=X.hW λ_ _=>False
theorem Cx.Ok.hW{X:Cx}(ok:X.Ok)(E:Aa->Ab->Prop):(X.hW E).Ok:=
 #[ok.mod,ok.kind,ok.glob,ok.blt,ok.above,ok.inj,ok.has,ok.Dh,ok.hd,ok.frames,ok.HW,ok.Jh,ok.bs,ok.uz,ok.tJ,ok.uh,ok.fM,ok.wH]
theorem Cx.Ok.eN{X:Cx}{E:Aa->Ab->Prop}(ok:(X.hW E).Ok):X.Ok:=
 #[ok.mod,ok.kind,ok.glob,ok.blt,ok.above,ok.inj,ok.has,ok.Dh,ok.hd,ok.frames,ok.HW,ok.Jh,ok.bs,ok.uz,ok.tJ,ok.uh,ok.fM,ok.wH]
section
variable{X:Cx}{pins:List (Addr × Obj)}{σ:St}{H:Hp}{s:Ab}{E:Aa->Ab->Prop}
theorem Inv.hW(I:Inv X pins σ H s)(E:Aa->Ab->Prop):Inv (X.hW E) pins σ H s:=#[I.ok.hW E,I.os,I.bare,I.base,I.loc,I.cell,I.free,I.d8,I.pin,I.aJ,I.len]
theorem Inv.eN(I:Inv (X.hW E) pins σ H s):Inv X pins σ H s:=#[I.ok.eN,I.os,I.bare,I.base,I.loc,I.cell,I.free,I.d8,I.pin,I.aJ,I.len]
theorem SP.eN{D:Ends}{f:Flow}{s':Ab}(h:SP (X.hW E) pins D f s'):SP X pins D f s':=by
 cases f with
 |next=>let#[bu,H',I,q]:=h;exact#[bu,H',I.eN,q]
 |brk=>let#[bu,H',I,q]:=h;exact#[bu,H',I.eN,q]
 |cont=>let#[bu,H',I,q]:=h;exact#[bu,H',I.eN,q]
 |ret u=>let#[v,bu,H',I,r,q]:=h;exact#[v,bu,H',I.eN,r,q]
theorem kW.Al{st:List Stmt}{t:TS}(h:kW X.Al st t):kW X st t:=λpins s σ H D I hw=>
 wpAny_mono (h pins s σ H D (I.hW _) hw) (λ_ _ q=>q.eN) λ_ _ z=>False.elim z
end
section
variable{X:Cx}{st:Stmt}{rest:List Stmt}{t u:TS}{e:Expr}{te:TE}{pos:Pos}
def xD:TS:=λD σ H=>D.nx σ H
def pe(t u:TS):TS:=λD σ H=>t { D with nx:=u D } σ H
theorem bJ:kW X [] xD:=λ_ _ σ H _ I h=>wpAny_execs_nil #[σ,H,I,h]
theorem ax(h1:PS X st t)(h2:kW X rest u):kW X (st::rest) (pe t u):=by
 intro pins s σ H D I h;apply wpAny_execs_cons (a_ (h1 pins s σ H { D with nx:=u D } I h) λf s1 q=>?_);cases f with
 |next=>
  let#[bu,H',I',q]:=q;exact h2 pins s1 bu H' D I' q
 |ret v=>exact q
 |brk=>exact q
 |cont=>exact q
theorem aA(h1:PS X st t):kW X [st] t:=by
 intro pins s σ H D I h;apply wpAny_execs_cons (a_ (h1 pins s σ H D I h) λf s1 q=>?_);cases f with
 |next=>exact wpAny_execs_nil q
 |ret v=>exact q
 |brk=>exact q
 |cont=>exact q
theorem Inv.quiet{pins:List (Addr × Obj)}{σ:St}{H:Hp}{s:Ab}(I:Inv X pins σ H s):interactive X.env=false:=by simp[interactive,I.ok.kind]
def D3(te:TE):TS:=λD σ H=>te σ H λ_ H1=>D.nx σ H1
theorem iE(he:PE X e te)(hs:swapsWith e none pos.line X.env=pure false:=by rfl):PS X (.Expr e pos) (D3 te):=by
 intro pins s σ H D I h;exact wpAny_Expr_any (a_ (he pins s σ H _ I h) λv s1 ⟨x,H1,I1,r1,q1⟩=>#[σ,H1,I1,q1]) I.quiet hs
def KI(te:TE):TS:=λD σ H=>te σ H D.rt
theorem aU(he:PE X e te):PS X (.Return (some e) pos) (KI te):=by
 intro pins s σ H D I h;exact wpAny_Return_some (a_ (he pins s σ H _ I h) λv s1 ⟨x,H1,I1,r1,q1⟩=>#[x,σ,H1,I1,r1,q1])
def KP(c:TT)(t u:TS):TS:=λD σ H=>c σ H λb H1=>if b=true then t D σ H1 else u D σ H1
theorem bx{c:Expr}{a b:List Stmt}{tc:TT}(hc:PT X c tc)(ha:kW X a t)(hb:kW X b u):PS X (.If c a b pos) (KP tc t u):=by
 intro pins s σ H D I h;apply wpAny_If (a_ (hc pins s σ H _ I h) λd s1 ⟨H1,I1,q1⟩=>?_);cases d with
 |true=>exact ha pins s1 σ H1 D I1 q1
 |false=>exact hb pins s1 σ H1 D I1 q1
def qR:TS:=λ_ _ _=>False
theorem j1_:PS X st qR:=λ_ _ _ _ _ _ h=>h.elim
theorem eI{Yb:List Stmt}:kW X Yb qR:=λ_ _ _ _ _ _ h=>h.elim
end
abbrev TG:=V->St->Hp->(St->Hp->Prop)->Prop
abbrev BZ:=ag->St->Hp->(St->Hp->Prop)->Prop
def PG(X:Cx)(target:Expr)(t:TG):Prop:=
 ∀(pins:List (Addr × Obj)) (s:Ab) (σ:St) (H:Hp) (v:V) (u:Aa) (Q:km),Inv X pins σ H s->RelV v u->t v σ H Q->
  wpAny (model X.prog X.w) X.A (assign target X.env u) (λ_ s'=>∃bu H',Inv X pins bu H' s'/\Q bu H') X.xe s
def Hu(X:Cx)(ts:List Expr)(t:BZ):Prop:=
 ∀(pins:List (Addr × Obj)) (s:Ab) (σ:St) (H:Hp) (vs:ag) (us:ak) (Q:km),Inv X pins σ H s->Vals vs us->t vs σ H Q->
  wpAny (model X.prog X.w) X.A (assignInOrder ((assignEach ts X.env).map (·.2)) us) (λ_ s'=>∃bu H',Inv X pins bu H' s'/\Q bu H') X.xe s
abbrev BY:=V->V->V->Hp->(Hp->Prop)->Prop
def Ht(X:Cx)(t:BY):Prop:=
 ∀(pins:List (Addr × Obj)) (s:Ab) (σ:St) (H:Hp) (o i v:V) (ov iv u:Aa) (Q:Hp->Prop),Inv X pins σ H s->RelV o ov->RelV i iv->RelV v u->t o i v H Q->
  wpAny (model X.prog X.w) X.A (setItem ov iv u) (λ_ s'=>∃H',Inv X pins σ H' s'/\Q H') X.xe s
section
variable{X:Cx}{pos:Pos}
def gz(i:Nat):TG:=λv σ H Q=>Q (σ.set i (some v)) H
theorem eY{i:Nat}{x:Str}(hN:X.N.Nodup)(hi:X.N[i]? = some x)(hx:Loc X.env.scope x)(hf:X.fn x=true∨X.env.scope.names.lookup x\.local:=by first|exact .inl Z|exact .inr Z|assumption):PG X (.Name x pos) (gz i):=by
 intro pins s σ H v u Q I r h;exact wpAny_assign_Name (T9 I hN hi hx r (λs' I'=>#[_,H,I',h]) hf)
theorem ig:type_of% PyProof.Rows.Boot.«isinstance»:=PyProof.Rows.Boot.«isinstance»
theorem MQ:type_of% PyProof.Rows.Boot.«int»:=PyProof.Rows.Boot.«int»
theorem C3:type_of% PyProof.Rows.Boot.«str»:=PyProof.Rows.Boot.«str»
theorem BO:type_of% PyProof.Rows.Boot.«tuple»:=PyProof.Rows.Boot.«tuple»
theorem uA:type_of% PyProof.Rows.Boot.«list»:=PyProof.Rows.Boot.«list»
theorem JS:type_of% PyProof.Rows.Boot.«sorted»:=PyProof.Rows.Boot.«sorted»
theorem pS:type_of% PyProof.Rows.Boot.«dict»:=PyProof.Rows.Boot.«dict»
theorem Rn(i:Nat){x:Str}(hN:X.N.Nodup:=by first|(show ([_]:List Str).Nodup;decide +kernel)|(show ([_,_]:List Str).Nodup;decide +kernel)|(show ([_,_,_]:List Str).Nodup;decide +kernel)|(show ([_,_,_,_]:List Str).Nodup;decide +kernel))(hi:X.N[i]? = some x:=by rfl)(hx:Loc X.env.scope x:=by first|exact Or.inl Z|exact Or.inr Z)(hf:X.fn x=true∨X.env.scope.names.lookup x\.local:=by first|exact .inl Z|exact .inr Z|assumption):PG X (.Name x pos) (gz i):=eY hN hi hx hf
theorem cm(i:Nat){x:Str}(hN:X.N.Nodup)(hi:X.N[i]? = some x:=by rfl)(hx:Loc X.env.scope x:=by first|exact Or.inl Z|exact Or.inr Z)(hf:X.fn x=true∨X.env.scope.names.lookup x\.local:=by first|exact .inl Z|exact .inr Z|assumption):PG X (.Name x pos) (gz i):=eY hN hi hx hf
def wG:BZ:=λvs σ H Q=>vs=[]/\Q σ H
inductive vm (t:TG) (u:BZ) (vs:ag) (σ:St) (H:Hp) (Q:km):Prop
 |mk:∀v r,vs=v::r->(t v σ H λbu H'=>u r bu H' Q)->vm t u vs σ H Q
theorem jd:Hu X [] wG:=by
 intro pins s σ H vs us Q I r h;let#[e,h]:=h;subst e;cases r;exact assignInOrder_nil ⟨σ,H,I,h⟩
theorem dB{e:Expr}{es:List Expr}{t:TG}{u:BZ}(h1:PG X e t)(h2:Hu X es u)
  (hs:(assignEach (e::es) X.env).map (·.2)=assign e X.env::(assignEach es X.env).map (·.2):=by rfl):Hu X (e::es) (vm t u):=by
 intro pins s σ H vs us Q I r h;let#[v,vr,e1,h]:=h;subst e1;cases r with
 |cons r rr=>
  rw[hs];apply assignInOrder_cons (a_ (h1 pins s σ H _ _ _ I r h) λ_ s1 ⟨mU,H1,I1,q1⟩=>?_);exact h2 pins s1 mU H1 _ _ Q I1 rr q1
inductive i3 (K:af) (n:Nat) (t:BZ) (v:V) (σ:St) (H:Hp) (Q:km):Prop
 |mk:∀a xs,v=.ref a->gE K H a xs->xs.length=n->t xs σ H Q->i3 K n t v σ H Q
theorem mE{es:List Expr}{k:Nat}{t:BZ}{n:Nat}(hc:X.calm=true)(h:Hu X es t)
  (hn:(assignEach es X.env).length=n:=by rfl) (AB:(assignEach es X.env).findIdx? (·.1)=none:=by rfl):PG X (.Tuple es k pos) (i3 X.K n t):=by
 intro pins s σ H v u Q I r hw;let#[a,xs,e1,hq,hl,hw]:=hw;subst e1;cases r;let#[its,rv,ht,hz]:=I.tuple hq;apply assign_Tuple_tuple (I.ok.hd hc) ht (by simp[hn,<- hl,rv.length]) AB λh' hx=>?_;have I1:Inv X pins σ H { s with heap:=h' }:=I.kept (t':=s.toks) λb o e=>hx b o (eG (cy e)) e;exact h pins _ σ H xs _ Q I1 ⇑rv hw
def Na(to ti:TE)(t:BY):TG:=λv σ H Q=>to σ H λo H1=>ti σ H1 λi H2=>t o i v H2 λH3=>Q σ H3
theorem Jg{o i:Expr}{to ti:TE}{t:BY}(ho:PE X o to)(hi:PE X i ti)(hs:Ht X t)
  (ha:∀v,assign (.Subscript o i pos) X.env v=(do
   let ov <- holding [v] (eval o X.env)
   let iv <- holding [v,ov] (eval i X.env)
   standAt pos
   holding [v,ov,iv] (setItem ov iv v)
   release [v,ov,iv] []):=by intro _;rfl):PG X (.Subscript o i pos) (Na to ti t):=by
 intro pins s σ H v u Q I r h;rw[ha];apply aF (wpAny_holding (a_ (ho pins s σ H _ I h) λov s1 ⟨x,H1,I1,r1,q1⟩=>?_));apply aF (wpAny_holding (a_ (hi pins s1 σ H1 _ I1 q1) λiv s2 ⟨y,H2,I2,r2,q2⟩=>?_));apply aF (wpAny_standAt (aF (wpAny_holding (a_ (hs pins s2 σ H2 x y v ov iv u _ I2 r1 r2 r q2) λ_ s3 ⟨H3,I3,q3⟩=>?_))));exact wpAny_release #[σ,H3,I3,q3]
def zA(te:TE)(g:TG):TS:=λD σ H=>te σ H λx H1=>g x σ H1 D.nx
theorem Bx{tg e:Expr}{te:TE}{g:TG}(he:PE X e te)(hg:PG X tg g)(hs:swapsWithSole [tg] e pos.line X.env=pure false:=by rfl)(hw:swappedStores [tg] e X.env=pure none:=by rfl)
  (h1:(assignEach [tg] X.env).map (·.2)=[assign tg X.env]:=by rfl):PS X (.Assign [tg] e pos) (zA te g):=by
 intro pins s σ H D I h;apply wpAny_Assign_stores (a_ (he pins s σ H _ I h) λv s1 ⟨x,H1,I1,r1,q1⟩=>?_) hs hw;rw[h1];exact a_ (hg pins s1 σ H1 x v _ I1 r1 q1) λ_ s2 q=>q
theorem CZ{i:Nat}{x:Str}{e:Expr}{te:TE}{pos':Pos}(hN:X.N.Nodup)(hi:X.N[i]? = some x)(hx:Loc X.env.scope x)(he:PE X e te)(hs:swapsWith e (some (.Name x pos')) pos.line X.env=pure false:=by rfl)(hf:X.fn x=true∨X.env.scope.names.lookup x\.local:=by first|exact .inl Z|exact .inr Z|assumption) :
  PS X (.Assign [.Name x pos'] e pos) (zA te (gz i)):=by
 intro pins s σ H D I h;apply wpAny_Assign_Name (a_ (he pins s σ H _ I h) λv s1 ⟨y,H1,I1,r1,q1⟩=>?_) hs;exact T9 I1 hN hi hx r1 (λs2 I2=>#[_,H1,I2,q1]) hf
theorem bh(i:Nat){x:Str}{e:Expr}{te:TE}{pos':Pos}(hN:X.N.Nodup)(he:PE X e te)(hi:X.N[i]? = some x:=by rfl)(hx:Loc X.env.scope x:=by first|exact Or.inl Z|exact Or.inr Z)(hs:swapsWith e (some (.Name x pos')) pos.line X.env=pure false:=by rfl)(hf:X.fn x=true∨X.env.scope.names.lookup x\.local:=by first|exact .inl Z|exact .inr Z|assumption):PS X (.Assign [.Name x pos'] e pos) (zA te (gz i)):=CZ hN hi hx he hs hf
end
section
variable{X:Cx}{pos:Pos}
def qK(c:TT)(tb:TS):TS:=λD σ H=>∃W:Nat->St->Hp->Prop,(∃m,W m σ H)/\∀m σ H,W m σ H->
 c σ H λb H1=>if b=true then ∃N:St->Hp->Prop,(∀bu H',N bu H'->∃m',m'<m/\W m' bu H')/\tb { D with nx:=N,ct:=N,bk:=D.nx } σ H1 else D.nx σ H1
theorem Uo{c:Expr}{body:List Stmt}{tc:TT}{tb:TS}(hp:PassesOwn (model X.prog X.w) X.A X.env X.xe)(hc:PT X c tc)(hb:kW X body tb):PS X (.While c body [] pos) (qK tc tb):=by
 intro pins s σ H D I h;let#[W,#[m0,w0],turn]:=h;apply wpAny_While (codeAny_whileLoop (λn s'=>∃bu H',Inv X pins bu H' s'/\W n bu H') ?_ m0 #[σ,H,I,w0]);rintro n s1 ⟨mU,H1,I1,w1⟩;apply wpAny_passesOwn hp (a_ (hc pins s1 mU H1 _ I1 (turn n mU H1 w1)) λb s2 ⟨H2,I2,q2⟩=>?_);cases b with
 |true=>
  let#[N,hN,q2]:=q2;rw[aH Z];apply wpAny_passesOwn hp (a_ (hb pins s2 mU H2 _ I2 q2) λf s3 q3=>?_);cases f with
  |next=>
   let#[ku,H3,I3,n3]:=q3;let#[m',hm,w3]:=hN ku H3 n3;exact#[m',hm,ku,H3,I3,w3]
  |cont=>
   let#[ku,H3,I3,n3]:=q3;let#[m',hm,w3]:=hN ku H3 n3;exact#[m',hm,ku,H3,I3,w3]
  |brk=>exact q3
  |ret v=>exact q3
 |false=>
  rw[aB gC];exact wpAny_execs_nil #[mU,H2,I2,q2]
end
structure It where
 go:Nat->Hp->Prop
 xv:Nat->Hp->V->Hp->Prop
 stop:Nat->Hp->Prop
def c8(X:Cx)(pins:List (Addr × Obj))(H:Hp)(b:Addr):Prop:=
 H b=none/\b≠X.env.locals/\b∉X.fs/\(b∈X.ex∨X.cO.heap.objs.size<=b)/\(∀x c,X.env.cells.lookup x\c->c≠b)/\∀p∈X.pn++pins,p.1≠b
theorem Inv.jY{X:Cx}{pins:List (Addr × Obj)}{σ:St}{H H':Hp}{s:Ab}{b:Addr}(I:Inv X pins σ H s)(hb:s.heap.objs.size<=b)(hn:H' b=none):c8 X pins H' b:=by
 apply#[hn,vD (jb I.lt hb),I.Lr hb,.inr (pX I.sz hb),λx c e z=>?_,λp hp z=>?_]
 ·let#[v,q]:=I.cell x c e;exact absurd (jb q.lt (by rw[z];exact hb)) (xq _)
 exact absurd (jb (cy (I.pin p hp).1) (by rw[z];exact hb)) (xq _)
structure Turn (P:Ad) (w:Af) (K:af) (tg:Expr) (J:It) (fp:ai) (it:Addr) (tn:Nat->Heap->Prop):Prop where
 mem:it∈fp
 obj:∀i h,tn i h->∀b∈fp,∃o,h.get? b\o/\∀v,o.data≠.cell v
 keep:∀i h h',tn i h->(∀b∈fp,∀o,h.get? b\o->h'.get? b\o)->tn i h'
 item:∀(X:Cx),X.prog=P->X.w=w->X.K=K->X.calm=true->∀(i:Nat) (pins:List (Addr × Obj)) (s:Ab) (σ:St) (H:Hp) (E:Aa->Ab->Prop),Inv X pins σ H s->(∀b∈fp,c8 X pins H b)->tn i s.heap->J.go i H->
  wpAny (model P w) X.A (pyNext (.ref it)) (λr s1=>∃u,r\u /\
   wpAny (model P w) X.A (letOwnedTupleGo tg (.ref it) u) (λ_ s2=>∃x H',Inv X pins σ H' s2/\RelV x u/\J.xv i H x H'/\tn (i+1) s2.heap/\∀b∈fp,H' b=none) E s1) E s
 done:∀(X:Cx),X.prog=P->X.w=w->X.K=K->X.calm=true->∀(i:Nat) (pins:List (Addr × Obj)) (s:Ab) (σ:St) (H:Hp) (E:Aa->Ab->Prop),Inv X pins σ H s->(∀b∈fp,c8 X pins H b)->tn i s.heap->J.stop i H->
  wpAny (model P w) X.A (pyNext (.ref it)) (λr s1=>r=none/\Inv X pins σ H s1) E s
 self:∀(A:Ag) (i:Nat) (s:Ab) (Q:Aa->Ab->Prop) (E:Aa->Ab->Prop),tn i s.heap->Q (.ref it) s->wpAny (model P w) A (pyIter (.ref it)) Q E s
abbrev TI:=St->Hp->(It->Hp->Prop)->Prop
def Wm(X:Cx)(pins:List (Addr × Obj))(σ:St)(tg:Expr)(R:It->Hp->Prop)(Iy:Aa)(s2:Ab):Prop:=
 ∃(it:Addr) (fp:ai) (tn:Nat->Heap->Prop) (J:It) (H':Hp),Iy=.ref it/\Inv X pins σ H' s2/\Turn X.prog X.w X.K tg J fp it tn/\tn 0 s2.heap/\(∀b∈fp,c8 X pins H' b)/\R J H'
def PI(X:Cx)(tg iter:Expr)(wi:TI):Prop:=
 ∀(pins:List (Addr × Obj)) (s:Ab) (σ:St) (H:Hp) (R:It->Hp->Prop),Inv X pins σ H s->wi σ H R->
  wpAny (model X.prog X.w) X.A (eval iter X.env) (λv s1=>wpAny (model X.prog X.w) X.A (pyIter v) (Wm X pins σ tg R) X.xe s1) X.xe s
theorem F2{M:Model}{A:Ag}{E:Aa->Ab->Prop}{s:Ab}{tg:Expr}{it:Addr}{u:Aa}{o:Obj}{n:String}{vs:Array Aa}{Q:Unit->Ab->Prop}(ho:s.heap.get? it\o)(hc:o.cls=.type n)(hd:o.data=.fields vs)
  (hn:["enumerate","zip","dict_itemiterator","dict_reverseitemiterator","odict_iterator","itertools.zip_longest","itertools.pairwise"].contains n=false) (hQ:Q () s):wpAny M A (letOwnedTupleGo tg (.ref it) u) Q E s:=by
 unfold letOwnedTupleGo
 cases tg<;>first
  |exact bA hQ
  |(cases u<;>first
    |exact bA hQ
    |(apply aF (wpAny_load ho ?_)
      rw[hc,hd];show wpAny M A (if (["enumerate","zip","dict_itemiterator","dict_reverseitemiterator","odict_iterator","itertools.zip_longest","itertools.pairwise"].contains n&&vs[0]? == some (rawInt _))=true then _ else _) Q E s;rw[aB (by intro h;rw[hn,Bool.false_and] at h;cases h)];exact bA hQ))
def zo(K:af)(a:Addr):It:=
 ⟨λi H=>∃xs x,dJ K H a xs/\xs[i]? = some x,λi H x H'=>H'=H/\∀xs,dJ K H a xs->xs[i]? = some x,λi H=>∃xs,dJ K H a xs/\xs.length<=i⟩
def B5(lo:Int)(n:Nat):It:=⟨λi _=>i<n,λi H x H'=>H'=H/\x=.int (lo+i),λi _=>n<=i⟩
theorem hQ_{P:Ad}{w:Af}{K:af}{tg:Expr}(a it:Addr):Turn P w K tg (zo K a) [it] it (λi h=>h.IsListIter it a i) where
 mem:=by simp
 obj:=λi h st b hb=>by
  have e:b=it:=⇑hb
  subst e;let#[o,e,c,d]:=st;exact#[o,e,λv z=>by rw[d] at z;cases z]
 keep:=λi h h' st k=>st.at λo e=>k it Z2 o e
 item:=by
  intro X hP hw hK hc i pins s σ H E I hf st hg;subst hP hw hK;let#[xs,x,hq,hx]:=hg;let#[its,rv,p,hz]:=I.list hq;let#[u,hu,ru]:=rv.get hx;let#[f0,f1,f2,f3,f4,f5]:=hf it Z2;apply wpAny_pyNext_list_item st p.isList (x:=u) ⇑hu λh' eV sb=>?_;have I1:Inv X pins σ H { s with heap:=h' }:=I.turned (t':=s.toks) (λb o hb e=>(sb.2 b hb).trans e) f0 f1 f3 f4 f5;let#[o,e,c,d]:=id eV;exact#[u,Z,F2 (s:={ s with heap:=h' }) e c d (by decide) #[x,H,I1,ru,#[Z,λys hy=>by rw[I.jR hy hq];exact hx],eV,λb hb=>(hf b hb).1]]
 done:=by
  intro X hP hw hK hc i pins s σ H E I hf st hg;subst hP hw hK;let#[xs,hq,hx]:=hg;let#[its,rv,p,hz]:=I.list hq;let#[f0,f1,f2,f3,f4,f5]:=hf it Z2;let hl:=rv.length;exact wpAny_pyNext_list_end (I.ok.hd hc) st p.isList (by simp;omega) λh' eb=>#[Z,I.turned (t':=s.toks) (λb o hb e=>eb b o hb e) f0 f1 f3 f4 f5]
 self:=λ_ _ _ _ _ st h=>wpAny_pyIter_listiter st h
theorem fI_{P:Ad}{w:Af}{K:af}{tg:Expr}(it:Addr)(lo:Int)(n:Nat):Turn P w K tg (B5 lo n) [it] it (λi h=>IsRangeIter h it (lo+(i:Nat) * 1) ((n:Int) - (i:Nat)) 1) where
 mem:=by simp
 obj:=λi h st b hb=>by
  have e:b=it:=⇑hb
  subst e
  exact#[_,st,λv z=>by
   have z':Data.fields _=Data.cell v:=z;cases z']
 keep:=λi h h' st k=>k it Z2 _ st
 item:=by
  intro X hP hw hK hc i pins s σ H E I hf st hg;subst hP hw hK;let#[f0,f1,f2,f3,f4,f5]:=hf it Z2;let W:=Walks.range (prog:=X.prog) (w:=X.w) (I.ok.hd hc) it lo 1 n;apply W.item i s _ _ hg st λv h' tk hv eV kk=>?_;let#[t,rfl]:=hv;have I1:Inv X pins σ H { s with heap:=h',toks:=tk }:=I.turned (λb o hb e=>kk b o ⇑hb e) f0 f1 f3 f4 f5;apply#[_,Z,F2 (s:={ s with heap:=h',toks:=tk }) (n:="range_iterator") eV Z Z (by decide) #[.int (lo+i),H,I1,#[t,?_],#[Z,Z],eV,λb hb=>(hf b hb).1]];rw[Int.mul_one]
 done:=by
  intro X hP hw hK hc i pins s σ H E I hf st hg;subst hP hw hK;let#[f0,f1,f2,f3,f4,f5]:=hf it Z2;exact wpAny_pyNext_range_end (I.ok.hd hc) st (by have:n<=i:=hg;omega) λh' eb=>#[Z,I.turned (t':=s.toks) (λb o hb e=>eb b o hb e) f0 f1 f3 f4 f5]
 self:=λ_ _ _ _ _ st h=>wpAny_pyIter_rangeiter st h
end L2
namespace L2
open PySem PySem.Spec PyProof.Rows
section
variable{X:Cx}{tg:Expr}
inductive tU (K:af) (R:It->Hp->Prop) (x:V) (H1:Hp):Prop
 |mk:∀a,x=.ref a->(∃xs,dJ K H1 a xs)->R (zo K a) H1->tU K R x H1
def E6(K:af)(tl:TE):TI:=λσ H R=>tl σ H λx H1=>tU K R x H1
theorem dN{l:Expr}{tl:TE}(hl:PE X l tl):PI X tg l (E6 X.K tl):=by
 intro pins s σ H R I h;apply a_ (hl pins s σ H _ I h) λv s1 ⟨x,H1,I1,r1,q1⟩=>?_;let#[a,e,#[xs,hq],q]:=q1;subst e;cases r1;let#[its,rv,p,hz]:=I1.list hq;apply wpAny_pyIter_list p.isList ?_;apply#[s1.heap.objs.size,[s1.heap.objs.size],_,_,H1,Z,I1.kept (t':=s1.toks) λb o e=>ck _ e,hQ_ a _,#[_,eQ _ Z,Z,Z],λb hb=>?_,q];have e:b=s1.heap.objs.size:=⇑hb
 subst e;exact I1.jY (bj _) (I1.aJ.fresh (bj _))
theorem i5_{pins:List (Addr × Obj)}{σ:St}{H:Hp}{s:Ab}{R:It->Hp->Prop}{E:Aa->Ab->Prop}{lo hi:Int}{t u v:Tok}{tk:Nat}(I:Inv X pins σ H s)(h1:-(2 ^ 62)<=lo)(h2:lo<2 ^ 62)(h3:-(2 ^ 62)<=hi)(h4:hi<2 ^ 62)
  (q:R (B5 lo (hi - lo).toNat) H):wpAny (model X.prog X.w) X.A (pyIter (.ref s.heap.objs.size)) (Wm X pins σ tg R) E { s with heap:=s.heap.push { cls:=.type "range",data:=.fields (List.toArray [.int lo t,.int hi u,.int 1 v]) },toks:=tk }:=by
 apply wpAny_pyIter_range (IsRange.new ..) (small_one h1 h2 h3 h4) ?_;have I1:Inv X pins σ H { s with heap:=s.heap.push { cls:=.type "range",data:=.fields (List.toArray [.int lo t,.int hi u,.int 1 v]) },toks:=tk }:=I.kept λb o e=>ck _ e
 apply#[(s.heap.push { cls:=.type "range",data:=.fields (List.toArray [.int lo t,.int hi u,.int 1 v]) }).objs.size,[(s.heap.push { cls:=.type "range",data:=.fields (List.toArray [.int lo t,.int hi u,.int 1 v]) }).objs.size],_,_,H,Z,
  I1.kept (t':=tk) λb o e=>ck _ e,fI_ _ lo (hi - lo).toNat,?_,λb hb=>?_,q]
 ·have e1:lo+((0:Nat):Int) * 1=lo:=by simp
  have e2:(((hi - lo).toNat:Nat):Int) - ((0:Nat):Int)=Builtin.Range.rangeSize lo hi 1:=by rw[rangeSize_one];split<;>omega
  show IsRangeIter _ _ (lo+((0:Nat):Int) * 1) ((((hi - lo).toNat:Nat):Int) - ((0:Nat):Int)) 1;rw[e1,e2];exact eQ _ Z
 have e:b=(s.heap.push { cls:=.type "range",data:=.fields (List.toArray [.int lo t,.int hi u,.int 1 v]) }).objs.size:=⇑hb
 subst e;exact I1.jY (bj _) (I1.aJ.fresh (bj _))
inductive tT (R:It->Hp->Prop) (vs:ag) (H1:Hp):Prop
 |mk:∀j:Int,vs=[.int j]->-(2 ^ 62)<=j->j<2 ^ 62->R (B5 0 j.toNat) H1->tT R vs H1
def E5(ta:TA):TI:=λσ H R=>ta σ H λvs H1=>tT R vs H1
theorem xi{a:Expr}{ta:TA}{p pos:Pos}(hg:Gl X "range")(hm:X.mg "range"=none)(ha:PA X [a] ta)(hs:starEach [a] X.env=[(false,eval a X.env)]:=by rfl):PI X tg (.Call (.Name "range" p) [a] [] pos) (E5 ta):=by
 intro pins s σ H R I h;apply Call_ (CY I hg hm boot_range (PyProof.Rows.callWith_type1 (a_ (ha pos pins s σ H _ I h) λus s1 ⟨vs,H1,I1,r1,q1⟩=>?_) hs Z));let#[j,e,q1,q2,q]:=q1;subst e;cases r1 with
 |cons r rr=>
  cases rr;let#[t,rfl]:=r;exact call_range_1 (i5_ I1 Z1 Z1 q1 q2 ⇑q)
def KQ(wi:TI)(g:TG)(tb:TS):TS:=λD σ H=>wi σ H λJ H1=>∃W:Nat->Nat->St->Hp->Prop,(∃m,W 0 m σ H1)/\∀i m σ H,W i m σ H->
 (J.stop i H/\D.nx σ H)∨(J.go i H/\∃N:St->Hp->Prop,(∀bu H',N bu H'->∃m',m'<m/\W (i+1) m' bu H')/\∀x H',J.xv i H x H'->g x σ H' λgF H2=>tb { D with nx:=N,ct:=N,bk:=D.nx } gF H2)
def wX(fp:ai)(h:Heap):List (Addr × Obj):=fp.filterMap λb=>(h.get? b).map λo=>(b,o)
theorem Kd{fp:ai}{h:Heap}{b:Addr}{o:Obj}(hb:b∈fp)(e:h.get? b\o):(b,o)∈wX fp h:=xo.mpr #[b,hb,by rw[e];rfl]
theorem ht_{fp:ai}{h:Heap}{p:Addr × Obj}(hp:p∈wX fp h):p.1∈fp/\h.get? p.1\p.2:=by
 let#[b,hb,e]:=xo.mp hp;cases q:h.get? b with
 |none=>rw[q] at e;cases e
 |some o=>
  rw[q] at e;have e':(b,o)=p:=eF e;subst e';exact#[hb,q]
theorem Inv.pinned{pins:List (Addr × Obj)}{σ:St}{H:Hp}{s:Ab}{fp:ai}(I:Inv X pins σ H s)(hf:∀b∈fp,c8 X pins H b)(ho:∀b∈fp,∃o,s.heap.get? b\o/\∀v,o.data≠.cell v):Inv X (pins++wX fp s.heap) σ H s:=
 I.nZ λp hp=>(eZ.mp hp).elim (λz=>I.pin p (mP _ z)) λz=>by
  let#[hb,e]:=ht_ z;let#[f0,f1,f2,_]:=hf p.1 hb;let#[o,e',d]:=ho p.1 hb;rw[e] at e';cases e';exact#[e,f0,f1,f2,d]
theorem Inv.eO{pins pl:List (Addr × Obj)}{σ:St}{H:Hp}{s:Ab}(I:Inv X (pins++pl) σ H s):Inv X pins σ H s:=I.nZ λp hp=>I.pin p (mP _ (List.mem_append_left _ hp))
theorem eR{iter:Expr}{body:List Stmt}{wi:TI}{g:TG}{tb:TS}{pos:Pos}(hp:PassesOwn (model X.prog X.w) X.A X.env X.xe)(hc:X.calm=true)(hi:PI X tg iter wi)(hg:PG X tg g)(hb:kW X body tb)
  (hs:∀x,foldedSetIterable iter X.env x=pure x:=by intro _;rfl):PS X (.For tg iter body [] pos) (KQ wi g tb):=by
 intro pins s σ H D I h;apply wpAny_For (a_ (hi pins s σ H _ I h) λv s1 h1=>a_ h1 λIy s2 h2=>?_) hs;let#[it,fp,tn,J,H2,e,I2,T,dE,f2,W,#[m0,w0],turn]:=h2;subst e;have zB:∀{H':Hp},(∀b∈fp,H' b=none)->∀b∈fp,c8 X pins H' b:=λhn b hb=>#[hn b hb,(f2 b hb).2];apply codeAny_forLoop_any (λn s'=>∃i bu H',Inv X pins bu H' s'/\tn i s'.heap/\(∀b∈fp,H' b=none)/\W i n bu H') ?_ m0 #[0,σ,H2,I2,dE,λb hb=>(f2 b hb).1,w0];rintro n s3 ⟨i,ku,H3,I3,dR,F7,w3⟩;rcases turn i n ku H3 w3 with⟨stop,qn⟩|⟨go,N,hN,step⟩
 ·apply wpAny_passesOwn hp (a_ (T.done X Z Z Z hc i pins s3 ku H3 X.xe I3 (zB F7) dR stop) λr s4 ⟨hr,I4⟩=>?_);subst hr;exact wpAny_execs_nil #[ku,H3,I4,qn]
 apply wpAny_passesOwn hp (a_ (T.item X Z Z Z hc i pins s3 ku H3 X.xe I3 (zB F7) dR go) λr s4 ⟨u,hr,h4⟩=>?_);subst hr;apply wpAny_passesOwn hp (a_ h4 λ_ s5 ⟨x,H5,I5,r5,y5,gx,oH⟩=>?_);let I5':=I5.pinned (zB oH) (T.obj _ _ gx);apply wpAny_passesOwn hp (a_ (hg _ s5 ku H5 x u _ I5' r5 (step x H5 y5)) λ_ s6 ⟨Wr,H6,I6,q6⟩=>?_);apply wpAny_passesOwn hp (a_ (hb _ s6 Wr H6 _ I6 q6) λf s7 q7=>?_)
 have again:∀{qF:St} {H7:Hp},Inv X (pins++wX fp s5.heap) qF H7 s7->N qF H7->∃m,m<n/\∃i bu H',Inv X pins bu H' s7/\tn i s7.heap/\(∀b∈fp,H' b=none)/\W i m bu H':=λ{qF H7} I7 n7=>by
  let#[m',hm,w7]:=hN qF H7 n7;apply#[m',hm,i+1,qF,H7,I7.eO,T.keep _ _ _ gx λb hb o e=>(I7.pin (b,o) (mP _ (mP _ (Kd hb e)))).1,λb hb=>?_,w7];let#[o,e,d]:=T.obj _ _ gx b hb;exact (I7.pin (b,o) (mP _ (mP _ (Kd hb e)))).2.1
 cases f with
 |next=>let#[qF,H7,I7,n7]:=q7;exact again I7 n7
 |cont=>let#[qF,H7,I7,n7]:=q7;exact again I7 n7
 |brk=>let#[qF,H7,I7,q7]:=q7;exact#[qF,H7,I7.eO,q7]
 |ret v=>let#[x7,qF,H7,I7,r7,q7]:=q7;exact#[x7,qF,H7,I7.eO,r7,q7]
end
theorem hU{K:af}{a:Addr}{xs:ag}{g:TG}{tb:TS}{D:Ends}{σ:St}{H:Hp}(Pv:Nat->St->Hp->Prop)(h0:Pv 0 σ H)(hl:∀i σ H,i<=xs.length->Pv i σ H->dJ K H a xs)
  (hs:∀i x σ H,xs[i]? = some x->Pv i σ H->g x σ H λgF H2=>tb { D with nx:=Pv (i+1),ct:=Pv (i+1),bk:=D.nx } gF H2) (hd:∀σ H,Pv xs.length σ H->D.nx σ H) :
  ∃W:Nat->Nat->St->Hp->Prop,(∃m,W 0 m σ H)/\∀i m σ H,W i m σ H->
   ((zo K a).stop i H/\D.nx σ H)∨((zo K a).go i H/\∃N:St->Hp->Prop,(∀bu H',N bu H'->∃m',m'<m/\W (i+1) m' bu H')/\∀x H',(zo K a).xv i H x H'->g x σ H' λgF H2=>tb { D with nx:=N,ct:=N,bk:=D.nx } gF H2):=by
 apply#[λi m σ H=>m=xs.length - i/\i<=xs.length/\Pv i σ H,#[xs.length,by simp,gD _,h0],?_];rintro i m σ H ⟨rfl,hi,p⟩;let q:=hl i σ H hi p;by_cases dz:i<xs.length
 ·apply .inr #[#[xs,xs[i],q,by simp[dz]],Pv (i+1),λbu H' p'=>#[xs.length - (i+1),by omega,Z,dz,p'],λx H' y=>?_];let#[e,y]:=y;subst e;exact hs i x σ _ (y xs q) p
 have e:i=xs.length:=by omega
 subst e;exact .inl #[#[xs,q,bj _],hd σ H p]
theorem yZ{lo:Int}{n:Nat}{g:TG}{tb:TS}{D:Ends}{σ:St}{H:Hp}(Pv:Nat->St->Hp->Prop)(h0:Pv 0 σ H)
  (hs:∀i σ H,i<n->Pv i σ H->g (.int (lo+i)) σ H λgF H2=>tb { D with nx:=Pv (i+1),ct:=Pv (i+1),bk:=D.nx } gF H2) (hd:∀σ H,Pv n σ H->D.nx σ H) :
  ∃W:Nat->Nat->St->Hp->Prop,(∃m,W 0 m σ H)/\∀i m σ H,W i m σ H->
   ((B5 lo n).stop i H/\D.nx σ H)∨((B5 lo n).go i H/\∃N:St->Hp->Prop,(∀bu H',N bu H'->∃m',m'<m/\W (i+1) m' bu H')/\∀x H',(B5 lo n).xv i H x H'->g x σ H' λgF H2=>tb { D with nx:=N,ct:=N,bk:=D.nx } gF H2):=by
 apply#[λi m σ H=>m=n - i/\i<=n/\Pv i σ H,#[n,by simp,gD _,h0],?_];rintro i m σ H ⟨rfl,hi,p⟩;by_cases dz:i<n
 ·apply .inr #[dz,Pv (i+1),λbu H' p'=>#[n - (i+1),by omega,Z,dz,p'],λx H' y=>?_];let#[e,y]:=y;subst e y;exact hs i σ _ dz p
 have e:i=n:=by omega
 subst e;exact .inl #[bj _,hd σ H p]
theorem it_{c:TT}{tb:TS}{D:Ends}{σ:St}{H:Hp}(Pv:km)(μ:St->Hp->Nat)(h0:Pv σ H)
  (hs:∀σ H,Pv σ H->c σ H λb H1=>if b=true then tb { D with nx:=λbu H'=>Pv bu H'/\μ bu H'<μ σ H,ct:=λbu H'=>Pv bu H'/\μ bu H'<μ σ H,bk:=D.nx } σ H1 else D.nx σ H1)
  (mono:∀σ H Q Q',(∀b H1,Q b H1->Q' b H1)->c σ H Q->c σ H Q'):qK c tb D σ H:=by
 apply#[λm σ H=>m=μ σ H/\Pv σ H,#[_,Z,h0],?_];rintro m σ H ⟨rfl,p⟩;apply mono σ H _ _ (λb H1 q=>?_) (hs σ H p);cases b with
 |true=>exact#[_,λbu H' ⟨p',l⟩=>#[_,l,Z,p'],q]
 |false=>exact q
end L2
namespace L2
open PySem PySem.Spec PyProof.Rows
abbrev R2:=V->V->Hp->VK->Prop
def d6(X:Cx)(f:Aa->Aa->Sem Aa)(r:R2):Prop:=
 ∀(pins:List (Addr × Obj)) (s:Ab) (σ:St) (H:Hp) (x y:V) (v u:Aa) (Q:VK),Inv X pins σ H s->RelV x v->RelV y u->r x y H Q->
  wpAny (model X.prog X.w) X.A (f v u) (EP X pins σ Q) X.xe s
def Qk(X:Cx)(f:Aa->Sem Aa)(r:V->Hp->VK->Prop):Prop:=
 ∀(pins:List (Addr × Obj)) (s:Ab) (σ:St) (H:Hp) (x:V) (v:Aa) (Q:VK),Inv X pins σ H s->RelV x v->r x H Q->
  wpAny (model X.prog X.w) X.A (f v) (EP X pins σ Q) X.xe s
def gn(X:Cx)(f:Aa)(r:ag->Hp->VK->Prop):Prop:=
 ∀(pins:List (Addr × Obj)) (s:Ab) (σ:St) (H:Hp) (xs:ag) (us:ak) (Q:VK),Inv X pins σ H s->Vals xs us->r xs H Q->
  wpAny (model X.prog X.w) X.A (call f us) (EP X pins σ Q) X.xe s
def DX(r:R2)(ta tb:TE):TE:=λσ H Q=>ta σ H λx H1=>tb σ H1 λy H2=>r x y H2 Q
def X7(r:V->Hp->VK->Prop)(ta:TE):TE:=λσ H Q=>ta σ H λx H1=>r x H1 Q
inductive rI (C:Int->Int->Prop) (g:Int->Int->V) (x:V) (y:V) (H:Hp) (Q:VK):Prop
 |mk:∀i j,x=.int i->y=.int j->C i j->Q (g i j) H->rI C g x y H Q
inductive vY (g:Int->Int->V) (x:V) (y:V) (H:Hp) (Q:VK):Prop
 |mk:∀i j,x=.int i->y=.int j->Q (g i j) H->vY g x y H Q
inductive rU (g:Int->V) (x:V) (H:Hp) (Q:VK):Prop
 |mk:∀i,x=.int i->Q (g i) H->rU g x H Q
section
variable{X:Cx}{a b c:Expr}{ta tb tc:TE}{pos:Pos}
theorem BK(ha:PE X a ta)(hb:PE X b tb){pins:List (Addr × Obj)}{s:Ab}{σ:St}{H:Hp}{R:V->V->Hp->Prop}(I:Inv X pins σ H s)
  (h:ta σ H λx H1=>tb σ H1 λy H2=>R x y H2) {Q:Aa->Ab->Prop} {f:Aa->Aa->Sem Aa}
  (hf:∀v u s2 x y H2,Inv X pins σ H2 s2->RelV x v->RelV y u->R x y H2->wpAny (model X.prog X.w) X.A (f v u) Q X.xe s2) :
  wpAny (model X.prog X.w) X.A (eval a X.env) (λv aV=>wpAny (model X.prog X.w) X.A (eval b X.env) (λu hX=>wpAny (model X.prog X.w) X.A (f v u) Q X.xe hX) X.xe aV) X.xe s:=by
 apply a_ (ha pins s σ H _ I h) λv s1 ⟨x,H1,I1,r1,q1⟩=>?_;apply a_ (hb pins s1 σ H1 _ I1 q1) λu s2 ⟨y,H2,I2,r2,q2⟩=>?_;exact hf v u s2 x y H2 I2 r1 r2 q2
theorem bG{op:Operator}{r:R2}(ho:d6 X (binaryOp op) r)(ha:PE X a ta)(hb:PE X b tb):PE X (.BinOp a op b pos) (DX r ta tb):=by
 intro pins s σ H Q I h;exact wpAny_BinOp (BK ha hb I h λv u s2 x y H2 I2 rx ry q=>ho pins s2 σ H2 x y v u Q I2 rx ry q)
theorem Bp{op:UnaryOp}{r:V->Hp->VK->Prop}(ho:Qk X (unaryOp op) r)(ha:PE X a ta):PE X (.UnaryOp op a pos) (X7 r ta):=by
 intro pins s σ H Q I h;exact UnaryOp_ (a_ (ha pins s σ H _ I h) λv s1 ⟨x,H1,I1,r1,q1⟩=>ho pins s1 σ H1 x v Q I1 r1 q1)
theorem Ij{f:Aa->Aa->Sem Aa}{C:Int->Int->Prop}{g:Int->Int->Int}
  (rule:∀(i j:Int) (t u:Tok) (s:Ab) (Q:Aa->Ab->Prop) (E:Aa->Ab->Prop),C i j->Q (.int (g i j) s.toks) { s with toks:=s.toks+1 }->wpAny (model X.prog X.w) X.A (f (.int i t) (.int j u)) Q E s) :
  d6 X f (rI C λi j=>.int (g i j)):=by
 intro pins s σ H x y v u Q I rx ry h;let#[i,j,rfl,rfl,hc,q]:=h;let#[t,rfl]:=rx;let#[t',rfl]:=ry;exact rule i j t t' s _ _ hc #[.int (g i j),H,I.tok _,#[_,Z],q]
theorem Es{f:Aa->Aa->Sem Aa}{g:Int->Int->Int}
  (rule:∀(i j:Int) (t u:Tok) (s:Ab) (Q:Aa->Ab->Prop) (E:Aa->Ab->Prop),Q (.int (g i j) s.toks) { s with toks:=s.toks+1 }->wpAny (model X.prog X.w) X.A (f (.int i t) (.int j u)) Q E s) :
  d6 X f (vY λi j=>.int (g i j)):=by
 intro pins s σ H x y v u Q I rx ry h;let#[i,j,rfl,rfl,q]:=h;let#[t,rfl]:=rx;let#[t',rfl]:=ry;exact rule i j t t' s _ _ #[.int (g i j),H,I.tok _,#[_,Z],q]
theorem wb{f:Aa->Aa->Sem Aa}{g:Int->Int->Bool}
  (rule:∀(i j:Int) (t u:Tok) (s:Ab) (Q:Aa->Ab->Prop) (E:Aa->Ab->Prop),Q (.bool (g i j)) s->wpAny (model X.prog X.w) X.A (f (.int i t) (.int j u)) Q E s) :
  d6 X f (vY λi j=>.bl (g i j)):=by
 intro pins s σ H x y v u Q I rx ry h;let#[i,j,rfl,rfl,q]:=h;let#[t,rfl]:=rx;let#[t',rfl]:=ry;exact rule i j t t' s _ _ #[.bl (g i j),H,I,Z,q]
def Hy(i j:Int):Prop:=0<j/\j<1073741824
def Qr(i j:Int):Prop:=0<=j/\j<=1000000/\i.natAbs<2 ^ 64
def B7(i j:Int):Prop:=(-(2 ^ 64)<i/\i<2 ^ 64)∨(-(2 ^ 64)<j/\j<2 ^ 64)
theorem B7.ok{i j:Int}(h:B7 i j):IntMulOk i j:=by
 rcases h with⟨h1,h2⟩|⟨h1,h2⟩
 ·exact .of_left (intBits_le_64 h1 h2)
 exact .of_right (intBits_le_64 h1 h2)
theorem fO:d6 X (binaryOp .Add) (vY λi j=>.int (i+j)):=Es λ_ _ _ _ _ _ _ q=>add_int q
theorem yV:d6 X (binaryOp .Sub) (vY λi j=>.int (i - j)):=Es λ_ _ _ _ _ _ _ q=>sub_int q
theorem qz:d6 X (binaryOp .Mult) (rI B7 λi j=>.int (i * j)):=Ij λ_ _ _ _ _ _ _ hc q=>mul_int q hc.ok
theorem xg:d6 X (binaryOp .FloorDiv) (rI Hy λi j=>.int (i / j)):=Ij λi j _ _ _ _ _ hc q=>by
 have h1:(0:Int)<j:=hc.1;have h2:j<1073741824:=hc.2;exact floordiv_int Z1 (by rw[Int.fdiv_eq_ediv_of_nonneg i Z1];exact q) (.inl (PyProof.noPylong_small Z1))
theorem vv:d6 X (binaryOp .Mod) (rI (λ_ j=>0<j) λi j=>.int (i % j)):=Ij λi j _ _ _ _ _ hc q=>by
 have h1:(0:Int)<j:=hc;exact mod_int' Z1 (by rw[Int.fmod_eq_emod_of_nonneg i Z1];exact q)
theorem RZ:d6 X (binaryOp .Pow) (rI Qr λi j=>.int (i ^ j.toNat)):=Ij λ_ _ _ _ _ _ _ hc q=>pow_int_small hc.1 hc.2.1 hc.2.2 q
theorem Xk{f:Aa->Sem Aa}{g:Int->Int}
  (rule:∀(i:Int) (t:Tok) (s:Ab) (Q:Aa->Ab->Prop) (E:Aa->Ab->Prop),Q (.int (g i) s.toks) { s with toks:=s.toks+1 }->wpAny (model X.prog X.w) X.A (f (.int i t)) Q E s) :
  Qk X f (rU λi=>.int (g i)):=by
 intro pins s σ H x v Q I rx h;let#[i,rfl,q]:=h;let#[t,rfl]:=rx;exact rule i t s _ _ #[.int (g i),H,I.tok _,#[_,Z],q]
theorem BA:Qk X (unaryOp .USub) (rU λi=>.int (-i)):=Xk λ_ _ _ _ _ q=>neg_int q
end
def Eg:V->V->Bool
 |.non,.non=>true | .non,.int _=>true | .int _,.non=>true | .non,.bl _=>true | .bl _,.non=>true | .non,.str _=>true | .str _,.non=>true
 |.int _,.int _=>true | .bl _,.bl _=>true | .str _,.str _=>true | .byt _,.byt _=>true
 |.int _,.str _=>true | .str _,.int _=>true | .bl _,.str _=>true | .str _,.bl _=>true
 |_,_=>false
def YI:R2:=λx y H Q=>Eg x y=true/\Q (.bl (decide (x=y))) H
def YH:R2:=λx y H Q=>Eg x y=true/\Q (.bl (!decide (x=y))) H
theorem TK{i j:Int}:decide (V.int i=V.int j)=(i == j):=by
 rw[Bool.eq_iff_iff];simp
theorem RQ{i j:Bool}:decide (V.bl i=V.bl j)=(i == j):=by
 rw[Bool.eq_iff_iff];simp
theorem TH{i j:Str}:decide (V.str i=V.str j)=(i == j):=by
 rw[Bool.eq_iff_iff];simp
theorem Tj{i j:Array UInt8}:decide (V.byt i=V.byt j)=(i.toList == j.toList):=by
 rw[Bool.eq_iff_iff];cases i;cases j;simp
section
variable{X:Cx}{a b c:Expr}{ta tb tc:TE}{pos:Pos}
theorem fu{pins:List (Addr × Obj)}{σ:St}{H:Hp}{s:Ab}{Q:VK}{k k':Bool}(I:Inv X pins σ H s)(q:Q (.bl k) H)(e:k=k'):EP X pins σ Q (.bool k') s:=by
 subst e;exact#[.bl k,H,I,Z,q]
theorem gU:d6 X (compareOp .Eq) YI:=by
 intro pins s σ H x y v u Q I rx ry h;let#[hs,q]:=h;cases x with
 |non=>
  cases rx;cases y with
  |non=>cases ry;exact PySem.EqNone.eq_none_none (fu I q Z2)
  |bl j=>cases ry;exact PySem.EqNone.eq_none_bool (fu I q Z2)
  |int j=>let#[t',rfl]:=ry;exact PySem.EqNone.eq_none_int (fu I q Z2)
  |str j=>let#[t',rfl]:=ry;exact PySem.EqNone.eq_none_str (fu I q Z2)
  |_=>exact absurd (show false=true from hs) gC
 |bl i=>
  cases rx;cases y with
  |non=>cases ry;exact PySem.EqNone.eq_bool_none (fu I q Z2)
  |bl j=>cases ry;exact eq_bool (fu I q RQ)
  |str j=>let#[t',rfl]:=ry;exact PySem.EqMixed.eq_bool_str (fu I q Z2)
  |_=>exact absurd (show false=true from hs) gC
 |int i=>
  let#[t,rfl]:=rx;cases y with
  |non=>cases ry;exact PySem.EqNone.eq_int_none (fu I q Z2)
  |int j=>let#[t',rfl]:=ry;exact eq_int (fu I q TK)
  |str j=>let#[t',rfl]:=ry;exact PySem.EqMixed.eq_int_str (fu I q Z2)
  |_=>exact absurd (show false=true from hs) gC
 |str i=>
  let#[t,rfl]:=rx;cases y with
  |non=>cases ry;exact PySem.EqNone.eq_str_none (fu I q Z2)
  |bl j=>cases ry;exact PySem.EqMixed.eq_str_bool (fu I q Z2)
  |int j=>let#[t',rfl]:=ry;exact PySem.EqMixed.eq_str_int (fu I q Z2)
  |str j=>let#[t',rfl]:=ry;exact eq_str (fu I q TH)
  |_=>exact absurd (show false=true from hs) gC
 |byt i=>
  let#[t,rfl]:=rx;cases y with
  |byt j=>let#[t',rfl]:=ry;exact PySem.W.eq_bytes (fu I q Tj)
  |_=>exact absurd (show false=true from hs) gC
 |_=>cases y<;>exact absurd (show false=true from hs) gC
theorem qp:d6 X (compareOp .NotEq) YH:=by
 intro pins s σ H x y v u Q I rx ry h;let#[hs,q]:=h;cases x with
 |non=>
  cases rx;cases y with
  |non=>cases ry;exact PySem.EqNone.ne_none_none (fu I q Z2)
  |bl j=>cases ry;exact PySem.EqNone.ne_none_bool (fu I q Z2)
  |int j=>let#[t',rfl]:=ry;exact PySem.EqNone.ne_none_int (fu I q Z2)
  |str j=>let#[t',rfl]:=ry;exact PySem.EqNone.ne_none_str (fu I q Z2)
  |_=>exact absurd (show false=true from hs) gC
 |bl i=>
  cases rx;cases y with
  |non=>cases ry;exact PySem.EqNone.ne_bool_none (fu I q Z2)
  |bl j=>cases ry;exact ne_bool (fu I q (dX not RQ))
  |str j=>let#[t',rfl]:=ry;exact PySem.EqMixed.ne_bool_str (fu I q Z2)
  |_=>exact absurd (show false=true from hs) gC
 |int i=>
  let#[t,rfl]:=rx;cases y with
  |non=>cases ry;exact PySem.EqNone.ne_int_none (fu I q Z2)
  |int j=>let#[t',rfl]:=ry;exact ne_int (fu I q (dX not TK))
  |str j=>let#[t',rfl]:=ry;exact PySem.EqMixed.ne_int_str (fu I q Z2)
  |_=>exact absurd (show false=true from hs) gC
 |str i=>
  let#[t,rfl]:=rx;cases y with
  |non=>cases ry;exact PySem.EqNone.ne_str_none (fu I q Z2)
  |bl j=>cases ry;exact PySem.EqMixed.ne_str_bool (fu I q Z2)
  |int j=>let#[t',rfl]:=ry;exact PySem.EqMixed.ne_str_int (fu I q Z2)
  |str j=>let#[t',rfl]:=ry;exact ne_str (fu I q (dX not TH))
  |_=>exact absurd (show false=true from hs) gC
 |byt i=>
  let#[t,rfl]:=rx;cases y with
  |byt j=>let#[t',rfl]:=ry;exact PySem.W.ne_bytes (fu I q (dX not Tj))
  |_=>exact absurd (show false=true from hs) gC
 |_=>cases y<;>exact absurd (show false=true from hs) gC
theorem Iw:d6 X (compareOp .Lt) (vY λi j=>.bl (decide (i<j))):=wb λ_ _ _ _ _ _ _ q=>lt_int q
theorem pP:d6 X (compareOp .LtE) (vY λi j=>.bl (decide (i<=j))):=wb λ_ _ _ _ _ _ _ q=>le_int q
theorem yH:d6 X (compareOp .Gt) (vY λi j=>.bl (decide (j<i))):=wb λ_ _ _ _ _ _ _ q=>gt_int q
theorem Iu:d6 X (compareOp .GtE) (vY λi j=>.bl (decide (j<=i))):=wb λ_ _ _ _ _ _ _ q=>ge_int q
inductive Vl (x:V) (y:V) (H:Hp) (Q:VK):Prop
 |mk:∀i j,x=.str i->y=.str j->Q (.bl (decide (i.cps.toList<j.cps.toList))) H->Vl x y H Q
theorem hB_:d6 X (compareOp .Lt) Vl:=by
 intro pins s σ H x y v u Q I rx ry h;let#[i,j,rfl,rfl,q]:=h;let#[t,rfl]:=rx;let#[t',rfl]:=ry;exact lt_str (fu I q rfl)
theorem jL_:d6 X (compareOp .IsNot) (λx y H Q=>y=.non/\Q (.bl (!decide (x=.non))) H):=by
 intro pins s σ H x y v u Q I rx ry h;let#[rfl,q]:=h;cases ry;apply isnot_none_gen (fu I q ?_)
 cases x<;>first
  |(cases rx;rfl)
  |(let#[t,rfl]:=rx;rfl)
theorem tI(b:Expr){op:CmpOp}(h:op≠.In:=by decide)(h2:op≠.NotIn:=by decide):behindInMarks op b=false:=by
 have e1:(op == CmpOp.In)=false:=by cases op<;>first|rfl|exact absurd rfl h
 have e2:(op == CmpOp.NotIn)=false:=by cases op<;>first|rfl|exact absurd rfl h2
 cases b<;>simp[behindInMarks,e1,e2]
theorem oM{op:CmpOp}{r:R2}(ho:d6 X (compareOp op) r)(ha:PE X a ta)(hb:PE X b tb)(hm:behindInMarks op b=false:=by exact tI _):PE X (.Compare a [op] [b] pos) (DX r ta tb):=by
 intro pins s σ H Q I h;exact wpAny_Compare1 (BK ha hb I h λv u s2 x y H2 I2 rx ry q=>ho pins s2 σ H2 x y v u Q I2 rx ry q) hm
inductive qO (Q:Bool->Hp->Prop) (x:V) (H':Hp):Prop
 |mk:∀k,x=.bl k->Q k H'->qO Q x H'
def xA(t:TE):TT:=λσ H Q=>t σ H λx H'=>qO Q x H'
theorem bY{op:CmpOp}{r:R2}(ho:d6 X (compareOp op) r)(ha:PE X a ta)(hb:PE X b tb)(hm:behindInMarks op b=false:=by exact tI _):PT X (.Compare a [op] [b] pos) (xA (DX r ta tb)):=by
 intro pins s σ H Q I h
 apply wpAny_isTrue_Compare1 (a_ (ha pins s σ H _ I h) λv s1 ⟨x,H1,I1,r1,q1⟩=>a_ (hb pins s1 σ H1 _ I1 q1) λu s2 ⟨y,H2,I2,r2,q2⟩=>
  a_ (ho pins s2 σ H2 x y v u _ I2 r1 r2 q2) λc s3 ⟨z,H3,I3,r3,k,e,q3⟩=>?_) hm
 subst e;cases r3;exact uk #[H3,I3,q3]
inductive m_ (r':R2) (tc:TE) (σ:St) (Q:VK) (y:V) (z:V) (H3:Hp):Prop
 |mk:∀k,z=.bl k->(if k=true then tc σ H3 λw' H4=>r' y w' H4 Q else Q (.bl false) H3)->m_ r' tc σ Q y z H3
def qV(r r':R2)(ta tb tc:TE):TE:=λσ H Q=>ta σ H λx H1=>tb σ H1 λy H2=>r x y H2 λz H3=>m_ r' tc σ Q y z H3
theorem Od{op Aj:CmpOp}{r r':R2}(ho:d6 X (compareOp op) r)(jU:d6 X (compareOp Aj) r')(ha:PE X a ta)(hb:PE X b tb)(hc:PE X c tc)
  (hm:lastMarks [op,Aj] [b,c]=false:=by with_unfolding_all rfl):PE X (.Compare a [op,Aj] [b,c] pos) (qV r r' ta tb tc):=by
 intro pins s σ H Q I h
 apply Compare_chain (a_ (ha pins s σ H _ I h) λv s1 ⟨x,H1,I1,r1,q1⟩=>chain_link (a_ (hb pins s1 σ H1 _ I1 q1) λu s2 ⟨y,H2,I2,r2,q2⟩=>
  a_ (ho pins s2 σ H2 x y v u _ I2 r1 r2 q2) λd s3 ⟨z,H3,I3,r3,k,e,q3⟩=>?_)) hm
 subst e;cases r3;apply uk ?_;cases k with
 |false=>exact ite_ff #[.bl false,H3,I3,Z,q3]
 |true=>exact ite_tt (chain_last (a_ (hc pins s3 σ H3 _ I3 q3) λw' s4 ⟨z',H4,I4,r4,q4⟩=>jU pins s4 σ H4 y z' u w' Q I4 r2 r4 q4))
theorem T5{op Aj:CmpOp}{r r':R2}(ho:d6 X (compareOp op) r)(jU:d6 X (compareOp Aj) r')(ha:PE X a ta)(hb:PE X b tb)(hc:PE X c tc)
  (hm:lastMarks [op,Aj] [b,c]=false:=by with_unfolding_all rfl):PT X (.Compare a [op,Aj] [b,c] pos) (xA (qV r r' ta tb tc)):=by
 intro pins s σ H Q I h
 apply isTrue_chain (a_ (ha pins s σ H _ I h) λv s1 ⟨x,H1,I1,r1,q1⟩=>test_link (a_ (hb pins s1 σ H1 _ I1 q1) λu s2 ⟨y,H2,I2,r2,q2⟩=>
  a_ (ho pins s2 σ H2 x y v u _ I2 r1 r2 q2) λd s3 ⟨z,H3,I3,r3,k,e,q3⟩=>?_)) hm
 subst e;cases r3;apply uk ?_;cases k with
 |false=>
  let#[k',e',q']:=q3;cases e';exact ite_ff #[H3,I3,q']
 |true=>
  apply ite_tt (test_last (a_ (hc pins s3 σ H3 _ I3 q3) λw' s4 ⟨z',H4,I4,r4,q4⟩=>a_ (jU pins s4 σ H4 y z' u w' _ I4 r2 r4 q4) λd' s5 ⟨z2,H5,I5,r5,k2,e2,q5⟩=>?_));subst e2;cases r5;exact uk #[H5,I5,q5]
theorem fR:(sizeLine:Nat)<2 ^ 63:=by rw[bZ];decide
inductive V1 (x:V) (y:V) (H:Hp) (Q:VK):Prop
 |mk:∀i j,x=.str i->y=.str j->i.length+j.length<=sizeLine->Q (.str (i++j)) H->V1 x y H Q
theorem OW:d6 X (binaryOp .Add) V1:=by
 intro pins s σ H x y v u Q I rx ry h;let#[i,j,rfl,rfl,hz,q]:=h;let#[t,rfl]:=rx;let#[t',rfl]:=ry;exact add_str (λt' tk=>⟨.str (i++j),H,I.tok _,⟨_,rfl⟩,q⟩) hz
theorem vals1{x:V}{us:ak}(r:Vals [x] us):∃u,us=[u]/\RelV x u:=by
 cases r with
 |cons r1 r2=>cases r2;exact#[_,Z,r1]
theorem vals2{x y:V}{us:ak}(r:Vals [x,y] us):∃u w',us=[u,w']/\RelV x u/\RelV y w':=by
 cases r with
 |cons r1 r2=>
  cases r2 with
  |cons r3 r4=>cases r4;exact#[_,_,Z,r1,r3]
inductive Vs (xs:ag) (H:Hp) (Q:VK):Prop
 |mk:∀i j,xs=[.int i,.int j]->Q (.int (if j > i then j else i)) H->Vs xs H Q
theorem hp_(hc:X.calm=true):gn X (.builtin "max") Vs:=by
 intro pins s σ H xs us Q I r h;let#[i,j,rfl,q]:=h;let#[u,w',rfl,#[t,rfl],#[t',rfl]]:=vals2 r;apply max_two_ints (I.ok.hd hc) λh' tk k=>#[_,H,I.kept k,?_,q];by_cases hj:j > i
 ·rw[aH hj,aH hj];exact#[_,Z]
 rw[aB hj,aB hj];exact#[_,Z]
theorem hD_:gn X (.type "int") (λxs H Q=>(∃i,xs=[.int i]/\Q (.int i) H)∨∃k,xs=[.bl k]/\Q (.int (if k then 1 else 0)) H):=by
 intro pins s σ H xs us Q I r h;rcases h with⟨i,rfl,q⟩|⟨k,rfl,q⟩
 ·let#[u,rfl,t,rfl]:=vals1 r;exact call_int_int #[.int i,H,I,#[_,Z],q]
 let#[u,rfl,r1]:=vals1 r;cases r1;exact call_int_bool #[.int (if k then 1 else 0),H,I.tok _,#[_,Z],q]
end
end L2
namespace L2
open PySem PySem.Spec PyProof.Rows
structure mQ (h:Heap) (x dx C:Addr) (mA:Str->Option Aa):Prop where
 obj:h.get? x\PySem.W.instObj C dx
 ns:h.Ns1 dx mA
 ne:dx≠x
theorem h5_{h:Heap}{dx:Addr}{mA:Str->Option Aa}(n:h.Ns1 dx mA):∃od,h.get? dx\od/\∀name,PySem.W.lookIn name od\mA name:=by
 let#[o,es,ep,ho,hd,hk,_,hm]:=n;apply#[o,ho,λname=>?_];let e:=hm name;unfold nsFind findBy at e;rw[<- Array.find?_toList] at e;unfold PySem.W.lookIn;rw[hd];dsimp only;split
 ·rename_i y q
  rw[q] at e;exact dX some e
 rename_i q
 rw[q] at e
 have a:es.toList.any (·.refKey)=false:=by
  rw[List.any_eq_false];intro y hy;let#[z,t,Mw]:=hk y (Array.mem_toList_iff.mp hy);simp[DictEntry.refKey,Mw]
 have a':¬es.toList.any (·.refKey)=true:=by rw[a];exact gC
 rw[aB a'];exact dX some e
theorem mQ.look{h:Heap}{x dx C:Addr}{mA:Str->Option Aa}(I:mQ h x dx C mA):∃od,PySem.W.InstAt h x (PySem.W.instObj C dx) C (some od)/\∀name,PySem.W.lookIn name od\mA name:=
 let #[od,ho,hl]:=h5_ I.ns
 #[od,#[I.obj,Z,Z,ho],hl]
section
variable{prog:Ad}{w:Af}{A:Ag}{E:Aa->Ab->Prop}{s:Ab}{K:af}{x dx C f:Addr}{mA:Str->Option Aa}{name:Str}{v:Aa}
theorem k2_{expr:Bool}{Q:Aa->Ab->Prop}(X:K.In s.heap)(I:mQ s.heap x dx C mA)(hg:PySem.W.plainGet K C name=true)(hh:PySem.W.hasDictIn K C=true)
  (ha:PySem.W.findIn K (.ref C) name\none) (hv:mA name\v) (L4:PySem.W.handedIn v=true) (h:Q v { s with toks:=s.toks+1 }) :
  wpAny (model prog w) A (getAttr (.ref x) name expr) Q E s:=by
 let#[od,J,hl]:=I.look;exact PySem.W.get_value X J (PySem.W.plainGet_of hg).1 (PySem.W.findObj_own hh ha Z (by rw[hl,hv])) L4 h
theorem j9_{pl:Sem Bool}{Q:Aa × ak->Ab->Prop}(X:K.In s.heap)(I:mQ s.heap x dx C mA)(hg:PySem.W.plainGet K C name=true)
  (hf:PySem.W.findIn K (.ref C) name\some (.ref f)) (ht:PySem.W.isFn K (.ref f)=true) (hv:mA name=none) (h:Q (.ref f,[.ref x]) s) :
  wpAny (model prog w) A (getMethod (.ref x) name pl) Q E s:=by
 let#[od,J,hl]:=I.look;exact PySem.W.method_fn X J (PySem.W.plainGet_of hg).1 (PySem.W.plainGet_of hg).2 hf (beq_iff_eq.mp ht) (by show (PySem.W.lookIn name od).map (·.isSome)=some false;rw[hl,hv];rfl) h
theorem kG_{ns:ae}{Q:Unit->Ab->Prop}(X:K.In s.heap)(I:mQ s.heap x dx C mA)
  (hs:PySem.W.findIn K (.ref C) "__setattr__"\some (.builtin "object.__setattr__")) (hp:PySem.W.plainOver K C=true) (ht:PySem.W.takerIn K C name\none) (hh:PySem.W.hasDictIn K C=true)
  (hw:PySem.Within mA ns) (hsz:ns.length<=sizeLine)
  (h:∀h',mQ h' x dx C (λy=>if y=name then some v else mA y)->Heap.SameBut dx s.heap h'->Q () { s with heap:=h',toks:=s.toks+2 }) :
  wpAny (model prog w) A (setAttr (.ref x) name v) Q E s:=by
 let#[od,J,hl]:=I.look;apply PySem.W.set_plain X J hs (PySem.W.osa_open (s:={ s with toks:=s.toks+1 }) (r:=none) X J hp ht λb=>?_);let#[cd,hc,jX]:=PySem.W.any_some hh;have hx:s.heap.get? x=some #[.ref C,some dx,.plain,#[]]:=I.obj;apply aF (bA (aF (aF (wpAny_loadPart hx (aF (PySem.W.Looks.here (s:={ s with toks:=s.toks+1 }) (PySem.W.looks_clsIn X hc) ?_))))));rw[jX];apply bA (a:=some dx) (aF (bA (aF ?_)));apply wpAny_nsSet1 (s:={ s with toks:=s.toks+1 }) I.ns λh' yo AC=>?_;let#[oD,esD,epD,hoD,hdD,hcD]:=yo.count (PySem.Within.cons name v hw);apply aF (wpAny_lookBehind hoD (by rw[hdD];exact pastItsLine_dict (pX hcD (by rw[gB];omega))) ?_);exact bA (h _ #[(AC.2 _ (Ne.symm I.ne)).trans I.obj,yo,I.ne] AC)
theorem iS_{R:Result->Ab->Prop}{vs:ak}{kw:List (Str × Aa)}(X:K.In s.heap)(hm:PySem.W.makesIn K C=true)
  (hi:PySem.W.findIn K (.ref C) "__init__"\some (.ref f)) (hf:PySem.W.typeIn K (.ref f)\.type "function")
  (h:codeAny (model prog w) (A.under (.builtin "type.__call__" #[.ref C::vs,kw])) (.call (.ref f) #[.ref (s.heap.objs.size+1)::vs,kw]) (PySem.W.InitBack (s.heap.objs.size+1) R)
   { s with heap:=(s.heap.push PySem.W.emptyDict).push (PySem.W.instObj C s.heap.objs.size) }) :
  codeAny (model prog w) A (.call (.ref C) #[vs,kw]) R s:=by
 let#[hh,g,d,t,os]:=s;exact PySem.W.make_core (PySem.W.makes_of X hm) (PySem.W.looks_findIn X hi) (λself=>PySem.W.bind_fn X self hf) (.inl Z) h
end
def aE(f:Str)(v:V):List (Str × V)->List (Str × V)
 |[]=>[(f,v)]
 |(g,x)::r=>if g=f then (g,v)::r else (g,x)::aE f v r
theorem e_(f g:Str)(v:V):∀fs:List (Str × V),(aE f v fs).lookup g=if g=f then some v else fs.lookup g
 |[]=>by
  show List.lookup g [(f,v)]=_;by_cases h:g=f
  ·have hb:(g == f)=true:=beq_iff_eq.mpr h;simp only[List.lookup,hb,aH h]
  ·have hb:(g == f)=false:=beq_eq_false_iff_ne.mpr h;simp only[List.lookup,hb,aB h]
 |(k,x)::r=>by
  let ih:=e_ f g v r;rw[show aE f v ((k,x)::r)=(if k=f then (k,v)::r else (k,x)::aE f v r) from Z];by_cases hk:k=f
  ·rw[aH hk];by_cases h:g=k
   ·have hb:(g == k)=true:=beq_iff_eq.mpr h;simp only[List.lookup,hb,aH (h.trans hk)]
   have hb:(g == k)=false:=beq_eq_false_iff_ne.mpr h;simp only[List.lookup,hb,aB (λe:g=f=>h (e.trans hk.symm))]
  rw[aB hk];by_cases h:g=k
  ·have hb:(g == k)=true:=beq_iff_eq.mpr h;simp only[List.lookup,hb,aB (λe:g=f=>hk (h.symm.trans e))]
  have hb:(g == k)=false:=beq_eq_false_iff_ne.mpr h;simp only[List.lookup,hb];exact ih
theorem OS(f:Str)(v:V):∀fs:List (Str × V),f∈(aE f v fs).map (·.1)/\∀g,g∈fs.map (·.1)->g∈(aE f v fs).map (·.1)
 |[]=>#[by simp[aE],λg h=>by simp at h]
 |(k,x)::r=>by
  let#[i1,i2]:=OS f v r;rw[show aE f v ((k,x)::r)=(if k=f then (k,v)::r else (k,x)::aE f v r) from Z];by_cases hk:k=f
  ·rw[aH hk];subst hk;exact#[by simp,λg h=>by simpa using h]
  rw[aB hk];apply#[?_,λg h=>?_]
  ·rw[fE];exact eL _ i1
  rw[fE] at h ⊢;rcases cw.mp h with e|e
  ·exact cw.mpr (.inl e)
  exact eL _ (i2 g e)
theorem VG(f:Str)(v:V):∀fs:List (Str × V),(aE f v fs).length<=fs.length+1
 |[]=>by simp[aE]
 |(k,x)::r=>by
  let ih:=VG f v r;rw[show aE f v ((k,x)::r)=(if k=f then (k,v)::r else (k,x)::aE f v r) from Z];by_cases hk:k=f
  ·rw[aH hk,gB,gB];omega
  rw[aB hk,gB,gB];omega
theorem eS.some_of{v:V}{o:Option Aa}(r:eS (some v) o):∃u,o\u/\RelV v u:=by
 cases o with
 |none=>exact (show False from r).elim
 |some u=>exact#[u,Z,r]
theorem eS.none_of{o:Option Aa}(r:eS none o):o=none:=by
 cases o with
 |none=>rfl
 |some u=>exact (show False from r).elim
theorem hE_{v:V}{u:Aa}(r:RelV v u):PySem.W.handedIn u=true:=by
 cases v with
 |non=>cases (show u=Value.none from r);rfl
 |bl b=>cases (show u=Value.bool b from r);rfl
 |int i=>let#[t,e]:=(show ∃t,u=Value.int i t from r);cases e;rfl
 |str x=>let#[t,e]:=(show ∃t,u=Value.str x t from r);cases e;rfl
 |byt b=>let#[t,e]:=(show ∃t,u=Value.bytes b t from r);cases e;rfl
 |flt b=>let#[t,e]:=(show ∃t,u=Value.float b t from r);cases e;rfl
 |ref a=>cases (show u=Value.ref a from r);rfl
 |ty n=>cases (show u=Value.type n from r);rfl
section
variable{P:Ad}{w:Af}{H H':Hp}{h h':Heap}{a C dx:Addr}{fs fs':List (Str × V)}
theorem Jt(aJ:eU P w H h)(e:H a\.ins C dx fs):∃mA,mQ h a dx C mA/\(∀f,eS (fs.lookup f) (mA f))/\PySem.Within mA (fs.map (·.1))/\fs.length<=1000/\H dx\.own a:=by
 let#[d,z,ne,ob,mA,n,r,q]:=(show fe P w H h a (.ins C dx fs) from aJ a _ e);exact#[mA,#[ob,n,ne],r,q,z,d]
end
structure mT (K:af) (C:Addr):Prop where
 pg:PySem.W.plainGet K C Str.empty=true
 hd:PySem.W.hasDictIn K C=true
 po:PySem.W.plainOver K C=true
 sa:PySem.W.findIn K (.ref C) "__setattr__"\some (.builtin "object.__setattr__")
theorem mT.get{K:af}{C:Addr}(c:mT K C)(f:Str):PySem.W.plainGet K C f=true:=c.pg
def kC(K:af)(C:Addr)(f:Str):Prop:=PySem.W.findIn K (.ref C) f=some none
theorem kC.DS{K:af}{C:Addr}{f:Str}(n:kC K C f):PySem.W.takerIn K C f\none:=by
 unfold PySem.W.takerIn;rw[show PySem.W.findIn K (.ref C) f\none from n];rfl
structure Con (K:af) (C:Addr) (f:Str) (v:V) (u:Aa):Prop where
 at_:PySem.W.findIn K (.ref C) f\some u
 rel:RelV v u
 get:PySem.W.specialIn K u "__get__"\none
 cp:PySem.W.copiedNames.contains f=false
structure Meth (K:af) (C:Addr) (m:Str) (f:Addr):Prop where
 at_:PySem.W.findIn K (.ref C) m\some (.ref f)
 fn:PySem.W.isFn K (.ref f)=true
 kp:PySem.W.keepIn K (.ref f)=true
section
variable{X:Cx}{pins:List (Addr × Obj)}{σ:St}{H:Hp}{s:Ab}{a C dx:Addr}{fs:List (Str × V)}{f:Str}{v:V}{A:Ag}{E:Aa->Ab->Prop}
theorem fW_{b:Bool}{Q:Aa->Ab->Prop}(I:Inv X pins σ H s)(e:H a\.ins C dx fs)(c:mT X.K C)(n:kC X.K C f)(l:fs.lookup f\v)
  (h:∀u s',Inv X pins σ H s'->RelV v u->Q u s'):wpAny (model X.prog X.w) A (getAttr (.ref a) f b) Q E s:=by
 let#[mA,O,r,_,_,_]:=Jt I.aJ e;let#[u,hu,ru]:=eS.some_of (v:=v) (o:=mA f) (by rw[<- l];exact r f);exact k2_ I.fU O (c.get f) c.hd n hu (hE_ ru) (h u _ (I.tok _) ru)
theorem Vv{m:Str}{g:Addr}{pl:Sem Bool}{Q:Aa × ak->Ab->Prop}(I:Inv X pins σ H s)(e:H a\.ins C dx fs)(c:mT X.K C)(k:Meth X.K C m g)(l:fs.lookup m=none)
  (h:Q (.ref g,[.ref a]) s):wpAny (model X.prog X.w) A (getMethod (.ref a) m pl) Q E s:=by
 let#[mA,O,r,_,_,_]:=Jt I.aJ e;have hn:mA m=none:=eS.none_of (by rw[<- l];exact r m);exact j9_ I.fU O (c.get m) k.at_ k.fn hn h
theorem fD_{y:V}{u:Aa}{Q:Unit->Ab->Prop}(I:Inv X pins σ H s)(e:H a\.ins C dx fs)(c:mT X.K C)(n:kC X.K C f)(hl:fs.length<1000)(ry:RelV y u)
  (h:∀s',Inv X pins σ (upd H a (.ins C dx (aE f y fs))) s'->Q () s'):wpAny (model X.prog X.w) A (setAttr (.ref a) f u) Q E s:=by
 let#[mA,O,r,wi,_,ho]:=Jt I.aJ e;have hz:(fs.map (·.1)).length<=sizeLine:=by rw[au,bZ];omega
 apply kG_ I.fU O c.sa c.po n.DS c.hd wi hz λh' O' sb=>h _ ?_;have hd:∃o,h'.get? dx\o:=let #[o,_,_,e',_]:=O'.ns;#[o,e'];apply I.write (x:=a) (e:=dx) (by rw[e];exact True.intro) (.inr ho) (λb q hb z=>(sb.2 b hb).trans z) hd ?_;apply#[by rw[aC O.ne];exact ho,?_,O.ne,O'.obj,_,O'.ns,λg=>?_,λg hg=>?_]
 ·have:=VG f y fs;omega
 ·show eS ((aE f y fs).lookup g) (if g=f then some u else mA g);rw[e_];by_cases q:g=f
  ·rw[aH q,aH q];exact ry
  rw[aB q,aB q];exact r g
 by_cases q:g=f
 ·rw[q];exact (OS f y fs).1
 apply (OS f y fs).2 g (wi g λz=>hg ?_);show (if g=f then some u else mA g)=none;rw[aB q];exact z
theorem Inv.made(I:Inv X pins σ H s):Inv X pins σ (upd (upd H s.heap.objs.size (.own (s.heap.objs.size+1))) (s.heap.objs.size+1) (.ins C s.heap.objs.size []))
  { s with heap:=(s.heap.push PySem.W.emptyDict).push (PySem.W.instObj C s.heap.objs.size) }:=by
 have e1:(s.heap.push PySem.W.emptyDict).get? s.heap.objs.size\PySem.W.emptyDict:=eQ s.heap Z
 have e2:((s.heap.push PySem.W.emptyDict).push (PySem.W.instObj C s.heap.objs.size)).get? (s.heap.objs.size+1)\PySem.W.instObj C s.heap.objs.size:=by
  have:=eQ (s.heap.push PySem.W.emptyDict) (o:=PySem.W.instObj C s.heap.objs.size) Z;rwa [Heap.size_push] at this
 have e3:(s.heap.push PySem.W.emptyDict).Ns s.heap.objs.size (λ_=>none):=#[PySem.W.emptyDict,#[],_,e1,Z,(λe he=>absurd he Z2),λ_=>rfl];let I1:=I.laid (a:=s.heap.objs.size) (o:=.own (s.heap.objs.size+1)) (h':=s.heap.push PySem.W.emptyDict) (t':=s.toks) (λb u q=>ck _ q) (bj _) #[_,e1];apply I1.laid (a:=s.heap.objs.size+1) (o:=.ins C s.heap.objs.size []) (t':=s.toks) (λb u q=>ck _ q) (Nat.le_of_eq (Heap.size_push _ _)) ?_;have ne:s.heap.objs.size≠s.heap.objs.size+1:=eG (Nat.lt_succ_self _);apply#[by rw[aC ne,aq],gD _,ne,e2,λ_=>none,(Heap.Ns1.of_empty e3).at λo q=>ck _ q,λ_=>True.intro,λy hy=>absurd Z hy]
theorem _K{prog:Ad}{w:Af}{env:Env}{e:Expr}{f:Str}{pos:Pos}{s:Ab}{Q:Aa->Ab->Prop}(hb:attributeBase e f env (eval e env)=eval e env)
  (h:wpAny (model prog w) A (eval e env) (λo aV=>wpAny (model prog w) A (getAttr o f true) Q E aV) E s):wpAny (model prog w) A (eval (.Attribute e f pos) env) Q E s:=
 Attribute_any_ h (by rw[arm_eval_Attribute,hb])
end
inductive xH (K:af) (f:Str) (Q:VK) (x:V) (H1:Hp):Prop
 |mk:∀a C dx fs v,x=.ref a->H1 a\.ins C dx fs->mT K C->kC K C f->fs.lookup f\v->Q v H1->xH K f Q x H1
def KR(K:af)(ta:TE)(f:Str):TE:=λσ H Q=>ta σ H λx H1=>xH K f Q x H1
inductive xP (K:af) (f:Str) (D:Ends) (σ:St) (y:V) (x:V) (H2:Hp):Prop
 |mk:∀a C dx fs,x=.ref a->H2 a\.ins C dx fs->mT K C->kC K C f->fs.length<1000->D.nx σ (upd H2 a (.ins C dx (aE f y fs)))->xP K f D σ y x H2
def Lc(K:af)(ta tv:TE)(f:Str):TS:=λD σ H=>tv σ H λy H1=>ta σ H1 λx H2=>xP K f D σ y x H2
section
variable{X:Cx}{o e value:Expr}{f:Str}{pos pos' KC:Pos}{ta tv:TE}
theorem dA(he:PE X e ta)(hb:attributeBase e f X.env (eval e X.env)=eval e X.env):PE X (.Attribute e f pos) (KR X.K ta f):=by
 intro pins s σ H Q I h;apply _K hb (a_ (he pins s σ H _ I h) λu s1 ⟨x,H1,I1,rx,a,C,dx,fs,v,ex,ea,c,n,l,q⟩=>?_);subst ex;obtain rfl:u=Value.ref a:=rx;exact fW_ I1 ea c n l λu' s2 I2 ru=>#[v,H1,I2,ru,q]
theorem vw(ha:PE X o ta)(hv:PE X value tv)(hs:swapsWith value (some (.Attribute o f pos')) pos.line X.env=pure false):PS X (.Assign [.Attribute o f pos'] value pos) (Lc X.K ta tv f):=by
 intro pins s σ H D I h;apply plainObj_wpAny_Assign_Attribute (a_ (hv pins s σ H _ I h) λu s1 ⟨y,H1,I1,ry,q⟩=>a_ (ha pins s1 σ H1 _ I1 q) λov s2 ⟨x,H2,I2,rx,a,C,dx,fs,ex,ea,c,n,l,q2⟩=>?_) hs;subst ex;obtain rfl:ov=Value.ref a:=rx;exact fD_ I2 ea c n l ry λs3 I3=>#[σ,_,I3,q2]
end
section
variable{X:Cx}{pins:List (Addr × Obj)}{σ:St}{H:Hp}{s:Ab}{A:Ag}{E:Aa->Ab->Prop}{Q:Aa->Ab->Prop}{c:Aa}{b:Bool}
inductive d5 (K:af) (H:Hp):V->Aa->Prop where
 |non:d5 K H .non (.type "NoneType")
 |bl (x:Bool):d5 K H (.bl x) (.type "bool")
 |int (i:Int):d5 K H (.int i) (.type "int")
 |str (x:Str):d5 K H (.str x) (.type "str")
 |flt (x:UInt64):d5 K H (.flt x) (.type "float")
 |lst {a:Addr} {xs:ag} (e:H a\.lst xs):d5 K H (.ref a) (.type "list")
 |frz {a:Addr} {o:Obj} {xs:ag} (e:H a\.frz o (.lst xs)):d5 K H (.ref a) (.type "list")
 |tup {a:Addr} {xs:ag} (e:H a\.tup xs):d5 K H (.ref a) (.type "tuple")
 |dK {a:Addr} {kvs:List (Key × V)} (e:H a\.dK kvs):d5 K H (.ref a) (.type "dict")
 |dT {a:Addr} {kvs:List (aD × V)} (e:H a\.dT kvs):d5 K H (.ref a) (.type "dict")
 |ins {a C dx:Addr} {fs:List (Str × V)} (e:H a\.ins C dx fs) (cl:mT K C) (ha:PySem.W.findIn K (.ref C) "__class__"\some (.builtin "object.__class__"))
   (hn:PySem.W.specialIn K (.builtin "object.__class__") "__get__"\some (.builtin "getset_descriptor.__get__")) (ID:PySem.W.takesIn K (.builtin "object.__class__")\true)
   (hm:PySem.W.mroIn K C (.type "object")\true):d5 K H (.ref a) (.ref C)
theorem UL{x:V}{u t:Aa}(I:Inv X pins σ H s)(rx:RelV x u)(ty:d5 X.K H x t)(e:PySem.W.kitOne X.K t c\b)(h:∀tk,Q (.bool b) { s with toks:=tk }) :
  wpAny (model X.prog X.w) A (call (.builtin "isinstance") [u,c]) Q E s:=by
 cases ty with
 |non=>cases (show u=Value.none from rx);exact uj PySem.W.kitx_none I.fU True.intro e nofun h
 |bl y=>cases (show u=Value.bool y from rx);exact uj PySem.W.kitx_bool I.fU True.intro e nofun h
 |int i=>let#[t,q]:=(show ∃t,u=Value.int i t from rx);cases q;exact uj PySem.W.kitx_int I.fU True.intro e nofun h
 |str y=>let#[t,q]:=(show ∃t,u=Value.str y t from rx);cases q;exact uj PySem.W.kitx_str I.fU True.intro e nofun h
 |flt y=>let#[t,q]:=(show ∃t,u=Value.float y t from rx);cases q;exact uj PySem.W.kitx_float I.fU True.intro e nofun h
 |@lst a xs ea=>
  cases (show u=Value.ref a from rx);let#[_,_,n,_,h1]:=(show fe X.prog X.w H s.heap a (.lst xs) from I.aJ a _ ea);exact uj PySem.W.kitx_list I.fU #[_,h1,Z] e nofun h
 |@frz a ob xs ea=>
  cases (show u=Value.ref a from rx);let#[_,_,_,n,_,h1]:=(show fe X.prog X.w H s.heap a (.frz ob (.lst xs)) from I.aJ a _ ea);exact uj PySem.W.kitx_list I.fU #[_,h1,Z] e nofun h
 |@tup a xs ea=>
  cases (show u=Value.ref a from rx);let#[_,_,_,p,_]:=(show fe X.prog X.w H s.heap a (.tup xs) from I.aJ a _ ea);let#[o,h1,h2,_]:=p;exact uj PySem.W.kitx_tuple I.fU #[o,h1,h2] e nofun h
 |@dK a kvs ea=>
  cases (show u=Value.ref a from rx);let#[_,_,vs,_,p]:=(show fe X.prog X.w H s.heap a (.dK kvs) from I.aJ a _ ea);let#[o,es,ep,h1,h2,_]:=p;exact uj PySem.W.kitx_dict I.fU #[o,h1,h2.1] e nofun h
 |@dT a kvs ea=>
  cases (show u=Value.ref a from rx);let#[_,_,xs,_,o,es,ep,h1,h2,_]:=(show fe X.prog X.w H s.heap a (.dT kvs) from I.aJ a _ ea);exact uj PySem.W.kitx_dict I.fU #[o,h1,h2.1] e nofun h
 |@ins a C dx fs ea cl ha hn ID hm=>
  cases (show u=Value.ref a from rx);let#[mA,O,_]:=Jt I.aJ ea;let#[od,J,_]:=O.look;exact uj (PySem.W.kitx_own (cl.get _) cl.hd ha hn ID hm) I.fU J e nofun h
end
end L2
namespace L2
open PySem PySem.Spec PyProof.Rows
structure bc (k:Nat) (A:Ag):Prop where
 hd:A.handled=none
 dp:A.depth+3 * k+5<recursionLimit
 un:A.units+16 * k+200<cLine
theorem bc.mono{j k:Nat}{A:Ag}(r:bc k A)(h:j<=k):bc j A:=#[r.hd,by have:=r.dp;omega,by have:=r.un;omega]
theorem bc.deeper{k:Nat}{A:Ag}(r:bc (k+1) A)(env:Env):bc k (A.deeper env):=
 #[r.hd,by have:=r.dp;show A.depth+1+3 * k+5<_;omega,by have:=r.un;show A.units+3+16 * k+200<_;omega]
theorem bc.in1{k:Nat}{A:Ag}(r:bc (k+1) A):bc k A.in1:=
 #[r.hd,by have:=r.dp;show A.depth+3 * k+5<_;omega,by have:=r.un;show A.units+1+16 * k+200<_;omega]
theorem fT_{A:Ag}{C:Addr}{us:ak}{kw:List (Str × Aa)}:(A.under (.builtin "type.__call__" #[.ref C::us,kw])).depth=A.depth+1:=by
 first|rfl|simp[Around.under,Code.weight,Code.isCreation,Code.isGuard,Code.isCaller,Code.frames,Code.isFrame,guardIds]
theorem fG_{A:Ag}{C:Addr}{us:ak}{kw:List (Str × Aa)}:(A.under (.builtin "type.__call__" #[.ref C::us,kw])).units=A.units+1:=by
 first|rfl|simp[Around.under,Code.cUnits,Code.frames,Code.isFrame]
theorem bc.make{k:Nat}{A:Ag}(r:bc (k+1) A)(C:Addr)(us:ak)(kw:List (Str × Aa)):bc k (A.under (.builtin "type.__call__" #[.ref C::us,kw])):=
 #[r.hd,by have:=r.dp;rw[fT_];omega,by have:=r.un;rw[fG_];omega]
theorem bc.depth{k:Nat}{A:Ag}(r:bc k A):A.depth<recursionLimit:=by have:=r.dp;omega
theorem bc.units{k:Nat}{A:Ag}(r:bc k A):A.units+64<cLine:=by have:=r.un;omega
def k4:TA:=λ_ H Q=>Q [] H
def jD(ta:TE)(tr:TA):TA:=λσ H Q=>ta σ H λx H1=>tr σ H1 λxs H2=>Q (x::xs) H2
section
variable{X:Cx}{e:Expr}{es:List Expr}{te:TE}{t:TA}{pos:Pos}
theorem ba:PA X [] k4:=λ_ _ _ _ H Q I h=>Calls.spliced_nil #[[],H,I,.nil,h]
theorem eW(ha:PE X e te)(hr:PA X es t)(hs:starEach (e::es) X.env=(false,eval e X.env)::starEach es X.env:=by rfl):PA X (e::es) (jD te t):=by
 intro pos pins s σ H Q I h;rw[hs];show wpAny _ _ (spliced ((false,eval e X.env)::backTo pos (starEach es X.env))) _ _ s;apply Calls.spliced_cons (a_ (ha pins s σ H _ I h) λu s1 ⟨x,H1,I1,r1,q1⟩=>?_);exact a_ (hr pos pins s1 σ H1 _ I1 q1) λus s2 ⟨xs,H2,I2,r2,q2⟩=>#[x::xs,H2,I2,.cons r1 r2,q2]
def DT(t:TA):TE:=λσ H Q=>t σ H λxs H1=>xs.length<=sizeLine/\∀p,H1 p=none->Q (.ref p) (upd H1 p (.tup xs))
def KM(t:TA):TE:=λσ H Q=>t σ H λxs H1=>xs.length<=sizeLine/\∀p,H1 p=none->Q (.ref p) (upd H1 p (.lst xs))
theorem eM{x1}(h:PA X es t):PE X (.Tuple es x1 pos) (DT t):=by
 intro pins s σ H Q I hq;apply wpAny_Tuple_spliced (a_ (h pos pins s σ H _ I hq) λus s1 ⟨xs,H1,I1,r,z,q⟩=>#[by rw[<- r.length];exact z,?_]);have hf:H1 s1.heap.objs.size=none:=I1.aJ.fresh (bj _);apply#[.ref s1.heap.objs.size,upd H1 s1.heap.objs.size (.tup xs),I1.laid (t':=s1.toks) (λb u e=>ck _ e) (bj _) ?_,Z,q _ hf];exact#[z,us,r,#[_,eQ _ Z,Z,_,Z],_,eQ _ Z,Z]
theorem dH(h:PA X es t):PE X (.List es pos) (KM t):=by
 intro pins s σ H Q I hq;apply wpAny_List_spliced (a_ (h pos pins s σ H _ I hq) λus s1 ⟨xs,H1,I1,r,z,q⟩=>#[by rw[<- r.length];exact z,?_]);have hf:H1 s1.heap.objs.size=none:=I1.aJ.fresh (bj _);apply#[.ref s1.heap.objs.size,upd H1 s1.heap.objs.size (.lst xs),I1.laid (t':=s1.toks) (λb u e=>ck _ e) (bj _) ?_,Z,q _ hf];exact#[z,us,0,r,eQ _ Z]
end
abbrev Sp:=ag->Hp->VK->XK->Prop
abbrev kq:=List Env->Hp->Ab->XK->Aa->Ab->Prop
structure ik (P:Ad) (w:Af) (K:af) (mg:Str->Option Aa) (base:Heap) (A:Ag) (outer:List Env) (s:Ab) (H:Hp):Prop where
 frames:A.frames\outer
 mod:Mod K mg base
 bs:∀b o,base.get? b\o->s.heap.get? b\o/\H b=none
 uz:base.objs.size<=s.heap.objs.size
 fM:s.heap.FunFrames base outer
 wH:∀b∈gS outer,H b=none
 aJ:eU P w H s.heap
 bare:AllBare s.gens
def CE(outer:List Env)(P:Ad)(w:Af)(H:Hp)(s:Ab)(Q:VK)(u:Aa)(s':Ab):Prop:=
 ∃v H',s'.os=s.os/\AllBare s'.gens/\Un (gS outer) [] H H' s.heap s'.heap/\eU P w H' s'.heap/\RelV v u/\Q v H'
def CR(CX:kq)(outer:List Env)(P:Ad)(w:Af)(H:Hp)(s:Ab)(Q:VK)(E:XK)(r:Result)(s':Ab):Prop:=
 match r with
 |.ok (.ret u)=>CE outer P w H s Q u s'
 |.ok _=>False
 |.error e=>CX outer H s E e s'
structure aj (P:Ad) (w:Af) (K:af) (mg:Str->Option Aa) (base:Heap) (CX:kq) (k:Nat) (f:Addr) (fd:Ae) (ps:ae) (sp:Sp):Prop where
 len:∀vs H Q E,sp vs H Q E->vs.length=ps.length
 run:∀(A:Ag) (outer:List Env) (s:Ab) (H:Hp) (args:Args) (us:ak) (vs:ag) (Q:VK) (E:XK),bc k A->ik P w K mg base A outer s H->BindsTo s fd args (ps.zip us)->Vals vs us->sp vs H Q E->
  codeAny (model P w) A (.call (.ref f) args) (CR CX outer P w H s Q E) s
theorem aj.mono{P:Ad}{w:Af}{K:af}{mg:Str->Option Aa}{base:Heap}{CX:kq}{j k:Nat}{f:Addr}{fd:Ae}{ps:ae}{sp:Sp}(F:aj P w K mg base CX j f fd ps sp)(h:j<=k) :
  aj P w K mg base CX k f fd ps sp:=#[F.len,λA outer s H args us vs Q E hr=>F.run A outer s H args us vs Q E (hr.mono h)]
theorem ik.make{P:Ad}{w:Af}{K:af}{mg:Str->Option Aa}{base:Heap}{A:Ag}{outer:List Env}{s:Ab}{H:Hp}(e:ik P w K mg base A outer s H)(C:Addr)(us:ak)(kw:List (Str × Aa)) :
  ik P w K mg base (A.under (.builtin "type.__call__" #[.ref C::us,kw])) outer s H:=#[by first|exact e.frames|(simpa [Around.under,Code.envs,Code.isFrame,pushEnvs] using e.frames),e.mod,e.bs,e.uz,e.fM,e.wH,e.aJ,e.bare]
section
variable{X:Cx}{pins:List (Addr × Obj)}{σ:St}{H:Hp}{s s':Ab}
theorem Inv.Be(I:Inv X pins σ H s):ik X.prog X.w X.K X.mg X.base X.A X.stack s H:=
 #[I.ok.frames,I.ok.mod,I.bs,pX I.ok.uz I.sz,I.stack,I.iP,I.aJ,I.bare]
theorem Inv.after{Q:VK}{u:Aa}(I:Inv X pins σ H s)(h:CE X.stack X.prog X.w H s Q u s'):EP X pins σ Q u s':=by
 let#[v,H',os,bare,un,aJ,r,q]:=h;let#[hh,g,d,t,Y2]:=s';obtain rfl:Y2=s.os:=os;exact#[v,H',I.call (h':=hh) (g':=g) (d':=d) (t':=t) (ch:=[]) un aJ bare (λb z=>absurd z Z2),r,q]
end
def xK(sp:Sp)(gm:ag)(E:XK)(t:TA):TE:=λσ H Q=>t σ H λvs H1=>sp (vs++gm) H1 Q E
inductive qS (C:Addr) (m:Str) (sp:Sp) (gm:ag) (E:XK) (t:TA) (σ:St) (Q:VK) (x:V) (H1:Hp):Prop
 |mk:∀a dx fs,x=.ref a->H1 a\.ins C dx fs->fs.lookup m=none->(t σ H1 λvs H2=>sp (x::(vs++gm)) H2 Q E)->qS C m sp gm E t σ Q x H1
def mZ(C:Addr)(m:Str)(sp:Sp)(gm:ag)(E:XK)(ta:TE)(t:TA):TE:=λσ H Q=>ta σ H λx H1=>qS C m sp gm E t σ Q x H1
def xE(C:Addr)(sp:Sp)(gm:ag)(E:XK)(t:TA):TE:=λσ H Q=>t σ H λvs H1=>∀x dx,H1 x=none->H1 dx=none->dx≠x->
 sp (.ref x::(vs++gm)) (upd (upd H1 dx (.own x)) x (.ins C dx [])) (λv H2=>v=.non/\Q (.ref x) H2) E
def qj(K:af)(fd:Ae)(ps:ae)(ds:ak):Prop:=
 ∀(s:Ab) (us:ak),K.In s.heap->(us++ds).length=ps.length->BindsTo s fd #[us,[]] (ps.zip (us++ds))
theorem qj.all{K:af}{fd:Ae}{ps:ae}(h:∀us:ak,us.length=ps.length->bindArgs fd #[us,[]]=pure (ps.zip us)):qj K fd ps []:=λs us _ hl=>by
 rw[zk] at hl ⊢;exact .of_eq (h us hl)
def wW(CX:kq)(X:Cx)(E:XK):Prop:=∀(pins:List (Addr × Obj)) (σ:St) (H:Hp) (s:Ab) (e:Aa) (s':Ab),Inv X pins σ H s->CX X.stack H s E e s'->X.xe e s'
section
variable{X:Cx}{CX:kq}{k:Nat}{f C:Addr}{fd:Ae}{ps:ae}{sp:Sp}{gm:ag}{ds:ak}{E:XK}{x m:Str}{p pos apos:Pos}{e o:Expr}{es:List Expr}{ta:TE}{t:TA}
theorem M3{pins:List (Addr × Obj)}{σ:St}{H:Hp}{s:Ab}{Q:VK}{us:ak}{vs:ag}(F:aj X.prog X.w X.K X.mg X.base CX k f fd ps sp)(hr:bc k X.A)(hb:qj X.K fd ps ds)(hd:Vals gm ds)(hx:wW CX X E)
  (I:Inv X pins σ H s) (r:Vals vs us) (h:sp (vs++gm) H Q E):wpAny (model X.prog X.w) X.A (call (.ref f) us) (EP X pins σ Q) X.xe s:=by
 have r2:Vals (vs++gm) (us++ds):=r.append hd;have hl:(us++ds).length=ps.length:=by rw[<- r2.length];exact F.len _ _ _ _ h
 apply wpAny_call (codeAny_mono (F.run X.A X.stack s H #[us,[]] (us++ds) (vs++gm) Q E hr I.Be (hb s us I.fU hl) r2 h) λr s' hq=>?_);cases r with
 |error e=>exact hx pins σ H s e s' I hq
 |ok fl=>
  cases fl with
  |ret u=>exact I.after hq
  |next=>exact False.elim hq
  |brk=>exact False.elim hq
  |cont=>exact False.elim hq
theorem ka_(F:aj X.prog X.w X.K X.mg X.base CX k f fd ps sp)(hr:bc k X.A)(hg:Gl X x)(hm:X.mg x\.ref f)(hk:PySem.W.keepIn X.K (.ref f)=true)(hb:qj X.K fd ps ds)(hd:Vals gm ds)(hx:wW CX X E)
  (ha:PA X (e::es) t) (uc:(x == ("__debug__":Str))=false:=by decide) (he:starEach (e::es) X.env=(false,eval e X.env)::starEach es X.env:=by rfl) (jm:(backTo pos (starEach es X.env)).any (·.1)=false:=by rfl) :
  PE X (.Call (.Name x p) (e::es) [] pos) (xK sp gm E t):=by
 intro pins s σ H Q I h;apply wpAny_Call_Name_kw (NZ I hg hm ?_ uc);apply PySem.W.callWith_K (h₀:=X.base) I.ok.mod.EU hk (a_ (ha pos pins s σ H _ I h) λus s1 ⟨vs,H1,I1,r,q⟩=>#[I1.fU,?_]) he jm;exact M3 F hr hb hd hx I1 r q
theorem jG_{pl:Sem Bool}(he:PE X o ta)(c:mT X.K C)(hm:Meth X.K C m f)(F:aj X.prog X.w X.K X.mg X.base CX k f fd ps sp)(hr:bc k X.A)(hb:qj X.K fd ps ds)(hd:Vals gm ds)(hx:wW CX X E)(ha:PA X (e::es) t)
  (AB:starEach (e::es) X.env=(false,eval e X.env)::starEach es X.env:=by rfl) (jm:(backTo pos (starEach es X.env)).any (·.1)=false:=by rfl)
  (ht:eval (.Call (.Attribute o m apos) (e::es) [] pos) X.env=(do
   let ov <- eval o X.env
   standAt apos.atName
   let (f,first) <- holding [ov] (getMethod ov m pl)
   callWith pos f first (backTo pos (starEach (e::es) X.env)) (backToKw pos (keywordEach [] X.env))):=by rfl) :
  PE X (.Call (.Attribute o m apos) (e::es) [] pos) (mZ C m sp gm E ta t):=by
 intro pins s σ H Q I h;apply PySem.W.methodCall_KW (pl:=pl) (a_ (he pins s σ H _ I h) λu s1 ⟨x,H1,I1,rx,a,dx,fs,ex,ea,l,q⟩=>?_) ht;subst ex;obtain rfl:u=Value.ref a:=rx;apply Vv I1 ea c hm l ?_;apply PySem.W.callWith_K (first:=[.ref a]) (h₀:=X.base) I.ok.mod.EU hm.kp (a_ (ha pos pins s1 σ H1 _ I1 q) λus s2 ⟨vs,H2,I2,r,q2⟩=>#[I2.fU,?_]) AB jm;exact M3 (us:=.ref a::us) (vs:=.ref a::vs) F hr hb hd hx I2 (.cons Z r) q2
theorem ia_{pl:Sem Bool}(he:PE X o ta)(c:mT X.K C)(hm:Meth X.K C m f)(F:aj X.prog X.w X.K X.mg X.base CX k f fd ps sp)(hr:bc k X.A)(hb:qj X.K fd ps ds)(hd:Vals gm ds)(hx:wW CX X E)
  (ht:eval (.Call (.Attribute o m apos) [] [] pos) X.env=(do
   let ov <- eval o X.env
   standAt apos.atName
   let (f,first) <- holding [ov] (getMethod ov m pl)
   callWith pos f first (backTo pos (starEach [] X.env)) (backToKw pos (keywordEach [] X.env))):=by rfl) :
  PE X (.Call (.Attribute o m apos) [] [] pos) (mZ C m sp gm E ta k4):=by
 intro pins s σ H Q I h;apply PySem.W.methodCall_KW (pl:=pl) (a_ (he pins s σ H _ I h) λu s1 ⟨x,H1,I1,rx,a,dx,fs,ex,ea,l,q⟩=>?_) ht;subst ex;obtain rfl:u=Value.ref a:=rx;apply Vv I1 ea c hm l ?_;exact PySem.W.callWith_K0 (first:=[.ref a]) I1.fU hm.kp (M3 (us:=[.ref a]) (vs:=[.ref a]) F hr hb hd hx I1 (.cons Z .nil) q)
structure Mk (K:af) (C f:Addr):Prop where
 makes:PySem.W.makesIn K C=true
 init:PySem.W.findIn K (.ref C) "__init__"\some (.ref f)
 fn:PySem.W.isFn K (.ref f)=true
 kp:PySem.W.keepIn K (.ref C)=true
theorem ie_{pins:List (Addr × Obj)}{σ:St}{H:Hp}{s:Ab}{Q:VK}{us:ak}{vs:ag}(M:Mk X.K C f)(F:aj X.prog X.w X.K X.mg X.base CX k f fd ps sp)(hr:bc (k+1) X.A)(hb:qj X.K fd ps ds)(hd:Vals gm ds)
  (hx:wW CX X E) (I:Inv X pins σ H s) (r:Vals vs us)
  (h:∀x dx,H x=none->H dx=none->dx≠x->sp (.ref x::(vs++gm)) (upd (upd H dx (.own x)) x (.ins C dx [])) (λv H2=>v=.non/\Q (.ref x) H2) E) :
  wpAny (model X.prog X.w) X.A (call (.ref C) us) (EP X pins σ Q) X.xe s:=by
 let hq:=h (s.heap.objs.size+1) s.heap.objs.size (I.aJ.fresh (Nat.le_succ _)) (I.aJ.fresh (bj _)) (eG (Nat.lt_succ_self _));let I2:=Inv.made (C:=C) I;have r2:Vals (V.ref (s.heap.objs.size+1)::(vs++gm)) (Value.ref (s.heap.objs.size+1)::(us++ds)):=.cons Z (r.append hd)
 have hl:(Value.ref (s.heap.objs.size+1)::us++ds).length=ps.length:=by
  let e:=r2.length;rw[F.len _ _ _ _ hq] at e;exact e.symm
 apply wpAny_call (iS_ (f:=f) I.fU M.makes M.init (beq_iff_eq.mp M.fn) (codeAny_mono (F.run _ X.stack _ _ #[Value.ref (s.heap.objs.size+1)::us,[]] (Value.ref (s.heap.objs.size+1)::(us++ds)) _ _ E (hr.make C us [])
  (I2.Be.make C us []) (hb _ (Value.ref (s.heap.objs.size+1)::us) I2.fU hl) r2 hq) λr s' hq'=>?_))
 cases r with
 |error e=>exact hx pins σ _ _ e s' I2 hq'
 |ok fl=>
  cases fl with
  |ret u=>
   let#[v,H',I3,rv,ev,q3]:=I2.after hq';subst ev;exact#[rv,#[V.ref (s.heap.objs.size+1),H',I3,Z,q3]]
  |next=>exact False.elim hq'
  |brk=>exact False.elim hq'
  |cont=>exact False.elim hq'
theorem jO_(M:Mk X.K C f)(F:aj X.prog X.w X.K X.mg X.base CX k f fd ps sp)(hr:bc (k+1) X.A)(hg:Gl X x)(hm:X.mg x\.ref C)(hb:qj X.K fd ps ds)(hd:Vals gm ds)(hx:wW CX X E)
  (ha:PA X (e::es) t) (uc:(x == ("__debug__":Str))=false:=by decide) (he:starEach (e::es) X.env=(false,eval e X.env)::starEach es X.env:=by rfl) (jm:(backTo pos (starEach es X.env)).any (·.1)=false:=by rfl) :
  PE X (.Call (.Name x p) (e::es) [] pos) (xE C sp gm E t):=by
 intro pins s σ H Q I h;apply wpAny_Call_Name_kw (NZ I hg hm ?_ uc);apply PySem.W.callWith_K (h₀:=X.base) I.ok.mod.EU M.kp (a_ (ha pos pins s σ H _ I h) λus s1 ⟨vs,H1,I1,r,q⟩=>#[I1.fU,?_]) he jm;exact ie_ M F hr hb hd hx I1 r q
end
def PK(X:Cx)(ET:List Keyword)(t:TA):Prop:=
 ∀(pos:Pos) (pins:List (Addr × Obj)) (s:Ab) (σ:St) (H:Hp) (Q:ag->Hp->Prop),Inv X pins σ H s->t σ H Q->wpAny (model X.prog X.w) X.A (evalAll ((backToKw pos (keywordEach ET X.env)).map (·.2))) (AP X pins σ Q) X.xe s
section
variable{X:Cx}{CX:kq}{k:Nat}{f C:Addr}{fd:Ae}{ps ks:ae}{sp:Sp}{E:XK}{x m:Str}{p pos apos LS:Pos}{e o:Expr}{es:List Expr}{ET:List Keyword}{te ta:TE}{t tk:TA}{nm:Option Str}
theorem RT:PK X [] k4:=λ_ _ _ _ H Q I h=>wpAny_evalAll_nil #[[],H,I,.nil,h]
theorem SC(ha:PE X e te)(hr:PK X ET t):PK X (#[nm,e,LS]::ET) (jD te t):=by
 intro pos pins s σ H Q I h;show wpAny _ _ (evalAll ((do let v <- eval e X.env;standAt pos;pure v)::(backToKw pos (keywordEach ET X.env)).map (·.2))) _ _ s;apply wpAny_evalAll_cons (aF (a_ (ha pins s σ H _ I h) λu s1 ⟨x,H1,I1,r1,q1⟩=>aF (wpAny_standAt (bA ?_))));exact a_ (hr pos pins s1 σ H1 _ I1 q1) λus s2 ⟨xs,H2,I2,r2,q2⟩=>#[x::xs,H2,I2,.cons r1 r2,q2]
structure Qn (K:af) (fd:Ae) (ps ks:ae) (g:ak->ak->ak) (gV:ag->ag->ag):Prop where
 to:∀(s:Ab) (us ws:ak),K.In s.heap->(g us ws).length=ps.length->BindsTo s fd #[us,ks.zip ws] (ps.zip (g us ws))
 rel:∀{vs:ag} {us:ak} {zs:ag} {ws:ak},Vals vs us->Vals zs ws->Vals (gV vs zs) (g us ws)
variable{g:ak->ak->ak}{gV:ag->ag->ag}
end
structure bq (N P:ae) (sc:Scope):Prop where
 kind:sc.kind=.function
 co:sc.isCoroutine=false
 gen:sc.isGenerator=false
 nd:N.Nodup
 pre:N.take P.length=P
 par:∀x∈P,sc.names.lookup x\.local∨sc.names.lookup x\.cell
 Am:∀y∈sc.names,y.2≠.free
theorem Vb{kindOf:Str->Option NameKind}{x:Str}:∀{binds:List (Str × Aa)} {m:Str->Option Aa},(∀v,(x,v)∉binds)->bindL kindOf binds m x=m x
 |[],_,_=>rfl
 |(n,v)::r,m,h=>by
  unfold bindL;rw[Vb λw hw=>h w (eL _ hw)];split
  ·have:x≠n:=by rintro rfl;exact h v d9
   simp[this]
  rfl
theorem UW{kindOf:Str->Option NameKind}{x:Str}:∀{binds:List (Str × Aa)} {m:Str->Option Aa},(∀v,(x,v)∉binds)->bindC kindOf binds m x=m x
 |[],_,_=>rfl
 |(n,v)::r,m,h=>by
  unfold bindC;rw[UW λw hw=>h w (eL _ hw)];split
  ·rfl
  have:x≠n:=by rintro rfl;exact h v d9
  simp[this]
theorem UF{kindOf:Str->Option NameKind}{x:Str}{v:Aa}:∀{P:ae} {vs:ak} {i:Nat} {m:Str->Option Aa},P.Nodup->P[i]? = some x->vs[i]? = some v->kindOf x\.local->
  bindL kindOf (P.zip vs) m x\v
 |[],_,_,_,_,h,_,_=>by simp at h
 |_::_,[],_,_,_,_,h,_=>by simp at h
 |p::P,w::vs,0,m,nd,h1,h2,hk=>by
  simp at h1 h2;subst h1;subst h2;show bindL kindOf ((p,w)::P.zip vs) m p=_;unfold bindL;rw[Vb λv hv=>(mL.mp nd).1 (List.of_mem_zip hv).1,aH hk];simp
 |p::P,w::vs,i+1,m,nd,h1,h2,hk=>by
  show bindL kindOf ((p,w)::P.zip vs) m x=_;unfold bindL;exact UF (i:=i) (mL.mp nd).2 ⇑h1 ⇑h2 hk
theorem VE{kindOf:Str->Option NameKind}{x:Str}{v:Aa}:∀{P:ae} {vs:ak} {i:Nat} {m:Str->Option Aa},P.Nodup->P[i]? = some x->vs[i]? = some v->kindOf x≠some .local->
  bindC kindOf (P.zip vs) m x\v
 |[],_,_,_,_,h,_,_=>by simp at h
 |_::_,[],_,_,_,_,h,_=>by simp at h
 |p::P,w::vs,0,m,nd,h1,h2,hk=>by
  simp at h1 h2;subst h1;subst h2;show bindC kindOf ((p,w)::P.zip vs) m p=_;unfold bindC;rw[UW λv hv=>(mL.mp nd).1 (List.of_mem_zip hv).1,aB hk];simp
 |p::P,w::vs,i+1,m,nd,h1,h2,hk=>by
  show bindC kindOf ((p,w)::P.zip vs) m x=_;unfold bindC;exact VE (i:=i) (mL.mp nd).2 ⇑h1 ⇑h2 hk
def start(N:ae)(vs:ag):St:=vs.map some++List.replicate (N.length - vs.length) none
def j2(CX:kq)(P:Ad)(w:Af)(K:af)(mg:Str->Option Aa)(base:Heap)(N:ae)(qual:Str)(scope:Scope)(f:Addr)(cd:Aa)(A:Ag)(outer:List Env)(s:Ab)(H:Hp)(E:XK):Cx where
 prog:=P
 w:=w
 K:=K
 mg:=mg
 base:=base
 A:=A.deeper (envOfC qual scope s.heap.objs.size f cd)
 N:=N
 cO:=s
 jf:=H
 env:=envOfC qual scope s.heap.objs.size f cd
 outer:=outer
 stack:=envOfC qual scope s.heap.objs.size f cd::outer
 ex:=[]
 calm:=true
 fn:=λ_=>true
 pn:=[]
 xe:=λe s'=>wpAny (model P w) (A.deeper (envOfC qual scope s.heap.objs.size f cd)) (leaving (envOfC qual scope s.heap.objs.size f cd) e) (λ_ qb=>CX outer H s E e qb) (λe' qb=>CX outer H s E e' qb) s'
theorem T_{sc:Scope}{n:Nat}{x:Str}(h:sc.names.lookup x\.cell):∃c,(cellsFrom n sc.names []).lookup x\c:=by
 let q:=PySem.W.cellsFrom_some sc.names n [] (.inl h);exact BW.mp q
theorem hf_{CX:kq}{P:Ad}{w:Af}{K:af}{mg:Str->Option Aa}{base:Heap}{N ps:ae}{qual:Str}{scope:Scope}{f:Addr}{cd:Aa}{A:Ag}{outer:List Env}{s s1:Ab}{H:Hp}{E:XK}{us:ak}{vs:ag}
  (S:bq N ps scope) (hd:A.handled=none) (e0:ik P w K mg base A outer s H) (hl:vs.length=ps.length) (r:Vals vs us)
  (x:InCallC s s.heap.objs.size (bindL (envOfC qual scope s.heap.objs.size f cd).kindOf (ps.zip us) λ_=>none) (cellsFrom (s.heap.objs.size+1) scope.names []) (bindC (envOfC qual scope s.heap.objs.size f cd).kindOf (ps.zip us) λ_=>none) s1) :
  Inv (j2 CX P w K mg base N qual scope f cd A outer s H E) [] (start N vs) H s1:=by
 have jm:ps.length<=N.length:=by have:=dX List.length S.pre;rw[cX] at this;omega
 let#[h1,tk,rfl,hk]:=x.done;have wd:∀b:Addr,b∉(j2 CX P w K mg base N qual scope f cd A outer s H E).ex:=λb z=>absurd (show b∈([]:ai) from z) Z2
 apply#[#[e0.mod,S.kind,Z,Z,bj _,λy z c h1 h2=>?_,λy hy=>?_,λy c _ h=>?_,λ_=>hd,Around.frames_deeper e0.frames,.inr #[Z,Z],λb z=>absurd z (wd b),e0.bs,e0.uz,λb _ _=>wd b,λb z=>absurd z (wd b),e0.fM,e0.wH],
  rfl,e0.bare,Un.kept hk,#[_,x.toInCall.ns,λi y v h1 h2 h3=>?_],λy c h=>#[_,x.cell y c h],e0.aJ.fresh (bj _),λy c h=>?_,λp hp=>absurd (show p∈([]:List (Addr × Obj)) from hp) Z2,e0.aJ.kept hk,?_]
 ·exact name_of_addr x.apart (pT h1) (pT h2)
 ·have hy:scope.names.lookup y\.cell∨scope.names.lookup y\.free:=hy;rcases hy with hy|hy
  ·exact T_ hy
  exact absurd Z (S.Am _ (pT hy))
 ·exact Nat.le_of_lt (x.above y c (pT h))
 ·have hi:i<vs.length:=by
   unfold start at h2;by_cases hi:i<vs.length
   ·exact hi
   rw[xp ⇑hi] at h2;rw[List.getElem?_replicate] at h2;split at h2<;>cases h2
  have ha:vs[i]? = some v:=by
   unfold start at h2;rw[zj ⇑hi,cY] at h2;cases e:vs[i]? with
   |none=>rw[e] at h2;cases h2
   |some a=>rw[e] at h2;cases h2;rfl
  let#[u,hu,rv]:=r.get ha
  have hp:ps[i]? = some y:=by
   rw[<- S.pre,List.getElem?_take_of_lt Z1];exact h1
  have Ip:ps.Nodup:=by rw[<- S.pre];exact S.nd.sublist (List.take_sublist _ _)
  apply#[u,rv,?_];rcases S.par y (dC hp) with k|k
  ·exact .inl #[k,UF Ip hp hu k]
  let#[c,e]:=T_ (n:=s.heap.objs.size+1) k;apply .inr #[.inl k,c,e,?_];let q:=x.cell y c e;rw[VE Ip hp hu (by show scope.names.lookup y≠_;rw[k];decide)] at q;exact q
 ·exact e0.aJ.fresh (Nat.le_of_lt (x.above y c (pT h)))
 unfold start;show _=N.length;rw[dM,au,Dz];omega
theorem RO{CX:kq}{P:Ad}{w:Af}{K:af}{mg:Str->Option Aa}{base:Heap}{k:Nat}{f:Addr}{name qual:Str}{params:Arguments}{body:List Stmt}{scope:Scope}{dV kV doc pm aP ct oc:Aa}{an od:Option Addr}
  {jM:Array (Option Aa)} {N ps:ae} {sp:Sp} (lk:K.lookup f=some #[oc,od,.func (PySem.W.fnOf name qual params body scope dV kV doc pm an aP ct),jM]) (gQ:PySem.W.codeIn K aP qual=true) (S:bq N ps scope)
  (len:∀vs H Q E,sp vs H Q E->vs.length=ps.length)
  (fL:∀(A:Ag) (outer:List Env) (s:Ab) (H:Hp) (vs:ag) (Q:VK) (E:XK),bc k (A.deeper (envOfC qual scope s.heap.objs.size f aP))->sp vs H Q E->
   ∃t,kW (j2 CX P w K mg base N qual scope f aP A outer s H E) body t/\t { nx:=λ_ H'=>Q .non H',rt:=Q } (start N vs) H) :
  aj P w K mg base CX (k+1) f (PySem.W.fnOf name qual params body scope dV kV doc pm an aP ct) ps sp:=by
 apply#[len,λA outer s H args us vs Q E hr e0 hb r kA=>?_];let hl:=len _ _ _ _ kA;have KX:K.In s.heap:=e0.mod.EU.keeps λb o e=>(e0.bs b o e).1;have lim:s.heap.NoLimit:=e0.mod.nolimit.keeps λb o e=>(e0.bs b o e).1
 have FG:∀y∈ps.zip us,scope.names.lookup y.1\.local∨(scope.names.lookup y.1\.cell/\((cellsFrom (s.heap.objs.size+1) scope.names []).lookup y.1).isSome=true):=λ⟨n,v⟩ hy=>by
  rcases S.par n (List.of_mem_zip hy).1 with q|q
  ·exact .inl q
  exact .inr #[q,PySem.W.cellsFrom_some _ _ _ (.inl q)]
 apply codeAny_call_function hr.depth (KX _ _ lk) Z S.co S.gen Z (PySem.W.codeRec_of KX gQ) (hb _ _ _ _ ?_);apply wpAny_newFunctionEnv_cells S.kind FG λenv he s1 x=>?_;subst he;apply#[lim.keeps x.toInCall.keep,codeAny_func ?_];let#[t,ht,hq]:=fL A outer s H vs Q E (hr.deeper _) kA;have I:Inv (j2 CX P w K mg base N qual scope f aP A outer s H E) [] (start N vs) H s1:=hf_ S hr.hd e0 hl r x;apply wpAny_mono (ht [] s1 (start N vs) H _ I hq) (λfl s' hs=>?_) λe s' hs=>hs
 have fin:∀{bu:St} {H':Hp} {v:V} {u:Aa},Inv (j2 CX P w K mg base N qual scope f aP A outer s H E) [] bu H' s'->RelV v u->Q v H'->CE outer P w H s Q u s':=
  λ{bu H' v u} J rv q=>#[v,H',J.os,J.bare,J.base,J.aJ,rv,q]
 cases fl with
 |ret u=>
  let#[v,bu,H',J,rv,q]:=hs;exact fin J rv q
 |next=>
  let#[bu,H',J,q]:=hs;exact fin (v:=V.non) (u:=Value.none) J Z q
 |brk=>
  let#[_,_,_,q]:=hs;exact False.elim q
 |cont=>
  let#[_,_,_,q]:=hs;exact False.elim q
end L2
local macro_rules|`(!$f:ident $a*)=>if [`aZ,`gZ,`br,`aj,`iK].contains f.getId then let i:=Lean.mkIdent;`($f $(i `P) $(i `w) $(i `K) $(i `mg) $(i `base) $a*)else Lean.Macro.throwUnsupported
namespace L2
open PySem PySem.Spec PyProof.Rows
section
variable{X:Cx}{x:Str}{p pos:Pos}{e:Expr}{es:List Expr}{t:TA}{id T:String}{r:ag->Hp->VK->Prop}
def QX(r:ag->Hp->VK->Prop)(t:TA):TE:=λσ H Q=>t σ H λvs H1=>r vs H1 Q
theorem cc(hc:gn X (.builtin id) r)(hg:Gl X x)(hm:X.mg x=none)(hv:bootBuiltins x\.builtin id)(ha:PA X (e::es) t)(hn:x≠"__name__":=by decide)(uc:(x == ("__debug__":Str))=false:=by decide)
  (he:starEach (e::es) X.env=(false,eval e X.env)::starEach es X.env:=by rfl) (jm:(backTo pos (starEach es X.env)).any (·.1)=false:=by rfl):PE X (.Call (.Name x p) (e::es) [] pos) (QX r t):=by
 intro pins s σ H Q I h;apply wpAny_Call_Name_kw (CY I hg hm hv ?_ hn uc);exact PyProof.Rows.callWith_builtin1 (a_ (ha pos pins s σ H _ I h) λus s1 ⟨vs,H1,I1,r1,q1⟩=>hc pins s1 σ H1 vs us Q I1 r1 q1) he jm
theorem hG(hc:gn X (.type T) r)(hg:Gl X x)(hm:X.mg x=none)(hv:bootBuiltins x\.type T)(ha:PA X (e::es) t)(hn:x≠"__name__":=by decide)(uc:(x == ("__debug__":Str))=false:=by decide)
  (he:starEach (e::es) X.env=(false,eval e X.env)::starEach es X.env:=by rfl) (jm:(backTo pos (starEach es X.env)).any (·.1)=false:=by rfl):PE X (.Call (.Name x p) (e::es) [] pos) (QX r t):=by
 intro pins s σ H Q I h;apply wpAny_Call_Name_kw (CY I hg hm hv ?_ hn uc);exact PyProof.Rows.callWith_type1 (a_ (ha pos pins s σ H _ I h) λus s1 ⟨vs,H1,I1,r1,q1⟩=>hc pins s1 σ H1 vs us Q I1 r1 q1) he jm
end
end L2
namespace HT
open PySem PyProof.Rows
section
open PySem.SeqAt
open PySem.AutoSeq1 (wpAny_loadPart')
open PySem.MeetsSeq PySem.MeetsSeq2 PySem.MeetsSeq3
end
section
variable{prog:Ad}{w:Af}{A:Ag}{E:Aa->Ab->Prop}{s:Ab}
def jJ(n d:Nat):Option Int->Nat
 |none=>d
 |some v=>if v<0 then (v+(n:Int)).toNat else min v.toNat n
theorem gK(n d:Nat):jJ n d none=d:=rfl
theorem iT(n d k:Nat):jJ n d (some (k:Int))=min k n:=by
 show (if (k:Int)<0 then ((k:Int)+(n:Int)).toNat else min (k:Int).toNat n)=min k n;rw[aB Z1,mN]
end
end HT
namespace L2
open PySem PySem.Spec PyProof.Rows
abbrev TO:=St->Hp->(Option Int->Hp->Prop)->Prop
def PO(X:Cx)(e:Option Expr)(t:TO):Prop:=
 ∀(pins:List (Addr × Obj)) (s:Ab) (σ:St) (H:Hp) (Q:Option Int->Hp->Prop),Inv X pins σ H s->t σ H Q->
  wpAny (model X.prog X.w) X.A (evalPart e X.env) (λu s'=>∃o H',Inv X pins σ H' s'/\IsPart u o/\Q o H') X.xe s
def vJ:TO:=λ_ H Q=>Q none H
inductive qP (Q:Option Int->Hp->Prop) (x:V) (H1:Hp):Prop
 |mk:∀i,x=.int i->Q (some i) H1->qP Q x H1
def DW(t:TE):TO:=λσ H Q=>t σ H λx H1=>qP Q x H1
section
variable{X:Cx}{e:Expr}{te:TE}{lo hi:Option Expr}{tl th:TO}{pos p2:Pos}
theorem qw:PO X none vJ:=by
 intro pins s σ H Q I h;rw[evalPart_none];exact bA #[none,H,I,.none,h]
theorem qx(h:PE X e te):PO X (some e) (DW te):=by
 intro pins s σ H Q I hw;rw[evalPart_some];apply a_ (h pins s σ H _ I hw) λu s1 ⟨x,H1,I1,r1,q1⟩=>?_;let#[i,rfl,q]:=q1;let#[t,rfl]:=r1;exact#[some i,H1,I1,.int i t,q]
def Wj(X:Cx)(r:V->Option Int->Option Int->Hp->VK->Prop):Prop:=
 ∀(pins:List (Addr × Obj)) (s:Ab) (σ:St) (H:Hp) (x:V) (v vl vu:Aa) (lo hi:Option Int) (sl:Addr) (Q:VK),Inv X pins σ H s->RelV x v->s.heap.IsSliceOf sl vl vu .none->IsPart vl lo->IsPart vu hi->r x lo hi H Q->
  ∃T id,typeLookup (.type T) "__getitem__"=pure (some (.builtin id))/\s.TypeIs v T/\wpAny (model X.prog X.w) X.A (getItem v (.ref sl)) (EP X pins σ Q) X.xe s
def X8(r:V->Option Int->Option Int->Hp->VK->Prop)(te:TE)(tl th:TO):TE:=λσ H Q=>te σ H λx H1=>tl σ H1 λl H2=>th σ H2 λu H3=>r x l u H3 Q
theorem qA{r:V->Option Int->Option Int->Hp->VK->Prop}(hr:Wj X r)(he:PE X e te)(hl:PO X lo tl)(hu:PO X hi th):PE X (.Subscript e (.Slice lo hi none p2) pos) (X8 r te tl th):=by
 intro pins s σ H Q I h;apply Subscript_ (a_ (he pins s σ H _ I h) λv s1 ⟨x,H1,I1,r1,q1⟩=>?_);apply wpAny_Slice (a_ (hl pins s1 σ H1 _ I1 q1) λvl s2 ⟨l,H2,I2,pl,q2⟩=>a_ (hu pins s2 σ H2 _ I2 q2) λvu s3 ⟨u,H3,I3,pu,q3⟩=>?_);rw[evalPart_none];apply bA ?_;have I4:Inv X pins σ H3 { s3 with heap:=s3.heap.push { cls:=.type "slice",data:=.fields (List.toArray [vl,vu,.none]) } }:=I3.kept (t':=s3.toks) λb ob q=>ck _ q;let#[T,id,hT,ht,hg]:=hr pins { s3 with heap:=s3.heap.push { cls:=.type "slice",data:=.fields (List.toArray [vl,vu,.none]) } } σ H3 x v vl vu l u s3.heap.objs.size Q I4 r1 (Heap.IsSliceOf.new ..) pl pu q3;show wpAny (model X.prog X.w) X.A (subscriptTail e (.Slice lo hi none p2) v (.ref s3.heap.objs.size)) (EP X pins σ Q) X.xe { s3 with heap:=s3.heap.push { cls:=.type "slice",data:=.fields (List.toArray [vl,vu,.none]) } };exact tail_any (ops:=[.ref s3.heap.objs.size,v]) ht hT hg (by with_unfolding_all rfl)
def cz(xs:ag)(lo hi:Option Int):ag:=(xs.drop (HT.jJ xs.length 0 lo)).take (HT.jJ xs.length xs.length hi - HT.jJ xs.length 0 lo)
theorem VO(xs:ag)(lo hi:Option Int):(cz xs lo hi).length<=xs.length:=by
 unfold cz;rw[cX,pY];omega
end
end L2
namespace L2
open PySem PySem.Spec PyProof.Rows
def tP(n:Nat)(i:Int):Option Nat:=if 0<=i then (if i<n then some i.toNat else none) else if -(n:Int)<=i then some (i+n).toNat else none
def eJ{α:Type}(xs:List α)(i:Int):Option α:=(tP xs.length i).bind λj=>xs[j]?
theorem Nl{n:Nat}{i:Int}{j:Nat}(h:tP n i\j):seqIndex? i n\j/\j<n/\-(n:Int)<=i/\i<n:=by
 unfold tP at h;by_cases h0:0<=i
 ·rw[aH h0] at h;by_cases h1:i<n
  ·rw[aH h1] at h;have e:i.toNat=j:=eF h;exact#[by rw[seqIndex_of h0 h1,e],by omega,by omega,h1]
  rw[aB h1] at h;cases h
 rw[aB h0] at h;by_cases h1:-(n:Int)<=i
 ·rw[aH h1] at h;have e:(i+n).toNat=j:=eF h;exact#[by rw[seqIndex_neg Z1 h1,e],by omega,h1,by omega]
 rw[aB h1] at h;cases h
theorem Nn{α:Type}{xs:List α}{i:Int}{v:α}(h:eJ xs i\v):∃j,seqIndex? i xs.length\j/\xs[j]? = some v/\j<xs.length/\-(xs.length:Int)<=i/\i<xs.length:=by
 unfold eJ at h;cases e:tP xs.length i with
 |none=>rw[e] at h;cases h
 |some j=>
  rw[e] at h;let#[h1,h2,h3,h4]:=Nl e;exact#[j,h1,h,h2,h3,h4]
theorem fq{α:Type}{xs:List α}{j:Nat}{v:α}(h:xs[j]? = some v):eJ xs (j:Int)\v:=by
 have hj:j<xs.length:=(cq.mp h).1
 have e:tP xs.length (j:Int)\j:=by
  unfold tP;rw[aH Z1,aH Z1];simp
 unfold eJ;rw[e];exact h
def xt(b:Expr):Prop:=∀o i,subscripted b false o i=operate [o,i] (getItem o i)
def DC(X:Cx)(r:R2):Prop:=
 ∀(value slice:Expr) (pins:List (Addr × Obj)) (s:Ab) (σ:St) (H:Hp) (x y:V) (v u:Aa) (Q:VK),Inv X pins σ H s->RelV x v->RelV y u->r x y H Q->
  subscripted slice false v u=operate [v,u] (getItem v u)->wpAny (model X.prog X.w) X.A (subscriptTail value slice v u) (EP X pins σ Q) X.xe s
def MtR(X:Cx)(id:String)(r:V->ag->Hp->VK->Prop):Prop:=
 ∀(pins:List (Addr × Obj)) (s:Ab) (σ:St) (H:Hp) (x:V) (xs:ag) (v:Aa) (us:ak) (Q:VK),Inv X pins σ H s->RelV x v->Vals xs us->r x xs H Q->
  wpAny (model X.prog X.w) X.A (call (.builtin id) (v::us)) (EP X pins σ Q) X.xe s
section
variable{X:Cx}{a b:Expr}{ta tb:TE}{pos:Pos}
theorem bp{r:R2}(hr:DC X r)(ha:PE X a ta)(hb:PE X b tb)(hs:xt b:=by exact λ_ _=>rfl):PE X (.Subscript a b pos) (DX r ta tb):=by
 intro pins s σ H Q I h;exact Subscript_ (BK ha hb I h λv u s2 x y H2 I2 rx ry q=>hr a b pins s2 σ H2 x y v u Q I2 rx ry q (hs _ _))
inductive mh (K:af) (x:V) (y:V) (H:Hp) (Q:VK):Prop
 |mk:∀p xs i v,x=.ref p->y=.int i->dJ K H p xs->eJ xs i\v->Q v H->mh K x y H Q
inductive jL (K:af) (x:V) (y:V) (H:Hp) (Q:VK):Prop
 |mk:∀p xs i v,x=.ref p->y=.int i->gE K H p xs->eJ xs i\v->Q v H->jL K x y H Q
inductive En (x:V) (y:V) (H:Hp) (Q:VK):Prop
 |mk:∀z i c,x=.str z->y=.int i->z.length<=sizeLine->eJ z.cps.toList i\c->Q (.str ⟨(List.toArray [c])⟩) H->En x y H Q
theorem dY:DC X (mh X.K):=by
 intro value slice pins s σ H x y v u Q I rx ry h hs;let#[p,xs,i,z,rfl,rfl,hq,he,q]:=h;cases rx;let#[t,rfl]:=ry;let#[its,r,pl,hz]:=I.list hq;let#[j,h1,h2,h3,h4,h5]:=Nn he;let#[w,ew,iU]:=r.get h2;let hl:=r.length;let hn:=fR;have fin:EP X pins σ Q w s:=⟨z,H,I,iU,q⟩;by_cases h0:0<=i
 ·have hj:i.toNat=j:=by
   rw[seqIndex_of h0 h5] at h1;exact eF h1
  exact item_listR pl.isList h0 Z1 (by rw[hj];simpa using ew) fin hs
 have hj:(i+(its.toArray.size:Int)).toNat=j:=by
  rw[seqIndex_neg Z1 h4] at h1;rw[cK,<- hl];exact eF h1
 exact subscriptTail_builtinR (x:=w) pl.isList.typeIs slot_list_getitem.lookup
  (wpAny_getItem_list_neg (Q:=λr s'=>r=w/\EP X pins σ Q r s') pl.isList Z1 (by rw[cK]<;>omega) Z1 (by rw[hj];simpa using ew) ⟨rfl,fin⟩) hs
theorem c7:DC X (jL X.K):=by
 intro value slice pins s σ H x y v u Q I rx ry h hs;let#[p,xs,i,z,rfl,rfl,hq,he,q]:=h;cases rx;let#[t,rfl]:=ry;let#[its,r,pl,hz]:=I.tuple hq;let#[j,h1,h2,h3,h4,h5]:=Nn he;let#[w,ew,iU]:=r.get h2;let hl:=r.length;let hn:=fR;have fin:EP X pins σ Q w s:=⟨z,H,I,iU,q⟩
 exact subscriptTail_builtinR (x:=w) pl.typeIs slot_tuple_getitem.lookup
  (getItem_tuple (j:=j) (Q:=λr s'=>r=w/\EP X pins σ Q r s') pl Z1 Z1 (by rw[cK,<- hl];exact h1) ⇑ew ⟨rfl,fin⟩) hs
theorem Nc:DC X En:=by
 intro value slice pins s σ H x y v u Q I rx ry h hs;let#[z,i,c,rfl,rfl,hz,he,q]:=h;let#[t,rfl]:=rx;let#[t',rfl]:=ry;let#[j,h1,h2,h3,h4,h5]:=Nn he;have hl:z.cps.toList.length=z.length:=by simp[Str.length]
 rw[hl] at h1 h4 h5;let hn:=fR
 exact tail_any (typeIs_str s z t) slot_str_getitem.lookup (getItem_str (c:=c) (by
  have e1:decide (i < -(2 ^ 63:Int))=false:=d_ Z1;have e2:decide (i ≥ 2 ^ 63)=false:=d_ Z1;rw[e1,e2,Bool.or_false]) (by rw[h1];simpa using h2) ⟨.str ⟨(List.toArray [c])⟩,H,I.tok _,⟨_,rfl⟩,q⟩) hs
theorem fK_(its:ak)(n j:Nat)(u:Aa):Obj.mapSeq (·.setIfInBounds j u) { cls:=.type "list",data:=.seq its.toArray n }={ cls:=.type "list",data:=.seq (its.set j u).toArray n }:=by
 simp[Obj.mapSeq]
theorem Inv.lst{pins:List (Addr × Obj)}{σ:St}{H:Hp}{s:Ab}{p:Addr}{xs:ag}(I:Inv X pins σ H s)(h:H p\.lst xs) :
  ∃(its:ak) (n:Nat),Vals xs its/\s.heap.get? p=some { cls:=.type "list",data:=.seq its.toArray n }/\xs.length<=sizeLine:=by
 let#[z,its,n,r,e]:=I.aJ p _ h;exact⟨its,n,r,e,z⟩
theorem Inv.Ar{pins:List (Addr × Obj)}{σ:St}{H:Hp}{s:Ab}{p:Addr}{xs ys:ag}{its its':ak}{n n':Nat}{f:Obj->Obj}(I:Inv X pins σ H s)(h:H p\.lst xs)
  (ho:s.heap.get? p=some { cls:=.type "list",data:=.seq its.toArray n }) (hf:f { cls:=.type "list",data:=.seq its.toArray n }={ cls:=.type "list",data:=.seq its'.toArray n' }) (r:Vals ys its') (hz:ys.length<=sizeLine) (t:Nat) :
  Inv X pins σ (upd H p (.lst ys)) { s with heap:=s.heap.update p f,toks:=t }:=by
 have e:(s.heap.update p f).get? p=some { cls:=.type "list",data:=.seq its'.toArray n' }:=by
  rw[Heap.get?_update_self f ho (by rw[hf]<;>rfl),hf]
 apply I.write (x:=p) (e:=p) (by rw[h];trivial) (.inl rfl) (λb u hb q=>(mF _ _ (Ne.symm hb)).trans q) ⟨_,e⟩ ?_;exact⟨hz,its',n',r,e⟩
inductive xT (o:V) (i:V) (v:V) (H:Hp) (Q:Hp->Prop):Prop
 |mk:∀p xs k j,o=.ref p->i=.int k->H p\.lst xs->tP xs.length k\j->Q (upd H p (.lst (xs.set j v)))->xT o i v H Q
theorem JW:Ht X xT:=by
 intro pins s σ H o i v ov iv u Q I ro ri rv h;let#[p,xs,k,j,rfl,rfl,hp,hj,q]:=h;cases ro;let#[t,rfl]:=ri;let#[its,n,r,ho,hz]:=I.lst hp;let#[h1,h2,h3,h4]:=Nl hj;let hl:=r.length;let hn:=fR
 have I':Inv X pins σ (upd H p (.lst (xs.set j v))) { s with heap:=s.heap.update p (Obj.mapSeq (·.setIfInBounds j u)) }:=
  I.Ar hp ho (fK_ its n j u) (r.set rv j) (by rw[List.length_set];exact hz) s.toks
 by_cases h0:0<=k
 ·have hk:k.toNat=j:=by
   rw[seqIndex_of h0 h4] at h1;exact eF h1
  exact PySem.W.ki_setAt ho h0 Z1 (by rw[cK,<- hl];exact h4) (by rw[hk];exact⟨_,I',q⟩)
 have hk:(k+(its.toArray.size:Int)).toNat=j:=by
  rw[seqIndex_neg Z1 h3] at h1;rw[cK,<- hl];exact eF h1
 exact PySem.W.ki_setBack ho Z1 (by rw[cK,<- hl];exact h3) Z1 (by rw[hk];exact⟨_,I',q⟩)
theorem ev_(lo hi:Option Int)(n:Nat):(sliceBounds lo hi none n).1=((HT.jJ n 0 lo:Nat):Int)/\(sliceBounds lo hi none n).2.1=((HT.jJ n n hi:Nat):Int)/\(sliceBounds lo hi none n).2.2=1:=by
 apply⟨?_,?_,rfl⟩
 ·cases lo with
  |none=>simp[sliceBounds,HT.jJ]
  |some i=>
   simp only[sliceBounds,HT.jJ,Option.getD_none,show (1:Int) > 0 by decide,if_true];by_cases h:i<0
   ·simp only[h,if_true]<;>omega
   simp only[h,if_false]<;>omega
 cases hi with
 |none=>simp[sliceBounds,HT.jJ]
 |some i=>
  simp only[sliceBounds,HT.jJ,Option.getD_none,show (1:Int) > 0 by decide,if_true];by_cases h:i<0
  ·simp only[h,if_true]<;>omega
  simp only[h,if_false]<;>omega
theorem dH_(its:ak)(lo hi:Option Int):slicePick its.toArray lo hi none=((its.drop (HT.jJ its.length 0 lo)).take (HT.jJ its.length its.length hi - HT.jJ its.length 0 lo)).toArray:=by
 let#[h1,h2,h3]:=ev_ lo hi its.toArray.size;unfold slicePick;rw[h1,h2,h3];simp only[sliceRange_one,pick_run,cK]<;>rfl
inductive Ek (K:af) (x:V) (lo:Option Int) (hi:Option Int) (H:Hp) (Q:VK):Prop
 |mk:∀a xs,x=.ref a->dJ K H a xs->(∀p,H p=none->Q (.ref p) (upd H p (.lst (cz xs lo hi))))->Ek K x lo hi H Q
theorem qy:Wj X (Ek X.K):=by
 intro pins s σ H x v vl vu lo hi sl Q I rx hs pl pu h;let#[a,xs,rfl,hx,q]:=h;cases rx;let#[its,r,ht,hz]:=I.list hx;let hlen:=r.length;apply⟨"list",_,slot_list_getitem.lookup,ht.isList.typeIs,?_⟩;apply wpAny_getItem_list_slice ht.isList hs pl pu .none Z2 ?_ (by rw[cK]<;>omega)
 rw[dH_,<- hlen];apply⟨.ref s.heap.objs.size,_,I.laid (t':=s.toks) (o:=.lst (cz xs lo hi)) (λb ob q=>ck _ q) (bj _) ?_,rfl,q _ (I.aJ.fresh (bj _))⟩;exact⟨pX (VO xs lo hi) hz,_,0,(r.drop (HT.jJ xs.length 0 lo)).take (HT.jJ xs.length xs.length hi - HT.jJ xs.length 0 lo),eQ _ rfl⟩
def uq:V->Bool
 |.non=>true
 |.bl _=>true
 |.int _=>true
 |.str _=>true
 |_=>false
def mB:V->V->Bool
 |.non,.non=>true
 |.bl a,.bl b=>a == b
 |.bl a,.int b=>(if a then 1 else 0) == b
 |.int a,.bl b=>a == (if b then 1 else 0)
 |.int a,.int b=>a == b
 |.str a,.str b=>a == b
 |_,_=>false
theorem Gh{A:Ag}{s:Ab}{y x:V}{u v:Aa}(ry:RelV y u)(rx:RelV x v)(fy:uq y=true)(fx:uq x=true):SeqAt.EqAt A s u v (mB y x):=by
 cases y with
 |non=>
  cases ry;cases x with
  |non=>cases rx;exact SeqAt.EqAt.same _
  |bl b=>cases rx;exact SeqAt.EqAt.none_bool b
  |int b=>let#[t,rfl]:=rx;exact SeqAt.EqAt.none_int b t
  |str b=>let#[t,rfl]:=rx;exact SeqAt.EqAt.none_str b t
  |_=>exact absurd (show false=true from fx) gC
 |bl a=>
  cases ry;cases x with
  |non=>cases rx;exact SeqAt.EqAt.bool_none a
  |bl b=>cases rx;exact SeqAt.EqAt.bool_bool a b
  |int b=>let#[t,rfl]:=rx;exact SeqAt.EqAt.bool_int a b t
  |str b=>let#[t,rfl]:=rx;exact SeqAt.EqAt.bool_str a b t
  |_=>exact absurd (show false=true from fx) gC
 |int a=>
  let#[t',rfl]:=ry;cases x with
  |non=>cases rx;exact SeqAt.EqAt.int_none a t'
  |bl b=>cases rx;exact SeqAt.EqAt.int_bool a t' b
  |int b=>let#[t,rfl]:=rx;exact SeqAt.EqAt.int_int a t' b t
  |str b=>let#[t,rfl]:=rx;exact SeqAt.EqAt.int_str a t' b t
  |_=>exact absurd (show false=true from fx) gC
 |str a=>
  let#[t',rfl]:=ry;cases x with
  |non=>cases rx;exact SeqAt.EqAt.str_none a t'
  |bl b=>cases rx;exact SeqAt.EqAt.str_bool a t' b
  |int b=>let#[t,rfl]:=rx;exact SeqAt.EqAt.str_int a t' b t
  |str b=>let#[t,rfl]:=rx;exact SeqAt.EqAt.str_str a t' b t
  |_=>exact absurd (show false=true from fx) gC
 |_=>exact absurd (show false=true from fy) gC
def wJ(x:V)(u:Aa):Bool:=match u with
 |.none=>mB .non x
 |.bool b=>mB (.bl b) x
 |.int i _=>mB (.int i) x
 |.str z _=>mB (.str z) x
 |_=>false
theorem R7{x y:V}{u:Aa}(r:RelV y u)(f:uq y=true):wJ x u=mB y x:=by
 cases y with
 |non=>cases r;rfl
 |bl b=>cases r;rfl
 |int i=>let#[t,rfl]:=r;rfl
 |str z=>let#[t,rfl]:=r;rfl
 |_=>exact absurd (show false=true from f) gC
theorem NN{x:V}:∀{xs:ag} {us:ak},Vals xs us->xs.all uq=true->us.any (wJ x)=xs.any λy=>mB y x
 |_,_,.nil,_=>rfl
 |y::xs,u::us,.cons r t,f=>by
  rw[List.all_cons,xn] at f;rw[List.any_cons,List.any_cons,R7 r f.1,NN t f.2]
theorem OJ{A:Ag}{s:Ab}{x:V}{v:Aa}(rx:RelV x v)(fx:uq x=true):∀{xs:ag} {us:ak},Vals xs us->xs.all uq=true->∀u∈us,SeqAt.EqAt A s u v (wJ x u)
 |_,_,.nil,_=>λu hu=>by cases hu
 |y::xs,u::us,.cons r t,f=>λu' hu=>by
  rw[List.all_cons,xn] at f;rcases cw.mp hu with rfl|hu
  ·rw[R7 r f.1];exact Gh r rx f.1 fx
  exact OJ rx fx t f.2 u' hu
def E1(x:V)(xs:ag):Bool:=xs.any λy=>mB y x
inductive Ig (K:af) (neg:Bool) (x:V) (y:V) (H:Hp) (Q:VK):Prop
 |mk:∀p xs,y=.ref p->(dJ K H p xs∨gE K H p xs)->uq x=true->xs.all uq=true->Q (.bl (if neg then !E1 x xs else E1 x xs)) H->Ig K neg x y H Q
theorem VA:d6 X (compareOp .In) (Ig X.K false):=by
 intro pins s σ H x y v u Q I rx ry h;let#[p,xs,rfl,hq,fx,fs,q]:=h;cases ry;rcases hq with hq|hq
 ·let#[its,r,pl,hz]:=I.list hq;apply SeqAt.in_listAt (wJ x) pl.isList (λw hw=>OJ rx fx r fs w ⇑hw) ⟨.bl _,H,I,rfl,?_⟩;rw[show its.toArray.any (wJ x)=its.any (wJ x) by simp,NN r fs];exact q
 let#[its,r,pl,hz]:=I.tuple hq;apply SeqAt.in_tupleAt (wJ x) pl (λw hw=>OJ rx fx r fs w ⇑hw) ⟨.bl _,H,I,rfl,?_⟩;rw[show its.toArray.any (wJ x)=its.any (wJ x) by simp,NN r fs];exact q
inductive P9 (K:af) (xs:ag) (H:Hp) (Q:VK):Prop
 |mk:∀p ys,xs=[.ref p]->(dJ K H p ys∨gE K H p ys)->Q (.int ys.length) H->P9 K xs H Q
theorem gc:gn X (.builtin "len") (P9 X.K):=by
 intro pins s σ H xs us Q I r h;let#[p,ys,rfl,hq,q]:=h;let#[u,rfl,rx]:=vals1 r;cases rx;let hn:=fR;rcases hq with hq|hq
 ·let#[its,r',pl,hz]:=I.list hq;let hlen:=r'.length;exact Calls.call_len_list pl.isList (by simp only[cK]<;>omega) ⟨.int ys.length,H,I.tok _,⟨s.toks+1,by rw[cK,hlen]⟩,q⟩
 let#[its,r',pl,hz]:=I.tuple hq;let hlen:=r'.length;exact len_tuple pl (by simp only[cK]<;>omega) ⟨.int ys.length,H,I.tok _,⟨s.toks+1,by rw[cK,hlen]⟩,q⟩
inductive VQ (xs:ag) (H:Hp) (Q:VK):Prop
 |mk:∀z,xs=[.str z]->z.length<=sizeLine->Q (.int z.length) H->VQ xs H Q
theorem e5_:gn X (.builtin "len") VQ:=by
 intro pins s σ H xs us Q I r h;let#[z,rfl,hz,q]:=h;let#[u,rfl,t,rfl]:=vals1 r;let hn:=fR;exact len_str Z1 ⟨.int z.length,H,I.tok _,⟨_,rfl⟩,q⟩
inductive VS (K:af) (xs:ag) (H:Hp) (Q:VK):Prop
 |mk:∀p ys,xs=[.ref p]->(dJ K H p ys∨gE K H p ys)->(∀l,H l=none->Q (.ref l) (upd H l (.lst ys)))->VS K xs H Q
theorem J_:gn X (.type "list") (VS X.K):=by
 intro pins s σ H xs us Q I r h;let#[p,ys,rfl,hq,q]:=h;let#[u,rfl,rx]:=vals1 r;cases rx
 have fin:∀(its:ak),Vals ys its->ys.length<=sizeLine->∀(h':Heap) (c':Nat),(∀b o',s.heap.get? b\o'->h'.get? b\o')->
   h'.get? s.heap.objs.size=some { cls:=.type "list",dict:=none,data:=.seq its.toArray c',slots:=#[] }->EP X pins σ Q (.ref s.heap.objs.size) { s with heap:=h' }:=λits r' hz h' c' kp e=>
  #[.ref s.heap.objs.size,_,I.laid (t':=s.toks) kp (bj _) (show fe X.prog X.w _ h' _ (.lst ys) from #[hz,its,c',r',e]),Z,q _ (I.aJ.fresh (bj _))]
 rcases hq with hq|hq
 ·let#[its,r',pl,hz]:=I.list hq;let hlen:=r'.length;let#[o,ho,hc,n,hd]:=pl.isList;exact call_list_seq p (.inl Z) ho hc hd (λh' c' kp e=>fin its r' hz h' c' kp e) (by simp only[cK]<;>omega)
 let#[its,r',pl,hz]:=I.tuple hq;let hlen:=r'.length;let#[o,ho,hc,n,hd]:=pl;exact call_list_seq p (.inr Z) ho hc hd (λh' c' kp e=>fin its r' hz h' c' kp e) (by simp only[cK]<;>omega)
inductive Qc (K:af) (xs:ag) (H:Hp) (Q:VK):Prop
 |mk:∀p ys,xs=[.ref p]->((dJ K H p ys/\∀l,H l=none->Q (.ref l) (upd H l (.tup ys)))∨(gE K H p ys/\Q (.ref p) H))->Qc K xs H Q
theorem dC_:gn X (.type "tuple") (Qc X.K):=by
 intro pins s σ H xs us Q I r h;let#[p,ys,rfl,h]:=h;let#[u,rfl,rx]:=vals1 r;cases rx;rcases h with⟨hq,q⟩|⟨hq,q⟩
 ·let#[its,r',pl,hz]:=I.list hq;let hlen:=r'.length;apply call_tuple_list pl.isList (λh' kp=>?_) (by simp only[cK]<;>omega)
  have I1:Inv X pins σ H { s with heap:=h' }:=I.kept (t':=s.toks) kp
  have I2:Inv X pins σ (upd H h'.objs.size (.tup ys)) { s with heap:=h'.push { cls:=.type "tuple",data:=.seq its.toArray } }:=
   I1.laid (t':=s.toks) (λb o e=>ck _ e) (bj _) (show fe X.prog X.w _ _ _ (.tup ys) from ⟨hz,its,r',IsTup.new _ _,_,eQ _ rfl,rfl⟩)
  exact⟨.ref h'.objs.size,_,I2,rfl,q _ (I1.aJ.fresh (bj _))⟩
 let#[its,r',pl,hz]:=I.tuple hq;exact call_tuple_same pl ⟨.ref p,H,I,rfl,q⟩
def QR(K:af)(T:String)(x:V)(H:Hp):Prop:=match x with
 |.str _=>T="str"
 |.int _=>T="int"
 |.ref p=>(T="list"/\∃xs,dJ K H p xs)∨(T="tuple"/\∃o,K.lookup p\o/\o.cls=.type "tuple"/\o.dict=none) ∨
   (T="dict"/\((∃kvs,H p\.dK kvs)∨∃kvs,H p\.dT kvs))∨(T="set"/\∃S n,H p\.set S n)
 |_=>False
theorem kW_{pins:List (Addr × Obj)}{σ:St}{H:Hp}{s:Ab}{T:String}{x:V}{v:Aa}(I:Inv X pins σ H s)(r:RelV x v)(ty:QR X.K T x H) :
  s.TypeIs v T/\∀a,v=.ref a->∃ob,s.heap.get? a\ob/\ob.dict=none:=by
 cases x with
 |str z=>
  let#[t,rfl]:=r;cases (show T="str" from ty);exact#[typeIs_str s z t,λ_ e=>nomatch e]
 |int i=>
  let#[t,rfl]:=r;cases (show T="int" from ty);exact#[typeIs_int s i t,λ_ e=>nomatch e]
 |ref p=>
  cases r;rcases ty with⟨rfl,xs,hq⟩|⟨rfl,o,hk,hc,hd⟩|⟨rfl,hk⟩|⟨rfl,S,n,hk⟩
  ·let#[its,_,pl,_]:=I.list hq;apply#[pl.isList.typeIs,λa e=>?_];cases e;let#[o,n,e,c,hd,_]:=pl;exact#[o,e,hd]
  ·apply#[#[o,I.fU p o hk,hc],λa e=>?_];cases e;exact#[o,I.fU _ o hk,hd]
  ·have z:∃o,s.heap.get? p\o/\o.ExactDict:=by
    rcases hk with⟨kvs,hk⟩|⟨kvs,hk⟩
    ·let#[_,_,_,_,o,_,_,e,ex,_]:=I.aJ p _ hk;exact#[o,e,ex]
    let#[_,_,_,_,o,_,_,e,ex,_]:=I.aJ p _ hk;exact#[o,e,ex]
   let#[o,e,ex]:=z;apply#[#[o,e,ex.1],λa e2=>?_];cases e2;exact#[o,e,ex.2.1]
  ·let#[o,_,_,_,e,ex,_]:=I.aJ p _ hk;apply#[#[o,e,ex.1],λa e2=>?_];cases e2;exact#[o,e,ex.2.1]
 |_=>exact False.elim ty
def Ya(K:af)(T:String)(r:V->ag->Hp->VK->Prop)(to:TE)(t:TA):TE:=λσ H Q=>to σ H λx H1=>QR K T x H1/\t σ H1 λxs H2=>r x xs H2 Q
variable{o e:Expr}{es:List Expr}{to:TE}{t:TA}{name:Str}{apos cE:Pos}{T id:String}{r:V->ag->Hp->VK->Prop}
theorem iy(pa:PlainAttrs T)(slot:Slot T name id)(hty:typeOf (.builtin id)=pure (.type "method_descriptor"))(hm:MtR X id r)(ho:PE X o to)(ha:PA X (e::es) t)
  (gR:attributeBase o name X.env (eval o X.env)=eval o X.env:=by rfl)
  (MI:((backTo cE (starEach (e::es) X.env)).all (λx=>!x.1)&&(backToKw cE (keywordEach [] X.env)).all (λx=>x.1.isSome)
   && decide ((e::es).length+([]:List Keyword).length+(if ([]:List Keyword).isEmpty then 0 else 1)<30))=true:=by rfl)
  (jV:(apos.endLine == cE.line)=true:=by rfl) (hs:starEach (e::es) X.env=(false,eval e X.env)::starEach es X.env:=by rfl) (AF:(backTo cE (starEach es X.env)).any (·.1)=false:=by rfl) :
  PE X (.Call (.Attribute o name apos) (e::es) [] cE) (Ya X.K T r to t):=by
 intro pins s σ H Q I h;apply wpAny_Call_method_late gR MI jV Z (a_ (ho pins s σ H _ I h) λv s1 ⟨x,H1,I1,r1,ty,q1⟩=>?_);let#[h1,h2]:=kW_ I1 r1 ty;apply#[T,id,pa,slot,hty,h1,h2,?_];let hA:=ha cE pins s1 σ H1 _ I1 q1;rw[hs] at hA ⊢;apply Calls.callWith_builtin (by show (false || (backTo cE (starEach es X.env)).any (·.1))=false;rw[AF]<;>rfl) (Calls.evalArgs_plain ?_)
 exact a_ hA λus s2 ⟨vs,H2,I2,r2,q2⟩=>hm pins s2 σ H2 x vs v us Q I2 r1 r2 q2
end
end L2
namespace L2
open PySem PySem.Spec PyProof.Rows
def Kn(X:Cx)(id:String)(r:V->ag->Hp->VK->Prop):Prop:=
 ∀(pins:List (Addr × Obj)) (s:Ab) (σ:St) (H:Hp) (x:V) (xs:ag) (v:Aa) (us:ak) (Q:VK),Inv X pins σ H s->RelV x v->Vals xs us->r x xs H Q->
  wpAny (model X.prog X.w) X.A (call (.builtin id) (v::us)) (EP X pins σ Q) X.xe s
theorem Vals.one:∀{x:V} {us:ak},Vals [x] us->∃u,us=[u]/\RelV x u
 |_,_,.cons r .nil=>#[_,Z,r]
theorem Vals.two:∀{x y:V} {us:ak},Vals [x,y] us->∃u v,us=[u,v]/\RelV x u/\RelV y v
 |_,_,_,.cons r (.cons q .nil)=>#[_,_,Z,r,q]
theorem Vals.eraseIdx:∀{xs:ag} {us:ak} (i:Nat),Vals xs us->Vals (xs.eraseIdx i) (us.eraseIdx i)
 |_,_,_,.nil=>.nil
 |_,_,0,.cons _ t=>t
 |_,_,i+1,.cons r t=>.cons r (Vals.eraseIdx i t)
theorem VB{α:Type}:∀(l:List α) (i:Nat),(l.eraseIdx i).length<=l.length
 |[],_=>bj _
 |_::_,0=>Nat.le_succ _
 |_::r,i+1=>Nat.succ_le_succ (VB r i)
section
variable{X:Cx}{pins:List (Addr × Obj)}{σ:St}{H:Hp}{s:Ab}{l b:Addr}{xs ys zs:ag}
theorem Inv.wg{its its':ak}{n:Nat}{f:Array Aa->Array Aa}{t':Nat}(I:Inv X pins σ H s)(hH:H l\.lst xs)
  (e:s.heap.get? l=some { cls:=.type "list",data:=.seq its.toArray n }) (hf:f its.toArray=its'.toArray) (hv:Vals ys its') (hz:ys.length<=sizeLine) :
  Inv X pins σ (upd H l (.lst ys)) { s with heap:=s.heap.update l (Obj.mapSeq f),toks:=t' }:=by
 let q:=PySem.IsL.update e f;rw[hf] at q;apply I.write (x:=l) (e:=l) (by rw[hH];exact trivial) (.inl Z) (λb' u hb hu=>(mF s.heap (Obj.mapSeq f) (Ne.symm hb)).trans hu) #[_,q] ?_;exact#[hz,its',_,hv,q]
theorem Inv.Au{its:ak}{t':Nat}(I:Inv X pins σ H s)(hv:Vals ys its)(hz:ys.length<=sizeLine) :
  Inv X pins σ (upd H s.heap.objs.size (.lst ys)) { s with heap:=s.heap.push { cls:=.type "list",data:=.seq its.toArray },toks:=t' }:=
 I.laid (λ_ _ q=>ck _ q) (bj _) #[hz,its,0,hv,eQ _ Z]
theorem Inv.fresh(I:Inv X pins σ H s):H s.heap.objs.size=none:=I.aJ.fresh (bj _)
theorem Inv.jQ(I:Inv X pins σ H s)(hH:H l\.lst xs):xs.length<=sizeLine/\∃(its:ak) (n:Nat),Vals xs its/\xs.length=its.length/\s.heap.get? l=some { cls:=.type "list",data:=.seq its.toArray n }:=by
 let#[z,its,n,r,e]:=I.aJ l _ hH;exact#[z,its,n,r,r.length,e]
theorem tG{n:Nat}(h:n<=sizeLine):Builtin.List.listTooLong n=false:=by
 unfold Builtin.List.listTooLong;exact d_ Z1
end
section
variable{X:Cx}
inductive nX (x:V) (vs:ag) (H:Hp) (Q:VK):Prop
 |mk:∀l xs y,x=.ref l->vs=[y]->H l\.lst xs->xs.length<sizeLine->Q .non (upd H l (.lst (xs++[y])))->nX x vs H Q
theorem vz:Kn X "list.append" nX:=by
 intro pins s σ H x vs v us Q I rx rv h;let#[l,xs,y,rfl,rfl,hH,hz,q]:=h;cases rx;let#[u,rfl,ru]:=rv.one;let#[z,its,n,r,hl,e]:=I.jQ hH;apply call_meets F.slot_list_append ⟨_,e,rfl⟩ F.entry_list_append (F.args_list_append_2 _ _) (PySem.list_append l its.toArray n u (by rw[cK];omega)) ⟨e,?_⟩;apply⟨.non,_,I.wg (its':=its++[u]) hH e Z2 (r.append (.cons ru .nil)) ?_,rfl,q⟩;rw[dM,zh];omega
inductive nR (x:V) (vs:ag) (H:Hp) (Q:VK):Prop
 |mk:∀l b xs zs,x=.ref l->vs=[.ref b]->H l\.lst xs->H b\.lst zs->xs.length+zs.length<=sizeLine->Q .non (upd H l (.lst (xs++zs)))->nR x vs H Q
theorem Dp:Kn X "list.extend" nR:=by
 intro pins s σ H x vs v us Q I rx rv h;let#[l,b,xs,zs,rfl,rfl,hH,hB,hz,q]:=h;cases rx;let#[u,rfl,ru]:=rv.one;cases ru;let#[z,its,n,r,hl,e]:=I.jQ hH;let#[z2,iW,n2,r2,kB,e2]:=I.jQ hB;have hsz:its.toArray.size+iW.toArray.size<=sizeLine:=by rw[cK,cK];omega
 have Fw:¬(!its.toArray.isEmpty&&Builtin.List.listTooLong (its.toArray.size+iW.toArray.size))=true:=by
  rw[tG hsz,xr];exact gC
 apply call_meets F.slot_list_extend ⟨_,e,rfl⟩ F.entry_list_extend (F.args_list_extend_2 _ _)
  (AutoSeq1.list_extend_list_list_0 l its.toArray n b iW.toArray n2 Fw (by rw[cK];omega) Z1) ⟨e,e2,?_⟩
 apply⟨.non,_,I.wg (its':=its++iW) hH e Z2 (r.append r2) ?_,rfl,q⟩;rw[dM];omega
inductive sZ (x:V) (vs:ag) (H:Hp) (Q:VK):Prop
 |mk:∀l xs i k y,x=.ref l->vs=[.int i]->H l\.lst xs->-(2 ^ 63)<=i->i<2 ^ 63->seqIndex? i xs.length\k->xs[k]? = some y->Q y (upd H l (.lst (xs.eraseIdx k)))->sZ x vs H Q
theorem TX:Kn X "list.pop" sZ:=by
 intro pins s σ H x vs v us Q I rx rv h;let#[l,xs,i,k,y,rfl,rfl,hH,h1,h2,hk,hy,q]:=h;cases rx;let#[u,rfl,ru]:=rv.one;let#[t,rfl]:=ru;let#[z,its,n,r,hl,e]:=I.jQ hH;let#[w,hw,iU]:=r.get hy
 apply call_meets F.slot_list_pop ⟨_,e,rfl⟩ F.entry_list_pop (F.args_list_pop_2 _ _)
  (MeetsSeq.list_pop_at l its.toArray n i t k w (fitsIndex_both h1 h2) (by rw[cK,<- hl];exact hk) (by rw[<- Array.getElem?_toList];exact hw) (by rw[cK];omega)) ⟨e,?_⟩
 apply⟨y,_,I.wg (its':=its.eraseIdx k) hH e ?_ (r.eraseIdx k) ?_,iU,q⟩
 ·show its.toArray.eraseIdxIfInBounds k=(its.eraseIdx k).toArray;rw[List.eraseIdxIfInBounds_toArray]
 have:=VB xs k;omega
inductive v_ (x:V) (y:V) (H:Hp) (Q:VK):Prop
 |mk:∀l b xs zs,x=.ref l->y=.ref b->H l\.lst xs->H b\.lst zs->xs.length+zs.length<=sizeLine->(∀p,H p=none->Q (.ref p) (upd H p (.lst (xs++zs))))->v_ x y H Q
theorem yX:d6 X (binaryOp .Add) v_:=by
 intro pins s σ H x y v u Q I rx ry h;let#[l,b,xs,zs,rfl,rfl,hH,hB,hz,q]:=h;cases rx;cases ry;let#[z,its,n,r,hl,e]:=I.jQ hH;let#[z2,iW,n2,r2,kB,e2]:=I.jQ hB;apply PySem.P.add_list e e2 ?_ (by rw[cK,cK];omega);have ea:its.toArray++iW.toArray=(its++iW).toArray:=by simp
 rw[ea];exact⟨.ref _,_,I.Au (t':=s.toks) (r.append r2) (by rw[dM];omega),rfl,q _ I.fresh⟩
end
section
variable{prog:Ad}{w:Af}{A:Ag}{E:Aa->Ab->Prop}{s:Ab}
end
section
variable{X:Cx}
end
end L2
namespace L2
open PySem PySem.Spec PyProof.Rows
section
variable{κ:Type}[DecidableEq κ]
def bI(kvs:List (κ × V))(k:κ):aI:=(kvs.find? λkv=>decide (kv.1=k)).map (·.2)
def putK(kvs:List (κ × V))(k:κ)(v:V):List (κ × V):=
 if (kvs.any λkv=>decide (kv.1=k))=true then kvs.map (λkv=>if kv.1=k then (kv.1,v) else kv) else kvs++[(k,v)]
theorem BP{p:κ × V}{r:List (κ × V)}{k:κ}(e:p.1=k):bI (p::r) k\p.2:=by simp[bI,List.find?_cons,e]
theorem BN{p:κ × V}{r:List (κ × V)}{k:κ}(e:¬p.1=k):bI (p::r) k=bI r k:=by simp[bI,List.find?_cons,e]
theorem Gr(k:κ):∀kvs:List (κ × V),(kvs.any λkv=>decide (kv.1=k))=(bI kvs k).isSome
 |[]=>rfl
 |p::r=>by
  rw[List.any_cons];by_cases e:p.1=k
  ·simp only[BP e,b_ e,Bool.true_or,Option.isSome_some]
  rw[BN e,d_ e,Bool.false_or];exact Gr k r
theorem P6(kvs:List (κ × V))(k:κ)(v:V):(putK kvs k v).length<=kvs.length+1:=by
 unfold putK;split
 ·rw[au];omega
 rw[dM,gB,uD];omega
theorem Dt{kvs:List (κ × V)}{k:κ}(v:V)(h:bI kvs k=none):putK kvs k v=kvs++[(k,v)]:=by
 unfold putK;rw[Gr,h];exact aB (by decide)
theorem eS.dQ{o:aI}{u:Option Aa}(r:eS o u):o.isSome=u.isSome:=by
 cases o with
 |none=>cases u with
  |none=>rfl
  |some _=>exact (show False from r).elim
 |some _=>cases u with
  |none=>exact (show False from r).elim
  |some _=>rfl
theorem KV.val{kvs:List (κ × V)}{vs:List (κ × Aa)}(r:KV kvs vs)(k:κ):eS (bI kvs k) (valueAt vs k):=by
 unfold KV at r
 induction r with
 |nil=>exact True.intro
 |@cons p q ps qs h t ih=>
  let#[h1,h2]:=h;by_cases e:p.1=k
  ·have e':q.1=k:=h1.symm.trans e;have b:valueAt (q::qs) k\q.2:=by simp[valueAt,List.find?_cons,e']
   rw[BP e,b];exact h2
  have e':¬q.1=k:=λz=>e (h1.trans z);have b:valueAt (q::qs) k=valueAt qs k:=by simp[valueAt,List.find?_cons,e']
  rw[BN e,b];exact ih
theorem KV.any{kvs:List (κ × V)}{vs:List (κ × Aa)}(r:KV kvs vs)(k:κ):(kvs.any λkv=>decide (kv.1=k))=vs.any λkv=>decide (kv.1=k):=by
 unfold KV at r
 induction r with
 |nil=>rfl
 |cons h t ih=>rw[List.any_cons,List.any_cons,ih,h.1]
theorem KV.Ac{kvs:List (κ × V)}{vs:List (κ × Aa)}(r:KV kvs vs)(k:κ){y:V}{u:Aa}(ry:RelV y u) :
  KV (kvs.map λkv=>if kv.1=k then (kv.1,y) else kv) (vs.map λkv=>if kv.1=k then (kv.1,u) else kv):=by
 unfold KV at r ⊢
 induction r with
 |nil=>exact .nil
 |@cons p q ps qs h t ih=>
  rw[fE,fE];apply .cons ?_ ih;let#[h1,h2]:=h;by_cases e:p.1=k
  ·rw[aH e,aH (h1.symm.trans e)];exact#[h1,ry]
  rw[aB e,aB (λz=>e (h1.trans z))];exact#[h1,h2]
theorem KV.put{kvs:List (κ × V)}{vs:List (κ × Aa)}(r:KV kvs vs)(k:κ){y:V}{u:Aa}(ry:RelV y u):KV (putK kvs k y) (stored vs k u):=by
 unfold putK stored;rw[r.any k];by_cases e:(vs.any λkv=>decide (kv.1=k))=true
 ·rw[aH e,aH e];exact r.Ac k ry
 rw[aB e,aB e];exact Paired.snoc r #[Z,ry]
theorem KV.keys{kvs:List (κ × V)}{vs:List (κ × Aa)}(r:KV kvs vs):kvs.map (·.1)=vs.map (·.1):=by
 unfold KV at r
 induction r with
 |nil=>rfl
 |cons h t ih=>rw[fE,fE,ih,h.1]
theorem KV.length{kvs:List (κ × V)}{vs:List (κ × Aa)}(r:KV kvs vs):kvs.length=vs.length:=bK r
end
theorem yJ{P:Ad}{w:Af}{k:Key}{u:Aa}(r:RelV (kV k) u):(fG P w).is k u=true:=by
 cases k with
 |inl i=>let#[t,e]:=(show ∃t,u=Value.int i t from r);subst e;exact eK_ P w i t
 |inr x=>let#[t,e]:=(show ∃t,u=Value.str x t from r);subst e;exact P5 P w x t
theorem UE{P:Ad}{w:Af}:∀{ks:aD} {us:ak},Vals (ks.map kV) us->ItemsAre (fG P w) ks us
 |[],_,r=>by rw[List.map_nil] at r;cases r;exact .nil
 |k::ks,_,r=>by
  rw[fE] at r;cases r with
  |cons h t=>exact .cons (yJ h) (UE t)
abbrev KT(H:Hp):List (aD × V)->List (aD × Addr × Aa)->Prop:=Paired λp q=>p.1=q.1/\H q.2.1\.tup (p.1.map kV)/\RelV p.2 q.2.2
theorem KT.val{H:Hp}{kvs:List (aD × V)}{xs:List (aD × Addr × Aa)}(r:KT H kvs xs)(k:aD):eS (bI kvs k) ((atKey xs k).map (·.2)):=by
 induction r with
 |nil=>exact True.intro
 |@cons p q ps qs h t ih=>
  let#[h1,_,h2]:=h;by_cases e:p.1=k
  ·have e':q.1=k:=h1.symm.trans e;have b:atKey (q::qs) k\q.2:=by simp[atKey,List.find?_cons,e']
   rw[BP e,b];exact h2
  have e':¬q.1=k:=λz=>e (h1.trans z);have b:atKey (q::qs) k=atKey qs k:=by simp[atKey,List.find?_cons,e']
  rw[BN e,b];exact ih
theorem KT.Ac{H:Hp}{kvs:List (aD × V)}{xs:List (aD × Addr × Aa)}(r:KT H kvs xs)(k:aD){y:V}{u:Aa}(ry:RelV y u) :
  KT H (kvs.map λkv=>if kv.1=k then (kv.1,y) else kv) (xs.map (putAt k u)):=by
 induction r with
 |nil=>exact .nil
 |@cons p q ps qs h t ih=>
  rw[fE,fE];apply .cons ?_ ih;let#[h1,h2,h3]:=h;unfold putAt;by_cases e:p.1=k
  ·rw[aH e,aH (h1.symm.trans e)];exact#[h1,h2,ry]
  rw[aB e,aB (λz=>e (h1.trans z))];exact#[h1,h2,h3]
theorem KT.put{H:Hp}{kvs:List (aD × V)}{xs:List (aD × Addr × Aa)}(r:KT H kvs xs)(k:aD){b:Addr}{y:V}{u:Aa}(hb:H b\.tup (k.map kV))(ry:RelV y u) :
  KT H (putK kvs k y) (storedH xs k b u):=by
 have e:(kvs.any λkv=>decide (kv.1=k))=(atKey xs k).isSome:=by
  rw[Gr,(r.val k).dQ,Option.isSome_map]
 unfold putK storedH;rw[e];by_cases q:(atKey xs k).isSome=true
 ·rw[aH q,aH q];exact r.Ac k ry
 rw[aB q,aB q];exact Paired.snoc r #[Z,hb,ry]
theorem KT.keeps{H H':Hp}{kvs:List (aD × V)}{xs:List (aD × Addr × Aa)}(r:KT H kvs xs)(ht:∀b ys,H b\.tup ys->H' b\.tup ys):KT H' kvs xs:=
 Paired.bL r λ_ _ z=>#[z.1,ht _ _ z.2.1,z.2.2]
section
variable{P:Ad}{w:Af}{H:Hp}{h:Heap}{a:Addr}
theorem RI{u:HO}(ok:eU P w H h)(e:Rd H a u):fe P w H h a u:=e.ok ok
theorem oK{kvs:List (Key × V)}(ok:eU P w H h)(e:Rd H a (.dK kvs)):kvs.length<=sizeLine/\(a == sysModules)=false/\∃vs,KV kvs vs/\h.DictOf (fG P w) a vs:=
 show fe P w H h a (.dK kvs) from RI ok e
theorem CJ{kvs:List (Key × V)}(ok:eU P w H h)(e:H a\.dK kvs):kvs.length<=sizeLine/\(a == sysModules)=false/\∃vs,KV kvs vs/\h.DictOf (fG P w) a vs:=oK ok (.inl e)
theorem Gb{ks:aD}(ok:eU P w H h)(e:H a\.tup (ks.map kV)):(tupleKind (fG P w)).is h ks a:=by
 let#[_,its,r,#[o,h1,h2,n,h3],_]:=(show fe P w H h a (.tup (ks.map kV)) from ok a _ e);exact#[o,its.toArray,n,h1,h2,h3,by simpa using UE r]
theorem CK{kvs:List (aD × V)}(ok:eU P w H h)(e:Rd H a (.dT kvs)):kvs.length<=sizeLine/\(a == sysModules)=false /\
  ∃xs,KT H kvs xs/\h.DictOfH (tupleKind (fG P w)) a xs:=by
 let#[z,y,xs,r,o,es,ep,h1,h2,h3,h4,h5]:=(show fe P w H h a (.dT kvs) from RI ok e);apply#[z,y,xs,r,o,es,ep,h1,h2,h3,h4,λx hx=>?_,h5]
 have all:∀{l:List (aD × V)} {m:List (aD × Addr × Aa)},KT H l m->∀x∈m,(tupleKind (fG P w)).is h x.1 x.2.1:=by
  intro l m q
  induction q with
  |nil=>intro x hx;exact nomatch hx
  |@cons p q ps qs hq t ih=>
   intro x hx;rcases cw.mp hx with e|hx
   ·subst e;exact Gb ok (by rw[<- hq.1];exact hq.2.1)
   exact ih x hx
 exact all r x hx
theorem ZZ{kvs:List (aD × V)}(ok:eU P w H h)(e:H a\.dT kvs):kvs.length<=sizeLine/\(a == sysModules)=false /\
  ∃xs,KT H kvs xs/\h.DictOfH (tupleKind (fG P w)) a xs:=CK ok (.inl e)
end
def fX(H:Hp)(a:Addr)(y:V)(r:aI):Prop:=
 (∃kvs k,Rd H a (.dK kvs)/\y=kV k/\r=bI kvs k)∨∃kvs k b,Rd H a (.dT kvs)/\y=.ref b/\H b\.tup (k.map kV)/\r=bI kvs k
def p7(H:Hp)(a:Addr)(y v:V)(H':Hp):Prop:=
 (∃kvs k,H a\.dK kvs/\y=kV k/\kvs.length<sizeLine/\H'=upd H a (.dK (putK kvs k v))) ∨
 ∃kvs k b,H a\.dT kvs/\y=.ref b/\H b\.tup (k.map kV)/\kvs.length<sizeLine/\H'=upd H a (.dT (putK kvs k v))
theorem fX.k{H:Hp}{a:Addr}{kvs:List (Key × V)}{k:Key}(e:H a\.dK kvs):fX H a (kV k) (bI kvs k):=.inl #[kvs,k,.inl e,Z,Z]
theorem fX.t{H:Hp}{a b:Addr}{kvs:List (aD × V)}{k:aD}(e:H a\.dT kvs)(eb:H b\.tup (k.map kV)):fX H a (.ref b) (bI kvs k):=.inr #[kvs,k,b,.inl e,Z,eb,Z]
theorem p7.k{H:Hp}{a:Addr}{kvs:List (Key × V)}{k:Key}{v:V}(e:H a\.dK kvs)(hl:kvs.length<sizeLine):p7 H a (kV k) v (upd H a (.dK (putK kvs k v))):=.inl #[kvs,k,e,Z,hl,Z]
theorem p7.t{H:Hp}{a b:Addr}{kvs:List (aD × V)}{k:aD}{v:V}(e:H a\.dT kvs)(eb:H b\.tup (k.map kV))(hl:kvs.length<sizeLine) :
  p7 H a (.ref b) v (upd H a (.dT (putK kvs k v))):=.inr #[kvs,k,b,e,Z,eb,hl,Z]
section
variable{X:Cx}{pins:List (Addr × Obj)}{σ:St}{H:Hp}{s:Ab}{a:Addr}{y v:V}{u r:Aa}{o:aI}{A:Ag}{E:Aa->Ab->Prop}
theorem Inv.big(I:Inv X pins σ H s):sysModules<s.heap.objs.size:=by
 have h:mainGlobals<s.heap.objs.size:=(I.mod.glob.keeps I.bk).lt;exact Nat.lt_trans (by decide) h
theorem gv_{Q:Aa->Ab->Prop}(hu:A.units+1<cLine)(I:Inv X pins σ H s)(g:fX H a y (some v))(ry:RelV y u)(h:∀w' s',Inv X pins σ H s'->RelV v w'->Q w' s') :
  wpAny (model X.prog X.w) A (getItem (.ref a) u) Q E s:=by
 rcases g with⟨kvs,k,e,ey,l⟩|⟨kvs,k,b,e,ey,eb,l⟩
 ·subst ey;let#[z,hd,vs,rel,dd]:=oK I.aJ e;let#[w',hw,iU]:=eS.some_of (v:=v) (o:=valueAt vs k) (by rw[l];exact rel.val k);exact wpAny_getItem_of (yJ ry) dd.mapOf hw (h w' _ (I.tok _) iU)
 subst ey;cases (show u=Value.ref b from ry);let#[z,hd,xs,rel,dd]:=CK I.aJ e;let#[w',hw,iU]:=eS.some_of (v:=v) (o:=(atKey xs k).map (·.2)) (by rw[l];exact rel.val k);let#[p,hp,jq]:=Option.map_eq_some_iff.mp hw;apply wpAny_getItem_heap (tupleKind_room_in1 hu) (Gb I.aJ eb) dd hp ?_;rw[jq];exact h w' _ (I.tok _) iU
theorem On{Q:Aa->Ab->Prop}(hu:A.units+1<cLine)(I:Inv X pins σ H s)(g:fX H a y o)(ry:RelV y u)(h:∀s',Inv X pins σ H s'->Q (.bool o.isSome) s') :
  wpAny (model X.prog X.w) A (compareOp .In u (.ref a)) Q E s:=by
 rcases g with⟨kvs,k,e,ey,l⟩|⟨kvs,k,b,e,ey,eb,l⟩
 ·subst ey;let#[z,hd,vs,rel,dd]:=oK I.aJ e;apply wpAny_in_of (yJ ry) hd dd.mapOf ?_;rw[<- (rel.val k).dQ,<- l];exact h _ (I.tok _)
 subst ey;cases (show u=Value.ref b from ry);let#[z,hd,xs,rel,dd]:=CK I.aJ e;apply wpAny_in_heap (tupleKind_room_in1 hu) (Gb I.aJ eb) hd dd ?_;let q:=(rel.val k).dQ;rw[Option.isSome_map] at q;rw[<- q,<- l];exact h _ (I.tok _)
theorem kF_{Q:Aa->Ab->Prop}(hu:A.units+1<cLine)(I:Inv X pins σ H s)(g:fX H a y o)(ry:RelV y u)(h:∀s',Inv X pins σ H s'->Q (.bool (!o.isSome)) s') :
  wpAny (model X.prog X.w) A (compareOp .NotIn u (.ref a)) Q E s:=by
 rcases g with⟨kvs,k,e,ey,l⟩|⟨kvs,k,b,e,ey,eb,l⟩
 ·subst ey;let#[z,hd,vs,rel,dd]:=oK I.aJ e;apply wpAny_notIn_of (yJ ry) hd dd.mapOf ?_;rw[<- (rel.val k).dQ,<- l];exact h _ (I.tok _)
 subst ey;cases (show u=Value.ref b from ry);let#[z,hd,xs,rel,dd]:=CK I.aJ e;apply wpAny_notIn_heap (tupleKind_room_in1 hu) (Gb I.aJ eb) hd dd ?_;let q:=(rel.val k).dQ;rw[Option.isSome_map] at q;rw[<- q,<- l];exact h _ (I.tok _)
theorem Tn{h':Heap}{t':Nat}{ob:HO}(I:Inv X pins σ H s)(mu:Hv (H a))(hs:Heap.SameBut a s.heap h')(he:∃q,h'.get? a\q)(new:fe X.prog X.w (upd H a ob) h' a ob) :
  Inv X pins σ (upd H a ob) { s with heap:=h',toks:=t' }:=
 I.write (x:=a) (e:=a) mu (.inl Z) (λb q hb z=>(hs.2 b hb).trans z) he new
theorem Ng{P:Ad}{w:Af}{H':Hp}{h':Heap}{kvs:List (Key × V)}{vs:List (Key × Aa)}(z:kvs.length<=sizeLine)(hd:(a == sysModules)=false)(rel:KV kvs vs)(dd:h'.DictOf (fG P w) a vs) :
  fe P w H' h' a (.dK kvs):=#[z,hd,vs,rel,dd]
theorem he_{H':Hp}{Q:Unit->Ab->Prop}(hu:A.units+1<cLine)(I:Inv X pins σ H s)(g:p7 H a y v H')(ry:RelV y u)(rv:RelV v r)(h:∀s',Inv X pins σ H' s'->Q () s') :
  wpAny (model X.prog X.w) A (setItem (.ref a) u r) Q E s:=by
 rcases g with⟨kvs,k,e,ey,l,eH⟩|⟨kvs,k,b,e,ey,eb,l,eH⟩
 ·subst ey eH;let#[z,hd,vs,rel,dd]:=CJ I.aJ e;have hz:vs.length<=sizeLine:=by rw[<- rel.length];exact z
  have hl:(putK kvs k v).length<=sizeLine:=by have:=P6 kvs k v;omega
  apply wpAny_setItem_pairs (hsz:=hz) (yJ ry) dd λh' C7 hs=>h _ ?_;have he:∃q,h'.get? a\q:=let #[q,_,_,hq,_]:=C7;#[q,hq];exact Tn I (by rw[e];exact True.intro) hs he (Ng hl hd (rel.put k rv) C7)
 subst ey eH;cases (show u=Value.ref b from ry);let#[z,hd,xs,rel,dd]:=ZZ I.aJ e;have hz:xs.length<=sizeLine:=by rw[<- bK rel];exact z
 have hl:(putK kvs k v).length<=sizeLine:=by have:=P6 kvs k v;omega
 apply wpAny_setItem_heap (hsz:=hz) (tupleKind_room_in1 hu) (Gb I.aJ eb) dd λh' C7 hs=>h _ ?_;let#[q,es,ep,hq,h2,h3,h4,_,h5]:=C7;apply Tn I (by rw[e];exact True.intro) hs #[q,hq] #[hl,hd,_,(rel.put k eb rv).keeps λc ys ec=>?_,q,es,ep,hq,h2,h3,h4,h5];rw[aC (cb ec e nofun)];exact ec
end
section
variable{X:Cx}{pins:List (Addr × Obj)}{σ:St}{H:Hp}{s:Ab}{a:Addr}{kvs:List (Key × V)}{k:Key}{u:Aa}{A:Ag}{E:Aa->Ab->Prop}
theorem ZY{Q:Aa->Ab->Prop}(I:Inv X pins σ H s)(e:Rd H a (.dK kvs))(h:∀t s',Inv X pins σ H s'->Q (.int kvs.length t) s'):wpAny (model X.prog X.w) A (call (.builtin "len") [.ref a]) Q E s:=by
 let#[z,hd,vs,rel,dd]:=oK I.aJ e;apply call_len_dict hd dd (by rw[<- rel.length];rw[bZ] at z;omega) ?_;rw[<- rel.length];exact h _ _ (I.tok _)
end
def B1(i:Expr):Prop:=∀ov iv,subscripted i false ov iv=operate [ov,iv] (getItem ov iv)
theorem TM{prog:Ad}{w:Af}{A:Ag}{E:Aa->Ab->Prop}{s:Ab}{env:Env}{value slice:Expr}{pos:Pos}{T id:String}{Q:Aa->Ab->Prop}
  (hl:typeLookup (.type T) "__getitem__"=pure (some (.builtin id))) (hs:B1 slice)
  (h:wpAny (model prog w) A (eval value env) (λo aV=>wpAny (model prog w) A (eval slice env) (λi hX=>hX.TypeIs o T/\wpAny (model prog w) A (getItem o i) Q E hX) E aV) E s) :
  wpAny (model prog w) A (eval (.Subscript value slice pos) env) Q E s:=by
 apply Subscript_ (wpAny_mono h (λo aV bW=>wpAny_mono bW (λi hX Ay=>?_) λ_ _ x=>x) λ_ _ x=>x);let#[hT,Ay]:=Ay;unfold subscriptTail;apply aF ?_;rw[getitemInPython_of_ne hT.not_modules];apply aF (wpAny_specialOf hT hl ?_)
 have fin:wpAny (model prog w) A (subscripted slice false o i) (λr D7=>wpAny (model prog w) A (letTemporaryGo value o r >>= λ_=>pure r) Q E D7) E hX:=by
  rw[hs o i];exact wpAny_operating (wpAny_mono Ay (λr D7 L0=>aF (wpAny_letTemporaryGo (bA L0))) λ_ _ x=>x)
 first
  |exact bA (aF fin)
  |exact aF (bA (aF fin))
  |exact aF fin
theorem f1_{X:Cx}{pins:List (Addr × Obj)}{σ:St}{H:Hp}{s:Ab}{a:Addr}{y:V}{o:aI}(I:Inv X pins σ H s)(g:fX H a y o):s.TypeIs (.ref a) "dict":=by
 rcases g with⟨kvs,k,e,_,_⟩|⟨kvs,k,b,e,_,_,_⟩
 ·let#[_,_,vs,_,dd]:=oK I.aJ e;exact dd.typeIs
 let#[_,_,xs,_,dd]:=CK I.aJ e;exact dd.typeIs
inductive qU (Q:VK) (x:V) (y:V) (H2:Hp):Prop
 |mk:∀a v,x=.ref a->fX H2 a y (some v)->Q v H2->qU Q x y H2
def D4(td ty:TE):TE:=λσ H Q=>td σ H λx H1=>ty σ H1 λy H2=>qU Q x y H2
inductive xI (Q:VK) (y:V) (x:V) (H2:Hp):Prop
 |mk:∀a o,x=.ref a->fX H2 a y o->Q (.bl o.isSome) H2->xI Q y x H2
def KS(ty td:TE):TE:=λσ H Q=>ty σ H λy H1=>td σ H1 λx H2=>xI Q y x H2
inductive Vc (Q:VK) (y:V) (x:V) (H2:Hp):Prop
 |mk:∀a o,x=.ref a->fX H2 a y o->Q (.bl (!o.isSome)) H2->Vc Q y x H2
def vK(ty td:TE):TE:=λσ H Q=>ty σ H λy H1=>td σ H1 λx H2=>Vc Q y x H2
inductive sR (D:Ends) (σ:St) (v:V) (x:V) (y:V) (H3:Hp):Prop
 |mk:∀a H4,x=.ref a->p7 H3 a y v H4->D.nx σ H4->sR D σ v x y H3
def Eh(td ty tv:TE):TS:=λD σ H=>tv σ H λv H1=>td σ H1 λx H2=>ty σ H2 λy H3=>sR D σ v x y H3
section
variable{X:Cx}{o i e value:Expr}{pos pos' KC:Pos}{td ty tv:TE}
theorem kL(hu:X.A.units+1<cLine)(ho:PE X o td)(hi:PE X i ty)(hs:B1 i:=by exact λ_ _=>rfl):PE X (.Subscript o i pos) (D4 td ty):=by
 intro pins s σ H Q I h;apply TM PySem.F.slot_dict_getitem.lookup hs (a_ (ho pins s σ H _ I h) λu s1 ⟨x,H1,I1,rx,q1⟩=>a_ (hi pins s1 σ H1 _ I1 q1) λiv s2 ⟨y,H2,I2,ry,a,v,ex,g,q2⟩=>?_);subst ex;obtain rfl:u=Value.ref a:=rx;exact#[f1_ I2 g,gv_ hu I2 g ry λw' s3 I3 iU=>#[v,H2,I3,iU,q2]]
theorem C0(hu:X.A.units+1<cLine)(hi:PE X i ty)(ho:PE X o td):PC X .In i o (KS ty td):=by
 intro pins s σ H Q I h;apply a_ (hi pins s σ H _ I h) λiv s1 ⟨y,H1,I1,ry,q1⟩=>a_ (ho pins s1 σ H1 _ I1 q1) λu s2 ⟨x,H2,I2,rx,a,ov,ex,g,q2⟩=>?_;subst ex;obtain rfl:u=Value.ref a:=rx;exact On hu I2 g ry λs3 I3=>#[.bl ov.isSome,H2,I3,Z,q2]
theorem UY(hu:X.A.units+1<cLine)(hi:PE X i ty)(ho:PE X o td):PC X .NotIn i o (vK ty td):=by
 intro pins s σ H Q I h;apply a_ (hi pins s σ H _ I h) λiv s1 ⟨y,H1,I1,ry,q1⟩=>a_ (ho pins s1 σ H1 _ I1 q1) λu s2 ⟨x,H2,I2,rx,a,ov,ex,g,q2⟩=>?_;subst ex;obtain rfl:u=Value.ref a:=rx;exact kF_ hu I2 g ry λs3 I3=>#[.bl (!ov.isSome),H2,I3,Z,q2]
theorem vq(hu:X.A.units+1<cLine)(ho:PE X o td)(hi:PE X i ty)(hv:PE X value tv)(hs:swapsWith value (some (.Subscript o i pos')) pos.line X.env=pure false) :
  PS X (.Assign [.Subscript o i pos'] value pos) (Eh td ty tv):=by
 intro pins s σ H D I h;apply wpAny_Assign_Subscript (a_ (hv pins s σ H _ I h) λr s1 ⟨v,H1,I1,rv,q1⟩=>a_ (ho pins s1 σ H1 _ I1 q1) λu s2 ⟨x,H2,I2,rx,q2⟩=>a_ (hi pins s2 σ H2 _ I2 q2) λiv s3 ⟨y,H3,I3,ry,a,H4,ex,g,q3⟩=>?_) hs;subst ex;obtain rfl:u=Value.ref a:=rx;exact he_ hu I3 g ry rv λs4 I4=>#[σ,H4,I4,q3]
end
theorem il_{P:Ad}{w:Af}{H:Hp}(h:Heap)(hb:sysModules<h.objs.size):fe P w H (h.push { cls:=.type "dict",data:=.dict #[] }) h.objs.size (.dK []):=
 #[gD _,beq_eq_false_iff_ne.mpr (Ne.symm (eG hb)),[],.nil,Heap.DictOf.new h]
theorem i2_{P:Ad}{w:Af}{H:Hp}(h:Heap)(hb:sysModules<h.objs.size):fe P w H (h.push { cls:=.type "dict",data:=.dict #[] }) h.objs.size (.dT []):=
 #[gD _,beq_eq_false_iff_ne.mpr (Ne.symm (eG hb)),[],.nil,_,#[],0,eQ _ Z,#[Z,Z,Z],Z,Z,List.nodup_nil]
def zy:TE:=λ_ H Q=>∀p,H p=none->Q (.ref p) (upd H p (.dK []))
def zx:TE:=λ_ H Q=>∀p,H p=none->Q (.ref p) (upd H p (.dT []))
section
variable{X:Cx}{pos:Pos}
theorem GD:PE X (.Dict [] [] pos) zy:=λpins s σ H Q I h=>
 wpAny_Dict_empty #[.ref s.heap.objs.size,_,I.laid (a:=s.heap.objs.size) (o:=.dK []) (t':=s.toks) (λ_ _ q=>ck _ q) (bj _) (il_ s.heap I.big),Z,h _ (I.aJ.fresh (bj _))]
theorem ij_:PE X (.Dict [] [] pos) zx:=λpins s σ H Q I h=>
 wpAny_Dict_empty #[.ref s.heap.objs.size,_,I.laid (a:=s.heap.objs.size) (o:=.dT []) (t':=s.toks) (λ_ _ q=>ck _ q) (bj _) (i2_ s.heap I.big),Z,h _ (I.aJ.fresh (bj _))]
end
def BG(kvs more:List (Key × V)):List (Key × V):=more.foldl (λacc kv=>putK acc kv.1 kv.2) kvs
theorem V7:∀(more kvs:List (Key × V)),(BG kvs more).length<=kvs.length+more.length
 |[],kvs=>by show kvs.length<=kvs.length+0;omega
 |p::r,kvs=>by
  let h1:=V7 r (putK kvs p.1 p.2);let h2:=P6 kvs p.1 p.2;show (BG (putK kvs p.1 p.2) r).length<=_;rw[gB];omega
structure M1 (X:Cx) (o:Expr) (m:Str) (apos:Pos) (e:Expr) (cE:Pos):Prop where
 base:attributeBase o m X.env (eval o X.env)=eval o X.env
 few:((backTo cE (starEach [e] X.env)).all (λx=>!x.1)&&(backToKw cE (keywordEach [] X.env)).all (λx=>x.1.isSome)
  && decide (([e]:List Expr).length+([]:List Keyword).length+(if ([]:List Keyword).isEmpty then 0 else 1)<30))=true
 line:(apos.endLine == cE.line)=true
 trees:backTo cE (starEach [e] X.env)=[(false,eval e X.env)]
structure M2 (X:Cx) (o:Expr) (m:Str) (apos:Pos) (e f:Expr) (cE:Pos):Prop where
 base:attributeBase o m X.env (eval o X.env)=eval o X.env
 few:((backTo cE (starEach [e,f] X.env)).all (λx=>!x.1)&&(backToKw cE (keywordEach [] X.env)).all (λx=>x.1.isSome)
  && decide (([e,f]:List Expr).length+([]:List Keyword).length+(if ([]:List Keyword).isEmpty then 0 else 1)<30))=true
 line:(apos.endLine == cE.line)=true
 trees:backTo cE (starEach [e,f] X.env)=[(false,eval e X.env),(false,eval f X.env)]
def IsD(H:Hp)(a:Addr):Prop:=(∃kvs,Rd H a (.dK kvs))∨∃kvs,Rd H a (.dT kvs)
theorem RU{X:Cx}{pins:List (Addr × Obj)}{σ:St}{H:Hp}{s:Ab}{a:Addr}(I:Inv X pins σ H s)(d:IsD H a) :
  s.TypeIs (.ref a) "dict"/\(∀b,Value.ref a=.ref b->∃ob,s.heap.get? b\ob/\ob.dict=none)/\(a == sysModules)=false:=by
 rcases d with⟨kvs,e⟩|⟨kvs,e⟩
 ·let#[_,hd,vs,_,dd]:=oK I.aJ e;apply#[dd.typeIs,λb q=>?_,hd];cases q;let#[ob,_,_,h1,h2,_]:=dd;exact#[ob,h1,h2.2.1]
 let#[_,hd,xs,_,dd]:=CK I.aJ e;apply#[dd.typeIs,λb q=>?_,hd];cases q;let#[ob,_,_,h1,h2,_]:=dd;exact#[ob,h1,h2.2.1]
section
variable{X:Cx}{pins:List (Addr × Obj)}{σ:St}{H:Hp}{s:Ab}{a:Addr}{y d:V}{u r:Aa}{o:aI}{A:Ag}{E:Aa->Ab->Prop}
end
section
variable{X:Cx}{o e f:Expr}{apos cE:Pos}{td ty tx:TE}
end
section
variable{X:Cx}{pins:List (Addr × Obj)}{σ:St}{H:Hp}{s:Ab}{a:Addr}{kvs:List (Key × V)}{A:Ag}{E:Aa->Ab->Prop}
theorem iB_{Q:Aa->Ab->Prop}(I:Inv X pins σ H s)(e:Rd H a (.dK kvs))(h:∀p s',H p=none->Inv X pins σ (upd H p (.dK kvs)) s'->Q (.ref p) s'):wpAny (model X.prog X.w) A (call (.type "dict") [.ref a]) Q E s:=by
 let#[z,hd,vs,rel,dd]:=oK I.aJ e;apply kt_call_dict hd dd (by rw[<- rel.length];exact z) λh' C7 hs=>?_;apply h _ _ (I.aJ.fresh (bj _)) (I.laid (a:=s.heap.objs.size) (o:=.dK kvs) (t':=s.toks) (λb q hq=>?_) (bj _) (Ng z (beq_eq_false_iff_ne.mpr (Ne.symm (eG I.big))) rel C7));exact (hs.2 b (eG (cy hq))).trans (ck _ hq)
end
section
variable{X:Cx}{pins:List (Addr × Obj)}{σ:St}{H:Hp}{s:Ab}{a:Addr}{y:V}{u:Aa}{A:Ag}{E:Aa->Ab->Prop}
end
end L2
namespace Wq
open PySem PySem.W PySem.Calls PyProof.Rows
theorem cY_{P:Params}{h:Heap}:∀(ns:List Int) (vs:ak),WellAll P h vs (ns.map WData.int)->IntsAre vs ns:=by
 intro ns
 induction ns with
 |nil=>
  intro vs w;rw[List.map_nil] at w;cases w;exact .nil
 |cons n ns ih=>
  intro vs w;rw[fE] at w;cases w with
  |cons a b=>
   cases a;exact .cons _ _ (ih _ b)
theorem hY_{l:OpenLaw}{n:Nat}(hn:l.most\n){P:Params}{h:Heap}{args:List WData}{vals:ak}
  (wk:l.row.toRowW.claim.pre args=true) (L3:WellAll P h vals args) :
  ∃a vs ns,vals=[Value.ref a]/\args=[WData.list (ns.map WData.int)]/\h.get? a=some { cls:=.type "list",data:=.seq vs.toArray }/\IntsAre vs ns/\ns.length<=n:=by
 have hsh:WShape.hasAll [] args [.list .int]=true:=(pre_splitW wk).1;have hc:l.pre.holds [] { args:=args }=true:=(pre_splitW wk).2;let#[d,r,rfl,h1,h2]:=hasAllW_cons hsh;obtain rfl:=hasAllW_nil h2;let#[xs,rfl,h3]:=hasW_list h1;let#[ns,rfl]:=items_int h3
 have hlen:ns.length<=n:=by
  unfold OpenLaw.pre at hc
  have h4:(WTm.not (.lt (.lit (.int (n:Int))) (.len (.arg 0)))).holds [] { args:=[.list (ns.map .int)] }=true:=by
   let h4:=(holds_andW hc).1;rw[hn] at h4;exact h4
  let h5:=condW_of h4 (w_not (w_lt w_lit (w_len_list (w_arg Z))));rw[au] at h5;apply Nat.le_of_not_lt λq=>?_;have q':(n:Int)<((ns.length:Nat):Int):=by omega
  first
   |(rw[b_ q'] at h5;exact absurd h5 (by decide))
   |(simp at h5;omega)
 cases L3 with
 |cons w1 w2=>
  cases w2;cases w1 with
  |list ho AY=>exact#[_,_,ns,Z,Z,ho,cY_ ns _ AY,hlen]
theorem gB_(l:OpenLaw)(args:List WData):l.row.toRowW.claim.post args (.bool true) args=true:=
 postW_of (r:=l.row.toRowW) (X:=(true == true))
  (show WShape.has [] (.bool true) .bool=true by first|rfl|decide|simp[WShape.has,WShape.arms,WShape.armsAll])
  (show (WTm.eq .res (.lit (.bool true))).value [] { args:=args,res:=some (.bool true),after:=args }=some (.bool (true == true)) from w_eq_bool (w_res Z) w_lit) Z
theorem j8{l:OpenLaw}{n:Nat}{q:Ad}{loose:ae}{XP:(Str->Option Aa)->Heap->Prop}{YP:Af->Heap->Prop}{d:DefRec}
  (hn:l.most\n) (ub:d.params.defaults=[])
  (call:∀(w:Af) (cO aV:Ab) (mg mb:Str->Option Aa) (fa:Addr) (o:Obj) (pm cd doc:Aa) (a:Addr) (vs:ak) (ns:List Int),
   Ground q loose [] XP w cO mg mb aV.heap->YP w aV.heap->
   aV.heap.get? fa\o->o.data=.func (docDef d.name d.params d.body d.scope pm cd doc)->aV.heap.CodeRec cd d.name->mg d.name\.ref fa->
   aV.heap.get? a=some { cls:=.type "list",data:=.seq vs.toArray }->IntsAre vs ns->ns.length<=n->aV.gens=#[]->
   codeAny (model l.prog w) callerA (.call (.ref fa) #[[.ref a],[]]) (λr s'=>r=.ok (.ret (.bool true))/\OldK aV.heap s'.heap/\s'.os=aV.os/\AllBare s'.gens) aV) :
  WalkO q loose XP YP l.row.toRowW d [] (λf vs=>PySem.call f vs):=by
 intro w cO aV mg mb G Y fa o pm cd doc dV kV ho hd gQ hD hmg hg args vals as wk hlay hrd L3 hlo;obtain rfl:dV=.none:=Dflts.none hD ub;obtain rfl:kV=.none:=Dflts.noKw hD;let#[a,vs,ns,rfl,rfl,AH,hints,hlen]:=hY_ hn wk L3;apply enter_call (codeAny_mono (call w cO aV mg mb fa o pm cd doc a vs ns G Y ho (fd_plain hd) gQ hmg AH hints hlen hg) λr s' hq=>?_);let#[rfl,h2,h3,h4]:=hq;exact#[.inl #[.bool true,.bool true,[],Z,λ_=>rfl,.bool true,gB_ l _,λ_=>#[List.Pairwise.nil,λ_ hm=>(nomatch hm)]],h2,h3,h4]
section
variable{prog:Ad}{w:Af}{A:Ag}{E:Aa->Ab->Prop}{s:Ab}{K:Frag}
end
end Wq
namespace L2
open PySem PySem.Spec PyProof.Rows
theorem U6:∀{vs:ak} {ns:List Int},IntsAre vs ns->Vals (ns.map V.int) vs
 |_,_,.nil=>.nil
 |_,_,.cons n t h=>.cons #[t,Z] (U6 h)
end L2
namespace L2
open PySem PySem.Spec PyProof.Rows
end L2
namespace L2
open PySem PySem.Spec PyProof.Rows
def ju(s:Stmt)(j:Nat):Stmt:=match s with
 |.ClassDef _ _ _ body _ _ _ _ _ _ _=>body.getD j (.Pass #[0,0,0,0])
 |_=>.Pass #[0,0,0,0]
def jv(s:Stmt):Arguments:=match s with
 |.FunctionDef _ a _ _ _ _ _ _ _ _=>a
 |_=>{ posonlyargs:=[],args:=[],vararg:=none,kwonlyargs:=[],kw_defaults:=[],kwarg:=none,defaults:=[] }
def g9(s:Stmt):List Stmt:=match s with
 |.FunctionDef _ _ b _ _ _ _ _ _ _=>b
 |_=>[]
def aX(s:Stmt):Scope:=match s with
 |.FunctionDef _ _ _ _ _ _ sc _ _ _=>sc
 |_=>{ kind:=.function,names:=[],isGenerator:=false,isCoroutine:=false }
abbrev a9:kq:=λ_ _ _ _ _ _=>False
abbrev E0:XK:=λ_ _ _=>False
theorem oa{X:Cx}:wW a9 X E0:=λ_ _ _ _ _ _ _ h=>h.elim
structure bf (K:af) (x qual:Str) (st:Stmt) (f:Addr) (fd:Ae):Prop where
 ex:∃(oc:Aa) (od:Option Addr) (kV doc pm:Aa) (an:Option Addr) (aP ct:Aa) (jM:Array (Option Aa)),
  fd=PySem.W.fnOf x qual (jv st) (g9 st) (aX st) .none kV doc pm an aP ct/\K.lookup f=some #[oc,od,.func fd,jM]/\PySem.W.codeIn K aP qual=true
 kp:PySem.W.keepIn K (.ref f)=true
section v
theorem bf.ok{x qual:Str}{st:Stmt}{f:Addr}{fd:Ae}{N ps:ae}{k:Nat}{sp:Sp}(F:bf K x qual st f fd)(S:bq N ps (aX st))(len:∀vs H Q E,sp vs H Q E->vs.length=ps.length)
  (fL:∀(aP:Aa) (A:Ag) (outer:List Env) (s:Ab) (H:Hp) (vs:ag) (Q:VK) (E:XK),bc k (A.deeper (envOfC qual (aX st) s.heap.objs.size f aP))->sp vs H Q E->
   ∃t,kW (j2 a9 P w K mg base N qual (aX st) f aP A outer s H E).Al (g9 st) t/\t { nx:=λ_ H'=>Q .non H',rt:=Q } (start N vs) H):!aj a9 (k+1) f fd ps sp:=by
 let#[oc,od,kV,doc,pm,an,aP,ct,jM,rfl,lk,gQ]:=F.ex;apply RO lk gQ S len λA outer s H vs Q E hr kA=>?_;let#[t,h,q]:=fL aP A outer s H vs Q E hr kA;exact#[t,h.Al,q]
theorem bf.bF{x qual:Str}{st:Stmt}{f:Addr}{fd:Ae}{N ps:ae}{k:Nat}{sp:Sp}(F:bf K x qual st f fd)(S:bq N ps (aX st)) (fL:∀(aP:Aa) (A:Ag) (outer:List Env) (s:Ab) (H:Hp) (vs:ag) (Q:VK) (E:XK),bc k (A.deeper (envOfC qual (aX st) s.heap.objs.size f aP))->sp vs H Q E->
   ∃t,kW (j2 a9 P w K mg base N qual (aX st) f aP A outer s H E).Al (g9 st) t/\t { nx:=λ_ H'=>Q .non H',rt:=Q } (start N vs) H) (len:∀vs H Q E,sp vs H Q E->vs.length=ps.length:=by intro vs H Q E h;first|(cases h;subst_vars;rfl)|(let#[rfl,_]:=h;rfl)|(let#[_,rfl,_]:=h;rfl)|(let#[_,_,rfl,_]:=h;rfl)|(let#[_,_,_,rfl,_]:=h;rfl)|(let#[_,_,_,_,rfl,_]:=h;rfl)|(let#[_,_,_,_,_,_,_,_,_,rfl,_]:=h;rfl)):!aj a9 (k+1) f fd ps sp:=F.ok S len fL
theorem bf.binds{x qual:Str}{st:Stmt}{f:Addr}{fd:Ae}{ps:ae}(F:bf K x qual st f fd)
  (h:∀(kV doc pm:Aa) (an:Option Addr) (aP ct:Aa) (us:ak),us.length=ps.length->bindArgs (PySem.W.fnOf x qual (jv st) (g9 st) (aX st) .none kV doc pm an aP ct) #[us,[]]=pure (ps.zip us)):qj K fd ps []:=by
 let#[oc,od,kV,doc,pm,an,aP,ct,jM,rfl,lk,gQ]:=F.ex;exact .all (h kV doc pm an aP ct)
theorem Nb{x qual:Str}{st:Stmt}{f:Addr}{oc:Aa}{od an:Option Addr}{jM:Array (Option Aa)}{kV doc pm aP ct:Aa}(l:K.lookup f=some #[oc,od,.func (PySem.W.fnOf x qual (jv st) (g9 st) (aX st) .none kV doc pm an aP ct),jM])
  (c:PySem.W.codeIn K aP qual=true) (k:PySem.W.keepIn K (.ref f)=true):bf K x qual st f (PySem.W.fnOf x qual (jv st) (g9 st) (aX st) .none kV doc pm an aP ct):=#[#[oc,od,kV,doc,pm,an,aP,ct,jM,Z,l,c],k]
end
theorem fV{A:Ag}{k:Nat}(hr:bc k A):A.units+1<cLine:=Nat.lt_of_le_of_lt (Nat.add_le_add_left (by decide:1<=64) _) hr.units
section
variable{X:Cx}
theorem pv(i:Nat){x:Str}{pos:Pos}(hN:X.N[i]? = some x:=by rfl)(hv:Qj X.env.scope x:=by first|exact Or.inl Z|exact Or.inr (Or.inl Z)|exact Or.inr (Or.inr Z))(hd:(x == ("__debug__":Str))=false:=by decide)
  (gQ:(x == ("__classdict__":Str))=false:=by decide):PE X (.Name x pos) (qM i):=_x hN hv hd gQ
inductive Vo (xs:ag) (H:Hp) (Q:VK):Prop
 |mk:∀a kvs,xs=[V.ref a]->H a\.dK kvs->Q (.int kvs.length) H->Vo xs H Q
theorem hu_:gn X (.builtin "len") Vo:=by
 intro pins s σ H xs us Q I r h;let#[a,kvs,rfl,ha,q]:=h;let#[u,rfl,ru]:=vals1 r;cases ru;exact ZY I (.inl ha) λt s' I'=>#[.int kvs.length,H,I',#[t,Z],q]
end
theorem aO{A B:Prop}(h:B):if false=true then A else B:=by
 rw[aB gC];exact h
theorem bN{A B:Prop}(h:A):if true=true then A else B:=by
 rw[aH Z];exact h
theorem aL{c A B:Prop}[Decidable c](h1:c->A)(h2:¬c->B):if c then A else B:=by
 by_cases h:c
 ·rw[aH h];exact h1 h
 rw[aB h];exact h2 h
theorem tR{c A B:Prop}[Decidable c](hc:c)(h:B):if (!decide c)=true then A else B:=by
 rw[b_ hc];exact aO h
def aa(H H':Hp):Prop:=∀b o,H b\o->H' b\o
theorem aa.refl(H:Hp):aa H H:=λ_ _ h=>h
theorem aa.trans{H H1 H2:Hp}(a:aa H H1)(b:aa H1 H2):aa H H2:=λc o h=>b c o (a c o h)
theorem aa.free{H H':Hp}(e:aa H H'){l:Addr}(h:H' l=Option.none):H l=Option.none:=by
 cases q:H l with
 |none=>rfl
 |some o=>
  rw[e l o q] at h;cases h
section
variable{κ:Type}[DecidableEq κ]
theorem jX_{kvs:List (κ × V)}{k:κ}{v:V}(h:bI kvs k\v):k∈kvs.map (·.1):=by
 have q:(kvs.any λkv=>decide (kv.1=k))=true:=by
  rw[Gr,h]
  all_goals rfl
 let#[p,hp,e]:=List.any_eq_true.mp q;exact bH.mpr #[p,hp,wZ e]
theorem S6:∀{l:List κ} {k:κ},l.Nodup->¬k∈l->(l++[k]).Nodup
 |[],k,_,_=>by simp
 |a::r,k,h,hk=>by
  let#[h1,h2]:=mL.mp h;show (a::(r++[k])).Nodup;apply mL.mpr #[λm=>?_,S6 h2 λm=>hk (cw.mpr (Or.inr m))];rcases eZ.mp m with q|q
  ·exact h1 q
  exact hk (cw.mpr (Or.inl (List.mem_singleton.mp q).symm))
end
end L2
local macro_rules|`(%[$x,*|$_])=>do return (<-x.getElems.foldrM (λe (a:Lean.Term)=>if e.raw.isNatLit?.isSome then`(L2.eW (L2.pv $e) $a)else`(L2.eW $e $a)) (<-`(L2.ba)))
namespace L2
open PySem PySem.Spec PyProof.Rows
def i8(env:Env):List (Str × NameKind)->List (Str × Addr)->List (Str × Addr)
 |[],cs=>cs
 |(n,k)::r,cs=>i8 env r (if k == .free then (n,(env.cells.lookup n).getD 0)::cs else cs)
theorem P8{env:Env}(f:Str × NameKind->List (Str × Addr)->Sem (ForInStep (List (Str × Addr))))
  (hf:∀n k cs,f (n,k) cs=if (k == .free)=true then (do let a <- cellOf env n;pure (.yield ((n,a)::cs))) else pure (.yield cs)) :
  ∀(names:List (Str × NameKind)) (cs:List (Str × Addr)),(∀x∈names,x.2=.free->∃c,env.cells.lookup x.1\c)->forIn names cs f=(pure (i8 env names cs):Sem _)
 |[],cs,_=>by rw[List.forIn_nil];rfl
 |(n,k)::r,cs,h=>by
  rw[List.forIn_cons,hf];have hr:∀x∈r,x.2=.free->∃c,env.cells.lookup x.1\c:=λx hx=>h x (eL _ hx);unfold i8;by_cases hk:(k == NameKind.free)=true
  ·let#[c,hc]:=h (n,k) d9 ⇑hk;have hc:env.cells.lookup n\c:=hc;rw[aH hk,aH hk];have e:cellOf env n=pure c:=by unfold cellOf;rw[hc]
   rw[e];simp only[pure_bind];rw[P8 f hf r _ hr,hc];rfl
  rw[aB hk,aB hk];simp only[pure_bind];exact P8 f hf r _ hr
theorem V8{scope:Scope}{env:Env}(h:∀x∈scope.names,x.2=.free->∃c,env.cells.lookup x.1\c):closureFor scope env=pure (i8 env scope.names []):=by
 simp only[closureFor];rw[P8 (env:=env) _ (λn k cs=>by by_cases hk:(k == NameKind.free)=true<;>simp[hk]) scope.names [] h]
 simp only[pure_bind]
theorem Vq{env:Env}:∀{names:List (Str × NameKind)} {cs:List (Str × Addr)} {x:Str} {c:Addr},(x,c)∈i8 env names cs->(x,c)∈cs∨((x,NameKind.free)∈names/\c=(env.cells.lookup x).getD 0)
 |[],cs,x,c,h=>.inl h
 |(n,k)::r,cs,x,c,h=>by
  unfold i8 at h;rcases Vq h with h|⟨h,e⟩
  ·by_cases hk:(k == NameKind.free)=true
   ·rw[aH hk] at h;rcases cw.mp h with q|q
    ·cases q;have:k=.free:=⇑hk
     subst this;exact .inr #[d9,Z]
    exact .inl q
   rw[aB hk] at h;exact .inl h
  exact .inr #[eL _ h,e]
theorem O1{env:Env}:∀{names:List (Str × NameKind)} {cs:List (Str × Addr)} {x:Str},(x,NameKind.free)∈names∨(∃c,(x,c)∈cs)->∃c,(x,c)∈i8 env names cs
 |[],cs,x,h=>by
  rcases h with h|h
  ·cases h
  ·exact h
 |(n,k)::r,cs,x,h=>by
  unfold i8;apply O1 ?_;rcases h with h|⟨c,h⟩
  ·rcases cw.mp h with e|h
   ·cases e;exact .inr #[(env.cells.lookup n).getD 0,by rw[aH (by decide)];exact d9]
   exact .inl h
  apply .inr #[c,?_];split
  ·exact eL _ h
  exact h
theorem Qa:∀(names:List (Str × NameKind)) (n:Nat) (acc cl:List (Str × Addr)),cellsFrom n names (acc++cl)=cellsFrom n names acc++cl
 |[],_,_,_=>rfl
 |(x,k)::r,n,acc,cl=>by
  unfold cellsFrom;split
  ·exact Qa r (n+1) ((x,n)::acc) cl
  exact Qa r n acc cl
theorem Qd:∀{names:List (Str × NameKind)} {n:Nat} {acc:List (Str × Addr)} {x:Str} {c:Addr},(x,c)∈cellsFrom n names acc->(x,c)∈acc∨(x,NameKind.cell)∈names
 |[],_,_,_,_,h=>.inl h
 |(y,k)::r,n,acc,x,c,h=>by
  unfold cellsFrom at h;by_cases hk:(k == NameKind.cell)=true
  ·rw[aH hk] at h;rcases Qd h with h|h
   ·rcases cw.mp h with e|h
    ·cases e;have:k=.cell:=⇑hk
     subst this;exact .inr d9
    exact .inl h
   exact .inr (eL _ h)
  rw[aB hk] at h;rcases Qd h with h|h
  ·exact .inl h
  exact .inr (eL _ h)
theorem P_{α:Type}:∀{l:List (Str × α)} {x:Str} {c:α},(x,c)∈l->∃c',l.lookup x\c'
 |(k,v)::r,x,c,h=>by
  rw[uE];cases hb:x == k with
  |true=>exact#[v,Z]
  |false=>
   rcases cw.mp h with e|h
   ·cases e;simp at hb
   exact P_ h
def j4(scope:Scope)(C:Addr)(env:Env):Env:=
 { scope:=relabel scope env,locals:=C,globals:=env.globals,cells:=cellsFrom (C+1) scope.names (i8 env scope.names []),qual:=env.qual,func:=none,code:=env.code,frame:=env.frame,builtins:=env.builtins }
theorem V2{M:Model}{A:Ag}{E:Aa->Ab->Prop}{s:Ab}{scope:Scope}{cl:List (Str × Addr)}{env:Env}{Q:Env->Ab->Prop}
  (h:Q { scope:=scope,locals:=s.heap.objs.size,globals:=env.globals,cells:=cellsFrom (s.heap.objs.size+1) scope.names cl,qual:=env.qual,func:=none,code:=env.code,frame:=env.frame,builtins:=env.builtins }
   { s with heap:=pushCells (s.heap.push { cls:=.type "dict",data:=.dict #[] }) scope.names }) :
  wpAny M A (newFunctionEnv scope env.globals cl [] env.qual none .none (some env)) Q E s:=by
 simp only[newFunctionEnv,Option.isSome_some,if_true];apply aF (wpAny_alloc ?_);apply aF (wpAny_layCells _ (λname kind cells=>by cases hkc:kind == NameKind.cell<;>simp[hkc]) _ _ _ _ ?_)
 rw[show ({ s with heap:=s.heap.push { cls:=.type "dict",data:=.dict #[] } }:Ab).heap.objs.size=s.heap.objs.size+1 from Heap.size_push ..];rw[List.forIn_nil];exact aF (bA (bA h))
def JM(PN:ae)(ps:Scope)(N:ae)(own:Nat)(fr:List Nat)(scope:Scope):Bool:=
 decide (scope.kind=.function)&&decide N.Nodup&&decide (own+fr.length=N.length)
 && (scope.names.all λy=>decide (scope.names.lookup y.1\y.2))
 && (scope.names.all λy=>if y.2=.free then decide (ps.names.lookup y.1\.cell) || decide (ps.names.lookup y.1\.free) else true)
 && ((fr.map λj=>PN[j]?) == (N.drop own).map some)
 && ((N.drop own).all λx=>decide (scope.names.lookup x\.free))
structure mR (PN:ae) (ps:Scope) (N:ae) (own:Nat) (fr:List Nat) (scope:Scope):Prop where
 kind:scope.kind=.function
 nd:N.Nodup
 len:own+fr.length=N.length
 look:∀y∈scope.names,scope.names.lookup y.1\y.2
 par:∀y∈scope.names,y.2=.free->ps.names.lookup y.1\.cell∨ps.names.lookup y.1\.free
 gS:(fr.map λj=>PN[j]?)=(N.drop own).map some
 frk:∀x∈N.drop own,scope.names.lookup x\.free
theorem mR.of{PN:ae}{ps:Scope}{N:ae}{own:Nat}{fr:List Nat}{scope:Scope}(h:JM PN ps N own fr scope=true):mR PN ps N own fr scope:=by
 unfold JM at h;simp only[xn,decide_eq_true_eq,List.all_eq_true,beq_iff_eq] at h;let#[#[#[#[#[#[h1,h2],h3],h4],h5],h6],h7]:=h;apply#[h1,h2,h3,h4,λy hy e=>?_,h6,h7];let q:=h5 y hy;rw[aH e] at q;simpa using q
def BU(own:Nat)(fr:List Nat)(σ:St):St:=List.replicate own none++fr.map λj=>(σ[j]?).join
def g7(X:Cx)(N:ae)(scope:Scope)(fp:ai)(s:Ab)(H:Hp):Cx where
 prog:=X.prog
 w:=X.w
 K:=X.K
 mg:=X.mg
 base:=X.base
 A:=X.A
 N:=N
 cO:=s
 jf:=H
 env:=j4 scope s.heap.objs.size X.env
 outer:=X.stack
 stack:=X.stack
 ex:=fp
 fn:=λx=>decide (scope.names.lookup x\.local) || decide (scope.names.lookup x\.cell)
 calm:=X.calm
 pn:=[]
 xe:=λ_ _=>False
theorem V4{ps:Scope}{env:Env}(he:env.scope=ps){x:Str}:∀{names:List (Str × NameKind)} {k:NameKind},names.lookup x\k->
  (names.map λ(n,k)=>if (k == NameKind.free&&env.scope.kind == .function&&env.kindOf n == some .cell) then (n,NameKind.cell) else (n,k)).lookup x =
   some (if (k == NameKind.free&&env.scope.kind == .function&&env.kindOf x == some .cell) then .cell else k)
 |(n,k')::r,k,h=>by
  rw[uE] at h;rw[fE];cases hb:x == n with
  |true=>
   rw[hb] at h;cases h;have e:x=n:=⇑hb
   subst e;dsimp only;split<;>simp[uE]
  |false=>
   rw[hb] at h;let ih:=V4 he (env:=env) h;dsimp only;split<;>(rw[uE,hb];exact ih)
theorem OV{env:Env}{x:Str}:∀{names:List (Str × NameKind)} {k:NameKind},(names.map λ(n,k)=>if (k == NameKind.free&&env.scope.kind == .function&&env.kindOf n == some .cell) then (n,NameKind.cell) else (n,k)).lookup x\k->∃k',names.lookup x\k'/\(k'=k∨(k'=.free/\k=.cell))
 |(n,k')::r,k,h=>by
  rw[fE] at h;rw[uE];dsimp only at h;cases hb:x == n with
  |true=>
   apply#[k',Z,?_];by_cases hc:(k' == NameKind.free&&env.scope.kind == .function&&env.kindOf n == some .cell)=true
   ·rw[aH hc,uE,hb] at h;cases h;simp only[xn,beq_iff_eq] at hc;exact .inr #[hc.1.1,Z]
   ·rw[aB hc,uE,hb] at h;cases h;exact .inl Z
  |false=>
   have h':(r.map λ(n,k)=>if (k == NameKind.free&&env.scope.kind == .function&&env.kindOf n == some .cell) then (n,NameKind.cell) else (n,k)).lookup x\k:=by
    split at h<;>(rw[uE,hb] at h;exact h)
   exact OV h'
theorem dM_{α:Type}{x:Str}{c:α}:∀{l r:List (Str × α)},(l++r).lookup x\c->(x,c)∈l∨(x,c)∈r:=λh=>eZ.mp (pT h)
section
variable{X:Cx}{pins:List (Addr × Obj)}{σ:St}{H:Hp}{s:Ab}{N:ae}{own:Nat}{fr:List Nat}{scope:Scope}{fp:ai}
theorem U7(I:Inv X pins σ H s)(S:mR X.N X.env.scope N own fr scope){x:Str}{c:Addr}(h:(x,c)∈i8 X.env scope.names []):X.env.cells.lookup x\c/\(x,NameKind.free)∈scope.names:=by
 rcases Vq h with h|⟨h,e⟩
 ·cases h
 let#[c',hc]:=I.ok.has x (S.par _ h Z);apply#[?_,h];rw[e,hc];rfl
theorem Inv.block(I:Inv X pins σ H s)(S:mR X.N X.env.scope N own fr scope)(IR:∀b∈fp,c8 X pins H b)(hfo:∀b∈fp,∃o,s.heap.get? b\o) :
  Inv (g7 X N scope fp s H) [] (BU own fr σ) H { s with heap:=pushCells (s.heap.push { cls:=.type "dict",data:=.dict #[] }) scope.names }:=by
 have kept:∀b o,s.heap.get? b\o->(pushCells (s.heap.push { cls:=.type "dict",data:=.dict #[] }) scope.names).get? b\o:=λb o e=>pushCells_keeps _ _ b o (ck _ e);let JN:=cellsFrom_ok scope.names (s.heap.push { cls:=.type "dict",data:=.dict #[] }) (s.heap.objs.size+1) [] #[λ_ _ hm=>(nomatch hm),List.Pairwise.nil] (by rw[Heap.size_push];exact bj _);rw[Heap.size_push] at JN;have ecs:cellsFrom (s.heap.objs.size+1) scope.names (i8 X.env scope.names [])=cellsFrom (s.heap.objs.size+1) scope.names []++i8 X.env scope.names []:=Qa _ _ [] _
 have gO:∀{x c},(cellsFrom (s.heap.objs.size+1) scope.names (i8 X.env scope.names [])).lookup x\c->((x,c)∈cellsFrom (s.heap.objs.size+1) scope.names []/\(x,NameKind.cell)∈scope.names/\s.heap.objs.size+1<=c)∨(X.env.cells.lookup x\c/\(x,NameKind.free)∈scope.names):=λ{x c} h=>by
  rw[ecs] at h;rcases dM_ h with h|h
  ·apply .inl #[h,?_,(JN.empty _ _ h).2];rcases Qd h with q|q
   ·cases q
   exact q
  exact .inr (U7 I S h)
 have Et:∀{x c},X.env.cells.lookup x\c->c<s.heap.objs.size:=λ{x c} h=>by
  let#[v,hv]:=I.cell x c h;exact hv.lt
 have hb:∀b∈fp,b<s.heap.objs.size:=λb hb=>let #[o,e]:=hfo b hb;cy e
 apply#[#[I.ok.mod,S.kind,I.ok.glob,I.ok.blt,bj _,λx y c h1 h2=>?_,λx hx=>?_,λx c hf h=>?_,I.ok.hd,I.ok.frames,.inl Z,λb yz=>#[eG (hb b yz),λx c h=>?_],I.bs,?_,λb o e yz=>?_,λb yz hs=>?_,I.stack,I.iP],
  rfl,I.bare,Un.kept kept,#[_,(Heap.Ns.new s.heap (.type "dict")).keeps (pushCells_keeps _ _),λi x v h1 h2 h3=>?_],λx c h=>?_,I.aJ.fresh (bj _),λx c h=>?_,λp hp=>absurd (show p∈([]:List (Addr × Obj)) from hp) Z2,I.aJ.kept kept,?_]
 ·-- inj
  rcases gO h1 with⟨m1,k1,l1⟩|⟨m1,k1⟩<;>rcases gO h2 with⟨m2,k2,l2⟩|⟨m2,k2⟩
  ·exact name_of_addr JN.apart m1 m2
  ·exact absurd (Et m2) (Nat.not_lt.mpr (Nat.le_of_succ_le l1))
  ·exact absurd (Et m1) (Nat.not_lt.mpr (Nat.le_of_succ_le l2))
  exact I.ok.inj x y c m1 m2
 ·-- has
  have key:(x,NameKind.cell)∈scope.names∨(x,NameKind.free)∈scope.names:=by
   rcases hx with hx|hx
   ·let#[k',e,q]:=OV (env:=X.env) (show _\NameKind.cell from hx);let m:=pT e;rcases q with q|⟨q,_⟩
    ·exact .inl (q▸m)
    exact .inr (q▸m)
   let#[k',e,q]:=OV (env:=X.env) (show _\NameKind.free from hx);let m:=pT e;rcases q with q|⟨_,q⟩
   ·exact .inr (q▸m)
   cases q
  show ∃c,(cellsFrom (s.heap.objs.size+1) scope.names (i8 X.env scope.names [])).lookup x\c
  have:((cellsFrom (s.heap.objs.size+1) scope.names (i8 X.env scope.names [])).lookup x).isSome=true:=by
   apply PySem.W.cellsFrom_some _ _ _ ?_;rcases key with q|q
   ·exact .inl (S.look _ q)
   let#[c,m]:=O1 (env:=X.env) (names:=scope.names) (cs:=[]) (x:=x) (.inl q);let#[c',e]:=P_ m;exact .inr (by rw[e];rfl)
  exact BW.mp this
 ·-- Dh
  rcases gO h with⟨_,_,l⟩|⟨_,k⟩
  ·exact Nat.le_of_succ_le l
  let e:=S.look _ k;have hf:(decide (scope.names.lookup x\.local) || decide (scope.names.lookup x\.cell))=true:=hf;rw[show scope.names.lookup x\.free from e] at hf;exact absurd hf (by decide)
 ·rcases gO h with⟨_,_,l⟩|⟨q,_⟩
  ·exact vD (jb (hb b yz) (Nat.le_of_succ_le l))
  exact (IR b yz).2.2.2.2.1 x c q
 ·exact pX I.ok.uz I.sz
 ·rcases (IR b yz).2.2.2.1 with q|q
  ·exact I.ok.tJ b o e q
  exact absurd (jb (cy e) I.ok.uz) Z1
 ·rcases cw.mp (I.iO b hs) with q|q
  ·exact (IR b yz).2.1 q
  exact (IR b yz).2.2.1 q
 ·-- names
  have hi:own<=i:=by
   apply Nat.le_of_not_lt λdz=>?_;unfold BU at h2;rw[zj (by rw[Dz];exact dz),List.getElem?_replicate,aH dz] at h2;cases h2
  have js:(fr.map λj=>(σ[j]?).join)[i - own]? = some (some v):=by
   unfold BU at h2;rw[xp (by rw[Dz];exact hi),Dz] at h2;exact h2
  have h1:N[i]? = some x:=h1;have hx:(N.drop own)[i - own]? = some x:=by rw[List.getElem?_drop,show own+(i - own)=i by omega];exact h1
  rw[cY] at js;cases ej:fr[i - own]? with
  |none=>rw[ej] at js;cases js
  |some j=>
   rw[ej] at js;have js:(σ[j]?).join\v:=eF js
   have pJ:σ[j]? = some (some v):=by
    cases q:σ[j]? with
    |none=>rw[q] at js;cases js
    |some o=>rw[q] at js;exact dX some js
   have hN:X.N[j]? = some x:=by
    let q:=dX (λl=>l[i - own]?) S.gS;simp only[cY,ej,hx,Option.map_some] at q;exact eF q
   let kf:=S.frk x (dC hx);let mf:=pT kf;let#[m,hm,hv]:=I.loc;let pk:=S.par _ mf Z;let#[u,ru,lk]:=hv j x v hN pJ (pk.elim (λq=>.inr (.inl q)) λq=>.inr (.inr q));apply#[u,ru,?_];have Rm:X.env.kindOf x\.cell∨X.env.kindOf x\.free:=pk;rcases lk with⟨k,_⟩|⟨_,c,hc,oB⟩
   ·rw[k] at Rm;rcases Rm with q|q<;>cases q
   let#[c',m1]:=O1 (env:=X.env) (names:=scope.names) (cs:=[]) (x:=x) (.inl mf);let e1:=(U7 I S m1).1;rw[hc] at e1;cases e1;apply .inr #[?_,c,?_,oB.keeps kept]
   ·let q:=V4 (env:=X.env) Z kf;show (relabel scope X.env).names.lookup x\.cell∨(relabel scope X.env).names.lookup x\.free;unfold relabel;rw[q];split
    ·exact .inl Z
    exact .inr Z
   let#[c2,e2]:=BW.mp (PySem.W.cellsFrom_some (x:=x) scope.names (s.heap.objs.size+1) (i8 X.env scope.names []) (.inr (by let#[c',e]:=P_ m1;rw[e];rfl)));show (cellsFrom (s.heap.objs.size+1) scope.names (i8 X.env scope.names [])).lookup x\c;rcases gO e2 with⟨_,q,_⟩|⟨q,_⟩
   ·have:=S.look _ q;rw[show scope.names.lookup x\.free from kf] at this;cases this
   rw[hc] at q;cases q;exact e2
 ·-- cells
  rcases gO h with⟨q,_,_⟩|⟨q,_⟩
  ·exact#[_,(JN.empty _ _ q).1]
  let#[v,hv]:=I.cell x c q;exact#[v,hv.keeps kept]
 ·rcases gO h with⟨q,_,l⟩|⟨q,_⟩
  ·exact I.aJ.fresh Z1
  exact I.d8 x c q
 show (BU own fr σ).length=N.length;unfold BU;rw[dM,Dz,au];exact S.len
end
def Hs(X:Cx)(ifs:List Expr)(t:TT):Prop:=
 ∀(pins:List (Addr × Obj)) (s:Ab) (σ:St) (H:Hp) (Q:Bool->Hp->Prop),Inv X pins σ H s->t σ H Q->
  wpAny (model X.prog X.w) X.A (forIn ifs true λc r=>if r=true then do let ok <- isTrue c X.env (eval c X.env);pure (ForInStep.yield ok) else pure (ForInStep.yield r)) (TP X pins σ Q) X.xe s
def qJ:TT:=λ_ H Q=>Q true H
theorem dD{σ:St}{H:Hp}{A B:Hp->Prop}(h:A H):qJ σ H λb H4=>if b=true then A H4 else B H4:=by
 unfold qJ;exact bN h
theorem gX{X:Cx}:Hs X [] qJ:=λ_ _ _ H _ I h=>wpAny_tests_nil #[H,I,h]
theorem To{X:Cx}{c:Expr}{t:TT}(h:PT X c t):Hs X [c] t:=λpins s σ H Q I q=>wpAny_tests_one (h pins s σ H Q I q)
def wR(J:It)(g:TG)(tc:TT)(te:TE)(iL:St)(D:Addr)(H1:Hp)(Q:VK):Prop:=∃W:Nat->Nat->St->Hp->Prop,
 (∃m,W 0 m iL (upd H1 D (.lst [])))/\∀i m bu H',W i m bu H'->(J.stop i H'/\Q (.ref D) H') ∨
  (J.go i H'/\∃Nx:St->Hp->Prop,(∀gF H2,Nx gF H2->∃m',m'<m/\W (i+1) m' gF H2) /\
   ∀x H2,J.xv i H' x H2->g x bu H2 λku H3=>tc ku H3 λb H4=>if b=true then te ku H4 λy H5=>∃out,H5 D\.lst out/\out.length<sizeLine/\Nx ku (upd H5 D (.lst (out++[y]))) else Nx ku H4)
def xJ(wi:TI)(own:Nat)(fr:List Nat)(g:TG)(tc:TT)(te:TE):TE:=λσ H Q=>wi σ H λJ H1=>∀D,H1 D=none->wR J g tc te (BU own fr σ) D H1 Q
section
variable{X:Cx}{tg iter elt:Expr}{ifs:List Expr}{scope:Scope}{pos:Pos}{wi:TI}{g:TG}{tc:TT}{te:TE}{N:ae}
theorem Tt{R:Result->Ab->Prop}{own:Nat}{fr:List Nat}{pins:List (Addr × Obj)}{σ:St}{H1:Hp}{s2:Ab}{it:Addr}{fp:ai}{tn:Nat->Heap->Prop}{J:It}{D:Addr}{Q:VK}
  (S:mR X.N X.env.scope N own fr scope) (hc:X.calm=true) (hg:∀fp s H,PG (g7 X N scope fp s H) tg g) (ht:∀fp s H,Hs (g7 X N scope fp s H) ifs tc) (he:∀fp s H,PE (g7 X N scope fp s H) elt te)
  (I3:Inv X pins σ (upd H1 D (.lst [])) s2) (T:Turn X.prog X.w X.K tg J fp it tn) (st:tn 0 s2.heap) (f2:∀b∈fp,c8 X pins (upd H1 D (.lst [])) b)
  (k:wR J g tc te (BU own fr σ) D H1 Q)
  (hR:∀H' s',Inv X pins σ H' s'->(∃m,s'.heap.Ns s2.heap.objs.size m)->H' s2.heap.objs.size=none->Q (.ref D) H'->R (.ok .next) s') :
  codeAny (model X.prog X.w) X.A (.compStart (.ListComp elt [#[tg,iter,ifs,0]] scope pos) 0 (.ref it) (.ref D) (j4 scope s2.heap.objs.size X.env)) R
   { s2 with heap:=pushCells (s2.heap.push { cls:=.type "dict",data:=.dict #[] }) scope.names }:=by
 let#[W,#[m0,w0],turn]:=k;let I4:=I3.block (N:=N) S f2 (λb hb=>let #[o,e,_]:=T.obj _ _ st b hb;#[o,e]);have kept:∀b o,s2.heap.get? b\o->(pushCells (s2.heap.push { cls:=.type "dict",data:=.dict #[] }) scope.names).get? b\o:=λb o e=>pushCells_keeps _ _ b o (ck _ e);have dS:tn 0 (pushCells (s2.heap.push { cls:=.type "dict",data:=.dict #[] }) scope.names):=T.keep _ _ _ st λb hb o e=>kept b o e
 have fx:∀{H':Hp},(∀b∈fp,H' b=none)->∀b∈fp,c8 (g7 X N scope fp s2 (upd H1 D (.lst []))) [] H' b:=λhn b hb=>
  #[hn b hb,(I4.ok.Jh b hb).1,I4.ok.uh b hb,.inl hb,(I4.ok.Jh b hb).2,λp hp=>absurd (show p∈([]:List (Addr × Obj)) from hp) Z2]
 have loop:codeAny (model X.prog X.w) X.A (.compLoop (.ListComp elt [#[tg,iter,ifs,0]] scope pos) 0 (.ref it) (.ref D) (j4 scope s2.heap.objs.size X.env)) R
   { s2 with heap:=pushCells (s2.heap.push { cls:=.type "dict",data:=.dict #[] }) scope.names }:=by
  apply codeAny_loop Z (λn s'=>∃i bu H',Inv (g7 X N scope fp s2 (upd H1 D (.lst []))) [] bu H' s'/\tn i s'.heap/\(∀b∈fp,H' b=none)/\W i n bu H') (λn s' hI=>?_) m0 #[0,_,_,I4,dS,λb hb=>(f2 b hb).1,w0];let#[i,bu,H',I5,gx,oH,w5]:=hI;show wpAny _ X.A ((compTurn (.ListComp elt [#[tg,iter,ifs,0]] scope pos) 0 (.ref it) (.ref D) (j4 scope s2.heap.objs.size X.env)).onRaise (λx=>do noteFrame x (j4 scope s2.heap.objs.size X.env);theTreesLotGoes x)) _ _ s';apply wpAny_noted (wpAny_mono (E:=λ_ _=>False) ?_ (λ_ _ q=>q) λ_ _ q=>q.elim);rw[compTurn_list];apply aF (wpAny_standAt (aF ?_));rcases turn i n bu H' w5 with⟨stop,q⟩|⟨go,Nx,hN,step⟩
  ·apply a_ (T.done (g7 X N scope fp s2 (upd H1 D (.lst []))) Z Z Z hc i [] s' bu H' _ I5 (fx oH) gx stop) λr s6 ⟨hr,I6⟩=>?_;subst hr;apply bA (hR H' s6 (I3.yS I6.os I6.base I6.aJ I6.bare λb hb=>?_) ?_ I6.free q)
   ·exact#[(f2 b hb).2.2.2.1,(f2 b hb).2.1,(f2 b hb).2.2.2.2.1,(f2 b hb).2.2.2.2.2]
   let#[m,hm,_]:=I6.loc;exact#[m,hm]
  apply a_ (T.item (g7 X N scope fp s2 (upd H1 D (.lst []))) Z Z Z hc i [] s' bu H' _ I5 (fx oH) gx go) λr s6 ⟨u,hr,h6⟩=>?_;subst hr;apply aF (a_ h6 λ_ s7 ⟨x,H7,I7,r7,y7,k7,fr7⟩=>?_);let I7':=I7.pinned (fx fr7) (T.obj _ _ k7)
  have back:∀{uN:St} {H8:Hp} {s8:Ab},Inv (g7 X N scope fp s2 (upd H1 D (.lst []))) ([]++wX fp s7.heap) uN H8 s8->Nx uN H8->∃m,m<n/\∃i bu H',Inv (g7 X N scope fp s2 (upd H1 D (.lst []))) [] bu H' s8/\tn i s8.heap/\(∀b∈fp,H' b=none)/\W i m bu H':=λ{uN H8 s8} I8 n8=>by
   let#[m',hm,w8]:=hN uN H8 n8;apply#[m',hm,i+1,uN,H8,I8.eO,T.keep _ _ _ k7 λb hb o e=>(I8.pin (b,o) (mP _ (mP _ (Kd hb e)))).1,λb hb=>?_,w8];let#[o,e,d]:=T.obj _ _ k7 b hb;exact (I8.pin (b,o) (mP _ (mP _ (Kd hb e)))).2.1
  apply aF (a_ (hg fp s2 (upd H1 D (.lst [])) _ s7 bu H7 x u _ I7' r7 (step x H7 y7)) λ_ s8 ⟨uN,H8,I8,q8⟩=>?_);apply aF (a_ (ht fp s2 (upd H1 D (.lst [])) _ s8 uN H8 _ I8 q8) λb s9 ⟨H9,I9,q9⟩=>?_);cases b with
  |false=>
   simp only[zf,if_false] at q9 ⊢;exact bA #[Z,back I9 q9]
  |true=>
   simp only[if_true] at q9 ⊢;apply aF (aF (a_ (he fp s2 (upd H1 D (.lst [])) _ s9 uN H9 _ I9 q9) λy xR ⟨yv,DF,I10,YK,out,hD,hz,YR⟩=>?_));apply aF (a_ (vz (X:=g7 X N scope fp s2 (upd H1 D (.lst []))) _ xR uN DF (.ref D) [yv] (.ref D) [y] (λ_ H'=>Nx uN H') I10 Z (.cons YK .nil) #[D,out,yv,Z,Z,hD,hz,YR]) λ_ Ca ⟨_,H11,I11,_,YQ⟩=>?_);exact bA (bA #[Z,back I11 YQ])
 exact codeAny_compStart_list loop (T.self _ 0 _ _ _ dS loop)
theorem jy(N:ae)(own:Nat)(fr:List Nat)(hi:PI X tg iter wi)(hg:∀fp s H,PG (g7 X N scope fp s H) tg g)(ht:∀fp s H,Hs (g7 X N scope fp s H) ifs tc)(he:∀fp s H,PE (g7 X N scope fp s H) elt te)
  (S:JM X.N X.env.scope N own fr scope=true:=by kernel_rfl) (hc:X.calm=true:=by rfl) (hs:∀x,foldedSetIterable iter X.env x=pure x:=by intro _;rfl) :
  PE X (.ListComp elt [#[tg,iter,ifs,0]] scope pos) (xJ wi own fr g tc te):=by
 intro pins s σ H Q I h;let S':=mR.of S;rw[eval_ListComp];have ud:closureFor scope X.env=pure (i8 X.env scope.names []):=V8 λx hx e=>I.ok.has x.1 (S'.par x hx e);apply wpAny_comprehension_free (use:=none) Z hs ud S'.kind (λx hx e=>by rw[S'.look x hx,e]) (a_ (hi pins s σ H _ I h) λv s1 h1=>a_ h1 λIy s2 h2=>?_);let#[it,fp,tn,J,H1,rfl,I2,T,dE,f2,k]:=h2;apply vo (V2 ?_);have hD:H1 s2.heap.objs.size=none:=I2.fresh;let I3:=I2.Au (ys:=[]) (its:=[]) (t':=s2.toks) .nil (gD _);have kept:∀b o,s2.heap.get? b\o->(s2.heap.push { cls:=.type "list",data:=.seq ([]:ak).toArray }).get? b\o:=λb o e=>ck _ e;apply Tt (own:=own) (fr:=fr) (Q:=Q) S' hc hg ht he I3 T (T.keep _ _ _ dE λb hb o e=>kept b o e) (λb hb=>?_) (k _ hD) ?_
 ·apply#[?_,(f2 b hb).2];let#[o,e,_]:=T.obj _ _ dE b hb;rw[aC (eG (cy e))];exact (f2 b hb).1
 rintro H' s' I' ⟨m,hm⟩ hn q;apply#[m,hm,λh' qe=>#[.ref s2.heap.objs.size,H',?_,Z,q]]
 exact I'.turned (t':=s'.toks) (λb o hb e=>qe.extBut b o hb e) hn (vD I3.lt) (.inr I3.sz) (λx c MT e=>by
  let#[v,hv]:=I3.cell x c MT
  exact absurd hv.lt (by rw[e];exact xq _)) λp hp e=>by
   have:=(I3.pin p hp).1;rw[e] at this;exact absurd (cy this) (xq _)
def D5(i:Nat)(te:TE):TS:=λD σ H=>te σ H λx H1=>D.nx (σ.set i (some x)) H1
theorem BM{i:Nat}{x:Str}{px:Pos}(N:ae)(own:Nat)(fr:List Nat)(hN:X.N.Nodup)(hi':X.N[i]? = some x)(hx:Loc X.env.scope x)
  (hi:PI X tg iter wi) (hg:∀fp s H,PG (g7 X N scope fp s H) tg g) (ht:∀fp s H,Hs (g7 X N scope fp s H) ifs tc) (he:∀fp s H,PE (g7 X N scope fp s H) elt te) {pos':Pos}
  (S:JM X.N X.env.scope N own fr scope=true:=by kernel_rfl) (hc:X.calm=true:=by rfl) (hs:∀x,foldedSetIterable iter X.env x=pure x:=by intro _;rfl)
  (hf:X.fn x=true∨X.env.scope.names.lookup x\.local:=by first|exact .inl Z|exact .inr Z|assumption)
  (hsw:swapsWith (.ListComp elt [#[tg,iter,ifs,0]] scope pos) (some (.Name x px)) pos'.line X.env=pure true:=by rfl) :
  PS X (.Assign [.Name x px] (.ListComp elt [#[tg,iter,ifs,0]] scope pos) pos') (D5 i (xJ wi own fr g tc te)):=by
 intro pins s σ H E I h;let S':=mR.of S;rw[exec_Assign_Name_used _ _ _ _ hsw];apply aF (wpAny_standAt (aF ?_));show wpAny _ X.A (do let _ <- comprehension (.ListComp elt [#[tg,iter,ifs,0]] scope pos) scope X.env _ (newList []) false (eval iter X.env) (some (assign (.Name x px) X.env))) _ _ s;have ud:closureFor scope X.env=pure (i8 X.env scope.names []):=V8 λx hx e=>I.ok.has x.1 (S'.par x hx e)
 apply aF (wpAny_mono (wpAny_comprehension_free (use:=some (assign (.Name x px) X.env)) (Q:=λ_ s'=>SP X pins E .next s') Z hs ud S'.kind (λx hx e=>by rw[S'.look x hx,e]) (a_ (hi pins s σ H _ I h) λv s1 h1=>a_ h1 λIy s2 h2=>?_))
  (λ_ s' hq=>bA (bA hq)) λ_ _ e=>e)
 let#[it,fp,tn,J,H1,rfl,I2,T,dE,f2,k]:=h2;apply vo (V2 ?_);have hD:H1 s2.heap.objs.size=none:=I2.fresh;let I3:=I2.Au (ys:=[]) (its:=[]) (t':=s2.toks) .nil (gD _);have kept:∀b o,s2.heap.get? b\o->(s2.heap.push { cls:=.type "list",data:=.seq ([]:ak).toArray }).get? b\o:=λb o e=>ck _ e;apply Tt (own:=own) (fr:=fr) (Q:=λx H1=>E.nx (σ.set i (some x)) H1) S' hc hg ht he I3 T (T.keep _ _ _ dE λb hb o e=>kept b o e) (λb hb=>?_) (k _ hD) ?_
 ·apply#[?_,(f2 b hb).2];let#[o,e,_]:=T.obj _ _ dE b hb;rw[aC (eG (cy e))];exact (f2 b hb).1
 rintro H' s' I' ⟨m,hm⟩ hn q
 have vn:∀y c,X.env.cells.lookup y\c->c≠(s2.heap.push { cls:=.type "list",data:=.seq ([]:ak).toArray }).objs.size:=λy c MT e=>by
  let#[v,hv]:=I3.cell y c MT;exact absurd hv.lt (by rw[e];exact xq _)
 show wpAny _ X.A (assign (.Name x px) X.env (.ref s2.heap.objs.size)) _ _ s';apply wpAny_assign_Name (U3 (v:=V.ref s2.heap.objs.size) I' hN hi' hx Z (λqb I'' ⟨a,AC,ha⟩=>?_) hf)
 have hCa:(s2.heap.push { cls:=.type "list",data:=.seq ([]:ak).toArray }).objs.size≠a:=by
  rcases ha with e|e
  ·rw[e];exact vD I3.lt
  exact (vn x a e).symm
 apply#[m,hm.sameBut AC hCa,λh' qe=>#[_,H',?_,q]]
 exact I''.turned (t':=qb.toks) (λb o hb e=>qe.extBut b o hb e) hn (vD I3.lt) (.inr I3.sz) vn λp hp e=>by
   have:=(I3.pin p hp).1;rw[e] at this;exact absurd (cy this) (xq _)
end
def zp(g:TG)(own:Nat)(fv:List aI)(dec:V->Hp->List aI->Prop):Prop:=
 ∀(x:V) (o:List aI) (H:Hp) (k:km) (o3:List aI),o.length=own->dec x H o3->k (o3++fv) H->g x (o++fv) H k
theorem dW{fv:List aI}:zp (gz 0) 1 fv (λx _ o3=>o3=[some x]):=λx o H k o3 hl e h=>by
 subst e
 match o,hl with
 |[a],_=>exact h
inductive Gf (K:af) (x:V) (H:Hp) (o3:List aI):Prop
 |mk:∀p u v,x=.ref p->gE K H p [u,v]->o3=[some u,some v]->Gf K x H o3
inductive Ge (K:af) (x:V) (H:Hp) (o3:List aI):Prop
 |mk:∀p u v w,x=.ref p->gE K H p [u,v,w]->o3=[some u,some v,some w]->Ge K x H o3
theorem A2{K:af}{fv:List aI}:zp (i3 K 2 (vm (gz 0) (vm (gz 1) wG))) 2 fv (Gf K):=λx o H k o3 hl e h=>by
 let#[p,u,v,rfl,hp,rfl]:=e
 match o,hl with
 |[a,b],_=>exact#[p,[u,v],Z,hp,Z,u,[v],Z,v,[],Z,Z,h]
theorem M8{K:af}{fv:List aI}:zp (i3 K 3 (vm (gz 0) (vm (gz 1) (vm (gz 2) wG)))) 3 fv (Ge K):=λx o H k o3 hl e h=>by
 let#[p,u,v,w,rfl,hp,rfl]:=e
 match o,hl with
 |[a,b,c],_=>exact#[p,[u,v,w],Z,hp,Z,u,[v,w],Z,v,[w],Z,w,[],Z,Z,h]
theorem De{J:It}{g:TG}{tc:TT}{te:TE}{own:Nat}{fv:List aI}{dec:V->Hp->List aI->Prop}{D:Addr}{H:Hp}{Q:VK}{iL:St}(pJ:iL=List.replicate own none++fv)(G:zp g own fv dec)(n:Nat)(Pv:Nat->ag->Hp->Prop)
  (h0:Pv 0 [] (upd H D (.lst []))) (Ff:∀out H',Pv n out H'->J.stop n H'/\Q (.ref D) H')
  (wz:∀i out H',i<n->Pv i out H'->J.go i H'/\∀x H2,J.xv i H' x H2->∃o3,dec x H2 o3/\o3.length=own/\∀Nx:Hp->Prop,(∀gL H2,Pv (i+1) gL H2->Nx H2)->
   tc (o3++fv) H2 λb H4=>if b=true then te (o3++fv) H4 λy H5=>∃dF,H5 D\.lst dF/\dF.length<sizeLine/\Nx (upd H5 D (.lst (dF++[y]))) else Nx H4) :
  wR J g tc te iL D H Q:=by
 subst pJ;apply#[λi m bu H'=>m=n - i/\i<=n/\(∃o:List aI,bu=o++fv/\o.length=own)/\∃out,Pv i out H',#[n,by simp,gD _,#[_,Z,Dz],_,h0],?_];rintro i m bu H' ⟨rfl,hi,⟨o,rfl,ho⟩,out,p⟩;by_cases dz:i<n
 ·let#[go,k]:=wz i out H' dz p;apply .inr #[go,λgF H2=>(∃o:List aI,gF=o++fv/\o.length=own)/\∃out,Pv (i+1) out H2,λgF H2 q=>#[n - (i+1),by omega,Z,dz,q],λx H2 y=>?_];let#[o3,d,l3,q]:=k x H2 y;exact G x o H2 _ o3 ho d (q (λH2=>(∃o:List aI,o3++fv=o++fv/\o.length=own)/\∃out,Pv (i+1) out H2) λgL H2 z=>#[#[o3,Z,l3],gL,z])
 have e:i=n:=by omega
 subst e;exact .inl (Ff out H' p)
theorem jz{K:af}{a:Addr}{xs:ag}{g:TG}{tc:TT}{te:TE}{own:Nat}{fv:List aI}{dec:V->Hp->List aI->Prop}{D:Addr}{H:Hp}{Q:VK}{iL:St}(pJ:iL=List.replicate own none++fv)(G:zp g own fv dec)(Pv:Nat->ag->Hp->Prop)
  (h0:Pv 0 [] (upd H D (.lst []))) (hl:∀i out H',i<=xs.length->Pv i out H'->dJ K H' a xs) (hd:∀out H',Pv xs.length out H'->Q (.ref D) H')
  (wz:∀i x out H',xs[i]? = some x->Pv i out H'->∃o3,dec x H' o3/\o3.length=own/\∀Nx:Hp->Prop,(∀gL H2,Pv (i+1) gL H2->Nx H2)->
   tc (o3++fv) H' λb H4=>if b=true then te (o3++fv) H4 λy H5=>∃dF,H5 D\.lst dF/\dF.length<sizeLine/\Nx (upd H5 D (.lst (dF++[y]))) else Nx H4) :
  wR (zo K a) g tc te iL D H Q:=by
 apply De pJ G xs.length Pv h0 (λout H' p=>#[#[xs,hl _ _ _ (bj _) p,bj _],hd out H' p]) λi out H' hi p=>?_;let q:=hl i out H' (Nat.le_of_lt hi) p;apply#[#[xs,xs[i],q,by simp[hi]],λx H2 y=>?_];let#[e,y]:=y;subst e;exact wz i x out _ (y xs q) p
end L2
namespace kX
open PySem PySem.W PyProof.Rows
def Ok{α:Type}(f:Nat->Nat->Bool)(n:Nat):KasT α->(α->Prop)->Prop
 |.ret a,Q=>Q a
 |.ask i j k,Q=>i<n/\j<n/\Ok f n (k (f i j)) Q
theorem Ok.bind{α β:Type}{f:Nat->Nat->Bool}{n:Nat}{g:α->KasT β}{Q:β->Prop}:∀{t:KasT α} {R:α->Prop},Ok f n t R->(∀a,R a->Ok f n (g a) Q)->Ok f n (t.bind g) Q
 |.ret a,R,h,k=>k a h
 |.ask i j t,R,h,k=>#[h.1,h.2.1,Ok.bind h.2.2 k]
theorem Ok.imp{α:Type}{f:Nat->Nat->Bool}{n:Nat}{Q R:α->Prop}(k:∀a,Q a->R a):∀{t:KasT α},Ok f n t Q->Ok f n t R
 |.ret a,h=>k a h
 |.ask i j t,h=>#[h.1,h.2.1,Ok.imp k h.2.2]
theorem Ok.wp{α:Type}{f:Nat->Nat->Bool}{n:Nat}{cmp:Nat->Nat->(Bool->Ab->Prop)->Ab->Prop}{s:Ab}(hc:∀i j C,i<n->j<n->C (f i j) s->cmp i j C s){Q:α->Prop}{G:α->Ab->Prop}(k:∀a,Q a->G a s) :
  ∀{t:KasT α},Ok f n t Q->t.kasWp cmp G s
 |.ret a,h=>k a h
 |.ask i j t,h=>hc i j _ h.1 h.2.1 (Ok.wp hc k h.2.2)
structure Ord (f:Nat->Nat->Bool):Prop where
 fA:∀i,f i i=false
 trans:∀{i j k},f j i=false->f k j=false->f k i=false
 HK:∀{i j},f i j=true->f j i=false
section
variable{f:Nat->Nat->Bool}(O:Ord f){N:Nat}
abbrev at'(p:Array Nat)(i:Nat):Nat:=p.getD i 0
def Up(f:Nat->Nat->Bool)(p:Array Nat)(k:Nat):Prop:=∀i j,i<=j->j<k->f (at' p j) (at' p i)=false
def Down(f:Nat->Nat->Bool)(p:Array Nat)(k:Nat):Prop:=∀i j,i<=j->j<k->f (at' p i) (at' p j)=false
def p6(f:Nat->Nat->Bool)(p:Array Nat)(lo k:Nat):Prop:=∀i,lo<=i->i<k->f (at' p i) (at' p (k - 1))=false/\f (at' p (k - 1)) (at' p i)=false
def Good(N:Nat)(p:Array Nat):Prop:=p.Perm (List.range N).toArray
theorem Good.size{p:Array Nat}(h:Good N p):p.size=N:=by
 have:=h.size_eq;simpa using this
theorem Good.lt{p:Array Nat}(h:Good N p)(hN:0<N)(i:Nat):at' p i<N:=by
 unfold at';by_cases hi:i<p.size
 ·have e:p.getD i 0=p[i]:=by simp[Array.getD,hi]
  rw[e];have m:p[i]∈(List.range N).toArray:=h.mem_iff.mp (Array.getElem_mem hi);simpa using m
 have e:p.getD i 0=0:=by simp[Array.getD,hi]
 rw[e];exact hN
theorem Good.rev{p:Array Nat}(h:Good N p)(i j:Nat):Good N (kas_rev p i j):=(mirror_perm _ _ _ _).trans h
theorem Good.bub{p:Array Nat}(h:Good N p)(i j:Nat):Good N (bubble p i j):=(bubble_perm _ _ _).trans h
theorem vp{p q:Array Nat}{i j:Nat}(h:p[i]? = q[j]?):at' p i=at' q j:=by
 unfold at';rw[Array.getD_eq_getD_getElem?,Array.getD_eq_getD_getElem?,h]
theorem Bw{p:Array Nat}{i j:Nat}(hj:j<=p.size)(k:Nat):at' (kas_rev p i j) k=if i<=k/\k<j then at' p (i+j - 1 - k) else at' p k:=by
 let e:=getElem?_mirror_all (i:=i) hj k;unfold kas_rev;split
 ·rename_i c
  rw[aH c] at e;exact vp e
 rename_i c
 rw[aB c] at e;exact vp e
theorem Sb{p:Array Nat}{k l:Nat}(hk:k<p.size)(hl:l<=k)(i:Nat):at' (bubble p k (k - l)) i=if i=l then at' p k else if l<i/\i<=k then at' p (i - 1) else at' p i:=by
 let e:=getElem?_bubble hk (k - l) Z1 i;rw[show k - (k - l)=l by omega] at e;by_cases c:i=l
 ·rw[aH c] at e ⊢;exact vp e
 rw[aB c] at e ⊢;split
 ·rename_i d
  rw[aH d] at e;exact vp e
 rename_i d
 rw[aB d] at e;exact vp e
include O
theorem Up.more{p:Array Nat}{n:Nat}(h:Up f p n)(h1:1<=n)(c:f (at' p n) (at' p (n - 1))=false):Up f p (n+1):=λi j oA hj=>by
 by_cases e:j<n
 ·exact h i j oA e
 have e:j=n:=by omega
 subst e;by_cases e2:i=j
 ·subst e2;exact O.fA _
 exact O.trans (h i (j - 1) Z1 Z1) c
theorem Down.more{p:Array Nat}{n:Nat}(h:Down f p n)(h1:1<=n)(c:f (at' p (n - 1)) (at' p n)=false):Down f p (n+1):=λi j oA hj=>by
 by_cases e:j<n
 ·exact h i j oA e
 have e:j=n:=by omega
 subst e;by_cases e2:i=j
 ·subst e2;exact O.fA _
 exact O.trans c (h i (j - 1) Z1 Z1)
theorem Nf{p:Array Nat}(g:Good N p)(hN:0<N):∀(m n:Nat),1<=n->Up f p n->Ok f N (kas_asc p m n) λr=>n<=r/\r<=n+m/\Up f p r/\(r<n+m->f (at' p r) (at' p (r - 1))=true)
 |0,n,_,h=>#[bj _,bj _,h,λq=>absurd q Z1]
 |m+1,n,h1,h=>by
  apply#[g.lt hN _,g.lt hN _,?_];dsimp only;by_cases c:f (at' p n) (at' p (n - 1))=true
  ·rw[aH c];exact#[bj _,by omega,h,λ_=>c]
  rw[aB c];apply (Nf g hN m (n+1) Z1 (h.more O h1 ⇑c)).imp λr ⟨a,b,u,z⟩=>#[by omega,by omega,u,λq=>z Z1]
theorem p6.rev{p:Array Nat}{lo k:Nat}(h:p6 f p lo k)(hk:k<=p.size)(i:Nat):f (at' (kas_rev p lo k) i) (at' p i)=false/\f (at' p i) (at' (kas_rev p lo k) i)=false:=by
 rw[Bw hk];split
 ·rename_i c
  let#[a1,a2]:=h i c.1 c.2;let#[b1,b2]:=h (lo+k - 1 - i) Z1 Z1;exact#[O.trans a2 b1,O.trans b2 a1]
 exact#[O.fA _,O.fA _]
theorem Down.rev{p:Array Nat}{lo k n:Nat}(h:Down f p n)(l:p6 f p lo k)(hk:k<=p.size):Down f (kas_rev p lo k) n:=λi j oA hj=>by
 let#[a1,_]:=l.rev O hk i;let#[_,b2]:=l.rev O hk j;exact O.trans (O.trans b2 (h i j oA hj)) a1
theorem Jw(hN:0<N):∀(m:Nat) (p:Array Nat) (n q:Nat),Good N p->1<=n->q+1<=n->n+m<=N->Down f p n->p6 f p (n - (q+1)) n->
  Ok f N (kas_desc m p n q) λr=>Good N r.1/\n<=r.2.1/\r.2.1<=n+m/\Down f r.1 r.2.1/\r.2.2+1<=r.2.1/\p6 f r.1 (r.2.1 - (r.2.2+1)) r.2.1
 |0,p,n,q,g,h1,hq,hn,d,l=>#[g,bj _,bj _,d,hq,l]
 |m+1,p,n,q,g,h1,hq,hn,d,l=>by
  apply#[g.lt hN _,g.lt hN _,?_];dsimp only;by_cases c:f (at' p n) (at' p (n - 1))=true
  ·rw[aH c];have d2:Down f p (n+1):=d.more O h1 (O.HK c)
   have one:∀p':Array Nat,p6 f p' (n+1 - (0+1)) (n+1):=λp' i h2 h3=>by
    have e:i=n+1 - 1:=by omega
    subst e;exact#[O.fA _,O.fA _]
   by_cases Ss:q > 0
   ·rw[aH Ss];have hk:n<=p.size:=by rw[g.size];omega
    exact (Jw hN m _ (n+1) 0 (g.rev _ _) Z1 Z1 Z1 (d2.rev O l hk) (one _)).imp λr ⟨a,b,b2,z⟩=>#[a,by omega,by omega,z]
   rw[aB Ss];exact (Jw hN m _ (n+1) 0 g Z1 Z1 Z1 d2 (one _)).imp λr ⟨a,b,b2,z⟩=>#[a,by omega,by omega,z]
  rw[aB c];apply#[g.lt hN _,g.lt hN _,?_];dsimp only;have c:f (at' p n) (at' p (n - 1))=false:=⇑c
  by_cases e:f (at' p (n - 1)) (at' p n)=true
  ·rw[aH e];exact#[g,bj _,by show n<=n+(m+1);omega,d,hq,l]
  rw[aB e];have e:f (at' p (n - 1)) (at' p n)=false:=⇑e
  apply (Jw hN m p (n+1) (q+1) g Z1 Z1 Z1 (d.more O h1 e) λi h2 h3=>?_).imp λr ⟨a,b,b2,z⟩=>#[a,by omega,by omega,z];show f (at' p i) (at' p n)=false/\f (at' p n) (at' p i)=false;by_cases ei:i=n
  ·subst ei;exact#[O.fA _,O.fA _]
  let#[a1,a2]:=l i Z1 Z1;exact#[O.trans e a1,O.trans a2 c]
def ND(f:Nat->Nat->Bool)(N cZ:Nat)(r:Nat × Array Nat):Prop:=Good N r.2/\1<=r.1/\r.1<=cZ/\Up f r.2 r.1
theorem Sk(hN:0<N){p:Array Nat}{n cZ:Nat}(g:Good N p)(h1:1<=n)(hn:n<=cZ)(hr:cZ<=N)(d:Down f p n):Ok f N (kas_tail3 n cZ p) (ND f N cZ):=by
 unfold kas_tail3
 have u:Up f (kas_rev p 0 n) n:=λi j oA hj=>by
  rw[Bw (by rw[g.size];omega),Bw (by rw[g.size];omega),aH Z1,aH Z1];exact d _ _ Z1 Z1
 exact (Nf O (g.rev _ _) hN (cZ - n) n h1 u).bind λm ⟨a,b,u,_⟩=>#[g.rev _ _,by show 1<=m;omega,by show m<=cZ;omega,u]
theorem VZ(hN:0<N){p:Array Nat}{n cZ:Nat}(g:Good N p)(hn:n+1<=cZ)(hr:cZ<=N)(d:Down f p (n+1)):Ok f N (kas_descPart n cZ p) (ND f N cZ):=by
 unfold kas_descPart;apply (Jw O hN (cZ - (n+1)) p (n+1) 0 g Z1 Z1 Z1 d λi h2 h3=>?_).bind λr ⟨g',a,b,d',hq,l⟩=>?_
 ·have e:i=n+1 - 1:=by omega
  subst e;exact#[O.fA _,O.fA _]
 split
 ·exact Sk O hN (g'.rev _ _) Z1 Z1 hr (d'.rev O l (by rw[g'.size];omega))
 exact Sk O hN g' Z1 Z1 hr d'
theorem je_(hN:0<N){p:Array Nat}{cZ:Nat}(g:Good N p)(h1:1<=cZ)(hr:cZ<=N):Ok f N (kas_count cZ p) (ND f N cZ):=by
 unfold kas_count;apply (Nf O g hN (cZ - 1) 1 (bj _) λi j oA hj=>?_).bind λn ⟨a,b,u,st⟩=>?_
 ·have e:i=j:=by omega
  subst e;exact O.fA _
 by_cases e:(n == cZ)=true
 ·rw[aH e];exact#[g,a,by show n<=cZ;omega,u]
 rw[aB e];have e:n≠cZ:=⇑e
 let c:=st Z1;by_cases h2:n > 1
 ·rw[aH h2];apply#[g.lt hN _,g.lt hN _,?_];dsimp only;by_cases c2:f (at' p 0) (at' p (n - 1))=true
  ·rw[aH c2];exact#[g,a,by show n<=cZ;omega,u]
  rw[aB c2];have c2:f (at' p 0) (at' p (n - 1))=false:=⇑c2
  apply VZ O hN (g.rev _ _) Z1 hr λi j oA hj=>?_;by_cases ej:j<n
  ·rw[Bw (by rw[g.size];omega),Bw (by rw[g.size];omega),aH Z1,aH Z1];exact u _ _ Z1 Z1
  have ej:j=n:=by omega
  subst ej;by_cases ei:i=j
  ·subst ei;exact O.fA _
  rw[Bw (by rw[g.size];omega),Bw (by rw[g.size];omega),aH Z1,aB Z1];exact O.trans (O.trans (O.HK c) c2) (u 0 _ Z1 Z1)
 rw[aB h2];have e1:n=1:=by omega
 subst e1;apply VZ O hN g Z1 hr λi j oA hj=>?_;by_cases ei:i=j
 ·subst ei;exact O.fA _
 have q1:i=0:=by omega
 have q2:j=1:=by omega
 subst q1;subst q2;exact O.HK c
theorem Oy(hN:0<N){p:Array Nat}{k:Nat}(g:Good N p)(u:Up f p k):∀(m l r:Nat),r - l<=m->l<=r->r<=k->(∀i,i<l->f (at' p k) (at' p i)=false)->(∀i,r<=i->i<k->f (at' p k) (at' p i)=true)->
  Ok f N (kas_place p k m l r) λx=>x<=k/\(∀i,i<x->f (at' p k) (at' p i)=false)/\∀i,x<=i->i<k->f (at' p k) (at' p i)=true
 |0,l,r,hm,hl,hr,h1,h2=>by
  have e:l=r:=by omega
  subst e;exact#[hr,h1,h2]
 |m+1,l,r,hm,hl,hr,h1,h2=>by
  unfold kas_place;by_cases e:l ≥ r
  ·rw[aH e];have e:l=r:=by omega
   subst e;exact#[hr,h1,h2]
  rw[aB e];apply#[g.lt hN _,g.lt hN _,?_];dsimp only;by_cases c:f (at' p k) (at' p ((l+r) / 2))=true
  ·rw[aH c];apply Oy hN g u m l _ Z1 Z1 Z1 h1 λi h3 h4=>?_;by_cases ei:f (at' p k) (at' p i)=true
   ·exact ei
   have ei:f (at' p k) (at' p i)=false:=⇑ei
   have:=O.trans (u _ i h3 h4) ei;rw[c] at this;cases this
  rw[aB c];have c:f (at' p k) (at' p ((l+r) / 2))=false:=⇑c
  exact Oy hN g u m _ r Z1 Z1 hr (λi h3=>O.trans (u i _ Z1 Z1) c) h2
theorem RR(hN:0<N):∀(m:Nat) (p:Array Nat) (k:Nat),Good N p->k+m=N->Up f p k->Ok f N (kas_bin m p k) λr=>Good N r/\Up f r N
 |0,p,k,g,e,u=>by
  have e:k=N:=by omega
  subst e;exact#[g,u]
 |m+1,p,k,g,e,u=>by
  unfold kas_bin;apply (Oy O hN g u k 0 k Z1 Z1 (bj _) (λi h=>absurd h Z1) λi h1 h2=>absurd h2 Z1).bind λl ⟨hl,h1,h2⟩=>?_;have hk:k<p.size:=by rw[g.size];omega
  apply RR hN m _ (k+1) (g.bub _ _) Z1 λi j oA hj=>?_;rw[Sb hk hl,Sb hk hl];by_cases ej:j=l
  ·rw[aH ej];by_cases ei:i=l
   ·rw[aH ei];exact O.fA _
   rw[aB ei,aB Z1];exact h1 i Z1
  rw[aB ej];by_cases UM:l<j/\j<=k
  ·rw[aH UM];by_cases ei:i=l
   ·rw[aH ei];exact O.HK (h2 (j - 1) Z1 Z1)
   rw[aB ei];by_cases UO:l<i/\i<=k
   ·rw[aH UO];exact u _ _ Z1 Z1
   rw[aB UO];exact u _ _ Z1 Z1
  rw[aB UM];rw[aB (show ¬i=l by omega),aB (show ¬(l<i/\i<=k) by omega)];exact u _ _ Z1 Z1
theorem TB(hN:0<N):Ok f N (kas_sort N) λp=>Good N p/\Up f p N:=by
 unfold kas_sort;apply (je_ O hN (p:=(List.range N).toArray) (Array.Perm.refl _) hN (bj _)).bind λr ⟨g,h1,h2,u⟩=>?_;split
 ·rename_i c
  rw[show max r.1 1=r.1 by omega];exact RR O hN _ _ _ g Z1 u
 rename_i c
 have e:r.1=N:=by omega
 exact#[g,e▸u]
end
end kX
namespace kX
open PySem PySem.W PyProof.Rows
section
variable{prog:Ad}{w:Af}{A:Ag}{E:Aa->Ab->Prop}{s:Ab}
def xu(prog:Ad)(w:Af)(A:Ag)(f:Nat->Nat->Bool)(vs:ak)(s:Ab):Prop:=
 ∃κ,(∀Q:SortKind->Ab->Prop,Q κ s->wpAny (model prog w) A (keyKind' vs.toArray) Q (λ_ _=>False) s)/\∀i j C,i<vs.length->j<vs.length->C (f i j) s->kas_ask prog w A κ vs i j C s
def GN(a:Addr)(h h':Heap):Prop:=∀b o,b≠a->h.get? b\o->h'.get? b\o
def mI(p:Array Nat)(vs:ak):ak:=p.toList.map λi=>vs.getD i Value.none
theorem VT(vs:ak):mI (List.range vs.length).toArray vs=vs:=by
 unfold mI;apply List.ext_getElem? ?_;intro i;simp only[cY];by_cases h:i<vs.length
 ·simp[h]
 simp[Nat.le_of_not_lt h]
theorem i1_{a:Addr}{vs:ak}{n:Nat}{f:Nat->Nat->Bool}{P:Fin->Ab->Prop}(O:Ord f)(ho:s.heap.get? a\seqObj "list" vs.toArray n)(bS:vs.length<64)
  (AX:2<=vs.length->∀h',GN a s.heap h'->xu prog w A f vs { s with heap:=h' })
  (h:∀(p:Array Nat) (h':Heap) (e:Nat),Good vs.length p->Up f p vs.length->h'.get? a\seqObj "list" (mI p vs).toArray e->GN a s.heap h'->P (.done (.ret .none)) { s with heap:=h' }) :
  wpAny (model prog w) A (Builtin.«list.sort» #[[.ref a],[]]) P E s:=by
 have haz:a<s.heap.objs.size:=cy ho;obtain⟨e1,Cu⟩:∃e1,(s.heap.update a (Obj.mapSeq λ_=>(#[]:Array Aa))).get? a\seqObj "list" #[] e1:=#[_,get?_update_seq ho (λ_=>#[])]
 have LR:vs.length<=sizeLine:=by
  have:=bZ;omega
 rw[list_sort_plain];apply aF (listItems_at ho Z (aF (listUpdate_at ho Z (aF (seqEpoch_at Cu Z (aF (wpAny_newTuple (aF (wpAny_newList (wpAny_holding ?_) (gD _))) LR)))) ⇑LR (gD _))))
 have keep:∀g:Array Aa->Array Aa,GN a s.heap ((((s.heap.update a (Obj.mapSeq λ_=>(#[]:Array Aa))).push (seqObj "tuple" vs.toArray 0)).push (seqObj "list" #[] 0)).update a (Obj.mapSeq g)):=λg b o hb e=>by
  apply (mF _ _ (Ne.symm hb)).trans (ck _ (ck _ ?_));exact (mF _ _ (Ne.symm hb)).trans e
 have EY:GN a s.heap (((s.heap.update a (Obj.mapSeq λ_=>(#[]:Array Aa))).push (seqObj "tuple" vs.toArray 0)).push (seqObj "list" #[] 0)):=λb o hb e=>
  ck _ (ck _ ((mF _ _ (Ne.symm hb)).trans e))
 have Ct:(((s.heap.update a (Obj.mapSeq λ_=>(#[]:Array Aa))).push (seqObj "tuple" vs.toArray 0)).push (seqObj "list" #[] 0)).get? a\seqObj "list" #[] e1:=ck _ (ck _ Cu);show wpAny (model prog w) A _ P E { s with heap:=((s.heap.update a (Obj.mapSeq λ_=>(#[]:Array Aa))).push (seqObj "tuple" vs.toArray 0)).push (seqObj "list" #[] 0) };dsimp only;by_cases h2:vs.toArray.size<2
 ·rw[aH h2,aH h2];apply aF (bA ?_);rw[StateT.run_pure]
  have wK:((vs.toArray.zip vs.toArray).map λx:Keyed=>x.2)=(mI (List.range vs.length).toArray vs).toArray:=by
   rw[VT];apply Array.ext' ?_;simp[List.map_snd_zip]
  apply aF (bA (aF (seqEpoch_at Ct Z (aF (listUpdate_at Ct Z ?_ (gD _) ?_)))))
  ·simp only[bne_self_eq_false,zf,if_false];apply bA (h (List.range vs.length).toArray _ _ (Array.Perm.refl _) (λi j oA hj=>?_) ((get?_update_seq Ct _).trans (dX (λz=>some (seqObj "list" z _)) wK)) (keep _))
   have e:i=j:=by
    simp only[cK] at h2;omega
   subst e;exact O.fA _
  have e:((vs.toArray.zip vs.toArray).map λx:Keyed=>x.2).size<=sizeLine+1:=by
   simp only[Array.size_map,Array.size_zip,cK];omega
  exact e
 rw[aB h2,aB h2]
 have js:2<=vs.length:=by
  simp only[cK] at h2;omega
 let#[κ,hk,hc]:=AX js _ EY;apply aF (wpAny_mono (hk (λk s'=>k=κ/\s'=_) #[Z,Z]) (λk s' FF=>?_) λ_ _ x=>x.elim);let#[rfl,rfl]:=FF
 apply aF (wpAny_mono (kat_run (ks:=vs) (vs:=vs) (G:=λp s'=>s'={ s with heap:=((s.heap.update a (Obj.mapSeq λ_=>(#[]:Array Aa))).push (seqObj "tuple" vs.toArray 0)).push (seqObj "list" #[] 0) }/\Good vs.length p/\Up f p vs.length)
  (Q:=λeV s'=>∃p:Array Nat,arrOf eV=p.map (kas_item (vs.toArray.zip vs.toArray))/\failedOf eV=none/\s'={ s with heap:=((s.heap.update a (Obj.mapSeq λ_=>(#[]:Array Aa))).push (seqObj "tuple" vs.toArray 0)).push (seqObj "list" #[] 0) }/\Good vs.length p/\Up f p vs.length)
  rfl js bS (λp eV s' _ q1 q2 q3=>#[p,q1,q2,q3]) (Ok.wp hc (λp q=>#[Z,q]) (TB O Z1))) ?_ λ_ _ x=>x)
 rintro⟨⟨⟩,eV⟩ s' ⟨p,MV,hf,qe,g,u⟩;have qe:s'={ s with heap:=((s.heap.update a (Obj.mapSeq λ_=>(#[]:Array Aa))).push (seqObj "tuple" vs.toArray 0)).push (seqObj "list" #[] 0) }:=qe;subst qe
 have wK:((arrOf eV).map λx:Keyed=>x.2)=(mI p vs).toArray:=by
  rw[MV];apply Array.ext' ?_;unfold mI;simp only[Array.map_map,Array.toList_map,List.toList_toArray];apply uF λi _=>?_;show (kas_item (vs.toArray.zip vs.toArray) i).2=_;unfold kas_item;by_cases hi:i<vs.length
  ·simp[Array.getD,hi]
  simp[Array.getD,hi,Nat.le_of_not_lt hi]
 have esz:((arrOf eV).map λx:Keyed=>x.2).size=vs.length:=by
  rw[wK];unfold mI;simp only[cK,au,uG];exact g.size
 apply aF (seqEpoch_at Ct Z (aF (listUpdate_at Ct Z ?_ (gD _) (by rw[esz];omega))));rw[hf];simp only[bne_self_eq_false,zf,if_false];exact bA (h p _ _ g u ((get?_update_seq Ct _).trans (dX (λz=>some (seqObj "list" z _)) wK)) (keep _))
theorem Vr{x:Aa}{f:Nat->Nat->Bool}{Q:Aa->Ab->Prop}(O:Ord f)
  (mz:wpAny (model prog w) A.in1 (collect x) (λvs s1=>vs.length<64/\(2<=vs.length->∀h':Heap,(∀b o,s1.heap.get? b\o->h'.get? b\o)->xu prog w A.in1.in1 f vs { s1 with heap:=h' }) /\
   ∀(p:Array Nat) (h':Heap) (e:Nat),Good vs.length p->Up f p vs.length->h'.get? s1.heap.objs.size\seqObj "list" (mI p vs).toArray e->(∀b o,s1.heap.get? b\o->h'.get? b\o)->Q (.ref s1.heap.objs.size) { s1 with heap:=h' }) E s) :
  wpAny (model prog w) A (call (.builtin "sorted") [x]) Q E s:=by
 apply Calls.call_function_entry kind_sorted plain_sorted entry_sorted (args_sorted1 _) ?_;unfold Builtin.«sorted»;apply aF (m:=checkCount "sorted" 1 1 _) (bA (aF (wpAny_mono mz (λvs s1 q=>?_) λ_ _ z=>z)));let#[bS,AX,hQ]:=q;apply aF (wpAny_newList ?_ (by have:=bZ;omega));have hn:(s1.heap.push (seqObj "list" vs.toArray 0)).get? s1.heap.objs.size\seqObj "list" vs.toArray 0:=eQ _ Z
 have old:∀h',GN s1.heap.objs.size (s1.heap.push (seqObj "list" vs.toArray 0)) h'->∀b o,s1.heap.get? b\o->h'.get? b\o:=λh' k b o e=>
  k b o (eG (cy e)) (ck _ e)
 apply aF (wpAny_holding (wpAny_call_entry slot_list_sort #[_,hn,Z] entry_list_sort (i1_ O hn bS (λh2 h' k=>AX h2 h' (old h' k)) λp h' e g u q k=>#[_,Z,?_]) (args_list_sort _)));exact bA #[_,Z,hQ p h' e g u q (old h' k)]
end
end kX
namespace L2
open PySem PySem.Spec PyProof.Rows PySem.W kX
def jj:Key->Key->Bool
 |.inl i,.inl j=>decide (i<j)
 |.inl _,.inr _=>true
 |.inr _,.inl _=>false
 |.inr x,.inr y=>decide (x.cps.toList<y.cps.toList)
def bM:aD->aD->Bool
 |[],[]=>false
 |[],_::_=>true
 |_::_,[]=>false
 |a::r,b::q=>if a=b then bM r q else jj a b
theorem kH_:∀a:Key,jj a a=false
 |.inl i=>by simp[jj]
 |.inr x=>by simp[jj,List.lt_irrefl]
theorem UA:∀{a b:Key},jj a b=true->jj b a=false
 |.inl i,.inl j,h=>by
  simp only[jj,decide_eq_true_eq,Bz] at *;omega
 |.inl _,.inr _,_=>rfl
 |.inr _,.inl _,h=>by cases h
 |.inr x,.inr y,h=>by
  simp only[jj,decide_eq_true_eq,Bz] at *;exact λq=>List.lt_irrefl _ (List.lt_trans h q)
theorem TN:∀{a b:Key},jj a b=false->jj b a=false->a=b
 |.inl i,.inl j,h,h2=>by
  simp only[jj,Bz] at *;rw[show i=j by omega]
 |.inl _,.inr _,h,_=>by cases h
 |.inr _,.inl _,_,h=>by cases h
 |.inr x,.inr y,h,h2=>by
  simp only[jj,Bz] at *;rw[ext_toList (List.le_antisymm (List.not_lt.mp h2) (List.not_lt.mp h))]
theorem hj_:∀{a b c:Key},jj a b=true->jj b c=true->jj a c=true
 |.inl i,.inl j,.inl k,h,h2=>by
  simp only[jj,decide_eq_true_eq] at *;omega
 |.inl _,.inl _,.inr _,_,_=>rfl
 |.inl _,.inr _,.inr _,_,_=>rfl
 |.inl _,.inr _,.inl _,_,h=>by cases h
 |.inr _,.inl _,_,h,_=>by cases h
 |.inr _,.inr _,.inl _,_,h=>by cases h
 |.inr x,.inr y,.inr z,h,h2=>by
  simp only[jj,decide_eq_true_eq] at *;exact List.lt_trans h h2
theorem Oe:∀a:aD,bM a a=false
 |[]=>rfl
 |a::r=>by
  unfold bM;rw[aH Z];exact Oe r
theorem OY:∀{a b:aD},bM a b=true->bM b a=false
 |[],[],h=>by cases h
 |[],_::_,_=>rfl
 |_::_,[],h=>by cases h
 |a::r,b::q,h=>by
  unfold bM at h ⊢;by_cases e:a=b
  ·rw[aH e] at h;rw[aH e.symm];exact OY h
  rw[aB e] at h;rw[aB (Ne.symm e)];exact UA h
theorem Ox:∀{a b:aD},bM a b=false->bM b a=false->a=b
 |[],[],_,_=>rfl
 |[],_::_,h,_=>by cases h
 |_::_,[],_,h=>by cases h
 |a::r,b::q,h,h2=>by
  unfold bM at h h2;by_cases e:a=b
  ·rw[aH e] at h;rw[aH e.symm] at h2;rw[e,Ox h h2]
  rw[aB e] at h;rw[aB (Ne.symm e)] at h2;exact absurd (TN h h2) e
theorem V3:∀{a b c:aD},bM a b=true->bM b c=true->bM a c=true
 |[],_,[],h,h2=>by
  rename_i b
  cases b with
  |nil=>cases h
  |cons _ _=>cases h2
 |[],_,_::_,_,_=>rfl
 |_::_,[],_,h,_=>by cases h
 |_::_,_::_,[],_,h=>by cases h
 |a::r,b::q,c::t,h,h2=>by
  unfold bM at h h2 ⊢;by_cases e:a=b
  ·subst e;rw[aH Z] at h;by_cases e2:a=c
   ·rw[aH e2] at h2 ⊢;exact V3 h h2
   rw[aB e2] at h2 ⊢;exact h2
  rw[aB e] at h;by_cases e2:b=c
  ·subst e2;rw[aB e];exact h
  rw[aB e2] at h2;let h3:=hj_ h h2;rw[aB (λq=>by rw[q,kH_] at h3;cases h3)];exact h3
theorem Vh{a b c:aD}(h:bM b a=false)(h2:bM c b=false):bM c a=false:=by
 cases e:bM c a with
 |false=>rfl
 |true=>
  by_cases e1:bM a b=true
  ·have:=V3 e e1;rw[h2] at this;cases this
  have e1:bM a b=false:=⇑e1
  have:=Ox e1 h;subst this;rw[h2] at e;cases e
def DG(ks:List aD):Prop:=ks.Pairwise λa b=>bM b a=false
theorem Vk:∀{a b:List aD},a.Perm b->DG a->DG b->a=b
 |[],b,p,_,_=>by
  have:=p.length_eq;cases b with
  |nil=>rfl
  |cons _ _=>cases this
 |x::r,[],p,_,_=>by
  have:=p.length_eq;cases this
 |x::r,y::q,p,h1,h2=>by
  let#[a1,a2]:=List.pairwise_cons.mp h1;let#[b1,b2]:=List.pairwise_cons.mp h2
  have e:x=y:=by
   rcases cw.mp (p.mem_iff.mp d9) with m|m
   ·exact m
   rcases cw.mp (p.mem_iff.mpr d9) with m2|m2
   ·exact m2.symm
   exact Ox (b1 _ m) (a1 _ m2)
  subst e;rw[Vk ((List.perm_cons _).mp p) a2 b2]
def aY(ks:List aD):List aD:=ks.mergeSort λa b=>!bM b a
theorem kP(ks:List aD):(aY ks).Perm ks:=List.mergeSort_perm _ _
theorem g0_(ks:List aD):DG (aY ks):=by
 have:=List.pairwise_mergeSort (le:=λa b=>!bM b a) (λa b c h1 h2=>by
  simp only[Bool.not_eq_true'] at *;exact Vh h1 h2) (λa b=>by
  simp only[Bool.or_eq_true,Bool.not_eq_true'];by_cases e:bM b a=true
  ·exact .inr (OY e)
  exact .inl ⇑e) ks
 exact this.imp λh=>by simpa using h
theorem Pp{ks tN:List aD}(p:tN.Perm ks)(h:DG tN):tN=aY ks:=Vk (p.trans (kP ks).symm) h (g0_ ks)
theorem Hh{α:Type}{p:Array Nat}{n:Nat}(g:Good n p)(F:Nat->α):(p.toList.map F).Perm ((List.range n).map F):=by
 have e:p.toList.Perm (List.range n):=by
  have:=Array.perm_iff_toList_perm.mp g;simpa using this
 exact e.map F
theorem NS{p:Array Nat}{ks:List aD}{f:Nat->Nat->Bool}(hf:∀i j,i<ks.length->j<ks.length->f i j=bM (ks.getD i []) (ks.getD j []))(g:Good ks.length p)(u:Up f p ks.length):DG (p.toList.map λi=>ks.getD i []):=by
 unfold DG;rw[pZ,List.pairwise_iff_getElem];intro i j hi hj oA;let hs:=g.size;rw[uG] at hi hj;have hj':j<ks.length:=by omega
 let q:=u i j (Nat.le_of_lt oA) hj';have hN:0<ks.length:=by omega
 rw[hf _ _ (g.lt hN _) (g.lt hN _)] at q;have e1:at' p i=p.toList[i]:=by simp[at',Array.getD,hi]
 have e2:at' p j=p.toList[j]:=by simp[at',Array.getD,hj]
 rw[e1,e2] at q;exact q
theorem ON(ks:List aD):Ord λi j=>bM (ks.getD i []) (ks.getD j []):=#[λ_=>Oe _,λh h2=>Vh h h2,λh=>OY h]
theorem Hq{α:Type}(d:α)(l:List α):((List.range l.length).map λi=>l.getD i d)=l:=by
 apply List.ext_getElem? ?_;intro i;simp only[cY];by_cases h:i<l.length
 ·simp[h]
 simp[Nat.le_of_not_lt h]
theorem OB{ys:ag}{vs:ak}(r:Vals ys vs){p:Array Nat}(g:Good vs.length p):Vals (p.toList.map λi=>ys.getD i .non) (mI p vs):=by
 unfold mI
 have key:∀l:List Nat,(∀i∈l,i<vs.length)->Vals (l.map λi=>ys.getD i .non) (l.map λi=>vs.getD i Value.none):=λl=>by
  induction l with
  |nil=>exact λ_=>.nil
  |cons i l ih=>
   intro h;apply .cons ?_ (ih λj hj=>h j (eL _ hj));let hi:=h i d9;have hy:i<ys.length:=by rw[r.length];exact hi
   let#[u,hu,ru]:=r.get (bO hy);have e1:ys.getD i .non=ys[i]:=by simp[hy]
   have e2:vs.getD i Value.none=u:=by simp[hu]
   show RelV (ys.getD i .non) (vs.getD i Value.none);rw[e1,e2];exact ru
 apply key p.toList λi hi=>?_;have m:i∈(List.range vs.length).toArray:=g.mem_iff.mp ⇑hi;simpa using m
theorem SK:∀{ss:ae} {vs:ak},Vals (ss.map V.str) vs->StrsAre vs ss
 |[],_,.nil=>.nil
 |x::r,_,.cons h t=>by
  let#[tk,rfl]:=h;exact .cons x tk (SK t)
def mG(ss:ae):ae:=(aY (ss.map λx=>[Sum.inr x])).map λk=>match k with
 |[.inr x]=>x
 |_=>⟨#[]⟩
def dG(x:Str):aD:=[Sum.inr x]
theorem gn_{prog:Ad}{w:Af}{A:Ag}{s:Ab}{ss:ae}{vs:ak}(r:StrsAre vs ss)(h2:2<=vs.length):xu prog w A (λi j=>bM ((ss.map dG).getD i []) ((ss.map dG).getD j [])) vs s:=by
 apply#[oneType',λQ q=>?_,λi j C hi hj hC=>?_]
 ·match vs,h2 with
  |v₁::Xe::t,_=>
   rw[keyKind_strs r];exact bA q
 unfold kas_ask;rw[keyLt'_oneType]
 have look:∀k,k<vs.length->∃x t,vs.getD k Value.none=.str x t/\(ss.map dG).getD k []=[Sum.inr x]:=λk hk=>by
  let e:=r.strs;let#[x,t,q]:=r.all vs[k] (kQ hk);apply#[x,t,by simp[hk,q],?_]
  have SJ:k<ss.length:=by
   rw[<- e,au];exact hk
  have e2:ss[k]=x:=by
   have e3:(vs.map strOf)[k]? = ss[k]?:=by rw[e]
   rw[cY,bO hk,bO SJ,q] at e3;exact (eF e3).symm
  simp[SJ,e2,dG]
 let#[x,t,e1,e2]:=look i hi;let#[y,u,e3,e4]:=look j hj;rw[e1,e3];dsimp only at hC;rw[e2,e4] at hC;apply oneLt_str ?_;unfold bM at hC;by_cases e:x=y
 ·subst e;rw[aH Z] at hC;have:decide (x.cps.toList<x.cps.toList)=false:=by simp[List.lt_irrefl]
  rw[this];exact hC
 rw[aB (λq=>e (g_ q))] at hC;exact hC
def yf:Key->Bool
 |.inl _=>false
 |.inr _=>true
theorem h8_{prog:Ad}{w:Af}{A:Ag}{E:Aa->Ab->Prop}{s:Ab}{c:Bool}{a b:Key}{p q:Aa}{Q:Bool->Ab->Prop}(ra:RelV (kV a) p)(rb:RelV (kV b) q)(hk:yf a=yf b)(h:Q (jj a b) s) :
  wpAny (model prog w) A (oneLt' c p q) Q E s:=by
 cases a with
 |inl i=>
  cases b with
  |inr y=>cases hk
  |inl j=>
   let#[t,rfl]:=ra;let#[u,rfl]:=rb;cases c with
   |true=>exact oneLt_int h
   |false=>exact kat_one _ _ (lt_int (show PySem.W.BoolBack Q (.bool _) s from h))
 |inr x=>
  cases b with
  |inl j=>cases hk
  |inr y=>
   let#[t,rfl]:=ra;let#[u,rfl]:=rb;cases c with
   |true=>exact oneLt_str h
   |false=>exact kat_one _ _ (PyProof.Rows.lt_str (show PySem.W.BoolBack Q (.bool _) s from h))
theorem Ti{a b:Key}(hk:yf a=yf b):mB (kV a) (kV b)=decide (a=b):=by
 cases a with
 |inl i=>
  cases b with
  |inr y=>cases hk
  |inl j=>
   show (i == j)=_;by_cases e:i=j
   ·subst e;simp
   ·rw[d_ (λq=>e (Sum.inl.inj q))];simpa using e
 |inr x=>
  cases b with
  |inl j=>cases hk
  |inr y=>
   show (x == y)=_;by_cases e:x=y
   ·subst e;simp
   rw[d_ (λq=>e (g_ q))];simpa using e
theorem Uv(a:Key):uq (kV a)=true:=by cases a<;>rfl
theorem Vx{prog:Ad}{w:Af}{A:Ag}{s:Ab}{Q:Bool->Ab->Prop}:∀{k1 k2:aD} {us vs:ak} (i:Nat),Vals (k1.map kV) us->Vals (k2.map kV) vs->k1.map yf=k2.map yf->Q (bM k1 k2) s->KatLex prog w A true false Q (us.zip vs) i s
 |[],[],_,_,i,.nil,.nil,_,h=>h
 |[],_::_,_,_,_,_,_,h,_=>by cases h
 |_::_,[],_,_,_,_,_,h,_=>by cases h
 |a::k1,b::k2,u::us,v::vs,i,.cons ra r1,.cons rb r2,hk,h=>by
  let#[e1,e2]:=List.cons.inj hk;apply kat_cons ?_;apply Gh ra rb (Uv a) (Uv b) prog w _ _ ?_;rw[Ti e1];unfold bM at h;by_cases e:a=b
  ·rw[aH e] at h;rw[b_ e];exact kat_yes (Vx (i+1) r1 r2 e2 h)
  rw[aB e] at h;rw[d_ e];exact kat_no (h8_ ra rb e1 h)
def bD(K:af)(H:Hp):ag->List aD->Prop:=Paired λy k=>∃a,y=V.ref a/\H a\.tup (k.map kV)
def Bg(ks:List aD)(sh:List Bool):Prop:=sh≠[]/\∀k∈ks,k.map yf=sh
theorem VF{X:Cx}{pins:List (Addr × Obj)}{σ:St}{H:Hp}{s s':Ab}{A:Ag}{ys:ag}{ks:List aD}{sh:List Bool}{vs:ak}(I:Inv X pins σ H s)(r:Vals ys vs)(t:bD X.K H ys ks)(al:Bg ks sh)(h2:2<=vs.length)
  (kp:∀b o,s.heap.get? b\o->s'.heap.get? b\o):xu X.prog X.w A (λi j=>bM (ks.getD i []) (ks.getD j [])) vs s':=by
 have look:∀k,k<vs.length->∃a its,vs.getD k Value.none=.ref a/\Vals ((ks.getD k []).map kV) its/\IsTup s'.heap a its.toArray/\ks.getD k []∈ks:=λk hk=>by
  have hy:k<ys.length:=by rw[r.length];exact hk
  have yq:k<ks.length:=by rw[<- bK t];exact hy
  let#[u,hu,ru]:=r.get (bO hy)
  have gen:∀{ys:ag} {ks:List aD} (k:Nat) (hy:k<ys.length) (yq:k<ks.length),bD X.K H ys ks->∃a,ys[k]=V.ref a/\H a\.tup (ks[k].map kV):=λ{ys ks} k hy yq t=>by
   induction t generalizing k with
   |nil=>exact absurd hy Z2
   |cons h t ih=>
    cases k with
    |zero=>exact h
    |succ k=>exact ih k ⇑hy ⇑yq
  let#[a,e,sq]:=gen k hy yq t;let#[its,ri,ti,_]:=I.tuple (gE.of sq);rw[e] at ru;cases ru;have e2:ks.getD k []=ks[k]:=by simp[yq]
  apply#[a,its,by simp[hu],by rw[e2];exact ri,ti.keeps kp,?_];rw[e2];exact kQ yq
 let#[tY,FW]:=al
 obtain⟨c,Ed,rfl⟩:∃c Ed,sh=c::Ed:=by
  cases sh with
  |nil=>exact absurd Z tY
  |cons c Ed=>exact#[c,Ed,Z]
 apply#[tuples' true,λQ q=>?_,λi j C hi hj hC=>?_]
 ·have A8:∀l:ak,(∀v∈l,∃(a:Addr) (its:ak) (k:aD),v=.ref a/\Vals (k.map kV) its/\IsTup s'.heap a its.toArray/\k.map yf=c::Ed)->∃fs,KatTups s'.heap l fs/\fs.length=l.length/\∀v∈fs,Looks (model X.prog X.w) s'.heap (typeOf v) (.type (if c then "str" else "int")):=λl=>by
   induction l with
   |nil=>exact λ_=>#[[],.nil,Z,λ_ h=>nomatch h]
   |cons v l ih=>
    intro h;let#[fs,h1,h2,h3]:=ih λv hv=>h v (eL _ hv);let#[a,its,k,rfl,rv,#[o,ho,hc,n,hd],hk]:=h v d9
    match k,its,rv,hk with
    |k0::k,u::its,.cons r0 _,hk=>
     apply#[u::fs,.cons ho hc hd Z2 h1,by simp[h2],λv hv=>?_];rcases cw.mp hv with e|hv
     ·subst e;let e0:=(List.cons.inj hk).1;cases k0 with
      |inl i=>
       let#[t,rfl]:=r0;rw[<- e0];exact .now
      |inr x=>
       let#[t,rfl]:=r0;rw[<- e0];exact .now
     exact h3 v hv
  let#[fs,h1,h3,h4]:=A8 vs λv hv=>by
   let#[k,hk,rfl]:=mO hv;let#[a,its,e,rv,ti,m]:=look k hk;apply#[a,its,_,?_,rv,ti,FW _ m];rw[<- e];simp[hk]
  apply kat_kind h1 Z1 h4 (by cases c<;>decide) ?_
  have e:((Value.type (if c then "str" else "int")) != Value.type "tuple")=true:=by cases c<;>decide
  rw[e];exact q
 unfold kas_ask;let#[a,its,e1,r1,#[o,ho,_,n,hd],m1]:=look i hi;let#[b,iW,e2,r2,#[o2,AI,_,n2,hd2],m2]:=look j hj;rw[e1,e2];apply kat_lt ho hd AI hd2 ?_;let l1:=r1.length;let l2:=r2.length;let l3:=dX List.length ((FW _ m1).trans (FW _ m2).symm);simp only[au] at l1 l2 l3;rw[show decide (its.toArray.size<iW.toArray.size)=false by simp;omega];exact Vx 0 r1 r2 ((FW _ m1).trans (FW _ m2).symm) hC
end L2
namespace jg
open PySem PySem.W PyProof.Rows
section
variable{prog:Ad}{w:Af}{A:Ag}{E:Aa->Ab->Prop}{s:Ab}
def Raw(h:Heap)(d:Addr)(es:Array DictEntry)(ep:Nat):Prop:=∃o,h.get? d\o/\o.ExactDict/\o.data=.dict es ep
theorem Raw.eA{h h':Heap}{d:Addr}{es:Array DictEntry}{ep:Nat}(x:Raw h d es ep)(k:∀o,h.get? d\o->h'.get? d\o):Raw h' d es ep:=let #[o,e,r]:=x;#[o,k o e,r]
theorem Raw.ty{d:Addr}{es:Array DictEntry}{ep:Nat}(x:Raw s.heap d es ep):s.TypeIs (.ref d) "dict":=let #[o,e,c,_]:=x;#[o,e,c.1]
theorem iQ_{d:Addr}{es:Array DictEntry}{ep:Nat}{Q:Aa->Ab->Prop}(hd:(d == sysModules)=false)(x:Raw s.heap d es ep)
  (q:Q (.ref s.heap.objs.size) { s with heap:=s.heap.push { cls:=.type "dict_keyiterator",data:=.fields (List.toArray [.ref d,.int 0 0,.int es.size 0,.int ep 0]) } }) :
  wpAny (model prog w) A (pyIter (.ref d)) Q E s:=by
 let#[o,ho,hc,wC]:=id x;apply wpAny_pyIter_slot x.ty F.slot_dict_iter (wpAny_call_entry F.slot_dict_iter x.ty F.entry_dict_iter ?_ (F.args_dict_iter_1 _));unfold Builtin.«dict.__iter__» Builtin.Dict.dictSlotNone;apply aF (aF (wpAny_notOrdered_dict x.ty (show wpAny _ _ (pure (Value.ref d)) _ _ s from bA (show wpAny _ _ (Builtin.Dict.showsAll d >>= _) _ _ s from ?_))));unfold Builtin.Dict.showsAll;rw[aB (by rw[hd];decide)];apply aF (bA (aF (wpAny_dictEntries ho wC (aF (wpAny_dictEpoch ho wC (aF (vo (bA #[_,Z,"dict_keyiterator",_,#[_,eQ _ Z,Z],F.slot_dict_keyiterator_next.lookup,?_]))))))));exact q
theorem j8_{it d:Addr}{i ep:Nat}{es:Array DictEntry}{Q:Option Aa->Ab->Prop}(hit:s.heap.IsKeyIter it d i es.size ep)(x:Raw s.heap d es ep)(hi:i<es.size)
  (q:∀h',h'.IsKeyIter it d (i+1) es.size ep->Heap.SameBut it s.heap h'->Q (some es[i].key) { s with heap:=h' }):wpAny (model prog w) A (pyNext (.ref it)) Q E s:=by
 let#[o,ho,hc,hd]:=id hit;let#[od,Fl,gQ,AU]:=id x;unfold pyNext;apply aF (wpAny_attempt (wpAny_callSpecial?_slot (name:=Str.ofString "__next__") hit.typeIs F.slot_dict_keyiterator_next (wpAny_call_entry F.slot_dict_keyiterator_next hit.typeIs F.entry_dict_keyiterator_next ?_ (F.args_dict_keyiterator_next_1 _))));apply aF (bA (aF (aF ?_)))
 first|refine aF (wpAny_typeNameOfWhole_keyiter hit.typeIs (bA (aF (wpAny_fieldsOf ho hd ?_))))|refine aF (wpAny_typeNameOf_keyiter hit.typeIs (bA (aF (wpAny_fieldsOf ho hd ?_))))
 simp only[show Builtin.Dict_items.ownsTuple "dict_keyiterator"=false by decide,zf,if_false];apply (show wpAny _ _ (if (Value.ref d == Value.none)=true then _ else _) _ _ s from ?_);rw[aB (λz=>by cases z)];apply aF (bA (aF (wpAny_dictEntries Fl AU ?_)));rw[aB Z2];apply aF (bA (aF (wpAny_dictEpoch Fl AU ?_)));rw[aB Z2];apply bA ?_;simp only[show ¬((i:Int)<0) from by omega,if_false,mN,Array.getElem?_eq_getElem hi];apply aF ?_
 first|refine aF (wpAny_typeNameOfWhole_keyiter hit.typeIs (bA (aF (wpAny_isOneOf_keyiter hit.typeIs ?_))))|refine aF (wpAny_typeNameOf_keyiter hit.typeIs (bA (aF (wpAny_isOneOf_keyiter hit.typeIs ?_))))
 apply (show wpAny _ _ (setField (.ref it) 1 (rawInt ((i:Int)+1)) >>= _) _ _ s from aF (wpAny_setField ho hd Z2 ?_))
 have turned:(s.heap.update it (Obj.mapFields (·.setIfInBounds 1 (rawInt ((i:Int)+1))))).IsKeyIter it d (i+1) es.size ep:=
  #[_,Heap.get?_update_self _ ho (Obj.isFreed_of_fields (Obj.data_mapFields hd _)),(Obj.cls_mapFields ..).trans hc,by rw[Obj.data_mapFields hd];simp[rawInt]]
 apply aF (wpAny_holding (aF (wpAny_isOneOf_keyiter (s:={ s with heap:=s.heap.update it (Obj.mapFields (·.setIfInBounds 1 (rawInt ((i:Int)+1)))) }) turned.typeIs ?_)));exact (show wpAny _ _ (pure es[i].key) _ _ _ from bA (bA #[_,Z,bA (q _ turned (Heap.SameBut.update ..))]))
theorem j3_{it d:Addr}{ep:Nat}{es:Array DictEntry}{Q:Option Aa->Ab->Prop}(hh:A.handled=none)(hit:s.heap.IsKeyIter it d es.size es.size ep)(x:Raw s.heap d es ep)
  (q:∀h',Heap.ExtBut it s.heap h'->Q none { s with heap:=h' }):wpAny (model prog w) A (pyNext (.ref it)) Q E s:=by
 let#[o,ho,hc,hd]:=id hit;let#[od,Fl,gQ,AU]:=id x;unfold pyNext;apply aF (wpAny_attempt (wpAny_callSpecial?_slot (name:=Str.ofString "__next__") hit.typeIs F.slot_dict_keyiterator_next (wpAny_call_entry F.slot_dict_keyiterator_next hit.typeIs F.entry_dict_keyiterator_next ?_ (F.args_dict_keyiterator_next_1 _))));apply aF (bA (aF (aF ?_)))
 first|refine aF (wpAny_typeNameOfWhole_keyiter hit.typeIs (bA (aF (wpAny_fieldsOf ho hd ?_))))|refine aF (wpAny_typeNameOf_keyiter hit.typeIs (bA (aF (wpAny_fieldsOf ho hd ?_))))
 simp only[show Builtin.Dict_items.ownsTuple "dict_keyiterator"=false by decide,zf,if_false];apply (show wpAny _ _ (if (Value.ref d == Value.none)=true then _ else _) _ _ s from ?_);rw[aB (λz=>by cases z)];apply aF (bA (aF (wpAny_dictEntries Fl AU ?_)));rw[aB Z2];apply aF (bA (aF (wpAny_dictEpoch Fl AU ?_)));rw[aB Z2];apply bA ?_;simp only[show ¬((es.size:Int)<0) from by omega,if_false,mN,Array.getElem?_eq_none (bj _)];apply aF ?_
 first|refine aF (wpAny_typeNameOfWhole_keyiter hit.typeIs (bA ?g))|refine aF (wpAny_typeNameOf_keyiter hit.typeIs (bA ?g))
 apply (show wpAny _ _ (setField (.ref it) 0 .none >>= _) _ _ s from aF (wpAny_setField ho hd Z2 (show wpAny _ _ (newExc (.type "StopIteration") [] >>= _) _ _ _ from aF ?_)));simp only[newExc,newTuple];apply aF (vo (aF (m:=firstArgMember _ _) (wpAny_of_eq (a:=Value.none) (by first|rfl|(simp only[firstArgMember];rfl)) (vo ?_ (by size_fits)))) (by size_fits));simp only[raiseNew];apply aF (wpAny_handled ?_);rw[show A.in1.handled=none from hh];apply aF (bA (wpAny_throw ?_));exact aF (wpAny_isInstance (T:="StopIteration") (b:=true) #[_,eQ _ Z,Z] isSubtype_stop (bA (q _ (((Heap.SameBut.update ..).extBut.push _).push _))))
theorem hk_(hh:A.handled=none)(I d:Addr)(tY:d≠I)(es:Array DictEntry)(ep:Nat) :
  Walks prog w A I [I,d] [I] es.size (λi v=>∃h:i<es.size,v=es[i].key) (λi h=>h.IsKeyIter I d i es.size ep/\Raw h d es ep) where
 sub:=λb hb=>by simp only[List.mem_singleton] at hb;simp[hb]
 frame:=λ_ _ _ st k=>#[st.1.at λo e=>k I Z2 o e,st.2.eA λo e=>k d Z2 o e]
 item:=λi s Q E hi st hQ=>j8_ st.1 st.2 hi λh' AQ qe=>hQ _ h' s.toks #[hi,Z] #[AQ,st.2.eA λo e=>qe.extBut d o tY e] λb o hb e=>qe.extBut b o (λh=>hb (by simp[h])) e
 done:=λs Q E st hQ=>j3_ hh st.1 st.2 λh' he'=>hQ h' s.toks λb o hb e=>he' b o (λh=>hb (by simp[h])) e
 self:=λ_ _ _ _ st hQ=>wpAny_pyIter_keyiter st.1 hQ
theorem jW_{d:Addr}{es:Array DictEntry}{ep:Nat}(lo:(d == sysModules)=false):KdlSrc prog w "dict" d d es.size (λi v=>∃h:i<es.size,v=es[i].key) (λh=>Raw h d es ep) where
 type:=λs x=>x.ty
 there:=λh x=>let #[o,e,_]:=x;#[cy e,cy e]
 keep:=λh h' x k=>x.eA λo e=>k d (.inl Z) o e
 notList:=by decide
 notTuple:=by decide
 hint:=λ_ _ s _ x q=>kdl_hint_dict x.ty q
 iter:=λA s hh x=>#[_,_,λE Q q=>iQ_ lo x q,hk_ hh _ d (let #[o,e,_]:=x;eG (cy e)) es ep,#[#[_,eQ _ Z,Z,Z],x.eA λo e=>ck _ e]]
end
end jg
namespace jg
open PySem PySem.W PyProof.Rows
theorem dd_:typeLookup (.type "list") "keys"=pure none:=by rw[typeLookup_type,builtinLookup_eq_fast];kernel_rfl
theorem hb_{prog:Ad}{w:Af}{A:Ag}{s:Ab}{a:Addr}{xs:Array Aa}{k:Nat}{tk:Tok}{R:Result->Ab->Prop}(hx:s.heap.get? a\seqObj "list" xs k)(h:raisesAttr (.ref a) "keys" A R s) :
  codeAny (model prog w) A (.call (.builtin "list.__getattribute__") #[[.ref a,.str "keys" tk],[]]) R s:=by
 apply codeAny_call_builtin F.slot_list_getattribute.plain am_entry_list_getattribute (F.slot_list_getattribute.check _ _ _ _ _ _ _ _ #[_,hx,Z] (F.args_list_getattribute_2 _ _) ?_);exact meets_getattribute_miss_list a xs k #[] "keys" tk dd_ (by decide) (by size_fits) prog w A R s #[hx,h]
theorem An{prog:Ad}{w:Af}{A:Ag}{E:Aa->Ab->Prop}{s:Ab}{a:Addr}{xs:Array Aa}{k:Nat}{Q:Option Aa->Ab->Prop}(hx:s.heap.get? a\seqObj "list" xs k)(hA:A.handled=none)
  (h:∀h' tk,(∀b o,s.heap.get? b\o->h'.get? b\o)->Q none { s with heap:=h',toks:=tk }):wpAny (model prog w) A (getAttr? (.ref a) "keys") Q E s:=by
 let#[hp,g,d,tk,os]:=s;have ty:∀uQ,(#[hp,g,d,uQ,os]:Ab).TypeIs (.ref a) "list":=λ_=>#[_,hx,Z];let f1:=sub_AttributeError;let f2:=F.slot_list_getattribute.lookup;let f3:=F.slot_list_getattribute.bind (.ref a);let f4:=am_list_getattr_none;unfold getAttr? getAttrBy? getAttrBy
 repeat (any_goals (first|assumption|exact ty _|wp_step))
 apply hb_ hx #[hA,λh' uQ e Co=>?_];let#[t',u',he]:=Co.there;show wpAny _ _ (getattributeRaised _ _ _ _ _ _ _) _ _ _;unfold getattributeRaised
 repeat (any_goals (first|assumption|wp_step))
 exact h _ _ Co.keeps
end jg
namespace jg
open PySem PySem.W PyProof.Rows
theorem UK:entryFor table "dict.update.loop"\Builtin.«dict.update.loop»:=entryFor_of_tree (by kernel_rfl)
theorem J8:plainId "dict.update.loop"=true:=by decide +kernel
theorem R8(d it:Addr)(i:Int)(tk:Tok):Builtin.«dict.update.loop» #[[.ref d,.ref it,.int i tk,.none],[]]=(do
  let r <- pyNext (.ref it)
  match r with
  |none=>do Builtin.Dict.addKeywords d [];ret .none
  |some item=>do
   holding [item] (do
    let pair <- (Builtin.Dict.pairItems item).tryCatch λe=>do
     if !(<- isInstance e (.type "TypeError")) then throw e
     rule "dict.update.element-no-sequence"
     raiseError "TypeError" s!"cannot convert dictionary update sequence element #{i} to a sequence"
    match pair with
    |[k,v]=>holding [k,v] (dictSet d k v)
    |l=>do
     rule "dict.update.element-length"
     raiseError "ValueError" s!"dictionary update sequence element #{i} has length {l.length}; 2 is required")
   again (.builtin "dict.update.loop" #[[.ref d,.ref it,rawInt (i+1),.none],[]])):=by
 unfold Builtin.«dict.update.loop»;apply dX (λf=>pyNext (.ref it) >>= f) (funext λr=>?_);cases r<;>rfl
section
variable{prog:Ad}{w:Af}{K:Type}[DecidableEq K]{knd:PySem.KeyKind prog w K}{A:Ag}
def N_(knd:PySem.KeyKind prog w K)(h:Heap):ak->List (K × Aa)->Prop:=Paired λv p=>∃a key,v=.ref a/\IsTup h a (List.toArray [key,p.2])/\knd.is p.1 key=true
def gN(kvs:List (K × Aa))(ps:List (K × Aa)):List (K × Aa):=ps.foldl (λacc p=>stored acc p.1 p.2) kvs
theorem fH_(kvs:List (K × Aa))(k:K)(v:Aa):(stored kvs k v).length<=kvs.length+1:=by
 unfold stored;split
 ·simp
 simp
theorem VU{h:Heap}{b it l:Addr}{i:Nat}{ys:Array Aa}(t:IsTup h b ys)(q:h.IsListIter it l i):b≠it:=λz=>by
 let#[o,ho,hc,_]:=t;let#[o2,AI,CA,_]:=q;subst z;rw[ho] at AI;cases AI;rw[hc] at CA;exact absurd CA (by decide)
theorem eY_{h:Heap}{b d:Addr}{ys:Array Aa}{kvs:List (K × Aa)}(t:IsTup h b ys)(q:h.DictOf knd d kvs):b≠d:=λz=>by
 let#[o,ho,hc,_]:=t;let#[o2,es,ep,AI,CA,_]:=q;subst z;rw[ho] at AI;cases AI;let IU:=CA.1;rw[hc] at IU;exact absurd IU (by decide)
theorem UG{h h':Heap}{d:Addr}{kvs:List (K × Aa)}(q:h.DictOf knd d kvs)(k:∀o,h.get? d\o->h'.get? d\o):h'.DictOf knd d kvs:=by
 let#[o,es,ep,ho,r]:=q;exact#[o,es,ep,k _ ho,r]
theorem iJ_{it l d a:Addr}{i:Nat}{its:ak}{key x:Aa}{k:K}{kvs:List (K × Aa)}{s:Ab}{R:Result->Ab->Prop}{tk:Tok}(AS:d≠it)(hi:its.toArray[i]? = some (.ref a))(ht:IsTup s.heap a (List.toArray [key,x]))(hk:knd.is k key=true)
  (hit:s.heap.IsListIter it l i) (hl:s.heap.IsList l its.toArray) (hd:s.heap.DictOf knd d kvs) (hz:kvs.length<=1000)
  (hR:∀h2,h2.DictOf knd d (stored kvs k x)->(∀b o,b≠d->b≠it->s.heap.get? b\o->h2.get? b\o)->h2.IsListIter it l (i+1)->codeAny (model prog w) A (.builtin "dict.update.loop" #[[.ref d,.ref it,rawInt ((i:Int)+1),.none],[]]) R { s with heap:=h2,toks:=s.toks+1 }) :
  codeAny (model prog w) A (.builtin "dict.update.loop" #[[.ref d,.ref it,.int i tk,.none],[]]) R s:=by
 apply codeAny_builtin UK ?_;rw[Around.under_plainId J8 _,R8];apply aF (wpAny_pyNext_list_item hit hl hi λh1 Mz L7=>?_);let#[ot,hot,FU,nt,hdt]:=id ht;have Fi:h1.get? a\ot:=L7.extBut _ _ (VU ht hit) hot;apply aF (wpAny_holding (aF (wpAny_tryCatch ?_)));unfold Builtin.Dict.pairItems;apply aF (wpAny_typeOf (T:="tuple") #[ot,Fi,FU] ?_);rw[aH (by decide)];unfold seqItems?;apply aF (aF (wpAny_load Fi ?_));rw[hdt];apply bA (bA ?_);apply (show wpAny _ _ (holding [key,x] (dictSet d key x)) _ _ _ from wpAny_holding (wpAny_dictSet_pairs hk (UG hd λo q=>L7.extBut _ _ AS q) (λh2 hd2 AC=>?_) (by have:=bZ;omega)));exact bA #[plainId_quiet J8 _,hR h2 hd2 (λb o h3 h4 q=>AC.extBut _ _ h3 (L7.extBut _ _ h4 q)) (Mz.extBut AC.extBut (Ne.symm AS))]
theorem _H{it l d:Addr}{i:Nat}{its:ak}{kvs:List (K × Aa)}{s:Ab}{R:Result->Ab->Prop}{tk:Tok}(AS:d≠it)(hh:A.handled=none)(hi:its.toArray[i]? = none)
  (hit:s.heap.IsListIter it l i) (hl:s.heap.IsList l its.toArray) (hd:s.heap.DictOf knd d kvs)
  (hR:∀h',h'.DictOf knd d kvs->(∀b o,b≠it->s.heap.get? b\o->h'.get? b\o)->R (.ok (.ret .none)) { s with heap:=h' }) :
  codeAny (model prog w) A (.builtin "dict.update.loop" #[[.ref d,.ref it,.int i tk,.none],[]]) R s:=by
 apply codeAny_builtin UK ?_;rw[Around.under_plainId J8 _,R8];apply aF (wpAny_pyNext_list_end hh hit hl hi λh' he=>?_);exact aF (m:=Builtin.Dict.addKeywords d []) (bA (bA (hR h' (UG hd λo q=>he _ _ AS q) λb o hb q=>he b o hb q)))
theorem kN_{it l d:Addr}(hil:l≠it)(AS:d≠it)(IS:d≠l)(hh:A.handled=none){its:ak}(rest:ak):∀(ps:List (K × Aa)) (i:Nat) (kvs:List (K × Aa)) (s:Ab) (R:Result->Ab->Prop) (tk:Tok),its.drop i=rest->N_ knd s.heap rest ps->
  s.heap.IsListIter it l i->s.heap.IsList l its.toArray->s.heap.DictOf knd d kvs->kvs.length+ps.length<=1000->
  (∀h' uQ,h'.DictOf knd d (gN kvs ps)->(∀b o,b≠d->b≠it->s.heap.get? b\o->h'.get? b\o)->R (.ok (.ret .none)) { s with heap:=h',toks:=uQ })->
  codeAny (model prog w) A (.builtin "dict.update.loop" #[[.ref d,.ref it,.int i tk,.none],[]]) R s:=by
 induction rest with
 |nil=>
  intro ps i kvs s R tk e hp hit hl hd hz hR;cases hp
  have hi:its.toArray[i]? = none:=by
   have:=dX List.length e;simp only[pY,uD] at this;simp;omega
  exact _H AS hh hi hit hl hd λh' jX kp=>hR h' s.toks jX λb o _ hb q=>kp b o hb q
 |cons v rest ih=>
  intro ps i kvs s R tk e hp hit hl hd hz hR;cases hp with
  |@cons _ p _ ps h0 hr=>
  let#[a,key,hv,ht,hk]:=h0;let#[k,x]:=p;subst hv
  have hi:its.toArray[i]? = some (.ref a):=by
   have q:(its.drop i)[0]? = some (.ref a):=by rw[e];rfl
   rw[List.getElem?_drop] at q;simpa using q
  have e':its.drop (i+1)=rest:=by
   rw[<- List.drop_drop,e];rfl
  simp only[gB] at hz;apply iJ_ AS hi ht hk hit hl hd Z1 λh2 hd2 kp wx=>?_;have c1:((i:Int)+1)=((i+1:Nat):Int):=by omega
  rw[c1];apply ih ps (i+1) (stored kvs k x) _ R 0 e' (L2.Paired.bL hr λv p ⟨b,ky,e1,t1,k1⟩=>#[b,ky,e1,?_,k1]) wx (hl.at λo q=>kp _ _ (Ne.symm IS) hil q) hd2 (by have:=fH_ kvs k x;omega) λh' uQ jX _R=>hR h' uQ jX λb o h3 h4 q=>_R b o h3 h4 (kp b o h3 h4 q);let#[o,ho,r]:=id t1;exact#[o,kp _ _ (eY_ t1 hd) (VU t1 hit) ho,r]
theorem e1_{E:Aa->Ab->Prop}{s:Ab}{l:Addr}{its:ak}{n:Nat}{ps:List (K × Aa)}{Q:Aa->Ab->Prop}(hh:A.handled=none)(ho:s.heap.get? l\seqObj "list" its.toArray n)(hp:N_ knd s.heap its ps)(hz:ps.length<=1000)
  (h:∀h' uQ,h'.DictOf knd s.heap.objs.size (gN [] ps)->(∀b o,s.heap.get? b\o->h'.get? b\o)->Q (.ref s.heap.objs.size) { s with heap:=h',toks:=uQ }) :
  wpAny (model prog w) A (call (.type "dict") [.ref l]) Q E s:=by
 apply callType_codes (Q₁:=λobj aV=>obj=.ref s.heap.objs.size/\aV={ s with heap:=s.heap.push { cls:=.type "dict",data:=.dict #[] } }) F.kt_called_dict (F.kt_typeCall_dict_1 _) F.entry_dict_init (kt_code_dict_new _ #[Z,Z]) ?_;rintro obj aV ⟨rfl,rfl⟩;have tX:(s.heap.push { cls:=.type "dict",data:=.dict #[] }).DictOf knd s.heap.objs.size []:=Heap.DictOf.new s.heap;have fJ:(s.heap.push { cls:=.type "dict",data:=.dict #[] }).get? l\seqObj "list" its.toArray n:=ck _ ho;apply#[tX.typeIs,F.args_dict_init_2 _ _,?_];unfold Builtin.«dict.__init__» Builtin.Dict.selfAndRest;apply aF (aF (wpAny_notOrdered_dict tX.typeIs ?_));apply (show wpAny _ _ (pure (s.heap.objs.size,[Value.ref l])) _ _ _ from bA ?_);apply (show wpAny _ _ (Builtin.Dict.updateFrom "dict.__init__" s.heap.objs.size (.ref l) [] .none) _ _ _ from ?_);unfold Builtin.Dict.updateFrom;apply aF (wpAny_typeOf (T:="list") #[_,fJ,Z] ?_);rw[aH (by decide)];apply aF (An fJ hh λh2 tk2 k2=>?_);simp only[Option.isNone_none,if_true];have kB:h2.get? l\seqObj "list" its.toArray n:=k2 _ _ fJ;apply aF (wpAny_rule (aF (wpAny_pyIter_list #[_,kB,Z,_,Z] ?_)));apply bA #[plainId_quiet J8 _,?_];have all:∀{b o},s.heap.get? b\o->(h2.push { cls:=.type "list_iterator",data:=.fields (List.toArray [.ref l,.int 0 0]) }).get? b\o:=λq=>ck _ (k2 _ _ (ck _ q))
 have hd2:h2.DictOf knd s.heap.objs.size []:=by
  let#[o,es,ep,ho,r]:=tX;exact#[o,es,ep,k2 _ _ ho,r]
 have KW:s.heap.objs.size<h2.objs.size:=by
  let#[o,es,ep,ho,r]:=hd2;exact cy ho
 have lz:l<s.heap.objs.size:=cy ho
 apply kN_ (A:=A.in1) (knd:=knd) (its:=its) (it:=h2.objs.size) (l:=l) (d:=s.heap.objs.size) (eG (Nat.lt_trans lz KW)) (eG KW) (vD lz) hh its ps 0 [] _ _ 0 Z (L2.Paired.bL hp λv p ⟨b,ky,e1,t1,k1⟩=>#[b,ky,e1,t1.keeps λb o q=>all q,k1])
  #[_,eQ _ Z,Z,Z] #[_,ck _ kB,Z,_,Z] (by
   let#[o,es,ep,ho,r]:=hd2;exact#[o,es,ep,ck _ ho,r]) ⇑hz λh' uQ jX kp=>#[Z,h h' uQ jX λb o q=>?_]
 have bl:b<s.heap.objs.size:=cy q;exact kp b o (eG bl) (eG (Nat.lt_trans bl KW)) (all q)
end
end jg
theorem zl{n:Nat}(h:decide (n<=16777216)=true:=by rfl):n<=PySem.sizeLine:=by
 rw[PySem.sizeLine_eq];exact wZ h
namespace L2
open PySem PySem.Spec PyProof.Rows PySem.W kX jg
theorem bD.same{K:af}{H H':Hp}{ys:ag}{ks:List aD}(t:bD K H ys ks)(e:aa H H'):bD K H' ys ks:=Paired.bL t λy k ⟨a,z,q⟩=>#[a,z,e _ _ q]
theorem aa.new{H:Hp}{l:Addr}{o:HO}(h:H l=none):aa H (upd H l o):=λb u e=>by rw[aC (bw e h)];exact e
section
variable{X:Cx}{pins:List (Addr × Obj)}{σ:St}{H H':Hp}{s:Ab}{h':Heap}{t':Nat}
theorem Inv.many(I:Inv X pins σ H s)(k:∀b o,s.heap.get? b\o->h'.get? b\o)(hold:aa H H')(tX:∀b,H b=none->b<s.heap.objs.size->H' b=none)
  (hob:∀b o,H' b\o->H b=none->∃xs its,o=.tup xs/\xs.length<=sizeLine/\Vals xs its/\IsTup h' b its.toArray/\∃o,h'.get? b\o/\o.dict=none):Inv X pins σ H' { s with heap:=h',toks:=t' }:=by
 apply I.un #[λb o q _ _ _=>k b o q,λb o q _ _ _=>#[o.slots,k b o q],λb o q n _=>tX b n (cy q),λb o q _=>#[o,k b o q],λb xs q=>hold b _ q,λb o u q=>hold b _ q,λb ps q=>#[#[],by rw[Array.append_empty];exact hold b _ q]] λb o q=>?_;cases e:H b with
 |some u=>
  let e2:=hold b u e;rw[q] at e2;cases e2;exact (I.aJ b o e).eA (λc v _ z=>k c v z) (λc z=>hold c _ z) λc xs z=>hold c _ z
 |none=>
  let#[xs,its,rfl,z,r,t]:=hob b o q e;exact#[z,its,r,t]
end
section
variable{X:Cx}{pins:List (Addr × Obj)}{σ:St}{H:Hp}{s:Ab}{A:Ag}{E:Aa->Ab->Prop}
theorem iX_{p:Addr}{ys:ag}{R:ak->Ab->Prop}(I:Inv X pins σ H s)(h:dJ X.K H p ys)(hz:ys.length<=100000)(q:∀vs s1,Inv X pins σ H s1->Vals ys vs->R vs s1):wpAny (model X.prog X.w) A (collect (.ref p)) R E s:=by
 let#[its,r,pl,_]:=I.list h;let hl:=r.length;apply collect_list pl.isList (q its _ ?_ r) (by have:=bZ;omega);apply I.kept (t':=s.toks) λb u e=>?_;have lt:b<s.heap.objs.size:=cy e;rw[Heap.get?_update_ne _ _ _ _ (eG lt)];exact ck _ e
theorem O2{P:Nat->Aa->Prop}{acc:Array Aa}{ys:ag}(h:ItemsOf P acc ys.length)(hp:∀(j:Nat) v,P j v->∀y,ys[j]? = some y->RelV y v):Vals ys acc.toList:=by
 have gen:∀(ys:ag) (vs:ak),ys.length=vs.length->(∀(j:Nat) y v,ys[j]? = some y->vs[j]? = some v->RelV y v)->Vals ys vs:=λys=>by
  induction ys with
  |nil=>
   intro vs hl _;cases vs with
   |nil=>exact .nil
   |cons _ _=>cases hl
  |cons y ys ih=>
   intro vs hl h;cases vs with
   |nil=>cases hl
   |cons v vs=>exact .cons (h 0 y v Z Z) (ih vs ⇑hl λj y v a b=>h (j+1) y v ⇑a ⇑b)
 apply gen ys acc.toList (by rw[uG];exact h.1.symm) λj y v a b=>hp j v (h.2 j v ?_) y a;rw[<- Array.getElem?_toList];exact b
theorem R0{d:Addr}{kvs:List (Key × V)}(I:Inv X pins σ H s)(h:Rd H d (.dK kvs)):∃(P:Nat->Aa->Prop) (OK:Heap->Prop),KdlSrc X.prog X.w "dict" d d (kvs.map λkv=>kV kv.1).length P OK/\OK s.heap/\∀(j:Nat) v,P j v->∀y,(kvs.map λkv=>kV kv.1)[j]? = some y->RelV y v:=by
 let#[z,hd,vs,rel,dd]:=oK I.aJ h;let#[ep,dat]:=dd.dictAt;let hl:=rel.length;apply#[λi v=>∃k x,vs[i]? = some (k,x)/\(fG X.prog X.w).is k v=true,λh=>h.DictAt (fG X.prog X.w) d vs ep,(by rw[au,hl];exact kdl_dict (knd:=fG X.prog X.w) (kvs:=vs) (ep:=ep) hd),dat,λj v ⟨k,x,e,hk⟩ y hy=>?_];rw[cY] at hy;have ek:kvs.map (·.1)=vs.map (·.1):=rel.keys;have e2:(kvs.map (·.1))[j]? = (vs.map (·.1))[j]?:=by rw[ek]
 rw[cY,cY,e] at e2;cases e3:kvs[j]? with
 |none=>rw[e3] at e2;cases e2
 |some kv=>
  rw[e3] at e2 hy;have e4:kv.1=k:=eF e2;have e5:kV kv.1=y:=eF hy;rw[<- e5,e4];have hk:wO k v=true:=hk;rcases qD hk with⟨i,t,rfl,rfl⟩|⟨x,t,rfl,rfl⟩
  ·exact#[t,Z]
  exact#[t,Z]
theorem R5{d:Addr}{kvs:List (Key × V)}{R:ak->Ab->Prop}(hh:A.handled=none)(I:Inv X pins σ H s)(h:Rd H d (.dK kvs))(q:∀vs s1,Inv X pins σ H s1->Vals (kvs.map λkv=>kV kv.1) vs->R vs s1):wpAny (model X.prog X.w) A (collect (.ref d)) R E s:=by
 let#[P,OK,S,ok,hp]:=R0 I h;apply kdu_collect S hh ok ?_ λh' tk acc k a=>q _ _ (I.kept k) (O2 a hp);rw[au];exact (oK I.aJ h).1
theorem _C{d:Addr}{kvs:List (aD × V)}(I:Inv X pins σ H s)(h:Rd H d (.dT kvs)):∃(ys:ag) (P:Nat->Aa->Prop) (OK:Heap->Prop),bD X.K H ys (kvs.map (·.1))/\ys.length<=sizeLine/\KdlSrc X.prog X.w "dict" d d ys.length P OK/\OK s.heap/\∀(j:Nat) v,P j v->∀y,ys[j]? = some y->RelV y v:=by
 let#[z,hd,xs,rel,o,es,ep,ho,hc,wC,AR,nd]:=h.ok I.aJ
 have l1:es.size=xs.length:=by
  have:=dX List.length AR;simpa using this
 let l2:=bK rel;apply#[xs.map λx=>V.ref x.2.1,λi v=>∃h:i<es.size,v=es[i].key,λh=>Raw h d es ep,?_,by rw[au];omega,(by rw[au,<- l1];exact jW_ (es:=es) (ep:=ep) hd),#[o,ho,hc,wC],λj v ⟨hj,e⟩ y hy=>?_]
 ·have gen:∀{kvs:List (aD × V)} {xs:List (aD × Addr × Aa)},KT H kvs xs->bD X.K H (xs.map λx=>V.ref x.2.1) (kvs.map (·.1)):=λ{kvs xs} r=>by
   induction r with
   |nil=>exact .nil
   |cons h _ ih=>exact .cons #[_,Z,h.2.1] ih
  exact gen rel
 rw[cY] at hy;have hx:j<xs.length:=by omega
 rw[bO hx] at hy;have e1:V.ref xs[j].2.1=y:=eF hy
 have e2:es[j]=entryOfKey (tupleKind (fG X.prog X.w)) xs[j]:=by
  have e3:es.toList[j]? = (xs.map (entryOfKey (tupleKind (fG X.prog X.w))))[j]?:=by rw[AR]
  rw[cY,bO hx,Array.getElem?_toList,Array.getElem?_eq_getElem hj] at e3;exact eF e3
 rw[<- e1,e,e2];rfl
theorem _z{d:Addr}{kvs:List (aD × V)}{R:ak->Ab->Prop}(hh:A.handled=none)(I:Inv X pins σ H s)(h:Rd H d (.dT kvs))(q:∀ys vs s1,Inv X pins σ H s1->Vals ys vs->bD X.K H ys (kvs.map (·.1))->R vs s1):wpAny (model X.prog X.w) A (collect (.ref d)) R E s:=by
 let#[ys,P,OK,t,z,S,ok,hp]:=_C I h;exact kdu_collect S hh ok z λh' tk acc k a=>q ys _ _ (I.kept k) (O2 a hp) t
def pR(v d:Addr):HO:=.ext λh=>h.IsItemsView v d
def BV(v d:Addr):HO:=.ext λh=>h.IsValuesView v d
def kE(K:af)(H:Hp):ag->List (Key × V)->Prop:=Paired λy p=>∃a,y=V.ref a/\H a\.tup [kV p.1,p.2]
theorem gA_{v d:Addr}{kvs:List (Key × V)}{R:ak->Ab->Prop}(hh:A.handled=none)(I:Inv X pins σ H s)(hv:H v\pR v d)(h:Rd H d (.dK kvs))(q:∀H1 ys vs s1,Inv X pins σ H1 s1->aa H H1->Vals ys vs->kE X.K H1 ys kvs->R vs s1) :
  wpAny (model X.prog X.w) A (collect (.ref v)) R E s:=by
 let#[z,hd,vs,rel,dd]:=oK I.aJ h;let#[ep,dat]:=dd.dictAt;let#[iv,_,_]:=I.aJ v _ hv;let hl:=rel.length;apply kdx_collect (knd:=fG X.prog X.w) (kvs:=vs) (ep:=ep) hh iv dat Z1 λh' tk as k la G=>?_;have up:∀b,b∈as->s.heap.objs.size<b:=G.above
 have zd:∀(j:Nat) b p,as[j]? = some b->kvs[j]? = some p->∃its,Vals [kV p.1,p.2] its/\IsTup h' b its.toArray/\∃o,h'.get? b\o/\o.dict=none:=λj b p hj hp=>by
  let#[key,kk,x,e1,e2,e3]:=G.pairs j b hj
  have gen:∀{kvs:List (Key × V)} {vs:List (Key × Aa)},KV kvs vs->∀(j:Nat),vs[j]? = some (kk,x)->kvs[j]? = some p->p.1=kk/\RelV p.2 x:=λ{kvs vs} r=>by
   induction r with
   |nil=>intro j e;simp at e
   |@cons p' q _ _ h _ ih=>
    intro j e e';cases j with
    |zero=>
     have e:q=(kk,x):=⇑e
     have e':p'=p:=⇑e'
     subst e';rw[e] at h;exact h
    |succ j=>exact ih j ⇑e ⇑e'
  let#[g1,g2]:=gen rel j e1 hp;apply#[[key,x],.cons ?_ (.cons g2 .nil),#[_,e3,Z,_,Z],_,e3,Z];rw[g1];have e2:wO kk key=true:=e2;rcases qD e2 with⟨i,t,rfl,rfl⟩|⟨x,t,rfl,rfl⟩
  ·exact#[t,Z]
  exact#[t,Z]
 have look:∀{as:ai} {kvs:List (Key × V)},as.Pairwise (· < ·)->∀(j:Nat) b p,as[j]? = some b->kvs[j]? = some p->(as.zip kvs).lookup b\p:=λ{as}=>by
  induction as with
  |nil=>intro kvs _ j b p e;simp at e
  |cons a as ih=>
   intro kvs pw j b p e e';cases kvs with
   |nil=>simp at e'
   |cons q kvs=>
    let#[p1,p2]:=List.pairwise_cons.mp pw;show ((a,q)::as.zip kvs).lookup b\p;cases j with
    |zero=>
     have e:a=b:=⇑e
     have e':q=p:=⇑e'
     subst e;subst e';rw[List.lookup_cons_self]
    |succ j=>
     have e:as[j]? = some b:=⇑e
     have e':kvs[j]? = some p:=⇑e'
     let lt:=p1 b (dC e);rw[uE,show (b == a)=false by simp only[beq_eq_false_iff_ne];exact vD lt];exact ih p2 j b p e e'
 have lk:as.length=kvs.length:=by omega
 let H1:Hp:=λb=>if b∈as then ((as.zip kvs).lookup b).map λp=>HO.tup [kV p.1,p.2] else H b
 have F1:∀(j:Nat) b p,as[j]? = some b->kvs[j]? = some p->H1 b\.tup [kV p.1,p.2]:=λj b p e e'=>by
  show (if b∈as then _ else _)=_;rw[aH (dC e),look G.rise j b p e e'];rfl
 have oF:∀b,b∉as->H1 b=H b:=λb hb=>aB hb;have old:∀b,b<s.heap.objs.size->b∉as:=λb hb m=>absurd (up b m) Z1;apply q H1 (as.map V.ref) _ _ (I.many (t':=tk) k (λb o e=>by rw[oF b (old b (I.aJ.lt e))];exact e) (λb e hb=>by rw[oF b (old b hb)];exact e) λb o e e0=>?_) (λb o e=>by rw[oF b (old b (I.aJ.lt e))];exact e) ?_ ?_
 ·by_cases m:b∈as
  ·let#[j,hj]:=List.mem_iff_getElem?.mp m
   have jl:j<kvs.length:=by
    have:=(cq.mp hj).1;omega
   let e':=F1 j b kvs[j] hj (bO jl);rw[e] at e';cases e';let#[its,r,t]:=zd j b _ hj (bO jl);exact#[_,its,Z,zl,r,t]
  rw[oF b m,e0] at e;cases e
 ·have gen:∀as:ai,Vals (as.map V.ref) (as.map Value.ref):=λas=>by
   induction as with
   |nil=>exact .nil
   |cons a as ih=>exact .cons Z ih
  exact gen as
 have gen:∀(Dy:ai) (fB:List (Key × V)),Dy.length=fB.length->(∀(j:Nat) b p,Dy[j]? = some b->fB[j]? = some p->H1 b\.tup [kV p.1,p.2])->kE X.K H1 (Dy.map V.ref) fB:=λDy=>by
  induction Dy with
  |nil=>
   intro fB hl _;cases fB with
   |nil=>exact .nil
   |cons _ _=>cases hl
  |cons a Dy ih=>
   intro fB hl h;cases fB with
   |nil=>cases hl
   |cons p fB=>exact .cons #[a,Z,h 0 a p Z Z] (ih fB ⇑hl λj b p e e'=>h (j+1) b p ⇑e ⇑e')
 exact gen as kvs lk F1
end
end L2
namespace L2
open PySem PySem.Spec PyProof.Rows PySem.W kX jg
theorem j7_{a b:ae}(h:a.map dG=b.map dG):a=b:=by
 induction a generalizing b with
 |nil=>
  cases b with
  |nil=>rfl
  |cons _ _=>cases h
 |cons x a ih=>
  cases b with
  |nil=>cases h
  |cons y b=>
   let#[h1,h2]:=List.cons.inj h;have h1:[(Sum.inr x:Key)]=[Sum.inr y]:=h1;cases h1;rw[ih h2]
theorem Vg(ss:ae):(mG ss).map dG=aY (ss.map dG):=by
 have all:∀k∈aY (ss.map dG),∃x,k=dG x:=λk hk=>by
  let#[x,_,e]:=bH.mp ((kP _).mem_iff.mp hk);exact#[x,e.symm]
 have gen:∀l:List aD,(∀k∈l,∃x,k=dG x)->(l.map λk=>match k with | [.inr x]=>x|_=>(⟨#[]⟩:Str)).map dG=l:=λl=>by
  induction l with
  |nil=>exact λ_=>rfl
  |cons k l ih=>
   intro h;let#[x,rfl]:=h k d9;rw[fE,fE,ih λk hk=>h k (eL _ hk)];rfl
 exact gen _ all
theorem xm(ss:ae):(mG ss).Perm ss:=by
 have p:((mG ss).map dG).Perm (ss.map dG):=by rw[Vg];exact kP _
 have back:∀l:ae,(l.map dG).map (λk=>match k with | [.inr x]=>x|_=>(⟨#[]⟩:Str))=l:=λl=>by
  rw[cg]
  induction l with
  |nil=>rfl
  |cons x l ih=>rw[fE,ih];rfl
 let q:=p.map (λk=>match k with | [.inr x]=>x|_=>(⟨#[]⟩:Str));rwa [back,back] at q
section
variable{X:Cx}{pins:List (Addr × Obj)}{σ:St}{H:Hp}{s:Ab}
theorem er_{u:Aa}{ss:ae}{Q:VK}(bS:ss.length<64)(mz:wpAny (model X.prog X.w) X.A.in1 (collect u) (λvs s1=>∃H1,Inv X pins σ H1 s1/\Vals (ss.map V.str) vs/\∀l,H1 l=none->Q (.ref l) (upd H1 l (.lst ((mG ss).map V.str)))) X.xe s) :
  wpAny (model X.prog X.w) X.A (call (.builtin "sorted") [u]) (EP X pins σ Q) X.xe s:=by
 apply Vr (ON (ss.map dG)) (a_ mz λvs s1 ⟨H1,I1,r,q⟩=>?_);have hl:vs.length=ss.length:=by rw[<- r.length,au]
 apply#[by omega,λh2 h' _=>gn_ (SK r) h2,λp h' e g up hD kp=>?_];have g':Good (ss.map dG).length p:=by rw[au,<- hl];exact g
 let asc:=NS (ks:=ss.map dG) (λi j _ _=>rfl) g' (by rw[au,<- hl];exact up)
 have perm:(p.toList.map λi=>(ss.map dG).getD i []).Perm (ss.map dG):=by
  have:=Hh g' λi=>(ss.map dG).getD i [];rwa [Hq] at this
 let es:=Pp perm asc
 have inr:∀i∈p.toList,i<ss.length:=λi hi=>by
  have m:i∈(List.range vs.length).toArray:=g.mem_iff.mp ⇑hi;rw[hl] at m;simpa using m
 have e1:(p.toList.map λi=>ss.getD i ⟨#[]⟩)=mG ss:=by
  apply j7_ ?_;rw[Vg,<- es,cg];apply uF λi hi=>?_;have:=inr i hi;simp[this]
 let rv:=OB r g
 have e2:(p.toList.map λi=>(ss.map V.str).getD i .non)=(mG ss).map V.str:=by
  rw[<- e1,cg];apply uF λi hi=>?_;have:=inr i hi;simp[this]
 rw[e2] at rv;apply#[.ref s1.heap.objs.size,_,I1.laid (t':=s1.toks) kp (bj _) (show fe X.prog X.w _ h' _ (.lst ((mG ss).map V.str)) from #[?_,mI p vs,e,rv,hD]),Z,q _ (I1.aJ.fresh (bj _))];rw[au,(xm ss).length_eq];have:=bZ;omega
theorem iz_{K:af}{H:Hp}{ys:ag}{ks:List aD}(t:bD K H ys ks):∀l:List Nat,(∀i∈l,i<ys.length)->bD K H (l.map λi=>ys.getD i .non) (l.map λi=>ks.getD i []):=λl=>by
 induction l with
 |nil=>exact λ_=>.nil
 |cons i l ih=>
  intro h;apply .cons ?_ (ih λj hj=>h j (eL _ hj));let hi:=h i d9
  have gen:∀{ys:ag} {ks:List aD} (i:Nat),i<ys.length->bD K H ys ks->∃a,ys.getD i .non=V.ref a/\H a\.tup ((ks.getD i []).map kV):=λ{ys ks} i hy t=>by
   induction t generalizing i with
   |nil=>exact absurd hy Z2
   |cons h t ih=>
    cases i with
    |zero=>exact h
    |succ i=>exact ih i ⇑hy
  exact gen i hi t
theorem V6{u:Aa}{ks:List aD}{sh:List Bool}{Q:VK}(bS:ks.length<64)(al:Bg ks sh)
  (mz:wpAny (model X.prog X.w) X.A.in1 (collect u) (λvs s1=>∃H1 ys,Inv X pins σ H1 s1/\Vals ys vs/\bD X.K H1 ys ks/\∀l zs,H1 l=none->bD X.K H1 zs (aY ks)->zs.Perm ys->Q (.ref l) (upd H1 l (.lst zs))) X.xe s) :
  wpAny (model X.prog X.w) X.A (call (.builtin "sorted") [u]) (EP X pins σ Q) X.xe s:=by
 apply Vr (ON ks) (a_ mz λvs s1 ⟨H1,ys,I1,r,t,q⟩=>?_);let l1:=r.length;let l2:=bK t;have hl:vs.length=ks.length:=by omega
 apply#[by omega,λh2 h' k=>VF I1 r t al h2 k,λp h' e g up hD kp=>?_];have g':Good ks.length p:=by rw[<- hl];exact g
 let asc:=NS (ks:=ks) (λi j _ _=>rfl) g' (by rw[<- hl];exact up)
 have perm:(p.toList.map λi=>ks.getD i []).Perm ks:=by
  have:=Hh g' λi=>ks.getD i [];rwa [Hq] at this
 let es:=Pp perm asc
 have inr:∀i∈p.toList,i<ys.length:=λi hi=>by
  have m:i∈(List.range vs.length).toArray:=g.mem_iff.mp ⇑hi;rw[<- l1] at m;simpa using m
 let tz:=iz_ t p.toList inr;rw[es] at tz;let rv:=OB r g
 have pz:(p.toList.map λi=>ys.getD i .non).Perm ys:=by
  have:=Hh (n:=ys.length) (by rw[l1];exact g) λi=>ys.getD i .non;rwa [Hq] at this
 apply#[.ref s1.heap.objs.size,_,I1.laid (t':=s1.toks) kp (bj _) (show fe X.prog X.w _ h' _ (.lst (p.toList.map λi=>ys.getD i .non)) from #[?_,mI p vs,e,rv,hD]),Z,q _ _ (I1.aJ.fresh (bj _)) tz pz];rw[pz.length_eq];have:=bZ;omega
end
section
variable{X:Cx}
inductive nM (K:af) (xs:ag) (H:Hp) (Q:VK):Prop
 |mk:∀d kvs sh,xs=[.ref d]->H d\.dT kvs->Bg (kvs.map (·.1)) sh->kvs.length<64->(∀l zs,H l=none->bD K H zs (aY (kvs.map (·.1)))->Q (.ref l) (upd H l (.lst zs)))->nM K xs H Q
theorem eT_(hc:X.calm=true):gn X (.builtin "sorted") (nM X.K):=by
 intro pins s σ H xs us Q I r h;let#[d,kvs,sh,rfl,hd,al,bS,q]:=h;let#[u,rfl,ru]:=vals1 r;cases ru;exact V6 (by rw[au];exact bS) al (_z (I.ok.hd hc) I (.inl hd) λys vs s1 I1 r1 t=>⟨H,ys,I1,r1,t,λl zs n t' _=>q l zs n t'⟩)
inductive nO (xs:ag) (H:Hp) (Q:VK):Prop
 |mk:∀d kvs ss,xs=[.ref d]->H d\.dK kvs->kvs.map (·.1)=ss.map Sum.inr->ss.length<64->(∀l,H l=none->Q (.ref l) (upd H l (.lst ((mG ss).map V.str))))->nO xs H Q
theorem f2_(hc:X.calm=true):gn X (.builtin "sorted") nO:=by
 intro pins s σ H xs us Q I r h;let#[d,kvs,ss,rfl,hd,ek,bS,q]:=h;let#[u,rfl,ru]:=vals1 r;cases ru;apply er_ bS (R5 (I.ok.hd hc) I (.inl hd) λvs s1 I1 r1=>⟨H,I1,?_,q⟩)
 have e:(kvs.map λkv=>kV kv.1)=ss.map V.str:=by
  rw[show (kvs.map λkv=>kV kv.1)=(kvs.map (·.1)).map kV by rw[cg];rfl,ek,cg];rfl
 rwa [e] at r1
inductive sY (K:af) (xs:ag) (H:Hp) (Q:VK):Prop
 |mk:∀(v d:Addr) (kvs:List (Key × V)) (ks:List (Key × Key)) (sh:List Bool),xs=[.ref v]->H v\pR v d->H d\.dK kvs->kvs=ks.map (λk:Key × Key=>(k.1,kV k.2))->Bg (ks.map λk=>[k.1,k.2]) sh->ks.length<64->(∀l H1 zs,aa H H1->H1 l=none->bD K H1 zs (aY (ks.map λk=>[k.1,k.2]))->Q (.ref l) (upd H1 l (.lst zs)))->sY K xs H Q
theorem g2_(hc:X.calm=true):gn X (.builtin "sorted") (sY X.K):=by
 intro pins s σ H xs us Q I r h;let#[v,d,kvs,ks,sh,rfl,hv,hd,ek,al,bS,q]:=h;let#[u,rfl,ru]:=vals1 r;cases ru;apply V6 (by rw[au];exact bS) al (gA_ (I.ok.hd hc) I hv (.inl hd) λH1 ys vs s1 I1 sm r1 t=>⟨H1,ys,I1,r1,?_,λl zs n t' _=>q l H1 zs sm n t'⟩);subst ek
 have gen:∀(ks:List (Key × Key)) (ys:ag),kE X.K H1 ys (ks.map (λk:Key × Key=>(k.1,kV k.2)))->bD X.K H1 ys (ks.map λk=>[k.1,k.2]):=λks=>by
  induction ks with
  |nil=>
   intro ys t;cases t;exact .nil
  |cons k ks ih=>
   intro ys t;cases t with
   |cons h t=>exact .cons h (ih _ t)
 exact gen ks ys t
inductive tm (xs:ag) (H:Hp) (Q:VK):Prop
 |mk:∀d kvs,xs=[.ref d]->Rd H d (.dK kvs)->(∀l,H l=none->Q (.ref l) (upd H l (.lst (kvs.map λkv=>kV kv.1))))->tm xs H Q
theorem OZ(hc:X.calm=true):gn X (.type "list") tm:=by
 intro pins s σ H xs us Q I r h;let#[d,kvs,rfl,hd,q]:=h;let#[u,rfl,ru]:=vals1 r;cases ru;let#[P,OK,S,ok,hp]:=R0 I hd;let z:=(oK I.aJ hd).1;apply kdl_call S (I.ok.hd hc) ok (by rw[au];exact z) λh' tk acc c k hD a=>?_;apply#[.ref s.heap.objs.size,_,I.laid (t':=tk) k (bj _) (show fe X.prog X.w _ h' _ (.lst (kvs.map λkv=>kV kv.1)) from #[by rw[au];exact z,acc.toList,c,O2 a hp,by rw[Array.toArray_toList];exact hD]),Z,q _ I.fresh]
theorem KV.gN{κ:Type}[DecidableEq κ]:∀{more:List (κ × V)} {rs:List (κ × Aa)} {kvs:List (κ × V)} {vs:List (κ × Aa)},KV more rs->KV kvs vs->KV (more.foldl (λacc kv=>putK acc kv.1 kv.2) kvs) (jg.gN vs rs):=λ{more rs kvs vs} h=>by
 induction h generalizing kvs vs with
 |nil=>exact λh=>h
 |@cons p q _ _ h _ ih=>
  intro h2;let#[k,y]:=p;let#[k',u]:=q;let#[h1,h3]:=h;have h1:k=k':=h1;subst h1;exact ih (h2.put k h3)
inductive nU (K:af) (xs:ag) (H:Hp) (Q:VK):Prop
 |mk:∀p ys kvs,xs=[.ref p]->H p\.lst ys->kE K H ys kvs->kvs.length<=1000->(∀l,H l=none->Q (.ref l) (upd H l (.dK (BG [] kvs))))->nU K xs H Q
theorem BS(hc:X.calm=true):gn X (.type "dict") (nU X.K):=by
 intro pins s σ H xs us Q I r h;let#[p,ys,kvs,rfl,hp,t,hz,q]:=h;let#[u,rfl,ru]:=vals1 r;cases ru;let#[z,its,n,rv,hl,ho]:=I.jQ hp
 have gen:∀{ys:ag} {its:ak} {kvs:List (Key × V)},Vals ys its->kE X.K H ys kvs->∃ps,KV kvs ps/\N_ (fG X.prog X.w) s.heap its ps:=λ{ys its kvs} rv t=>by
  induction t generalizing its with
  |nil=>
   cases rv;exact#[[],.nil,.nil]
  |@cons y p ys kvs h t ih=>
   cases rv with
   |cons r0 rv=>
    let#[ps,h1,h2]:=ih rv;let#[a,e,sq]:=h;subst e;cases r0;let#[tv,rt,it,_]:=I.tuple (gE.of sq);let#[key,x,e2,rk,rx]:=vals2 rt;subst e2;apply#[(p.1,x)::ps,Paired.cons (show p.1=p.1/\RelV p.2 x from #[Z,rx]) h1,Paired.cons (show ∃a' EX,Value.ref a=.ref a'/\IsTup s.heap a' (List.toArray [EX,x])/\(fG X.prog X.w).is p.1 EX=true from #[a,key,Z,it,yJ rk]) h2]
 let#[ps,h1,h2]:=gen rv t;let lp:=KV.length h1;apply e1_ (knd:=fG X.prog X.w) (I.ok.hd hc) ho h2 Z1 λh' tk hd kp=>?_;apply#[.ref s.heap.objs.size,_,I.laid (t':=tk) kp (bj _) (Ng ?_ (beq_eq_false_iff_ne.mpr (Ne.symm (eG I.big))) (KV.gN h1 .nil) hd),Z,q _ I.fresh];have:=V7 kvs [];have:=bZ;simp only[uD] at *;show (BG [] kvs).length<=sizeLine;omega
theorem OF:∀{bs:List Bool} {vs:ak},Vals (bs.map V.bl) vs->vs=bs.map Value.bool
 |[],_,.nil=>rfl
 |b::bs,_,.cons h t=>by
  cases h;rw[OF t];rfl
inductive Ai (K:af) (g:List Bool->Bool) (xs:ag) (H:Hp) (Q:VK):Prop
 |mk:∀p bs,xs=[.ref p]->dJ K H p (bs.map V.bl)->Q (.bl (g bs)) H->Ai K g xs H Q
theorem T3(hc:X.calm=true):gn X (.builtin "all") (Ai X.K λbs=>bs.all id):=by
 intro pins s σ H xs us Q I r h;let#[p,bs,rfl,hp,q]:=h;let#[u,rfl,ru]:=vals1 r;cases ru;let#[its,rv,pl,z]:=I.list hp;obtain rfl:=OF rv;let hl:=pl.isList;have lt:p<s.heap.objs.size:=by let#[_,e,_]:=hl;exact cy e
 apply call_all_walk (wpAny_pyIter_list hl ⟨s.heap.objs.size,[s.heap.objs.size,p],[s.heap.objs.size],(bs.map Value.bool).toArray.size,_,_,λi=>(bs[i]?).getD true,rfl,Walks.list (A:=X.A.in1) (I.ok.hd hc) _ p (eG lt) _,⟨⟨_,eQ _ rfl,rfl,rfl⟩,hl.push _⟩,λi v s' Q' E' hP hQ=>?_,λh' tk hk=>?_⟩)
 ·have hP:(bs.map Value.bool).toArray[i]? = some v:=hP;simp only[List.getElem?_toArray,cY] at hP;cases e:bs[i]? with
  |none=>rw[e] at hP;cases hP
  |some b=>
   have hQ:Q' ((bs[i]?).getD true) s':=hQ;rw[e] at hP hQ;cases hP;exact uk hQ
 have e:((List.range (bs.map Value.bool).toArray.size).all λi=>(bs[i]?).getD true)=bs.all id:=by
  rw[cK,au];exact LSm.range_all bs
 rw[e];exact#[.bl _,H,I.kept (LSm.kept_iter hk),Z,q]
theorem iA_(hc:X.calm=true):gn X (.builtin "any") (Ai X.K λbs=>bs.any id):=by
 intro pins s σ H xs us Q I r h;let#[p,bs,rfl,hp,q]:=h;let#[u,rfl,ru]:=vals1 r;cases ru;let#[its,rv,pl,z]:=I.list hp;obtain rfl:=OF rv;let hl:=pl.isList;have lt:p<s.heap.objs.size:=by let#[_,e,_]:=hl;exact cy e
 apply call_any_walk (wpAny_pyIter_list hl #[s.heap.objs.size,[s.heap.objs.size,p],[s.heap.objs.size],(bs.map Value.bool).toArray.size,_,_,λi=>(bs[i]?).getD false,Z,Walks.list (A:=X.A.in1) (I.ok.hd hc) _ p (eG lt) _,#[#[_,eQ _ Z,Z,Z],hl.push _],λi v s' Q' E' hP hQ=>?_,λh' tk hk=>?_])
 ·have hP:(bs.map Value.bool).toArray[i]? = some v:=hP;simp only[List.getElem?_toArray,cY] at hP;cases e:bs[i]? with
  |none=>rw[e] at hP;cases hP
  |some b=>
   have hQ:Q' ((bs[i]?).getD false) s':=hQ;rw[e] at hP hQ;cases hP;exact uk hQ
 have e:((List.range (bs.map Value.bool).toArray.size).any λi=>(bs[i]?).getD false)=bs.any id:=by
  rw[cK,au];exact LSm.range_any bs
 rw[e];exact#[.bl _,H,I.kept (LSm.kept_iter hk),Z,q]
theorem SL:∀{ns:List Int} {vs:ak},Vals (ns.map V.int) vs->IntsAre vs ns
 |[],_,.nil=>.nil
 |n::ns,_,.cons h t=>by
  let#[tk,rfl]:=h;exact .cons _ _ (SL t)
inductive El (K:af) (xs:ag) (H:Hp) (Q:VK):Prop
 |mk:∀(p:Addr) (ns:List Int),xs=[.ref p]->dJ K H p (ns.map V.int)->0<ns.length->(∀m,m∈ns->(∀a∈ns,a<=m)->Q (.int m) H)->El K xs H Q
theorem iF_(hc:X.calm=true):gn X (.builtin "max") (El X.K):=by
 intro pins s σ H xs us Q I r h;let#[p,ns,rfl,hp,hn,q]:=h;let#[u,rfl,ru]:=vals1 r;cases ru;let#[its,rv,pl,z]:=I.list hp;let hi:=SL rv;let#[xs,e]:=hi.allInts.items;let hl:=pl.isList;have AJ:ns=xs.toList.map (·.1):=by rw[<- hi.numsOf,<- nums_intItems,<- e]
 have hsz:0<xs.size:=by
  let h3:=hn;rw[AJ] at h3;simpa using h3
 rw[e] at hl;apply max_intList (I.ok.hd hc) hl hsz λv h' tk hv hk=>?_;let#[t,rfl]:=intItems_at hv;let#[h1,h2]:=argBest_gt (numAt xs) (xs.size - 1);apply#[.int _,H,I.kept hk,#[t,Z],q _ ?_ λa ha=>?_]
 ·rw[AJ,numAt_eq];exact getD_mem (by rw[au,uG];omega)
 rw[AJ] at ha;let#[j,hj,rfl]:=mem_getD ha;rw[au,uG] at hj;rw[<- numAt_eq];exact h2 j Z1
end
end L2
namespace Ko
open PySem PySem.SeqAt PyProof.Rows
open AutoSeq1 (wpAny_loadPart')
open MeetsSeq MeetsSeq2 MeetsSeq3 SeqRoads2
theorem Z3(l b:Addr)(xs ys:Array Aa)(n m:Nat)(dl db:Option Addr)(sl sb:Array (Option Aa))(hs:xs.size=ys.size)(e:Nat->Bool)(k:Nat) :
  ∀i:Nat,xs.size - i=k->Meets (Builtin.«list.__eq__.loop» #[[.ref l,.ref b,rawInt i,rawInt 3],[]])
   (λA R s=>(s.heap.get? l=some { cls:=.type "list",dict:=dl,data:=.seq xs n,slots:=sl }/\s.heap.get? b=some { cls:=.type "list",dict:=db,data:=.seq ys m,slots:=sb }) /\
    (∀j (h1:j<xs.size) (h2:j<ys.size),EqAt A.in1 s xs[j] ys[j] (e j))/\R (.ok (.ret (.bool (!((List.range xs.size).drop i).all e)))) s):=by
 induction k with
 |zero=>
  intro i hk prog w A R s ⟨⟨gl,gb⟩,he,h⟩;let#[hp,g,d,tk,os]:=s
  wp_walk using qo gl,qo gb
  rw[show xs[((i:Nat):Int).toNat]? = none by simp;omega,show ys[((i:Nat):Int).toNat]? = none by simp;omega];rw[show (List.range xs.size).drop i=[] by simp;omega] at h
  wp_walk using qo gl,qo gb
  apply (show R (.ok (.ret (.bool (xs.size != ys.size)))) _ from ?_);rw[show (xs.size != ys.size)=false by simp[hs]];exact h
 |succ k ih=>
  intro i hk prog w A R s ⟨⟨gl,gb⟩,he,h⟩;let#[hp,g,d,tk,os]:=s
  wp_walk using qo gl,qo gb
  have z1:i<xs.size:=by omega
  have z2:i<ys.size:=by omega
  have q1:xs[((i:Nat):Int).toNat]? = some xs[i]:=by simp[z1]
  have q2:ys[((i:Nat):Int).toNat]? = some ys[i]:=by simp[z2]
  rw[show (List.range xs.size).drop i=i::(List.range xs.size).drop (i+1) by simp[List.drop_eq_getElem_cons,z1],List.all_cons] at h;rw[q1,q2];apply aF (he i z1 z2 prog w _ _ ?_);cases c:e i with
  |true=>
   rw[c] at h
   wp_walk
   rw[show ((i:Int)+1)=((i+1:Nat):Int) by omega];apply#[plainId_quiet plain_eq_loop _,codeAny_builtin entry_eq_loop ?_];rw[Around.under_plainId plain_eq_loop _];exact ih (i+1) Z1 prog w A R _ #[#[gl,gb],he,by simpa using h]
  |false=>
   rw[c] at h
   wp_walk using qo gl,qo gb
   rw[q1,q2]
   wp_walk
   simpa using h
theorem iK_(l b:Addr)(xs ys:Array Aa)(n m:Nat)(dl db:Option Addr)(sl sb:Array (Option Aa))(hs:xs.size=ys.size)(e:Nat->Bool) :
  Meets (Builtin.«list.__ne__» #[[.ref l,.ref b],[]])
   (λA R s=>(s.heap.get? l=some { cls:=.type "list",dict:=dl,data:=.seq xs n,slots:=sl }/\s.heap.get? b=some { cls:=.type "list",dict:=db,data:=.seq ys m,slots:=sb }) /\
    (∀j (h1:j<xs.size) (h2:j<ys.size),EqAt A.in1 s xs[j] ys[j] (e j))/\R (.ok (.ret (.bool (!(List.range xs.size).all e)))) s):=by
 intro prog w A R s ⟨⟨gl,gb⟩,he,h⟩;let#[hp,g,d,tk,os]:=s;let f3:=AutoSeq1.sub_list_list;have no:¬(xs.size != ys.size)=true:=by simp[hs]
 wp_walk using qo gl,qo gb
 apply#[plainId_quiet plain_eq_loop _,codeAny_builtin entry_eq_loop ?_];rw[Around.under_plainId plain_eq_loop _];exact Z3 l b xs ys n m dl db sl sb hs e _ 0 Z prog w A R _ #[#[gl,gb],he,by simpa using h]
theorem in_(l b:Addr)(xs ys:Array Aa)(n m:Nat)(dl db:Option Addr)(sl sb:Array (Option Aa))(hs:(xs.size != ys.size)=true) :
  Meets (Builtin.«list.__ne__» #[[.ref l,.ref b],[]])
   (λA R s=>(s.heap.get? l=some { cls:=.type "list",dict:=dl,data:=.seq xs n,slots:=sl }/\s.heap.get? b=some { cls:=.type "list",dict:=db,data:=.seq ys m,slots:=sb })/\R (.ok (.ret (.bool true))) s):=
 .of_wp λprog w A R s ⟨⟨gl,gb⟩,h⟩=>by
  let#[hp,g,d,tk,os]:=s;let f3:=AutoSeq1.sub_list_list
  wp_walk using qo gl,qo gb
  exact#[_,Z,h]
section
variable{prog:Ad}{w:Af}{A:Ag}{E:Aa->Ab->Prop}{s:Ab}
theorem pE{l b:Addr}{xs ys:Array Aa}{e:Nat->Bool}{Q:Aa->Ab->Prop}(hl:s.heap.IsList l xs)(hb:s.heap.IsList b ys)(hs:xs.size=ys.size)(hu:A.units<cLine)
  (he:∀j (h1:j<xs.size) (h2:j<ys.size),EqAt A.in1 s xs[j] ys[j] (e j)) (h:Q (.bool (!(List.range xs.size).all e)) s):wpAny (model prog w) A (compareOp .NotEq (.ref l) (.ref b)) Q E s:=by
 let#[#[c1,d1,t1,l1],o1,k1,n1,z1]:=id hl;let#[#[c2,d2,t2,l2],o2,k2,n2,z2]:=id hb;simp only at k1 z1 k2 z2;subst k1 z1 k2 z2;exact richCompare_meets_room (op:=.NotEq) #[_,o1,Z] #[_,o2,Z] F.slot_list_ne F.entry_list_ne (F.args_list_ne_2 _ _) (iK_ l b xs ys n1 n2 d1 d2 l1 l2 hs e) #[#[o1,o2],he,show Value.bool (!(List.range xs.size).all e)≠Value.notImplemented/\Q (.bool (!(List.range xs.size).all e)) s from #[(λx=>nomatch x),h]] hu
theorem gM{l b:Addr}{xs ys:Array Aa}{Q:Aa->Ab->Prop}(hl:s.heap.IsList l xs)(hb:s.heap.IsList b ys)(hs:(xs.size != ys.size)=true)(hu:A.units<cLine)(h:Q (.bool true) s):wpAny (model prog w) A (compareOp .NotEq (.ref l) (.ref b)) Q E s:=by
 let#[#[c1,d1,t1,l1],o1,k1,n1,z1]:=id hl;let#[#[c2,d2,t2,l2],o2,k2,n2,z2]:=id hb;simp only at k1 z1 k2 z2;subst k1 z1 k2 z2;exact richCompare_meets_room (op:=.NotEq) #[_,o1,Z] #[_,o2,Z] F.slot_list_ne F.entry_list_ne (F.args_list_ne_2 _ _) (in_ l b xs ys n1 n2 d1 d2 l1 l2 hs) #[#[o1,o2],show Value.bool true≠Value.notImplemented/\Q (.bool true) s from #[(λx=>nomatch x),h]] hu
end
end Ko
namespace L2
open PySem PySem.Spec PyProof.Rows PySem.W kX jg
abbrev Rp(D:Type):=Hp->V->D->Prop
structure p8 (X:Cx) (n:Nat) {D:Type} [DecidableEq D] (R:Rp D):Prop where
 eq:∀{pins:List (Addr × Obj)} {σ:St} {H:Hp} {s:Ab} {A:Ag} {x y:V} {u v:Aa} {d e:D},Inv X pins σ H s->RelV x u->RelV y v->R H x d->R H y e->A.units+n<cLine->SeqAt.EqAt A s u v (decide (d=e))
 one:∀{pins:List (Addr × Obj)} {σ:St} {H:Hp} {s:Ab} {x:V} {d e:D},Inv X pins σ H s->R H x d->R H x e->d=e
def rS:Rp Str:=λ_ x d=>x=.str d
def rZ:Rp Int:=λ_ x d=>x=.int d
def r2(K:af){D1 D2:Type}(R1:Rp D1)(R2:Rp D2):Rp (D1 × D2):=λH x d=>∃a u v,x=.ref a/\gE K H a [u,v]/\R1 H u d.1/\R2 H v d.2
def rL(K:af){D:Type}(R:Rp D):Rp (List D):=λH x ds=>∃a xs,x=.ref a/\dJ K H a xs/\Paired (R H) xs ds
section
variable{X:Cx}
theorem ic:p8 X 0 rS where
 eq:=λ{pins σ H s A x y u v d e} I ru rv hx hy hu=>by
  have hx:x=.str d:=hx;have hy:y=.str e:=hy;subst hx;subst hy;let q:=Gh (A:=A) (s:=s) ru rv Z Z
  have e2:mB (.str d) (.str e)=decide (d=e):=by
   show (d == e)=_;by_cases h:d=e
   ·subst h;simp
   simp[h]
  rwa [e2] at q
 one:=λ{pins σ H s x d e} I hx hy=>by
  have hx:x=.str d:=hx;have hy:x=.str e:=hy;rw[hx] at hy;exact V.str.inj hy
theorem O9:p8 X 0 rZ where
 eq:=λ{pins σ H s A x y u v d e} I ru rv hx hy hu=>by
  have hx:x=.int d:=hx;have hy:y=.int e:=hy;subst hx;subst hy;let q:=Gh (A:=A) (s:=s) ru rv Z Z
  have e2:mB (.int d) (.int e)=decide (d=e):=by
   show (d == e)=_;by_cases h:d=e
   ·subst h;simp
   simp[h]
  rwa [e2] at q
 one:=λ{pins σ H s x d e} I hx hy=>by
  have hx:x=.int d:=hx;have hy:x=.int e:=hy;rw[hx] at hy;exact V.int.inj hy
theorem Kc{h:Heap}{a:Addr}{its:Array Aa}(t:IsTup h a its):h.IsTuple a its:=t
theorem Gq{n m:Nat}{D1 D2:Type}[DecidableEq D1][DecidableEq D2]{R1:Rp D1}{R2:Rp D2}(c1:p8 X n R1)(c2:p8 X m R2):p8 X (max n m+1) (r2 X.K R1 R2) where
 one:=λ{pins σ H s x d e} I hx hy=>by
  let#[a,u,v,rfl,t,q1,q2]:=hx;let#[b,u',v',e0,t',Ii,Ih]:=hy;cases e0;let e1:=I.ip t t';cases e1;exact Prod.ext (c1.one I q1 Ii) (c2.one I q2 Ih)
 eq:=λ{pins σ H s A x y u v d e} I ru rv hx hy hu=>by
  let Co:=hx;let hy':=hy;let#[a,x1,x2,rfl,t,q1,q2]:=hx;let#[b,y1,y2,rfl,t',Ii,Ih]:=hy;cases ru;cases rv;by_cases S5:a=b
  ·subst S5;let e1:=I.ip t t';cases e1;have:d=e:=Prod.ext (c1.one I q1 Ii) (c2.one I q2 Ih);rw[b_ this];exact SeqAt.EqAt.same _
  let#[its,r,it,_]:=I.tuple t;let#[its',r',it',_]:=I.tuple t';let#[u1,u2,rfl,r1,r2]:=vals2 r;let#[w1,w2,rfl,YL,YJ]:=vals2 r'
  let key:=SeqAt.EqAt.of_refs S5 (SeqAt.RcAt.tuples (A:=A) (s:=s) (e:=λj=>if j=0 then decide (d.1=e.1) else decide (d.2=e.2)) (Kc it) (Kc it') Z1 λj h1 h2=>by
   match j,h1,h2 with
   |0,_,_=>exact c1.eq I r1 YL q1 Ii (by show A.units+1+n<cLine;omega)
   |1,_,_=>exact c2.eq I r2 YJ q2 Ih (by show A.units+1+m<cLine;omega))
  have e3:((List.range (min [u1,u2].toArray.size [w1,w2].toArray.size)).all (λj=>if j=0 then decide (d.1=e.1) else decide (d.2=e.2))&&[u1,u2].toArray.size == [w1,w2].toArray.size)=decide (d=e):=by
   show (decide (d.1=e.1)&&(decide (d.2=e.2)&&true)&&true)=_;by_cases h1:d.1=e.1
   ·by_cases h2:d.2=e.2
    ·have:d=e:=Prod.ext h1 h2;simp[this]
    have:¬d=e:=λz=>h2 (by rw[z]);simp[h1,h2,this]
   have:¬d=e:=λz=>h1 (by rw[z]);simp[h1,this]
  rw[e3] at key;exact key
theorem hJ{α β:Type}{F:α->β->Prop}:∀{l:List α} {m:List β},Paired F l m->∀(i:Nat) (h1:i<l.length) (h2:i<m.length),F l[i] m[i]
 |_,_,.cons h t,0,_,_=>h
 |_,_,.cons h t,i+1,h1,h2=>hJ t i ⇑h1 ⇑h2
theorem P7{D:Type}[DecidableEq D]:∀{ds es:List D},ds.length=es.length->((List.range ds.length).all λj=>decide (ds[j]? = es[j]?))=decide (ds=es):=λ{ds es} hl=>by
 by_cases h:ds=es
 ·subst h;simp
 rw[d_ h]
 have:∃i,i<ds.length/\ds[i]?≠es[i]?:=by
  apply Classical.byContradiction λhn=>h ?_;apply List.ext_getElem? ?_;intro i;by_cases hi:i<ds.length
  ·exact Classical.byContradiction λq=>hn #[i,hi,q]
  rw[List.getElem?_eq_none Z1,List.getElem?_eq_none Z1]
 let#[i,hi,q]:=this;rw[List.all_eq_false];exact#[i,by simpa using hi,by simpa using q]
theorem OC{D:Type}[DecidableEq D]{n:Nat}{R:Rp D}(c:p8 X n R){pins:List (Addr × Obj)}{σ:St}{H:Hp}{s:Ab}{A:Ag}(I:Inv X pins σ H s){xs ys:ag}{us vs:ak}{ds es:List D}(ru:Vals xs us)(rv:Vals ys vs)(hx:Paired (R H) xs ds)(hy:Paired (R H) ys es)(hu:A.units+n<cLine) :
  ∀j (h1:j<us.toArray.size) (h2:j<vs.toArray.size),SeqAt.EqAt A s us.toArray[j] vs.toArray[j] (decide (ds[j]? = es[j]?)):=λj h1 h2=>by
 let l1:=ru.length;let l2:=rv.length;let l3:=bK hx;let l4:=bK hy;simp only[cK] at h1 h2;let q:=c.eq (A:=A) I (hJ ru j Z1 h1) (hJ rv j Z1 h2) (hJ hx j Z1 Z1) (hJ hy j Z1 Z1) hu
 have e:decide (ds[j]? = es[j]?)=decide (ds[j]' Z1=es[j]' Z1):=by
  rw[bO Z1,bO Z1];by_cases z:ds[j]' Z1=es[j]' Z1
  ·simp[z]
  simp[z]
 rw[e];exact q
def vZ{D:Type}[DecidableEq D](R:Rp D)(neg:Bool):V->V->Hp->VK->Prop:=λx y H Q=>∃d e,R H x d/\R H y e/\Q (.bl (if neg then !decide (d=e) else decide (d=e))) H
theorem RV{n:Nat}{D:Type}[DecidableEq D]{R:Rp D}(c:p8 X n R)(hu:X.A.units+n+1<cLine):d6 X (compareOp .Eq) (vZ (rL X.K R) false):=by
 intro pins s σ H x y v u Q I rx ry h;let#[d,e,#[a,xs,rfl,t,q],#[b,ys,rfl,t',q'],hq]:=h;cases rx;cases ry;let#[us,r,pl,_]:=I.list t;let#[vs,r',tD,_]:=I.list t';let l1:=r.length;let l2:=r'.length;let l3:=bK q;let l4:=bK q';by_cases hl:d.length=e.length
 ·apply SeqAt.eq_listAt pl.isList tD.isList (by simp only[cK];omega) Z1 (OC c I r r' q q' (A:=X.A.in1) (by show X.A.units+1+n<cLine;omega)) #[.bl _,H,I,Z,?_];rw[show us.toArray.size=d.length by simp only[cK];omega,P7 hl];exact hq
 apply SeqAt.eq_list_lengthsAt pl.isList tD.isList (by simp only[cK,bne_iff_ne];omega) Z1 #[.bl _,H,I,Z,?_];have hq:Q (.bl (decide (d=e))) H:=hq;rwa [d_ (λz=>hl (by rw[z]))] at hq
theorem R6{n:Nat}{D:Type}[DecidableEq D]{R:Rp D}(c:p8 X n R)(hu:X.A.units+n+1<cLine):d6 X (compareOp .NotEq) (vZ (rL X.K R) true):=by
 intro pins s σ H x y v u Q I rx ry h;let#[d,e,#[a,xs,rfl,t,q],#[b,ys,rfl,t',q'],hq]:=h;cases rx;cases ry;let#[us,r,pl,_]:=I.list t;let#[vs,r',tD,_]:=I.list t';let l1:=r.length;let l2:=r'.length;let l3:=bK q;let l4:=bK q';have hq:Q (.bl (!decide (d=e))) H:=hq;by_cases hl:d.length=e.length
 ·apply Ko.pE pl.isList tD.isList (by simp only[cK];omega) Z1 (OC c I r r' q q' (A:=X.A.in1) (by show X.A.units+1+n<cLine;omega)) #[.bl _,H,I,Z,?_];rw[show us.toArray.size=d.length by simp only[cK];omega,P7 hl];exact hq
 apply Ko.gM pl.isList tD.isList (by simp only[cK,bne_iff_ne];omega) Z1 #[.bl _,H,I,Z,?_];rwa [d_ (λz=>hl (by rw[z]))] at hq
def Ah(K:af){D:Type}[DecidableEq D](R:Rp D)(neg:Bool):V->V->Hp->VK->Prop:=λx y H Q=>∃d es,R H x d/\rL K R H y es/\Q (.bl (if neg then !decide (d∈es) else decide (d∈es))) H
theorem Sa{D:Type}[DecidableEq D]{n:Nat}{R:Rp D}(c:p8 X n R){pins:List (Addr × Obj)}{σ:St}{H:Hp}{s:Ab}{A:Ag}(I:Inv X pins σ H s){x:V}{u:Aa}{d:D}(ru:RelV x u)(hx:R H x d)(hu:A.units+n<cLine):∀{ys:ag} {vs:ak} {es:List D},Vals ys vs->Paired (R H) ys es->
  ∃f:Aa->Bool,(∀w∈vs,SeqAt.EqAt A s w u (f w))/\vs.any f=decide (d∈es):=λ{ys vs es} rv hy=>by
 let f:Aa->Bool:=λw=>@decide (∃y e,RelV y w/\R H y e/\e=d) (Classical.propDecidable _)
 have sound:∀y w e,RelV y w->R H y e->f w=decide (e=d):=λy w e h1 h2=>by
  by_cases z:e=d
  ·rw[b_ z];exact @b_ _ (Classical.propDecidable _) #[y,e,h1,h2,z]
  rw[d_ z];apply @d_ _ (Classical.propDecidable _) λ⟨y',e',g1,g2,g3⟩=>z ?_;have:y'=y:=RelV.inj g1 h1;subst this;rw[<- g3];exact c.one I h2 g2
 apply#[f,?_,?_]
 ·induction rv generalizing es with
  |nil=>exact λw hw=>nomatch hw
  |cons h t ih=>
   cases hy with
   |cons g t'=>
    intro w hw;rcases cw.mp hw with rfl|hw
    ·rw[sound _ _ _ h g];exact c.eq I h ru g hx hu
    exact ih t' w hw
 induction rv generalizing es with
 |nil=>
  cases hy;simp
 |cons h t ih=>
  cases hy with
  |@cons _ e _ es g t'=>
   rw[List.any_cons,ih t',sound _ _ _ h g];by_cases z:e=d
   ·subst z;simp
   by_cases z2:d∈es
   ·simp[z2]
   have:¬d∈e::es:=λq=>by
    rcases cw.mp q with q|q
    ·exact z q.symm
    exact z2 q
   rw[d_ z,d_ z2,d_ this];rfl
theorem L_{n:Nat}{D:Type}[DecidableEq D]{R:Rp D}(c:p8 X n R)(hu:X.A.units+n+1<cLine):d6 X (compareOp .In) (Ah X.K R false):=by
 intro pins s σ H x y v u Q I rx ry h;let#[d,es,hx,#[a,ys,rfl,t,q],hq]:=h;cases ry;let#[us,r,pl,_]:=I.list t;let#[f,h1,h2]:=Sa c I (A:=X.A.in1) rx hx (by show X.A.units+1+n<cLine;omega) r q;apply SeqAt.in_listAt f pl.isList (λw hw=>h1 w ⇑hw) #[.bl _,H,I,Z,?_];rw[show us.toArray.any f=us.any f by simp,h2];exact hq
theorem UB{n:Nat}{D:Type}[DecidableEq D]{R:Rp D}(c:p8 X n R)(hu:X.A.units+n+1<cLine):d6 X (compareOp .NotIn) (Ah X.K R true):=by
 intro pins s σ H x y v u Q I rx ry h;let#[d,es,hx,#[a,ys,rfl,t,q],hq]:=h;cases ry;let#[us,r,pl,_]:=I.list t;let#[f,h1,h2]:=Sa c I (A:=X.A.in1) rx hx (by show X.A.units+1+n<cLine;omega) r q;apply SeqAt.notIn_listAt f pl.isList (λw hw=>h1 w ⇑hw) #[.bl _,H,I,Z,?_];rw[show us.toArray.any f=us.any f by simp,h2];exact hq
end
end L2
namespace L2
open PySem PySem.Spec PyProof.Rows PySem.W kX jg
section
variable{X:Cx}
inductive Eo (K:af) (xs:ag) (H:Hp) (Q:VK):Prop
 |mk:∀x T t b,xs=[x,.ty T]->d5 K H x t->PySem.W.kitOne K t (.type T)\b->Q (.bl b) H->Eo K xs H Q
theorem iJ:gn X (.builtin "isinstance") (Eo X.K):=by
 intro pins s σ H xs us Q I r h;let#[x,T,t,b,rfl,ty,e,q]:=h;let#[u,w',rfl,ru,iU]:=vals2 r;cases (show w'=Value.type T from iU);exact UL I ru ty e λtk=>#[.bl b,H,I.tok tk,Z,q]
inductive Vp (x:V) (y:V) (H:Hp) (Q:VK):Prop
 |mk:∀i j,x=.str i->y=.str j->Q (.bl (!decide (j.cps.toList<i.cps.toList))) H->Vp x y H Q
theorem U8:d6 X (compareOp .LtE) Vp:=by
 intro pins s σ H x y v u Q I rx ry h;let#[i,j,rfl,rfl,q]:=h;let#[t,rfl]:=rx;let#[t',rfl]:=ry;exact PySem.P.le_str ⟨.bl _,H,I,rfl,q⟩
theorem _Q{prog:Ad}{w':Af}{A:Ag}{E:Aa->Ab->Prop}{s:Ab}(l:Addr)(its:Array Aa)(n:Nat)(k:Int)(t:Tok)(w:Aa)(h1:¬(!Builtin.List.listFitsIndex k)=true)(h2:its.size<=sizeLine){Q:Aa->Ab->Prop}
 (e:s.heap.get? l=some { cls:=.type "list",data:=.seq its n }) (f:Array Aa->Array Aa) (hf:f=λxs:Array Aa=>let k:=if k<0 then (k+((xs.size:Nat):Int)).toNat else min k.toNat xs.size;(xs.extract 0 k).push w++xs.extract k)
 (q:Q .none { s with heap:=s.heap.update l (Obj.mapSeq f) }):wpAny (model prog w') A (call (.builtin "list.insert") [.ref l,.int k t,w]) Q E s:=by
 subst hf;let hm:=@PySem.AutoListH.list_insert_list_int_val_1 l its n k t w h1 h2;have ty:s.TypeIs (.ref l) "list":=⟨_,e,rfl⟩;exact wpAny_call (codeAny_call_builtin F.slot_list_insert.plain F.entry_list_insert (F.slot_list_insert.check _ _ _ _ _ _ _ _ ty (F.args_list_insert_3 _ _ _) (hm prog w' A (wants Q E) s ⟨e,q⟩)))
inductive nQ (x:V) (vs:ag) (H:Hp) (Q:VK):Prop
 |mk:∀(l:Addr) (k:Nat) (xs:ag) (y:V),x=.ref l->vs=[.int k,y]->H l\.lst xs->k<=xs.length->xs.length<100000->Q .non (upd H l (.lst (xs.take k++y::xs.drop k)))->nQ x vs H Q
theorem Vz:Kn X "list.insert" nQ:=by
 intro pins s σ H x vs v us Q I rx rv h;let#[l,k,xs,y,rfl,rfl,hH,hk,hz,q]:=h;cases rx;let#[u,w,rfl,#[t,rfl],iU]:=rv.two;let#[z,its,n,r,hl,e]:=I.jQ hH;let sz:=bZ
 have fit:Builtin.List.listFitsIndex (k:Int)=true:=by
  unfold Builtin.List.listFitsIndex;rw[b_ Z1,b_ Z1];rfl
 apply _Q l its.toArray n (k:Int) t w (by rw[fit];exact gC) (by rw[cK];omega) e _ rfl ?_;apply⟨.non,_,I.wg (its':=its.take k++w::its.drop k) (f:=λxs=>let k':=if (k:Int)<0 then ((k:Int)+((xs.size:Nat):Int)).toNat else min (k:Int).toNat xs.size;(xs.extract 0 k').push w++xs.extract k') hH e ?_ (Vals.append (r.take k) (.cons iU (r.drop k))) ?_,rfl,q⟩
 ·have e1:(if (k:Int)<0 then ((k:Int)+((its.toArray.size:Nat):Int)).toNat else min (k:Int).toNat its.toArray.size)=k:=by
   rw[aB Z1];simp;omega
  dsimp only;rw[e1];apply Array.ext' ?_;simp[vC]
 rw[dM,gB,cX,pY];omega
inductive qL (mk:Addr->Addr->HO) (Q:VK) (x:V) (H1:Hp):Prop
 |mk:∀d kvs,x=.ref d->H1 d\.dK kvs->(∀v,H1 v=none->Q (.ref v) (upd H1 v (mk v d)))->qL mk Q x H1
def xy(mk:Addr->Addr->HO)(td:TE):TE:=λσ H Q=>td σ H λx H1=>qL mk Q x H1
theorem TQ{pins:List (Addr × Obj)}{σ:St}{H:Hp}{s:Ab}{d:Addr}{cls:String}(I:Inv X pins σ H s)(φ:Heap->Prop)(hφ:φ (s.heap.push { cls:=.type cls,data:=.fields (List.toArray [.ref d]) }))(hs:∀h1 h2:Heap,φ h1->(∀o,h1.get? s.heap.objs.size\o->h2.get? s.heap.objs.size\o)->φ h2) :
  Inv X pins σ (upd H s.heap.objs.size (.ext φ)) { s with heap:=s.heap.push { cls:=.type cls,data:=.fields (List.toArray [.ref d]) } }:=
 I.laid (t':=s.toks) (λ_ _ q=>ck _ q) (bj _) #[hφ,#[_,eQ _ Z],hs]
theorem GG{o:Expr}{td:TE}{apos cE:Pos}(ho:PE X o td)(gR:attributeBase o "items" X.env (eval o X.env)=eval o X.env:=by rfl)(jV:(apos.endLine == cE.line)=true:=by rfl):PE X (.Call (.Attribute o "items" apos) [] [] cE) (xy pR td):=by
 intro pins s σ H Q I h;apply wpAny_Call_method0_late gR jV (a_ (ho pins s σ H _ I h) λv s1 ⟨x,H1,I1,r1,d,kvs,e,hd,q⟩=>?_);subst e;cases r1;let#[t1,t2,t3]:=RU I1 (.inl #[kvs,.inl hd]);let#[_,_,vs,rel,dd]:=CJ I1.aJ hd;apply#["dict","dict.items",PySem.F.plainAttrs_dict,PySem.F.slot_dict_items,PySem.F.type_dict_items,t1,t2,Calls.callWith_builtin Z (PySem.evalArgs_none ?_)];apply call_meetsIn PySem.F.slot_dict_items t1 PySem.F.entry_dict_items (PySem.F.args_dict_items_1 _) (meets_dict_items (fG X.prog X.w) d t3) #[#[vs,dd],?_];exact#[.ref _,_,TQ I1 _ #[_,eQ _ Z,Z,Z] λh1 h2 ⟨o,e,r⟩ k=>#[o,k o e,r],Z,q _ I1.fresh]
theorem gX_{o:Expr}{td:TE}{apos cE:Pos}(ho:PE X o td)(gR:attributeBase o "values" X.env (eval o X.env)=eval o X.env:=by rfl)(jV:(apos.endLine == cE.line)=true:=by rfl):PE X (.Call (.Attribute o "values" apos) [] [] cE) (xy BV td):=by
 intro pins s σ H Q I h;apply wpAny_Call_method0_late gR jV (a_ (ho pins s σ H _ I h) λv s1 ⟨x,H1,I1,r1,d,kvs,e,hd,q⟩=>?_);subst e;cases r1;let#[t1,t2,t3]:=RU I1 (.inl #[kvs,.inl hd]);let#[_,_,vs,rel,dd]:=CJ I1.aJ hd;apply#["dict","dict.values",PySem.F.plainAttrs_dict,PySem.F.slot_dict_values,PySem.F.type_dict_values,t1,t2,Calls.callWith_builtin Z (PySem.evalArgs_none ?_)];apply call_meetsIn PySem.F.slot_dict_values t1 PySem.F.entry_dict_values (PySem.F.args_dict_values_1 _) (meets_dict_values (fG X.prog X.w) d t3) #[#[vs,dd],?_];exact#[.ref _,_,TQ I1 _ #[_,eQ _ Z,Z,Z] λh1 h2 ⟨o,e,r⟩ k=>#[o,k o e,r],Z,q _ I1.fresh]
end
section
variable{X:Cx}{pins:List (Addr × Obj)}{σ:St}{H:Hp}{s:Ab}{d:Addr}{kvs:List (Key × V)}
theorem Inv.freeze(I:Inv X pins σ H s)(h:H d\.dK kvs):∃o,s.heap.get? d\o/\Inv X pins σ (upd H d (.frz o (.dK kvs))) s:=by
 let#[z,hd,vs,rel,dd]:=CJ I.aJ h;let#[o,es,ep,ho,r]:=id dd;have other:∀{b u},H b\u->u≠.dK kvs->upd H d (.frz o (.dK kvs)) b\u:=λ{b u} e ne=>by rw[aC (cb e h ne)];exact e
 apply#[o,ho,I.un (h':=s.heap) (t':=s.toks) #[λb u q _ _ _=>q,λb u q _ _ _=>#[u.slots,q],λb u q n _=>?_,λb u q _=>#[u,q],λb xs q=>other q Z2,λb u v q=>other q Z2,λb ps q=>#[#[],by rw[Array.append_empty];exact other q Z2]] λb u q=>?_]
 ·by_cases e:b=d
  ·subst e;rw[h] at n;cases n
  rw[aC e];exact n
 by_cases e:b=d
 ·subst e;rw[aq] at q;cases q;exact#[ho,z,hd,vs,rel,dd]
 rw[aC e] at q;exact (I.aJ b u q).eA (λc v _ z=>z) (λc z=>other z Z2) λc xs z=>other z Z2
theorem Inv.pd{o:Obj}(I:Inv X pins σ H s)(h:H d\.frz o (.dK kvs))(h0:∀o u,X.jf d≠some (.frz o u)):Inv X pins σ (upd H d (.dK kvs)) s:=by
 have other:∀{b u},H b\u->(∀o v,u≠.frz o v)->upd H d (.dK kvs) b\u:=λ{b u} e ne=>by rw[aC (cb e h (ne _ _))];exact e
 have oh:∀{b},H b=none->upd H d (.dK kvs) b=none:=λ{b} e=>by
  rw[aC (λz=>by subst z;rw[h] at e;cases e)];exact e
 apply#[I.ok,I.os,I.bare,#[I.base.keep,I.base.slot,λb u q n hx=>oh (I.base.free b u q n hx),I.base.there,λb xs q=>other (I.base.gG b xs q) Z2,λb u v q=>?_,λb ps q=>?_],I.loc,I.cell,oh I.free,λx c e=>oh (I.d8 x c e),λp hp=>?_,λb u q=>?_,I.len]
 ·have:=I.base.fN b u v q;rw[aC (λz=>by subst z;exact h0 _ _ q)];exact this
 ·let#[more,e]:=I.base.gf b ps q;exact#[more,other e Z2]
 ·let#[a1,a2,a3]:=I.pin p hp;exact#[a1,oh a2,a3]
 by_cases e:b=d
 ·subst e;rw[aq] at q;cases q;let#[ho,z,hd,vs,rel,dd]:=I.aJ b _ h;exact#[z,hd,vs,rel,dd]
 rw[aC e] at q;exact (I.aJ b u q).eA (λc v _ z=>z) (λc z=>other z Z2) λc xs z=>other z Z2
end
def DU(t:TE):TE:=λσ H Q=>∃d kvs,H d\.dK kvs/\t σ H λv H1=>∃o,H1 d\.frz o (.dK kvs)/\Q v (upd H1 d (.dK kvs))
theorem _S{X:Cx}{e:Expr}{t:TE}(h:PE X e t):PE X e (DU t):=by
 intro pins s σ H Q I q;let#[d,kvs,hd,q]:=q;apply a_ (h pins s σ H _ I q) λu s' ⟨v,H1,I1,r,o,hf,q1⟩=>#[v,_,I1.pd hf (λo u z=>?_),r,q1];have:=I.base.fN _ _ _ z;rw[hd] at this;cases this
def Wn(d:Addr)(o:Obj)(kvs:List (Key × V)):It:=#[λi H=>H d\.frz o (.dK kvs)/\i<kvs.length,λi H x H'=>H'=H/\∃k,kvs[i]? = some (k,x),λi H=>H d\.frz o (.dK kvs)/\kvs.length<=i]
theorem Ka{X:Cx}{pins:List (Addr × Obj)}{σ:St}{H:Hp}{s:Ab}{d:Addr}{kvs:List (Key × V)}{o:Obj}{es:Array DictEntry}{ep:Nat}(I:Inv X pins σ H s)(h:H d\.frz o (.dK kvs))(ho:o.data=.dict es ep):∃vs,KV kvs vs/\s.heap.DictAt (fG X.prog X.w) d vs ep:=by
 let#[e,z,hd,vs,rel,o',Ji,Jj,e',c',d',r]:=I.aJ d _ h;rw[e] at e';cases e';rw[ho] at d';cases d';exact#[vs,rel,o,es,e,c',ho,r]
theorem RX{κ:Type}{kvs:List (κ × V)}{vs:List (κ × Aa)}(r:KV kvs vs):∀(i:Nat) {k:κ} {x:V},kvs[i]? = some (k,x)->∃u,vs[i]? = some (k,u)/\RelV x u:=by
 induction r with
 |nil=>intro i k x e;simp at e
 |@cons p q _ _ h _ ih=>
  intro i k x e;cases i with
  |zero=>
   have e:p=(k,x):=⇑e
   subst e;apply#[q.2,?_,h.2];rw[List.getElem?_cons_zero];have h1:k=q.1:=h.1;rw[h1]
  |succ i=>exact ih i ⇑e
theorem hz_{P:Ad}{w:Af}{K:af}{tg:Expr}(d it:Addr)(o:Obj)(kvs:List (Key × V)){es:Array DictEntry}{ep:Nat}(ho:o.data=.dict es ep):Turn P w K tg (Wn d o kvs) [it] it (λi h=>h.IsValIter it d i kvs.length ep) where
 mem:=by simp
 obj:=λi h st b hb=>by
  obtain rfl:b=it:=⇑hb
  let#[o,e,c,d]:=st;exact#[o,e,λv z=>by rw[d] at z;cases z]
 keep:=λi h h' st k=>st.at λo e=>k it Z2 o e
 item:=by
  intro X hP hw hK hc i pins s σ H E I hf st hg;subst hP hw hK;let#[hd,hi]:=hg;let#[vs,rel,dat]:=Ka I hd ho;obtain⟨⟨k,x⟩,hx⟩:∃p,kvs[i]? = some p:=#[kvs[i],by simp[hi]];let#[u,hu,ru]:=RX rel i hx;let#[f0,f1,f2,f3,f4,f5]:=hf it Z2;rw[rel.length] at st;apply wpAny_pyNext_values_item st dat hu λh' eV sb=>?_;have I1:Inv X pins σ H { s with heap:=h' }:=I.turned (t':=s.toks) (λb o hb e=>(sb.2 b hb).trans e) f0 f1 f3 f4 f5;let#[o',e,c,dd]:=id eV;apply#[u,Z,F2 (s:={ s with heap:=h' }) e c dd (by decide) #[x,H,I1,ru,#[Z,k,hx],?_,λb hb=>(hf b hb).1]];show h'.IsValIter it d (i+1) kvs.length ep;rw[rel.length];exact eV
 done:=by
  intro X hP hw hK hc i pins s σ H E I hf st hg;subst hP hw hK;let#[hd,hi]:=hg;let#[vs,rel,dat]:=Ka I hd ho;let#[f0,f1,f2,f3,f4,f5]:=hf it Z2;rw[rel.length] at st hi;exact wpAny_pyNext_values_end (I.ok.hd hc) st dat (by simp;omega) λh' eb=>#[Z,I.turned (t':=s.toks) (λb o hb e=>eb b o hb e) f0 f1 f3 f4 f5]
 self:=λ_ _ _ _ _ st h=>wpAny_pyIter_valiter st h
inductive tS (R:It->Hp->Prop) (x:V) (H1:Hp):Prop
 |mk:∀v d kvs,x=.ref v->H1 v\BV v d->H1 d\.dK kvs->(∀o,R (Wn d o kvs) (upd H1 d (.frz o (.dK kvs))))->tS R x H1
def E4(tv:TE):TI:=λσ H R=>tv σ H λx H1=>tS R x H1
theorem kJ_{X:Cx}{tg e:Expr}{tv:TE}(he:PE X e tv):PI X tg e (E4 tv):=by
 intro pins s σ H R I h;apply a_ (he pins s σ H _ I h) λu s1 ⟨x,H1,I1,r1,v,d,kvs,ex,hv,hd,q⟩=>?_;subst ex;cases r1;let#[iv,_,_]:=I1.aJ v _ hv;let#[o,ho,I2]:=I1.freeze hd;let#[z,_,vs,rel,o',es,ep,jU,c',dt,r]:=CJ I1.aJ hd;rw[ho] at jU;cases jU;have tY:v≠d:=cb hv hd nofun;apply wpAny_pyIter_values (knd:=fG X.prog X.w) (kvs:=vs) (ep:=ep) iv #[o,es,ho,c',dt,r] ?_;apply#[s1.heap.objs.size,[s1.heap.objs.size],_,_,_,Z,I2.kept (t':=s1.toks) λb o e=>ck _ e,hz_ d _ o kvs dt,?_,λb hb=>?_,q o]
 ·rw[rel.length];exact#[_,eQ _ Z,Z,Z]
 obtain rfl:b=s1.heap.objs.size:=⇑hb
 exact I2.jY (bj _) (I2.aJ.fresh (bj _))
def Qo(x:Str):It:=#[λi _=>i<x.cps.size,λi H v H'=>H'=H/\∃c,x.cps[i]? = some c/\v=.str ⟨(List.toArray [c])⟩,λi _=>x.cps.size<=i]
theorem fF_{P:Ad}{w:Af}{K:af}{tg:Expr}(it:Addr)(x:Str)(t:Tok):Turn P w K tg (Qo x) [it] it (λi h=>i<=x.cps.size/\h.IsStrIter it "str_ascii_iterator" x t i) where
 mem:=by simp
 obj:=λi h st b hb=>by
  obtain rfl:b=it:=⇑hb
  let#[o,e,c,d]:=st.2;exact#[o,e,λv z=>by rw[d] at z;cases z]
 keep:=λi h h' st k=>#[st.1,let #[o,ho,r]:=st.2;#[o,k it Z2 o ho,r]]
 item:=by
  intro X hP hw hK hc i pins s σ H E I hf st hg;subst hP hw hK;have hg:i<x.cps.size:=hg;let#[f0,f1,f2,f3,f4,f5]:=hf it Z2;apply wpAny_pyNext_ascii_item st.2 (c:=x.cps[i]) (by simp[hg]) λh' eV sb=>?_;have I1:Inv X pins σ H { s with heap:=h',toks:=s.toks+1 }:=I.turned (t':=s.toks+1) (λb o hb e=>(sb.2 b hb).trans e) f0 f1 f3 f4 f5;let#[o',e,c,dd]:=id eV;exact#[_,Z,F2 (s:={ s with heap:=h',toks:=s.toks+1 }) e c dd (by decide) #[.str ⟨(List.toArray [x.cps[i]])⟩,H,I1,#[_,Z],#[Z,_,by simp[hg],Z],#[hg,eV],λb hb=>(hf b hb).1]]
 done:=by
  intro X hP hw hK hc i pins s σ H E I hf st hg;subst hP hw hK;have hg:x.cps.size<=i:=hg;let#[f0,f1,f2,f3,f4,f5]:=hf it Z2;exact wpAny_pyNext_ascii_end (I.ok.hd hc) st.2 (by simp[hg]) λh' eb=>#[Z,I.turned (t':=s.toks) (λb o hb e=>eb b o hb e) f0 f1 f3 f4 f5]
 self:=λ_ _ _ _ _ st h=>wpAny_pyIter_striter_ascii st.2 h
theorem gx_{P:Ad}{w:Af}{K:af}{tg:Expr}(it:Addr)(x:Str)(t:Tok):Turn P w K tg (Qo x) [it] it (λi h=>i<=x.cps.size/\h.IsStrIter it "str_iterator" x t i) where
 mem:=by simp
 obj:=λi h st b hb=>by
  obtain rfl:b=it:=⇑hb
  let#[o,e,c,d]:=st.2;exact#[o,e,λv z=>by rw[d] at z;cases z]
 keep:=λi h h' st k=>#[st.1,let #[o,ho,r]:=st.2;#[o,k it Z2 o ho,r]]
 item:=by
  intro X hP hw hK hc i pins s σ H E I hf st hg;subst hP hw hK;have hg:i<x.cps.size:=hg;let#[f0,f1,f2,f3,f4,f5]:=hf it Z2;apply wpAny_pyNext_wide_item st.2 (c:=x.cps[i]) (by simp[hg]) λh' eV sb=>?_;have I1:Inv X pins σ H { s with heap:=h',toks:=s.toks+1 }:=I.turned (t':=s.toks+1) (λb o hb e=>(sb.2 b hb).trans e) f0 f1 f3 f4 f5;let#[o',e,c,dd]:=id eV;exact#[_,Z,F2 (s:={ s with heap:=h',toks:=s.toks+1 }) e c dd (by decide) #[.str ⟨(List.toArray [x.cps[i]])⟩,H,I1,#[_,Z],#[Z,_,by simp[hg],Z],#[hg,eV],λb hb=>(hf b hb).1]]
 done:=by
  intro X hP hw hK hc i pins s σ H E I hf st hg;subst hP hw hK;have hg:x.cps.size<=i:=hg;let#[f0,f1,f2,f3,f4,f5]:=hf it Z2;exact wpAny_pyNext_wide_end (I.ok.hd hc) st.2 (by simp[hg]) λh' eb=>#[Z,I.turned (t':=s.toks) (λb o hb e=>eb b o hb e) f0 f1 f3 f4 f5]
 self:=λ_ _ _ _ _ st h=>wpAny_pyIter_striter_wide st.2 h
inductive yg (R:It->Hp->Prop) (v:V) (H1:Hp):Prop
 |mk:∀x,v=.str x->R (Qo x) H1->yg R v H1
def LZ(tl:TE):TI:=λσ H R=>tl σ H λv H1=>yg R v H1
theorem _A{X:Cx}{tg l:Expr}{tl:TE}(hl:PE X l tl):PI X tg l (LZ tl):=by
 intro pins s σ H R I h;apply a_ (hl pins s σ H _ I h) λv s1 ⟨y,H1,I1,r1,x,e,q⟩=>?_;subst e;let#[t,rfl]:=r1
 have fp:∀b∈[s1.heap.objs.size],c8 X pins H1 b:=λb hb=>by
  obtain rfl:b=s1.heap.objs.size:=⇑hb
  exact I1.jY (bj _) (I1.aJ.fresh (bj _))
 cases ha:x.cps.all (· < 128)
 ·apply wpAny_pyIter_wide ha ?_;exact#[s1.heap.objs.size,[s1.heap.objs.size],_,_,H1,Z,I1.kept (t':=s1.toks) λb o e=>ck _ e,gx_ _ x t,#[gD _,_,eQ _ Z,Z,Z],fp,q]
 apply wpAny_pyIter_ascii ha ?_;exact#[s1.heap.objs.size,[s1.heap.objs.size],_,_,H1,Z,I1.kept (t':=s1.toks) λb o e=>ck _ e,fF_ _ x t,#[gD _,_,eQ _ Z,Z,Z],fp,q]
end L2
namespace L2
open PySem PySem.Spec PyProof.Rows PySem.W kX jg
theorem Lg{X:Cx}{f:Aa->Aa->Sem Aa}{K:af}(r:af->R2)(h:d6 X f (r X.K))(hK:X.K=K:=by rfl):d6 X f (r K):=by
 subst hK;exact h
theorem yR{X:Cx}{f:Aa}{K:af}(r:af->ag->Hp->VK->Prop)(h:gn X f (r X.K))(hK:X.K=K:=by rfl):gn X f (r K):=by
 subst hK;exact h
theorem tQ{X:Cx}{K:af}(r:af->R2)(h:DC X (r X.K))(hK:X.K=K:=by rfl):DC X (r K):=by
 subst hK;exact h
abbrev Em(K:af):=P9 K
abbrev sX(K:af):=Qc K
theorem PM{X:Cx}{K:af}(hK:X.K=K:=by rfl):gn X (.builtin "len") (Em K):=yR Em gc hK
theorem ur{X:Cx}{K:af}(hK:X.K=K:=by rfl):gn X (.type "tuple") (sX K):=yR sX dC_ hK
theorem Gg{X:Cx}{N:ae}{scope:Scope}{fp:ai}{s:Ab}{H:Hp}{es:List Expr}{k:Nat}{pos:Pos}{t:BZ}{n:Nat}(h:Hu (g7 X N scope fp s H) es t)(hc:X.calm=true:=by rfl)
  (hn:(assignEach es (g7 X N scope fp s H).env).length=n:=by rfl) (AB:(assignEach es (g7 X N scope fp s H).env).findIdx? (·.1)=none:=by rfl):PG (g7 X N scope fp s H) (.Tuple es k pos) (i3 X.K n t):=mE (X:=g7 X N scope fp s H) hc h hn AB
end L2
abbrev A9:PySem.Str:="ways_by_name"
abbrev wQ:PySem.Str:="_law_script"
abbrev Bm:PySem.Str:="checked_words"
abbrev Bo:PySem.Str:="pieces_by_hand"
abbrev wM:PySem.Str:="_law_stand_here"
abbrev Br:PySem.Str:="_law_names_here"
abbrev Bt:PySem.Str:="rising_neighbours"
abbrev qu:PySem.Str:="_law_digit"
abbrev Bc:PySem.Str:="neighbours_by_hand"
abbrev vk:PySem.Str:="strength_by_hand"
abbrev qm:PySem.Str:="weight_by_name"
abbrev qk:PySem.Str:="heaviest_first"
abbrev oN:PySem.Str:="level_by_hand"
abbrev Bb:PySem.Str:="abcdefghijklmnopqrstuvwxyz"
abbrev fo:PySem.Str:="_law_state"
abbrev iA:PySem.Str:="load_by_hand"
abbrev Bq:List PySem.Str:=["_law_goods",wM,"_law_rule_here","_law_numbers"]
abbrev kG:List PySem.Str:=["self","one","other"]
abbrev j7:List PySem.Str:=["goods","placed"]
abbrev uy:List PySem.Str:=[fo,"_law_base"]
abbrev jw:List PySem.Str:=["self","hand"]
abbrev uo:List PySem.Str:=["goods","stand","rule"]
abbrev fF:List PySem.Str:=["thing"]
abbrev vi:List PySem.Str:=["sight","rule","moment"]
abbrev vg:List PySem.Str:=["sight","hand","words"]
abbrev o7:List PySem.Str:=["_law_goods",wM,"_law_rule_here","_law_many"]
abbrev oO:List PySem.Str:=["self","thing"]
abbrev yG:List PySem.Str:=[fo,"_law_many"]
abbrev kb:List PySem.Str:=["sight","one","other","guard","given"]
abbrev yI:List PySem.Str:=["name","weight","ways"]
abbrev qi:List PySem.Str:=["one","other"]
abbrev gA:List PySem.Str:=["self"]
abbrev vh:List PySem.Str:=["goods","stand"]
abbrev CN:List PySem.Str:=["self","goods","placed"]
abbrev uM:List PySem.Str:=[fo,"_law_most_hands","_law_most_pieces"]
abbrev CM:List PySem.Str:=["sight","hand","guard"]
abbrev o6:List PySem.Str:=["goods","placed","rule","moment"]
abbrev o5:List PySem.Str:=["goods","stand","rule","moment"]
abbrev uL:List PySem.Str:=[fo,"_law_pieces_here","_law_hands"]
abbrev yM:List PySem.Str:=["self","piece"]
abbrev ka:List PySem.Str:=["goods","placed","rule"]
abbrev j_:List PySem.Str:=["paper","word","length"]
abbrev o4:List PySem.Str:=["self","piece","one","other"]
abbrev j9:List PySem.Str:=["thing","least","most"]
abbrev uK:List PySem.Str:=[fo,"_law_ties","_law_most"]
abbrev uJ:List PySem.Str:=["goods","placed","rule","t","long"]
abbrev oZ:List PySem.Str:=[fo,"_law_numbers"]
abbrev oY:List PySem.Str:=["_law_name",fo]
abbrev oX:List PySem.Str:=["guard","lead","burden"]
abbrev CT:List PySem.Str:=["thing","least"]
abbrev uI:List PySem.Str:=["goods","placed","rule","sums"]
abbrev uH:List PySem.Str:=["goods","stand","rule","paper"]
abbrev oW:List PySem.Str:=["_law_tie",fo]
abbrev oV:List PySem.Str:=["_law_one","_law_goods"]
abbrev oU:List PySem.Str:=["self","hands","ties"]
abbrev oS:List PySem.Str:=[wQ,"_law_k"]
abbrev oR:List PySem.Str:=["self","web","pieces"]
namespace Ev
open PySem L2
def top(i:Nat):Stmt:=PySem.Challenge.pw_evenpieces_k52_sums_spoilt.main.body.getD i (.Pass #[0,0,0,0])
abbrev vW:Stmt:=top 3
abbrev lK:Stmt:=top 5
abbrev sF:Stmt:=top 6
abbrev N8:Stmt:=top 7
abbrev sy:Stmt:=top 8
abbrev N7:Stmt:=top 9
abbrev sT:Stmt:=top 10
abbrev sN:Stmt:=top 63
abbrev zV:Stmt:=top 64
abbrev sk:Stmt:=top 65
abbrev sE:Stmt:=top 66
abbrev iS:Stmt:=top 68
def Aq(a b:Str):Bool:=decide (a.cps.toList<b.cps.toList)
def aR(a b:Str):Str × Str:=if Aq a b=true then (a,b) else (b,a)
section v
theorem bB{N p:List Str}{c:Scope}(h:bq N p c:=by exact#[Z,Z,Z,by decide +kernel,Z,by decide +kernel,by decide +kernel]):bq N p c:=h
theorem rT:bq qi qi (aX N8):=bB
def J5:Sp:=λvs H Q _=>∃a b,vs=[.str a,.str b]/\∀t,H t=none->Q (.ref t) (upd H t (.tup [.str (aR a b).1,.str (aR a b).2]))
theorem gi_{f:Addr}{fd:Ae}(F:bf K "lesser_first" "lesser_first" N8 f fd):!aj a9 1 f fd qi J5:=by
 exists F.bF rT;let#[a,b,rfl,k]:=h;apply#[_,aA (aU (Uc (bY hB_ (pv 0) (pv 1)) (eM %[0,1|0]) (eM %[1,0|0]))),?_];apply#[_,Z,_,Z,a,b,Z,Z,_,Z,?_];apply aL (λc=>?_) (λc=>?_)
 ·apply#[_,Z,_,Z,zl,λt ht=>?_];have:=k t ht;rwa [show aR a b=(a,b) from aH c] at this
 apply#[_,Z,_,Z,zl,λt ht=>?_];have:=k t ht;rwa [show aR a b=(b,a) from aB c] at this
theorem vO:bq j9 j9 (aX lK):=bB
def N3:Sp:=λvs H Q _=>∃i a b:Int,vs=[.int i,.int a,.int b]/\Q (.bl (decide (a<=i)&&decide (i<=b))) H
structure Bi (mg:Str->Option Aa):Prop where
 h_:mg "isinstance"=none
 int:mg "int"=none
 bool:mg "bool"=none
 str:mg "str"=none
 tuple:mg "tuple"=none
 list:mg "list"=none
 dict:mg "dict"=none
 len:mg "len"=none
 all:mg "all"=none
 sorted:mg "sorted"=none
 max:mg "max"=none
 range:mg "range"=none
 any:mg "any"=none
 enum:mg "enumerate"=none
 min:mg "min"=none
 abs:mg "abs"=none
structure aZ (P:Ad) (w:Af) (K:af) (mg:Str->Option Aa) (base:Heap) (k:Nat) (x:Str) (ps:ae) (sp:Sp):Prop where
 ex:∃f fd,aj P w K mg base a9 k f fd ps sp/\mg x\.ref f/\PySem.W.keepIn K (.ref f)=true/\qj K fd ps []
theorem aN{n_:Nat}{X:Cx}{k:Nat}{x:Str}{ps:ae}{sp:Sp}{p pos:Pos}{e:Expr}{es:List Expr}{t:TA}(c:aZ X.prog X.w X.K X.mg X.base k x ps sp)(hr:bc n_ X.A)(ha:PA X (e::es) t)(hg:Gl X x:=by rfl)(uc:(x == ("__debug__":Str))=false:=by decide)
  (he:starEach (e::es) X.env=(false,eval e X.env)::starEach es X.env:=by rfl) (jm:(backTo pos (starEach es X.env)).any (·.1)=false:=by rfl) (hk:k<=n_:=by decide):PE X (.Call (.Name x p) (e::es) [] pos) (xK sp [] E0 t):=by
 let#[f,fd,F,m,kp,b]:=c.ex;exact ka_ F (hr.mono hk) hg m kp b .nil oa ha uc he jm
theorem xN:bq fF fF (aX vW):=bB
def rB:Sp:=λvs H Q _=>∃i:Int,vs=[.int i]/\Q (.bl true) H
theorem kO_{f:Addr}{fd:Ae}(F:bf K "is_whole" "is_whole" vW f fd)(B:Bi mg):!aj a9 1 f fd fF rB:=by
 exists F.bF xN;let#[i,rfl,k]:=h;apply#[_,aA (aU (kD (cc iJ (by rfl) B.h_ ig %[0,iG (v:=.ty "int") (by rfl) B.int MQ Z|0]) (kF (R9 (cc iJ (by rfl) B.h_ ig %[0,iG (v:=.ty "bool") (by rfl) B.bool PyProof.Rows.Boot.«bool» rfl|0]))))),?_];exact#[_,Z,_,_,_,_,Z,.int i,Z,_,Z,bN #[_,Z,_,_,_,_,Z,.int i,Z,_,Z,k]]
theorem i8_{f:Addr}{fd:Ae}(F:bf K "is_whole_within" "is_whole_within" lK f fd)(cI:!aZ 1 "is_whole" fF rB):!aj a9 2 f fd j9 N3:=by
 exists F.bF vO;let#[i,a,b,rfl,k]:=h;apply#[_,aA (aU (kD (aN cI hr %[0|0]) (kF (Od pP pP (pv 1) (pv 0) (pv 2))))),?_];apply#[_,Z,i,Z,_,Z,bN ?_];apply#[_,Z,_,Z,_,_,Z,Z,_,Z,?_];apply aL (λc=>?_) (λc=>?_)
 ·apply#[_,Z,_,_,Z,Z,?_];rw[c] at k;exact k
 rw[show decide (a<=i)=false by simpa using c] at k;exact k
def jN(c:Nat):Bool:=decide (97<=c)&&decide (c<=122)
def ie(x:Str):Bool:=decide (1<=x.length)&&decide (x.length<=8)&&x.cps.toList.all jN
theorem zJ:bq fF fF (aX sF):=bB
def Jq:Sp:=λvs H Q _=>∃x:Str,vs=[.str x]/\x.length<=100000/\∀H',aa H H'->Q (.bl (ie x)) H'
theorem jT_{c:Nat}:(!decide ((⟨(List.toArray [c])⟩:Str).cps.toList<("a":Str).cps.toList))=decide (97<=c):=by
 have e:("a":Str).cps.toList=[97]:=by decide +kernel
 rw[e];show (!decide ([c] < [97]))=decide (97<=c);by_cases h:97<=c
 ·have:¬[c] < [97]:=by simp[List.cons_lt_cons_iff];omega
  simp[this,h]
 have:[c] < [97]:=by simp[List.cons_lt_cons_iff];omega
 simp[this,h]
theorem _P{c:Nat}:(!decide (("z":Str).cps.toList<(⟨(List.toArray [c])⟩:Str).cps.toList))=decide (c<=122):=by
 have e:("z":Str).cps.toList=[122]:=by decide +kernel
 rw[e];show (!decide ([122] < [c]))=decide (c<=122);by_cases h:c<=122
 ·have:¬[122] < [c]:=by simp[List.cons_lt_cons_iff];omega
  simp[this,h]
 have:[122] < [c]:=by simp[List.cons_lt_cons_iff];omega
 simp[this,h]
theorem k7_{f:Addr}{fd:Ae}(F:bf K "is_name" "is_name" sF f fd)(B:Bi mg){t8:Tok}(m8:mg "MOST_LETTERS"\.int 8 t8):!aj a9 1 f fd fF Jq:=by
 exists F.bF zJ;let#[x,rfl,hz,k]:=h;let sz:=bZ
 apply#[_,ax (bx (qq (dZ (di (cc iJ (by rfl) B.h_ ig %[0,iG (v:=.ty "str") (by rfl) B.str C3 Z|0])))
   (uC (dZ (T5 pP pP ay (cc e5_ (by rfl) B.len fP %[0|0]) (xh (v:=.int 8) (by rfl) m8 #[t8,Z]))))).pt (aA (aU qr)) bJ)
  (aA (aU (cc (T3 Z) (by rfl) B.all PyProof.Rows.Boot.«all» (eW
   (jy ["letter"] 1 [] (_A (pv 0)) (λfp s H=>eY (i:=0) (show (["letter"]:ae).Nodup by decide +kernel) Z (Or.inl Z)) (λfp s H=>gX) (λfp s H=>Od U8 U8 dc (pv 0) dc)) ba)))),?_]
 apply#[_,Z,_,_,_,_,Z,.str x,Z,_,Z,?_];apply aO ?_;apply#[_,Z,x,Z,by omega,_,_,Z,Z,_,Z,?_]
 have fin:(decide (1<=x.length)&&decide (x.length<=8))=false->∀H',aa H H'->Q (.bl false) H':=λe H' sm=>by
  have:=k H' sm;rwa [show ie x=false by unfold ie;rw[e];rfl] at this
 apply aL (λc=>?_) (λc=>?_)
 ·have c1:1<=x.length:=by
   have:(1:Int)<=(x.length:Int):=⇑c
   omega
  apply#[_,_,Z,Z,_,Z,?_];apply aL (λc2=>?_) (λc2=>?_)
  ·-- too long
   have c3:¬x.length<=8:=by
    have:¬((x.length:Int)<=8):=⇑c2
    omega
   exact fin (by rw[d_ c3,xr]) H (aa.refl H)
  have c3:x.length<=8:=by
   have:(x.length:Int)<=8:=⇑c2
   omega
  apply#[_,Z,x,Z,λD hD=>?_];apply De (own:=1) (fv:=[]) Z dW x.cps.size (λi out H'=>H'=upd H D (.lst out)/\out=((x.cps.toList.take i).map jN).map V.bl) #[Z,by simp] (λout H' ⟨e1,e2⟩=>?_) (λi out H' hi ⟨e1,e2⟩=>?_)
  ·apply#[bj _,D,x.cps.toList.map jN,Z,.of ?_,?_]
   ·rw[e1,aq,e2,vC Z2]
   have:=k H' (by rw[e1];exact aa.new hD);rwa [show ie x=(x.cps.toList.map jN).all id by unfold ie;rw[b_ c1,b_ c3,List.all_map];rfl] at this
  apply#[hi,λv H2 y=>?_];let#[eH,c,hc,rfl]:=y;subst eH;apply#[_,Z,Z,λNx hN=>dD ?_]
  have lo:out.length<sizeLine:=by
   rw[e2];have hs:x.length=x.cps.size:=rfl;simp only[au,cX,uG];omega
  have nx:Nx (upd H2 D (.lst (out++[V.bl (jN c)]))):=hN (out++[V.bl (jN c)]) _ #[by rw[e1,Tz],by
   rw[e2,iD];simp[hc]]
  have Wf:H2 D\.lst out:=by rw[e1,aq]
  apply#[_,Z,_,_,Z,Z,_,Z,?_];rw[jT_];apply aL (λc2=>?_) (λc2=>?_)
  ·apply#[_,_,Z,Z,out,Wf,lo,?_];rw[_P];rwa [show jN c=decide (c<=122) by unfold jN;rw[c2];rfl] at nx
  apply#[out,Wf,lo,?_];rwa [show jN c=false by unfold jN;rw[show decide (97<=c)=false by simpa using c2];rfl] at nx
 have c1:¬1<=x.length:=by
  have:¬((1:Int)<=(x.length:Int)):=⇑c
  omega
 exact#[_,Z,bN (fin (by rw[d_ c1];rfl) H (aa.refl H))]
end
end Ev
namespace Ev
open PySem L2
def kT(t:Str × Str):aD:=[.inr t.1,.inr t.2]
def yK(t:Str × Str):Prop:=ie t.1=true/\ie t.2=true/\t.1≠t.2
theorem JR{x:Str}(h:ie x=true):x.length<=8:=by
 unfold ie at h;simp only[xn,decide_eq_true_eq] at h;exact h.1.2
theorem yk{H:Hp}{p:Addr}{t:Str × Str}(h:H p\.tup ((kT t).map kV)):H p\.tup [.str t.1,.str t.2]:=h
section v
theorem zI:bq fF fF (aX sy):=bB
def rh:Sp:=λvs H Q _=>∃(p:Addr) (a b:Str),vs=[.ref p]/\H p\.tup [.str a,.str b]/\a.length<=100000/\b.length<=100000/\∀H',aa H H'->Q (.bl (ie a&&ie b&&!decide (a=b))) H'
theorem ke_{f:Addr}{fd:Ae}(F:bf K "is_pair_of_names" "is_pair_of_names" sy f fd)(B:Bi mg)(cN:!aZ 1 "is_name" fF Jq):!aj a9 2 f fd fF rh:=by
 exists F.bF zI;let#[p,a,b,rfl,hp,la,lb,k]:=h
 apply#[_,ax (bx (qq (dZ (di (cc iJ (by rfl) B.h_ ig %[0,iG (v:=.ty "tuple") (by rfl) B.tuple BO Z|0])))
   (uC (bY qp (cc gc (by rfl) B.len fP %[0|0]) ay))).pt (aA (aU qr)) bJ)
  (aA (aU (kD (aN cN hr %[bp c7 (pv 0) ay|0]) (kD (aN cN hr %[bp c7 (pv 0) ay|0])
   (kF (oM qp (bp c7 (pv 0) ay) (bp c7 (pv 0) ay))))))),?_]
 apply#[_,Z,_,_,_,_,Z,.tup hp,Z,_,Z,aO ?_];apply#[_,Z,p,_,Z,.inr (.of hp),Z,_,Z,?_];apply tR (show V.int ((2:Nat):Int)=V.int 2 from Z) ?_;apply#[_,Z,p,_,_,_,Z,Z,.of hp,Z,a,Z,la,λH1 s1=>#[_,Z,?_]];let yl:=s1 _ _ hp;apply aL (λc=>?_) (λc=>?_)
 ·apply#[_,Z,p,_,_,_,Z,Z,.of yl,Z,b,Z,lb,λH2 s2=>#[_,Z,?_]];let jq:=s2 _ _ yl;let kk:=k H2 (s1.trans s2);apply aL (λc2=>?_) (λc2=>?_)
  ·apply#[_,Z,p,_,_,_,Z,Z,.of jq,Z,_,Z,p,_,_,_,Z,Z,.of jq,Z,Z,?_];rw[c,c2] at kk
   have e:decide (V.str a=V.str b)=decide (a=b):=by
    by_cases z:a=b
    ·simp[z]
    simp[z]
   show Q (.bl (!decide (V.str a=V.str b))) H2;rw[e];exact kk
  rw[c,show ie b=false by simpa using c2] at kk;exact kk
 let kk:=k H1 s1;rw[show ie a=false by simpa using c] at kk;exact kk
theorem J3:bq ["ties","found","pair","tie"] ["ties"] (aX N7):=bB
def Oz(K:af):Sp:=λvs H Q _=>∃(l:Addr) (ys:ag) (ts:Xb),vs=[.ref l]/\H l\.lst ys/\bD K H ys (ts.map kT)/\(∀t∈ts,yK t)/\(ts.map λt=>kT (aR t.1 t.2)).Nodup/\ts.length<64 /\
 ∀l' zs H',aa H H'->H l'=none->H' l'\.lst zs->bD K H' zs (aY (ts.map λt=>kT (aR t.1 t.2)))->Q (.ref l') H'
theorem kU{α β γ:Type}{F:α->γ->Prop}{g:β->γ}{ys:List α}{ts:List β}(t:Paired F ys (ts.map g)){i:Nat}{y:α}(h:ys[i]? = some y):∃x,ts[i]? = some x/\F y (g x):=by
 have hi:i<ys.length:=(cq.mp h).1;let hl:=bK t;rw[au] at hl;have:=hJ t i hi (by rw[au];omega);rw[List.getElem_map] at this;apply#[ts[i],bO Z1,?_];rw[(cq.mp h).2] at this;exact this
theorem zg{κ:Type}[DecidableEq κ]{kvs:List (κ × V)}{k:κ}(h:k∉kvs.map (·.1)):bI kvs k=none:=by
 cases e:bI kvs k with
 |none=>rfl
 |some v=>exact absurd (jX_ e) h
theorem DA{α β:Type}(g:α->β){ts:List α}{i:Nat}{x:α}(h:ts[i]? = some x):(ts.take (i+1)).map g=(ts.take i).map g++[g x]:=by
 rw[iD,h,cj];rfl
theorem Hn{α β:Type}{g:α->β}{ts:List α}{i:Nat}{x:α}(h:(ts.map g).Nodup)(hx:ts[i]? = some x):g x∉(ts.take i).map g:=by
 intro m;have hi:i<ts.length:=(cq.mp hx).1;let#[y,hy,e]:=bH.mp m;let#[j,hj,e2]:=mO hy;rw[cX] at hj;rw[List.getElem_take] at e2;rw[qE,pZ,List.pairwise_iff_getElem] at h;apply h j i Z1 hi Z1 ?_;rw[e2,e,(cq.mp hx).2]
theorem hK_{f:Addr}{fd:Ae}(F:bf K "sorted_ties" "sorted_ties" N7 f fd)(B:Bi mg)(cP:!aZ 2 "is_pair_of_names" fF rh)(cL:!aZ 1 "lesser_first" qi J5):!aj a9 3 f fd ["ties"] (Oz K):=by
 exists F.bF J3;let#[l,ys,ts,rfl,hl,tu,good,nd,bS,k]:=h;let hu:=fV hr;let sz:=bZ
 apply#[_,ax (bx (dZ (di (cc iJ (by rfl) B.h_ ig %[0,iG (v:=.ty "list") (by rfl) B.list uA Z|0]))) eI bJ)
  (ax (bh 1 J3.nd ij_)
  (ax (eR eE Z (dN (pv 0)) (cm 2 J3.nd)
   (ax (bx (dZ (di (aN cP hr %[2|0]))) eI bJ)
   (ax (bh 3 J3.nd (aN cL hr %[bp c7 (pv 2) ay,bp c7 (pv 2) ay|0]))
   (ax (bx (yN (C0 hu (pv 3) (pv 1))) eI bJ)
   (aA (vq hu (pv 1) (pv 3) qr Z))))))
  (aA (aU (cc (eT_ Z) (by rfl) B.sorted JS %[1|0]))))),?_]
 apply#[_,Z,_,_,_,_,Z,.lst hl,Z,_,Z,aO ?_];intro d hd;have s0:aa H (upd H d (.dT [])):=aa.new hd;apply#[_,Z,l,Z,#[_,.of (s0 _ _ hl)],hU (K:=K) (a:=l) (xs:=ys) (λi σ H2=>∃(v3 v4:aI),σ=[some (.ref l),some (.ref d),v3,v4]/\aa H H2/\H2 d\.dT ((ts.take i).map λt=>(kT (aR t.1 t.2),V.bl true))) #[none,none,Z,s0,aq] (λi σ H2 _ ⟨_,_,_,s2,_⟩=>.of (s2 _ _ hl)) ?_ ?_]
 ·rintro i y σ H2 hy ⟨v3,v4,rfl,s2,hd2⟩;let#[t,ht,a,rfl,ha]:=kU tu hy;let#[g1,g2,g3]:=good t (dC ht);let iu:=s2 _ _ (yk ha);apply#[_,Z,a,t.1,t.2,Z,iu,by have:=JR g1;omega,by have:=JR g2;omega,λH3 s3=>#[_,Z,?_]];let jr:=s3 _ _ iu;let mw:=s3 _ _ hd2;rw[g1,g2,d_ g3];apply aO ?_;apply#[_,Z,a,_,_,_,Z,Z,.of jr,Z,_,Z,a,_,_,_,Z,Z,.of jr,Z,t.1,t.2,Z,λb hb=>?_];have s4:aa H3 (upd H3 b (.tup [.str (aR t.1 t.2).1,.str (aR t.1 t.2).2])):=aa.new hb;let SV:=s4 _ _ mw;have S0:upd H3 b (.tup [.str (aR t.1 t.2).1,.str (aR t.1 t.2).2]) b\.tup ((kT (aR t.1 t.2)).map kV):=aq
  have uW:bI ((ts.take i).map λt=>(kT (aR t.1 t.2),V.bl true)) (kT (aR t.1 t.2))=none:=zg (by
   rw[cg];exact Hn (g:=λt=>kT (aR t.1 t.2)) nd ht)
  apply#[_,Z,_,Z,d,_,Z,.t (k:=kT (aR t.1 t.2)) SV S0,_,Z,?_];rw[uW];apply aO ?_;apply#[_,Z,_,Z,d,_,Z,.t (k:=kT (aR t.1 t.2)) SV S0 (by rw[au,cX];omega),?_];apply#[_,_,Z,λc o e=>?_,?_]
  ·rw[aC (bw e hd)];exact s4 _ _ (s3 _ _ (s2 _ _ e))
  rw[aq,Dt _ uW,DA _ ht]
 rintro σ H2 ⟨v3,v4,rfl,s2,hd2⟩;let le:=bK tu;rw[au] at le;rw[le,eK] at hd2;apply#[_,Z,d,_,[true,true],Z,hd2,#[by decide,λk hk=>?_],by rw[au];exact bS,λl' zs hn tz=>?_]
 ·rw[cg] at hk;let#[t,_,rfl]:=bH.mp hk;rfl
 rw[cg] at tz;exact k l' zs _ (s2.trans (aa.new hn)) (s2.free hn) aq (tz.same (aa.new hn))
theorem zS:bq ["ties"] ["ties"] (aX sT):=bB
def rG(K:af):Sp:=λvs H Q _=>∃(l:Addr) (ys:ag) (ts:Xb),vs=[.ref l]/\H l\.lst ys/\bD K H ys (ts.map kT)/\ts.length<=1000 /\
 ∀l' zs H',aa H H'->H l'=none->H' l'\.lst zs->bD K H' zs (ts.map kT)->Q (.ref l') H'
theorem vA{K:af}{H:Hp}{ys:ag}{ks:List aD}{a:Addr}{k:aD}(t:bD K H ys ks)(h:H a\.tup (k.map kV)):bD K H (ys++[.ref a]) (ks++[k]):=Paired.snoc t #[a,Z,h]
theorem gY{H H1:Hp}{D:Addr}{o:HO}(h:aa H H1)(hD:H D=none):aa H (upd H1 D o):=λb u e=>by rw[aC (bw e hD)];exact h b u e
theorem iI{K:af}{H:Hp}{ys:ag}{ks:List aD}{D:Addr}{o:HO}{xs:ag}(t:bD K H ys ks)(hD:H D\.lst xs):bD K (upd H D o) ys ks:=Paired.bL t λy k ⟨a,z,q⟩=>#[a,z,by rw[aC (cb q hD nofun)];exact q]
theorem _Z{f:Addr}{fd:Ae}(F:bf K "ties_anew" "ties_anew" sT f fd):!aj a9 1 f fd ["ties"] (rG K):=by
 exists F.bF zS;let#[l,ys,ts,rfl,hl,tu,hz,k]:=h;let sz:=bZ
 apply#[_,aA (aU (jy qi 2 [] (dN (pv 0)) (λfp s H=>Gg (n:=2) (dB (eY (i:=0) (show (qi:ae).Nodup by decide +kernel) Z (Or.inl Z)) (dB (eY (i:=1) (show (qi:ae).Nodup by decide +kernel) Z (Or.inl Z)) jd)))
  (λfp s H=>gX) (λfp s H=>eM %[0,1|0]))),?_]
 apply#[_,Z,l,Z,#[_,.of hl],λD hD=>?_];let le:=bK tu;rw[au] at le;apply jz (own:=2) (fv:=[]) (xs:=ys) Z A2 (λi out H'=>aa H H'/\H' D\.lst out/\bD K H' out ((ts.take i).map kT)) #[aa.new hD,aq,.nil] (λi out H' _ ⟨sm,_,_⟩=>.of (sm _ _ hl)) (λout H' ⟨sm,hd,tz⟩=>?_) (λi x out H' hx ⟨sm,hd,tz⟩=>?_)
 ·rw[le,eK] at tz;exact k D out H' sm hD hd tz
 let#[t,ht,a,rfl,ha]:=kU tu hx;apply#[_,#[a,_,_,Z,.of (sm _ _ (yk ha)),Z],Z,λNx hN=>dD ?_];apply#[_,Z,_,Z,zl,λp hp=>#[out,(aa.new hp) _ _ hd,?_,?_]]
 ·have:=bK tz;rw[au,cX] at this;omega
 have jq:upd H' p (.tup [.str t.1,.str t.2]) p\.tup ((kT t).map kV):=aq;apply hN (out++[.ref p]) _ #[gY (sm.trans (aa.new hp)) hD,aq,?_];rw[DA _ ht];exact iI (vA (tz.same (aa.new hp)) jq) ((aa.new hp) _ _ hd)
end
end Ev
namespace Ev
open PySem L2
def kH(h:Str × Int):aD:=[.inr h.1,.inl h.2]
def yE(h:Str × Int):Prop:=ie h.1=true/\1<=h.2/\h.2<=1000
def Av:aD->Key × V
 |[k,v]=>(k,kV v)
 |_=>(.inl 0,.non)
def dg(hs:Xa):List (Key × V):=(aY (hs.map kH)).map Av
theorem Sv{H:Hp}{p:Addr}{t:Str × Int}(h:H p\.tup ((kH t).map kV)):H p\.tup [.str t.1,.int t.2]:=h
theorem Vm:∀(more kvs:List (Key × V)),(kvs.map (·.1)++more.map (·.1)).Nodup->BG kvs more=kvs++more
 |[],kvs,_=>by
  show kvs=kvs++[];rw[zk]
 |p::more,kvs,h=>by
  show BG (putK kvs p.1 p.2) more=kvs++p::more
  have hn:bI kvs p.1=none:=zg λm=>by
   rw[fE,ze] at h;exact h.2.2 p.1 m p.1 d9 Z
  rw[Dt _ hn,Vm more (kvs++[(p.1,p.2)])]
  ·simp
  simpa using h
theorem BL{more:List (Key × V)}(h:(more.map (·.1)).Nodup):BG [] more=more:=by
 rw[Vm more [] ⇑h];rfl
theorem Vj(hs:Xa):((dg hs).map (·.1)).Perm (hs.map λh=>Sum.inr h.1):=by
 unfold dg;rw[cg];let p:=(kP (hs.map kH)).map λk=>(Av k).1;rw[cg] at p;exact p
theorem VX{hs:Xa}(h:(hs.map (·.1)).Nodup):((dg hs).map (·.1)).Nodup:=by
 apply (Vj hs).nodup_iff.mpr ?_;have:(hs.map λh=>(Sum.inr h.1:Key))=(hs.map (·.1)).map Sum.inr:=by rw[cg];rfl
 rw[this,qE,pZ];exact h.imp λn e=>n (g_ e)
theorem mK{k:Nat}{A:Ag}(hr:bc k A)(n:Nat)(h:n+1<=64:=by decide):A.units+n+1<cLine:=by
 have:=hr.units;omega
section v
theorem zO:bq fF fF (aX sN):=bB
def rC:Sp:=λvs H Q _=>∃(p:Addr) (a:Str) (n:Int),vs=[.ref p]/\H p\.tup [.str a,.int n]/\a.length<=100000/\∀H',aa H H'->Q (.bl (ie a&&(decide (1<=n)&&decide (n<=1000)))) H'
theorem _W{f:Addr}{fd:Ae}(F:bf K "is_hand_with_strength" "is_hand_with_strength" sN f fd)(B:Bi mg)(cN:!aZ 1 "is_name" fF Jq)(cW:!aZ 2 "is_whole_within" j9 N3){tk:Tok}(mS:mg "MOST_STRENGTH"\.int 1000 tk) :
  aj P w K mg base a9 3 f fd fF rC:=by
 exists F.bF zO;let#[p,a,n,rfl,hp,la,k]:=h
 apply#[_,ax (bx (qq (dZ (di (cc iJ (by rfl) B.h_ ig %[0,iG (v:=.ty "tuple") (by rfl) B.tuple BO Z|0])))
   (uC (bY qp (cc gc (by rfl) B.len fP %[0|0]) ay))).pt (aA (aU qr)) bJ)
  (aA (aU (kD (aN cN hr %[bp c7 (pv 0) ay|0]) (kF (aN cW hr %[bp c7 (pv 0) ay,ay,xh (v:=.int 1000) (by rfl) mS #[tk,Z]|0]))))),?_]
 apply#[_,Z,_,_,_,_,Z,.tup hp,Z,_,Z,aO ?_];apply#[_,Z,p,_,Z,.inr (.of hp),Z,_,Z,?_];apply tR (show V.int ((2:Nat):Int)=V.int 2 from Z) ?_;apply#[_,Z,p,_,_,_,Z,Z,.of hp,Z,a,Z,la,λH1 s1=>#[_,Z,?_]];let yl:=s1 _ _ hp;let kk:=k H1 s1;apply aL (λc=>?_) (λc=>?_)
 ·apply#[_,Z,p,_,_,_,Z,Z,.of yl,Z,n,1,1000,Z,?_];rw[c] at kk;exact kk
 rw[show ie a=false by simpa using c] at kk;exact kk
theorem rN:bq ["hands","found","hand"] ["hands"] (aX zV):=bB
def xM(K:af):Sp:=λvs H Q _=>∃(l:Addr) (ys:ag) (hs:Xa),vs=[.ref l]/\H l\.lst ys/\bD K H ys (hs.map kH)/\(∀h∈hs,yE h)/\(hs.map (·.1)).Nodup/\1<=hs.length/\hs.length<=8 /\
 ∀d H',aa H H'->H d=none->H' d\.dK (dg hs)->Q (.ref d) H'
theorem _r{f:Addr}{fd:Ae}(F:bf K "checked_strengths" "checked_strengths" zV f fd)(B:Bi mg)(cH:!aZ 3 "is_hand_with_strength" fF rC){tk:Tok}(mH:mg "MOST_HANDS"\.int 8 tk):!aj a9 4 f fd ["hands"] (xM K):=by
 exists F.bF rN;let#[l,ys,hs,rfl,hl,tu,good,nd,h1,h8,k]:=h;let hu:=fV hr;let sz:=bZ;let le:=bK tu;rw[au] at le
 apply#[_,ax (bx (qq (dZ (di (cc iJ (by rfl) B.h_ ig %[0,iG (v:=.ty "list") (by rfl) B.list uA Z|0])))
   (uC (dZ (T5 pP pP ay (cc gc (by rfl) B.len fP %[0|0]) (xh (v:=.int 8) (by rfl) mH #[tk,Z]))))).pt eI bJ)
  (ax (bh 1 rN.nd GD)
  (ax (eR eE Z (dN (pv 0)) (cm 2 rN.nd)
   (ax (bx (dZ (di (aN cH hr %[2|0]))) eI bJ)
   (ax (bx (yN (C0 hu (bp c7 (pv 2) ay) (pv 1))) eI bJ)
   (aA (vq hu (pv 1) (bp c7 (pv 2) ay) (bp c7 (pv 2) ay) Z)))))
  (aA (aU (hG (BS Z) (by rfl) B.dict pS %[cc (g2_ Z) (by rfl) B.sorted JS %[GG (pv 1)|0]|0]))))),?_]
 apply#[_,Z,_,_,_,_,Z,.lst hl,Z,_,Z,aO ?_];apply#[_,Z,l,_,Z,.inl (.of hl),_,_,Z,Z,_,Z,?_];rw[b_ (show (1:Int)<=(ys.length:Int) by omega)];apply bN #[_,_,Z,Z,_,Z,?_];rw[b_ (show (ys.length:Int)<=8 by omega)];apply aO ?_;intro d hd;have s0:aa H (upd H d (.dK [])):=aa.new hd;apply#[_,Z,l,Z,#[_,.of (s0 _ _ hl)],hU (K:=K) (a:=l) (xs:=ys) (λi σ H2=>∃(v2:aI),σ=[some (.ref l),some (.ref d),v2]/\aa H H2/\H2 d\.dK ((hs.take i).map λh=>(Sum.inr h.1,V.int h.2))) #[none,Z,s0,aq] (λi σ H2 _ ⟨_,_,s2,_⟩=>.of (s2 _ _ hl)) ?_ ?_]
 ·rintro i y σ H2 hy ⟨v2,rfl,s2,hd2⟩;let#[t,ht,a,rfl,ha]:=kU tu hy;let#[g1,g2,g3]:=good t (dC ht);let iu:=s2 _ _ (Sv ha);apply#[_,Z,a,t.1,t.2,Z,iu,by have:=JR g1;omega,λH3 s3=>#[_,Z,?_]];let jr:=s3 _ _ iu;let mw:=s3 _ _ hd2;rw[g1,b_ g2,b_ g3];apply aO ?_
  have uW:bI ((hs.take i).map λh=>((Sum.inr h.1:Key),V.int h.2)) (Sum.inr t.1)=none:=zg (by
   rw[cg];let q:=Hn (g:=λh:Str × Int=>h.1) nd ht;intro m;let#[h,hh,e]:=bH.mp m;exact q (bH.mpr #[h,hh,g_ e]))
  apply#[_,Z,a,_,_,_,Z,Z,.of jr,Z,_,Z,d,_,Z,.k (k:=Sum.inr t.1) mw,_,Z,?_];rw[uW];apply aO ?_;apply#[_,Z,a,_,_,_,Z,Z,.of jr,Z,_,Z,_,Z,a,_,_,_,Z,Z,.of jr,Z,d,_,Z,.k (k:=Sum.inr t.1) mw (by rw[au,cX];omega),?_];apply#[_,Z,λc o e=>?_,?_]
  ·rw[aC (bw e hd)];exact s3 _ _ (s2 _ _ e)
  rw[aq,Dt _ uW,DA _ ht]
 rintro σ H2 ⟨v2,rfl,s2,hd2⟩;rw[le,eK] at hd2;apply#[_,Z,d,_,Z,hd2,λv hv=>?_];have s3:aa H2 (upd H2 v (pR v d)):=aa.new hv;apply#[v,d,_,hs.map λh=>(Sum.inr h.1,Sum.inl h.2),[true,false],Z,aq,s3 _ _ hd2,by rw[cg];rfl,#[by decide,λq hq=>?_],by rw[au];omega,λl' H4 zs s4 hn tz=>?_]
 ·rw[cg] at hq;let#[h,_,rfl]:=bH.mp hq;rfl
 have ez:((hs.map λh=>((Sum.inr h.1:Key),(Sum.inl h.2:Key))).map λk=>[k.1,k.2])=hs.map kH:=by rw[cg];rfl
 rw[ez] at tz
 have pz:kE K (upd H4 l' (.lst zs)) zs (dg hs):=by
  have shape:∀k∈aY (hs.map kH),∃a b,k=[a,b]:=λk hk=>by
   let#[h,_,e]:=bH.mp ((kP _).mem_iff.mp hk);exact#[_,_,e.symm]
  have gen:∀(ks:List aD) (zs:ag),(∀k∈ks,∃a b,k=[a,b])->bD K (upd H4 l' (.lst zs)) zs ks->kE K (upd H4 l' (.lst zs)) zs (ks.map Av):=λks=>by
   intro zs;generalize upd H4 l' (.lst zs)=HH;intro sh t
   induction t with
   |nil=>exact .nil
   |cons h t ih=>
    let#[a,b,rfl]:=sh _ d9;exact .cons h (ih λk hk=>sh k (eL _ hk))
  exact gen _ _ shape (tz.same (aa.new hn))
 apply#[l',zs,_,Z,aq,pz,?_,λd' jX=>?_]
 ·have:=(Vj hs).length_eq;simp only[au] at this;omega
 rw[BL (VX nd)];have Ei:aa H (upd H4 l' (.lst zs)):=(s2.trans (s3.trans s4)).trans (aa.new hn);exact k d' _ (Ei.trans (aa.new jX)) (Ei.free jX) aq
theorem Jo:bq ["ties","strengths","found","one","other"] ["ties","strengths"] (aX sk):=bB
inductive k9 (K:af) (vs:ag) (H:Hp) (Q:VK) (E:XK):Prop
 |mk:∀(l d:Addr) (ys:ag) (ts:Xb) (kvs:List (Key × V)),vs=[.ref l,.ref d]->H l\.lst ys->bD K H ys (ts.map kT)->(∀t∈ts,yK t)->(ts.map λt=>kT (aR t.1 t.2)).Nodup->ts.length<64->H d\.dK kvs->(∀t∈ts,(bI kvs (Sum.inr t.1)).isSome=true/\(bI kvs (Sum.inr t.2)).isSome=true)->(∀l' zs H',aa H H'->H l'=none->H' l'\.lst zs->bD K H' zs (aY (ts.map λt=>kT (aR t.1 t.2)))->Q (.ref l') H')->k9 K vs H Q E
theorem JD(a b:Str):aR a b=(a,b)∨aR a b=(b,a):=by
 unfold aR;split
 ·exact .inl rfl
 exact .inr rfl
theorem kI_{f:Addr}{fd:Ae}(F:bf K "checked_ties" "checked_ties" sk f fd)(B:Bi mg)(cS:!aZ 3 "sorted_ties" ["ties"] (Oz K)):!aj a9 4 f fd ["ties","strengths"] (k9 K):=by
 exists F.bF Jo;let#[l,d,ys,ts,kvs,rfl,hl,tu,good,nd,bS,hd,there,k]:=h;let hu:=fV hr
 apply#[_,ax (bh 2 Jo.nd (aN cS hr %[0|0]))
  (ax (bx (yN (IZ (pv 2))) eI bJ)
  (ax (eR eE Z (dN (pv 2)) (mE Z (dB (cm 3 Jo.nd) (dB (cm 4 Jo.nd) jd)))
   (aA (bx (qq (yN (UY hu (pv 3) (pv 1))) (uC (yN (UY hu (pv 4) (pv 1))))).pt eI bJ)))
  (aA (aU (pv 2))))),?_]
 apply#[_,Z,l,ys,ts,Z,hl,tu,good,nd,bS,λl' zs H1 s1 hf fJ tz=>?_];apply#[_,Z,_,Z,aO ?_];apply#[_,Z,l',Z,#[_,.of fJ],hU (K:=K) (a:=l') (xs:=zs) (λi σ H2=>∃(v3 v4:aI),σ=[some (.ref l),some (.ref d),some (.ref l'),v3,v4]/\H2=H1) #[none,none,Z,Z] (λi σ H2 _ ⟨_,_,_,e⟩=>by subst e;exact .of fJ) ?_ ?_]
 ·rintro i y σ H2 hy ⟨v3,v4,rfl,rfl⟩;let ez:=bK tz;have hi:i<zs.length:=(cq.mp hy).1;let#[a,e,ha]:=hJ tz i hi Z1;rw[(cq.mp hy).2] at e;subst e;let#[t,ht,e]:=bH.mp ((kP _).mem_iff.mp (kQ (show i<(aY (ts.map λt=>kT (aR t.1 t.2))).length by omega)));rw[<- e] at ha;let#[t1,t2]:=there t ht
  have both:(bI kvs (Sum.inr (aR t.1 t.2).1)).isSome=true/\(bI kvs (Sum.inr (aR t.1 t.2).2)).isSome=true:=by
   rcases JD t.1 t.2 with q|q
   ·rw[q];exact#[t1,t2]
   rw[q];exact#[t2,t1]
  let pM:=s1 _ _ hd;apply#[a,_,Z,.of (yk ha),Z,_,_,Z,_,_,Z,Z,?_];apply#[_,Z,_,Z,d,_,Z,.k (k:=Sum.inr (aR t.1 t.2).1) pM,_,Z,?_];rw[both.1];apply aO ?_;apply#[_,Z,_,Z,d,_,Z,.k (k:=Sum.inr (aR t.1 t.2).2) pM,_,Z,?_];rw[both.2];apply aO ?_;exact#[_,_,Z,Z]
 rintro σ H2 ⟨v3,v4,rfl,rfl⟩;exact#[_,Z,k l' zs _ s1 hf fJ tz]
def near(ns:ae)(ts:Xb)(n:Str):ae:=ns.filter λo=>decide (aR n o∈ts)
theorem lF:bq ["names","ties","found","hand"] ["names","ties"] (aX sE):=bB
def i6(ns:ae)(as:ai):List (Key × V):=(ns.zip as).map λp=>(Sum.inr p.1,V.ref p.2)
inductive lj (K:af) (vs:ag) (H:Hp) (Q:VK) (E:XK):Prop
 |mk:∀(l1 l2:Addr) (ns:ae) (zs:ag) (ts:Xb),vs=[.ref l1,.ref l2]->H l1\.lst (ns.map V.str)->H l2\.lst zs->bD K H zs (ts.map kT)->ns.Nodup->ns.length<=1000->l1≠l2->(∀d as H',aa H H'->H d=none->as.length=ns.length->H' d\.dK (i6 ns as)->(∀(i:Nat) n a,ns[i]? = some n->as[i]? = some a->H a=none/\H' a\.lst ((near ns ts n).map V.str))->Q (.ref d) H')->lj K vs H Q E
theorem NK{K:af}{H:Hp}:∀{ts:Xb} {zs:ag},bD K H zs (ts.map kT)->Paired (r2 K rS rS H) zs ts
 |[],_,.nil=>.nil
 |t::ts,_,.cons ⟨a,e,h⟩ r=>.cons #[a,_,_,e,.of (yk h),Z,Z] (NK r)
theorem jc{ns:ae}{i:Nat}{x:V}(h:(ns.map V.str)[i]? = some x):∃n,ns[i]? = some n/\x=.str n:=by
 rw[cY] at h;cases e:ns[i]? with
 |none=>rw[e] at h;cases h
 |some n=>rw[e] at h;exact#[n,Z,(eF h).symm]
theorem VV{α:Type}(p:α->Bool){l:List α}{i:Nat}{x:α}(h:l[i]? = some x):(l.take (i+1)).filter p=(l.take i).filter p++(if p x then [x] else []):=PySem.take_succ_filter p l i x h
theorem kb_{f:Addr}{fd:Ae}(F:bf K "neighbours_of_all" "neighbours_of_all" sE f fd)(cL:!aZ 1 "lesser_first" qi J5):!aj a9 2 f fd ["names","ties"] (lj K):=by
 exists F.bF lF;let#[l1,l2,ns,zs,ts,rfl,fJ,kB,tz,nd,h8,tY,k]:=h;let hu:=fV hr;let L5:=hr.units;let sz:=bZ
 apply#[_,ax (bh 2 lF.nd GD)
  (ax (eR eE Z (dN (pv 0)) (cm 3 lF.nd)
   (aA (vq hu (pv 2) (pv 3) (jy ["other","hand","ties"] 1 [3,1] (dN (pv 0)) (λfp s H=>eY (i:=0) (show (["other","hand","ties"]:ae).Nodup by decide +kernel) Z (Or.inl Z))
    (λfp s H=>To (bY (Lg (K:=K) (λK=>Ah K (r2 K rS rS) false) (L_ (Gq ic ic) (mK hr _))) (aN cL hr %[1,0|0]) (pv 2) (by with_unfolding_all rfl))) (λfp s H=>pv 0)) Z)))
  (aA (aU (pv 2)))),?_]
 intro d hd;have s0:aa H (upd H d (.dK [])):=aa.new hd
 apply#[_,Z,l1,Z,#[_,.of (s0 _ _ fJ)],hU (K:=K) (a:=l1) (xs:=ns.map V.str) (λi σ H2=>∃(v3:aI) (as:ai),σ=[some (.ref l1),some (.ref l2),some (.ref d),v3]/\aa H H2/\as.length=i/\H2 d\.dK (i6 (ns.take i) as) /\
  ∀(j:Nat) n a,ns[j]? = some n->as[j]? = some a->H a=none/\a≠d/\H2 a\.lst ((near ns ts n).map V.str)) #[none,[],Z,s0,Z,aq,λj n a _ e=>by simp at e] (λi σ H2 _ ⟨_,_,_,s2,_⟩=>.of (s2 _ _ fJ)) ?_ ?_]
 ·rintro i y σ H2 hy ⟨v3,as,rfl,s2,la,hd2,lists⟩;let#[n,hn,rfl]:=jc hy;have hi:i<ns.length:=(cq.mp hn).1
  have lk:(i6 (ns.take i) as).length=i:=by
   unfold i6;rw[au,List.length_zip,cX];omega
  apply#[_,Z,l1,Z,#[_,.of (s2 _ _ fJ)],λD hD=>?_];apply jz (own:=1) (fv:=[some (.str n),some (.ref l2)]) (xs:=ns.map V.str) Z dW (λj out H'=>aa H2 H'/\H' D\.lst out/\out=((ns.take j).filter λo=>decide (aR n o∈ts)).map V.str) #[aa.new hD,aq,Z] (λj out H' _ ⟨sm,_,_⟩=>.of (sm _ _ (s2 _ _ fJ))) (λout H' ⟨sm,dU,eo⟩=>?_) (λj x out H' hx ⟨sm,dU,eo⟩=>?_)
  ·rw[au,eK] at eo
   have uW:bI (i6 (ns.take i) as) (Sum.inr n)=none:=zg λm=>by
    unfold i6 at m;rw[cg] at m;let#[p,hp,e]:=bH.mp m;have e:p.1=n:=g_ e;let q:=Hn (g:=id) (by rw[List.map_id];exact nd) hn;rw[List.map_id] at q;exact q (e▸(List.of_mem_zip hp).1)
   have Rx:D≠d:=λz=>by subst z;rw[hD] at hd2;cases hd2
   apply#[_,Z,_,Z,d,_,Z,.k (k:=Sum.inr n) (sm _ _ hd2) Z1,?_];apply#[_,as++[D],Z,λc o e=>?_,by rw[dM,la];rfl,?_,λj n' a vc ha=>?_]
   ·rw[aC (bw e hd)];exact sm _ _ (s2 _ _ e)
   ·rw[aq,Dt _ uW];congr 2;unfold i6;rw[iD,hn,List.zip_append (by rw[cX];omega),cj];rfl
   by_cases hj:j<as.length
   ·rw[zj hj] at ha;let#[q1,q2,q3]:=lists j n' a vc ha;apply#[q1,q2,?_];rw[aC q2];exact sm _ _ q3
   have hj2:j=i:=by
    have:=(cq.mp ha).1;rw[dM] at this;simp only[zh] at this;omega
   subst hj2;rw[xp Z1,la,Nat.sub_self] at ha;have ha:D=a:=⇑ha
   subst ha;rw[hn] at vc;cases vc;apply#[s2.free hD,Rx,?_];rw[aC Rx,dU,eo];rfl
  let#[o,ho,rfl]:=jc hx;apply#[_,Z,Z,λNx hN=>?_];apply#[_,Z,_,Z,n,o,Z,λt ht=>?_];have s3:aa H' (upd H' t (.tup [.str (aR n o).1,.str (aR n o).2])):=aa.new ht;let XX:=((tz.same s2).same sm).same s3
  have lo:out.length<sizeLine:=by
   rw[eo,au];have:=List.length_filter_le (λo=>decide (aR n o∈ts)) (ns.take j);rw[cX] at this;omega
  apply#[_,Z,aR n o,ts,#[t,_,_,Z,.of aq,Z,Z],#[l2,zs,Z,.of (s3 _ _ (sm _ _ (s2 _ _ kB))),NK XX],_,Z,?_];apply aL (λc=>?_) (λc=>?_)
  ·apply#[_,Z,out,s3 _ _ dU,lo,hN _ _ #[gY (sm.trans s3) hD,aq,?_]];have c:decide (aR n o∈ts)=true:=⇑c
   rw[VV _ ho,aH c,cj,eo];rfl
  apply hN _ _ #[sm.trans s3,s3 _ _ dU,?_];have c:¬decide (aR n o∈ts)=true:=⇑c
  rw[VV _ ho,aB c,zk,eo]
 rintro σ H2 ⟨v3,as,rfl,s2,la,hd2,lists⟩;rw[au] at la hd2;rw[eK] at hd2;exact#[_,Z,k d as _ s2 hd la hd2 λj n a h1 h2=>#[(lists j n a h1 h2).1,(lists j n a h1 h2).2.2]]
end
end Ev
namespace Ev
open PySem L2
abbrev sM:Stmt:=ju iS 0
abbrev vX:Stmt:=ju iS 1
abbrev lX:Stmt:=ju iS 2
abbrev Pm:Stmt:=ju iS 3
abbrev lU:Stmt:=ju iS 4
abbrev sr:Stmt:=ju iS 5
abbrev lM:Stmt:=ju iS 6
abbrev sH:Stmt:=ju iS 7
def F4:aD->Str
 |.inr a::_=>a
 |_=>⟨#[]⟩
def Kw:aD->Str × Str
 |[.inr a,.inr b]=>(a,b)
 |_=>(⟨#[]⟩,⟨#[]⟩)
def az(hs:Xa):ae:=(aY (hs.map kH)).map F4
def aQ(ts:Xb):Xb:=(aY (ts.map λt=>kT (aR t.1 t.2))).map Kw
theorem Hm(ts:Xb):(aQ ts).map kT=aY (ts.map λt=>kT (aR t.1 t.2)):=by
 unfold aQ;rw[cg]
 have all:∀k∈aY (ts.map λt=>kT (aR t.1 t.2)),∃t:Str × Str,k=kT t:=λk hk=>by
  let#[t,_,e]:=bH.mp ((kP _).mem_iff.mp hk);exact#[_,e.symm]
 generalize aY (ts.map λt=>kT (aR t.1 t.2))=l at all
 induction l with
 |nil=>rfl
 |cons k l ih=>
  let#[t,rfl]:=all k d9;rw[fE,ih λk hk=>all k (eL _ hk)];rfl
theorem Vt(hs:Xa):∀k∈aY (hs.map kH),∃h:Str × Int,h∈hs/\k=kH h:=λk hk=>by
 let#[t,ht,e]:=bH.mp ((kP _).mem_iff.mp hk);exact#[t,ht,e.symm]
theorem Um(hs:Xa):((dg hs).map λkv=>kV kv.1)=(az hs).map V.str:=by
 unfold dg az;rw[cg,cg];apply uF λk hk=>?_;let#[h,_,rfl]:=Vt hs k hk;rfl
theorem T6(hs:Xa):(dg hs).map (·.1)=(az hs).map Sum.inr:=by
 unfold dg az;rw[cg,cg];apply uF λk hk=>?_;let#[h,_,rfl]:=Vt hs k hk;rfl
theorem iH(hs:Xa):(az hs).Perm (hs.map (·.1)):=by
 unfold az;let p:=(kP (hs.map kH)).map F4;rw[cg] at p;exact p
theorem UN{κ:Type}[DecidableEq κ]{kvs:List (κ × V)}{k:κ}(h:k∈kvs.map (·.1)):(bI kvs k).isSome=true:=by
 rw[<- Gr];let#[p,hp,e]:=bH.mp h;exact List.any_eq_true.mpr #[p,hp,b_ e]
theorem JI{hs:Xa}{n:Str}:(bI (dg hs) (Sum.inr n)).isSome=decide (n∈hs.map (·.1)):=by
 by_cases h:n∈hs.map (·.1)
 ·rw[b_ h];apply UN ?_;rw[T6];exact bH.mpr #[n,(iH hs).mem_iff.mpr h,Z]
 rw[d_ h,zg]
 ·rfl
 rw[T6];intro m;let#[x,hx,e]:=bH.mp m;cases e;exact h ((iH hs).mem_iff.mp hx)
theorem LD:¬((vk:Str)="sorted_pairs"):=by decide +kernel
theorem LC:¬((vk:Str)=Bc):=by decide +kernel
theorem Zw:¬(("sorted_pairs":Str)=Bc):=by decide +kernel
def cU(d1 l2 d3:Addr):List (Str × V):=aE Bc (.ref d3) (aE "sorted_pairs" (.ref l2) (aE vk (.ref d1) []))
theorem I_(d1 l2 d3:Addr):(cU d1 l2 d3).lookup (vk:Str)\.ref d1:=by
 unfold cU;rw[e_,aB LC,e_,aB LD,e_,aH Z]
theorem kS_(d1 l2 d3:Addr):(cU d1 l2 d3).lookup ("sorted_pairs":Str)\.ref l2:=by
 unfold cU;rw[e_,aB Zw,e_,aH Z]
theorem M4(d1 l2 d3:Addr):(cU d1 l2 d3).lookup (Bc:Str)\.ref d3:=by
 unfold cU;rw[e_,aH Z]
theorem iF(d1 l2 d3:Addr){m:Str}(h1:¬m=vk)(h2:¬m="sorted_pairs")(h3:¬m=Bc):(cU d1 l2 d3).lookup m=none:=by
 unfold cU;rw[e_,aB h3,e_,aB h2,e_,aB h1]
 all_goals rfl
structure fj (K:af) (C:Addr) (H:Hp) (p:Addr) (hs:Xa) (ts:Xb) (fp:ai):Prop where
 ex:∃(dx d1 l2 d3:Addr) (zs:ag) (as:ai),fp=p::d1::l2::d3::as/\H p\.ins C dx (cU d1 l2 d3)/\H d1\.dK (dg hs)/\H l2\.lst zs/\bD K H zs ((aQ ts).map kT)/\H d3\.dK (i6 (az hs) as)/\as.length=(az hs).length /\
  ∀(i:Nat) n a,(az hs)[i]? = some n->as[i]? = some a->H a\.lst ((near (az hs) (aQ ts) n).map V.str)
theorem fj.keep{K:af}{C:Addr}{H H':Hp}{p:Addr}{hs:Xa}{ts:Xb}{fp:ai}(W:fj K C H p hs ts fp)(k:∀b∈fp,∀o,H b\o->H' b\o)(kt:∀b xs,H b\.tup xs->H' b\.tup xs):fj K C H' p hs ts fp:=by
 let#[dx,d1,l2,d3,zs,as,rfl,h1,h2,h3,h4,h5,h6,h7]:=W.ex;apply#[dx,d1,l2,d3,zs,as,Z,k _ Z2 _ h1,k _ Z2 _ h2,k _ Z2 _ h3,Paired.bL h4 λy q ⟨a,e,z⟩=>#[a,e,kt _ _ z],k _ Z2 _ h5,h6,λi n a e1 e2=>k _ ?_ _ (h7 i n a e1 e2)];have:=dC e2;simp[this]
theorem fj.same{K:af}{C:Addr}{H H':Hp}{p:Addr}{hs:Xa}{ts:Xb}{fp:ai}(W:fj K C H p hs ts fp)(s:aa H H'):fj K C H' p hs ts fp:=W.keep (λb _ o e=>s b o e) λb xs e=>s b _ e
structure Good (hs:Xa) (ts:Xb):Prop where
 aJ:∀h∈hs,yE h
 yn:(hs.map (·.1)).Nodup
 h1:1<=hs.length
 h8:hs.length<=8
 tok:∀t∈ts,yK t
 QU:(ts.map λt=>kT (aR t.1 t.2)).Nodup
 vL:ts.length<64
 HL:∀t∈ts,t.1∈hs.map (·.1)/\t.2∈hs.map (·.1)
theorem Good.pB{hs:Xa}{ts:Xb}(G:Good hs ts):(az hs).Nodup:=(iH hs).nodup_iff.mpr G.yn
theorem Good.fI{hs:Xa}{ts:Xb}(G:Good hs ts):(az hs).length=hs.length:=by
 rw[(iH hs).length_eq,au]
theorem Gs(ts:Xb):(aQ ts).length=ts.length:=by
 unfold aQ;rw[au,(kP _).length_eq,au]
structure Txt (K:af) (mg:Str->Option Aa) (C:Addr):Prop where
 cl:mT K C
 nS:kC K C vk
 nP:kC K C "sorted_pairs"
 nN:kC K C Bc
section v
theorem lG:bq ["self","hands","ties","strengths","checked"] oU (aX sM):=bB
inductive Ga (K:af) (C:Addr) (vs:ag) (H:Hp) (Q:VK) (E:XK):Prop
 |mk:∀(p dx lh lt:Addr) (ys zs:ag) (hs:Xa) (ts:Xb),vs=[.ref p,.ref lh,.ref lt]->H p\.ins C dx []->H lh\.lst ys->bD K H ys (hs.map kH)->H lt\.lst zs->bD K H zs (ts.map kT)->Good hs ts->(∀fp H',(∀b o,H b\o->b≠p->H' b\o)->fj K C H' p hs ts fp->(∀b∈fp,b=p∨H b=none)->Q .non H')->Ga K C vs H Q E
theorem kK_{f C:Addr}{fd:Ae}(F:bf K "__init__" "Web.__init__" sM f fd)(T:Txt K mg C)(B:Bi mg)(cS:!aZ 4 "checked_strengths" ["hands"] (xM K))(cT:!aZ 4 "checked_ties" ["ties","strengths"] (k9 K))(cN:!aZ 2 "neighbours_of_all" ["names","ties"] (lj K)) :
  aj P w K mg base a9 5 f fd oU (Ga K C):=by
 exists F.bF lG;let#[p,dx,lh,lt,ys,zs,hs,ts,rfl,hp,pL,th,dz,tt,G,k]:=h
 apply#[_,ax (bh 3 lG.nd (aN cS hr %[1|0]))
  (ax (bh 4 lG.nd (aN cT hr %[2,3|0]))
  (ax (vw (pv 0) (pv 3) Z) (ax (vw (pv 0) (pv 4) Z)
  (aA (vw (pv 0) (aN cN hr %[hG (OZ Z) (by rfl) B.list uA %[3|0],4|0]) Z))))),?_]
 apply#[_,Z,lh,ys,hs,Z,pL,th,G.aJ,G.yn,G.h1,G.h8,λd1 H1 s1 f1 pM=>?_];apply#[_,Z,_,Z,lt,d1,zs,ts,_,Z,s1 _ _ dz,tt.same s1,G.tok,G.QU,G.vL,pM,λt ht=>?_,λl2 DH H2 s2 f2 kB tz=>?_]
 ·rw[JI,JI];exact#[b_ (G.HL t ht).1,b_ (G.HL t ht).2]
 let AV:=s2 _ _ pM;let jq:=s2 _ _ (s1 _ _ hp);have p1:p≠d1:=cb jq AV nofun;have p2:p≠l2:=cb jq kB nofun;apply#[_,Z,_,Z,p,C,dx,[],Z,jq,T.cl,T.nS,by show 0<1000;decide,?_];apply#[_,Z,_,Z,p,C,dx,_,Z,aq,T.cl,T.nP,by show 1<1000;decide,?_]
 let H3:Hp:=upd (upd H2 p (.ins C dx (aE vk (.ref d1) []))) p (.ins C dx (aE "sorted_pairs" (.ref l2) (aE vk (.ref d1) [])))
 have h3:∀{b o},H2 b\o->b≠p->H3 b\o:=λe ne=>by
  show upd (upd H2 p _) p _ _=_;rw[aC ne,aC ne];exact e
 have M7:H3 p\.ins C dx (aE "sorted_pairs" (.ref l2) (aE vk (.ref d1) [])):=aq
 have ED:∀{b},H3 b=none->H2 b=none:=λ{b} e=>by
  by_cases z:b=p
  ·subst z;rw[M7] at e;cases e
  have e:upd (upd H2 p _) p _ b=none:=e;rw[aC z,aC z] at e;exact e
 have QQ:bD K H3 DH ((aQ ts).map kT):=by
  rw[Hm];exact Paired.bL tz λy q ⟨a,e,z⟩=>#[a,e,h3 z (cb z jq nofun)]
 apply#[_,Z,d1,_,Z,.inl (h3 AV p1.symm),λl1 fJ=>?_];rw[Um];have s4:aa H3 (upd H3 l1 (.lst ((az hs).map V.str))):=aa.new fJ;have Lx:l1≠l2:=(bw (H:=H3) (h3 kB p2.symm) fJ).symm;apply#[_,Z,l1,l2,az hs,DH,aQ ts,Z,aq,s4 _ _ (h3 kB p2.symm),QQ.same s4,G.pB,by rw[G.fI];have:=G.h8;omega,Lx,λd3 as H5 s5 f5 la mw lists=>?_];let Cs:=s5 _ _ (s4 _ _ M7);apply#[_,Z,p,C,dx,_,Z,Cs,T.cl,T.nN,by show 2<1000;decide,?_]
 have up:∀{b o},H2 b\o->b≠p->upd H5 p (.ins C dx (cU d1 l2 d3)) b\o:=λe ne=>by
  rw[aC ne];exact s5 _ _ (s4 _ _ (h3 e ne))
 have oH:∀{b},upd H3 l1 (.lst ((az hs).map V.str)) b=none->H b=none:=λe=>s1.free (s2.free (ED (s4.free e)));have MS:d3≠p:=(bw (s4 _ _ M7) f5).symm;apply k (p::d1::l2::d3::as) _ (λb o e ne=>up (s2 _ _ (s1 _ _ e)) ne) #[dx,d1,l2,d3,DH,as,Z,aq,up AV p1.symm,up kB p2.symm,?_,?_,la,λi n a e1 e2=>?_] λb hb=>?_
 ·exact Paired.bL (QQ.same (s4.trans s5)) λy q ⟨a,e,z⟩=>#[a,e,by rw[aC (cb z Cs nofun)];exact z]
 ·rw[aC MS];exact mw
 ·let#[q1,q2]:=lists i n a e1 e2;rw[aC (cb q2 Cs nofun)];exact q2
 simp only[cw] at hb;rcases hb with rfl|rfl|rfl|rfl|hb
 ·exact .inl Z
 ·exact .inr f1
 ·exact .inr (s1.free f2)
 ·exact .inr (oH f5)
 let#[i,hi,e]:=mO hb;have e1:as[i]? = some b:=by rw[bO hi,e]
 have hn:i<(az hs).length:=by omega
 exact .inr (oH (lists i _ b (bO hn) e1).1)
end
end Ev
namespace Ev
open PySem L2
structure br (P:Ad) (w:Af) (K:af) (mg:Str->Option Aa) (base:Heap) (C:Addr) (k:Nat) (m:Str) (ps:ae) (sp:Sp):Prop where
 ex:∃f fd,aj P w K mg base a9 k f fd ps sp/\Meth K C m f/\qj K fd ps []
theorem ft{X:Cx}{C:Addr}{k:Nat}{m:Str}{ps:ae}{sp:Sp}{pos apos:Pos}{o e:Expr}{es:List Expr}{ta:TE}{t:TA}{pl:Sem Bool}(c:br X.prog X.w X.K X.mg X.base C k m ps sp)(cl:mT X.K C)(hr:bc k X.A)(he:PE X o ta)(ha:PA X (e::es) t)
  (AB:starEach (e::es) X.env=(false,eval e X.env)::starEach es X.env:=by rfl) (jm:(backTo pos (starEach es X.env)).any (·.1)=false:=by rfl)
  (ht:eval (.Call (.Attribute o m apos) (e::es) [] pos) X.env=(do
   let ov <- eval o X.env
   standAt apos.atName
   let (f,first) <- holding [ov] (getMethod ov m pl)
   callWith pos f first (backTo pos (starEach (e::es) X.env)) (backToKw pos (keywordEach [] X.env))):=by rfl) :
  PE X (.Call (.Attribute o m apos) (e::es) [] pos) (mZ C m sp [] E0 ta t):=by
 let#[f,fd,F,hm,b]:=c.ex;exact jG_ he cl hm F hr b .nil oa ha AB jm ht
theorem wV{X:Cx}{C:Addr}{k:Nat}{m:Str}{ps:ae}{sp:Sp}{pos apos:Pos}{o:Expr}{ta:TE}{pl:Sem Bool}(c:br X.prog X.w X.K X.mg X.base C k m ps sp)(cl:mT X.K C)(hr:bc k X.A)(he:PE X o ta)
  (ht:eval (.Call (.Attribute o m apos) [] [] pos) X.env=(do
   let ov <- eval o X.env
   standAt apos.atName
   let (f,first) <- holding [ov] (getMethod ov m pl)
   callWith pos f first (backTo pos (starEach [] X.env)) (backToKw pos (keywordEach [] X.env))):=by rfl) :
  PE X (.Call (.Attribute o m apos) [] [] pos) (mZ C m sp [] E0 ta k4):=by
 let#[f,fd,F,hm,b]:=c.ex;exact ia_ he cl hm F hr b .nil oa ht
theorem g8_{hs:Xa}(nd:(hs.map (·.1)).Nodup){x:Str}{n:Int}(h:(x,n)∈hs):bI (dg hs) (Sum.inr x)\.int n:=by
 have m:((Sum.inr x:Key),V.int n)∈dg hs:=by
  unfold dg;apply bH.mpr #[kH (x,n),(kP _).mem_iff.mpr (bH.mpr #[_,h,Z]),Z]
 let nk:=VX nd;generalize dg hs=kvs at m nk
 induction kvs with
 |nil=>cases m
 |cons p r ih=>
  let#[n1,n2]:=mL.mp nk;rcases cw.mp m with e|m
  ·rw[<- e];exact BP Z
  rw[BN (λe:p.1=Sum.inr x=>n1 (bH.mpr #[_,m,e.symm]))];exact ih m n2
theorem h7_{ns:ae}{as:ai}(nd:ns.Nodup)(la:as.length=ns.length){i:Nat}{n:Str}(hn:ns[i]? = some n):∃a,as[i]? = some a/\bI (i6 ns as) (Sum.inr n)\.ref a:=by
 induction ns generalizing as i with
 |nil=>simp at hn
 |cons x ns ih=>
  cases as with
  |nil=>cases la
  |cons b as=>
   let#[n1,n2]:=mL.mp nd;cases i with
   |zero=>
    have e:x=n:=⇑hn
    subst e;exact#[b,Z,BP Z]
   |succ i=>
    have hn:ns[i]? = some n:=⇑hn
    let#[a,h1,h2]:=ih n2 ⇑la hn;apply#[a,by simpa using h1,?_];show bI ((Sum.inr x,V.ref b)::i6 ns as) (Sum.inr n)=_;rw[BN λe=>n1 (by rw[show x=n from g_ e];exact dC hn)];exact h2
section v
theorem xO:bq oO oO (aX vX):=bB
inductive jG (K:af) (C:Addr) (vs:ag) (H:Hp) (Q:VK) (E:XK):Prop
 |mk:∀(p:Addr) (x:Str) (hs:Xa) (ts:Xb) (fp:ai),vs=[.ref p,.str x]->fj K C H p hs ts fp->Q (.bl (decide (x∈hs.map (·.1)))) H->jG K C vs H Q E
theorem _p{f C:Addr}{fd:Ae}(F:bf K "has_hand" "Web.has_hand" vX f fd)(T:Txt K mg C)(B:Bi mg):!aj a9 1 f fd oO (jG K C):=by
 exists F.bF xO;let#[p,x,hs,ts,fp,rfl,W,k]:=h;let hu:=fV hr;let#[dx,d1,l2,d3,zs,as,rfl,h1,h2,h3,h4,h5,h6,h7]:=W.ex;apply#[_,aA (aU (kD (cc iJ (by rfl) B.h_ ig %[1,iG (v:=.ty "str") (by rfl) B.str C3 Z|0]) (kF (F9 (C0 hu (pv 1) (dA (pv 0) Z)))))),?_];apply#[_,Z,_,_,_,_,Z,.str x,Z,_,Z,bN ?_];apply#[_,Z,_,Z,p,C,dx,_,_,Z,h1,T.cl,T.nS,I_ _ _ _,d1,_,Z,.k (k:=Sum.inr x) h2,?_];rw[JI];exact k
theorem vV:bq gA gA (aX lX):=bB
inductive Dg (K:af) (C:Addr) (vs:ag) (H:Hp) (Q:VK) (E:XK):Prop
 |mk:∀(p:Addr) (hs:Xa) (ts:Xb) (fp:ai),vs=[.ref p]->fj K C H p hs ts fp->(∀l,H l=none->Q (.ref l) (upd H l (.lst ((az hs).map V.str))))->Dg K C vs H Q E
theorem iU_{f C:Addr}{fd:Ae}(F:bf K "hands" "Web.hands" lX f fd)(T:Txt K mg C)(B:Bi mg):!aj a9 1 f fd gA (Dg K C):=by
 exists F.bF vV;let#[p,hs,ts,fp,rfl,W,k]:=h;let#[dx,d1,l2,d3,zs,as,rfl,h1,h2,h3,h4,h5,h6,h7]:=W.ex;apply#[_,aA (aU (hG (OZ Z) (by rfl) B.list uA %[dA (pv 0) Z|0])),?_];apply#[_,Z,p,C,dx,_,_,Z,h1,T.cl,T.nS,I_ _ _ _,d1,_,Z,.inl h2,λl hl=>?_];rw[Um];exact k l hl
theorem fh':bq jw jw (aX Pm):=bB
inductive Dw (K:af) (C:Addr) (vs:ag) (H:Hp) (Q:VK) (E:XK):Prop
 |mk:∀(p:Addr) (x:Str) (n:Int) (hs:Xa) (ts:Xb) (fp:ai),vs=[.ref p,.str x]->fj K C H p hs ts fp->(hs.map (·.1)).Nodup->(x,n)∈hs->Q (.int n) H->Dw K C vs H Q E
theorem eE_{f C:Addr}{fd:Ae}(F:bf K "strength" "Web.strength" Pm f fd)(T:Txt K mg C)(cH:!br C 1 "has_hand" oO (jG K C)):!aj a9 2 f fd jw (Dw K C):=by
 apply F.bF fh' λaP A outer s H vs Q E hr h=>?_;let#[p,x,n,hs,ts,fp,rfl,W,nd,hx,k]:=h;let hu:=fV hr;let#[dx,d1,l2,d3,zs,as,rfl,h1,h2,h3,h4,h5,h6,h7]:=id W.ex;apply#[_,ax (bx (dZ (di (ft cH T.cl hr (pv 0) %[1|0]))) eI bJ) (aA (aU (kL hu (dA (pv 0) Z) (pv 1)))),?_];apply#[_,Z,p,dx,_,Z,h1,iF _ _ _ Z0 Z0 Z0,_,Z,p,x,hs,ts,_,Z,W,_,Z,?_];rw[b_ (bH.mpr #[_,hx,Z])];apply aO ?_;apply#[_,Z,p,C,dx,_,_,Z,h1,T.cl,T.nS,I_ _ _ _,_,Z,d1,_,Z,?_,k];rw[<- g8_ nd hx];exact .k (k:=Sum.inr x) h2
theorem vS:bq jw jw (aX lU):=bB
inductive JE (K:af) (C:Addr) (vs:ag) (H:Hp) (Q:VK) (E:XK):Prop
 |mk:∀(p:Addr) (x:Str) (hs:Xa) (ts:Xb) (fp:ai),vs=[.ref p,.str x]->fj K C H p hs ts fp->(az hs).Nodup->x∈hs.map (·.1)->(∀l,H l=none->Q (.ref l) (upd H l (.lst ((near (az hs) (aQ ts) x).map V.str))))->JE K C vs H Q E
theorem R_{H:Hp}{hs:Xa}{ts:Xb}{as:ai}{x:Str}(nd:(az hs).Nodup)(hx:x∈hs.map (·.1))(la:as.length=(az hs).length)
  (h7:∀(i:Nat) n a,(az hs)[i]? = some n->as[i]? = some a->H a\.lst ((near (az hs) (aQ ts) n).map V.str)):∃a,bI (i6 (az hs) as) (Sum.inr x)\.ref a/\H a\.lst ((near (az hs) (aQ ts) x).map V.str):=by
 let#[i,hi,e]:=mO ((iH hs).mem_iff.mpr hx);have hn:(az hs)[i]? = some x:=by rw[bO hi,e]
 let#[a,h1,h2]:=h7_ nd la hn;exact⟨a,h2,h7 i x a hn h1⟩
theorem iv_{f C:Addr}{fd:Ae}(F:bf K "neighbours" "Web.neighbours" lU f fd)(T:Txt K mg C)(B:Bi mg)(cH:!br C 1 "has_hand" oO (jG K C)):!aj a9 2 f fd jw (JE K C):=by
 exists F.bF vS;let#[p,x,hs,ts,fp,rfl,W,nd,hx,k]:=h;let hu:=fV hr;let#[dx,d1,l2,d3,zs,as,rfl,h1,h2,h3,h4,h5,h6,h7]:=id W.ex;let#[a,e1,ha]:=R_ nd hx h6 h7;apply#[_,ax (bx (dZ (di (ft cH T.cl hr (pv 0) %[1|0]))) eI bJ) (aA (aU (hG J_ (by rfl) B.list uA %[kL hu (dA (pv 0) Z) (pv 1)|0]))),?_];apply#[_,Z,p,dx,_,Z,h1,iF _ _ _ Z0 Z0 Z0,_,Z,p,x,hs,ts,_,Z,W,_,Z,?_];rw[b_ hx];apply aO ?_;apply#[_,Z,p,C,dx,_,_,Z,h1,T.cl,T.nN,M4 _ _ _,_,Z,d3,.ref a,Z,?_,a,_,Z,.inl (.of ha),k];rw[<- e1];exact .k (k:=Sum.inr x) h5
theorem zG:bq kG kG (aX sr):=bB
theorem GE{H:Hp}:∀ns:ae,Paired (rS H) (ns.map V.str) ns
 |[]=>.nil
 |_::ns=>.cons Z (GE ns)
theorem vP:bq gA gA (aX lM):=bB
inductive NR (K:af) (C:Addr) (vs:ag) (H:Hp) (Q:VK) (E:XK):Prop
 |mk:∀(p:Addr) (hs:Xa) (ts:Xb) (fp:ai),vs=[.ref p]->fj K C H p hs ts fp->ts.length<64->(∀l zs H',aa H H'->H l=none->H' l\.lst zs->bD K H' zs ((aQ ts).map kT)->Q (.ref l) H')->NR K C vs H Q E
theorem i4_{f C:Addr}{fd:Ae}(F:bf K "ties" "Web.ties" lM f fd)(T:Txt K mg C)(cA:!aZ 1 "ties_anew" ["ties"] (rG K)):!aj a9 2 f fd gA (NR K C):=by
 exists F.bF vP;let#[p,hs,ts,fp,rfl,W,bS,k]:=h;let#[dx,d1,l2,d3,zs,as,rfl,h1,h2,h3,h4,h5,h6,h7]:=W.ex;apply#[_,aA (aU (aN cA hr %[dA (pv 0) Z|0])),?_];exact#[_,Z,p,C,dx,_,_,Z,h1,T.cl,T.nP,kS_ _ _ _,l2,zs,aQ ts,Z,h3,h4,by rw[Gs];omega,k]
theorem zL:bq gA gA (aX sH):=bB
def fS(hs:Xa)(ts:Xb):List Int:=(az hs).map λn=>((near (az hs) (aQ ts) n).length:Int)
inductive lB (K:af) (C:Addr) (vs:ag) (H:Hp) (Q:VK) (E:XK):Prop
 |mk:∀(p:Addr) (hs:Xa) (ts:Xb) (fp:ai),vs=[.ref p]->fj K C H p hs ts fp->0<(az hs).length->(az hs).length<=1000->(∀m H',aa H H'->m∈fS hs ts->(∀a∈fS hs ts,a<=m)->Q (.int m) H')->lB K C vs H Q E
theorem jK_{f C:Addr}{fd:Ae}(F:bf K "most_neighbours" "Web.most_neighbours" sH f fd)(T:Txt K mg C)(B:Bi mg):!aj a9 1 f fd gA (lB K C):=by
 exists F.bF zL;let#[p,hs,ts,fp,rfl,W,h0,h8,k]:=h;let sz:=bZ;let#[dx,d1,l2,d3,zs,as,rfl,h1,h2,h3,h4,h5,h6,h7]:=W.ex
 apply#[_,aA (aU (cc (iF_ Z) (by rfl) B.max PyProof.Rows.Boot.«max» %[_S (jy ["row"] 1 [] (kJ_ (gX_ (dA (pv 0) Z))) (λfp s H=>eY (i:=0) (show (["row"]:ae).Nodup by decide +kernel) Z (Or.inl Z)) (λfp s H=>gX)
  (λfp s H=>cc (PM (K:=K)) (by rfl) B.len fP %[0|0]))|0])),?_]
 apply#[d3,_,h5,_,Z,p,C,dx,_,_,Z,h1,T.cl,T.nN,M4 _ _ _,d3,_,Z,h5,λv hv=>?_];have s1:aa H (upd H v (BV v d3)):=aa.new hv;apply#[v,d3,_,Z,aq,s1 _ _ h5,λo D hD=>?_]
 have lk:(i6 (az hs) as).length=(az hs).length:=by
  unfold i6;rw[au,List.length_zip];omega
 have Hi:∀{b u},H b\u->u≠.dK (i6 (az hs) as)->upd (upd H v (BV v d3)) d3 (.frz o (.dK (i6 (az hs) as))) b\u:=λe ne=>by
  rw[aC (cb e h5 ne)];exact s1 _ _ e
 apply De (own:=1) (fv:=[]) Z dW (az hs).length (λi out H'=>aa (upd (upd H v (BV v d3)) d3 (.frz o (.dK (i6 (az hs) as)))) H'/\H' D\.lst out/\out=((fS hs ts).take i).map V.int) #[aa.new hD,aq,Z] (λout H' ⟨sm,dU,eo⟩=>?_) (λi out H' hi ⟨sm,dU,eo⟩=>?_)
 ·let hf:=sm _ _ (show upd (upd H v (BV v d3)) d3 (.frz o (.dK (i6 (az hs) as))) d3\_ from aq);have Dd:D≠d3:=cb dU hf nofun;have ll:(fS hs ts).length=(az hs).length:=by unfold fS;rw[au]
  rw[<- ll,eK] at eo;apply#[#[hf,by omega],o,hf,D,fS hs ts,Z,.of ?_,by omega,λm hm hle=>k m _ (λb u e=>?_) hm hle]
  ·rw[aC Dd,dU,eo]
  by_cases z:b=d3
  ·subst z;rw[aq,<- h5];exact e
  rw[aC z];exact sm _ _ (by rw[aC z];exact s1 _ _ e)
 let hf:=sm _ _ (show upd (upd H v (BV v d3)) d3 (.frz o (.dK (i6 (az hs) as))) d3\_ from aq);apply#[#[hf,by omega],λx H2 y=>?_];let#[eH,kk,hk]:=y;subst eH;have hn:(az hs)[i]? = some (az hs)[i]:=bO hi;have ha:as[i]? = some (as[i]' Z1):=bO Z1
 have ex:x=.ref (as[i]' Z1):=by
  unfold i6 at hk;rw[cY,bO (by rw[List.length_zip];omega),List.getElem_zip] at hk;exact (Prod.mk.inj (eF hk)).2.symm
 subst ex;let L8:=h7 i _ _ hn ha;apply#[_,Z,Z,λNx hN=>dD ?_];apply#[_,Z,_,_,Z,.inl (.of (sm _ _ (Hi L8 nofun))),out,dU,?_,hN _ _ #[gY sm hD,aq,?_]]
 ·rw[eo,au,cX];unfold fS;rw[au];omega
 rw[DA _ (show (fS hs ts)[i]? = some (((near (az hs) (aQ ts) (az hs)[i]).length:Nat):Int) by unfold fS;rw[cY,hn];rfl),eo,au]
end
end Ev
namespace L2
open PySem PySem.Spec PyProof.Rows PySem.W
def DD(K:af)(a:Addr):It:=
 #[λi H=>∃xs x,dJ K H a xs/\xs[i]? = some x,λi H y H'=>∃t x,y=.ref t/\H t=none/\(∀xs,dJ K H a xs->xs[i]? = some x)/\H'=upd H t (.tup [.int i,x]),λi H=>∃xs,dJ K H a xs/\xs.length=i]
theorem Inv.mX{X:Cx}{pins:List (Addr × Obj)}{σ:St}{H:Hp}{s:Ab}{h':Heap}{t':Nat}{fp:ai}{T:Addr}{xs:ag}{its:ak}(I:Inv X pins σ H s)(k:∀b o,b∉fp->s.heap.get? b\o->h'.get? b\o)(hf:∀b∈fp,c8 X pins H b)
  (hT:s.heap.objs.size<=T) (hz:xs.length<=sizeLine) (r:Vals xs its) (ht:IsTup h' T its.toArray/\∃o,h'.get? T\o/\o.dict=none):Inv X pins σ (upd H T (.tup xs)) { s with heap:=h',toks:=t' }:=by
 have fT:H T=none:=I.aJ.fresh hT;have nf:∀b u,H b\u->b∉fp:=λb u e hb=>by rw[(hf b hb).1] at e;cases e
 have old:∀{b u},H b\u->upd H T (.tup xs) b\u:=λe=>by rw[aC (bw e fT)];exact e
 apply I.step (g':=s.gens) (d':=s.drawn) (ch:=fp) (λb hb=>?_) (λb o _ _ hc e _=>k b o hc e) (λb o _ _ hc e _=>#[o.slots,k b o hc e]) (λb o _ e n=>?_)
  (λb o hc e=>#[o,k b o hc e]) (λb ys e=>old e) (λb o u e=>old e) (λb ps e=>#[#[],by rw[Array.append_empty];exact old e]) (λm hm=>?_) (λb u e=>?_) I.bare
 ·let#[f0,f1,f2,f3,f4,f5]:=hf b hb;exact#[f3,f1,f4,f5]
 ·rw[aC (λz=>by subst z;exact absurd (cy e) (Nat.not_lt.mpr hT))];exact n
 ·let#[o,es,ep,ho,r]:=hm;exact#[o,es,ep,k _ o (λhb=>(hf _ hb).2.1 Z) ho,r]
 by_cases z:b=T
 ·subst z;rw[aq] at e;cases e;exact#[hz,its,r,ht]
 rw[aC z] at e;apply (I.aJ b u e).eA (λc v hc q=>k c v ?_ q) (λ_ q=>old q) λ_ _ q=>old q;rcases hc with z|z
 ·rw[z];exact nf b u e
 exact nf c _ z
theorem Inv.iM{X:Cx}{pins:List (Addr × Obj)}{σ:St}{H:Hp}{s:Ab}{h':Heap}{t':Nat}{fp:ai}(I:Inv X pins σ H s)(k:∀b o,b∉fp->s.heap.get? b\o->h'.get? b\o)(hf:∀b∈fp,c8 X pins H b):Inv X pins σ H { s with heap:=h',toks:=t' }:=by
 have nf:∀b u,H b\u->b∉fp:=λb u e hb=>by rw[(hf b hb).1] at e;cases e
 apply I.step (g':=s.gens) (d':=s.drawn) (ch:=fp) (λb hb=>?_) (λb o _ _ hc e _=>k b o hc e) (λb o _ _ hc e _=>#[o.slots,k b o hc e]) (λb o _ e n=>n)
  (λb o hc e=>#[o,k b o hc e]) (λb ys e=>e) (λb o u e=>e) (λb ps e=>#[#[],by rw[Array.append_empty];exact e]) (λm hm=>?_) (λb u e=>?_) I.bare
 ·let#[f0,f1,f2,f3,f4,f5]:=hf b hb;exact#[f3,f1,f4,f5]
 ·let#[o,es,ep,ho,r]:=hm;exact#[o,es,ep,k _ o (λhb=>(hf _ hb).2.1 Z) ho,r]
 apply (I.aJ b u e).eA (λc v hc q=>k c v ?_ q) (λ_ q=>q) λ_ _ q=>q;rcases hc with z|z
 ·rw[z];exact nf b u e
 exact nf c _ z
theorem hO_{P:Ad}{w:Af}{K:af}{elts:List Expr}{k:Nat}{pos:Pos}(a e it:Addr)(h1:e≠it)(h2:a≠e)(h3:a≠it):Turn P w K (.Tuple elts k pos) (DD K a) [e,it] e (λi h=>(∃old,IsEnum h e it i old)/\h.IsListIter it a i) where
 mem:=by simp
 obj:=λi h st b hb=>by
  let#[#[old,q],o,e2,c,d]:=st;rcases cw.mp hb with rfl|hb
  ·exact#[_,q,λv z=>by cases z]
  obtain rfl:b=it:=⇑hb
  exact#[o,e2,λv z=>by rw[d] at z;cases z]
 keep:=λi h h' st kk=>by
  let#[#[old,q],dE]:=st;exact#[#[old,kk e Z2 _ q],dE.at λo q2=>kk it Z2 o q2]
 item:=by
  intro X hP hw hK hc i pins s σ H E I hf st hg;subst hP hw hK;let#[xs,x,hq,hx]:=hg;let#[its,rv,p,hz]:=I.list hq;let#[u,hu,ru]:=rv.get hx;let W:=WalksT.enumerate (prog:=X.prog) (w:=X.w) (A:=X.A) (I.ok.hd hc) e it a h1 h2 h3 its.toArray
  have hi:i<its.toArray.size:=by
   simp only[cK];exact (cq.mp hu).1
  let#[old,he]:=st.1;let hit:=st.2;apply wpAny_pyNext_enum_item he hit p.isList (x:=u) (by rw[List.getElem?_toArray];exact hu) h1 λh' ho AQ IX hsz hk=>?_;have MK:e<s.heap.objs.size:=cy he;have MA:it<s.heap.objs.size:=by let#[_,x,_]:=hit;exact cy x
  have mid:(∃x,IsEnumOut h' e it ((i:Int)+1) x s.heap.objs.size)/\h'.IsListIter it a (i+1)/\h'.IsList a its.toArray/\s.heap.objs.size≠e/\s.heap.objs.size≠it:=#[#[_,ho],AQ,p.isList.at λo x=>hk a o h2 h3 x,vD MK,vD MA];have kk:∀b o,b∉[e,it]->s.heap.get? b\o->h'.get? b\o:=λb o hb x=>hk b o (λe'=>hb (by simp[e'])) (λe'=>hb (by simp[e'])) x;have LY:h'.IsTuple s.heap.objs.size (List.toArray [.int i s.toks,u]):=#[_,IX,Z,_,Z];obtain⟨T,eT⟩:∃T,T=s.heap.objs.size:=#[_,Z];obtain⟨t,et⟩:∃t,t=s.toks:=#[_,Z];obtain⟨tk,ID⟩:∃tk,tk=s.toks+1:=#[_,Z];rw[<- eT] at LY mid IX ⊢;have hT:s.heap.objs.size<=T:=Nat.le_of_eq eT.symm;rw[<- et] at LY IX;rw[<- ID];apply#[_,Z,W.go elts k pos i T { s with heap:=h',toks:=tk } _ _ mid λjs eV LU=>?_];have nT:T∉[e,it]:=W.apart i T h' mid
  have LX:js.IsTuple T (List.toArray [.int i t,u]):=by
   let#[o,q,r]:=LY;exact#[o,LU T o nT q,r]
  have I1:Inv X pins σ (upd H T (.tup [.int i,x])) { s with heap:=js,toks:=tk }:=I.mX (t':=tk) (fp:=[e,it]) (its:=[.int i t,u]) (λb o hb q=>LU b o hb (kk b o hb q)) hf hT (zl) (.cons #[t,Z] (.cons ru .nil)) #[LX,_,LU T _ nT IX,Z];apply#[.ref T,_,I1,Z,#[T,x,Z,I.aJ.fresh hT,λys hy=>by rw[I.jR hy hq];exact hx,Z],#[?_,eV.2.1],λb hb=>?_]
  ·let#[old,q]:=eV.1;exact#[old,by simpa using q]
  rw[aC (λz:b=T=>nT (by rw[<- z];exact hb))];exact (hf b hb).1
 done:=by
  intro X hP hw hK hc i pins s σ H E I hf st hg;subst hP hw hK;let#[xs,hq,hx]:=hg;let#[its,rv,p,hz]:=I.list hq;let W:=WalksT.enumerate (prog:=X.prog) (w:=X.w) (A:=X.A) (I.ok.hd hc) e it a h1 h2 h3 its.toArray
  have hn:its.toArray.size=i:=by
   have:=rv.length;simp only[cK];omega
  apply W.done s _ _ (by rw[hn];exact#[st.1,st.2,p.isList]) λh' tk kk=>#[Z,I.iM (t':=tk) (fp:=[e,it]) kk hf]
 self:=λA i s Q E st h=>by
  let#[old,q]:=st.1;exact wpAny_pyIter_enum q h
inductive tV (K:af) (R:It->Hp->Prop) (vs:ag) (H1:Hp):Prop
 |mk:∀a,vs=[.ref a]->(∃xs,dJ K H1 a xs)->R (DD K a) H1->tV K R vs H1
def E7(K:af)(ta:TA):TI:=λσ H R=>ta σ H λvs H1=>tV K R vs H1
theorem N9{X:Cx}{elts:List Expr}{kk:Nat}{p2:Pos}{a:Expr}{ta:TA}{p pos:Pos}(hg:Gl X "enumerate")(hm:X.mg "enumerate"=none)(ha:PA X [a] ta)(hs:starEach [a] X.env=[(false,eval a X.env)]:=by rfl):PI X (.Tuple elts kk p2) (.Call (.Name "enumerate" p) [a] [] pos) (E7 X.K ta):=by
 intro pins s σ H R I h;apply Call_ (CY I hg hm boot_enumerate (PyProof.Rows.callWith_type1 (a_ (ha pos pins s σ H _ I h) λus s1 ⟨vs,H1,I1,r1,q1⟩=>?_) hs Z));let#[l,e,#[xs,hq],q]:=q1;subst e;cases r1 with
 |cons r rr=>
  cases rr;cases r;let#[its,rv,pl,hz]:=I1.list hq;have ll:l<s1.heap.objs.size:=by let#[_,e,_]:=pl.isList;exact cy e
  apply call_enumerate_list pl.isList λh' he hi hn kp=>?_;apply wpAny_pyIter_enum he ?_;apply#[s1.heap.objs.size+1,[s1.heap.objs.size+1,s1.heap.objs.size],_,_,H1,Z,I1.kept (t':=s1.toks) kp,hO_ l _ _ (Nat.succ_ne_self _) (eG (Nat.lt_succ_of_lt ll)) (eG ll),#[#[_,he],hi],λb hb=>?_,q]
  have e:s1.heap.objs.size<=b:=by
   rcases cw.mp hb with rfl|hb
   ·exact Nat.le_succ _
   obtain rfl:b=s1.heap.objs.size:=⇑hb
   exact bj _
  exact I1.jY e (I1.aJ.fresh e)
theorem Ul{K:af}{a:Addr}{xs:ag}{g:TG}{tb:TS}{D:Ends}{σ:St}{H:Hp}(Pv:Nat->St->Hp->Prop)(h0:Pv 0 σ H)(hl:∀i σ H,i<=xs.length->Pv i σ H->dJ K H a xs)
  (hs:∀i x σ H,xs[i]? = some x->Pv i σ H->∀t,H t=none->g (.ref t) σ (upd H t (.tup [.int i,x])) λgF H2=>tb { D with nx:=Pv (i+1),ct:=Pv (i+1),bk:=D.nx } gF H2) (hd:∀σ H,Pv xs.length σ H->D.nx σ H) :
  ∃W:Nat->Nat->St->Hp->Prop,(∃m,W 0 m σ H)/\∀i m σ H,W i m σ H->
   ((DD K a).stop i H/\D.nx σ H)∨((DD K a).go i H/\∃N:St->Hp->Prop,(∀bu H',N bu H'->∃m',m'<m/\W (i+1) m' bu H')/\∀x H',(DD K a).xv i H x H'->g x σ H' λgF H2=>tb { D with nx:=N,ct:=N,bk:=D.nx } gF H2):=by
 apply#[λi m σ H=>m=xs.length - i/\i<=xs.length/\Pv i σ H,#[xs.length,by simp,gD _,h0],?_];rintro i m σ H ⟨rfl,hi,p⟩;let q:=hl i σ H hi p;by_cases dz:i<xs.length
 ·apply .inr #[#[xs,xs[i],q,by simp[dz]],Pv (i+1),λbu H' p'=>#[xs.length - (i+1),by omega,Z,dz,p'],λx H' y=>?_];let#[t,x,rfl,ht,y,rfl]:=y;exact hs i x σ H (y xs q) p t ht
 have e:i=xs.length:=by omega
 subst e;exact .inl #[#[xs,q,Z],hd σ H p]
theorem M_(a b c:Str):E1 (.str a) [.str b,.str c]=(decide (b=a) || decide (c=a)):=by
 have e:∀x y:Str,mB (.str x) (.str y)=decide (x=y):=λx y=>by
  have:=Ti (a:=Sum.inr x) (b:=Sum.inr y) Z;rw[show mB (.str x) (.str y)=mB (kV (Sum.inr x)) (kV (Sum.inr y)) from Z,this];by_cases z:x=y
  ·simp[z]
  simp[z]
 unfold E1;simp only[List.any_cons,List.any_nil,Bool.or_false,e]
end L2
namespace L2
open PySem PySem.Spec PyProof.Rows
section
variable{M:Model}{A:Ag}{E:Aa->Ab->Prop}{s:Ab}{base:Heap}{env:Env}{outer:List Env}{L e:Addr}{cls cx fl:Aa}{Q:Unit->Ab->Prop}
end
end L2
namespace L2
open PySem PySem.Spec PyProof.Rows
theorem fe.here{P:Ad}{w:Af}{H:Hp}{h:Heap}{a:Addr}{o:HO}(x:fe P w H h a o):∃u,h.get? a\u:=by
 cases o with
 |lst xs=>let#[_,_,_,_,e]:=x;exact#[_,e]
 |tup xs=>let#[_,_,_,#[o,e,_],_]:=x;exact#[_,e]
 |dK kvs=>let#[_,_,_,_,o,_,_,e,_]:=x;exact#[_,e]
 |dT kvs=>let#[_,_,_,_,o,_,_,e,_]:=x;exact#[_,e]
 |set S n=>let#[o,_,_,_,e,_]:=x;exact#[_,e]
 |ins C dx fs=>let#[_,_,_,e,_]:=x;exact#[_,e]
 |own y=>exact x
 |xd fs=>let#[_,#[_,_,_,e,_],_]:=x;exact#[_,e]
 |rng lo hi=>let#[_,_,_,e]:=x;exact#[_,e]
 |frz ob u=>let#[e,_]:=x;exact#[_,e]
 |tbl ps=>exact#[_,show h.get? a\_ from x]
 |met f y=>exact#[_,show h.get? a\_ from x]
 |ext φ=>let#[_,e,_]:=x;exact e
def DE(B:Heap)(l:List Env)(H:Hp)(h0 h:Heap):Prop:=
 ∀b o,h.get? b\o->b∉gS l->((H b).isSome=true∨∃o0,h0.get? b\o0)->B.get? b\o
section
variable{P:Ad}{w:Af}{H H':Hp}{B h0 h h1:Heap}{l:List Env}
theorem hF_(aJ:eU P w H' h)(fr:∀b∈gS l,H' b=none)(i:DE B l H' h0 h)(st:B.StaysIn h1):eU P w H' h1:=λb o e=>
 (aJ b o e).eA (λc u hc q=>by
  have hs:∃x,H' c\x:=by
   rcases hc with z|z
   ·exact#[o,z▸e]
   exact#[_,z]
  let#[x,hx]:=hs;exact st c u (i c u q (λm=>by rw[fr c m] at hx;cases hx) (.inl (by rw[hx];rfl)))) (λ_ q=>q) (λ_ _ q=>q)
theorem jc_(un:Un (gS l) [] H H' h0 h)(ff:h.FunFrames B l)(i:DE B l H' h0 h)(st:B.StaysIn h1)(up:h.UpToSlots h1):Un (gS l) [] H H' h0 h1 where
 keep:=λb o q n hb hx=>st b o (i b o (un.keep b o q n hb hx) hb (.inr #[o,q]))
 slot:=λb o q n hb hx=>by
  let#[sl,e]:=un.slot b o q n hb hx;let#[_,o',e',d]:=ff.mem hb;rw[e] at e';cases e';let#[HZ,e2]:=up b _ e d;exact#[HZ,e2]
 free:=un.free
 there:=λb o q hx=>by
  let#[o',e]:=un.there b o q hx;by_cases hb:b∈gS l
  ·let#[_,o2,e',d]:=ff.mem hb;rw[e] at e';cases e';let#[HZ,e2]:=up b _ e d;exact#[_,e2]
  exact#[o',st b o' (i b o' e hb (.inr #[o,q]))]
 gG:=un.gG
 fN:=un.fN
 gf:=un.gf
theorem i3_(aJ:eU P w H' h)(un:Un (gS l) [] H H' h0 h)(i:DE B l H' h0 h)(st:B.StaysIn h1):DE B l H' h0 h1:=λb o e hb c=>by
 have:∃u,h.get? b\u:=by
  rcases c with z|⟨o0,z⟩
  ·let#[x,hx]:=BW.mp z;exact (aJ b x hx).here
  exact un.there b o0 z Z2
 let#[u,hu]:=this;let q:=i b u hu hb c;have:=st b u q;rw[e] at this;cases this;exact q
end
section
variable{X:Cx}{pins:List (Addr × Obj)}{σ:St}{H H':Hp}{s s1:Ab}{B h:Heap}{a:Addr}{cls a0:Aa}{E:XK}
theorem iD_(I:Inv X pins σ H s)(un:Un (gS X.stack) [] H H' s.heap h):∀b∈gS X.stack,H' b=none:=λb hb=>by
 let#[_,o,ho,_]:=I.stack.mem hb;exact un.free b o ho (I.iP b hb) Z2
end
section
variable{P:Ad}{w:Af}{K:af}{mg:Str->Option Aa}{base:Heap}{N:ae}{qual:Str}{scope:Scope}{f:Addr}{cd:Aa}{A:Ag}{outer:List Env}{s:Ab}{H:Hp}{E:XK}
end
section
variable{X:Cx}{x:Str}{C:Addr}{bm:ak}{B newId Aw:String}{np cE pos:Pos}{e₀:Expr}{t:TA}{E:XK}
end
section v
end
end L2
namespace L2
open PySem PySem.Spec PySem.Calls PyProof.Rows PySem.W Builtin Builtin.ObjectAttr Builtin.Getset_descriptor
structure Qp (K:af) (C:Addr):Prop where
 cl:(clsIn K C).isSome=true
 ga:findIn K (.ref C) "__getattribute__"\some (.builtin "BaseException.__getattribute__")
 ha:findIn K (.ref C) "__getattr__"\none
 ca:findIn K (.ref C) "__class__"\some (.builtin "object.__class__")
 gt:specialIn K (.builtin "object.__class__") "__get__"\some (.builtin "getset_descriptor.__get__")
 tk:takesIn K (.builtin "object.__class__")\true
 mo:mroIn K C (.type "object")\true
 mb:mroIn K C (.type "BaseException")\true
section
variable{prog:Ad}{w:Af}{A:Ag}{E:Aa->Ab->Prop}{s:Ab}{K:af}{x C:Addr}
end
section
variable{X:Cx}
inductive xV (K:af) (xs:ag) (H:Hp) (Q:VK):Prop
 |mk:∀x C t b,xs=[x,.ref C]->d5 K H x t->PySem.W.kitOne K t (.ref C)\b->Q (.bl b) H->xV K xs H Q
theorem hx_:gn X (.builtin "isinstance") (xV X.K):=by
 intro pins s σ H xs us Q I r h;let#[x,C,t,b,rfl,ty,e,q]:=h;let#[u,w',rfl,ru,iU]:=vals2 r;cases (show w'=Value.ref C from iU);exact UL I ru ty e λtk=>#[.bl b,H,I.tok tk,Z,q]
end
end L2
namespace L2
open PySem PySem.Spec PyProof.Rows
section
variable{X:Cx}{pins:List (Addr × Obj)}{σ:St}{H:Hp}{s:Ab}{a:Addr}
end
section
variable{X:Cx}{st:Stmt}{e c:Expr}{te:XS->TE}{t u:XS->TS}{pos:Pos}{a b:List Stmt}{tc:TT}
end
section
variable{X:Cx}{k:Nat}{f C:Addr}{fd:Ae}{ps:ae}{sp:Sp}{gm:ag}{ds:ak}{ES:XS}{x m:Str}{p pos apos:Pos}{e o:Expr}{es:List Expr}{ta:TE}{t:TA}
end
section
variable{X:Cx}{i:Nat}{x n:Str}{D C:Addr}{np AE pos:Pos}{BJ:Stmt}{qX body:List Stmt}{tb:XS->TS}{ts:TS}
end
end L2
namespace L2
open PySem
end L2
namespace Ev
open PySem L2
abbrev sS:Stmt:=top 76
abbrev l_:Stmt:=top 77
abbrev sL:Stmt:=top 79
abbrev Lb:Stmt:=top 11
abbrev Oc:Stmt:=top 31
abbrev lJ:Stmt:=top 32
abbrev ma:Stmt:=top 71
abbrev NW:Stmt:=top 72
abbrev Oo:Stmt:=top 73
abbrev Gp:Stmt:=top 74
abbrev Nu:Stmt:=top 23
abbrev OH:Stmt:=top 24
abbrev La:Stmt:=top 12
abbrev sG:Stmt:=top 25
abbrev NC:Stmt:=top 26
abbrev PJ:Stmt:=top 67
abbrev JK:Stmt:=top 4
abbrev hZ:Stmt:=top 34
abbrev Jb:Stmt:=top 35
abbrev sQ:Stmt:=top 36
abbrev zY:Stmt:=top 37
abbrev zW:Stmt:=top 38
abbrev Ow:Stmt:=top 39
abbrev Oh:Stmt:=top 40
abbrev Px:Stmt:=top 41
abbrev GK:Stmt:=top 42
abbrev OG:Stmt:=top 43
abbrev jI:Stmt:=top 44
abbrev Ny:Stmt:=top 46
abbrev P0:Stmt:=top 47
abbrev OQ:Stmt:=top 48
abbrev Ot:Stmt:=top 45
abbrev N5:Stmt:=top 49
abbrev N0:Stmt:=top 33
abbrev lI:Stmt:=top 84
abbrev lV:Stmt:=top 78
abbrev sj:Stmt:=top 80
abbrev NP:Stmt:=top 81
abbrev lP:Stmt:=top 82
abbrev sx:Stmt:=top 83
abbrev NV:Stmt:=top 85
abbrev lS:Stmt:=top 51
abbrev lO:Stmt:=top 27
abbrev lN:Stmt:=top 28
abbrev NO:Stmt:=top 54
abbrev NB:Stmt:=top 55
abbrev Ob:Stmt:=top 56
abbrev l8:Stmt:=top 57
abbrev lZ:Stmt:=top 58
abbrev Nw:Stmt:=top 59
abbrev zX:Stmt:=top 89
abbrev sI:Stmt:=top 90
abbrev zZ:Stmt:=top 87
abbrev lR:Stmt:=top 88
abbrev OI:Stmt:=top 86
abbrev gJ:Stmt:=top 91
def aM(l:Addr)(H H':Hp):Prop:=∀b o,H b\o->b≠l->H' b\o
theorem aM.refl(l:Addr)(H:Hp):aM l H H:=λ_ _ e _=>e
theorem aM.trans{l:Addr}{H H1 H2:Hp}(h:aM l H H1)(h2:aM l H1 H2):aM l H H2:=λb o e n=>h2 b o (h b o e n) n
theorem aM.of{l:Addr}{H H1:Hp}(h:aa H H1):aM l H H1:=λb o e _=>h b o e
theorem aM.upd{l:Addr}{H:Hp}{o:HO}:aM l H (upd H l o):=λb u e n=>by rw[aC n];exact e
def bU(H:Hp)(l:Addr):Prop:=(∃n:Int,H l\.lst [.int n])∨∃n m c:Int,H l\.lst [.int n,.int m,.int c]
theorem bU.some{H:Hp}{l:Addr}(h:bU H l):∃xs,H l\.lst xs:=by
 rcases h with⟨n,e⟩|⟨n,m,c,e⟩
 ·exact#[_,e]
 exact#[_,e]
theorem aM.free{l b:Addr}{H H':Hp}(h:aM l H H')(s:bU H' l)(e:H' b=none):H b=none:=by
 cases z:H b with
 |none=>rfl
 |some o=>
  by_cases q:b=l
  ·subst q;let#[xs,e2]:=s.some;rw[e] at e2;cases e2
  rw[h b o z q] at e;cases e
theorem fq{α:Type}{xs:List α}{i:Int}(h0:0<=i)(h1:i<xs.length):eJ xs i=xs[i.toNat]?:=by
 unfold eJ tP;rw[aH h0,aH h1];rfl
section v
def vy:Sp:=λvs H Q _=>∃(l:Addr) (b:Int),vs=[.ref l,.int b]/\0<b/\b<1073741824/\bU H l/\∀r H',0<=r->r<b->aM l H H'->bU H' l->Q (.int r) H'
theorem small(x:Int):-(2 ^ 64)<x % 2147483647/\x % 2147483647<2 ^ 64:=by
 let h1:=Int.emod_nonneg x (b:=2147483647) (by decide);let h2:=Int.emod_lt_of_pos x (b:=2147483647) (by decide);exact#[by omega,by omega]
end
end Ev
namespace Ev
open PySem L2
theorem Ub:(Bb:Str).cps.toList=[97,98,99,100,101,102,103,104,105,106,107,108,109,110,111,112,113,114,115,116,117,118,119,120,121,122]:=by decide +kernel
theorem _D{r:Int}(h0:0<=r)(h1:r<26):∃c,eJ (Bb:Str).cps.toList r\c/\jN c=true:=by
 rw[Ub,fq h0 ⇑h1];have hn:r.toNat<26:=by omega
 apply#[_,bO ⇑hn,?_];have all:∀c∈[97,98,99,100,101,102,103,104,105,106,107,108,109,110,111,112,113,114,115,116,117,118,119,120,121,122],jN c=true:=by decide +kernel
 exact all _ (kQ _)
end Ev
namespace Ev
open PySem L2
theorem wx{α:Type}{a b:α}{r:Int}(h0:0<=r)(h1:r<2):eJ [a,b] r\a∨eJ [a,b] r\b:=by
 have:r=0∨r=1:=by omega
 rcases this with rfl|rfl
 ·exact .inl Z
 exact .inr Z
section
theorem iC{K:af}{H H':Hp}{l:Addr}{ys:ag}{ks:List aD}(t:bD K H ys ks)(b:aM l H H'){xs:ag}(hl:H l\.lst xs):bD K H' ys ks:=Paired.bL t λy k ⟨a,z,q⟩=>#[a,z,b _ _ q (cb q hl nofun)]
theorem UP{K:af}{H:Hp}{D:Addr}{ns:ae}(h:H D\.lst (ns.map V.str)):rL K rS H (.ref D) ns:=#[D,_,Z,.of h,GE ns]
end
end Ev
namespace Ev
open PySem L2
def kO(t:Str × Str):aD:=kT (aR t.1 t.2)
structure TI (ns:ae) (k j:Nat) (ts:Xb):Prop where
 at':∀t∈ts,∃(a b:Nat) (x y:Str),b<a/\(a<k∨(a=k/\b<j))/\ns[a]? = some x/\ns[b]? = some y/\(t=(x,y)∨t=(y,x))
 nd:(ts.map kO).Nodup
 len:ts.length<=7 * k+j
theorem C6{a b:Str × Str}(h:kT a=kT b):a=b:=by
 unfold kT at h;let#[h1,h2]:=List.cons.inj h;let#[h2,_]:=List.cons.inj h2;exact Prod.ext (g_ h1) (g_ h2)
theorem Gj{ns:ae}(nd:ns.Nodup){i j:Nat}{x:Str}(h:ns[i]? = some x)(h2:ns[j]? = some x):i=j:=by
 let#[hi,e1]:=cq.mp h;let#[hj,e2]:=cq.mp h2;exact (List.getElem_inj nd).mp (e1.trans e2.symm)
theorem kZ_{a b c d:Str}(h:kO (a,b)=kO (c,d)):(a=c/\b=d)∨(a=d/\b=c):=by
 let h:=C6 h;dsimp only at h;rcases JD a b with e|e<;>rcases JD c d with e2|e2<;>rw[e,e2] at h<;>let h1:=(Prod.mk.inj h).1<;>let h2:=(Prod.mk.inj h).2
 ·exact .inl #[h1,h2]
 ·exact .inr #[h1,h2]
 ·exact .inr #[h2,h1]
 exact .inl #[h2,h1]
theorem bU.same{H H':Hp}{l:Addr}(h:bU H l)(s:aa H H'):bU H' l:=by
 rcases h with⟨n,e⟩|⟨n,m,c,e⟩
 ·exact .inl #[n,s _ _ e]
 exact .inr #[n,m,c,s _ _ e]
end Ev
namespace Ev
open PySem L2
theorem h0_{a b:Str}(h:Aq a b=true):Aq b a=false:=UA (a:=Sum.inr a) (b:=Sum.inr b) h
theorem kc_{a b:Str}(h:Aq a b=false)(h2:Aq b a=false):a=b:=g_ (TN (a:=Sum.inr a) (b:=Sum.inr b) h h2)
theorem UR(a b:Str):aR a b=aR b a:=by
 unfold aR;by_cases h:Aq a b=true
 ·rw[aH h,aB (by rw[h0_ h];decide)]
 by_cases h2:Aq b a=true
 ·rw[aB h,aH h2]
 have:=kc_ ⇑h ⇑h2;subst this;rw[aB h]
theorem U4{ts:Xb}{x:Str × Str}:x∈aQ ts ↔ ∃t∈ts,aR t.1 t.2=x:=by
 have e:kT x∈(aQ ts).map kT ↔ x∈aQ ts:=#[λh=>by
  let#[y,hy,e]:=bH.mp h;rw[<- C6 e];exact hy,λh=>bH.mpr #[x,h,Z]]
 rw[<- e,Hm,(kP _).mem_iff,bH];exact#[λ⟨t,ht,q⟩=>#[t,ht,C6 q],λ⟨t,ht,q⟩=>#[t,ht,by rw[q]]]
theorem kE_(a b:Str):kO (a,b)=kO (b,a):=by
 show kT (aR a b)=kT (aR b a);rw[UR]
end Ev
namespace Ev
open PySem L2
section v
theorem zR:bq oS oS (aX sS):=bB
def rF(K:af):Sp:=λvs H Q _=>∃(l:Addr) (ns:List Int) (k:Int),vs=[.ref l,.int k]/\0<=k/\dJ K H l (ns.map V.int)/\∀n,Q (.int n) H
theorem kf_{f:Addr}{fd:Ae}(F:bf K "_law_cell_at" "_law_cell_at" sS f fd)(B:Bi mg):!aj a9 1 f fd oS (rF K):=by
 exists F.bF zR;let#[l,ns,i,rfl,h0,hl,k]:=h;apply#[_,ax (bx (bY Iw (pv 1) (cc gc (by rfl) B.len fP %[0|0])) (aA (aU (bp dY (pv 0) (pv 1)))) bJ) (aA (aU ay)),?_];apply#[_,Z,_,Z,l,_,Z,.inl hl,_,_,Z,Z,_,Z,?_];apply aL (λc=>?_) (λc=>?_)
 ·have c:i<(ns.map V.int).length:=⇑c
  have e:eJ (ns.map V.int) i\.int (ns[i.toNat]'(by rw[au] at c;omega)):=by
   rw[fq h0 c,cY,bO (by rw[au] at c;omega)];rfl
  exact#[_,Z,_,Z,l,_,_,_,Z,Z,hl,e,k _]
 exact k 0
theorem He:bq [fo,"_law_base","_law_cell","_law_found","_law_number"] uy (aX l_):=bB
theorem Ep{n:Int}(b:Bool):∃m:Int,eJ [V.int 0,V.int n] (if b then 1 else 0)\.int m:=by
 cases b
 ·exact#[0,Z]
 exact#[n,Z]
theorem i6_{f:Addr}{fd:Ae}(F:bf K qu qu l_ f fd)(B:Bi mg):!aj a9 1 f fd uy vy:=by
 exists F.bF He;let#[l,b,rfl,h0,h1,st,k]:=h
 apply#[_,ax (bx (bY gU (cc gc (by rfl) B.len fP %[0|0]) ay)
   (ax (bh 2 He.nd (bp dY (pv 0) ay))
   (ax (Bx (bp dY (dH %[ay,2|0]) (hG hD_ (by rfl) B.int MQ %[oM Iu (pv 2) (bG RZ ay ay)|0])) (Jg (pv 0) ay JW))
   (aA (iE (iy ja Di Dj Dp (pv 0) %[dH %[bG vv (pv 2) ay,ay|0]|0]))))) bJ)
  (ax (bx (bY yH (bp dY (pv 0) ay) ay)
   (ax (bh 3 He.nd (bG vv (bp dY (pv 0) ay) (pv 1)))
   (ax (Bx (bG xg (bp dY (pv 0) ay) (pv 1)) (Jg (pv 0) ay JW))
   (aA (aU (pv 3))))) bJ)
  (ax (Bx (bG fO (bp dY (pv 0) ay) ay) (Jg (pv 0) ay JW))
  (ax (bh 4 He.nd (bG vv (bG qz (bG fO (bG fO (bp dY (pv 0) ay) (bG qz ay (bp dY (pv 0) ay))) ay) ay) ay))
  (ax (bh 4 He.nd (bG vv (bG qz (pv 4) (bG fO (bG xg (pv 4) ay) ay)) ay))
  (aA (aU (bG vv (bG vv (bG qz (pv 4) (bG fO (bG xg (pv 4) ay) ay)) ay) (pv 1)))))))),?_]
 rcases st with⟨n,ve⟩|⟨n,m,c,hl⟩
 case' inl=>
  apply#[_,Z,l,_,Z,.inl (.of ve),Z,_,Z,bN ?_];apply#[_,Z,l,_,_,_,Z,Z,.of ve,Z,?_];apply#[_,Z,zl,λp hp=>?_];have lp:l≠p:=bw ve hp;apply#[_,Z,_,_,Z,Z,#[by decide,by decide,by decide],_,_,Z,Z,.inr #[_,Z,?_]];let#[n',vc]:=Ep (n:=n) (decide ((10:Int) ^ (18:Int).toNat<=n));apply#[p,_,_,_,Z,Z,.of aq,vc,?_];apply#[_,Z,l,_,_,0,Z,Z,by rw[aC lp];exact ve,Z,?_];have fJ:(upd (upd H p (.lst [.int 0,.int n])) l (.lst ([V.int n].set 0 (.int n')))) l\.lst [.int n']:=aq;have V_:aM l H (upd (upd H p (.lst [.int 0,.int n])) l (.lst ([V.int n].set 0 (.int n')))):=(aM.of (aa.new hp)).trans aM.upd;generalize (upd (upd H p (.lst [.int 0,.int n])) l (.lst ([V.int n].set 0 (.int n'))))=Ha at fJ V_ ⊢;apply#[_,Z,.inl #[Z,_,.of fJ],_,Z,_,_,Z,Z,by show (0:Int)<2147483647;decide,zl,λq hq=>?_];apply#[l,q,_,_,Z,Z,aa.new hq _ _ fJ,aq,by show 1+2<=sizeLine;decide,?_];have bt:aM l H (upd (upd Ha q (.lst [.int (n % 2147483647),.int 0])) l (.lst ([.int n']++[.int (n % 2147483647),.int 0]))):=V_.trans ((aM.of (aa.new hq)).trans aM.upd);have hl:(upd (upd Ha q (.lst [.int (n % 2147483647),.int 0])) l (.lst ([.int n']++[.int (n % 2147483647),.int 0]))) l\.lst [.int n',.int (n % 2147483647),.int 0]:=aq;generalize (upd (upd Ha q (.lst [.int (n % 2147483647),.int 0])) l (.lst ([.int n']++[.int (n % 2147483647),.int 0])))=H1 at bt hl ⊢
 case' inr=>
  apply#[_,Z,l,_,Z,.inl (.of hl),Z,_,Z,aO ?_];let bt:=aM.refl l H
 all_goals
  apply#[_,Z,l,_,_,_,Z,Z,.of hl,Z,_,_,Z,Z,_,Z,?_];apply aL (λc=>?_) (λc=>?_)
  ·apply#[_,Z,l,_,_,_,Z,Z,.of hl,Z,_,Z,_,_,Z,Z,h0,?_];apply#[_,Z,l,_,_,_,Z,Z,.of hl,Z,_,Z,_,_,Z,Z,#[h0,h1],_,Z,l,_,_,0,Z,Z,hl,Z,?_];exact#[_,Z,k _ _ (Int.emod_nonneg _ Z1) (Int.emod_lt_of_pos _ h0) (bt.trans aM.upd) (.inr #[_,_,_,aq])]
  apply#[_,Z,l,_,_,_,Z,Z,.of hl,Z,_,_,Z,Z,_,Z,l,_,_,2,Z,Z,hl,Z,?_];apply#[_,Z,l,_,_,_,Z,Z,.of aq,Z,_,Z,l,_,_,_,Z,Z,.of aq,Z,_,_,Z,Z,.inl #[by decide,by decide],_,_,Z,Z,_,_,Z,Z,_,_,Z,Z,.inr #[by decide,by decide],_,_,Z,Z,by show (0:Int)<2147483647;decide,?_];apply#[_,Z,_,Z,_,_,Z,Z,#[by decide,by decide],_,_,Z,Z,_,_,Z,Z,.inl (small _),_,_,Z,Z,by show (0:Int)<2147483647;decide,?_];apply#[_,Z,_,Z,_,_,Z,Z,#[by decide,by decide],_,_,Z,Z,_,_,Z,Z,.inl (small _),_,_,Z,Z,by show (0:Int)<2147483399;decide,_,Z,_,_,Z,Z,h0,?_];exact k _ _ (Int.emod_nonneg _ Z1) (Int.emod_lt_of_pos _ h0) (bt.trans aM.upd) (.inr #[_,_,_,aq])
end
end Ev
namespace Ev
open PySem L2
def qH:ae:=["hand","tie","piece","yard","free","fixed","none","tick","come","go","rest","run","show","ok"]
structure Nm (m:Nat) (ns:ae):Prop where
 len:ns.length=m
 nd:ns.Nodup
 ok:∀n∈ns,ie n=true
 end_:∀n∈ns,n∈qH∨∃k,k<m/\n.cps.toList.getLast? = some (97+k % 26)
theorem iM_(ns:ae)(k:Nat)(h:k<=ns.length):cz (ns.map V.str) (some (k:Int)) none=(ns.drop k).map V.str:=by
 unfold cz;rw[HT.iT,HT.gK,au,Nat.min_eq_left h,List.map_drop,vC];rw[pY,au];omega
def Tl(m k:Nat)(n:Str):Prop:=ie n=true/\∃w:List Nat,n.cps.toList=w++(if 26<m then [97+k / 26] else [])++[97+k % 26]
theorem kV_{m i j:Nat}{n:Str}(hm:m<=676)(hi:i<m)(hj:j<m)(a:Tl m i n)(b:Tl m j n):i=j:=by
 let#[_,w1,e1]:=a;let#[_,w2,e2]:=b;rw[e1] at e2;let l:=dX List.getLast? e2;rw[List.getLast?_append,List.getLast?_append] at l;simp at l;by_cases h:26<m
 ·rw[aH h,aH h] at e2;let z:=List.append_inj' e2 Z;let z2:=List.append_inj' z.1 Z;have:=(List.cons.inj z2.2).1;omega
 omega
theorem ix_{m:Nat}{ns:ae}(hm:m<=676)(hl:ns.length=m)(h:∀k n,ns[k]? = some n->Tl m k n):Nm m ns:=by
 apply#[hl,?_,λn hn=>?_,λn hn=>?_]
 ·rw[qE,List.pairwise_iff_getElem];intro i j hi hj lt e;let a:=h i _ (bO hi);let b:=h j _ (bO hj);rw[e] at a;have:=kV_ hm Z1 Z1 a b;omega
 ·let#[k,hk,e]:=mO hn;exact (h k n (by rw[bO hk,e])).1
 let#[k,hk,e]:=mO hn;let#[_,w,e2]:=h k n (by rw[bO hk,e]);apply .inr #[k,by omega,?_];rw[e2,List.getLast?_append];rfl
theorem Td{q:Nat}(h:q<26):eJ (Bb:Str).cps.toList (q:Int)\(97+q):=by
 rw[Ub,fq Z1 (by show (q:Int)<((26:Nat):Int);omega),mN];have all:∀i:Fin 26,[97,98,99,100,101,102,103,104,105,106,107,108,109,110,111,112,113,114,115,116,117,118,119,120,121,122][i.val]? = some (97+i.val):=by decide +kernel
 exact all #[q,h]
theorem J9(x:Str)(c:Nat):(x++(⟨(List.toArray [c])⟩:Str)).cps.toList=x.cps.toList++[c]:=PySem.W.KT.app_list _ _
theorem Du(x:Str):x.length=x.cps.toList.length:=by rw[uG];rfl
theorem Sl{q:Nat}(h:q<26):jN (97+q)=true:=by
 unfold jN;rw[b_ Z1,b_ Z1];rfl
section v
theorem y_:bq [fo,"_law_many","_law_letters",Br,"_law_k","_law_word","_law_j"] yG (aX lV):=bB
def JJ:Sp:=λvs H Q _=>∃(l:Addr) (m:Nat),vs=[.ref l,.int m]/\m<=30/\bU H l/\∀(a:Addr) (ns:ae) (H':Hp),aM l H H'->bU H' l->H a=none->H' a\.lst (ns.map V.str)->Nm m ns->Q (.ref a) H'
theorem iZ_{f:Addr}{fd:Ae}(F:bf K "_law_names" "_law_names" lV f fd)(B:Bi mg)(cD:!aZ 1 qu uy vy):!aj a9 2 f fd yG JJ:=by
 exists F.bF y_;let#[l,m,rfl,EL,st,k]:=h;let sz:=bZ;refine' #[_,?u0,?kk]
 case' u0=>refine' ax ?u1 ?u2
 case u1=>exact bh 2 y_.nd dc
 case' u2=>refine' ax ?XM ?XJ
 case XM=>exact bh 3 y_.nd (dH ba)
 case' XJ=>refine' ax ?XI ?XH
 case' XI=>refine' eR ?XG ?XF ?XE ?XD ?XC
 case XG=>exact eE
 case XF=>exact Z
 case XE=>exact xi (by rfl) B.range %[1|0]
 case XD=>exact cm 4 y_.nd
 case' XC=>refine' ax ?XB ?XA
 case XB=>exact bh 5 y_.nd dc
 case' XA=>refine' ax ?Xz ?Xy
 case' Xz=>refine' eR ?Xx ?Xw ?Xv ?Xu ?QO
 case Xx=>exact eE
 case Xw=>exact Z
 case' Xv=>refine' xi ?Xt ?Xs ?Xr
 case Xt=>exact by rfl
 case Xs=>exact B.range
 case Xr=>exact eW (aN cD hr %[0,bG yV ay (bG xg (pv 1) ay)|0]) ba
 case Xu=>exact cm 6 y_.nd
 case' QO=>refine' aA ?Xq
 first|(case' Xq=>refine' CZ (i:=5) ?QN ?QM ?QL ?QK)|(case' QO=>refine' CZ (i:=5) ?QN ?QM ?QL ?QK)
 case QN=>exact y_.nd
 case QM=>exact Z
 case QL=>exact Or.inl Z
 case QK=>exact bG OW (pv 5) (bp Nc (pv 2) (aN cD hr %[0,ay|0]))
 case' Xy=>refine' ax ?Xp ?QJ
 case' Xp=>refine' bx ?Xo ?QI ?Xn
 case Xo=>exact bY yH (pv 1) ay
 case' QI=>refine' aA ?Xm
 first|(case' Xm=>refine' CZ (i:=5) ?QH ?QG ?QF ?QE)|(case' QI=>refine' CZ (i:=5) ?QH ?QG ?QF ?QE)
 case QH=>exact y_.nd
 case QG=>exact Z
 case QF=>exact Or.inl Z
 case QE=>exact bG OW (pv 5) (bp Nc (pv 2) (bG xg (pv 4) ay))
 case Xn=>exact bJ
 case' QJ=>refine' aA ?QD
 first|(case' QD=>refine' iE ?QC)|(case' QJ=>refine' iE ?QC)
 first|(case' QC=>refine' iy ?QB ?QA ?Qz ?Qy ?Qx ?Qw)|(case' QD=>refine' iy ?QB ?QA ?Qz ?Qy ?Qx ?Qw)
 case QB=>exact ja
 case QA=>exact xa
 case Qz=>exact xb
 case Qy=>exact vz
 case Qx=>exact pv 3
 case Qw=>exact eW (bG OW (pv 5) (bp Nc (pv 2) (bG vv (pv 4) ay))) ba
 case XH=>exact aA (aU (pv 3))
 generalize hH:H=H1;have b1:aM l H H1:=by rw[hH];exact aM.refl l H1
 have fb:bU H1 l:=by rw[<- hH];exact st
 rw[<- hH] at b1;have b1:aM l H H1:=by rw[hH];exact aM.refl l H1
 all_goals
  apply#[zl,λa ha=>?_];let s2:=aa.new (o:=.lst []) ha;have b0:aM l H H1:=b1;have FX:H a=none:=b0.free fb ha
  have jW:l≠a:=by
   let#[xs,e]:=fb.some;exact bw e ha
  apply#[_,Z,_,Z,by show (-(2 ^ 62):Int)<=(m:Int);omega,by show (m:Int)<(2 ^ 62:Int);omega,?_]
  apply yZ (lo:=0) (n:=(m:Int).toNat) (λi σ H2=>∃(v6 v7 v8:aI) (ns:ae),σ=[some (.ref l),some (.int m),some (.str Bb),some (.ref a),v6,v7,v8]/\aM l H H2/\bU H2 l/\H2 a\.lst (ns.map V.str)/\ns.length=i/\∀k n,ns[k]? = some n->Tl m k n)
   #[_,_,_,[],Z,b0.trans (aM.of s2),fb.same s2,aq,Z,λk n e=>by simp at e] ?_ ?_
  ·rintro i σ H2 hi ⟨v6,v7,v8,ns,rfl,b2,dE,iu,ln,tl⟩;rw[Int.zero_add];have hi:i<m:=by omega
   apply#[_,Z,_,Z,_,_,Z,Z,#[by decide,by decide],_,_,Z,Z,l,8 - (m:Int) / 27,Z,by omega,by omega,dE,λr H3 r0 rb b3 dR=>#[_,Z,by show (-(2 ^ 62):Int)<=r;omega,by show r<(2 ^ 62:Int);omega,?_]]
   apply yZ (lo:=0) (n:=r.toNat) (λj σ H4=>∃(x:Str) (v8:aI),σ=[some (.ref l),some (.int m),some (.str Bb),some (.ref a),some (.int i),some (.str x),v8]/\aM l H H4/\bU H4 l/\H4 a\.lst (ns.map V.str)/\x.length=j/\x.cps.toList.all jN=true)
    #["",_,Z,b2.trans b3,dR,b3 _ _ iu jW.symm,Z,Z] ?_ ?_
   ·rintro j σ H4 hj ⟨x,v8,rfl,b4,dS,ug,hx,ho⟩;apply#[_,Z,_,Z,_,Z,l,26,Z,by decide,by decide,dS,λq H5 q0 YO b5 gx=>?_];let#[c,hc,oc]:=_D q0 YO;apply#[_,_,_,Z,Z,by decide +kernel,hc,_,_,Z,Z,?_,_,_,Z,b4.trans b5,gx,b5 _ _ ug jW.symm,?_,?_]
    ·have:(⟨(List.toArray [c])⟩:Str).length=1:=rfl;omega
    ·rw[Du,J9,dM,<- Du,hx];rfl
    rw[J9,List.all_append,ho];simp[oc]
   rintro σ H4 ⟨x,v8,rfl,b4,dS,ug,hx,ho⟩;apply#[_,Z,_,_,Z,Z,_,Z,?_];apply aL (λc3=>?_) (λc3=>?_)
   have c3:26<m:=by
    have:(26:Int)<(m:Int):=⇑c3
    omega
   have IU:eJ (Bb:Str).cps.toList ((i:Int) / 26)\(97+i / 26):=by
    have:=Td (q:=i / 26) Z1;rw[<- this];congr 1
   apply#[_,Z,_,Z,_,Z,_,_,Z,Z,#[by decide,by decide],_,_,_,Z,Z,by decide +kernel,IU,_,_,Z,Z,by show x.length+1<=sizeLine;omega,?_];have ex:(x++(⟨(List.toArray [97+i / 26])⟩:Str)).cps.toList=x.cps.toList++(if 26<m then [97+i / 26] else []):=by rw[aH c3];exact J9 _ _
   generalize x++(⟨(List.toArray [97+i / 26])⟩:Str)=x' at ex ⊢;rotate_left 1
   have c3:¬26<m:=by
    have:¬(26:Int)<(m:Int):=⇑c3
    omega
   have ex:x.cps.toList=x.cps.toList++(if 26<m then [97+i / 26] else []):=by rw[aB c3,zk]
   obtain⟨x',Co⟩:∃x':Str,x'=x:=#[_,Z];rw[<- Co];have ex:x'.cps.toList=x.cps.toList++(if 26<m then [97+i / 26] else []):=by rw[Co];exact ex
   all_goals
    have hc4:eJ (Bb:Str).cps.toList ((i:Int) % 26)\(97+i % 26):=by
     have:=Td (q:=i % 26) (Nat.mod_lt _ (by decide));rw[<- this];congr 1
    have lx:x'.length<=7:=by
     rw[Du,ex,dM,<- Du,hx];by_cases hm:26<m
     ·rw[aH hm];show r.toNat+1<=7;omega
     rw[aB hm];show r.toNat+0<=7;omega
    apply#[_,Z,.inl #[Z,_,.of ug],_,Z,_,Z,_,Z,_,_,Z,Z,by show (0:Int)<26;decide,_,_,_,Z,Z,by decide +kernel,hc4,_,_,Z,Z,?_,a,_,_,Z,Z,ug,?_,?_]
    ·have:(⟨(List.toArray [97+i % 26])⟩:Str).length=1:=rfl;omega
    ·rw[au];omega
    apply#[_,_,_,ns++[x'++(⟨(List.toArray [97+i % 26])⟩:Str)],Z,λb o e ne=>?_,?_,?_,?_,λkk n hn=>?_]
    ·rw[aC (bw e FX)];exact b4 _ _ e ne
    ·unfold bU;rw[aC jW];exact dS
    ·rw[aq,cj];rfl
    ·rw[dM,ln];rfl
    by_cases hk:kk<ns.length
    ·rw[zj hk] at hn;exact tl kk n hn
    have yq:kk=i:=by
     have:=(cq.mp hn).1;rw[dM] at this;simp only[zh] at this;omega
    subst yq;rw[xp Z1,ln,Nat.sub_self] at hn;have hn:x'++(⟨(List.toArray [97+kk % 26])⟩:Str)=n:=⇑hn
    subst hn;have ey:(x'++(⟨(List.toArray [97+kk % 26])⟩:Str)).cps.toList=x'.cps.toList++[97+kk % 26]:=J9 _ _;apply#[?_,x.cps.toList,by rw[ey,ex]];unfold ie;rw[Du,ey,dM,<- Du,b_ (by show 1<=x'.length+1;omega),b_ (by show x'.length+1<=8;omega),List.all_append,ex,List.all_append,ho];have o1:([97+kk % 26]:List Nat).all jN=true:=by simp[Sl (Nat.mod_lt kk (show 0<26 by decide))]
    have o2:(if 26<m then [97+kk / 26] else ([]:List Nat)).all jN=true:=by
     by_cases hm:26<m
     ·rw[aH hm];simp[Sl (show kk / 26<26 by omega)]
     rw[aB hm];rfl
    rw[o1,o2];rfl
  rintro σ H2 ⟨v6,v7,v8,ns,rfl,b2,dE,iu,ln,tl⟩;exact#[_,Z,k a ns H2 b2 dE FX iu (ix_ Z1 Z1 tl)]
end
end Ev
namespace Ev
open PySem L2
theorem Dv(ys:ag)(k:Nat):cz ys none (some (k:Int))=ys.take k:=by
 unfold cz;rw[HT.gK,HT.iT,List.drop_zero,Nat.sub_zero];by_cases h:k<=ys.length
 ·rw[Nat.min_eq_left h]
 rw[Nat.min_eq_right Z1,vC (bj _),vC Z1]
theorem Pz(ys:ag)(k:Nat):cz ys (some (k:Int)) none=ys.drop k:=by
 unfold cz;rw[HT.iT,HT.gK];by_cases h:k<=ys.length
 ·rw[Nat.min_eq_left h,vC (by rw[pY];omega)]
 rw[Nat.min_eq_right Z1,List.drop_eq_nil_of_le (bj _),List.drop_eq_nil_of_le Z1,List.take_nil]
theorem Ke{α β:Type}{F:α->β->Prop}:∀{ys:List α} {ks:List β} (n:Nat),Paired F ys ks->Paired F (ys.take n) (ks.take n)
 |_,_,0,_=>.nil
 |_,_,_+1,.nil=>.nil
 |_,_,n+1,.cons a t=>.cons a (Ke n t)
theorem P2{α β:Type}{F:α->β->Prop}:∀{ys:List α} {ks:List β} (n:Nat),Paired F ys ks->Paired F (ys.drop n) (ks.drop n)
 |_,_,0,h=>h
 |_,_,_+1,.nil=>.nil
 |_,_,n+1,.cons _ t=>P2 n t
theorem jx{α β:Type}{F:α->β->Prop}:∀{ys zq:List α} {ks tN:List β},Paired F ys ks->Paired F zq tN->Paired F (ys++zq) (ks++tN)
 |_,_,_,_,.nil,h=>h
 |_,_,_,_,.cons a t,h=>.cons a (jx t h)
theorem T8{α:Type}(l:List α)(t:Nat):(l.drop t++l.take t).Perm l:=List.perm_append_comm.trans (by rw[List.take_append_drop])
theorem FK{α:Type}{p:α->Prop}{a b c:α}{r:Int}(h0:0<=r)(h1:r<3)(ha:p a)(hb:p b)(hc:p c):∃x,eJ [a,b,c] r\x/\p x:=by
 have:r=0∨r=1∨r=2:=by omega
 rcases this with rfl|rfl|rfl
 ·exact#[_,Z,ha]
 ·exact#[_,Z,hb]
 exact#[_,Z,hc]
structure TJ (ns:ae) (k q:Nat) (ts:Xb):Prop where
 at':∀t∈ts,∃(a b:Nat) (x y:Str),a<b/\(a<k∨(a=k/\b<k+1+q))/\ns[a]? = some x/\ns[b]? = some y/\(t=(x,y)∨t=(y,x))
 nd:(ts.map kO).Nodup
 len:ts.length<=7 * k+q
theorem TJ.skip{ns:ae}{k j:Nat}{ts:Xb}(h:TJ ns k j ts):TJ ns k (j+1) ts:=
 #[λt ht=>let #[a,b,x,y,h1,h2,h3,h4,h5]:=h.at' t ht;#[a,b,x,y,h1,by omega,h3,h4,h5],h.nd,by have:=h.len;omega]
theorem TJ.next{ns:ae}{k q:Nat}{ts:Xb}(h:TJ ns k q ts)(h7:q<=7):TJ ns (k+1) 0 ts:=
 #[λt ht=>let #[a,b,x,y,h1,h2,h3,h4,h5]:=h.at' t ht;#[a,b,x,y,h1,by omega,h3,h4,h5],h.nd,by have:=h.len;omega]
theorem TJ.add{ns:ae}{k q:Nat}{ts:Xb}(h:TJ ns k q ts)(nd:ns.Nodup){x y:Str}{t:Str × Str}(hx:ns[k]? = some x)(hy:ns[k+1+q]? = some y)(ht:t=(x,y)∨t=(y,x)):TJ ns k (q+1) (ts++[t]):=by
 apply#[λu hu=>?_,?_,by have:=h.len;rw[dM];simp only[zh];omega]
 ·rcases eZ.mp hu with hu|hu
  ·exact h.skip.at' u hu
  obtain rfl:u=t:=⇑hu
  exact#[k,k+1+q,x,y,by omega,.inr #[Z,by omega],hx,hy,ht]
 rw[cj];apply S6 h.nd λm=>?_;let#[u,hu,e]:=bH.mp m;let#[a,b,c,d,h1,h2,h3,h4,h5]:=h.at' u hu
 have key:(c=x/\d=y)∨(c=y/\d=x):=by
  rcases h5 with rfl|rfl<;>rcases ht with rfl|rfl<;>rcases kZ_ e with⟨q1,q2⟩|⟨q1,q2⟩<;>simp_all
 rcases key with⟨rfl,rfl⟩|⟨rfl,rfl⟩
 ·have:=Gj nd h3 hx;have:=Gj nd h4 hy;omega
 have:=Gj nd h3 hy;have:=Gj nd h4 hx;omega
theorem TJ.good{ns:ae}{k j:Nat}{ts:Xb}(h:TJ ns k j ts)(nd:ns.Nodup)(ok:∀n∈ns,ie n=true):∀t∈ts,yK t/\t.1∈ns/\t.2∈ns:=λt ht=>by
 let#[a,b,x,y,h1,h2,h3,h4,h5]:=h.at' t ht;let mx:=dC h3;let my:=dC h4
 have ne:x≠y:=λe=>by
  subst e;have:=Gj nd h3 h4;omega
 rcases h5 with rfl|rfl
 ·exact#[#[ok _ mx,ok _ my,ne],mx,my]
 exact#[#[ok _ my,ok _ mx,ne.symm],my,mx]
def Hx(m:Nat)(n:Str):Prop:=n∈qH∨∃k,k<m/\n.cps.toList.getLast? = some (97+k % 26)
section v
theorem wY:bq [fo,"_law_most",Br,"_law_hands","_law_thin","_law_ties","_law_k","_law_one","_law_other","_law_turn"] [fo,"_law_most"] (aX sL):=bB
def rq(K:af):Sp:=λvs H Q _=>∃(l:Addr),vs=[.ref l,.int 4]/\bU H l/\∀(t lh lt:Addr) (ys zs:ag) (hs:Xa) (ts:Xb) (H':Hp),aM l H H'->bU H' l->H' t\.tup [.ref lh,.ref lt]->H lh=none->H lt=none->lh≠lt->
 H' lh\.lst ys->bD K H' ys (hs.map kH)->H' lt\.lst zs->bD K H' zs (ts.map kT)->Good hs ts->(∀n∈hs.map (·.1),Hx 8 n)->Q (.ref t) H'
theorem _V{f:Addr}{fd:Ae}(F:bf K "_law_web" "_law_web" sL f fd)(B:Bi mg)(cD:!aZ 1 qu uy vy)(cN:!aZ 2 "_law_names" yG JJ):!aj a9 3 f fd [fo,"_law_most"] (rq K):=by
 exists F.bF wY;let#[l,rfl,st,k]:=h;let sz:=bZ
 refine' #[_,ax (bh 2 wY.nd (aN cN hr %[0,bG fO ay (aN cD hr %[0,1|0])|0]))
  (ax (BM (i:=3) oY 1 [0] wY.nd Z (Or.inl Z) (dN (pv 2)) (λfp s H=>eY (i:=0) (show (oY:ae).Nodup by decide +kernel) Z (Or.inl Z)) (λfp s H=>gX)
   (λfp s H=>?he))
  (ax (bh 4 wY.nd (bG fO ay (aN cD hr %[0,ay|0])))
  (ax (bh 5 wY.nd (dH ba))
  (ax (eR eE Z (N9 (by rfl) B.enum %[2|0]) (mE Z (dB (cm 6 wY.nd) (dB (cm 7 wY.nd) jd)))
   (aA (eR eE Z (dN (qA qy (pv 2) (qx (bG fO (pv 6) ay)) qw)) (cm 8 wY.nd)
    (aA (bx (bY gU (aN cD hr %[0,4|0]) ay)
     (aA (iE (iy ja xa xb vz (pv 5) %[bp dY (dH %[eM %[7,8|0],eM %[8,7|0]|0]) (aN cD hr %[0,ay|0])|0])))
     bJ)))))
  (ax (bh 9 wY.nd (aN cD hr %[0,cc gc (by rfl) B.len fP %[3|0]|0]))
  (aA (aU (eM %[bG yX (qA qy (pv 3) (qx (pv 9)) qw) (qA qy (pv 3) qw (qx (pv 9))),5|0])))))))),?_]
 case he=>exact eM %[0,bG fO ay (aN cD hr %[1,bp (tQ (K:=K) mh dY) (dH %[ay,ay,ay|0]) (aN cD hr %[1,ay|0])|0])|0]
 apply#[_,Z,_,Z,_,Z,l,4,Z,by decide,by decide,st,λr H1 r0 r8 b1 fb=>#[_,_,Z,Z,?_]];let#[r,rfl]:=p5 r0;apply#[l,1+r,by show [V.ref l,V.int (1+(r:Int))]=[V.ref l,V.int ((1+r:Nat):Int)];rw[Int.natCast_add];rfl,by omega,fb,λln ns H2 b2 dE fn yo N=>?_];have n8:ns.length<=8:=by rw[N.len];omega
 have n1:1<=ns.length:=by rw[N.len];omega
 have u_:ln≠l:=λe=>by
  subst e;let#[xs,e2]:=fb.some;rw[fn] at e2;cases e2
 apply#[_,Z,ln,Z,#[_,.of yo],λtM pK=>?_]
 have pG:tM≠l:=by
  let#[xs,e]:=dE.some;exact (bw e pK).symm
 apply jz (own:=1) (fv:=[some (.ref l)]) (xs:=ns.map V.str) Z dW (λi out H'=>∃hs:Xa,aM l H2 H'/\bU H' l/\H' tM\.lst out/\bD K H' out (hs.map kH)/\hs.map (·.1)=ns.take i/\∀h∈hs,1<=h.2/\h.2<=1000) #[[],aM.of (aa.new pK),dE.same (aa.new pK),aq,.nil,Z,by simp] (λi out H' _ ⟨_,b,_⟩=>.of (b _ _ yo u_)) (λqG H3 ⟨yj,b3,dR,hh3,B8,en,gh⟩=>?_) (λi x out H' hx ⟨hs,b,stx,hD,tu,en,gh⟩=>?_);rotate_left 1
 ·let#[n,hn,rfl]:=jc hx
  have li:out.length=i:=by
   let h1:=bK tu;rw[au] at h1;let h2:=dX List.length en;rw[au,cX] at h2;have:=(cq.mp hn).1;omega
  let hi:=(cq.mp hn).1;apply#[_,Z,Z,λNx hN=>dD ?_];apply#[_,Z,_,Z,zl,λp hp=>?_];let s4:=aa.new (o:=.lst [.int 3,.int 12,.int 1000]) hp
  have lp:p≠l:=by
   let#[xs,e]:=stx.some;exact (bw e hp).symm
  apply#[_,Z,l,3,Z,by decide,by decide,stx.same s4,λr1 H5 q0 q1 b5 gx=>?_];let#[y,hy,bb,eb,e1,e2]:=FK (p:=λy:V=>∃n:Int,y=.int n/\0<n/\n<=1000) (a:=V.int 3) (b:=.int 12) (c:=.int 1000) q0 q1 #[3,Z,by decide,by decide] #[12,Z,by decide,by decide] #[1000,Z,by decide,by decide];subst eb;apply#[p,_,_,_,Z,Z,.of (b5 _ _ aq lp),hy,l,bb,Z,e1,by omega,gx,λr2 H6 q2 q3 b6 gI=>#[_,_,Z,Z,zl,λt ht=>?_]];have Qe:aM l H' H6:=(aM.of s4).trans (b5.trans b6);let yA:=Qe _ _ hD pG;let s7:=aa.new (o:=.tup [.str n,.int (1+r2)]) ht;let#[Ks,vd]:=stx.some;let DM:=iC tu Qe vd;have tt:upd H6 t (.tup [.str n,.int (1+r2)]) t\.tup ((kH (n,1+r2)).map kV):=aq;apply#[out,s7 _ _ yA,by omega,hN _ _ #[hs++[(n,1+r2)],λb' o e ne=>?_,?_,aq,?_,?_,λh hh=>?_]]
  ·rw[aC (bw e pK)];exact s7 _ _ (Qe _ _ (b _ _ e ne) ne)
  ·have:=gI.same s7;unfold bU;rw[aC pG.symm];exact this
  ·rw[cj];exact iI (vA (DM.same s7) tt) (s7 _ _ yA)
  ·rw[cj,en,iD,hn];rfl
  rcases eZ.mp hh with hh|hh
  ·exact gh h hh
  obtain rfl:h=(n,1+r2):=⇑hh
  exact#[by show 1<=1+r2;omega,by show 1+r2<=1000;omega]
 rw[au,eK] at en;let _d:=b3 _ _ yo u_;have _o:H2 tM=none:=pK;apply#[_,Z,l,4,Z,by decide,by decide,dR,λr3 H4 q0 q1 b4 dS=>#[_,_,Z,Z,?_]];apply#[zl,λa ha=>?_];let s5:=aa.new (o:=.lst []) ha
 have jW:l≠a:=by
  let#[xs,e]:=dS.some;exact bw e ha
 let LK:=b4 _ _ _d u_;let SM:=b4 _ _ hh3 pG;have LJ:ln≠a:=bw LK ha;have _m:tM≠a:=bw SM ha;have B4:aM l H H4:=b1.trans (b2.trans (b3.trans b4));have FX:H a=none:=B4.free dS ha;have SB:H tM=none:=(b1.trans b2).free dE pK;let#[Qt,oz]:=dR.some;let uP:=iC B8 b4 oz
 let Iv:Nat->Nat->Hp->Prop:=λkk q H'=>∃zs ts,aM l H H'/\bU H' l/\H' ln\.lst (ns.map V.str)/\H' tM\.lst qG/\bD K H' qG (yj.map kH)/\H' a\.lst zs/\bD K H' zs (ts.map kT)/\TJ ns kk q ts
 apply#[_,Z,ln,Z,#[_,.of (s5 _ _ LK)],Ul (K:=K) (a:=ln) (xs:=ns.map V.str) (λi σ H'=>∃(v6 v7 v8 v9:aI),σ=[some (.ref l),some (.int 4),some (.ref ln),some (.ref tM),some (.int (1+r3)),some (.ref a),v6,v7,v8,v9]/\Iv i 0 H')
  #[none,none,none,none,Z,[],[],B4.trans (aM.of s5),dS.same s5,s5 _ _ LK,s5 _ _ SM,uP.same s5,aq,.nil,#[by simp,.nil,gD _]] (λi σ H' _ ⟨_,_,_,_,_,_,_,_,_,q,_⟩=>.of q) ?_ ?_]
 ·rintro i x σ H6 hx ⟨v6,v7,v8,v9,rfl,Kr,KA,b6,gI,Mh,IQ,HN,uf,DM,B9⟩ u hu;let#[one,Fj,rfl]:=jc hx;have hi:i<ns.length:=(cq.mp Fj).1;have s7:aa H6 (upd H6 u (.tup [.int i,.str one])):=aa.new hu;have So:upd H6 u (.tup [.int i,.str one]) u\.tup [.int i,.str one]:=aq;apply#[u,_,Z,.of So,Z,_,_,Z,_,_,Z,Z,?_];generalize upd H6 u (.tup [.int i,.str one])=H7 at s7 So ⊢;apply#[_,Z,_,Z,_,_,Z,Z,_,Z,ln,_,Z,.of (s7 _ _ Mh),λp hp=>?_];have ec:cz (ns.map V.str) (some ((i:Int)+1)) none=(ns.drop (i+1)).map V.str:=iM_ ns (i+1) Z1;rw[ec];have s8:aa H7 (upd H7 p (.lst ((ns.drop (i+1)).map V.str))):=aa.new hp
  have lp:l≠p:=by
   let#[xs,e]:=(gI.same s7).some;exact bw e hp
  have pa:p≠a:=(bw (s7 _ _ uf) hp).symm;let sU:=s7.trans s8
  apply#[p,Z,#[_,.of aq],hU (K:=K) (a:=p) (xs:=(ns.drop (i+1)).map V.str) (λj σ H'=>∃(v8 v9:aI),σ=[some (.ref l),some (.int 4),some (.ref ln),some (.ref tM),some (.int (1+r3)),some (.ref a),some (.int i),some (.str one),v8,v9]/\H' p\.lst ((ns.drop (i+1)).map V.str)/\Iv i j H')
   #[_,_,Z,aq,Kr,KA,b6.trans (aM.of sU),gI.same sU,sU _ _ Mh,sU _ _ IQ,HN.same sU,sU _ _ uf,DM.same sU,B9] (λj σ H' _ ⟨_,_,_,q,_⟩=>.of q) ?_ ?_]
  ·rintro j y σ H9 hy ⟨v8,v9,rfl,Cr,Kq,HI,b9,zD,Mg,MB,KD,MW,HG,DP⟩;let#[o,ho,rfl]:=jc hy;rw[List.getElem?_drop] at ho;apply#[_,Z,_,Z,l,1+r3,Z,by omega,by omega,zD,λr4 DF q2 q3 oP vM=>#[Z,_,Z,?_]];let#[xs9,SE]:=zD.some;let Fp:=oP _ _ Mg u_;let FM:=oP _ _ MB pG;let A0:=oP _ _ MW jW.symm;let Fh:=oP _ _ Cr lp.symm;let DN:=iC HG oP SE;let DQ:=iC KD oP SE;apply aL (λc=>?_) (λc=>?_)
   ·apply#[_,Z,.inl #[Z,_,.of A0],_,Z,_,Z,zl,λt1 yi=>?_];let Ca:=aa.new (o:=.tup [.str one,.str o]) yi;apply#[_,Z,_,Z,zl,λt2 AA=>?_];let jh:=aa.new (o:=.tup [.str o,.str one]) AA;apply#[zl,λlx vd=>?_];let md:=aa.new (o:=.lst [.ref t1,.ref t2]) vd;let Q_:=(Ca.trans jh).trans md;let D9:=vM.same Q_;apply#[_,Z,l,2,Z,by decide,by decide,D9,λr5 Wp q4 q5 qC K0=>?_]
    have LI:lx≠l:=by
     let#[xs,e]:=(vM.same (Ca.trans jh)).some;exact (bw e vd).symm
    let Fq:=qC _ _ (show upd (upd (upd DF t1 (.tup [.str one,.str o])) t2 (.tup [.str o,.str one])) lx (.lst [.ref t1,.ref t2]) lx=_ from aq) LI;let#[WN,FD]:=D9.some;let Fe:=md _ _ (jh _ _ (show upd DF t1 (.tup [.str one,.str o]) t1=_ from aq));let Fb:=md _ _ (show upd (upd DF t1 (.tup [.str one,.str o])) t2 (.tup [.str o,.str one]) t2=_ from aq);let Fc:=qC _ _ Fe (cb Fe FD nofun);let E_:=qC _ _ Fb (cb Fb FD nofun)
    have pick:∃(t:Addr) (tt:Str × Str),eJ [V.ref t1,V.ref t2] r5\.ref t/\Wp t\.tup ((kT tt).map kV)/\(tt=(one,o)∨tt=(o,one)):=by
     rcases wx (a:=V.ref t1) (b:=V.ref t2) q4 q5 with e|e
     ·exact#[t1,(one,o),e,Fc,.inl Z]
     exact#[t2,(o,one),e,E_,.inr Z]
    let#[t,tt,et,ht,Nt]:=pick;have gW:aM l DF Wp:=(aM.of Q_).trans qC;let#[WO,FE]:=vM.some;let AZ:=gW _ _ A0 jW.symm;let Mi:=gW _ _ Fp u_;let MD:=gW _ _ FM pG;let Mb:=gW _ _ Fh lp.symm;let Kz:=iC DN gW FE;let KF:=iC DQ gW FE;let lz:=bK HG;rw[au] at lz;let tl:=DP.len
    have hj:j<8:=by
     have:=(cq.mp ho).1;omega
    apply#[lx,_,_,_,Z,Z,.of Fq,et,a,_,_,Z,Z,AZ,by omega,?_];apply#[_,_,Z,by rw[aC pa];exact Mb,_,HI++[tt],λb o e ne=>?_,?_,by rw[aC LJ];exact Mi,by rw[aC _m];exact MD,iI KF AZ,aq,?_,DP.add N.nd Fj ho Nt]
    ·rw[aC (bw e FX)];exact gW _ _ (oP _ _ (b9 _ _ e ne) ne) ne
    ·unfold bU;rw[aC jW];exact K0
    rw[cj];exact iI (vA Kz ht) AZ
   exact#[_,_,Z,Fh,Kq,HI,b9.trans oP,vM,Fp,FM,DQ,A0,DN,DP.skip]
  rintro σ H9 ⟨v8,v9,rfl,Cr,Kq,HI,b9,zD,Mg,MB,KD,MW,HG,DP⟩;exact#[_,_,_,_,Z,Kq,HI,b9,zD,Mg,MB,KD,MW,HG,DP.next (by rw[au,pY];omega)]
 rintro σ H6 ⟨v6,v7,v8,v9,rfl,Kr,KA,b6,gI,Mh,IQ,HN,uf,DM,B9⟩;rw[au] at B9
 have ly:qG.length=ns.length:=by
  let h1:=bK HN;rw[au] at h1;let h2:=dX List.length en;rw[au] at h2;omega
 apply#[_,Z,_,Z,tM,_,Z,.inl (.of IQ),l,_,Z,by show (0:Int)<(qG.length:Int);omega,by show (qG.length:Int)<1073741824;omega,gI,λtn H7 q0 q1 b7 k7=>?_];let#[tn,rfl]:=p5 q0;let#[WJ,IK]:=gI.some;let IP:=b7 _ _ IQ pG;let CD:=b7 _ _ uf jW.symm;let Ky:=iC DM b7 IK;let HM:=iC HN b7 IK;apply#[_,Z,_,Z,_,Z,tM,_,Z,.of IP,λp1 yl=>?_];rw[Pz];let s8:=aa.new (o:=.lst (qG.drop tn)) yl;apply#[_,Z,_,Z,_,Z,tM,_,Z,.of (s8 _ _ IP),λp2 jq=>?_];rw[Dv];let s9:=aa.new (o:=.lst (qG.take tn)) jq;apply#[p1,p2,_,_,Z,Z,s9 _ _ aq,aq,by rw[pY,cX];omega,λp3 AG=>?_];let xR:=aa.new (o:=.lst (qG.drop tn++qG.take tn)) AG;let Ld:=s8.trans (s9.trans xR);apply#[_,Z,zl,λt ht=>?_];let Ca:=aa.new (o:=.tup [.ref p3,.ref a]) ht;let sV:=Ld.trans Ca;let Wb:=b6.trans b7;let perm:=T8 yj tn;let pm:=perm.map (·.1);let gt:=B9.good N.nd N.ok;have mem:∀n,n∈(yj.drop tn++yj.take tn).map (·.1) ↔ n∈ns:=λn=>by rw[pm.mem_iff,en]
 apply k t p3 a _ Kr (yj.drop tn++yj.take tn) KA _ (Wb.trans (aM.of sV)) (k7.same sV) aq ((Wb.trans (aM.of (s8.trans s9))).free (k7.same (s8.trans s9)) AG) FX (λe=>?_) (Ca _ _ aq) ?_ (sV _ _ CD) (Ky.same sV) #[λh hh=>?_,?_,?_,?_,λt ht=>(gt t ht).1,B9.nd,by have:=B9.len;omega,λt ht=>#[(mem _).mpr (gt t ht).2.1,(mem _).mpr (gt t ht).2.2]] λn hn=>?_
 ·subst e;rw[(s8.trans s9) _ _ CD] at AG;cases AG
 ·rw[cj,List.map_drop,List.map_take];have X1:bD K H7 (qG.drop tn++qG.take tn) ((yj.map kH).drop tn++(yj.map kH).take tn):=jx (P2 tn HM) (Ke tn HM);exact X1.same sV
 ·let hm:=perm.mem_iff.mp hh;let#[g1,g2]:=gh h hm;exact#[N.ok _ (by rw[<- en];exact bH.mpr #[h,hm,Z]),g1,g2]
 ·apply pm.nodup_iff.mpr ?_;rw[en];exact N.nd
 ·have:=pm.length_eq;rw[au,en] at this;omega
 ·have:=pm.length_eq;rw[au,en] at this;omega
 rcases N.end_ n ((mem n).mp hn) with z|⟨kk,h1,h2⟩
 ·exact .inl z
 exact .inr #[kk,by omega,h2]
end
end Ev
namespace HT
open PySem PySem.Spec PyProof.Rows
section
variable{prog:Ad}{w:Af}{A:Ag}{E:Aa->Ab->Prop}{s:Ab}
theorem iZ{t sl:Addr}{a b:Aa}{u:Tok}{Q:Aa->Ab->Prop}(ht:IsTup s.heap t (List.toArray [a,b]))(hs:s.heap.IsSliceOf sl .none .none (.int (-1) u))
  (h:Q (.ref s.heap.objs.size) { s with heap:=s.heap.push { cls:=.type "tuple",data:=.seq (List.toArray [b,a]) } }):wpAny (model prog w) A (getItem (.ref t) (.ref sl)) Q E s:=by
 have ou:sizeOk (.seq (List.toArray [b,a])):=by
  show 2<=sizeLine;decide
 let#[os,II,IT,MN]:=id hs;have MY:s.TypeIs (.ref sl) "slice":=#[os,II,IT];unfold getItem
 try with_reducible apply wpAny_holding ?_
 first|refine aF (bA ?_)|skip
 apply aF (wpAny_sequenceKey ht.typeIs (by decide) ?_)
 apply aF (wpAny_callSpecial?_slot (name:=Str.ofString "__getitem__") ht.typeIs PyProof.Rows.slot_tuple_getitem
  (wpAny_call_entry PyProof.Rows.slot_tuple_getitem ht.typeIs entry_tuple_getitem ?_ (args_tuple_getitem _ _)))
 show wpAny _ _ (Builtin.Tuple.tupleItemsOf (.ref t) >>= _) _ _ s;apply aF (tupleItemsOf_ ht ?_);apply aF (wpAny_typeOf MY ?_);rw[aH (by decide)]
 have ap:∀{A':Ag} {E':Aa->Ab->Prop} {R:Int × Int × Nat->Ab->Prop},R (1,-1,2) s->wpAny (model prog w) A' (Builtin.Slice.sliceApplied (.ref sl) (pure (((List.toArray [a,b]):Array Aa).size:Int))) R E' s:=by
  intro A' E' R hR;unfold Builtin.Slice.sliceApplied Builtin.Slice.sliceFields;apply aF (aF (wpAny_field II MN (x:=.none) Z (aF (wpAny_field II MN (x:=.none) Z (aF (wpAny_field II MN (x:=.int (-1) u) Z (bA ?_)))))));apply aF (slicePart_int ?_);show wpAny _ _ (if ((-1:Int) == 0)=true then _ else _) _ _ s;rw[aB (by decide)];exact aF (slicePart_none (aF (slicePart_none (aF (bA (bA (by with_unfolding_all exact hR)))))))
 apply aF (ap ?_);show wpAny _ _ (if ((1:Int) == 0&&(-1:Int) == 1&&(2:Nat) == 2)=true then _ else _) _ _ s;rw[aB (by decide)];have e:(List.filterMap (λ(k:Nat)=>((List.toArray [a,b]):Array Aa)[((1:Int)+(k:Int) * -1).toNat]?) (List.range 2)).toArray=(List.toArray [b,a]):=by with_unfolding_all rfl
 rw[e]
 first
  |exact aF (m:=Builtin.Tuple.tupleExact _) (vo (bA ⟨_,rfl,bA h⟩) ou)
  |exact aF (m:=Builtin.Tuple.tupleExact _) (vo (aF (bA (bA ⟨_,rfl,bA h⟩))) ou)
  |exact aF (aF (m:=Builtin.Tuple.tupleExact _) (vo (bA (bA ⟨_,rfl,bA h⟩)) ou))
  |exact aF (aF (m:=Builtin.Tuple.tupleExact _) (vo (bA ⟨_,rfl,bA h⟩) ou))
end
end HT
namespace L2
open PySem PySem.Spec PyProof.Rows
section
variable{X:Cx}{e st:Expr}{te ts:TE}{pos p2:Pos}
def xB(K:af)(te ts:TE):TE:=λσ H Q=>te σ H λx H1=>ts σ H1 λy H2=>y=.int (-1)/\∃a u v,x=.ref a/\gE K H2 a [u,v]/\∀p,H2 p=none->Q (.ref p) (upd H2 p (.tup [v,u]))
theorem jU_(he:PE X e te)(hs:PE X st ts):PE X (.Subscript e (.Slice none none (some st) p2) pos) (xB X.K te ts):=by
 intro pins s σ H Q I h;apply Subscript_ (a_ (he pins s σ H _ I h) λv s1 ⟨x,H1,I1,r1,q1⟩=>?_);apply wpAny_Slice ?_;rw[evalPart_none];apply bA (bA ?_);rw[evalPart_some];apply a_ (hs pins s1 σ H1 _ I1 q1) λvs s3 ⟨y,H3,I3,ry,ey,a,u,v',ex,hx,q⟩=>?_;subst ex ey;let#[t,rfl]:=ry;cases r1;have I4:Inv X pins σ H3 { s3 with heap:=s3.heap.push { cls:=.type "slice",data:=.fields (List.toArray [.none,.none,.int (-1) t]) } }:=I3.kept (t':=s3.toks) λb ob q=>ck _ q;let#[its,r,ht,hz]:=I4.tuple hx;let#[x1,x2,rfl,YD,YC]:=Vals.two r;show wpAny (model X.prog X.w) X.A (subscriptTail e (.Slice none none (some st) p2) (.ref a) (.ref s3.heap.objs.size)) (EP X pins σ Q) X.xe { s3 with heap:=s3.heap.push { cls:=.type "slice",data:=.fields (List.toArray [.none,.none,.int (-1) t]) } };apply tail_any (ops:=[.ref a,.ref s3.heap.objs.size]) ht.typeIs PyProof.Rows.slot_tuple_getitem.lookup (HT.iZ ht (Heap.IsSliceOf.new ..) ?_) (by with_unfolding_all rfl);apply#[.ref _,upd H3 _ (.tup [v',u]),I4.laid (t':=s3.toks) (λb o e=>ck _ e) (bj _) ?_,Z,q _ (I4.aJ.fresh (bj _))];exact#[zl,[x2,x1],.cons YC (.cons YD .nil),#[_,eQ _ Z,Z,_,Z],_,eQ _ Z,Z]
theorem iW_{K:af}(he:PE X e te)(hs:PE X st ts)(hK:X.K=K:=by rfl):PE X (.Subscript e (.Slice none none (some st) p2) pos) (xB K te ts):=by
 subst hK;exact jU_ he hs
end
end L2
namespace Ev
open PySem L2
structure Gi (ts ws:Xb):Prop where
 good:∀w∈ws,yK w
 nd:(ws.map kO).Nodup
 EZ:∀w∈ws,kO w∈ts.map kO
 len:ws.length<=ts.length
theorem k6_{ts us ws:Xb}(good:∀t∈ts,yK t)(nd:(ts.map kO).Nodup)(sub:us.Sublist ts)(p:Paired (λw u=>w=u∨w=(u.2,u.1)) ws us):Gi ts ws:=by
 have e:ws.map kO=us.map kO:=by
  clear sub
  induction p with
  |nil=>rfl
  |cons h _ ih=>
   rw[fE,fE,ih];rcases h with rfl|rfl
   ·rfl
   exact dX (·::_) (kE_ _ _)
 apply#[λw hw=>?_,?_,λw hw=>?_,?_]
 ·let#[i,hi,ew]:=mO hw;let hl:=bK p;let q:=hJ p i hi Z1;rw[ew] at q;let g:=good _ (sub.subset (kQ (show i<us.length by omega)));rcases q with q|q
  ·rw[q];exact g
  rw[q];exact#[g.2.1,g.1,g.2.2.symm]
 ·rw[e];exact (sub.map kO).nodup nd
 ·have:kO w∈ws.map kO:=bH.mpr #[w,hw,Z];rw[e] at this;exact (sub.map kO).subset this
 rw[bK p];exact sub.length_le
def cu(K:af)(H:Hp)(v:V):Option (Xb)->Prop
 |none=>v=.non
 |some ws=>∃a ys,v=.ref a/\H a\.lst ys/\bD K H ys (ws.map kT)
theorem cu.same{K:af}{H H':Hp}{v:V}{o:Option (Xb)}(h:cu K H v o)(s:aa H H'):cu K H' v o:=by
 cases o with
 |none=>exact h
 |some ws=>
  let#[a,ys,e,ha,t]:=h;exact#[a,ys,e,s _ _ ha,t.same s]
section v
theorem rM:bq [fo,"_law_ties","_law_some"] [fo,"_law_ties"] (aX sj):=bB
inductive k8 (K:af) (vs:ag) (H:Hp) (Q:VK) (E:XK):Prop
 |mk:∀(l lt:Addr) (zs:ag) (ts:Xb),vs=[.ref l,.ref lt]->bU H l->H lt\.lst zs->bD K H zs (ts.map kT)->lt≠l->ts.length<64->(∀t∈ts,yK t)->(ts.map kO).Nodup->(∀(v:V) (o:Option (Xb)) (H':Hp),aM l H H'->bU H' l->cu K H' v o->(∀a,v=.ref a->H a=none)->(∀ws,o\ws->Gi ts ws)->Q v H')->k8 K vs H Q E
theorem kd_{f:Addr}{fd:Ae}(F:bf K "_law_ways" "_law_ways" sj f fd)(B:Bi mg)(cD:!aZ 1 qu uy vy):!aj a9 2 f fd [fo,"_law_ties"] (k8 K):=by
 exists F.bF rM;let#[l,lt,zs,ts,rfl,st,dz,tu,qd,bS,good,nd,k]:=h;let sz:=bZ;let lz:=bK tu;rw[au] at lz
 refine' #[_,ax (bx (bY yH (aN cD hr %[0,ay|0]) ay) (aA (aU BD)) bJ)
  (ax (BM (i:=2) oW 1 [0] rM.nd Z (Or.inl Z) (dN (pv 1)) (λfp s H=>eY (i:=0) (show (oW:ae).Nodup by decide +kernel) Z (Or.inl Z))
   (λfp s H=>?ht) (λfp s H=>?he1))
  (aA (aU (jy oW 1 [0] (dN (pv 2)) (λfp s H=>eY (i:=0) (show (oW:ae).Nodup by decide +kernel) Z (Or.inl Z)) (λfp s H=>gX)
   (λfp s H=>?he))))),?_]
 case ht=>exact To (bY gU (aN cD hr %[1,ay|0]) ay)
 case he1=>exact pv 0
 case he=>exact bp (tQ (K:=K) mh dY) (dH %[0,iW_ (K:=K) (pv 0) (Bp BA ay)|0]) (aN cD hr %[1,ay|0])
 apply#[_,Z,l,3,Z,by decide,by decide,st,λr H1 r0 r3 b1 fb=>#[_,_,Z,Z,_,Z,?_]];apply aL (λc=>?_) (λc=>?_)
 ·exact k .non none H1 b1 fb Z (λa z=>by cases z) (λws z=>by cases z)
 let#[xs,hl]:=st.some;let tZ:=b1 _ _ dz qd;let X0:=iC tu b1 hl;apply#[_,Z,lt,Z,#[_,.of tZ],λD hD=>?_]
 have Dl:D≠l:=by
  let#[xs,e]:=fb.some;exact (bw e hD).symm
 apply jz (own:=1) (fv:=[some (.ref l)]) (xs:=zs) Z dW (λi out H'=>∃us:Xb,aM l H1 H'/\bU H' l/\H' D\.lst out/\bD K H' out (us.map kT)/\us.Sublist (ts.take i)) #[[],aM.of (aa.new hD),fb.same (aa.new hD),aq,.nil,List.nil_sublist _] (λi out H' _ ⟨_,b,_⟩=>.of (b _ _ tZ qd)) (λWz H2 ⟨us,b2,dE,yB,QT,sub⟩=>?_) (λi x out H' hx ⟨us,b,stx,hDx,DK,sub⟩=>?_);rotate_left 1
 ·let#[t,ht,p,rfl,hp]:=kU X0 hx;apply#[_,Z,Z,λNx hN=>?_];apply#[_,Z,l,2,Z,by decide,by decide,stx,λr2 H4 q0 q1 b4 dS=>#[Z,_,Z,?_]];let#[WI,vd]:=stx.some;let uP:=iC DK b4 vd;let iY:=b4 _ _ hDx Dl;apply aL (λc2=>?_) (λc2=>?_)
  ·let lo:=bK DK;rw[au] at lo;let ls:=sub.length_le;rw[cX] at ls
   let hp4:=b4 _ _ (b _ _ hp (cb hp (show H1 l\_ from fb.some.choose_spec) nofun)) (by
    let#[WQ,e1]:=fb.some;exact cb hp e1 nofun)
   apply#[_,Z,out,iY,by omega,hN _ _ #[us++[t],λb' o e ne=>?_,?_,aq,?_,?_]]
   ·rw[aC (bw e hD)];exact b4 _ _ (b _ _ e ne) ne
   ·unfold bU;rw[aC Dl.symm];exact dS
   ·rw[cj];exact iI (vA uP hp4) iY
   rw[iD,ht];exact sub.append (List.Sublist.refl _)
  apply hN _ _ #[us,b.trans b4,dS,iY,uP,sub.trans ?_];rw[iD];exact List.sublist_append_left _ _
 rw[lz,eK] at sub;let lu:=bK QT;rw[au] at lu;let ls:=sub.length_le;apply#[_,Z,D,Z,#[_,.of yB],λa ha=>?_]
 have al:a≠l:=by
  let#[xs,e]:=dE.some;exact (bw e ha).symm
 have Da:D≠a:=bw yB ha;apply jz (own:=1) (fv:=[some (.ref l)]) (xs:=Wz) Z dW (λi out H'=>∃ws:Xb,aM l H2 H'/\bU H' l/\H' a\.lst out/\bD K H' out (ws.map kT)/\Paired (λw u=>w=u∨w=(u.2,u.1)) ws (us.take i)) #[[],aM.of (aa.new ha),dE.same (aa.new ha),aq,.nil,.nil] (λi out H' _ ⟨_,b,_⟩=>.of (b _ _ yB Dl)) (λWy H3 ⟨ws,b3,dR,jr,B8,pw⟩=>?_) (λi x out H' hx ⟨ws,b,stx,hax,DK,pw⟩=>?_)
 ·rw[lu,eK] at pw;let b0:=b1.trans b2;exact k (.ref a) (some ws) H3 (b0.trans b3) dR #[a,Wy,Z,jr,B8] (λc z=>by cases z;exact b0.free dE ha) (λws' z=>by cases z;exact k6_ good nd sub pw)
 let#[t,ht,p,rfl,hp]:=kU QT hx;have hi:i<us.length:=(cq.mp ht).1;let#[WM,kB]:=dE.some;let#[WI,vd]:=stx.some;let IG:=b _ _ hp (cb hp kB nofun);apply#[_,Z,Z,λNx hN=>dD ?_];apply#[_,Z,_,Z,_,Z,Z,p,_,_,Z,.of (yk IG),λq hq=>?_];let s4:=aa.new (o:=.tup [.str t.2,.str t.1]) hq;apply#[zl,λlx Fs=>?_];let s5:=aa.new (o:=.lst [.ref p,.ref q]) Fs;let sW:=s4.trans s5;let gx:=stx.same sW
 have LI:lx≠l:=by
  let#[xs,e]:=(stx.same s4).some;exact (bw e Fs).symm
 apply#[_,Z,l,2,Z,by decide,by decide,gx,λr2 H6 q0 q1 b6 gI=>?_];let#[WK,AO]:=gx.some;let Cs:=sW _ _ IG;let Sr:=s5 _ _ (show upd H' q (.tup [.str t.2,.str t.1]) q=_ from aq);let hp6:=b6 _ _ Cs (cb Cs AO nofun);let hq6:=b6 _ _ Sr (cb Sr AO nofun);let Mm:=b6 _ _ (show upd (upd H' q (.tup [.str t.2,.str t.1])) lx (.lst [.ref p,.ref q]) lx=_ from aq) LI
 have pick:∃(c:Addr) (tt:Str × Str),eJ [V.ref p,V.ref q] r2\.ref c/\H6 c\.tup ((kT tt).map kV)/\(tt=t∨tt=(t.2,t.1)):=by
  rcases wx (a:=V.ref p) (b:=V.ref q) q0 q1 with e|e
  ·exact#[p,t,e,hp6,.inl Z]
  exact#[q,(t.2,t.1),e,hq6,.inr Z]
 let#[c,tt,et,hc,Nt]:=pick;have zc:aM l H' H6:=(aM.of sW).trans b6;let uf:=zc _ _ hax al;let lo:=bK DK;rw[au] at lo;let lp:=bK pw;rw[cX] at lp;apply#[lx,_,_,_,Z,Z,.of Mm,et,out,uf,by omega,hN _ _ #[ws++[tt],λb' o e ne=>?_,?_,aq,?_,?_]]
 ·rw[aC (bw e ha)];exact zc _ _ (b _ _ e ne) ne
 ·unfold bU;rw[aC al.symm];exact gI
 ·rw[cj];exact iI (vA (iC DK zc vd) hc) uf
 rw[iD,ht];exact jx pw (.cons Nt .nil)
end
end Ev
namespace Ev
open PySem L2
abbrev Pc:=Str × Int × Option (Xb)
def ki(K:af)(H:Hp)(y:V)(p:Pc):Prop:=∃t v,y=.ref t/\H t\.tup [.str p.1,.int p.2.1,v]/\cu K H v p.2.2
abbrev ux(K:af)(H:Hp)(ys:ag)(ps:List Pc):Prop:=Paired (ki K H) ys ps
structure CQ (ts:Xb) (p:Pc):Prop where
 nm:ie p.1=true
 w1:1<=p.2.1
 w2:p.2.1<=1000000000
 ws:∀ws,p.2.2\ws->Gi ts ws
theorem kA_{K:af}{H:Hp}{a l:Addr}{ys:ag}{ks:List aD}(t:bD K H ys ks)(ha:H a\.lst ys)(st:bU H l):a≠l:=λe=>by
 subst e;rcases st with⟨n,e⟩|⟨n,m,c,e⟩
 all_goals
  rw[ha] at e;have e:ys=_:=HO.lst.inj (eF e);subst e;cases t with
  |cons h _=>
   let#[b,z,_]:=h;cases z
theorem cu.but{K:af}{H H':Hp}{l:Addr}{v:V}{o:Option (Xb)}(h:cu K H v o)(b:aM l H H')(st:bU H l):cu K H' v o:=by
 cases o with
 |none=>exact h
 |some ws=>
  let#[a,ys,e,ha,t]:=h;let#[xs,hl]:=st.some;exact#[a,ys,e,b _ _ ha (kA_ t ha st),iC t b hl]
theorem ki.but{K:af}{H H':Hp}{l:Addr}{y:V}{p:Pc}(h:ki K H y p)(b:aM l H H')(st:bU H l):ki K H' y p:=by
 let#[t,v,e,ht,hv]:=h;let#[xs,hl]:=st.some;exact#[t,v,e,b _ _ ht (cb ht hl nofun),hv.but b st]
theorem ki.same{K:af}{H H':Hp}{y:V}{p:Pc}(h:ki K H y p)(s:aa H H'):ki K H' y p:=by
 let#[t,v,e,ht,hv]:=h;exact#[t,v,e,s _ _ ht,hv.same s]
theorem cu.put{K:af}{H:Hp}{D:Addr}{xs:ag}{v:V}{o:Option (Xb)}{u:HO}(h:cu K H v o)(hD:H D\.lst xs)(ne:v≠.ref D):cu K (upd H D u) v o:=by
 cases o with
 |none=>exact h
 |some ws=>
  let#[a,ys,e,ha,t]:=h;subst e;exact#[a,ys,Z,by rw[aC λz=>ne (by rw[z])];exact ha,iI t hD]
section v
theorem Gz:bq [fo,"_law_ties","_law_most","_law_pieces_here","_law_name","_law_weight","_law_turn"] uK (aX NP):=bB
inductive Ou (K:af) (vs:ag) (H:Hp) (Q:VK) (E:XK):Prop
 |mk:∀(l lt:Addr) (m:Nat) (zs:ag) (ts:Xb),vs=[.ref l,.ref lt,.int m]->m<=30->bU H l->H lt\.lst zs->bD K H zs (ts.map kT)->lt≠l->ts.length<64->(∀t∈ts,yK t)->(ts.map kO).Nodup->(∀(a:Addr) (ys:ag) (ps:List Pc) (H':Hp),aM l H H'->bU H' l->H a=none->H' a\.lst ys->ux K H' ys ps->(∀p∈ps,CQ ts p)->(ps.map (·.1)).Nodup->ps.length<=m->(∀p∈ps,Hx m p.1)->Q (.ref a) H')->Ou K vs H Q E
theorem hW_{f:Addr}{fd:Ae}(F:bf K "_law_pieces" "_law_pieces" NP f fd)(B:Bi mg)(cD:!aZ 1 qu uy vy)(cN:!aZ 2 "_law_names" yG JJ)(cW:!aZ 2 "_law_ways" [fo,"_law_ties"] (k8 K)) :
  aj P w K mg base a9 3 f fd uK (Ou K):=by
 exists F.bF Gz;let#[l,lt,m,zs,ts,rfl,EL,st,dz,tu,qd,bS,good,nd,k]:=h;let sz:=bZ
 apply#[_,ax (bh 3 Gz.nd (dH ba))
  (ax (eR eE Z (dN (aN cN hr %[0,aN cD hr %[0,bG fO (pv 2) ay|0]|0])) (cm 4 Gz.nd)
   (ax (bh 5 Gz.nd (bG fO ay (aN cD hr %[0,bp dY (dH %[ay,ay,bG RZ ay ay|0]) (aN cD hr %[0,ay|0])|0])))
   (aA (iE (iy ja xa xb vz (pv 3) %[eM %[4,5,aN cW hr %[0,1|0]|0]|0])))))
  (ax (bh 6 Gz.nd (aN cD hr %[0,bG fO (cc gc (by rfl) B.len fP %[3|0]) ay|0]))
  (aA (aU (bG yX (qA qy (pv 3) (qx (pv 6)) qw) (qA qy (pv 3) qw (qx (pv 6)))))))),?_]
 apply#[zl,λa ha=>?_];let s1:=aa.new (o:=.lst []) ha
 have jW:l≠a:=by
  let#[xs,e]:=st.some;exact bw e ha
 have lta:lt≠a:=bw dz ha;apply#[_,Z,_,Z,_,Z,_,_,Z,Z,l,(m:Int)+1,Z,by omega,by omega,st.same s1,λr H2 r0 rm b2 dE=>?_];let#[r,rfl]:=p5 r0;apply#[l,r,Z,by omega,dE,λln ns H3 b3 dR fn Cv N=>?_]
 have u_:ln≠l:=λe=>by
  subst e;let#[xs,e2]:=dE.some;rw[fn] at e2;cases e2
 let iu:=b2 _ _ (show upd H a (.lst []) a=_ from aq) jW.symm
 have LJ:ln≠a:=λe=>by
  subst e;rw[fn] at iu;cases iu
 have B3:aM l H H3:=(aM.of s1).trans (b2.trans b3);let jr:=b3 _ _ iu jW.symm;let Ft:=B3 _ _ dz qd;let#[Ks,ve]:=st.some;let B8:=iC tu B3 ve
 apply#[ln,Z,#[_,.of Cv],hU (K:=K) (a:=ln) (xs:=ns.map V.str) (λi σ H'=>∃(v4 v5 v6:aI) (ys:ag) (ps:List Pc),σ=[some (.ref l),some (.ref lt),some (.int m),some (.ref a),v4,v5,v6]/\aM l H H'/\bU H' l/\H' ln\.lst (ns.map V.str)/\H' a\.lst ys/\ux K H' ys ps/\(∀y v,y∈ys->∀t n q,y=.ref t->H' t\.tup [n,q,v]->v≠.ref a)/\(∀p∈ps,CQ ts p)/\ps.map (·.1)=ns.take i)
  #[none,none,none,[],[],Z,B3,dR,Cv,jr,.nil,λy v hy=>(by simp at hy),by simp,Z] (λi σ H' _ ⟨_,_,_,_,_,_,_,_,q,_⟩=>.of q) ?_ ?_]
 ·rintro i x σ H4 hx ⟨v4,v5,v6,ys,ps,rfl,b4,dS,Sz,ug,Cc,Nj,gp,en⟩;let#[n,hn,rfl]:=jc hx;have hi:i<ns.length:=(cq.mp hn).1;apply#[_,Z,_,_,Z,Z,#[by decide,by decide,by decide],zl,λp hp=>?_];let s5:=aa.new (o:=.lst [.int 3,.int 100,.int ((10:Int) ^ (9:Int).toNat)]) hp
  have pl:p≠l:=by
   let#[xs,e]:=dS.some;exact (bw e hp).symm
  apply#[_,Z,l,3,Z,by decide,by decide,dS.same s5,λr1 H6 q0 q1 b6 gI=>?_];let#[y,hy,bb,eb,e1,e2]:=FK (p:=λy:V=>∃n:Int,y=.int n/\0<n/\n<=1000000000) (a:=V.int 3) (b:=.int 100) (c:=.int ((10:Int) ^ (9:Int).toNat)) q0 q1 #[3,Z,by decide,by decide] #[100,Z,by decide,by decide] #[_,Z,by decide,by decide];subst eb;apply#[p,_,_,_,Z,Z,.of (b6 _ _ aq pl),hy,l,bb,Z,e1,by omega,gI,λr2 H7 q2 q3 b7 k7=>#[_,_,Z,Z,?_]];have Kh:aM l H4 H7:=(aM.of s5).trans (b6.trans b7);let CD:=Kh _ _ ug jW.symm;let Mn:=(b4.trans Kh) _ _ dz qd;let Ky:=iC tu (b4.trans Kh) ve;apply#[_,Z,.inl #[Z,_,.of CD],_,Z,_,Z,_,Z,_,Z,l,lt,zs,ts,Z,k7,Mn,Ky,qd,bS,good,nd,λv o H8 b8 D8 wy fresh gw=>?_];let Ho:=Kh.trans b8;let CC:=b8 _ _ CD jW.symm;let hn8:=Ho _ _ Sz u_;apply#[zl,λt ht=>?_];let s9:=aa.new (o:=.tup [.str n,.int (1+r2),v]) ht
  have va:v≠.ref a:=λz=>by
   have:=fresh a z;rw[CD] at this;cases this
  let ly:=bK Cc;let lp:=dX List.length en;rw[au,cX] at lp;let hlen:=N.len;have ta:t≠a:=(bw CC ht).symm;apply#[a,_,_,Z,Z,s9 _ _ CC,by omega,?_];apply#[_,_,_,_,ps++[(n,1+r2,o)],Z,λb' o' e ne=>?_,?_,?_,aq,?_,?_,?_,?_]
  ·rw[aC (bw e ha)];exact s9 _ _ ((b4.trans Ho) _ _ e ne)
  ·unfold bU;rw[aC jW];exact D8.same s9
  ·rw[aC LJ];exact s9 _ _ hn8
  ·have old:ux K (upd (upd H8 t (.tup [.str n,.int (1+r2),v])) a (.lst (ys++[.ref t]))) ys ps:=by
    have gen:∀(zq:ag) (Lf:List Pc),(∀y∈zq,y∈ys)->ux K H4 zq Lf->ux K (upd (upd H8 t (.tup [.str n,.int (1+r2),v])) a (.lst (ys++[.ref t]))) zq Lf:=λzq Lf sub h=>by
     induction h with
     |nil=>exact .nil
     |@cons y q ys1 ps1 h _ ih=>
      apply .cons ?_ (ih λz hz=>sub z (eL _ hz));let#[t',v',e,jk,L4]:=h;let nv:=Nj y v' (sub y d9) t' _ _ e jk;let#[WL,wu]:=dS.some;let Az:=s9 _ _ (Ho _ _ jk (cb jk wu nofun));exact#[t',v',e,by rw[aC (cb Az (s9 _ _ CC) nofun)];exact Az,((L4.but Ho dS).same s9).put (s9 _ _ CC) nv]
    exact gen ys ps (λ_ h=>h) Cc
   exact jx old (.cons #[t,v,Z,by rw[aC ta];exact aq,(wy.same s9).put (s9 _ _ CC) va] .nil)
  ·intro y v' hy' t' n' q' e jk;rcases eZ.mp hy' with hy'|hy'
   ·let#[j,hj,ej]:=mO hy';let#[t2,v2,Js,AA,_]:=hJ Cc j hj Z1;rw[ej] at Js;subst Js;cases e;let#[WL,wu]:=dS.some;let Az:=s9 _ _ (Ho _ _ AA (cb AA wu nofun));rw[aC (cb Az (s9 _ _ CC) nofun),Az] at jk;let z:=HO.tup.inj (eF jk);have:v2=v':=(List.cons.inj (List.cons.inj (List.cons.inj z).2).2).1;subst this;exact Nj _ v2 hy' _ _ _ Z AA
   obtain rfl:y=.ref t:=⇑hy'
   cases e;rw[aC ta,aq] at jk;let z:=HO.tup.inj (eF jk);have:v=v':=(List.cons.inj (List.cons.inj (List.cons.inj z).2).2).1;subst this;exact va
  ·intro q hq;rcases eZ.mp hq with hq|hq
   ·exact gp q hq
   obtain rfl:q=(n,1+r2,o):=⇑hq
   exact#[N.ok n (dC hn),by show 1<=1+r2;omega,by show 1+r2<=1000000000;omega,gw]
  rw[cj,en,iD,hn];rfl
 rintro σ H4 ⟨v4,v5,v6,ys,ps,rfl,b4,dS,Sz,ug,Cc,Nj,gp,en⟩;rw[au,eK] at en;let ly:=bK Cc;let lp:=dX List.length en;rw[au] at lp;let hlen:=N.len;apply#[_,Z,_,Z,a,_,Z,.inl (.of ug),_,_,Z,Z,l,_,Z,by show (0:Int)<(ys.length:Int)+1;omega,by show (ys.length:Int)+1<1073741824;omega,dS,λtn H5 q0 q1 b5 gx=>?_];let#[tn,rfl]:=p5 q0;let IV:=b5 _ _ ug jW.symm;apply#[_,Z,_,Z,_,Z,a,_,Z,.of IV,λp1 yl=>?_];rw[Pz];let s6:=aa.new (o:=.lst (ys.drop tn)) yl;apply#[_,Z,_,Z,_,Z,a,_,Z,.of (s6 _ _ IV),λp2 jq=>?_];rw[Dv];let s7:=aa.new (o:=.lst (ys.take tn)) jq;apply#[p1,p2,_,_,Z,Z,s7 _ _ aq,aq,by rw[pY,cX];omega,λp3 AG=>?_];let nI:=s6.trans s7;let s8:=aa.new (o:=.lst (ys.drop tn++ys.take tn)) AG;let Wc:=b4.trans b5;let perm:=T8 ps tn;let pm:=perm.map (·.1);let all:=nI.trans s8;apply k p3 _ (ps.drop tn++ps.take tn) _ (Wc.trans (aM.of all)) (gx.same all) ((Wc.trans (aM.of nI)).free (gx.same nI) AG) aq ?_ (λq hq=>gp q (perm.mem_iff.mp hq)) ?_ ?_ λq hq=>?_
 ·have h5:ux K _ ys ps:=Paired.bL Cc λy q h=>(h.but b5 dS).same all;exact jx (P2 tn h5) (Ke tn h5)
 ·apply pm.nodup_iff.mpr ?_;rw[en];exact N.nd
 ·rw[perm.length_eq];omega
 let hm:=perm.mem_iff.mp hq
 have:q.1∈ns:=by
  rw[<- en];exact bH.mpr #[q,hm,Z]
 rcases N.end_ _ this with z|⟨kk,h1,h2⟩
 ·exact .inl z
 exact .inr #[kk,by omega,h2]
end
end Ev
abbrev aK:=List Ev.Pc
namespace L2
open PySem PySem.Spec PyProof.Rows
section
variable{X:Cx}
end
end L2
namespace L2
open PySem PySem.Spec PyProof.Rows PySem.Builtin PySem.Builtin.Str
section
variable{X:Cx}
end
end L2
namespace L2
open PySem PySem.Spec PyProof.Rows PySem.W
section
variable{X:Cx}
end
end L2
namespace Ev
open PySem L2
theorem My{α:Type}{p:α->Prop}{xs:List α}{r:Int}{n:Nat}(hn:xs.length=n)(h0:0<=r)(h1:r<(n:Int))(h:∀v∈xs,p v):∃v,eJ xs r\v/\p v:=by
 have hl:r.toNat<xs.length:=by omega
 apply#[xs[r.toNat],?_,h _ (kQ hl)];rw[fq h0 Z1,bO hl]
theorem iR{t u:TS}{D:Ends}{σ:St}{H:Hp}(R:km)(later:∀σ H,R σ H->u D σ H)(now:∀N:St->Hp->Prop,(∀σ H,R σ H->N σ H)->t { D with nx:=N } σ H):pe t u D σ H:=now (u D) later
theorem setG{i:Nat}{v:V}{σ:St}{H:Hp}{N:km}(h:N (σ.set i (some v)) H):gz i v σ H N:=h
theorem bU.ne{H:Hp}{l a:Addr}(h:bU H l)(e:H a=none):a≠l:=by
 rintro rfl;let#[xs,h]:=h.some;rw[e] at h;cases h
theorem aM.snd{l a:Addr}{H H':Hp}{o:HO}(h:aM l H H')(e:H a=none):aM l H (L2.upd H' a o):=λb u q n=>by
 rw[aC (bw q e)];exact h b u q n
end Ev
local macro_rules|`(tactic|lk)=>`(tactic|(refine Ev.setG ?_;dsimp only))
namespace Ev
open PySem L2
theorem UQ{α:Type}{ps:List (Str × α)}(nd:(ps.map (·.1)).Nodup){a b:Str × α}(ha:a∈ps)(hb:b∈ps)(e:a.1=b.1):a=b:=by
 induction ps with
 |nil=>cases ha
 |cons p ps ih=>
  rw[fE,mL] at nd;rcases cw.mp ha with za|ha
  ·rcases cw.mp hb with zb|hb
   ·rw[za,zb]
   rw[za] at e;exact absurd (show p.1∈ps.map (·.1) from bH.mpr #[b,hb,e.symm]) nd.1
  rcases cw.mp hb with zb|hb
  ·rw[zb] at e;exact absurd (show p.1∈ps.map (·.1) from bH.mpr #[a,ha,e]) nd.1
  exact ih nd.2 ha hb
def strOf(hs:Xa)(n:Str):Int:=((hs.find? λh=>decide (h.1=n)).map (·.2)).getD 0
theorem yY{hs:Xa}{n:Str}(h:n∈hs.map (·.1)):(n,strOf hs n)∈hs:=by
 unfold strOf;let#[x,hx,e]:=bH.mp h;cases q:hs.find? λh=>decide (h.1=n) with
 |none=>
  have:=List.find?_eq_none.mp q x hx;simp[e] at this
 |some y=>
  let m:=List.mem_of_find?_eq_some q;have:=List.find?_some q;have e2:y.1=n:=⇑this
  show (n,y.2)∈hs;rw[<- e2];exact m
theorem io_{hs:Xa}(nd:(hs.map (·.1)).Nodup){n:Str}{s:Int}(h:(n,s)∈hs):strOf hs n=s:=by
 let m:=yY (bH.mpr #[_,h,Z]:n∈hs.map (·.1));exact dX Prod.snd (UQ nd m h Z)
theorem i7_{a b:Int}(ha:0<=a)(h:0<b):Int.gcd b (a % b)=Int.gcd a b:=by
 let#[m,rfl]:=p5 ha;let#[n,rfl]:=p5 (Int.le_of_lt h);rw[<- Int.natCast_emod];show Nat.gcd n (m % n)=Nat.gcd m n;rw[Nat.gcd_comm n,<- Nat.gcd_rec,Nat.gcd_comm]
theorem Z8{a b:Int}(hb:0<b)(oC:b<=2000000):0<(Int.gcd a b:Int)/\(Int.gcd a b:Int)<1073741824:=by
 have h1:0<Int.gcd a b:=Int.gcd_pos_of_ne_zero_right a Z1;have h2:(Int.gcd a b:Int) ∣ b:=Int.gcd_dvd_right a b;let h3:=Int.le_of_dvd hb h2;omega
section v
theorem pf:bq ["one","other","rest","divisor","left"] qi (aX Lb):=bB
def Ea:Sp:=λvs H Q _=>∃a b:Int,vs=[.int a,.int b]/\0<=a/\0<b/\Q (.int (Int.gcd a b)) H
theorem Z9{f:Addr}{fd:Ae}(F:bf K "greatest_divisor" "greatest_divisor" Lb f fd):!aj a9 1 f fd qi Ea:=by
 exists F.bF pf;let#[a,b,rfl,ha,hb,k]:=h;refine' #[_,ax ?s1 (ax ?s2 (ax ?s3 ?s4)),?kk]
 case s1=>exact bh 2 pf.nd (pv 0)
 case s2=>exact bh 3 pf.nd (pv 1)
 case s3=>exact Uo eE (bY qp (pv 2) ay) (ax (bh 4 pf.nd (bG vv (pv 3) (pv 2))) (ax (bh 3 pf.nd (pv 2)) (aA (bh 2 pf.nd (pv 4)))))
 case s4=>exact aA (aU (pv 3))
 apply#[_,Z,_,Z,?_];apply it_ (λσ H'=>H'=H/\∃(r d:Int) (v4:aI),σ=[some (.int a),some (.int b),some (.int r),some (.int d),v4]/\0<=r/\0<d/\Int.gcd r d=Int.gcd a b) (λσ _=>match σ with | [_,_,some (.int r),_,_]=>r.toNat|_=>0) #[Z,a,b,none,Z,ha,hb,Z] ?_ ?_
 ·rintro σ H' ⟨rfl,r,d,v4,rfl,hr0,hd,e⟩;apply#[_,Z,Z,_,Z,?_];apply aL (λc=>?_) (λc=>?_)
  ·have iX:0<r:=by
    have:r≠0:=by
     intro z;subst z;simp at c
    omega
   apply#[_,Z,_,Z,_,_,Z,Z,iX,_,Z,_,Z,?_];let h1:=Int.emod_nonneg d (Int.ne_of_gt iX);let h2:=Int.emod_lt_of_pos d iX;apply#[#[Z,_,_,_,Z,h1,iX,?_],?_]
   ·rw[<- e,Int.gcd_comm (d % r) r,i7_ (Int.le_of_lt hd) iX,Int.gcd_comm]
   show (d % r).toNat<r.toNat;omega
  have iX:r=0:=⇑c
  subst iX;apply#[_,Z,?_]
  have e2:(Int.gcd a b:Int)=d:=by
   rw[<- e,Int.gcd_zero_left];omega
  rw[<- e2];exact k
 intro σ H' Q1 Q2 hq h;let#[x,e,h1,c,h2,h3]:=h;exact#[x,e,h1,c,h2,hq _ _ h3]
end
end Ev
namespace L2
open PySem PySem.Spec PyProof.Rows
def Jp(w:Af)(l:List (Str × Tok × Aa)):List DictEntry:=l.map λx=>#[hashStr w x.1,.str x.1 x.2.1,x.2.2]
def kn(K:af)(w:Af)(d:Addr)(kvs:List (Str × V)):Prop:=
 (d == sysModules)=false/\(kvs.map (·.1)).Nodup/\∃(l:List (Str × Tok × Aa)) (o:Obj) (es:Array DictEntry) (ep:Nat),K.lookup d\o/\o.ExactDict/\o.data=.dict es ep/\es.toList=Jp w l/\Paired (λ(p:Str × V) (x:Str × Tok × Aa)=>p.1=x.1/\RelV p.2 x.2.2) kvs l
theorem UC{P:Ad}{w:Af}:∀{l:List (Str × Tok × Aa)},Pairs (fG P w) (Jp w l) (l.map λx=>((Sum.inr x.1:Key),x.2.2))
 |[]=>.nil
 |x::l=>.cons (P5 P w x.1 x.2.1) Z (UC (l:=l))
theorem Ut{kvs:List (Str × V)}{l:List (Str × Tok × Aa)}(h:Paired (λ(p:Str × V) (x:Str × Tok × Aa)=>p.1=x.1/\RelV p.2 x.2.2) kvs l):kvs.map (·.1)=l.map (·.1):=by
 induction h with
 |nil=>rfl
 |cons a _ ih=>rw[fE,fE,ih,a.1]
theorem kn.of{P:Ad}{K:af}{w:Af}{d:Addr}{kvs:List (Str × V)}{h:Heap}(k:kn K w d kvs)(X:K.In h):∃l:List (Str × Tok × Aa),Paired (λ(p:Str × V) (x:Str × Tok × Aa)=>p.1=x.1/\RelV p.2 x.2.2) kvs l/\h.DictOf (fG P w) d (l.map λx=>((Sum.inr x.1:Key),x.2.2)):=by
 let#[_,nd,l,o,es,ep,ho,hx,hd,he,hp]:=k;apply#[l,hp,o,es,ep,X _ _ ho,hx,hd,λe m=>?_,?_,?_]
 ·have m:e∈Jp w l:=by
   rw[<- he];simpa using m
  let#[x,_,rfl]:=bH.mp m;exact#[Sum.inr x.1,P5 P w x.1 x.2.1,Z]
 ·rw[he];exact UC
 rw[Ut hp] at nd;rw[cg,qE,pZ];rw[qE,pZ] at nd;exact nd.imp λn e=>n (g_ e)
theorem jQ_{kvs:List (Str × V)}{l:List (Str × Tok × Aa)}(h:Paired (λ(p:Str × V) (x:Str × Tok × Aa)=>p.1=x.1/\RelV p.2 x.2.2) kvs l)(nd:(kvs.map (·.1)).Nodup){z:Str}{v:V}(m:(z,v)∈kvs):∃u,valueAt (l.map λx=>((Sum.inr x.1:Key),x.2.2)) (Sum.inr z)\u/\RelV v u:=by
 unfold valueAt
 induction h with
 |nil=>cases m
 |@cons p x kvs l a _ ih=>
  rw[fE] at nd ⊢;rw[List.find?_cons];let#[n1,n2]:=mL.mp nd;by_cases e:x.1=z
  ·rcases cw.mp m with m|m
   ·subst m;apply#[x.2.2,?_,a.2];simp[e]
   exact absurd (by rw[a.1,e];exact bH.mpr #[_,m,Z]) n1
  rcases cw.mp m with m|m
  ·subst m;exact absurd a.1.symm e
  have:=ih n2 m;simp[e];simpa using this
theorem gw_{kvs:List (Str × V)}{l:List (Str × Tok × Aa)}(h:Paired (λ(p:Str × V) (x:Str × Tok × Aa)=>p.1=x.1/\RelV p.2 x.2.2) kvs l)(z:Str):(valueAt (l.map λx=>((Sum.inr x.1:Key),x.2.2)) (Sum.inr z)).isSome=decide (z∈kvs.map (·.1)):=by
 rw[Ut h];unfold valueAt;rw[Option.isSome_map,List.isSome_find?];rw[Bool.eq_iff_iff,List.any_eq_true,decide_eq_true_iff];constructor
 ·rintro⟨kv,hm,e⟩;let#[x,hx,rfl]:=bH.mp hm;have e:(Sum.inr x.1:Key)=Sum.inr z:=⇑e
  exact bH.mpr #[x,hx,g_ e]
 intro m;let#[x,hx,e]:=bH.mp m;exact#[_,bH.mpr #[x,hx,Z],by simp[e]]
section
variable{X:Cx}{o i:Expr}{pos:Pos}{td ty:TE}
inductive xG (K:af) (w:Af) (Q:VK) (y:V) (x:V) (H2:Hp):Prop
 |mk:∀d kvs z,x=.ref d->kn K w d kvs->y=.str z->Q (.bl (decide (z∈kvs.map (·.1)))) H2->xG K w Q y x H2
def KN(K:af)(w:Af)(ty td:TE):TE:=λσ H Q=>ty σ H λy H1=>td σ H1 λx H2=>xG K w Q y x H2
theorem _E(hi:PE X i ty)(ho:PE X o td):PC X .In i o (KN X.K X.w ty td):=by
 intro pins s σ H Q I h;apply a_ (hi pins s σ H _ I h) λiv s1 ⟨y,H1,I1,ry,q1⟩=>a_ (ho pins s1 σ H1 _ I1 q1) λu s2 ⟨x,H2,I2,rx,d,kvs,z,ex,kd,ey,q2⟩=>?_;subst ex;subst ey;obtain rfl:u=Value.ref d:=rx;let#[l,hp,dd]:=kd.of (P:=X.prog) I2.fU;apply wpAny_in_of (yJ (k:=Sum.inr z) ry) kd.1 dd.mapOf ?_;rw[gw_ hp];exact#[.bl _,H2,I2.tok _,Z,q2]
inductive qT (K:af) (w:Af) (Q:VK) (x:V) (y:V) (H2:Hp):Prop
 |mk:∀d kvs z v,x=.ref d->kn K w d kvs->y=.str z->(z,v)∈kvs->Q v H2->qT K w Q x y H2
def D0(K:af)(w:Af)(td ty:TE):TE:=λσ H Q=>td σ H λx H1=>ty σ H1 λy H2=>qT K w Q x y H2
theorem jM_(ho:PE X o td)(hi:PE X i ty)(hs:B1 i):PE X (.Subscript o i pos) (D0 X.K X.w td ty):=by
 intro pins s σ H Q I h;apply TM PySem.F.slot_dict_getitem.lookup hs (a_ (ho pins s σ H _ I h) λu s1 ⟨x,H1,I1,rx,q1⟩=>a_ (hi pins s1 σ H1 _ I1 q1) λiv s2 ⟨y,H2,I2,ry,d,kvs,z,v,ex,kd,ey,hm,q2⟩=>?_);subst ex;subst ey;obtain rfl:u=Value.ref d:=rx;let#[l,hp,dd]:=kd.of (P:=X.prog) I2.fU;let#[w',hw,iU]:=jQ_ hp kd.2.1 hm;exact#[dd.mapOf.typeIs,wpAny_getItem_of (yJ (k:=Sum.inr z) ry) dd.mapOf hw #[v,H2,I2.tok _,iU,q2]]
end
end L2
namespace Ev
open PySem L2
abbrev Rl:=Str × Str × Str × Option Str
def rl:List Rl:=[("least one high","least","one",some "high"),("least one fall","least","one",some "fall"),("least one calm","least","one",some "calm"),("least all high","least","all",some "high"),("least all fall","least","all",some "fall"),("least all calm","least","all",some "calm"),("below one high","below","one",some "high"),("below one fall","below","one",some "fall"),("below one calm","below","one",some "calm"),("below all high","below","all",some "high"),("below all fall","below","all",some "fall"),("below all calm","below","all",some "calm"),("shares one","shares","one",none),("shares all","shares","all",none),("turns high","turns","all",some "high"),("turns fall","turns","all",some "fall"),("turns calm","turns","all",some "calm")]
def tE:Option Str->V
 |some x=>.str x
 |none=>.non
def me:ae:=rl.map (·.1)
theorem gW_:me.Nodup:=by decide +kernel
def Rc(as:ai):List (Str × V):=List.zipWith (λ(r:Rl) a=>(r.1,V.ref a)) rl as
structure Jx (K:af) (w:Af) (mg:Str->Option Aa) (d:Addr) (as:ai):Prop where
 mg:mg "RULES"\.ref d
 len:as.length=17
 kd:kn K w d (Rc as)
 tup:Paired (λa (r:Rl)=>∀H,gE K H a [.str r.2.1,.str r.2.2.1,tE r.2.2.2]) as rl
theorem US{as:ai}(h:as.length=17):(Rc as).map (·.1)=me:=by
 have:∀(rs:List Rl) (as:ai),as.length=rs.length->(List.zipWith (λ(r:Rl) a=>(r.1,V.ref a)) rs as).map (·.1)=rs.map (·.1):=by
  intro rs
  induction rs with
  |nil=>intro as _;rfl
  |cons r rs ih=>
   intro as e;cases as with
   |nil=>cases e
   |cons a as=>
    rw[List.zipWith_cons_cons,fE,fE,ih as ⇑e]
 exact this rl as h
theorem RY{K:af}:∀{rs:List Rl} {as:ai},Paired (λa (r:Rl)=>∀H,gE K H a [.str r.2.1,.str r.2.2.1,tE r.2.2.2]) as rs->∀r∈rs,∃a,(r.1,V.ref a)∈List.zipWith (λ(r:Rl) a=>(r.1,V.ref a)) rs as/\∀H,gE K H a [.str r.2.1,.str r.2.2.1,tE r.2.2.2]
 |_,_,.nil,r,h=>by cases h
 |r0::rs,a::as,.cons h t,r,m=>by
  rw[List.zipWith_cons_cons];rcases cw.mp m with rfl|m
  ·exact#[a,d9,h]
  let#[b,hb,hs]:=RY t r m;exact#[b,eL _ hb,hs]
def E2(ns:ae):Option Str->Bool
 |some x=>decide (x∈ns)
 |none=>false
section v
theorem rW:bq fF fF (aX Oc):=bB
def UZ:Sp:=λvs H Q _=>∃r∈rl,vs=[.str r.1]/\Q (.bl true) H
theorem gz_{f d:Addr}{as:ai}{fd:Ae}(F:bf K "is_rule" "is_rule" Oc f fd)(B:Bi mg)(R:Jx K w mg d as):!aj a9 1 f fd fF UZ:=by
 exists F.bF rW;let#[r,bX,rfl,k]:=h;apply#[_,aA (aU (kD (cc iJ (by rfl) B.h_ ig %[0,iG (v:=.ty "str") (by rfl) B.str C3 Z|0]) (kF (F9 (_E (pv 0) (xh (v:=.ref d) (by rfl) R.mg Z)))))),?_];apply#[_,Z,_,_,_,_,Z,.str r.1,Z,_,Z,bN #[_,Z,d,_,r.1,Z,R.kd,Z,?_]];rw[US R.len,show decide (r.1∈me)=true from b_ (bH.mpr #[r,bX,Z])];exact k
theorem vN:bq ["rule"] ["rule"] (aX lJ):=bB
def Hf(K:af):Sp:=λvs H Q _=>∃r∈rl,vs=[.str r.1]/\∀a,(∀H',gE K H' a [.str r.2.1,.str r.2.2.1,tE r.2.2.2])->Q (.ref a) H
theorem iV_{f d:Addr}{as:ai}{fd:Ae}(F:bf K Bm Bm lJ f fd)(R:Jx K w mg d as)(cI:!aZ 1 "is_rule" fF UZ):!aj a9 2 f fd ["rule"] (Hf K):=by
 exists F.bF vN;let#[r,bX,rfl,k]:=h;apply#[_,ax (bx (dZ (di (aN cI hr %[0|0]))) (aA j1_) bJ) (aA (aU (jM_ (xh (v:=.ref d) (by rfl) R.mg Z) (pv 0) (λ_ _=>rfl)))),?_];let#[a,ha,hs]:=RY R.tup r bX;exact#[_,Z,r,bX,Z,_,Z,aO #[_,Z,d,_,r.1,.ref a,Z,R.kd,Z,ha,k a hs]]
end
end Ev
namespace Ev
open PySem L2
def ke(K:af)(H:Hp)(v:V):Option Str->Prop
 |some x=>v=.str x
 |none=>∃t,d5 K H v t/\PySem.W.kitOne K t (.type "str")\false
def jB(hs:Xa)(ts:Xb):Option Str->Option Str->Bool
 |some x,some y=>decide (x∈hs.map (·.1))&&(decide (y∈hs.map (·.1))&&decide (y∈near (az hs) (aQ ts) x))
 |_,_=>false
theorem OX(hs:Xa)(ts:Xb)(x y:Str):jB hs ts (some x) (some y)=(decide (x∈hs.map (·.1))&&(decide (y∈hs.map (·.1))&&decide (y∈near (az hs) (aQ ts) x))):=rfl
section v
inductive lE (K:af) (C:Addr) (vs:ag) (H:Hp) (Q:VK) (E:XK):Prop
 |mk:∀(p:Addr) (v:V) (x:Option Str) (hs:Xa) (ts:Xb) (fp:ai),vs=[.ref p,v]->fj K C H p hs ts fp->ke K H v x->Q (.bl (E2 (hs.map (·.1)) x)) H->lE K C vs H Q E
theorem _J{f C:Addr}{fd:Ae}(F:bf K "has_hand" "Web.has_hand" vX f fd)(T:Txt K mg C)(B:Bi mg):!aj a9 1 f fd oO (lE K C):=by
 exists F.bF xO;let#[p,v,x,hs,ts,fp,rfl,W,sv,k]:=h;let hu:=fV hr;let#[dx,d1,l2,d3,zs,as,rfl,h1,h2,h3,h4,h5,h6,h7]:=W.ex;apply#[_,aA (aU (kD (cc iJ (by rfl) B.h_ ig %[1,iG (v:=.ty "str") (by rfl) B.str C3 Z|0]) (kF (F9 (C0 hu (pv 1) (dA (pv 0) Z)))))),?_];cases x with
 |some x=>
  cases (show v=.str x from sv);apply#[_,Z,_,_,_,_,Z,.str x,Z,_,Z,bN ?_];apply#[_,Z,_,Z,p,C,dx,_,_,Z,h1,T.cl,T.nS,I_ _ _ _,d1,_,Z,.k (k:=Sum.inr x) h2,?_];rw[JI];exact k
 |none=>
  let#[t,ty,e]:=sv;exact#[_,Z,_,_,_,_,Z,ty,e,_,Z,aO k]
inductive JC (K:af) (C:Addr) (vs:ag) (H:Hp) (Q:VK) (E:XK):Prop
 |mk:∀(p:Addr) (v u:V) (x y:Option Str) (hs:Xa) (ts:Xb) (fp:ai),vs=[.ref p,v,u]->fj K C H p hs ts fp->(az hs).Nodup->ke K H v x->ke K H u y->Q (.bl (jB hs ts x y)) H->JC K C vs H Q E
theorem iI_{f C:Addr}{fd:Ae}(F:bf K "are_tied" "Web.are_tied" sr f fd)(T:Txt K mg C)(cH:!br C 1 "has_hand" oO (lE K C)):!aj a9 2 f fd kG (JC K C):=by
 exists F.bF zG;let#[p,v,u,x,y,hs,ts,fp,rfl,W,nd,sv,su,k]:=h;let hu:=fV hr;let#[dx,d1,l2,d3,zs,as,rfl,h1,h2,h3,h4,h5,h6,h7]:=id W.ex;have oy:(cU d1 l2 d3).lookup ("has_hand":Str)=none:=iF _ _ _ Z0 Z0 Z0;apply#[_,aA (aU (kD (ft cH T.cl hr (pv 0) %[1|0]) (kD (ft cH T.cl hr (pv 0) %[2|0]) (kF (oM (L_ ic (mK hr 0)) (pv 2) (kL hu (dA (pv 0) Z) (pv 1)) (by with_unfolding_all rfl)))))),?_];apply#[_,Z,p,dx,_,Z,h1,oy,_,Z,p,v,x,hs,ts,_,Z,W,sv,_,Z,?_];cases x with
 |none=>exact aO k
 |some x=>
  cases (show v=.str x from sv);apply aL (λc=>?_) (λc=>?_)
  ·have hx:x∈hs.map (·.1):=wZ c;let#[a,e1,ha]:=R_ nd hx h6 h7;apply#[_,Z,p,dx,_,Z,h1,oy,_,Z,p,u,y,hs,ts,_,Z,W,su,_,Z,?_];cases y with
   |none=>exact aO k
   |some y=>
    cases (show u=.str y from su);rw[OX,b_ hx,Bool.true_and] at k;apply aL (λc2=>?_) (λc2=>?_)
    ·have hy:y∈hs.map (·.1):=wZ c2;rw[b_ hy,Bool.true_and] at k;apply#[_,Z,_,Z,p,C,dx,_,_,Z,h1,T.cl,T.nN,M4 _ _ _,_,Z,d3,.ref a,Z,?_,y,_,Z,#[a,_,Z,.of ha,GE _],k];rw[<- e1];exact .k (k:=Sum.inr x) h5
    have hy:¬y∈hs.map (·.1):=λz=>c2 (b_ z);rw[d_ hy,Bool.false_and] at k;exact k
  have hx:¬x∈hs.map (·.1):=λz=>c (b_ z);cases y with
  |none=>exact k
  |some y=>
   rw[OX,d_ hx,Bool.false_and] at k;exact k
theorem i0_{hs:Xa}{ts ws:Xb}(G:Good hs ts)(W:Gi ts ws){t:Str × Str}(ht:t∈aQ ws):jB hs ts (some t.1) (some t.2)=true:=by
 let#[x,hx,ex]:=U4.mp ht;let#[u,hu,eu]:=bH.mp (W.EZ x hx);have eo:aR u.1 u.2=t:=(C6 eu).trans ex
 have both:t.1∈hs.map (·.1)/\t.2∈hs.map (·.1)/\aR t.1 t.2=t:=by
  let#[g1,g2]:=G.HL u hu;rcases JD u.1 u.2 with e|e
  ·rw[<- eo,e];exact#[g1,g2,e]
  rw[<- eo,e];exact#[g2,g1,(UR _ _).trans e]
 let#[m1,m2,m3]:=both;have m4:t.2∈near (az hs) (aQ ts) t.1:=List.mem_filter.mpr #[(iH hs).mem_iff.mpr m2,b_ (by rw[m3];exact U4.mpr #[u,hu,eo])];rw[OX,b_ m1,b_ m2,b_ m4];rfl
theorem JH:bq ["web","ways","found","one","other"] ["web","ways"] (aX ma):=bB
inductive Nr (K:af) (C:Addr) (vs:ag) (H:Hp) (Q:VK) (E:XK):Prop
 |mk:∀(p:Addr) (v:V) (o:Option (Xb)) (hs:Xa) (ts:Xb) (fp:ai),vs=[.ref p,v]->fj K C H p hs ts fp->Good hs ts->cu K H v o->(∀ws,o\ws->Gi ts ws)->(∀v' H',aa H H'->cu K H' v' (o.map aQ)->(∀a,v'=.ref a->H a=none)->Q v' H')->Nr K C vs H Q E
theorem im_{f C:Addr}{fd:Ae}(F:bf K "checked_ways" "checked_ways" ma f fd)(T:Txt K mg C)(cS:!aZ 3 "sorted_ties" ["ties"] (Oz K))(cT:!br C 2 "are_tied" kG (JC K C)):!aj a9 4 f fd ["web","ways"] (Nr K C):=by
 exists F.bF JH;let#[p,v,o,hs,ts,fp,rfl,W,G,wy,gw,k]:=h;let hu:=fV hr;have tW:bc 2 _:=hr.mono (by decide)
 apply#[_,ax (bx (yN (IZ (pv 1))) (aA (aU BD)) bJ)
  (ax (bh 2 JH.nd (aN cS hr %[1|0]))
  (ax (bx (yN (IZ (pv 2))) eI bJ)
  (ax (eR eE Z (dN (pv 2)) (mE Z (dB (cm 3 JH.nd) (dB (cm 4 JH.nd) jd)))
   (aA (bx (dZ (di (ft cT T.cl tW (pv 0) %[3,4|0]))) eI bJ)))
  (aA (aU (pv 2)))))),?_]
 cases o with
 |none=>
  cases (show v=.non from wy);exact#[_,Z,_,Z,bN (k .non H (aa.refl H) Z (λa z=>by cases z))]
 |some ws=>
  let#[a,ys,rfl,ha,tu]:=wy;let Wo:=gw ws Z;apply#[_,Z,_,Z,aO ?_];apply#[_,Z,a,ys,ws,Z,ha,tu,Wo.good,Wo.nd,by have:=Wo.len;have:=G.vL;omega,λl' zs H1 s1 hf fJ tz=>?_];apply#[_,Z,_,Z,aO ?_];let W1:=W.same s1;let#[dx,d1,l2,d3,jA,as,rfl,h1,h2,h3,h4,h5,h6,h7]:=id W1.ex;have oy:(cU d1 l2 d3).lookup ("are_tied":Str)=none:=iF _ _ _ Z0 Z0 Z0;rw[<- Hm] at tz;apply#[_,Z,l',Z,#[_,.of fJ],hU (K:=K) (a:=l') (xs:=zs) (λi σ H2=>∃(v3 v4:aI),σ=[some (.ref p),some (.ref a),some (.ref l'),v3,v4]/\H2=H1) #[none,none,Z,Z] (λi σ H2 _ ⟨_,_,_,e⟩=>by subst e;exact .of fJ) ?_ ?_]
  ·rintro i y σ H2 hy ⟨v3,v4,rfl,rfl⟩;let#[t,ht,q,rfl,hq]:=kU tz hy;apply#[q,_,Z,.of (yk hq),Z,_,_,Z,_,_,Z,Z,?_];apply#[_,Z,p,dx,_,Z,h1,oy,_,Z,_,Z,p,_,_,some t.1,some t.2,hs,ts,_,Z,W1,G.pB,Z,Z,_,Z,?_];rw[i0_ G Wo (dC ht)];apply aO ?_;exact#[_,_,Z,Z]
  rintro σ H2 ⟨v3,v4,rfl,rfl⟩;exact#[_,Z,k (.ref l') _ s1 #[l',zs,Z,fJ,tz] (λc z=>by cases z;exact hf)]
def Ce(p:Pc):Pc:=(p.1,p.2.1,p.2.2.map aQ)
def qh(K:af)(H0 H:Hp)(y:V)(p:Pc):Prop:=∃t v,y=.ref t/\H t\.tup [.str p.1,.int p.2.1,v]/\cu K H v p.2.2/\∀a,v=.ref a->H0 a=none
theorem qh.same{K:af}{H0 H H':Hp}{y:V}{p:Pc}(h:qh K H0 H y p)(s:aa H H'):qh K H0 H' y p:=by
 let#[t,v,e,ht,hv,hn]:=h;exact#[t,v,e,s _ _ ht,hv.same s,hn]
theorem cu.up{K:af}{H:Hp}{D:Addr}{u:HO}{v:V}{o:Option (Xb)}(h:cu K H v o)(n1:∀xs,H D≠some (.lst xs))(n2:∀xs,H D≠some (.tup xs)):cu K (upd H D u) v o:=by
 cases o with
 |none=>exact h
 |some ws=>
  let#[a,ys,e,ha,t]:=h;exact#[a,ys,e,by rw[aC (λz:a=D=>n1 ys (z▸ha))];exact ha,Paired.bL t λy k ⟨b,z,q⟩=>#[b,z,by rw[aC (λz:b=D=>n2 _ (z▸q))];exact q]]
theorem qh.up{K:af}{H0 H:Hp}{D:Addr}{u:HO}{y:V}{p:Pc}(h:qh K H0 H y p)(n1:∀xs,H D≠some (.lst xs))(n2:∀xs,H D≠some (.tup xs)):qh K H0 (upd H D u) y p:=by
 let#[t,v,e,ht,hv,hn]:=h;exact#[t,v,e,by rw[aC (λz:t=D=>n2 _ (z▸ht))];exact ht,hv.up n1 n2,hn]
theorem Ov{ps:aK}{cs:ag}(nd:(ps.map (·.1)).Nodup)(hl:cs.length=ps.length):∀{j:Nat} {q:Pc} {c:V},ps[j]? = some q->cs[j]? = some c->bI ((ps.zip cs).map λq=>((Sum.inr q.1.1:Key),q.2)) (Sum.inr q.1)\c:=by
 induction ps generalizing cs with
 |nil=>
  intro j q c h;simp at h
 |cons p ps ih=>
  intro j q c h1 h2;cases cs with
  |nil=>cases hl
  |cons b cs=>
   rw[fE] at nd;let#[n1,n2]:=mL.mp nd;cases j with
   |zero=>
    have e1:p=q:=⇑h1
    have e2:b=c:=⇑h2
    subst e1 e2;exact BP Z
   |succ j=>
    have h1:ps[j]? = some q:=⇑h1
    have h2:cs[j]? = some c:=⇑h2
    show bI ((Sum.inr p.1,b)::((ps.zip cs).map λq=>((Sum.inr q.1.1:Key),q.2))) (Sum.inr q.1)=_;rw[BN λe=>n1 (by rw[show p.1=q.1 from g_ e];exact bH.mpr #[q,dC h1,Z])];exact ih n2 ⇑hl h1 h2
theorem r_:bq ["web","piece"] ["web","piece"] (aX NW):=bB
inductive Os (K:af) (C:Addr) (vs:ag) (H:Hp) (Q:VK) (E:XK):Prop
 |mk:∀(p:Addr) (y:V) (q:Pc) (hs:Xa) (ts:Xb) (fp:ai),vs=[.ref p,y]->fj K C H p hs ts fp->Good hs ts->ki K H y q->CQ ts q->(∀y' H',aa H H'->qh K H H' y' (Ce q)->Q y' H')->Os K C vs H Q E
theorem hn_{f C:Addr}{fd:Ae}(F:bf K "checked_piece" "checked_piece" NW f fd)(B:Bi mg)(cN:!aZ 1 "is_name" fF Jq)(cW:!aZ 2 "is_whole_within" j9 N3)(cC:!aZ 4 "checked_ways" ["web","ways"] (Nr K C)){tk:Tok}(mW:mg "MOST_WEIGHT"\.int 1000000000 tk) :
  aj P w K mg base a9 5 f fd ["web","piece"] (Os K C):=by
 exists F.bF r_;let#[p,y,q,hs,ts,fp,rfl,W,G,#[t,v,rfl,ht,wy],gp,k]:=h
 apply#[_,ax (bx (qq (dZ (di (cc iJ (by rfl) B.h_ ig %[1,iG (v:=.ty "tuple") (by rfl) B.tuple BO Z|0])))
   (uC (bY qp (cc gc (by rfl) B.len fP %[1|0]) ay))).pt eI bJ)
  (ax (bx (dZ (di (aN cN hr %[bp c7 (pv 1) ay|0]))) eI bJ)
  (ax (bx (dZ (di (aN cW hr %[bp c7 (pv 1) ay,ay,xh (v:=.int 1000000000) (by rfl) mW #[tk,Z]|0]))) eI bJ)
  (aA (aU (eM %[bp c7 (pv 1) ay,bp c7 (pv 1) ay,aN cC hr %[0,bp c7 (pv 1) ay|0]|0]))))),?_]
 apply#[_,Z,_,_,_,_,Z,.tup ht,Z,_,Z,aO ?_];apply#[_,Z,t,_,Z,.inr (.of ht),Z,_,Z,?_];apply tR (show V.int ((3:Nat):Int)=V.int 3 from Z) ?_;apply#[_,Z,t,_,_,_,Z,Z,.of ht,Z,q.1,Z,by have:=JR gp.nm;omega,λH1 s1=>#[_,Z,?_]];rw[gp.nm];apply aO ?_;let yi:=s1 _ _ ht;apply#[_,Z,t,_,_,_,Z,Z,.of yi,Z,q.2.1,1,1000000000,Z,_,Z,?_];rw[b_ gp.w1,b_ gp.w2];apply aO ?_;apply#[_,Z,t,_,_,_,Z,Z,.of yi,Z,_,Z,t,_,_,_,Z,Z,.of yi,Z,_,Z,_,Z,t,_,_,_,Z,Z,.of yi,Z,p,v,q.2.2,hs,ts,fp,Z,W.same s1,G,wy.same s1,gp.ws,λv' H2 s2 WZ hf=>?_];apply#[zl,λt' jk=>?_];exact k (.ref t') _ (s1.trans (s2.trans (aa.new jk))) #[t',v',Z,aq,WZ.same (aa.new jk),λa z=>s1.free (hf a z)]
theorem JO:bq ["web","pieces","found","piece","checked"] ["web","pieces"] (aX Oo):=bB
structure Qs (ps qs:aK):Prop where
 Cf:qs.map (·.1)=mG (ps.map (·.1))
 mem:∀q∈qs,∃p∈ps,q=Ce p
inductive PF (K:af) (C:Addr) (vs:ag) (H:Hp) (Q:VK) (E:XK):Prop
 |mk:∀(p l:Addr) (ys:ag) (ps:aK) (hs:Xa) (ts:Xb) (fp:ai),vs=[.ref p,.ref l]->fj K C H p hs ts fp->Good hs ts->H l\.lst ys->ux K H ys ps->(∀q∈ps,CQ ts q)->(ps.map (·.1)).Nodup->ps.length<64->(∀l' zs qs H',aa H H'->H' l'\.lst zs->Paired (qh K H H') zs qs->Qs ps qs->Q (.ref l') H')->PF K C vs H Q E
theorem bg{H:Hp}{a:Addr}{o:HO}(n:H a=none):aa H (upd H a o)/\upd H a o a\o:=⟨aa.new n,aq⟩
theorem g6_{f C:Addr}{fd:Ae}(F:bf K "checked_pieces" "checked_pieces" Oo f fd)(B:Bi mg)(cP:!aZ 5 "checked_piece" ["web","piece"] (Os K C)):!aj a9 6 f fd ["web","pieces"] (PF K C):=by
 exists F.bF JO;let#[p,l,ys,ps,hs,ts,fp,rfl,W,G,hl,pc,gp,nd,bS,k]:=h;let hu:=fV hr;let sz:=bZ;let le:=bK pc
 apply#[_,ax (bx (dZ (di (cc iJ (by rfl) B.h_ ig %[1,iG (v:=.ty "list") (by rfl) B.list uA Z|0]))) eI bJ)
  (ax (bh 2 JO.nd GD)
  (ax (eR eE Z (dN (pv 1)) (cm 3 JO.nd)
   (ax (bh 4 JO.nd (aN cP hr %[0,3|0]))
   (ax (bx (yN (C0 hu (bp c7 (pv 4) ay) (pv 2))) eI bJ)
   (aA (vq hu (pv 2) (bp c7 (pv 4) ay) (pv 4) Z)))))
  (aA (aU (jy ["name","found"] 1 [2] (dN (cc (f2_ Z) (by rfl) B.sorted JS %[2|0])) (λfp s H=>eY (i:=0) (show (["name","found"]:ae).Nodup by decide +kernel) Z (Or.inl Z)) (λfp s H=>gX)
   (λfp s H=>kL hu (pv 1) (pv 0))))))),?_]
 apply#[_,Z,_,_,_,_,Z,.lst hl,Z,_,Z,aO ?_];intro d hd;have s0:aa H (upd H d (.dK [])):=aa.new hd;apply#[_,Z,l,Z,#[_,.of (s0 _ _ hl)],hU (K:=K) (a:=l) (xs:=ys) (λi σ H2=>∃(v3 v4:aI) (cs:ag),σ=[some (.ref p),some (.ref l),some (.ref d),v3,v4]/\aa H H2/\Paired (qh K H H2) cs ((ps.take i).map Ce)/\H2 d\.dK (((ps.take i).zip cs).map λq=>(Sum.inr q.1.1,q.2))) #[none,none,[],Z,s0,.nil,aq] (λi σ H2 _ ⟨_,_,_,_,s2,_⟩=>.of (s2 _ _ hl)) ?_ ?_]
 ·rintro i y σ H2 hy ⟨v3,v4,cs,rfl,s2,pn,hd2⟩;have hi:i<ys.length:=(cq.mp hy).1;have hq:ps[i]? = some (ps[i]' Z1):=bO Z1;let py:=hJ pc i hi Z1;rw[(cq.mp hy).2] at py;generalize ps[i]' Z1=q at hq py;apply#[_,Z,_,Z,p,y,q,hs,ts,fp,Z,W.same s2,G,py.same s2,gp q (dC hq),λy' H3 s3 pw=>?_];let#[t,v,rfl,ht,wy,hf]:=pw;let mw:=s3 _ _ hd2;let lc:=bK pn;rw[au,cX] at lc
  have keys:((((ps.take i).zip cs).map λq=>((Sum.inr q.1.1:Key),q.2)).map (·.1))=((ps.take i).map (·.1)).map Sum.inr:=by
   rw[cg];have:((λx:Key × V=>x.1) ∘ λq:Pc × V=>((Sum.inr q.1.1:Key),q.2))=(λp:Pc=>(Sum.inr p.1:Key)) ∘ Prod.fst:=rfl;rw[this,<- cg,List.map_fst_zip (by rw[cX];omega),cg];rfl
  have uW:bI (((ps.take i).zip cs).map λq=>((Sum.inr q.1.1:Key),q.2)) (Sum.inr q.1)=none:=zg (by
   rw[keys];intro m;let#[x,hx,e]:=bH.mp m;cases e;exact Hn (g:=λp:Pc=>p.1) nd hq hx)
  apply#[_,Z,t,_,_,_,Z,Z,.of ht,Z,_,Z,d,_,Z,.k (k:=Sum.inr q.1) mw,_,Z,?_];rw[uW];apply aO ?_;apply#[_,Z,_,Z,_,Z,t,_,_,_,Z,Z,.of ht,Z,d,_,Z,.k (k:=Sum.inr q.1) mw (by rw[au,List.length_zip,cX];omega),?_];let z_:=s2.trans s3;have n1:∀xs,H3 d≠some (.lst xs):=λxs z=>by rw[mw] at z;cases z
  have n2:∀xs,H3 d≠some (.tup xs):=λxs z=>by rw[mw] at z;cases z
  apply#[_,_,cs++[.ref t],Z,λc o e=>?_,?_,?_]
  ·rw[aC (bw e hd)];exact z_ _ _ e
  ·rw[iD,hq,cj];exact jx (Paired.bL pn λy q h=>(h.same s3).up n1 n2) (.cons (qh.up #[t,v,Z,ht,wy,λa z=>s2.free (hf a z)] n1 n2) .nil)
  rw[aq,Dt _ uW,iD,hq,List.zip_append (by rw[cX];omega),cj];rfl
 rintro σ H2 ⟨v3,v4,cs,rfl,s2,pn,hd2⟩;rw[le,eK] at pn hd2;let lc:=bK pn;rw[au] at lc
 have keys:(((ps.zip cs).map λq=>((Sum.inr q.1.1:Key),q.2)).map (·.1))=(ps.map (·.1)).map Sum.inr:=by
  rw[cg];have:((λx:Key × V=>x.1) ∘ λq:Pc × V=>((Sum.inr q.1.1:Key),q.2))=(λp:Pc=>(Sum.inr p.1:Key)) ∘ Prod.fst:=rfl;rw[this,<- cg,List.map_fst_zip Z1,cg];rfl
 apply#[_,Z,d,_,ps.map (·.1),Z,hd2,keys,by rw[au];exact bS,λls Fu=>?_];let#[s3,oz]:=bg (o:=.lst ((mG (ps.map (·.1))).map V.str)) Fu;apply#[ls,Z,#[_,.of oz],λD hD=>?_];generalize upd H2 ls (.lst ((mG (ps.map (·.1))).map V.str))=H3 at s3 oz hD ⊢;have lss:(mG (ps.map (·.1))).length=ps.length:=by rw[(xm _).length_eq,au]
 apply jz (own:=1) (fv:=[some (.ref d)]) (xs:=(mG (ps.map (·.1))).map V.str) Z dW (λi out H'=>∃qs:aK,aa H3 H'/\H' D\.lst out/\Paired (qh K H H2) out qs/\qs.map (·.1)=(mG (ps.map (·.1))).take i/\∀q∈qs,∃p∈ps,q=Ce p) #[[],aa.new hD,aq,.nil,Z,by simp] (λi out H' _ ⟨_,sm,_⟩=>.of (sm _ _ oz)) (λzs H4 ⟨qs,s4,iY,pq,en,mem⟩=>?_) (λi x out H' hx ⟨qs,sm,dU,pq,en,mem⟩=>?_)
 ·rw[au,eK] at en;exact k D zs qs H4 (s2.trans (s3.trans s4)) iY (Paired.bL pq λy q h=>h.same (s3.trans s4)) #[en,mem]
 let#[n,hn,rfl]:=jc hx;have hm:n∈ps.map (·.1):=(xm _).mem_iff.mp (dC hn);let#[q,hq,eq]:=bH.mp hm;let#[j,hj,ej]:=mO hq;have hqj:ps[j]? = some q:=by rw[bO hj,ej]
 have SW:cs[j]? = some (cs[j]' Z1):=bO Z1;let hv:=Ov nd lc hqj SW;let pj:=hJ pn j Z1 (by rw[au];omega);rw[List.getElem_map,ej] at pj;generalize cs[j]' Z1=c at SW hv pj;rw[eq] at hv;let lo:=bK pq;let lq:=dX List.length en;rw[au,cX] at lq;have hi:i<(mG (ps.map (·.1))).length:=(cq.mp hn).1;apply#[_,Z,Z,λNx hN=>dD ?_];apply#[_,Z,_,Z,d,c,Z,?_,out,dU,by omega,hN _ _ #[qs++[Ce q],gY sm hD,aq,?_,?_,?_]]
 ·rw[<- hv];exact .k (k:=Sum.inr n) (sm _ _ (s3 _ _ hd2))
 ·exact jx pq (.cons pj .nil)
 ·rw[cj,en,iD,hn,<- eq];rfl
 intro q' hq';rcases eZ.mp hq' with hq'|hq'
 ·exact mem q' hq'
 obtain rfl:q'=Ce q:=⇑hq'
 exact#[q,hq,Z]
end
end Ev
namespace Ev
open PySem L2
abbrev lY:Stmt:=ju Gp 0
abbrev sP:Stmt:=ju Gp 1
abbrev NU:Stmt:=ju Gp 2
abbrev Oj:Stmt:=ju Gp 3
abbrev sO:Stmt:=ju Gp 5
def bV(p dw dy:Addr):List (Str × V):=aE A9 (.ref dy) (aE qm (.ref dw) (aE "web" (.ref p) []))
theorem g12:¬(("web":Str)=qm):=by decide +kernel
theorem g13:¬(("web":Str)=A9):=by decide +kernel
theorem g23:¬((qm:Str)=A9):=by decide +kernel
theorem kK(p dw dy:Addr):(bV p dw dy).lookup ("web":Str)\.ref p:=by
 unfold bV;rw[e_,aB g13,e_,aB g12,e_,aH Z]
theorem N2(p dw dy:Addr):(bV p dw dy).lookup (qm:Str)\.ref dw:=by
 unfold bV;rw[e_,aB g23,e_,aH Z]
theorem _Y(p dw dy:Addr):(bV p dw dy).lookup (A9:Str)\.ref dy:=by
 unfold bV;rw[e_,aH Z]
theorem vt(p dw dy:Addr){m:Str}(h1:¬m="web")(h2:¬m=qm)(h3:¬m=A9):(bV p dw dy).lookup m=none:=by
 unfold bV;rw[e_,aB h3,e_,aB h2,e_,aB h1]
 all_goals rfl
def kY(qs:aK):List (Key × V):=qs.map λq=>(Sum.inr q.1,V.int q.2.1)
def vF(qs:aK)(vs:ag):List (Key × V):=(qs.zip vs).map λx=>(Sum.inr x.1.1,x.2)
theorem Uy(qs:aK):(kY qs).map (·.1)=(qs.map (·.1)).map Sum.inr:=by
 unfold kY;rw[cg,cg];rfl
theorem iq_{qs:aK}{vs:ag}(h:vs.length=qs.length):(vF qs vs).map (·.1)=(qs.map (·.1)).map Sum.inr:=by
 unfold vF;rw[cg];have:((λx:Key × V=>x.1) ∘ λq:Pc × V=>((Sum.inr q.1.1:Key),q.2))=(λp:Pc=>(Sum.inr p.1:Key)) ∘ Prod.fst:=rfl;rw[this,<- cg,List.map_fst_zip Z1,cg];rfl
structure gq (K:af) (CG CW:Addr) (H:Hp) (g p:Addr) (hs:Xa) (ts:Xb) (qs:aK) (fp:ai):Prop where
 ex:∃(dx dw dy:Addr) (vs:ag) (bP:ai),H g\.ins CG dx (bV p dw dy)/\fj K CW H p hs ts bP/\H dw\.dK (kY qs)/\H dy\.dK (vF qs vs)/\Paired (λv (q:Pc)=>cu K H v q.2.2) vs qs /\
  g∈fp/\dw∈fp/\dy∈fp/\(∀b∈bP,b∈fp)/\∀v∈vs,∀a,v=.ref a->a∈fp
theorem P1{α β:Type}{F G:α->β->Prop}:∀{l:List α} {m:List β},Paired F l m->(∀a∈l,∀b,F a b->G a b)->Paired G l m
 |_,_,.nil,_=>.nil
 |_,_,.cons h t,f=>.cons (f _ d9 _ h) (P1 t λa ha=>f a (eL _ ha))
theorem cu.keep{K:af}{H H':Hp}{v:V}{o:Option (Xb)}(h:cu K H v o)(k:∀a,v=.ref a->∀u,H a\u->H' a\u)(kt:∀b xs,H b\.tup xs->H' b\.tup xs):cu K H' v o:=by
 cases o with
 |none=>exact h
 |some ws=>
  let#[a,ys,e,ha,t]:=h;exact#[a,ys,e,k a e _ ha,Paired.bL t λy q ⟨b,z,hb⟩=>#[b,z,kt _ _ hb]]
theorem gq.keep{K:af}{CG CW:Addr}{H H':Hp}{g p:Addr}{hs:Xa}{ts:Xb}{qs:aK}{fp:ai}(G:gq K CG CW H g p hs ts qs fp)(k:∀b∈fp,∀o,H b\o->H' b\o)(kt:∀b xs,H b\.tup xs->H' b\.tup xs):gq K CG CW H' g p hs ts qs fp:=by
 let#[dx,dw,dy,vs,bP,h1,h2,h3,h4,h5,m1,m2,m3,m4,m5]:=G.ex;exact#[dx,dw,dy,vs,bP,k _ m1 _ h1,h2.keep (λb hb o e=>k b (m4 b hb) o e) kt,k _ m2 _ h3,k _ m3 _ h4,P1 h5 λv hv q h=>h.keep (λa z u e=>k a (m5 v hv a z) u e) kt,m1,m2,m3,m4,m5]
theorem gq.same{K:af}{CG CW:Addr}{H H':Hp}{g p:Addr}{hs:Xa}{ts:Xb}{qs:aK}{fp:ai}(G:gq K CG CW H g p hs ts qs fp)(s:aa H H'):gq K CG CW H' g p hs ts qs fp:=G.keep (λb _ o e=>s b o e) λb xs e=>s b _ e
structure dI (K:af) (CG:Addr):Prop where
 cl:mT K CG
 nW:kC K CG "web"
 nG:kC K CG qm
 nY:kC K CG A9
structure Hw (K:af) (C:Addr):Prop where
 ha:PySem.W.findIn K (.ref C) "__class__"\some (.builtin "object.__class__")
 hn:PySem.W.specialIn K (.builtin "object.__class__") "__get__"\some (.builtin "getset_descriptor.__get__")
 tk:PySem.W.takesIn K (.builtin "object.__class__")\true
 mo:PySem.W.mroIn K C (.type "object")\true
theorem iw_(K:af)(c:Aa):PySem.W.kitOne K c c\true:=by
 unfold PySem.W.kitOne;rw[aH (beq_self_eq_true c)]
theorem Ug{K:af}{H0 H:Hp}:∀{zs:ag} {qs:aK},Paired (qh K H0 H) zs qs->∃vs:ag,vs.length=qs.length/\Paired (λz (x:Pc × V)=>∃t,z=.ref t/\H t\.tup [.str x.1.1,.int x.1.2.1,x.2]) zs (qs.zip vs)/\Paired (λv (q:Pc)=>cu K H v q.2.2) vs qs/\∀v∈vs,∀a,v=.ref a->H0 a=none
 |_,_,.nil=>#[[],Z,.nil,.nil,by simp]
 |_,_,.cons ⟨t,v,e,ht,wy,hn⟩ r=>by
  let#[vs,h1,h2,h3,h4]:=Ug r;apply#[v::vs,by simp[h1],.cons #[t,e,ht] h2,.cons wy h3,λu hu=>?_];rcases cw.mp hu with rfl|hu
  ·exact hn
  exact h4 u hu
theorem Ui{K:af}{l D:Addr}{zs:ag}{xs:List (Pc × V)}{H:Hp}{Q:VK}{iL:St}{j:Nat}(sel:Pc × V->V)(hj:∀x:Pc × V,[some (V.str x.1.1),some (V.int x.1.2.1),some x.2][j]? = some (some (sel x)))(pJ:iL=[none,none,none])(hl:H l\.lst zs)
  (pz:Paired (λz (x:Pc × V)=>∃t,z=.ref t/\H t\.tup [.str x.1.1,.int x.1.2.1,x.2]) zs xs) (yC:xs.length<=1000) (hD:H D=none)
  (q:∀H' out,aa H H'->H' D\.lst out->kE K H' out (xs.map λx=>(Sum.inr x.1.1,sel x))->Q (.ref D) H') :
  wR (zo K l) (i3 K 3 (vm (gz 0) (vm (gz 1) (vm (gz 2) wG)))) qJ (DT (jD (qM 0) (jD (qM j) k4))) iL D H Q:=by
 let sz:=bZ;let le:=bK pz;apply jz (own:=3) (fv:=[]) (xs:=zs) pJ M8 (λi out H'=>aa H H'/\H' D\.lst out/\kE K H' out ((xs.take i).map λx=>(Sum.inr x.1.1,sel x))) #[aa.new hD,aq,.nil] (λi out H' _ ⟨sm,_,_⟩=>.of (sm _ _ hl)) (λout H4 ⟨sm,iY,eo⟩=>?_) (λi y out H' hy ⟨sm,dU,eo⟩=>?_)
 ·rw[le,eK] at eo;exact q _ _ sm iY eo
 have hi:i<zs.length:=(cq.mp hy).1;have hx:xs[i]? = some (xs[i]' Z1):=bO Z1;let#[t,et,ht]:=hJ pz i hi Z1;rw[(cq.mp hy).2] at et;subst et;generalize xs[i]' Z1=x at hx ht;let lo:=bK eo;rw[au,cX] at lo;apply#[_,#[t,_,_,_,Z,.of (sm _ _ ht),Z],Z,λNx hN=>dD ?_];apply#[_,Z,_,hj x,zl,λp hp=>?_];let s2:=aa.new (o:=.tup [.str x.1.1,sel x]) hp;apply#[out,s2 _ _ dU,by omega,hN _ _ #[gY (sm.trans s2) hD,aq,?_]];rw[DA _ hx];have pD:∀{b:Addr} {ys:ag},upd H' p (.tup [.str x.1.1,sel x]) b\.tup ys->b≠D:=λhb=>cb hb (s2 _ _ dU) nofun;apply jx (Paired.bL eo λy kv ⟨b,z,hb⟩=>#[b,z,by rw[aC (pD (s2 _ _ hb))];exact s2 _ _ hb]) (.cons #[p,Z,?_] .nil);have jq:upd H' p (.tup [.str x.1.1,sel x]) p\.tup [.str x.1.1,sel x]:=aq;rw[aC (pD jq)];exact jq
section v
theorem nF:bq ["self","web","pieces","checked"] oR (aX lY):=bB
inductive GT (K:af) (CG CW:Addr) (vs:ag) (H:Hp) (Q:VK) (E:XK):Prop
 |mk:∀(g dx p l:Addr) (ys:ag) (ps:aK) (hs:Xa) (ts:Xb) (bP:ai),vs=[.ref g,.ref p,.ref l]->H g\.ins CG dx []->fj K CW H p hs ts bP->g∉bP->Good hs ts->H l\.lst ys->ux K H ys ps->(∀q∈ps,CQ ts q)->(ps.map (·.1)).Nodup->ps.length<64->(∀qs fp H',(∀b o,H b\o->b≠g->H' b\o)->gq K CG CW H' g p hs ts qs fp->Qs ps qs->(∀b∈fp,b=g∨b∈bP∨H b=none)->Q .non H')->GT K CG CW vs H Q E
theorem jd_{f CG CW:Addr}{fd:Ae}(F:bf K "__init__" "Goods.__init__" lY f fd)(T:dI K CG)(TW:Txt K mg CW)(IW:Hw K CW)(B:Bi mg)(LF:mg "Web"\.ref CW)(cP:!aZ 6 "checked_pieces" ["web","pieces"] (PF K CW)):!aj a9 7 f fd oR (GT K CG CW):=by
 exists F.bF nF;let#[g,dx,p,l,ys,ps,hs,ts,bP,rfl,hg,W,gw,G,hl,pc,gp,nd,bS,k]:=h
 apply#[_,ax (bx (dZ (di (cc hx_ (by rfl) B.h_ ig %[1,xh (v:=.ref CW) (by rfl) LF Z|0]))) eI bJ)
  (ax (bh 3 nF.nd (aN cP hr %[1,2|0]))
  (ax (vw (pv 0) (pv 1) Z)
  (ax (vw (pv 0) (hG (BS Z) (by rfl) B.dict pS %[jy yI 3 [] (dN (pv 3)) (λfp s H=>Gg (n:=3) (dB (eY (i:=0) (show (yI:ae).Nodup by decide +kernel) Z (Or.inl Z)) (dB (eY (i:=1) (show (yI:ae).Nodup by decide +kernel) Z (Or.inl Z)) (dB (eY (i:=2) (show (yI:ae).Nodup by decide +kernel) Z (Or.inl Z)) jd)))) (λfp s H=>gX) (λfp s H=>eM %[0,1|0])|0]) Z)
  (aA (vw (pv 0) (hG (BS Z) (by rfl) B.dict pS %[jy yI 3 [] (dN (pv 3)) (λfp s H=>Gg (n:=3) (dB (eY (i:=0) (show (yI:ae).Nodup by decide +kernel) Z (Or.inl Z)) (dB (eY (i:=1) (show (yI:ae).Nodup by decide +kernel) Z (Or.inl Z)) (dB (eY (i:=2) (show (yI:ae).Nodup by decide +kernel) Z (Or.inl Z)) jd)))) (λfp s H=>gX) (λfp s H=>eM %[0,2|0])|0]) Z))))),?_]
 let#[fi,d1,l2,d3,jA,as,ef,w1,_]:=id W.ex;apply#[_,Z,_,_,_,_,Z,.ins w1 TW.cl IW.ha IW.hn IW.tk IW.mo,iw_ _ _,_,Z,aO ?_];apply#[_,Z,_,Z,p,l,ys,ps,hs,ts,bP,Z,W,G,hl,pc,gp,nd,bS,λlc zs qs H1 s1 FC pn Qq=>?_];let#[vs,lv,pz,WY,DJ]:=Ug pn;let FN:=s1 _ _ hg
 have lq:qs.length=ps.length:=by
  have:=dX List.length Qq.Cf;rw[au,(xm _).length_eq,au] at this;exact this
 have YM:(qs.map (·.1)).Nodup:=by
  rw[Qq.Cf];exact (xm _).nodup_iff.mpr nd
 apply#[_,Z,_,Z,g,CG,dx,[],Z,FN,T.cl,T.nW,by show 0<1000;decide,?_];have up1:∀{b o},H1 b\o->b≠g->upd H1 g (.ins CG dx (aE "web" (.ref p) [])) b\o:=λe ne=>by rw[aC ne];exact e
 have MG:upd H1 g (.ins CG dx (aE "web" (.ref p) [])) g\.ins CG dx (aE "web" (.ref p) []):=aq
 have CL:∀{b},upd H1 g (.ins CG dx (aE "web" (.ref p) [])) b=none->H1 b=none:=λ{b} e=>by
  by_cases z:b=g
  ·rw[z,aq] at e;cases e
  rw[aC z] at e;exact e
 generalize upd H1 g (.ins CG dx (aE "web" (.ref p) []))=H2 at up1 MG CL ⊢;have Ir:lc≠g:=cb FC FN nofun;have YT:Paired (λz (x:Pc × V)=>∃t,z=.ref t/\H2 t\.tup [.str x.1.1,.int x.1.2.1,x.2]) zs (qs.zip vs):=Paired.bL pz λz x ⟨t,e,ht⟩=>#[t,e,up1 ht (cb ht FN nofun)];have mV:(qs.zip vs).length<=1000:=by rw[List.length_zip];omega
 apply#[_,Z,lc,Z,#[_,.of (up1 FC Ir)],λD hD=>?_];apply Ui (λx=>.int x.1.2.1) (λx=>rfl) Z (up1 FC Ir) YT mV hD λH3 out s3 A1 Y0=>?_;apply#[D,out,_,Z,A1,Y0,by rw[au];exact mV,λdw MM=>?_]
 have ekv:((qs.zip vs).map λx:Pc × V=>((Sum.inr x.1.1:Key),V.int x.1.2.1))=kY qs:=by
  unfold kY;have:(λx:Pc × V=>((Sum.inr x.1.1:Key),V.int x.1.2.1))=(λq:Pc=>((Sum.inr q.1:Key),V.int q.2.1)) ∘ Prod.fst:=rfl;rw[this,<- cg,List.map_fst_zip Z1]
 have mi:(qs.map (·.1)).map (Sum.inr:Str->Key) |>.Nodup:=by
  rw[qE,pZ];exact YM.imp λn e=>n (g_ e)
 rw[ekv,BL (by rw[Uy];exact mi)];let s4:=aa.new (o:=.dK (kY qs)) MM;let SR:=s4 _ _ (s3 _ _ MG);apply#[_,Z,g,CG,dx,_,Z,SR,T.cl,T.nG,by show 1<1000;decide,?_];let xQ:=s3.trans s4;have FT:upd H3 dw (.dK (kY qs)) dw\.dK (kY qs):=aq;have Ve:dw≠g:=(bw (s3 _ _ MG) MM).symm;have fr4:∀{b},upd H3 dw (.dK (kY qs)) b=none->H2 b=none:=λe=>xQ.free e;have dwn:H2 dw=none:=s3.free MM;generalize upd H3 dw (.dK (kY qs))=H4 at s4 SR xQ FT fr4 ⊢;have uO:∀{b o},H4 b\o->b≠g->upd H4 g (.ins CG dx (aE qm (.ref dw) (aE "web" (.ref p) []))) b\o:=λe ne=>by rw[aC ne];exact e
 have MF:upd H4 g (.ins CG dx (aE qm (.ref dw) (aE "web" (.ref p) []))) g\.ins CG dx (aE qm (.ref dw) (aE "web" (.ref p) [])):=aq
 have oH:∀{b},upd H4 g (.ins CG dx (aE qm (.ref dw) (aE "web" (.ref p) []))) b=none->H4 b=none:=λ{b} e=>by
  by_cases z:b=g
  ·rw[z,aq] at e;cases e
  rw[aC z] at e;exact e
 generalize upd H4 g (.ins CG dx (aE qm (.ref dw) (aE "web" (.ref p) [])))=H5 at uO MF oH ⊢;have vG:∀{b o},H1 b\o->b≠g->H5 b\o:=λe ne=>uO (xQ _ _ (up1 e ne)) ne;have YS:Paired (λz (x:Pc × V)=>∃t,z=.ref t/\H5 t\.tup [.str x.1.1,.int x.1.2.1,x.2]) zs (qs.zip vs):=Paired.bL pz λz x ⟨t,e,ht⟩=>#[t,e,vG ht (cb ht FN nofun)];apply#[_,Z,lc,Z,#[_,.of (vG FC Ir)],λD2 yB=>?_];apply Ui (λx=>x.2) (λx=>rfl) Z (vG FC Ir) YS mV yB λH6 dF s6 yA YZ=>?_;apply#[D2,dF,_,Z,yA,YZ,by rw[au];exact mV,λdy ML=>?_];rw[show ((qs.zip vs).map λx:Pc × V=>((Sum.inr x.1.1:Key),x.2))=vF qs vs from Z,BL (by rw[iq_ lv];exact mi)];let s7:=aa.new (o:=.dK (vF qs vs)) ML;let nI:=s6.trans s7;let SQ:=nI _ _ MF;apply#[_,Z,g,CG,dx,_,Z,SQ,T.cl,T.nY,by show 2<1000;decide,?_];have FS:upd H6 dy (.dK (vF qs vs)) dy\.dK (vF qs vs):=aq;have dyg:dy≠g:=(bw (s6 _ _ MF) ML).symm;have dyn:H5 dy=none:=s6.free ML;generalize upd H6 dy (.dK (vF qs vs))=H7 at s7 nI SQ FS ⊢
 have fin:∀{b o},H1 b\o->b≠g->upd H7 g (.ins CG dx (bV p dw dy)) b\o:=λe ne=>by
  rw[aC ne];exact nI _ _ (vG e ne)
 have DL:∀b xs,H1 b\.tup xs->upd H7 g (.ins CG dx (bV p dw dy)) b\.tup xs:=λb xs e=>fin e (cb e FN nofun);have nH:∀{b},H1 b=none->H b=none:=λe=>s1.free e;apply k qs (g::dw::dy::(bP++vs.filterMap λv=>match v with | .ref a=>some a|_=>none)) _ (λb o e ne=>fin (s1 _ _ e) ne) #[dx,dw,dy,vs,bP,aq,?_,?_,?_,?_,by simp,by simp,by simp,λb hb=>by simp[hb],λv hv a z=>?_] Qq λb hb=>?_
 ·exact W.keep (λb hb o e=>fin (s1 _ _ e) (λz=>gw (z▸hb))) λb xs e=>DL b xs (s1 _ _ e)
 ·rw[aC Ve];exact nI _ _ (uO FT Ve)
 ·rw[aC dyg];exact FS
 ·exact P1 WY λv hv q h=>h.keep (λa z u e=>fin e (λzz=>by
   subst zz;have:=DJ v hv _ z;rw[hg] at this;cases this)) λb xs e=>DL b xs e
 ·apply eL _ (eL _ (eL _ (mP _ (xo.mpr #[v,hv,?_]))));rw[z]
 simp only[cw,eZ,xo] at hb;rcases hb with rfl|rfl|rfl|hb|⟨v,hv,e⟩
 ·exact .inl Z
 ·exact .inr (.inr (nH (CL dwn)))
 ·exact .inr (.inr (nH (CL (xQ.free (oH dyn)))))
 ·exact .inr (.inl hb)
 cases v with
 |ref a=>
  cases e;exact .inr (.inr (DJ _ hv _ Z))
 |_=>cases e
end
end Ev
namespace L2
open PySem
end L2
namespace Ev
open PySem L2
theorem eG_{kvs:List (Key × V)}{ns:ae}(h:kvs.map (·.1)=ns.map Sum.inr)(x:Str):(bI kvs (Sum.inr x)).isSome=decide (x∈ns):=by
 by_cases hx:x∈ns
 ·rw[b_ hx];apply UN ?_;rw[h];exact bH.mpr #[x,hx,Z]
 rw[d_ hx,zg]
 ·rfl
 rw[h];intro m;let#[y,hy,e]:=bH.mp m;cases e;exact hx hy
theorem _u{qs:aK}(nd:(qs.map (·.1)).Nodup){q:Pc}(hq:q∈qs):bI (kY qs) (Sum.inr q.1)\.int q.2.1:=by
 let#[j,hj,e]:=mO hq;have:=Ov (ps:=qs) (cs:=qs.map λq=>V.int q.2.1) nd (by rw[au]) (j:=j) (q:=q) (c:=.int q.2.1) (by rw[bO hj,e]) (by rw[cY,bO hj,e];rfl)
 have e2:((qs.zip (qs.map λq=>V.int q.2.1)).map λq=>((Sum.inr q.1.1:Key),q.2))=kY qs:=by
  unfold kY;rw[List.zip_map_right,cg]
  have:qs.zip qs=qs.map λq=>(q,q):=by
   clear nd hq this hj e j
   induction qs with
   |nil=>rfl
   |cons a l ih=>rw[List.zip_cons_cons,ih,fE]
  rw[this,cg];rfl
 rwa [e2] at this
theorem _l{qs:aK}{vs:ag}(nd:(qs.map (·.1)).Nodup){K:af}{H:Hp}(h:Paired (λv (q:Pc)=>cu K H v q.2.2) vs qs){q:Pc}(hq:q∈qs):∃v∈vs,bI (vF qs vs) (Sum.inr q.1)\v/\cu K H v q.2.2:=by
 let#[j,hj,e]:=mO hq;let hl:=bK h;have hv:j<vs.length:=by omega
 let p:=hJ h j hv hj;rw[e] at p;exact#[vs[j],kQ hv,Ov nd Z1 (by rw[bO hj,e]) (bO hv),p]
def CI(hs:Xa)(ts:Xb)(o:Option (Xb))(x y:Option Str):Bool:=
 jB hs ts x y&&match o,x,y with
  |none,_,_=>true
  |some ws,some a,some b=>decide (aR a b∈ws)
  |_,_,_=>false
section v
theorem zP:bq oO oO (aX sP):=bB
inductive Gm (K:af) (CG CW:Addr) (vs:ag) (H:Hp) (Q:VK) (E:XK):Prop
 |mk:∀(g p:Addr) (v:V) (x:Option Str) (hs:Xa) (ts:Xb) (qs:aK) (fp:ai),vs=[.ref g,v]->gq K CG CW H g p hs ts qs fp->ke K H v x->Q (.bl (E2 (qs.map (·.1)) x)) H->Gm K CG CW vs H Q E
theorem kg_{f CG CW:Addr}{fd:Ae}(F:bf K "has_piece" "Goods.has_piece" sP f fd)(T:dI K CG)(B:Bi mg):!aj a9 1 f fd oO (Gm K CG CW):=by
 exists F.bF zP;let#[g,p,v,x,hs,ts,qs,fp,rfl,G,sv,k]:=h;let hu:=fV hr;let#[dx,dw,dy,vs,bP,h1,h2,h3,h4,h5,m1,m2,m3,m4,m5]:=G.ex;apply#[_,aA (aU (kD (cc iJ (by rfl) B.h_ ig %[1,iG (v:=.ty "str") (by rfl) B.str C3 Z|0]) (kF (F9 (C0 hu (pv 1) (dA (pv 0) Z)))))),?_];cases x with
 |some x=>
  cases (show v=.str x from sv);apply#[_,Z,_,_,_,_,Z,.str x,Z,_,Z,bN ?_];apply#[_,Z,_,Z,g,CG,dx,_,_,Z,h1,T.cl,T.nG,N2 _ _ _,dw,_,Z,.k (k:=Sum.inr x) h3,?_];rw[eG_ (Uy qs)];exact k
 |none=>
  let#[t,ty,e]:=sv;exact#[_,Z,_,_,_,_,Z,ty,e,_,Z,aO k]
theorem rY:bq gA gA (aX NU):=bB
inductive Oi (K:af) (CG CW:Addr) (vs:ag) (H:Hp) (Q:VK) (E:XK):Prop
 |mk:∀(g p:Addr) (hs:Xa) (ts:Xb) (qs:aK) (fp:ai),vs=[.ref g]->gq K CG CW H g p hs ts qs fp->(∀l,H l=none->Q (.ref l) (upd H l (.lst ((qs.map (·.1)).map V.str))))->Oi K CG CW vs H Q E
theorem gh_{f CG CW:Addr}{fd:Ae}(F:bf K "names" "Goods.names" NU f fd)(T:dI K CG)(B:Bi mg):!aj a9 1 f fd gA (Oi K CG CW):=by
 exists F.bF rY;let#[g,p,hs,ts,qs,fp,rfl,G,k]:=h;let#[dx,dw,dy,vs,bP,h1,h2,h3,h4,h5,m1,m2,m3,m4,m5]:=G.ex;apply#[_,aA (aU (hG (OZ Z) (by rfl) B.list uA %[dA (pv 0) Z|0])),?_];apply#[_,Z,g,CG,dx,_,_,Z,h1,T.cl,T.nG,N2 _ _ _,dw,_,Z,.inl h3,λl hl=>?_]
 have e:((kY qs).map λkv=>kV kv.1)=(qs.map (·.1)).map V.str:=by
  unfold kY;rw[cg,cg];rfl
 rw[e];exact k l hl
structure Ref (K:af) (mg:Str->Option Aa) (x:Str) (C:Addr):Prop where
 mg:mg x\.ref C
 ex:PySem.W.excIn K C [.type "ValueError",.type "Exception",.type "BaseException",.type "object"] "ValueError.__new__"=true
theorem ph:bq yM yM (aX Oj):=bB
inductive BQ (K:af) (CG CW CP:Addr) (vs:ag) (H:Hp) (Q:VK) (E:XK):Prop
 |mk:∀(g p:Addr) (v:V) (x:Option Str) (hs:Xa) (ts:Xb) (qs:aK) (fp:ai),vs=[.ref g,v]->gq K CG CW H g p hs ts qs fp->(qs.map (·.1)).Nodup->ke K H v x->((∃q∈qs,x\q.1/\Q (.int q.2.1) H)∨False)->BQ K CG CW CP vs H Q E
theorem fP_{f CG CW CP:Addr}{fd:Ae}(F:bf K "weight" "Goods.weight" Oj f fd)(T:dI K CG)(cH:!br CG 1 "has_piece" oO (Gm K CG CW)):!aj a9 2 f fd yM (BQ K CG CW CP):=by
 exists F.bF ph;let#[g,p,v,x,hs,ts,qs,fp,rfl,G,nd,sv,k]:=h;let hu:=fV hr;let#[dx,dw,dy,vs,bP,h1,h2,h3,h4,h5,m1,m2,m3,m4,m5]:=id G.ex;have oy:(bV p dw dy).lookup ("has_piece":Str)=none:=vt _ _ _ Z0 Z0 Z0;apply#[_,ax (bx (dZ (di (ft cH T.cl hr (pv 0) %[1|0]))) eI bJ) (aA (aU (kL hu (dA (pv 0) Z) (pv 1)))),?_];apply#[_,Z,g,dx,_,Z,h1,oy,_,Z,g,p,v,x,hs,ts,qs,fp,Z,G,sv,_,Z,?_];rcases k with⟨q,hq,rfl,k⟩|k
 ·cases (show v=.str q.1 from sv);rw[show E2 (qs.map (·.1)) (some q.1)=true from b_ (bH.mpr #[q,hq,Z])];apply aO ?_;apply#[_,Z,g,CG,dx,_,_,Z,h1,T.cl,T.nG,N2 _ _ _,_,Z,dw,_,Z,?_,k];rw[<- _u nd hq];exact .k (k:=Sum.inr q.1) h3
 exact k.elim
theorem r6:bq ["self","piece","one","other","ties"] o4 (aX sO):=bB
inductive Je (K:af) (CG CW CP:Addr) (vs:ag) (H:Hp) (Q:VK) (E:XK):Prop
 |mk:∀(g p:Addr) (v u1 u2:V) (x y1 y2:Option Str) (hs:Xa) (ts:Xb) (qs:aK) (fp:ai),vs=[.ref g,v,u1,u2]->gq K CG CW H g p hs ts qs fp->(qs.map (·.1)).Nodup->(az hs).Nodup->ke K H v x->((∃q∈qs,x\q.1/\ke K H u1 y1/\ke K H u2 y2/\∀H',aa H H'->Q (.bl (CI hs ts q.2.2 y1 y2)) H')∨False)->Je K CG CW CP vs H Q E
theorem jN_{f CG CW CP:Addr}{fd:Ae}(F:bf K "may_go" "Goods.may_go" sO f fd)(T:dI K CG)(TW:Txt K mg CW)(cH:!br CG 1 "has_piece" oO (Gm K CG CW))(cT:!br CW 2 "are_tied" kG (JC K CW))(cL:!aZ 1 "lesser_first" qi J5) :
  aj P w K mg base a9 3 f fd o4 (Je K CG CW CP):=by
 exists F.bF r6;let#[g,p,v,u1,u2,x,y1,y2,hs,ts,qs,fp,rfl,G,nd,pB,sv,k]:=h;let hu:=fV hr;have iX:bc 1 _:=hr.mono (by decide);let#[dx,dw,dy,vs,bP,h1,h2,h3,h4,h5,m1,m2,m3,m4,m5]:=id G.ex;have oy:(bV p dw dy).lookup ("has_piece":Str)=none:=vt _ _ _ Z0 Z0 Z0;let#[fi,d1,l2,d3,jA,as,ef,w1,_]:=id h2.ex;have gP:(cU d1 l2 d3).lookup ("are_tied":Str)=none:=iF _ _ _ Z0 Z0 Z0
 apply#[_,ax (bx (dZ (di (ft cH T.cl iX (pv 0) %[1|0]))) eI bJ)
  (ax (bx (dZ (di (ft cT TW.cl hr (dA (pv 0) Z) %[2,3|0]))) (aA (aU qr)) bJ)
  (ax (bh 4 r6.nd (kL hu (dA (pv 0) Z) (pv 1)))
  (aA (aU (RH (F9 (IZ (pv 4))) (kF (oM (L_ (Gq ic ic) (mK hr _)) (aN cL hr %[2,3|0]) (pv 4) (by with_unfolding_all rfl)))))))),?_]
 apply#[_,Z,g,dx,_,Z,h1,oy,_,Z,g,p,v,x,hs,ts,qs,fp,Z,G,sv,_,Z,?_];rcases k with⟨q,hq,rfl,s1,s2,k⟩|k
 ·cases (show v=.str q.1 from sv);rw[show E2 (qs.map (·.1)) (some q.1)=true from b_ (bH.mpr #[q,hq,Z])];apply aO ?_;apply#[_,Z,g,CG,dx,_,_,Z,h1,T.cl,T.nW,kK _ _ _,p,fi,_,Z,w1,gP,_,Z,_,Z,p,u1,u2,y1,y2,hs,ts,bP,Z,h2,pB,s1,s2,_,Z,?_];cases tb:jB hs ts y1 y2 with
  |false=>
   apply bN ?_;have:=k H (aa.refl H);unfold CI at this;rw[tb,Bool.false_and] at this;exact this
  |true=>
   apply aO ?_;let#[u,hu',eu,wy]:=_l nd h5 hq;apply#[_,Z,g,CG,dx,_,_,Z,h1,T.cl,T.nY,_Y _ _ _,_,Z,dy,u,Z,?_,?_]
   ·rw[<- eu];exact .k (k:=Sum.inr q.1) h4
   apply#[_,Z,_,Z,?_];unfold CI at k;rw[tb] at k;cases e:q.2.2 with
   |none=>
    rw[e] at wy k;cases (show u=.non from wy);exact bN (k H (aa.refl H))
   |some ws=>
    rw[e] at wy k;let#[a,ys,rfl,ha,tu]:=wy;cases y1 with
    |none=>cases tb
    |some a1=>
     cases y2 with
     |none=>cases tb
     |some a2=>
      cases (show u1=.str a1 from s1);cases (show u2=.str a2 from s2);apply aO #[_,Z,_,Z,a1,a2,Z,λt ht=>?_];have s3:aa H (upd H t (.tup [.str (aR a1 a2).1,.str (aR a1 a2).2])):=aa.new ht;apply#[_,Z,aR a1 a2,ws,#[t,_,_,Z,.of aq,Z,Z],#[a,ys,Z,.of (s3 _ _ ha),NK (tu.same s3)],?_];let z:=k _ s3;rw[Bool.true_and] at z;rw[aB gC];show Q (.bl _) _;have z:Q (.bl (decide (aR a1 a2∈ws))) (upd H t (.tup [.str (aR a1 a2).1,.str (aR a1 a2).2])):=z;generalize upd H t (.tup [.str (aR a1 a2).1,.str (aR a1 a2).2])=Hz at z ⊢;by_cases hm:aR a1 a2∈ws
      ·simpa [hm] using z
      simpa [hm] using z
 exact k.elim
end
end Ev
namespace L2
open PySem PySem.Spec PyProof.Rows PySem.W
theorem jR_{P:Ad}{w:Af}{k:Key}{key:Aa}(h:(fG P w).is k key=true):RelV (kV k) key:=by
 have e2:wO k key=true:=h;rcases qD e2 with⟨i,t,rfl,rfl⟩|⟨x,t,rfl,rfl⟩
 ·exact#[t,Z]
 exact#[t,Z]
def Itm(d:Addr)(o:Obj)(kvs:List (Key × V)):It:=#[λi H=>H d\.frz o (.dK kvs)/\i<kvs.length,λi H y H'=>∃t k x,y=.ref t/\H t=none/\kvs[i]? = some (k,x)/\H'=upd H t (.tup [kV k,x]),λi H=>H d\.frz o (.dK kvs)/\kvs.length<=i]
theorem g3_{P:Ad}{w:Af}{K:af}{elts:List Expr}{kk:Nat}{pos:Pos}(d it:Addr)(o:Obj)(kvs:List (Key × V)){es:Array DictEntry}{ep:Nat}(ho:o.data=.dict es ep):Turn P w K (.Tuple elts kk pos) (Itm d o kvs) [it] it (λi h=>∃ok ov,IsItemIter h it d i kvs.length ep ok ov) where
 mem:=by simp
 obj:=λi h st b hb=>by
  obtain rfl:b=it:=⇑hb
  let#[ok,ov,q]:=st;exact#[_,q,λv z=>by cases z]
 keep:=λi h h' st k=>by
  let#[ok,ov,q]:=st;exact#[ok,ov,k it Z2 _ q]
 item:=by
  intro X hP hw hK hc i pins s σ H E I hf st hg;subst hP hw hK;let#[hd,hi]:=hg;let#[vs,rel,dat]:=Ka I hd ho;obtain⟨⟨k,x⟩,hx⟩:∃p,kvs[i]? = some p:=#[kvs[i],by simp[hi]];let#[u,hu,ru]:=RX rel i hx;let#[ok,ov,st]:=st;have itl:it<s.heap.objs.size:=cy st;rw[rel.length] at st;apply wpAny_pyNext_items_item st dat hu λkey h' hk out ht sz kp=>?_;apply#[_,Z,wpAny_letOwnedTupleGo_items (s:={ s with heap:=h' }) out λh2 dE sb=>?_];have nT:s.heap.objs.size≠it:=vD itl;have I1:Inv X pins σ (upd H s.heap.objs.size (.tup [kV k,x])) { s with heap:=h2 }:=I.mX (t':=s.toks) (fp:=[it]) (its:=[key,u]) (λb o hb q=>(sb.2 b ⇑hb).trans (kp b o ⇑hb q)) hf (bj _) (zl) (.cons (jR_ hk) (.cons ru .nil)) #[#[_,(sb.2 _ nT).trans ht,Z,_,Z],_,(sb.2 _ nT).trans ht,Z];apply#[.ref _,_,I1,Z,#[_,k,x,Z,I.aJ.fresh (bj _),hx,Z],#[_,_,by rw[rel.length];exact dE],λb hb=>?_];have e:b=it:=⇑hb
  rw[aC (λz=>nT (z.symm.trans e))];exact (hf b hb).1
 done:=by
  intro X hP hw hK hc i pins s σ H E I hf st hg;subst hP hw hK;let#[hd,hi]:=hg;let#[vs,rel,dat]:=Ka I hd ho;let#[f0,f1,f2,f3,f4,f5]:=hf it Z2;let#[ok,ov,st]:=st;rw[rel.length] at st hi;exact wpAny_pyNext_items_end (I.ok.hd hc) st dat (by simp;omega) λh' eb=>#[Z,I.turned (t':=s.toks) (λb o hb e=>eb b o hb e) f0 f1 f3 f4 f5]
 self:=λA i s Q E st h=>by
  let#[ok,ov,q]:=st;exact kcp_self q h
inductive oj (R:It->Hp->Prop) (x:V) (H1:Hp):Prop
 |mk:∀v d kvs,x=.ref v->H1 v\pR v d->H1 d\.dK kvs->(∀o,R (Itm d o kvs) (upd H1 d (.frz o (.dK kvs))))->oj R x H1
def Ax(tv:TE):TI:=λσ H R=>tv σ H λx H1=>oj R x H1
theorem JY{X:Cx}{elts:List Expr}{kk:Nat}{p2:Pos}{e:Expr}{tv:TE}(he:PE X e tv):PI X (.Tuple elts kk p2) e (Ax tv):=by
 intro pins s σ H R I h;apply a_ (he pins s σ H _ I h) λu s1 ⟨x,H1,I1,r1,v,d,kvs,ex,hv,hd,q⟩=>?_;subst ex;cases r1;let#[iv,_,_]:=I1.aJ v _ hv;let#[o,ho,I2]:=I1.freeze hd;let#[z,_,vs,rel,o',es,ep,jU,c',dt,r]:=CJ I1.aJ hd;rw[ho] at jU;cases jU;apply wpAny_pyIter_items (knd:=fG X.prog X.w) (kvs:=vs) (ep:=ep) iv #[o,es,ho,c',dt,r] ?_;apply#[s1.heap.objs.size,[s1.heap.objs.size],_,_,_,Z,I2.kept (t':=s1.toks) λb o e=>ck _ e,g3_ d _ o kvs dt,?_,λb hb=>?_,q o]
 ·rw[rel.length];exact#[.none,.none,eQ _ Z]
 obtain rfl:b=s1.heap.objs.size:=⇑hb
 exact I2.jY (bj _) (I2.aJ.fresh (bj _))
theorem Pw{d:Addr}{o:Obj}{kvs:List (Key × V)}{g:TG}{tb:TS}{D:Ends}{σ:St}{H:Hp}(Pv:Nat->St->Hp->Prop)(h0:Pv 0 σ H)(hl:∀i σ H,i<=kvs.length->Pv i σ H->H d\.frz o (.dK kvs))
  (hs:∀i k x σ H,kvs[i]? = some (k,x)->Pv i σ H->∀t,H t=none->g (.ref t) σ (upd H t (.tup [kV k,x])) λgF H2=>tb { D with nx:=Pv (i+1),ct:=Pv (i+1),bk:=D.nx } gF H2) (hd:∀σ H,Pv kvs.length σ H->D.nx σ H) :
  ∃W:Nat->Nat->St->Hp->Prop,(∃m,W 0 m σ H)/\∀i m σ H,W i m σ H->
   ((Itm d o kvs).stop i H/\D.nx σ H)∨((Itm d o kvs).go i H/\∃N:St->Hp->Prop,(∀bu H',N bu H'->∃m',m'<m/\W (i+1) m' bu H')/\∀x H',(Itm d o kvs).xv i H x H'->g x σ H' λgF H2=>tb { D with nx:=N,ct:=N,bk:=D.nx } gF H2):=by
 apply#[λi m σ H=>m=kvs.length - i/\i<=kvs.length/\Pv i σ H,#[kvs.length,by simp,gD _,h0],?_];rintro i m σ H ⟨rfl,hi,p⟩;let q:=hl i σ H hi p;by_cases dz:i<kvs.length
 ·apply .inr #[#[q,dz],Pv (i+1),λbu H' p'=>#[kvs.length - (i+1),by omega,Z,dz,p'],λx H' y=>?_];let#[t,k,x,rfl,ht,hx,rfl]:=y;exact hs i k x σ H hx p t ht
 have e:i=kvs.length:=by omega
 subst e;exact .inl #[#[q,bj _],hd σ H p]
inductive qN (t:TS) (D:Ends) (σ:St) (H:Hp):Prop
 |mk:∀d kvs,H d\.dK kvs->t { nx:=λmU H1=>∃o,H1 d\.frz o (.dK kvs)/\D.nx mU (upd H1 d (.dK kvs)),rt:=λv H1=>∃o,H1 d\.frz o (.dK kvs)/\D.rt v (upd H1 d (.dK kvs)) } σ H->qN t D σ H
theorem Tu{X:Cx}{st:Stmt}{t:TS}(h:PS X st t):PS X st (qN t):=by
 intro pins s σ H D I q;let#[d,kvs,hd,q]:=q
 have nf:∀o u,X.jf d≠some (.frz o u):=λo u z=>by
  have:=I.base.fN _ _ _ z;rw[hd] at this;cases this
 apply a_ (h pins s σ H _ I q) λf s' p=>?_;cases f with
 |next=>
  let#[mU,H1,I1,o,hf,q1]:=p;exact#[mU,_,I1.pd hf nf,q1]
 |brk=>
  let#[mU,H1,I1,q1]:=p;exact False.elim q1
 |cont=>
  let#[mU,H1,I1,q1]:=p;exact False.elim q1
 |ret u=>
  let#[v,mU,H1,I1,r,o,hf,q1]:=p;exact#[v,mU,_,I1.pd hf nf,r,q1]
theorem Vn:∀{ns:List Int} {its:ak},Vals (ns.map V.int) its->∃xs:List (Int × Tok),its.toArray=intItems xs.toArray/\xs.map (·.1)=ns
 |[],_,.nil=>#[[],by unfold intItems;simp,Z]
 |n::ns,_,.cons ⟨t,e⟩ r=>by
  let#[xs,h1,h2]:=Vn r;apply#[(n,t)::xs,?_,by simp[h2]];subst e;apply Array.ext' ?_;let h3:=dX Array.toList h1;unfold intItems at h3 ⊢;simp at h3 ⊢;exact h3
theorem VI{xs:List (Int × Tok)}:∀n,n<=xs.length->preSum (numAt xs.toArray) n=((xs.map (·.1)).take n).sum
 |0,_=>by simp[preSum]
 |n+1,h=>by
  let ih:=VI (xs:=xs) n Z1;show preSum (numAt xs.toArray) n+numAt xs.toArray n=_;rw[ih,iD,List.sum_append];congr 1;unfold numAt;rw[List.getElem?_toArray,cY,bO Z1];simp
inductive xS (K:af) (xs:ag) (H:Hp) (Q:VK):Prop
 |mk:∀(l:Addr) (ns:List Int),xs=[.ref l]->dJ K H l (ns.map V.int)->Q (.int ns.sum) H->xS K xs H Q
theorem gV_{X:Cx}(hc:X.calm=true):gn X (.builtin "sum") (xS X.K):=by
 intro pins s σ H xs us Q I r h;let#[l,ns,rfl,hl,q]:=h;let#[u,rfl,ru]:=vals1 r;cases ru;let#[its,rv,p,hz]:=I.list hl;let#[zs,e1,e2]:=Vn rv;let il:=p.isList;rw[e1] at il;apply sum_intListG (I.ok.hd hc) il λh' tk t' k=>?_;apply#[.int ns.sum,H,I.kept (t':=tk) k,#[t',?_],q]
 have:preSum (numAt zs.toArray) zs.toArray.size=ns.sum:=by
  rw[cK,VI _ (bj _),<- e2,vC Z2]
 rw[this]
end L2
namespace Ev
open PySem L2
structure Fz (d:Addr) (o:Obj) (kvs:List (Key × V)) (H H':Hp):Prop where
 at_:H' d\.frz o (.dK kvs)
 sm:∀b u,b≠d->H b\u->H' b\u
section
variable{d:Addr}{o:Obj}{kvs:List (Key × V)}{H H' H2:Hp}
theorem Fz.start:Fz d o kvs H (upd H d (.frz o (.dK kvs))):=#[aq,λb u ne e=>by rw[aC ne];exact e]
theorem Fz.step(f:Fz d o kvs H H')(s:aa H' H2):Fz d o kvs H H2:=#[s _ _ f.at_,λb u ne e=>s _ _ (f.sm b u ne e)]
theorem Fz.pd(f:Fz d o kvs H H')(hd:H d\.dK kvs):aa H (upd H' d (.dK kvs)):=λb u e=>by
 by_cases z:b=d
 ·subst z;rw[hd] at e;cases e;exact aq
 rw[aC z];exact f.sm b u z e
theorem Fz.yD{K:af}{CG CW g p:Addr}{hs:Xa}{ts:Xb}{qs:aK}{fp:ai}(f:Fz d o kvs H H')(hd:H d\.dK kvs)(G:gq K CG CW H g p hs ts qs fp)(nd:d∉fp):gq K CG CW H' g p hs ts qs fp:=
 G.keep (λb hb u e=>f.sm b u (λz=>nd (z▸hb)) e) λb xs e=>f.sm b _ (cb e hd nofun) e
end
def dP(ns:ae)(g:Str->V):List (Key × V):=ns.map λn=>(Sum.inr n,g n)
theorem GB(ns:ae)(g:Str->V):(dP ns g).map (·.1)=ns.map Sum.inr:=by
 unfold dP;rw[cg];rfl
theorem je(ns:ae)(g:Str->V):(dP ns g).length=ns.length:=au _
theorem GM{ns:ae}{g:Str->V}{n:Str}(h:n∈ns):bI (dP ns g) (Sum.inr n)\g n:=by
 induction ns with
 |nil=>cases h
 |cons m ns ih=>
  by_cases e:m=n
  ·subst e;exact BP Z
  have:bI (dP (m::ns) g) (Sum.inr n)=bI (dP ns g) (Sum.inr n):=BN λz=>e (g_ z);rw[this];rcases cw.mp h with z|z
  ·exact absurd z.symm e
  exact ih z
theorem JP{ns:ae}{g k:Str->V}(h:∀n∈ns,g n=k n):dP ns g=dP ns k:=uF λn hn=>by rw[h n hn]
theorem SO{ns:ae}{g:Str->V}{n:Str}{v:V}(h:n∈ns):putK (dP ns g) (Sum.inr n) v=dP ns λm=>if m=n then v else g m:=by
 unfold putK;rw[aH]
 ·unfold dP;rw[cg];apply uF λm _=>?_;by_cases e:m=n
  ·subst e;simp
  have:¬((Sum.inr m:Key)=Sum.inr n):=λz=>e (g_ z);simp[e]
 apply List.any_eq_true.mpr #[(Sum.inr n,g n),bH.mpr #[n,h,Z],by simp]
theorem Sj{ns:ae}{g:Str->V}{n:Str}{v:V}(h:n∉ns):putK (dP ns g) (Sum.inr n) v=dP (ns++[n]) λm=>if m=n then v else g m:=by
 rw[Dt _ (zg (by
  rw[GB];intro m;let#[x,hx,e]:=bH.mp m;exact h (g_ e▸hx)))]
 unfold dP;rw[cj];congr 1
 ·apply uF λm hm=>?_;have e:¬m=n:=λz=>h (z▸hm);simp[e]
 simp
theorem Jf{ns:ae}{g:Str->V}{i:Nat}{k:Key}{x:V}(h:(dP ns g)[i]? = some (k,x)):∃n,ns[i]? = some n/\k=Sum.inr n/\x=g n:=by
 unfold dP at h;rw[cY] at h;cases e:ns[i]? with
 |none=>rw[e] at h;cases h
 |some n=>
  rw[e] at h;let h:=eF h;exact#[n,Z,(dX Prod.fst h).symm,(dX Prod.snd h).symm]
theorem OP{ns:ae}(nd:ns.Nodup){i:Nat}{n:Str}(h:ns[i]? = some n):n∉ns.take i:=by
 let q:=Hn (g:=id) (ts:=ns) (by rw[List.map_id];exact nd) h;rwa [List.map_id] at q
theorem ij{ns:ae}{i:Nat}{n:Str}(h:ns[i]? = some n):ns.take (i+1)=ns.take i++[n]:=by
 rw[iD,h];rfl
abbrev bR(ns:ae)(f:ao):List (Key × V):=dP ns λn=>.str (f n)
def fY(q:Pc):Str × Int:=(q.1,q.2.1)
def ld(f:ao)(ws:Xa)(h:Str):Int:=((ws.filter λx=>decide (f x.1=h)).map (·.2)).sum
theorem jH_(f:ao)(ws:Xa)(x:Str × Int)(h:Str):ld f (ws++[x]) h=if h=f x.1 then ld f ws h+x.2 else ld f ws h:=by
 unfold ld;rw[List.filter_append];by_cases e:f x.1=h
 ·rw[aH e.symm,cj,List.sum_append];simp[e]
 rw[aB λz=>e z.symm];simp[e]
theorem Tr:∀{l:List Int},(∀x∈l,0<=x)->0<=l.sum
 |[],_=>by simp
 |x::l,h=>by
  rw[List.sum_cons];have:=h x d9;have:=Tr (l:=l) λy hy=>h y (eL _ hy);omega
theorem _B{f:ao}{ws:Xa}{h:Str}(p:∀x∈ws,0<=x.2):0<=ld f ws h:=Tr λx hx=>by
 let#[y,hy,rfl]:=bH.mp hx;exact p y (List.mem_filter.mp hy).1
theorem Qs.nd{ps qs:aK}(Q:Qs ps qs)(nd:(ps.map (·.1)).Nodup):(qs.map (·.1)).Nodup:=by
 rw[Q.Cf];exact (xm _).nodup_iff.mpr nd
theorem Qs.len{ps qs:aK}(Q:Qs ps qs):qs.length=ps.length:=by
 have:=dX List.length Q.Cf;rw[au,(xm _).length_eq,au] at this;exact this
end Ev
namespace Ev
open PySem L2
section v
structure o9 (hs:Xa) (qs:aK) (ns:ae) (f:ao):Prop where
 perm:ns.Perm (qs.map (·.1))
 at_:∀n∈ns,f n∈hs.map (·.1)
theorem JZ:bq ["goods","stand","piece","hand","names"] vh (aX Nu):=bB
inductive GF (K:af) (CG CW:Addr) (vs:ag) (H:Hp) (Q:VK) (E:XK):Prop
 |mk:∀(g p d:Addr) (hs:Xa) (ts:Xb) (qs:aK) (fp:ai) (ns:ae) (f:ao),vs=[.ref g,.ref d]->gq K CG CW H g p hs ts qs fp->d∉fp->H d\.dK (bR ns f)->o9 hs qs ns f->(qs.map (·.1)).Nodup->qs.length<64->(∀d' H',aa H H'->H d'=none->H' d'\.dK (bR (qs.map (·.1)) f)->Q (.ref d') H')->GF K CG CW vs H Q E
theorem gI_{f CG CW:Addr}{fd:Ae}(F:bf K "checked_stand" "checked_stand" Nu f fd)(B:Bi mg)(T:dI K CG)(TW:Txt K mg CW)(cH:!br CG 1 "has_piece" oO (Gm K CG CW))(cW:!br CW 1 "has_hand" oO (jG K CW))(cN:!br CG 1 "names" gA (Oi K CG CW)) :
  aj P w K mg base a9 2 f fd vh (GF K CG CW):=by
 exists F.bF JZ;let#[g,p,d,hs,ts,qs,fp,ns,f,rfl,G,i4,hd,so,nd,bS,k]:=h;let hu:=fV hr;let sz:=bZ;refine' #[_,?r0,?kk]
 case' r0=>refine' ax ?s1 ?r1
 case s1=>exact bx (dZ (di (cc iJ (by rfl) B.h_ ig %[1,iG (v:=.ty "dict") (by rfl) B.dict pS Z|0]))) eI bJ
 case' r1=>refine' ax ?s2 ?r2
 case' s2=>refine' Tu (eR eE Z ?i2 ?g2 ?b2)
 case i2=>exact JY (GG (pv 1))
 case g2=>exact mE Z (dB (cm 2 JZ.nd) (dB (cm 3 JZ.nd) jd))
 case b2=>exact ax (bx (dZ (di (ft cH T.cl hr (pv 0) %[2|0]))) eI bJ) (aA (bx (dZ (di (ft cW TW.cl hr (dA (pv 0) Z) %[3|0]))) eI bJ))
 case' r2=>refine' ax ?s3 ?r3
 case s3=>exact bh 4 JZ.nd (wV cN T.cl hr (pv 0))
 case' r3=>refine' ax ?s4 (aA ?s5)
 case s4=>exact bx (bY qp (cc hu_ (by rfl) B.len fP %[1|0]) (cc gc (by rfl) B.len fP %[4|0])) eI bJ
 case s5=>exact aU (hG (BS Z) (by rfl) B.dict pS %[jy ["piece","stand"] 1 [1] (dN (pv 4)) (λfp s H=>eY (i:=0) (show (["piece","stand"]:ae).Nodup by decide +kernel) Z (Or.inl Z)) (λfp s H=>gX) (λfp s H=>eM %[0,kL hu (pv 1) (pv 0)|0])|0])
 have _a:ns.length=qs.length:=by rw[so.perm.length_eq,au]
 apply#[_,Z,_,_,_,_,Z,.dK hd,Z,_,Z,aO ?_];apply#[d,_,hd,?_];apply#[_,Z,d,_,Z,hd,λv hv=>?_];let#[s1,oo]:=bg (o:=pR v d) hv;let G1:=G.same s1;let pM:=s1 _ _ hd;generalize upd H v (pR v d)=H1 at s1 oo G1 pM ⊢;apply#[v,d,_,Z,oo,pM,λo=>?_];apply Pw (λi σ H'=>∃(v2 v3:aI),σ=[some (.ref g),some (.ref d),v2,v3,none]/\Fz d o (bR ns f) H1 H') #[none,none,Z,Fz.start] (λi σ H' _ ⟨_,_,_,z⟩=>z.at_) ?_ ?_
 ·rintro i ky x σ H2 hx ⟨v2,v3,rfl,fz⟩ t ht;let#[n,hn,rfl,rfl]:=Jf hx;let nm:=dC hn;let s2:=aa.new (o:=.tup [.str n,.str (f n)]) ht;let A5:=fz.step s2;have e2:upd H2 t (.tup [.str n,.str (f n)]) t\.tup [.str n,.str (f n)]:=aq;show i3 _ _ _ _ _ (upd H2 t (.tup [.str n,.str (f n)])) _;generalize upd H2 t (.tup [.str n,.str (f n)])=H3 at s2 A5 e2 ⊢;apply#[t,_,Z,.of e2,Z,_,_,Z,_,_,Z,Z,?_];let G3:=A5.yD pM G1 i4;let#[dx,dw,dy,vs,bP,h1,h2,h3,h4,h5,m1,m2,m3,m4,m5]:=id G3.ex;let#[fi,d1,l2,d3,jA,as,ef,w1,_]:=id h2.ex;have oy:(bV p dw dy).lookup ("has_piece":Str)=none:=vt _ _ _ Z0 Z0 Z0;have gP:(cU d1 l2 d3).lookup ("has_hand":Str)=none:=iF _ _ _ Z0 Z0 Z0;apply#[_,Z,g,dx,_,Z,h1,oy,_,Z,g,p,.str n,some n,hs,ts,qs,fp,Z,G3,Z,_,Z,?_];rw[show E2 (qs.map (·.1)) (some n)=true from b_ (so.perm.mem_iff.mp nm)];apply aO ?_;apply#[_,Z,g,CG,dx,_,_,Z,h1,T.cl,T.nW,kK _ _ _,p,fi,_,Z,w1,gP,_,Z,p,f n,hs,ts,bP,Z,h2,_,Z,?_];rw[b_ (so.at_ n nm)];exact aO #[_,_,Z,A5]
 rintro σ H2 ⟨v2,v3,rfl,fz⟩;apply#[o,fz.at_,?_];let s2:=s1.trans (fz.pd pM);have hd2:upd H2 d (.dK (bR ns f)) d\.dK (bR ns f):=aq;generalize upd H2 d (.dK (bR ns f))=H3 at s2 hd2 ⊢;let G3:=G.same s2;let#[dx,dw,dy,vs,bP,h1,h2,h3,h4,h5,m1,m2,m3,m4,m5]:=id G3.ex;apply#[_,Z,g,dx,_,Z,h1,vt _ _ _ Z0 Z0 Z0,g,p,hs,ts,qs,fp,Z,G3,λln AM=>?_];let#[s3,e3]:=bg (o:=.lst ((qs.map (·.1)).map V.str)) AM;let mw:=s3 _ _ hd2;generalize upd H3 ln (.lst ((qs.map (·.1)).map V.str))=H4 at s3 e3 mw ⊢;apply#[_,Z,d,_,Z,mw,_,Z,ln,_,Z,.inl (.of e3),Z,_,Z,?_];rw[je,au,au,_a];simp only[bne_self_eq_false,decide_true,Bool.not_true];apply aO ?_;let Ej:=s2.trans s3;apply#[_,Z,ln,Z,#[_,.of e3],λD hD=>?_];apply jz (own:=1) (fv:=[some (.ref d)]) (xs:=(qs.map (·.1)).map V.str) Z dW (λi out H'=>aa H4 H'/\H' D\.lst out/\kE K H' out (bR ((qs.map (·.1)).take i) f)) #[aa.new hD,aq,.nil] (λi out H' _ ⟨sm,_,_⟩=>.of (sm _ _ e3)) (λout H5 ⟨sm,oE,pa⟩=>?_) (λi y out H' hy ⟨sm,dU,pa⟩=>?_)
 ·rw[au,eK] at pa;apply#[D,out,_,Z,oE,pa,by rw[je,au];omega,λd' jX=>?_]
  have mi:((bR (qs.map (·.1)) f).map (·.1)).Nodup:=by
   rw[GB,qE,pZ];exact nd.imp λn e=>n (g_ e)
  rw[BL mi];exact k d' _ ((Ej.trans sm).trans (aa.new jX)) (Ej.free (sm.free jX)) aq
 let#[n,hn,rfl]:=jc hy;have hi:i<(qs.map (·.1)).length:=(cq.mp hn).1;rw[au] at hi;have nm:n∈ns:=so.perm.mem_iff.mpr (dC hn);apply#[_,Z,Z,λNx hN=>dD ?_];apply#[_,Z,_,Z,_,Z,d,.str (f n),Z,?_,zl,λt ht=>?_]
 ·rw[<- GM (g:=λn=>V.str (f n)) nm];exact .k (k:=Sum.inr n) (sm _ _ mw)
 let s5:=aa.new (o:=.tup [.str n,.str (f n)]) ht;let lo:=bK pa;rw[je,cX,au] at lo;apply#[out,s5 _ _ dU,by omega,hN _ _ #[gY (sm.trans s5) hD,aq,?_]];have E9:upd H' t (.tup [.str n,.str (f n)]) t\.tup [.str n,.str (f n)]:=aq;have pD:∀{b:Addr} {ys:ag},upd H' t (.tup [.str n,.str (f n)]) b\.tup ys->b≠D:=λhb=>cb hb (s5 _ _ dU) nofun;rw[ij hn];show kE K _ _ (((qs.map (·.1)).take i++[n]).map _);rw[cj];exact jx (Paired.bL pa λy kv ⟨b,z,hb⟩=>#[b,z,by rw[aC (pD (s5 _ _ hb))];exact s5 _ _ hb]) (.cons #[t,Z,by rw[aC (pD E9)];exact E9] .nil)
end
end Ev
namespace Ev
open PySem L2
theorem fj.has{K:af}{C:Addr}{H:Hp}{p:Addr}{hs:Xa}{ts:Xb}{fp:ai}(W:fj K C H p hs ts fp){b:Addr}(hb:b∈fp):∃o,H b\o:=by
 let#[dx,d1,l2,d3,zs,as,rfl,h1,h2,h3,h4,h5,h6,h7]:=W.ex;simp only[cw] at hb;rcases hb with rfl|rfl|rfl|rfl|hb
 ·exact#[_,h1]
 ·exact#[_,h2]
 ·exact#[_,h3]
 ·exact#[_,h5]
 let#[i,hi,e]:=mO hb;exact#[_,h7 i ((az hs)[i]' Z1) b (bO Z1) (by rw[<- e];exact bO hi)]
section
variable{d d2:Addr}{o:Obj}{kvs:List (Key × V)}{H H' H1:Hp}{u:HO}
theorem Fz.zC(s:aa H H1):Fz d o kvs H (upd H1 d (.frz o (.dK kvs))):=#[aq,λb u ne e=>by rw[aC ne];exact s _ _ e]
theorem Fz.put(f:Fz d o kvs H H')(hn:H d2=none)(ne:d2≠d):Fz d o kvs H (upd H' d2 u):=#[by rw[aC ne.symm];exact f.at_,λb u nb e=>by rw[aC (bw e hn)];exact f.sm b u nb e]
end
section v
theorem Kf:bq ["goods","placed","hand","found","piece"] j7 (aX OH):=bB
structure pU (K:af) (CG CW:Addr) (H:Hp) (g p d:Addr) (hs:Xa) (ts:Xb) (qs:aK) (fp:ai) (f:ao):Prop where
 G:gq K CG CW H g p hs ts qs fp
 Gd:Good hs ts
 i4:d∉fp
 hd:H d\.dK (bR (qs.map (·.1)) f)
 at_:∀n∈qs.map (·.1),f n∈hs.map (·.1)
 nd:(qs.map (·.1)).Nodup
 bS:qs.length<64
abbrev wj(hs:Xa)(qs:aK)(f:ao):List (Key × V):=dP (az hs) λh=>.int (ld f (qs.map fY) h)
inductive Hl (K:af) (CG CW:Addr) (vs:ag) (H:Hp) (Q:VK) (E:XK):Prop
 |mk:∀(g p d:Addr) (hs:Xa) (ts:Xb) (qs:aK) (fp:ai) (f:ao),vs=[.ref g,.ref d]->pU K CG CW H g p d hs ts qs fp f->(∀d' H',aa H H'->H d'=none->H' d'\.dK (wj hs qs f)->Q (.ref d') H')->Hl K CG CW vs H Q E
theorem fZ_{f CG CW CP:Addr}{fd:Ae}(F:bf K "loads_at" "loads_at" OH f fd)(B:Bi mg)(T:dI K CG)(TW:Txt K mg CW)(cH:!br CW 1 "hands" gA (Dg K CW))(cW:!br CG 2 "weight" yM (BQ K CG CW CP)) :
  aj P w K mg base a9 3 f fd j7 (Hl K CG CW):=by
 exists F.bF Kf;let#[g,p,d,hs,ts,qs,fp,f,rfl,Pl,k]:=h;let hu:=fV hr;let sz:=bZ;have iX:bc 1 _:=hr.mono (by decide);refine' #[_,?r0,?kk]
 case' r0=>refine' ax ?s1 ?r1
 case s1=>exact bh 3 Kf.nd (hG (BS Z) (by rfl) B.dict pS %[jy ["hand"] 1 [] (dN (wV cH TW.cl iX (dA (pv 0) Z))) (λfp s H=>eY (i:=0) (show (["hand"]:ae).Nodup by decide +kernel) Z (Or.inl Z)) (λfp s H=>gX) (λfp s H=>eM %[0,ay|0])|0])
 case' r1=>refine' ax ?s2 ?r2
 case' s2=>refine' Tu (eR eE Z ?i2 ?g2 (aA ?b2))
 case i2=>exact JY (GG (pv 1))
 case g2=>exact mE Z (dB (cm 4 Kf.nd) (dB (cm 2 Kf.nd) jd))
 case b2=>exact vq hu (pv 3) (pv 2) (bG fO (kL hu (pv 3) (pv 2)) (ft cW T.cl hr (pv 0) %[4|0])) Z
 case r2=>exact aA (aU (pv 3))
 let nl:=Pl.Gd.fI;let h8:=Pl.Gd.h8;let#[dx,dw,dy,vs,bP,h1,h2,h3,h4,h5,m1,m2,m3,m4,m5]:=id Pl.G.ex;let#[fi,d1,l2,d3,jA,as,ef,w1,_]:=id h2.ex;have gP:(cU d1 l2 d3).lookup ("hands":Str)=none:=iF _ _ _ Z0 Z0 Z0;apply#[_,Z,g,CG,dx,_,_,Z,h1,T.cl,T.nW,kK _ _ _,p,fi,_,Z,w1,gP,p,hs,ts,bP,Z,h2,λlh pL=>?_];let#[s1,e1]:=bg (o:=.lst ((az hs).map V.str)) pL;generalize upd H lh (.lst ((az hs).map V.str))=H1 at s1 e1 ⊢;apply#[lh,Z,#[_,.of e1],λD hD=>?_];apply jz (own:=1) (fv:=[]) (xs:=(az hs).map V.str) Z dW (λi out H'=>aa H1 H'/\H' D\.lst out/\kE K H' out (dP ((az hs).take i) λ_=>.int 0)) #[aa.new hD,aq,.nil] (λi out H' _ ⟨sm,_,_⟩=>.of (sm _ _ e1)) (λout H5 ⟨sm,oE,pa⟩=>?_) (λi y out H' hy ⟨sm,dU,pa⟩=>?_);rotate_left 1
 ·let#[n,hn,rfl]:=jc hy;have hi:i<(az hs).length:=(cq.mp hn).1;apply#[_,Z,Z,λNx hN=>dD ?_];apply#[_,Z,zl,λt ht=>?_];let s5:=aa.new (o:=.tup [.str n,.int 0]) ht;let lo:=bK pa;rw[je,cX] at lo;apply#[out,s5 _ _ dU,by omega,hN _ _ #[gY (sm.trans s5) hD,aq,?_]];have E9:upd H' t (.tup [.str n,.int 0]) t\.tup [.str n,.int 0]:=aq;have pD:∀{b:Addr} {ys:ag},upd H' t (.tup [.str n,.int 0]) b\.tup ys->b≠D:=λhb=>cb hb (s5 _ _ dU) nofun;rw[ij hn];show kE K _ _ (((az hs).take i++[n]).map _);rw[cj];exact jx (Paired.bL pa λy kv ⟨b,z,hb⟩=>#[b,z,by rw[aC (pD (s5 _ _ hb))];exact s5 _ _ hb]) (.cons #[t,Z,by rw[aC (pD E9)];exact E9] .nil)
 rw[au,eK] at pa;apply#[D,out,_,Z,oE,pa,by rw[je];omega,λd2 hd2=>?_]
 have mi:((dP (az hs) λ_=>V.int 0).map (·.1)).Nodup:=by
  rw[GB,qE,pZ];exact Pl.Gd.pB.imp λn e=>n (g_ e)
 rw[BL mi];let s2:=(s1.trans sm).trans (aa.new (o:=.dK (dP (az hs) λ_=>V.int 0)) hd2);have e2:upd H5 d2 (.dK (dP (az hs) λ_=>V.int 0)) d2\.dK (dP (az hs) λ_=>V.int 0):=aq;have n2:H d2=none:=s1.free (sm.free hd2);show pe _ _ _ _ (upd H5 d2 (.dK (dP (az hs) λ_=>V.int 0)));generalize upd H5 d2 (.dK (dP (az hs) λ_=>V.int 0))=H6 at s2 e2 ⊢;have OU:d2≠d:=(bw Pl.hd n2).symm;apply#[d,_,s2 _ _ Pl.hd,?_];apply#[_,Z,d,_,Z,s2 _ _ Pl.hd,λv hv=>?_];let#[s3,oo]:=bg (o:=pR v d) hv;let e3:=s3 _ _ e2;let nK:=s2.trans s3;generalize upd H6 v (pR v d)=H7 at s3 oo e3 nK ⊢;apply#[v,d,_,Z,oo,nK _ _ Pl.hd,λo=>?_];apply Pw (λi σ H'=>∃(v2 v4:aI),σ=[some (.ref g),some (.ref d),v2,some (.ref d2),v4]/\Fz d o (bR (qs.map (·.1)) f) H H'/\H' d2\.dK (dP (az hs) λh=>.int (ld f ((qs.take i).map fY) h))) #[none,none,Z,Fz.zC nK,by rw[aC OU];exact e3] (λi σ H' _ ⟨_,_,_,z,_⟩=>z.at_) ?_ ?_
 ·rintro i ky x σ H8 hx ⟨v2,v4,rfl,fz,e8⟩ t ht;let#[n,hn,rfl,rfl]:=Jf hx
  have hi:i<qs.length:=by
   have:=(cq.mp hn).1;rwa [au] at this
  have hq:qs[i]? = some (qs[i]'hi):=bO hi
  have en:n=(qs[i]'hi).1:=by
   rw[cY,hq] at hn;exact (eF hn).symm
  have fm:f n∈az hs:=(iH hs).mem_iff.mpr (Pl.at_ n (dC hn));generalize qs[i]'hi=q at hq en;let s8:=aa.new (o:=.tup [.str n,.str (f n)]) ht;let A5:=fz.step s8;let e9:=s8 _ _ e8;have et:upd H8 t (.tup [.str n,.str (f n)]) t\.tup [.str n,.str (f n)]:=aq;show i3 _ _ _ _ _ (upd H8 t (.tup [.str n,.str (f n)])) _;generalize upd H8 t (.tup [.str n,.str (f n)])=H9 at s8 A5 e9 et ⊢;apply#[t,_,Z,.of et,Z,_,_,Z,_,_,Z,Z,?_];let G9:=A5.yD Pl.hd Pl.G Pl.i4;let#[dx,dw,dy,vs,bP,h1,h2,h3,h4,h5,m1,m2,m3,m4,m5]:=id G9.ex;have oy:(bV p dw dy).lookup ("weight":Str)=none:=vt _ _ _ Z0 Z0 Z0;apply#[_,Z,_,Z,d2,.int (ld f ((qs.take i).map fY) (f n)),Z,?_,_,Z,g,dx,_,Z,h1,oy,_,Z,g,p,.str n,some n,hs,ts,qs,fp,Z,G9,Pl.nd,Z,.inl #[q,dC hq,dX some en,?_]]
  ·rw[<- GM (g:=λh=>V.int (ld f ((qs.take i).map fY) h)) fm];exact .k (k:=Sum.inr (f n)) e9
  apply#[_,_,Z,Z,_,Z,_,Z,d2,_,Z,.k (k:=Sum.inr (f n)) e9 (by rw[je];omega),?_];apply#[_,_,Z,A5.put n2 OU,?_];rw[aq,SO fm];congr 2;apply JP λm _=>?_
  have e5:(qs.take (i+1)).map fY=(qs.take i).map fY++[fY q]:=by
   rw[iD,hq,cj];rfl
  rw[e5,jH_];show (if m=f n then V.int (ld f ((qs.take i).map fY) (f n)+q.2.1) else V.int (ld f ((qs.take i).map fY) m))=V.int (if m=f q.1 then _ else _);rw[<- en];by_cases z:m=f n
  ·rw[aH z,aH z,z];rfl
  rw[aB z,aB z]
 rintro σ H8 ⟨v2,v4,rfl,fz,e8⟩;apply#[o,fz.at_,?_];rw[je,au,eK] at e8;exact#[_,Z,k d2 _ (fz.pd Pl.hd) n2 (by rw[aC OU];exact e8)]
end
end Ev
namespace L2
open PySem PySem.Spec PyProof.Rows PySem.W
theorem g5_{d:Addr}{o:Obj}{kvs:List (Key × V)}{g:TG}{tc:TT}{te:TE}{own:Nat}{fv:List aI}{dec:V->Hp->List aI->Prop}{D:Addr}{H:Hp}{Q:VK}{iL:St}(pJ:iL=List.replicate own none++fv)(G:zp g own fv dec)(Pv:Nat->ag->Hp->Prop)
  (h0:Pv 0 [] (upd H D (.lst []))) (hl:∀i out H',i<=kvs.length->Pv i out H'->H' d\.frz o (.dK kvs)) (hd:∀out H',Pv kvs.length out H'->Q (.ref D) H')
  (wz:∀i k x out H',kvs[i]? = some (k,x)->Pv i out H'->∀t,H' t=none->∃o3,dec (.ref t) (upd H' t (.tup [kV k,x])) o3/\o3.length=own/\∀Nx:Hp->Prop,(∀gL H2,Pv (i+1) gL H2->Nx H2)->
   tc (o3++fv) (upd H' t (.tup [kV k,x])) λb H4=>if b=true then te (o3++fv) H4 λy H5=>∃dF,H5 D\.lst dF/\dF.length<sizeLine/\Nx (upd H5 D (.lst (dF++[y]))) else Nx H4) :
  wR (Itm d o kvs) g tc te iL D H Q:=by
 apply De pJ G kvs.length Pv h0 (λout H' p=>#[#[hl _ _ _ (bj _) p,bj _],hd out H' p]) λi out H' hi p=>?_;let q:=hl i out H' (Nat.le_of_lt hi) p;apply#[#[q,hi],λx H2 y=>?_];let#[t,k,v,rfl,ht,hx,rfl]:=y;exact wz i k v out H' hx p t ht
section
variable{X:Cx}
inductive tw (xs:ag) (H:Hp) (Q:VK):Prop
 |mk:∀a kvs,xs=[.ref a]->Rd H a (.dK kvs)->(∀p,H p=none->Q (.ref p) (upd H p (.dK kvs)))->tw xs H Q
theorem Hg:gn X (.type "dict") tw:=by
 intro pins s σ H xs us Q I r h;let#[a,kvs,rfl,hd,q]:=h;let#[u,rfl,ru]:=vals1 r;cases ru;exact iB_ I hd λp s' hp I'=>#[.ref p,_,I',Z,q p hp]
inductive s_ (K:af) (x:V) (y:V) (H:Hp) (Q:VK):Prop
 |mk:∀a b xs,x=.ref a->y=.ref b->dJ K H a xs->dJ K H b []->Q (.bl (!xs.isEmpty)) H->s_ K x y H Q
theorem OE(hu:X.A.units+0+1<cLine):d6 X (compareOp .NotEq) (s_ X.K):=by
 intro pins s σ H x y v u Q I rx ry h;let#[a,b,xs,rfl,rfl,t,t',hq]:=h;cases xs with
 |nil=>exact R6 ic hu pins s σ H (.ref a) (.ref b) v u Q I rx ry #[[],[],#[a,[],Z,t,.nil],#[b,[],Z,t',.nil],hq]
 |cons z zs=>
  cases rx;cases ry;let#[us,r,pl,_]:=I.list t;let#[vs,r',tD,_]:=I.list t';let l1:=r.length;let l2:=r'.length;exact Ko.gM pl.isList tD.isList (by simp only[cK,bne_iff_ne];simp at l1 l2;omega) Z1 #[.bl true,H,I,Z,hq]
end
end L2
namespace Ev
open PySem L2
theorem Tp{A:Ag}{s:Ab}{ns:ae}{f g:ao}{vb:List (Key × Aa)}(rb:KV (bR ns g) vb):∀(ms:ae) (va:List (Key × Aa)),KV (bR ms f) va->(∀m∈ms,m∈ns)->PySem.W.KeqHits A s vb va (ms.all λn=>decide (f n=g n))
 |[],va,r,_=>by
  cases r;exact .nil
 |m::ms,va,r,h=>by
  cases r with
  |@cons _ q _ Xf h1 r=>
   let hm:=h m d9;let#[y,hy,ry]:=eS.some_of (v:=.str (g m)) (o:=valueAt vb (Sum.inr m)) (by rw[<- GM (g:=λn=>V.str (g n)) hm];exact rb.val _);let#[k,v]:=q;let#[e1,e2]:=h1;have e1:(Sum.inr m:Key)=k:=e1;subst e1;let#[t,rfl]:=(show ∃t,v=Value.str (f m) t from e2);let#[u,rfl]:=(show ∃t,y=Value.str (g m) t from ry);let q:=SeqAt.EqAt.str_str (A:=A) (s:=s) (f m) t (g m) u;rw[show (f m == g m)=decide (f m=g m) by by_cases z:f m=g m<;>simp[z]] at q
   exact .hit hy q (Tp rb ms Xf r λx hx=>h x (eL _ hx))
def mm(a n:Int):Int:=a / (Int.gcd a n:Int) * n
theorem kB_{a n:Int}(ha:0<a)(hn:0<n):mm a n=(Int.lcm a n:Int):=by
 let#[p,rfl]:=p5 (Int.le_of_lt ha);let#[q,rfl]:=p5 (Int.le_of_lt hn);show ((p:Int) / ((Nat.gcd p q:Nat):Int)) * (q:Int)=((Nat.lcm p q:Nat):Int);rw[<- Int.natCast_ediv,<- Int.natCast_mul,Nat.div_mul_right_comm (Nat.gcd_dvd_left p q)];rfl
def ml(ns:List Int):Int:=ns.foldl mm 1
theorem Ud:∀(ns:List Int) (a:Int),0<a->(∀n∈ns,0<n)->0<ns.foldl mm a/\∀x:Int,0<=x->(ns.foldl mm a ∣ x ↔ a ∣ x/\∀n∈ns,n ∣ x)
 |[],a,ha,_=>#[ha,λx _=>by simp]
 |n::ns,a,ha,h=>by
  let hn:=h n d9;let e:=kB_ ha hn
  have p:0<mm a n:=by
   rw[e];have:=Nat.lcm_pos (m:=a.natAbs) (n:=n.natAbs) Z1 Z1;have:0<Int.lcm a n:=this;omega
  let#[h1,h2]:=Ud ns (mm a n) p λm hm=>h m (eL _ hm);apply#[h1,λx hx=>(h2 x hx).trans ?_];let#[z,rfl]:=p5 hx;rw[e,Int.natCast_dvd_natCast,Int.lcm_dvd_iff];constructor
  ·rintro⟨⟨q1,q2⟩,q3⟩
   exact#[q1,λm hm=>by
    rcases cw.mp hm with rfl|hm
    ·exact q2
    exact q3 m hm]
  rintro⟨q1,q2⟩;exact#[#[q1,q2 n d9],λm hm=>q2 m (eL _ hm)]
theorem j6_{ns:List Int}(h:∀n∈ns,0<n):0<ml ns:=(Ud ns 1 (by decide) h).1
theorem jJ_(f:ao)(x:Str × Int)(ws:Xa)(h:Str):ld f (x::ws) h=(if f x.1=h then x.2 else 0)+ld f ws h:=by
 unfold ld;by_cases e:f x.1=h
 ·simp[e]
 simp[e]
def sumF(ns:ae)(L c:Str->Int):Int:=(ns.map λh=>L h * (L h * c h)).sum
end Ev
namespace Ev
open PySem L2
theorem RE{f:ao}{h:Str}:∀{ws:Xa},(∀x∈ws,0<=x.2/\x.2<=1000000000)->ld f ws h<=1000000000 * ws.length
 |[],_=>by
  unfold ld;simp
 |x::ws,p=>by
  let h1:=p x d9;let h2:=RE (f:=f) (h:=h) (ws:=ws) λy hy=>p y (eL _ hy);rw[jJ_,gB];by_cases z:f x.1=h
  ·rw[aH z];omega
  rw[aB z];omega
def oi(hs:Xa):Int:=ml ((az hs).map (strOf hs))
theorem yW{hs:Xa}{ts:Xb}(G:Good hs ts){n:Str}(h:n∈az hs):1<=strOf hs n/\strOf hs n<=1000:=(G.aJ _ (yY ((iH hs).mem_iff.mp h))).2
section v
theorem vT:bq ["numbers","found","number"] ["numbers"] (aX La):=bB
def D_(K:af):Sp:=λvs H Q _=>∃(l:Addr) (ns:List Int),vs=[.ref l]/\dJ K H l (ns.map V.int)/\(∀n∈ns,1<=n/\n<=1000)/\Q (.int (ml ns)) H
theorem ja_{ns:List Int}{i:Nat}{n:Int}(h:ns[i]? = some n):ml (ns.take (i+1))=mm (ml (ns.take i)) n:=by
 unfold ml;rw[iD,h,List.foldl_append];rfl
theorem eA_{ns:List Int}{i:Nat}{y:V}(h:(ns.map V.int)[i]? = some y):∃n,ns[i]? = some n/\y=.int n:=by
 rw[cY] at h;cases e:ns[i]? with
 |none=>rw[e] at h;cases h
 |some n=>rw[e] at h;exact#[n,Z,(eF h).symm]
theorem ZT{f:Addr}{fd:Ae}(F:bf K "least_multiple" "least_multiple" La f fd)(cG:!aZ 1 "greatest_divisor" qi Ea):!aj a9 2 f fd ["numbers"] (D_ K):=by
 exists F.bF vT;let#[l,ns,rfl,hl,b,k]:=h;refine' #[_,ax ?s1 (ax ?s2 (aA ?s3)),?kk]
 case s1=>exact bh 1 vT.nd ay
 case s2=>exact eR eE Z (dN (pv 0)) (cm 2 vT.nd) (aA (bh 1 vT.nd (bG qz (bG xg (pv 1) (aN cG hr %[1,2|0])) (pv 2))))
 case s3=>exact aU (pv 1)
 apply#[_,Z,l,Z,#[_,hl],hU (K:=K) (a:=l) (xs:=ns.map V.int) (λi σ H'=>H'=H/\∃(v2:aI),σ=[some (.ref l),some (.int (ml (ns.take i))),v2]) #[Z,none,Z] (λi σ H' _ ⟨e,_⟩=>by rw[e];exact hl) ?_ ?_]
 ·rintro i y σ H' hy ⟨rfl,v2,rfl⟩;let#[n,hn,rfl]:=eA_ hy;let bn:=b n (dC hn)
  let p:=j6_ (ns:=ns.take i) λm hm=>by
   have:=b m (List.take_subset _ _ hm);omega
  apply#[_,Z,_,Z,_,Z,_,_,Z,Int.le_of_lt p,by omega,_,_,Z,Z,Z8 Z1 (Int.le_trans bn.2 (by decide)),_,Z,_,_,Z,Z,.inr #[by omega,by omega],Z,some (.int n),?_];rw[ja_ hn];rfl
 rintro σ H' ⟨rfl,v2,rfl⟩;apply#[_,Z,?_];rw[au,eK];exact k
theorem zK:bq ["web"] ["web"] (aX sG):=bB
inductive lA (K:af) (C:Addr) (vs:ag) (H:Hp) (Q:VK) (E:XK):Prop
 |mk:∀(p:Addr) (hs:Xa) (ts:Xb) (fp:ai),vs=[.ref p]->fj K C H p hs ts fp->Good hs ts->(∀H',aa H H'->Q (.int (oi hs)) H')->lA K C vs H Q E
theorem jI_{f CW:Addr}{fd:Ae}(F:bf K "multiple_of_strengths" "multiple_of_strengths" sG f fd)(TW:Txt K mg CW)(cL:!aZ 2 "least_multiple" ["numbers"] (D_ K))(cH:!br CW 1 "hands" gA (Dg K CW))(cS:!br CW 2 "strength" jw (Dw K CW)):!aj a9 3 f fd ["web"] (lA K CW):=by
 exists F.bF zK;let#[p,hs,ts,fp,rfl,W,G,k]:=h;let sz:=bZ;let nl:=G.fI;let h8:=G.h8;refine' #[_,aA (aU (aN cL hr %[jy ["hand","web"] 1 [0] (dN (wV cH TW.cl (hr.mono (by decide)) (pv 0))) (λfp s H=>eY (i:=0) (show (["hand","web"]:ae).Nodup by decide +kernel) Z (Or.inl Z)) (λfp s H=>gX) (λfp s H=>?e1)|0])),?kk]
 case e1=>exact ft cS TW.cl hr (pv 1) %[0|0]
 let#[fi,d1,l2,d3,jA,as,ef,w1,_]:=id W.ex;apply#[_,Z,p,fi,_,Z,w1,iF _ _ _ Z0 Z0 Z0,p,hs,ts,fp,Z,W,λlh pL=>?_];let#[s1,e1]:=bg (o:=.lst ((az hs).map V.str)) pL;generalize upd H lh (.lst ((az hs).map V.str))=H1 at s1 e1 ⊢;apply#[lh,Z,#[_,.of e1],λD hD=>?_];apply jz (own:=1) (fv:=[some (.ref p)]) (xs:=(az hs).map V.str) Z dW (λi out H'=>aa H1 H'/\H' D\.lst out/\out=(((az hs).take i).map (strOf hs)).map V.int) #[aa.new hD,aq,Z] (λi out H' _ ⟨sm,_,_⟩=>.of (sm _ _ e1)) (λout H5 ⟨sm,oE,eo⟩=>?_) (λi y out H' hy ⟨sm,dU,eo⟩=>?_)
 ·rw[au,eK] at eo;rw[eo] at oE;apply#[D,_,Z,.of oE,λn hn=>?_,k H5 (s1.trans sm)];let#[m,hm,rfl]:=bH.mp hn;exact yW G hm
 let#[n,hn,rfl]:=jc hy;have hi:i<(az hs).length:=(cq.mp hn).1;apply#[_,Z,Z,λNx hN=>dD ?_];let W':=(W.same s1).same sm;let#[fi,d1,l2,d3,jA,as,ef,w1,_]:=id W'.ex;apply#[_,Z,p,fi,_,Z,w1,iF _ _ _ Z0 Z0 Z0,_,Z,p,n,strOf hs n,hs,ts,fp,Z,W',G.yn,yY ((iH hs).mem_iff.mp (dC hn)),?_];apply#[out,dU,by rw[eo,au,au,cX];omega,hN _ _ #[gY sm hD,aq,?_]];rw[ij hn,cj,cj,eo];rfl
theorem Gy:bq ["goods","placed","multiple","found","hand","load"] j7 (aX NC):=bB
def uZ(hs:Xa)(qs:aK)(f:ao)(h:Str):Int:=ld f (qs.map fY) h * (oi hs / strOf hs h)
inductive J7 (K:af) (CG CW:Addr) (vs:ag) (H:Hp) (Q:VK) (E:XK):Prop
 |mk:∀(g p d:Addr) (hs:Xa) (ts:Xb) (qs:aK) (fp:ai) (f:ao),vs=[.ref g,.ref d]->pU K CG CW H g p d hs ts qs fp f->(∀q∈qs,0<=q.2.1/\q.2.1<=1000000000)->(∀d' H',aa H H'->H d'=none->H' d'\.dK (dP (az hs) λh=>.int (uZ hs qs f h))->Q (.ref d') H')->J7 K CG CW vs H Q E
theorem Iz{qs:aK}(wp:∀q∈qs,0<=q.2.1/\q.2.1<=1000000000)(bS:qs.length<64)(f:ao)(h:Str):0<=ld f (qs.map fY) h/\ld f (qs.map fY) h<=64000000000:=by
 have p:∀x∈qs.map fY,0<=x.2/\x.2<=1000000000:=λx hx=>by
  let#[q,hq,rfl]:=bH.mp hx;exact wp q hq
 let h1:=RE (f:=f) (h:=h) p;rw[au] at h1;exact#[_B λx hx=>(p x hx).1,by omega]
theorem gs_{f CG CW:Addr}{fd:Ae}(F:bf K "levels_at" "levels_at" NC f fd)(T:dI K CG)(TW:Txt K mg CW)(cL:!aZ 3 "loads_at" j7 (Hl K CG CW))(cM:!aZ 3 "multiple_of_strengths" ["web"] (lA K CW))(cS:!br CW 2 "strength" jw (Dw K CW)) :
  aj P w K mg base a9 4 f fd j7 (J7 K CG CW):=by
 exists F.bF Gy;let#[g,p,d,hs,ts,qs,fp,f,rfl,Pl,wp,k]:=h;let hu:=fV hr;let sz:=bZ;have tW:bc 2 _:=hr.mono (by decide);refine' #[_,?r0,?kk]
 case' r0=>refine' ax ?s0 (ax ?s1 (ax ?s2 ?r2))
 case s0=>exact bh 2 Gy.nd (aN cM hr %[dA (pv 0) Z|0])
 case s1=>exact bh 3 Gy.nd GD
 case' s2=>refine' eR eE Z ?i2 ?g2 (aA ?b2)
 case i2=>exact JY (GG (aN cL hr %[0,1|0]))
 case g2=>exact mE Z (dB (cm 4 Gy.nd) (dB (cm 5 Gy.nd) jd))
 case b2=>exact vq hu (pv 3) (pv 4) (bG qz (pv 5) (bG xg (pv 2) (ft cS TW.cl tW (dA (pv 0) Z) %[4|0]))) Z
 case r2=>exact aA (aU (pv 3))
 let nl:=Pl.Gd.fI;let h8:=Pl.Gd.h8;let#[dx,dw,dy,vs,bP,h1,h2,_]:=id Pl.G.ex;apply#[_,Z,g,CG,dx,_,_,Z,h1,T.cl,T.nW,kK _ _ _,p,hs,ts,bP,Z,h2,Pl.Gd,λH0 s0=>?_];intro d2 hd2;let s1:=s0.trans (aa.new (o:=.dK []) hd2);have e1:upd H0 d2 (.dK []) d2\.dK []:=aq;have n2:H d2=none:=s0.free hd2;show pe _ _ _ _ (upd H0 d2 (.dK []));generalize upd H0 d2 (.dK [])=H1 at s1 e1 ⊢;have Qm:pU K CG CW H1 g p d hs ts qs fp f:=#[Pl.G.same s1,Pl.Gd,Pl.i4,s1 _ _ Pl.hd,Pl.at_,Pl.nd,Pl.bS];apply#[_,Z,_,Z,g,p,d,hs,ts,qs,fp,f,Z,Qm,λdl H2 s2 IS e2=>?_];apply#[dl,_,Z,e2,λv hv=>?_];let#[s3,oo]:=bg (o:=pR v dl) hv;let e3:=s3 _ _ e2;let md:=s2.trans s3;generalize upd H2 v (pR v dl)=H3 at s3 oo e3 md ⊢;have Ck:H dl=none:=s1.free IS;have VL:d2≠dl:=bw e1 IS;apply#[v,dl,_,Z,oo,e3,λo=>?_];apply Pw (λi σ H'=>∃(v4 v5:aI),σ=[some (.ref g),some (.ref d),some (.int (oi hs)),some (.ref d2),v4,v5]/\aa H H'/\H' dl\.frz o (.dK (wj hs qs f))/\H' d2\.dK (dP ((az hs).take i) λh=>.int (uZ hs qs f h))) #[none,none,Z,gY (s1.trans md) Ck,aq,by rw[aC VL];exact md _ _ e1] (λi σ H' _ ⟨_,_,_,_,z,_⟩=>z) ?_ ?_
 ·rintro i ky x σ H8 hx ⟨v4,v5,rfl,s8,f8,e8⟩ t ht;let#[n,hn,rfl,rfl]:=Jf hx;have hi:i<(az hs).length:=(cq.mp hn).1;have nm:n∈hs.map (·.1):=(iH hs).mem_iff.mp (dC hn);let sm:=yY nm;let sg:=yW Pl.Gd (dC hn);let lo:=Iz wp Pl.bS f n;let ss:=aa.new (o:=.tup [.str n,.int (ld f (qs.map fY) n)]) ht;let s9:=s8.trans ss;let e9:=ss _ _ e8;let f9:=ss _ _ f8;have et:upd H8 t (.tup [.str n,.int (ld f (qs.map fY) n)]) t\.tup [.str n,.int (ld f (qs.map fY) n)]:=aq;show i3 _ _ _ _ _ (upd H8 t (.tup [.str n,.int (ld f (qs.map fY) n)])) _;generalize upd H8 t (.tup [.str n,.int (ld f (qs.map fY) n)])=H9 at ss s9 e9 f9 et ⊢;apply#[t,_,Z,.of et,Z,_,_,Z,_,_,Z,Z,?_];let G9:=Pl.G.same s9;let#[dx,dw,dy,vs,bP,h1,h2,h3,h4,h5,m1,m2,m3,m4,m5]:=id G9.ex;let#[fi,d1,l2,d3,jA,as,ef,w1,_]:=id h2.ex;have gP:(cU d1 l2 d3).lookup ("strength":Str)=none:=iF _ _ _ Z0 Z0 Z0;apply#[_,Z,_,Z,_,Z,g,CG,dx,_,_,Z,h1,T.cl,T.nW,kK _ _ _,p,fi,_,Z,w1,gP,_,Z,p,n,strOf hs n,hs,ts,bP,Z,h2,Pl.Gd.yn,sm,?_];apply#[_,_,Z,Z,#[by omega,by omega],_,_,Z,Z,.inl #[by omega,by omega],_,Z,_,Z,d2,_,Z,.k (k:=Sum.inr n) e9 (by rw[je,cX];omega),?_];apply#[_,_,Z,gY s9 n2,by rw[aC VL.symm];exact f9,?_];rw[aq,ij hn,Sj (OP Pl.Gd.pB hn)];congr 2;apply JP λm _=>?_;by_cases z:m=n
  ·subst z;simp[uZ]
  simp[z]
 rintro σ H8 ⟨v4,v5,rfl,s8,f8,e8⟩;rw[je,eK] at e8;exact#[_,Z,k d2 H8 s8 n2 e8]
end
end Ev
namespace L2
open PySem PySem.Spec PyProof.Rows
section
variable{M:Model}{A:Ag}{E:Aa->Ab->Prop}{s:Ab}
end
section
variable{X:Cx}{E:XK}
end
section v
section
variable{N:ae}{qual:Str}{scope:Scope}{f:Addr}{cd:Aa}{A:Ag}{outer:List Env}{s:Ab}{H:Hp}{E:XK}
end
end
end L2
namespace L2
open PySem PySem.Spec PySem.Calls PyProof.Rows PySem.W
section
variable{M:Model}{A:Ag}{E:Aa->Ab->Prop}{s:Ab}{base:Heap}{env:Env}{outer:List Env}{L e:Addr}{cls a0:Aa}{Q:Unit->Ab->Prop}
def oQ(h base:Heap)(e:Addr)(cls a0:Aa)(dd:Option Addr):Prop:=∃oe vs T oT ts,h.get? e\oe/\(oe.cls=cls/\vs[0]? = some a0)/\oe.data=Data.fields vs/\vs[1]? = some (Value.ref T)/\base.get? T=none/\T≠e/\h.get? T\oT/\oT.data=Data.fields ts/\ts[3]? = some Value.none/\oe.dict=dd
def xc(base:Heap)(l:List Env)(e:Addr)(cls a0:Aa)(dd:Option Addr)(h:Heap):Prop:=base.StaysIn h/\base.get? e=none/\h.FunFrames base l/\oQ h base e cls a0 dd
theorem pC{oe:Obj}{vs:Array Aa}{head:Aa}{wF:Bool}(FO:A.frames\(env::outer))(hl:s.heap.FunFrames base (env::outer))(hf:env.frame\L)(he:s.heap.get? e\oe)(SH:base.StaysIn s.heap)(hen:base.get? e=none)(hd:oe.data=Data.fields vs)(hsz:1<vs.size)(h0:vs[0]? = some a0)
  (h:∀h',base.StaysIn h'->h'.FunFrames base (env::outer)->oQ h' base e oe.cls a0 oe.dict->s.heap.UpToSlots h'->Q () { s with heap:=h' }) :
  wpAny M A (do
   let a <- PySem.frameOf env
   let pl <- entryPlaceOf L wF
   let b <- EntryCells.newEntry head a Value.none (rawInt L) Value.none pl
   setField (Value.ref e) 1 b) (λ_ s'=>wpAny M A (setFlight (Value.ref e) none) Q E s') E s:=by
 have MJ:e∉List.filterMap (λx=>x.frame) (env::outer):=λhm=>by
  let#[_,o,ho,hnf]:=Heap.FunFrames.mem hl hm;rw[he] at ho;cases ho;exact hnf vs hd
 apply aF (wpAny_frameOf_fun FO hl hf λbW ow=>aF (wpAny_entryPlaceOf λpl jm=>?_));unfold EntryCells.newEntry newFields;have L6:bW.objs.size=s.heap.objs.size:=ow.1;let FQ:=(ow.right.left e MJ).trans he;have dz:∀b o,s.heap.get? b\o->b≠bW.objs.size:=λb o q=>eG (by rw[L6];exact cy q)
 have SZ:base.get? bW.objs.size=none:=by
  cases q:base.get? bW.objs.size with
  |none=>rfl
  |some o=>exact absurd Z (dz _ o (SH _ o q))
 have gR:∀b o,base.get? b\o->bW.get? b\o:=λb o q=>(ow.right.left b (λhm=>by
  have:=(Heap.FunFrames.mem hl hm).1;rw[q] at this;cases this)).trans (SH b o q)
 obtain⟨p_,Cp,IE⟩:∃p_:Array Aa,([head,Value.ref L,Value.none,rawInt ↑L,Value.none]++if pl.isEmpty=true then List.replicate 6 Value.none else pl).toArray=p_/\3<p_.size:=#[_,Z,by simp]
 have E8:p_.size<=sizeLine+2:=by
  rw[<- Cp];rcases jm with rfl|⟨a,b,c,d,c9,oP,_,rfl⟩
  ·show 11<=sizeLine+2;decide
  show 11<=sizeLine+2;decide
 apply aF (vo ?_ (by rw[Cp];exact E8));rw[Cp];have yw:(bW.push { cls:=Value.type "traceback",data:=Data.fields p_ }).get? e\oe:=ck _ FQ;have Fo:(bW.push { cls:=Value.type "traceback",data:=Data.fields p_ }).get? bW.objs.size=some { cls:=Value.type "traceback",data:=Data.fields p_ }:=eQ bW Z;have FY:bW.objs.size≠e:=(dz e oe he).symm;apply wpAny_setField yw hd hsz ?_;let ua:=Obj.data_mapFields hd λx=>x.setIfInBounds 1 (Value.ref bW.objs.size);let yu:=Heap.get?_update_self (Obj.mapFields λx=>x.setIfInBounds 1 (Value.ref bW.objs.size)) yw (Obj.isFreed_of_fields ua);let ym:=(mF (bW.push { cls:=Value.type "traceback",data:=Data.fields p_ }) (Obj.mapFields λx=>x.setIfInBounds 1 (Value.ref bW.objs.size)) FY.symm).trans Fo;unfold setFlight;apply aF (wpAny_field (x:=.ref bW.objs.size) yu ua (by simp[hsz]) ?_);rw[aH Z2];apply wpAny_setField ym Z IE ?_;let yx:=Obj.data_mapFields (o:={ cls:=Value.type "traceback",data:=Data.fields p_ }) Z λx=>x.setIfInBounds 3 Value.none;let Fn:=Heap.get?_update_self (Obj.mapFields λx=>x.setIfInBounds 3 Value.none) ym (Obj.isFreed_of_fields yx);let FP:=(mF ((bW.push { cls:=Value.type "traceback",data:=Data.fields p_ }).update e (Obj.mapFields λx=>x.setIfInBounds 1 (Value.ref bW.objs.size))) (Obj.mapFields λx=>x.setIfInBounds 3 Value.none) FY).trans yu
 have xZ:∀b o,b≠e->b≠bW.objs.size->bW.get? b\o->(((bW.push { cls:=Value.type "traceback",data:=Data.fields p_ }).update e (Obj.mapFields λx=>x.setIfInBounds 1 (Value.ref bW.objs.size))).update bW.objs.size (Obj.mapFields λx=>x.setIfInBounds 3 Value.none)).get? b\o:=λb o n1 n2 q=>
  (mF _ _ n2.symm).trans ((mF _ _ n1.symm).trans (ck _ q))
 have SS:((Obj.mapFields λx=>x.setIfInBounds 1 (Value.ref bW.objs.size)) oe).cls=oe.cls/\((Obj.mapFields λx=>x.setIfInBounds 1 (Value.ref bW.objs.size)) oe).dict=oe.dict:=by
  let#[c,dt,da,sl]:=oe;have:da=Data.fields vs:=hd;subst this;exact#[Z,Z]
 have ups:∀b o,s.heap.get? b\o->(∀vs,o.data≠Data.fields vs)->∃sl,(((bW.push { cls:=Value.type "traceback",data:=Data.fields p_ }).update e (Obj.mapFields λx=>x.setIfInBounds 1 (Value.ref bW.objs.size))).update bW.objs.size (Obj.mapFields λx=>x.setIfInBounds 3 Value.none)).get? b=some { cls:=o.cls,dict:=o.dict,data:=o.data,slots:=sl }:=λb o q nf=>by
  let#[sl,q1]:=ow.right.right b o q;apply#[sl,xZ b _ (λz=>?_) (dz b o q) q1];subst z;rw[he] at q;cases q;exact nf vs hd
 apply h _ (λb o q=>xZ b o (λz=>?_) (λz=>?_) (gR b o q)) (Heap.FunFrames.of_keeps (λb o q nf=>?_) hl) #[_,_,bW.objs.size,_,_,FP,#[SS.1,?_],ua,?_,SZ,FY,Fn,yx,?_,SS.2] ups
 ·subst z;rw[hen] at q;cases q
 ·subst z;rw[SZ] at q;cases q
 ·let#[sl,q1]:=ups b o q nf;exact#[_,q1,Z]
 ·rw[Array.getElem?_setIfInBounds];simpa using h0
 ·simp[hsz]
 simp[IE]
theorem xc.less{dd:Option Addr}{h:Heap}(f:xc base (env::outer) e cls a0 dd h):xc base outer e cls a0 dd h:=#[f.1,f.2.1,f.2.2.1.2.2,f.2.2.2]
theorem em_{dd:Option Addr}(FO:A.frames\(env::outer))(hf:env.frame\L)(wA:xc base (env::outer) e cls a0 dd s.heap)
  (hQ:∀h',xc base (env::outer) e cls a0 dd h'->s.heap.UpToSlots h'->Q () { s with heap:=h' }):wpAny M A (noteFrame (Value.ref e) env) (λ_ hX=>wpAny M A (setFlight (Value.ref e) none) Q E hX) E s:=by
 let#[f1,f2,f3,oe,vs,T,oT,ts,he,#[hc,h0],hd,h1,hnT,FY,hT,MR,h3,AU]:=wA;unfold noteFrame;rw[hf];dsimp only;apply aF (wpAny_field he hd h1 ?_);rw[aH Z2];apply aF (wpAny_field hT MR h3 ?_);rw[aB (by simp[rawInt])];apply aF (wpAny_setField hT MR (Array.getElem?_eq_some_iff.mp h3).1 ?_);have other:∀b,b≠T->(s.heap.update T (Obj.mapFields λx=>x.setIfInBounds 3 Value.none)).get? b=s.heap.get? b:=λb hb=>mF _ _ hb.symm
 have EA:∀b o,s.heap.get? b\o->(∀vs,o.data≠Data.fields vs)->b≠T:=λb o q nf z=>by
  subst z;rw[hT] at q;cases q;exact nf ts MR
 apply pC (base:=base) (s:={ s with heap:=s.heap.update T (Obj.mapFields λx=>x.setIfInBounds 3 Value.none) }) FO (Heap.FunFrames.of_keeps (λb o q nf=>#[o,(other b (EA b o q nf)).trans q,Z]) f3) hf ((other e FY.symm).trans he) (λb o q=>(other b (λz=>?_)).trans (f1 b o q)) f2 hd (Array.getElem?_eq_some_iff.mp h1).1 h0 λh' g1 g2 g3 g4=>?_
 ·subst z;rw[hnT] at q;cases q
 apply hQ h' #[g1,f2,g2,?_] λb o q nf=>g4 b o ((other b (EA b o q nf)).trans q) nf;rw[hc,AU] at g3;exact g3
theorem g9_{dd:Option Addr}(FO:A.frames\(env::outer))(hf:env.frame\L)(wA:xc base (env::outer) e cls a0 dd s.heap)
  (hQ:∀h',xc base outer e cls a0 dd h'->s.heap.UpToSlots h'->Q () { s with heap:=h' }):wpAny M A (leaving env (Value.ref e)) Q E s:=by
 unfold leaving;exact aF (em_ FO hf wA λh' f u=>hQ h' f.less u)
end
end L2
namespace L2
open PySem PySem.Spec PySem.Calls PyProof.Rows PySem.W
section
variable{prog:Ad}{w:Af}{A:Ag}{E:Aa->Ab->Prop}{h:Heap}{g:Array GenState}{d:Drawn}{t:Nat}{os:OsState}{nm q:Str}{C N f:Addr}{bs bm Wa:ak}{MP:Bool}{sn:ae}{sub:ak}{ab:Bool}{col:Option Bool}{dd:Option Addr}{k0 k1 k2 k3 k5:Option Aa}{B newId Aw:String}{K:af}{rest:ak}
end
end L2
namespace L2
open PySem PySem.Spec PySem.Calls PyProof.Rows PySem.W Builtin Builtin.ObjectAttr
def A_(C CE:Addr):ak:=[.ref C,.ref CE,.type "ValueError",.type "Exception",.type "BaseException",.type "object"]
section
variable{prog:Ad}{w:Af}{A:Ag}{E:Aa->Ab->Prop}{s:Ab}{K:af}{x C CE:Addr}{ox:Obj}{od:Option Obj}{name:Str}{tk:Tok}{v:Aa}{cd:ClassData}
end
end L2
namespace L2
open PySem PySem.Spec PySem.Calls PyProof.Rows PySem.W
section
variable{M:Model}{A:Ag}{E:Aa->Ab->Prop}{s:Ab}{env:Env}{nm q:Str}{C N:Addr}{bs bm:ak}{MP:Bool}{sn:ae}{sub:ak}{ab:Bool}{col:Option Bool}{dd:Option Addr}{k0 k1 k2 k3 k5:Option Aa}{newId:String}
end
end L2
namespace L2
open PySem PySem.Spec PySem.Calls PyProof.Rows PySem.W
def Ba(K:af)(C:Addr)(Wa:ak)(newId:String):Bool:=
 match K.lookup C with
 |some ⟨.type "type",_,.cls cd,sl⟩=>
  match cd.mro,sl.toList with
  |.ref C'::bm,[_,_,_,_,some (.builtin n),_]=>C' == C&&n == newId&&!cd.hasDel&&tailIn K Wa bm&&nsOkIn K cd.ns
  |_,_=>false
 |_=>false
def Pa(K:af)(C CE:Addr):Bool:=
 match clsIn K C with
 |some cd=>cd.mro == A_ C CE&&cd.hasDict
 |none=>false
structure ExO (K:af) (C CE:Addr):Prop where
 kx:Qp K C
 ex:Ba K C bmV "ValueError.__new__"=true
 es:findIn K (.ref C) "__setattr__"\some (.builtin "object.__setattr__")
 cl:Pa K C CE=true
structure ExF (K:af) (C:Addr) (f:Str):Prop where
 tk:takerIn K C f\none
 fd:findIn K (.ref C) f\none
structure ExB (K:af) (CE:Addr):Prop where
 sp:specialIn K (.ref CE) "__getattribute__"\some (.builtin "type.__getattribute__")
 rd:readsIn K CE (.type "type")=true
 fc:findCls K (.ref CE) (.type "type") "__init__"\.val (.builtin "ValueError.__init__")
section
variable{P:Ad}{w:Af}{H:Hp}{h:Heap}{e C a0 d:Addr}{dd:Option Addr}{fs:List (Str × V)}
end
section
variable{X:Cx}{C CE:Addr}{x f:Str}{p apos pos pos':Pos}{o e value:Expr}{es:List Expr}{ta tv:TE}{t:TA}
end
end L2
namespace L2
open PySem PySem.Spec PySem.Calls PyProof.Rows PySem.W
def B6(P:Ad)(w:Af):kq:=λl H s E e s'=>
 ∃a cls H' B a0 dd,e=Value.ref a/\s'.os=s.os/\AllBare s'.gens/\Un (gS l) [] H H' s.heap s'.heap/\eU P w H' s'.heap/\xc B l a cls a0 dd s'.heap/\DE B l H' s.heap s'.heap/\E cls dd H'
section
variable{X:Cx}{pins:List (Addr × Obj)}{σ:St}{H H':Hp}{s s1:Ab}{B h:Heap}{a:Addr}{cls a0:Aa}{dd:Option Addr}{E:XK}
theorem fL_(I:Inv X pins σ H s)(hex:X.ex=[])(os:s1.os=s.os)(bare:AllBare s1.gens)(un:Un (gS X.stack) [] H H' s.heap h)(aJ:eU X.prog X.w H' h)(i:DE B X.stack H' s.heap h)(ff:h.FunFrames B X.stack)(up:h.UpToSlots s1.heap)
  (fl:xc B X.outer a cls a0 dd s1.heap) (hE:E cls dd H'):B6 X.prog X.w X.outer X.jf X.cO E (.ref a) s1:=by
 let Xl:=jc_ un ff i fl.1 up;let Me:=hF_ aJ (iD_ I un) i fl.1;have I1:Inv X pins σ H' s1:=I.yS os Xl Me bare (λb z=>absurd z Z2);let bs:=I1.base;rw[hex] at bs;apply#[a,cls,H',B,a0,dd,Z,I1.os,I1.bare,bs,I1.aJ,fl,λb o e hb c=>?_,hE]
 have nL:b≠X.env.locals:=by
  rcases c with z|⟨o0,z⟩
  ·intro q;rw[q,I1.free] at z;cases z
  exact eG (jb (cy z) I.ok.above)
 apply i3_ aJ un i fl.1 b o e (λhm=>?_) (c.imp id λ⟨o0,z⟩=>I.base.there b o0 z (by rw[hex];simp));rcases cw.mp (I.iO b hm) with z|z
 ·exact nL z
 exact hb z
end
section
variable{P:Ad}{w:Af}{K:af}{mg:Str->Option Aa}{base:Heap}{N:ae}{qual:Str}{scope:Scope}{f:Addr}{cd:Aa}{A:Ag}{outer:List Env}{s:Ab}{H:Hp}{E:XK}
end
section
variable{X:Cx}{x:Str}{C f:Addr}{fd:Ae}{ps:ae}{sp:Sp}{k:Nat}{np cE pos:Pos}{e:Expr}{es:List Expr}{t:TA}{E:XK}
end
end L2
namespace L2
open PySem PySem.Spec PySem.Calls PyProof.Rows PySem.W
section
variable{X:Cx}{i:Nat}{x n:Str}{D C:Addr}{np AE pos:Pos}{BJ:Stmt}{qX body:List Stmt}{tb:XK->TS}{ts:TS}{rest:List ExceptHandler}
end
end L2
namespace L2
open PySem PySem.Spec PySem.Calls PyProof.Rows PySem.W
section
variable{P:Ad}{w:Af}{K:af}{mg:Str->Option Aa}{base:Heap}{N:ae}{qual:Str}{scope:Scope}{f:Addr}{cd:Aa}{A:Ag}{outer:List Env}{s:Ab}{H:Hp}{E:XK}
end
section
variable{X:Cx}{i:Nat}{x x2 n:Str}{D C D2 C2:Addr}{np AE Lq Su pos:Pos}{BJ c₀:Stmt}{qX KY body:List Stmt}{tb:XK->TS}{ts ts2:TS}
end
section
variable{X:Cx}
end
end L2
namespace L2
open PySem PySem.Spec PySem.Calls PyProof.Rows PySem.W
section
variable{X:Cx}{i:Nat}{x n:Str}{D:Addr}{ok:Addr->Prop}{np AE pos:Pos}{BJ:Stmt}{qX body:List Stmt}{tb:XK->TS}{ts:TS}
end
end L2
namespace L2
open PySem PySem.Spec PySem.Calls PyProof.Rows PySem.W
end L2
namespace L2
open PySem PySem.Spec PyProof.Rows
section
variable{X:Cx}
end
section
variable{X:Cx}{k:Nat}{ps:ae}{x:Str}{p pos:Pos}{e:Expr}{es:List Expr}{tn:TE}{t:TA}
end
end L2
namespace L2
open PySem PySem.Spec PyProof.Rows PySem.W
structure GH (ps cQ:ae) (scope:Scope):Prop where
 nd:(ps++cQ).Nodup
 kind:scope.kind=.function
 co:scope.isCoroutine=false
 gen:scope.isGenerator=false
 par:∀p∈ps,scope.names.lookup p\.local
 fv:∀x∈cQ,scope.names.lookup x\.free
 all:∀x,scope.names.lookup x\.free->x∈cQ
 tK:∀x∈scope.names,x.2≠.cell
def CU(CX:kq)(P:Ad)(w:Af)(K:af)(mg:Str->Option Aa)(base:Heap)(N:ae)(qual:Str)(scope:Scope)(f:Addr)(cd:Aa)(cl:List (Str × Addr))(A:Ag)(outer:List Env)(s:Ab)(H:Hp)(E:XK):Cx where
 prog:=P
 w:=w
 K:=K
 mg:=mg
 base:=base
 A:=A.deeper (envX qual scope s.heap.objs.size f cd cl)
 N:=N
 cO:=s
 jf:=H
 env:=envX qual scope s.heap.objs.size f cd cl
 outer:=outer
 stack:=envX qual scope s.heap.objs.size f cd cl::outer
 ex:=[]
 calm:=true
 fn:=λ_=>false
 pn:=[]
 xe:=λe s'=>wpAny (model P w) (A.deeper (envX qual scope s.heap.objs.size f cd cl)) (leaving (envX qual scope s.heap.objs.size f cd cl) e) (λ_ qb=>CX outer H s E e qb) (λe' qb=>CX outer H s E e' qb) s'
theorem VC{x:Str}{u:Aa}:∀{l:List (Str × Aa)},(l.map (·.1)).Nodup->(x,u)∈l->l.lookup x\u
 |(y,v)::l,nd,h=>by
  let n:=mL.mp nd;rcases cw.mp h with e|h
  ·cases e;simp[List.lookup]
  have ne:x≠y:=λz=>n.1 (by rw[<- z];exact bH.mpr #[_,h,Z]);have:(x == y)=false:=⇑ne
  rw[uE,this];exact VC n.2 h
theorem SY:∀(ps:ae) (us:ak),((ps.zip us).map (·.1)).Sublist ps
 |[],_=>by simp
 |_::_,[]=>by simp
 |p::ps,u::us=>by
  simp only[List.zip_cons_cons,fE];exact (SY ps us).cons₂ p
theorem dc_{ps:ae}{us:ak}{i:Nat}{x:Str}{u:Aa}(nd:ps.Nodup)(h1:ps[i]? = some x)(h2:us[i]? = some u):(ps.zip us).reverse.lookup x\u:=by
 apply VC ?_ (List.mem_reverse.mpr (dC (i:=i) ?_))
 ·rw[List.map_reverse];apply (List.reverse_perm _).nodup_iff.mpr (nd.sublist ?_);exact SY ps us
 rw[List.getElem?_zip_eq_some];exact#[h1,h2]
structure J1 (cQ:ae) (cl:List (Str × Addr)) (gs:ag) (h:Heap):Prop where
 inj:∀x y c,cl.lookup x\c->cl.lookup y\c->x=y
 has:∀x∈cQ,∃c,cl.lookup x\c
 all:∀x c,cl.lookup x\c->∃v,h.IsCell c v
 is:∀(i:Nat) x v,cQ[i]? = some x->gs[i]? = some v->∃c u,cl.lookup x\c/\RelV v u/\h.IsCell c (some u)
theorem IsCell.keeps{h h':Heap}{c:Addr}{v:Option Aa}(x:h.IsCell c v)(k:∀o,h.get? c\o->h'.get? c\o):h'.IsCell c v:=let #[o,e,d]:=x;#[o,k o e,d]
theorem k4_{CX:kq}{P:Ad}{w:Af}{K:af}{mg:Str->Option Aa}{base:Heap}{ps cQ:ae}{qual:Str}{scope:Scope}{f:Addr}{cd:Aa}{cl:List (Str × Addr)}{A:Ag}{outer:List Env}{s:Ab}{H:Hp}{E:XK}{us:ak}{vs gs:ag}{h1:Heap}{tk:Nat}
  (S:GH ps cQ scope) (hd:A.handled=none) (e0:ik P w K mg base A outer s H) (hl:vs.length=ps.length) (hg:gs.length=cQ.length) (r:Vals vs us) (C:J1 cQ cl gs s.heap) (fc:∀x c,cl.lookup x\c->H c=none)
  (ns:h1.Ns s.heap.objs.size λx=>(ps.zip us).reverse.lookup x) (k:∀b o,s.heap.get? b\o->h1.get? b\o) :
  Inv (CU CX P w K mg base (ps++cQ) qual scope f cd cl A outer s H E) [] (vs.map some++gs.map some) H { s with heap:=h1,toks:=tk }:=by
 have wd:∀b:Addr,b∉(CU CX P w K mg base (ps++cQ) qual scope f cd cl A outer s H E).ex:=λb z=>absurd (show b∈([]:ai) from z) Z2
 apply#[#[e0.mod,S.kind,Z,Z,bj _,C.inj,λy hy=>?_,λy c h=>(by cases h),λ_=>hd,Around.frames_deeper e0.frames,.inr #[Z,Z],λb z=>absurd z (wd b),e0.bs,e0.uz,λb _ _=>wd b,λb z=>absurd z (wd b),e0.fM,e0.wH],
  rfl,e0.bare,Un.kept k,#[_,ns,λi y v oG h2 h3=>?_],λy c h=>?_,e0.aJ.fresh (bj _),fc,λp hp=>absurd (show p∈([]:List (Addr × Obj)) from hp) Z2,e0.aJ.kept k,?_]
 ·have hy:scope.names.lookup y\.cell∨scope.names.lookup y\.free:=hy;rcases hy with hy|hy
  ·exact absurd Z (S.tK _ (pT hy))
  exact C.has y (S.all y hy)
 ·have oG:(ps++cQ)[i]? = some y:=oG;by_cases hi:i<ps.length
  ·rw[zj hi] at oG;rw[zj (by simpa [hl] using hi),cY] at h2;let#[v',hv,e]:=Option.map_eq_some_iff.mp h2;cases e;let#[u,hu,rv]:=r.get hv;apply#[u,rv,.inl #[S.par y (dC oG),?_]];have Ip:ps.Nodup:=(ze.mp S.nd).1;show (ps.zip us).reverse.lookup y\u;exact dc_ Ip oG hu
  rw[xp Z1] at oG;rw[xp (by simp[hl];omega),cY,au,hl] at h2;let#[v',hv,e]:=Option.map_eq_some_iff.mp h2;cases e;let#[c,u,e1,rv,ce]:=C.is _ _ _ oG hv;exact#[u,rv,.inr #[.inr (S.fv y (dC oG)),c,e1,IsCell.keeps ce λo e=>k _ _ e]]
 ·let#[v,ce]:=C.all y c h;exact#[v,IsCell.keeps ce λo e=>k _ _ e]
 show _=(ps++cQ).length;rw[dM,dM,au,au,hl,hg]
theorem _M{CX:kq}{P:Ad}{w:Af}{K:af}{mg:Str->Option Aa}{base:Heap}{k:Nat}{ps cQ:ae}{qual:Str}{params:Arguments}{body:PySem.Expr}{scope:Scope}{f c':Addr}{pm j3:Aa}{cl:List (Str × Addr)}{A:Ag}{outer:List Env}{s:Ab}{H:Hp}{Q:VK}{E:XK}{us:ak}{vs gs:ag}{t:TE}
  (S:GH ps cQ scope) (hr:bc (k+1) A) (e0:ik P w K mg base A outer s H) (hf:s.heap.get? f\kla_obj "<lambda>" qual params body scope cl pm c' j3) (gQ:s.heap.CodeRec (.ref c') qual)
  (hb:bindArgs (kla_fn "<lambda>" qual params body scope cl pm (.ref c') j3) #[us,[]]=pure (ps.zip us)) (hl:vs.length=ps.length) (hg:gs.length=cQ.length) (r:Vals vs us) (C:J1 cQ cl gs s.heap) (fc:∀x c,cl.lookup x\c->H c=none)
  (ht:bc k (A.deeper (envX qual scope s.heap.objs.size f (.ref c') cl))->PE (CU CX P w K mg base (ps++cQ) qual scope f (.ref c') cl A outer s H E) body t) (hq:t (vs.map some++gs.map some) H Q) :
  codeAny (model P w) A (.call (.ref f) #[us,[]]) (CR CX outer P w H s Q E) s:=by
 have lim:s.heap.NoLimit:=e0.mod.nolimit.keeps λb o e=>(e0.bs b o e).1;apply kla_callFunE hr.depth hf Z S.co S.gen Z gQ ?_;rw[hb];apply bA (wpAny_newFunctionEnv S.tK (λx hx=>?_) (λh1 ns sb=>?_) S.kind)
 ·exact S.par x.1 (List.of_mem_zip hx).1
 have k1:∀b o,s.heap.get? b\o->h1.get? b\o:=λb o e=>sb.extBut b o (eG (cy e)) (ck _ e);apply#[lim.keeps k1,?_];show codeAny _ _ (.expr body (envX qual scope s.heap.objs.size f (.ref c') cl)) _ _;let I:=k4_ (CX:=CX) (qual:=qual) (f:=f) (cd:=.ref c') (E:=E) (tk:=s.toks+(ps.zip us).length) S hr.hd e0 hl hg r C fc ns k1;apply kla_codeExpr (wpAny_mono (ht (hr.deeper _) [] _ _ H _ I hq) (λv s' hs=>?_) λe s' hs=>hs);let#[x,H',J,rv,q]:=hs;exact#[x,H',J.os,J.bare,J.base,J.aJ,rv,q]
end L2
namespace L2
open PySem PySem.Spec PyProof.Rows PySem.W
def jT(f:Addr)(qual:Str)(params:Arguments)(body:PySem.Expr)(scope:Scope)(cl:List (Str × Addr))(c':Addr):HO:=.ext λh=>∃pm j3,h.get? f\kla_obj "<lambda>" qual params body scope cl pm c' j3
def Bk(c':Addr)(qual:Str):HO:=.ext λh=>∃o vs t,h.get? c'\o/\o.data=.fields vs/\vs[1]? = some (.str qual t)
inductive xF (P:Addr) (qual:Str) (params:Arguments) (body:PySem.Expr) (scope:Scope) (pos:Pos) (cl:List (Str × Addr)) (H:Hp) (Q:VK):Prop
 |mk:∀ps,H P\.tbl ps->TriplesOk ps.toList->((codeAmong pos ps.toList=none/\∀c' f,H c'=none->H f=none->c'≠f->Q (.ref f) (upd (upd (upd H P (.tbl (ps++(List.toArray [rawInt pos.line,rawInt pos.col,.ref c'])))) c' (Bk c' qual)) f (jT f qual params body scope cl c')))∨∃c',codeAmong pos ps.toList\.ref c'/\∀f,H f=none->Q (.ref f) (upd H f (jT f qual params body scope cl c')))->xF P qual params body scope pos cl H Q
def DZ(P:Addr)(qual:Str)(params:Arguments)(body:PySem.Expr)(scope:Scope)(pos:Pos)(cl:List (Str × Addr)):TE:=λ_ H Q=>xF P qual params body scope pos cl H Q
theorem RW{X:Cx}{params:Arguments}{body:PySem.Expr}{scope:Scope}{pos:Pos}{cl:List (Str × Addr)}{c P:Addr}(MO:defaultsOf params X.env=([],[]))(wD:closureFor scope X.env=pure cl)(yy:X.env.code=.ref c)(C:CodeHd X.base c P)(ue:X.base.BuiltinsAt X.mg P) :
  PE X (.Lambda params body scope pos) (DZ P (X.env.qual++"<lambda>") params body scope pos cl):=by
 intro pins s σ H Q I h;let#[ps,hP,ht,h]:=h;have Te:s.heap.get? P\tabObj ps:=I.aJ P _ hP
 have SN:H mainGlobals=none:=by
  let#[o,_,_,e,_]:=I.mod.glob;exact (I.bs _ _ e).2
 apply kla_eval MO ?_;rcases h with⟨hn,q⟩|⟨c',hf,q⟩
 ·apply kla_makeFunction wD I.ok.glob (I.mod.glob.keeps I.bk) yy (C.keeps I.bk) Te ht hn (λz=>by rw[z,hP] at SN;cases SN) (ue.keeps I.bk) λc' j3 h' tk hx ME dz L9 Cp=>?_;have fz:s.heap.objs.size<=h'.objs.size:=pX ME (Nat.le_of_lt dz);have nc:H c'=none:=I.aJ.fresh ME;have nf:H h'.objs.size=none:=I.aJ.fresh fz;have cf:c'≠h'.objs.size:=eG dz;have Pc:P≠c':=bw hP nc;have Pf:P≠h'.objs.size:=bw hP nf
  have old:∀{b u},H b\u->b≠P->upd (upd (upd H P (.tbl (ps++(List.toArray [rawInt pos.line,rawInt pos.col,.ref c'])))) c' (Bk c' (X.env.qual++"<lambda>"))) h'.objs.size (jT h'.objs.size (X.env.qual++"<lambda>") params body scope cl c') b\u:=λ{b u} e n=>by
   rw[aC (bw e nf),aC (bw e nc),aC n];exact e
  have tF:∀{b u},H b\u->(∀ps,u≠.tbl ps)->b≠P:=λ{b u} e n z=>by
   rw[z,hP] at e;cases e;exact n _ Z
  have kp:∀b o,b≠P->s.heap.get? b\o->(h'.push (kla_obj "<lambda>" (X.env.qual++"<lambda>") params body scope cl ((X.mg "__name__").getD .none) c' j3)).get? b\o:=λb o n e=>ck _ (hx b o n e);apply#[.ref h'.objs.size,_,I.un (t':=tk) #[λb o e n _ _=>kp b o (λz=>by rw[z,hP] at n;cases n) e,λb o e n _ _=>#[o.slots,kp b o (λz=>by rw[z,hP] at n;cases n) e],λb o e n _=>?_,λb o e _=>?_,λb xs e=>old e (tF e Z2),λb o u e=>old e (tF e Z2),λb qs e=>?_] (λb u e=>?_),Z,q c' h'.objs.size nc nf cf]
  ·let lt:=cy e;rw[aC (eG (jb lt fz)),aC (eG (jb lt ME)),aC (λz=>by rw[z,hP] at n;cases n)];exact n
  ·by_cases z:b=P
   ·subst z;exact#[_,ck _ Cp]
   exact#[o,kp b o z e]
  ·by_cases z:b=P
   ·subst z;rw[hP] at e;cases e;exact#[_,by rw[aC Pf,aC Pc,aq]]
   exact#[#[],by rw[Array.append_empty];exact old e z]
  by_cases z1:b=h'.objs.size
  ·subst z1;rw[aq] at e;cases e;exact#[#[_,_,eQ _ Z],#[_,eQ _ Z],λh1 h2 ⟨pm,cv,e1⟩ k=>#[pm,cv,k _ e1]]
  rw[aC z1] at e;by_cases z2:b=c'
  ·subst z2;rw[aq] at e;cases e;let#[c2,oc,vs,t,ec,Fm,hd,hv]:=L9;cases ec;exact#[#[oc,vs,t,ck _ Fm,hd,hv],#[_,ck _ Fm],λh1 h2 ⟨o,vs,t,e1,r⟩ k=>#[o,vs,t,k _ e1,r]]
  rw[aC z2] at e;by_cases z3:b=P
  ·subst z3;rw[aq] at e;cases e;exact ck _ Cp
  rw[aC z3] at e;apply (I.aJ b u e).eA (λd v hd e1=>kp d v ?_ e1) (λd e1=>old e1 (tF e1 Z2)) λd xs e1=>old e1 (tF e1 Z2);rcases hd with rfl|hd
  ·exact z3
  exact tF hd Z2
 apply kla_makeFunctionHit wD I.ok.glob (I.mod.glob.keeps I.bk) yy (C.keeps I.bk) Te ht hf (ue.keeps I.bk) λj3 h' tk hk hsz=>?_;have nf:H h'.objs.size=none:=I.aJ.fresh hsz;apply#[.ref h'.objs.size,_,I.laid (t':=tk) (λb o e=>ck _ (hk b o e)) hsz ?_,Z,q _ nf];exact#[#[_,_,eQ _ Z],#[_,eQ _ Z],λh1 h2 ⟨pm,cv,e1⟩ k=>#[pm,cv,k _ e1]]
end L2
namespace L2
open PySem PySem.Spec PyProof.Rows PySem.W
theorem wa{P:Ad}{w:Af}{K:af}{mg:Str->Option Aa}{base:Heap}{N:ae}{qual:Str}{scope:Scope}{f:Addr}{cd:Aa}{cl:List (Str × Addr)}{A:Ag}{outer:List Env}{s:Ab}{H:Hp}{E:XK}:wW (B6 P w) (CU (B6 P w) P w K mg base N qual scope f cd cl A outer s H E) E:=by
 intro pins σ H1 s1 e s' I hc;let#[a,cls,H',B,a0,dd,rfl,os,bare,un,aJ,fl,i,hE]:=hc;apply g9_ (base:=B) I.ok.frames Z fl λh1 fl1 up=>?_;exact fL_ (s1:={ s' with heap:=h1 }) I Z os bare un aJ i fl.2.2.1 up fl1 hE
section
variable{cs:List (Addr × Obj)}{H H':Hp}{b:Addr}{o:Obj}{u:HO}
variable{P:Ad}{w:Af}{h:Heap}
end
section
variable{X:Cx}{pins:List (Addr × Obj)}{σ:St}{H:Hp}{s s':Ab}{cs:List (Addr × Obj)}
def iK(P:Ad)(w:Af)(K:af)(mg:Str->Option Aa)(base:Heap)(k:Nat)(qual:Str)(params:Arguments)(body:PySem.Expr)(scope:Scope)(ps cQ:ae)(sp:ag->ag->Hp->VK->XK->Prop):Prop:=
 ∀(A:Ag) (outer:List Env) (s:Ab) (H:Hp) (f c':Addr) (pm j3:Aa) (cl:List (Str × Addr)) (us:ak) (vs gs:ag) (Q:VK) (E:XK),bc k A->ik P w K mg base A outer s H->s.heap.get? f\kla_obj "<lambda>" qual params body scope cl pm c' j3->s.heap.CodeRec (.ref c') qual->
  vs.length=ps.length->gs.length=cQ.length->Vals vs us->J1 cQ cl gs s.heap->(∀x c,cl.lookup x\c->H c=none)->sp vs gs H Q E->codeAny (model P w) A (.call (.ref f) #[us,[]]) (CR (B6 P w) outer P w H s Q E) s
theorem yd{P:Ad}{w:Af}{K:af}{mg:Str->Option Aa}{base:Heap}{k:Nat}{qual:Str}{params:Arguments}{body:PySem.Expr}{scope:Scope}{ps cQ:ae}{sp:ag->ag->Hp->VK->XK->Prop}(S:GH ps cQ scope)
  (hb:∀pm c' j3 cl us,us.length=ps.length->bindArgs (kla_fn "<lambda>" qual params body scope cl pm (.ref c') j3) #[us,[]]=pure (ps.zip us))
  (fL:∀(A:Ag) (outer:List Env) (s:Ab) (H:Hp) (f:Addr) (cd:Aa) (cl:List (Str × Addr)) (vs gs:ag) (Q:VK) (E:XK),bc k (A.deeper (envX qual scope s.heap.objs.size f cd cl))->sp vs gs H Q E->wW (B6 P w) (CU (B6 P w) P w K mg base (ps++cQ) qual scope f cd cl A outer s H E) E->
   ∃t,PE (CU (B6 P w) P w K mg base (ps++cQ) qual scope f cd cl A outer s H E) body t/\t (vs.map some++gs.map some) H Q):!iK (k+1) qual params body scope ps cQ sp:=by
 intro A outer s H f c' pm j3 cl us vs gs Q E hr e0 hf gQ hl hg r C fc kA;let#[t,ht,hq]:=fL A outer s H f (.ref c') cl vs gs Q E (hr.deeper _) kA wa;exact _M S hr e0 hf gQ (hb pm c' j3 cl us (by rw[<- r.length];exact hl)) hl hg r C fc (λ_=>ht) hq
end
end L2
namespace L2
open PySem PySem.Spec PyProof.Rows PySem.W
structure Kp (cQ:ae) (cl:List (Str × Addr)) (cs:List (Addr × Obj)) (gs:ag):Prop where
 len:gs.length=cQ.length
 inj:∀x y c,cl.lookup x\c->cl.lookup y\c->x=y
 has:∀x∈cQ,∃c,cl.lookup x\c
 all:∀x c,cl.lookup x\c->∃o v,cs.lookup c\o/\o.data=.cell v
 is:∀(i:Nat) x v,cQ[i]? = some x->gs[i]? = some v->∃c o u,cl.lookup x\c/\cs.lookup c\o/\o.data=.cell (some u)/\RelV v u
section
variable{X:Cx}{k:Nat}{x:Str}{p pos:Pos}{tn:TE}{qual:Str}{params:Arguments}{body:PySem.Expr}{scope:Scope}{cQ ps:ae}{Q6:ag->ag->Hp->VK->XK->Prop}{E:XK}
end
section
variable{X:Cx}{k:Nat}{x:Str}{p pos:Pos}{e:PySem.Expr}{es:List PySem.Expr}{ta:TA}{cQ ps:ae}{sp:Sp}{f:Addr}{fd:Ae}{cl:List (Str × Addr)}{is:List Nat}
end
end L2
namespace L2
open PySem PySem.Spec PyProof.Rows PySem.W
theorem hM_{P:Ad}{w:Af}{K:af}{mg mb:Str->Option Aa}{CX:kq}{k:Nat}{fa a:Addr}{ts:ai}{fd:Ae}{x:Str}{sp:Sp}{aV:Ab}{vs:ak}{ns:List Int}
  (hT:∀T∈ts,K.lookup T=none) (eT:∀T∈ts,aV.heap.get? T\tabObj #[]) (FU:∀T∈ts,isCodeTable aV.heap T)
  (KX:K.In aV.heap) (AJ:aV.heap.Ns mainGlobals mg) (hb:aV.heap.Ns builtinsNs mb) (hbb:∀x:Str,x≠"__name__"->mb x=bootBuiltins x) (Mt:aV.heap.NoLimit) (hg:aV.gens=#[])
  (ha:aV.heap.get? a=some { cls:=.type "list",data:=.seq vs.toArray }) (hi:IntsAre vs ns) (hl:ns.length<=sizeLine) (hr:bc k callerA)
  (ue:∃bm ob,mg "__builtins__"\.ref bm/\bm≠builtinsNs/\aV.heap.get? bm\ob/\ob.cls=.type "module"/\ob.dict\builtinsNs/\ob.data=.plain)
  (F:∀base:Heap,K.In base->base.Ns mainGlobals mg->(∀T∈ts,base.BuiltinsAt mg T)->!aj CX k fa fd [x] sp) (FV:∀(s:Ab) (u:Aa),BindsTo s fd #[[u],[]] [(x,u)])
  (kA:∀H:Hp,(∀T∈ts,H T\.tbl #[])->dJ K H a (ns.map V.int)->sp [.ref a] H (λv _=>v=.bl true) λ_ _ _=>False)
  (M5:∀H e s',CX [] H aV (λ_ _ _=>False) e s'->False) :
  codeAny (model P w) callerA (.call (.ref fa) #[[.ref a],[]]) (λr s'=>r=.ok (.ret (.bool true))/\OldK aV.heap s'.heap/\s'.os=aV.os/\AllBare s'.gens) aV:=by
 let rv:=U6 hi;let LO:=hi.length
 have aT:∀{b},b∈ts->b≠a:=λ{b} hb z=>by
  have:=eT b hb;rw[z,ha] at this;cases this
 have core:∀H:Hp,(∀b,H b=none∨(b∈ts/\H b\.tbl #[])∨(b∉ts/\∃o xs,H b\.frz o (.lst xs)))->(∀T∈ts,H T\.tbl #[])->dJ K H a (ns.map V.int)->eU P w H aV.heap->(∀b,H b≠none->b=a∨b∈ts)->(H a≠none->K.lookup a=none)->
   codeAny (model P w) callerA (.call (.ref fa) #[[.ref a],[]]) (λr s'=>r=.ok (.ret (.bool true))/\OldK aV.heap s'.heap/\s'.os=aV.os/\AllBare s'.gens) aV:=by
  intro H hO hHT hS aJ hA hK;have i_:∀{b:Addr} {o:Obj},aV.heap.get? b\o->H b=none->(ia aV.heap H).get? b\o:=λe n=>iE_ e n
  have wd:∀{b:Addr} {o:Obj} {es:Array DictEntry} {ep:Nat},aV.heap.get? b\o->o.data=.dict es ep->H b=none:=λ{b o es ep} e d=>by
   cases q:H b with
   |none=>rfl
   |some u=>
    rcases hA b (by rw[q];simp) with e'|e'
    ·subst e';rw[ha] at e;cases e;have d':Data.seq vs.toArray _=Data.dict es ep:=d;cases d'
    rw[eT b e'] at e;cases e;cases d
  have Ik:∀{b:Addr} {m:Str->Option Aa},aV.heap.Ns b m->(ia aV.heap H).Ns b m:=λ{b m} ⟨o,es,ep,e,d,r⟩=>#[o,es,ep,i_ e (wd e d),d,r]
  have Th:K.In (ia aV.heap H):=λb o e=>i_ (KX b o e) (by
   cases q:H b with
   |none=>rfl
   |some u=>
    rcases hA b (by rw[q];simp) with e'|e'
    ·subst e';rw[hK (by rw[q];simp)] at e;cases e
    rw[hT b e'] at e;cases e)
  have hB:∀T∈ts,(ia aV.heap H).BuiltinsAt mg T:=λT MY=>by
   let#[bm,ob,h1,h2,h3,h4,h5,h6]:=ue
   have n1:bm≠mainGlobals:=λz=>by
    let#[o,es,ep,e,d,_]:=AJ;rw[z,e] at h3;cases h3;rw[d] at h6;cases h6
   have n2:∀{b},b∈ts->bm≠b:=λ{b} hb z=>by
    rw[z,eT b hb] at h3;cases h3;cases h6
   apply#[bm,ob,h1,h2,n1,n2 MY,i_ h3 ?_,h4,h5,h6];cases q:H bm with
   |none=>rfl
   |some u=>
    rcases hA bm (by rw[q];simp) with e'|e'
    ·subst e';rw[ha] at h3;cases h3;cases h6
    exact absurd Z (n2 e')
  have hM:Mod K mg (ia aV.heap H):=#[Th,Ik AJ,#[mb,Ik hb,hbb],let #[mc,h1,h2]:=Mt;#[mc,Ik h1,h2]];have e0:ik P w K mg (ia aV.heap H) callerA [] aV H:=#[Z,hM,λb o e=>jP_ e,Nat.le_of_eq (gm_ _ _),trivial,λb hb=>absurd (show b∈([]:ai) from hb) Z2,aJ,.of_eq hg];apply codeAny_mono ((F _ Th (Ik AJ) hB).run callerA [] aV H #[[.ref a],[]] [.ref a] [.ref a] _ _ hr e0 (FV aV (.ref a)) (.cons Z .nil) (kA H hHT hS)) λr s' h=>?_;cases r with
  |error e=>exact (M5 H e s' h).elim
  |ok fl=>
   cases fl with
   |next=>exact False.elim h
   |brk=>exact False.elim h
   |cont=>exact False.elim h
   |ret u=>
    let#[v,H',os,bare,un,Fk,r',q]:=h;have q':v=.bl true:=q;subst q';obtain rfl:u=Value.bool true:=r'
    have main:∀b o,aV.heap.get? b\o->s'.heap.get? b\o∨(b∈ts/\o=tabObj #[]/\∃more,s'.heap.get? b\tabObj (#[]++more)):=λb o e=>by
     cases q:H b with
     |none=>exact .inl (un.keep b o e q (by intro z;exact absurd (show b∈([]:ai) from z) Z2) Z2)
     |some u=>
      rcases hO b with z|⟨zT,z⟩|⟨_,ob,xs,z⟩
      ·rw[q] at z;cases z
      ·rw[eT b zT] at e;cases e;let#[more,z]:=un.gf b _ z;exact .inr #[zT,Z,more,Fk b _ z]
      let z2:=un.fN b ob _ z;let#[e1,_]:=aJ b _ z;let#[e2,_]:=Fk b _ z2;rw[e] at e1;cases e1;exact .inl e2
    apply#[Z,#[λb o e=>?_,λb o e=>?_],os,bare]
    ·rcases main b o e with z|⟨zT,rfl,more,z⟩
     ·exact .inl z
     exact .inr (.inl #[FU b zT,Z,_,_,Z,z])
    rcases main b o e with z|⟨_,_,more,z⟩
    ·exact#[_,z]
    exact#[_,z]
 cases hk:K.lookup a with
 |some o=>
  let e:=KX a o hk;rw[ha] at e;cases e;apply core (λb=>if b∈ts then some (.tbl #[]) else none) (λb=>?_) (λT h=>aH h) (.inr #[_,vs.toArray,_,hk,Z,Z,Z,by rw[cK,LO];exact hl,by simpa using rv]) (λb u z=>?_) (λb z=>?_) λz=>absurd (aB λq=>aT q Z) z
  ·by_cases hb:b∈ts
   ·exact .inr (.inl #[hb,aH hb])
   exact .inl (aB hb)
  ·by_cases hb:b∈ts
   ·let z':=(aH hb).symm.trans z;cases z';exact eT b hb
   let z':=(aB hb).symm.trans z;cases z'
  ·by_cases hb:b∈ts
   ·exact .inr hb
   ·exact absurd (aB hb) z
 |none=>
  have T2:∀{b:Addr},b∈ts->(λb=>if b∈ts then some (.tbl #[]) else if b=a then some (HO.frz { cls:=.type "list",data:=.seq vs.toArray } (.lst (ns.map V.int))) else none) b\.tbl #[]:=λ{b} hb=>aH hb;apply core (λb=>if b∈ts then some (.tbl #[]) else if b=a then some (.frz { cls:=.type "list",data:=.seq vs.toArray } (.lst (ns.map V.int))) else none) (λb=>?_) (λT h=>aH h) (.inl (.inr #[{ cls:=.type "list",data:=.seq vs.toArray },(aB λq=>aT q Z).trans (aH Z)])) (λb u z=>?_) (λb z=>?_) λ_=>hk
  ·by_cases oC:b∈ts
   ·exact .inr (.inl #[oC,aH oC])
   by_cases hb:b=a
   ·exact .inr (.inr #[oC,_,_,(aB oC).trans (aH hb)])
   exact .inl ((aB oC).trans (aB hb))
  ·by_cases oC:b∈ts
   ·let z':=(aH oC).symm.trans z;cases z';exact eT b oC
   by_cases hb:b=a
   ·let z':=((aB oC).trans (aH hb)).symm.trans z;cases z';subst hb;exact#[ha,by rw[au];exact hl,vs,_,rv,ha]
   let z':=((aB oC).trans (aB hb)).symm.trans z;cases z'
  by_cases oC:b∈ts
  ·exact .inr oC
  by_cases hb:b=a
  ·exact .inl hb
  exact absurd ((aB oC).trans (aB hb)) z
theorem fN_{K:af}{T:Addr}(h:T∉K.map (·.1)):K.lookup T=none:=by
 induction K with
 |nil=>rfl
 |cons p K ih=>
  let#[b,o]:=p;simp only[fE,cw,not_or] at h;rw[uE,show (T == b)=false by simpa using h.1];exact ih h.2
theorem qI{l:PySem.W.OpenLaw}{n k:Nat}{q:Ad}{loose:ae}{XP:(Str->Option Aa)->Heap->Prop}{d:DefRec}{K:Params->af}{as ts:ai}{Jn:∀P:Params,as=(K P).map (·.1)}{CX:Af->kq}{sp:Af->Sp}{x:Str}
  (hn:l.most\n) (yo:n<=sizeLine) (ub:d.params.defaults=[]) (hr:bc k callerA)
  (E8:(ts.all λT=>!as.contains T)=true)
  (F:∀(w:Af) (mg:Str->Option Aa) (fa:Addr) (h:Heap),(K w.params).In h->h.Ns mainGlobals mg->mg d.name\.ref fa->
   ∃fd:Ae,(∀(s:Ab) (u:Aa),BindsTo s fd #[[u],[]] [(x,u)])/\(∀T∈ts,isCodeTable h T) /\
    ∀base:Heap,(K w.params).In base->base.Ns mainGlobals mg->(∀T∈ts,base.BuiltinsAt mg T)->aj l.prog w (K w.params) mg base (CX w) k fa fd [x] (sp w))
  (kA:∀(w:Af) (H:Hp) (a:Addr) (ns:List Int),ns.length<=n->(∀T∈ts,H T\.tbl #[])->dJ (K w.params) H a (ns.map V.int)->sp w [.ref a] H (λv _=>v=.bl true) λ_ _ _=>False)
  (M5:∀(w:Af) (H:Hp) (s:Ab) (e:Aa) (s':Ab),CX w [] H s (λ_ _ _=>False) e s'->False) :
  PySem.W.WalkO q loose XP (kmHook K as Jn ts).says l.row.toRowW d [] (λf vs=>PySem.call f vs):=by
 apply Wq.j8 hn ub λw cO aV mg mb fa o pm cd doc a vs ns G Y ho hd gQ hmg AH hints hlen hg=>?_;have KX:(K w.params).In aV.heap:=km_in_of Y;have eT:∀T∈ts,aV.heap.get? T\tabObj #[]:=Y.2;let#[fd,hb,FU,hF]:=F w mg fa _ KX G.T.g hmg;apply hM_ (λT h=>fN_ ?_) eT FU KX G.T.g G.T.b G.T.builtins G.T.nolimit hg AH hints (pX hlen yo) hr G.T.bmain hF hb (λH hO hS=>kA w H a ns hlen hO hS) λH e s'=>M5 w H aV e s';have:=List.all_eq_true.mp E8 T h;rw[<- Jn w.params];simpa using this
end L2
namespace L2
open PySem PySem.Spec PyProof.Rows
section
variable{X:Cx}
end
open PySem.W in
def mJ:List (Pos × Addr)->ak
 |[]=>[]
 |(p,c)::es=>rawInt p.line::rawInt p.col::.ref c::mJ es
def cn(H:Hp)(T:Addr)(qual:Str):Prop:=∃es:List (Pos × Addr),H T\.tbl (mJ es).toArray/\∀e∈es,H e.2\Bk e.2 qual
theorem cn.same{H H':Hp}{T:Addr}{qual:Str}(s:aa H H')(h:cn H T qual):cn H' T qual:=by
 let#[es,a,b]:=h;exact#[es,s _ _ a,λe he=>s _ _ (b e he)]
theorem Ua:∀es:List (Pos × Addr),TriplesOk (mJ es)
 |[]=>trivial
 |(p,c)::es=>by
  have:=Ua es;simp[mJ,TriplesOk,rawInt,this]
theorem U_:∀(es:List (Pos × Addr)) (p:Pos) (c:Addr),mJ (es++[(p,c)])=mJ es++[rawInt p.line,rawInt p.col,.ref c]
 |[],p,c=>rfl
 |(p',c')::es,p,c=>by
  show rawInt p'.line::rawInt p'.col::.ref c'::mJ (es++[(p,c)])=_;rw[U_ es p c];rfl
theorem VN(pos:Pos):∀es:List (Pos × Addr),codeAmong pos (mJ es)=none∨∃e∈es,codeAmong pos (mJ es)\.ref e.2
 |[]=>.inl Z
 |(p,c)::es=>by
  by_cases h:codeAmong pos (mJ ((p,c)::es))\.ref c
  ·exact .inr #[(p,c),d9,h]
  have e:codeAmong pos (mJ ((p,c)::es))=codeAmong pos (mJ es):=by
   show codeAmong pos (rawInt p.line::rawInt p.col::.ref c::mJ es)=_;have h:¬codeAmong pos (rawInt p.line::rawInt p.col::.ref c::mJ es)=some (.ref c):=h;simp only[codeAmong,rawInt] at h ⊢;split at h
   ·exact absurd Z h
   rename_i q
   rw[aB q]
  rcases VN pos es with q|⟨x,hx,q⟩
  ·exact .inl (e.trans q)
  exact .inr #[x,eL _ hx,e.trans q]
end L2
namespace L2
open PySem PySem.Spec PyProof.Rows PySem.W kX
section
variable{X:Cx}{pins:List (Addr × Obj)}{σ:St}{H:Hp}{s:Ab}
theorem Inv.zt{h':Heap}{t':Nat}{fp:ai}{T:Addr}{ys:ag}{its:ak}{n:Nat}(I:Inv X pins σ H s)(k:∀b o,b∉fp->s.heap.get? b\o->h'.get? b\o)(hf:∀b∈fp,c8 X pins H b)
  (hT:T∈fp) (hz:ys.length<=sizeLine) (r:Vals ys its) (ht:h'.get? T=some { cls:=.type "list",data:=.seq its.toArray n }):Inv X pins σ (upd H T (.lst ys)) { s with heap:=h',toks:=t' }:=by
 have fT:H T=none:=(hf T hT).1;have nf:∀b u,H b\u->b∉fp:=λb u e hb=>by rw[(hf b hb).1] at e;cases e
 have old:∀{b u},H b\u->upd H T (.lst ys) b\u:=λe=>by rw[aC (bw e fT)];exact e
 apply I.step (g':=s.gens) (d':=s.drawn) (ch:=fp) (λb hb=>?_) (λb o _ _ hc e _=>k b o hc e) (λb o _ _ hc e _=>#[o.slots,k b o hc e]) (λb o hc e n=>?_)
  (λb o hc e=>#[o,k b o hc e]) (λb ys e=>old e) (λb o u e=>old e) (λb ps e=>#[#[],by rw[Array.append_empty];exact old e]) (λm hm=>?_) (λb u e=>?_) I.bare
 ·let#[f0,f1,f2,f3,f4,f5]:=hf b hb;exact#[f3,f1,f4,f5]
 ·rw[aC (λz=>hc (by rw[z];exact hT))];exact n
 ·let#[o,es,ep,ho,r]:=hm;exact#[o,es,ep,k _ o (λhb=>(hf _ hb).2.1 Z) ho,r]
 by_cases z:b=T
 ·subst z;rw[aq] at e;cases e;exact#[hz,its,n,r,ht]
 rw[aC z] at e;apply (I.aJ b u e).eA (λc v hc q=>k c v ?_ q) (λ_ q=>old q) λ_ _ q=>old q;rcases hc with z|z
 ·rw[z];exact nf b u e
 exact nf c _ z
theorem c8.at{H':Hp}{b:Addr}(f:c8 X pins H b)(n:H' b=none):c8 X pins H' b:=#[n,f.2]
def o_(X:Cx)(σ:St)(B:Ag)(fv:Aa)(H0:Hp)(kf:V->aD)(xs:ag):Prop:=
 ∀(pins:List (Addr × Obj)) (H:Hp) (s:Ab) (x:V) (u:Aa),Inv X pins σ H s->aa H0 H->x∈xs->RelV x u->
  wpAny (model X.prog X.w) B (call fv [u]) (EP X pins σ λv H'=>aa H H'/\∃t,v=.ref t/\H' t\.tup ((kf x).map kV)) (λ_ _=>False) s
theorem _N{B:Ag}{fv:Aa}{a kS:Addr}{e1:Nat}{H0:Hp}{kf:V->aD}{all:ag}{Q:PUnit->Ab->Prop}{E:Aa->Ab->Prop}{body:Aa->PUnit->Sem (ForInStep PUnit)}(tY:a≠kS)(j5:o_ X σ B fv H0 kf all)
  (hb:∀(u:Aa) (s:Ab) (Qb:ForInStep PUnit->Ab->Prop),wpAny (model X.prog X.w) B (call fv [u]) (λk s'=>wpAny (model X.prog X.w) B (Builtin.List.listUpdate (.ref kS) (·.push k)) (λ_ qb=>Qb (.yield ⟨⟩) qb) E s') (λ_ _=>False) s->wpAny (model X.prog X.w) B (body u ⟨⟩) Qb E s) :
  ∀(xs:ag) (us:ak) (ks:ag) (kvs:ak) (kk:List aD) (H:Hp) (s:Ab) (c:Nat),Vals xs us->(∀x∈xs,x∈all)->Inv X pins σ H s->aa H0 H->c8 X pins H a->c8 X pins H kS->s.heap.get? a\seqObj "list" #[] e1->s.heap.get? kS\seqObj "list" kvs.toArray c->
   Vals ks kvs->bD X.K H ks kk->kvs.length+us.length<64->
   (∀H' s' fB c',Inv X pins σ H' s'->aa H0 H'->c8 X pins H' a->c8 X pins H' kS->s'.heap.get? a\seqObj "list" #[] e1->s'.heap.get? kS\seqObj "list" fB.toArray c'->fB.length=kvs.length+us.length->(∃tN,Vals tN fB/\bD X.K H' tN (kk++xs.map kf))->Q ⟨⟩ s')->
   wpAny (model X.prog X.w) B (forIn us PUnit.unit body) Q E s:=by
 intro xs
 induction xs with
 |nil=>
  intro us ks kvs kk H s c rv _ I sm fa fk ha hk r t _ q;cases rv;rw[List.forIn_nil];exact bA (q H s kvs c I sm fa fk ha hk Z2 #[ks,r,by simpa using t])
 |cons x xs ih=>
  intro us ks kvs kk H s c rv hx I sm fa fk ha hk r t hz q
  obtain⟨u,us,rfl,ru,rr⟩:∃u Qu,us=u::Qu/\RelV x u/\Vals xs Qu:=by
   cases rv with
   |cons h t=>exact#[_,_,Z,h,t]
  rw[List.forIn_cons];rw[gB] at hz;apply aF (hb u s _ ?_)
  have hf:∀b∈[a,kS],c8 X pins H b:=λb hb=>by
   rcases cw.mp hb with rfl|hb
   ·exact fa
   obtain rfl:b=kS:=⇑hb
   exact fk
  let I1:=I.pinned (fp:=[a,kS]) hf (λb hb=>by
   rcases cw.mp hb with rfl|hb
   ·exact#[_,ha,λv z=>by cases z]
   obtain rfl:b=kS:=⇑hb
   exact#[_,hk,λv z=>by cases z])
  apply wpAny_mono (j5 _ H s x u I1 sm (hx x d9) ru) (λk s1 ⟨v,H1,J,rv,Rb,tk,ev,etk⟩=>?_) λ_ _ z=>z
  have pa:(a,seqObj "list" #[] e1)∈wX [a,kS] s.heap:=by
   unfold wX;exact xo.mpr #[a,by simp,by rw[ha];rfl]
  have pk:(kS,seqObj "list" kvs.toArray c)∈wX [a,kS] s.heap:=by
   unfold wX;exact xo.mpr #[kS,by simp,by rw[hk];rfl]
  let#[MX,Zs,_]:=J.pin _ (mP _ (mP _ pa));let#[IL,Zn,_]:=J.pin _ (mP _ (mP _ pk));have MX:s1.heap.get? a\seqObj "list" #[] e1:=MX;have IL:s1.heap.get? kS\seqObj "list" kvs.toArray c:=IL;let J0:=J.eO;let fa1:=fa.at (H':=H1) Zs;let Ue:=fk.at (H':=H1) Zn;have LR:kvs.length<64:=by omega
  apply listUpdate_at IL Z ?_ (by rw[cK,bZ];omega) (pX (Nat.le_of_eq (Array.size_push ..)) (by rw[cK,bZ];omega));have xZ:∀b o,b∉[kS]->s1.heap.get? b\o->(s1.heap.update kS (Obj.mapSeq (·.push k))).get? b\o:=λb o hb e=>(mF _ _ (λz=>hb (by simp[z]))).trans e;have ea:kvs.toArray.push k=(kvs++[k]).toArray:=by simp
  obtain⟨c2,CA⟩:∃c2,(s1.heap.update kS (Obj.mapSeq (·.push k))).get? kS\seqObj "list" (kvs++[k]).toArray c2:=#[_,by rw[<- ea];exact get?_update_seq IL (·.push k)]
  have I2:Inv X pins σ H1 { s1 with heap:=s1.heap.update kS (Obj.mapSeq (·.push k)) }:=J0.iM (t':=s1.toks) (fp:=[kS]) xZ (λb hb=>by
   obtain rfl:b=kS:=⇑hb
   exact Ue)
  subst ev;apply ih us (ks++[.ref tk]) (kvs++[k]) (kk++[kf x]) H1 _ c2 rr (λy hy=>hx y (eL _ hy)) I2 (sm.trans Rb) fa1 Ue ?_ CA (r.append (.cons rv .nil)) ?_ (by rw[dM,zh];omega) λH' s' fB c' a1 a2 a3 a4 a5 a6 a7 a8=>?_
  ·exact xZ a _ ⇑tY MX
  ·exact Paired.snoc (t.same Rb) #[tk,Z,etk]
  apply q H' s' fB c' a1 a2 a3 a4 a5 a6 (by rw[a7,dM,zh,gB];omega) ?_;let#[tN,b1,b2]:=a8;exact#[tN,b1,by simpa using b2]
end
section
variable{X:Cx}{pins:List (Addr × Obj)}{σ:St}{H:Hp}{s:Ab}{B:Ag}
theorem kD_{xs zs:ag}{kf:V->aD}{p:Array Nat}(g:Good xs.length p)(up:Up (λi j=>bM ((xs.map kf).getD i []) ((xs.map kf).getD j [])) p xs.length)(ez:zs=p.toList.map λi=>xs.getD i .non):zs.Perm xs/\zs.map kf=aY (xs.map kf):=by
 have gk:Good (xs.map kf).length p:=by rw[au];exact g
 let asc:=NS (ks:=xs.map kf) (λi j _ _=>rfl) gk (by rw[au];exact up)
 have perm:(p.toList.map λi=>(xs.map kf).getD i []).Perm (xs.map kf):=by
  have:=Hh gk λi=>(xs.map kf).getD i [];rwa [Hq] at this
 let es:=Pp perm asc;apply#[?_,?_]
 ·have:=Hh (n:=xs.length) g λi=>xs.getD i .non;rw[Hq] at this;rw[ez];exact this
 rw[<- es,ez,cg];apply uF λi hi=>?_;have m:i∈(List.range xs.length).toArray:=g.mem_iff.mp ⇑hi;have m:i<xs.length:=⇑m
 show kf (xs.getD i .non)=(xs.map kf).getD i [];simp[List.getD,m]
theorem gR_{f a:Addr}{xs:ag}{us:ak}{n:Nat}{P:PySem.Fin->Ab->Prop}{E:Aa->Ab->Prop}{kf:V->aD}{sh:List Bool}(I:Inv X pins σ H s)(fa:c8 X pins H a)(ho:s.heap.get? a\seqObj "list" us.toArray n)(r:Vals xs us)(bS:us.length<64)(al:Bg (xs.map kf) sh)(j5:o_ X σ B (.ref f) H kf xs)
  (h:∀zs H' s',Inv X pins σ (upd H' a (.lst zs)) s'->aa H H'->H' a=none->zs.Perm xs->zs.map kf=aY (xs.map kf)->P (.done (.ret .none)) s'):wpAny (model X.prog X.w) B (ksk_tree a (.ref f) false) P E s:=by
 let lx:=r.length;obtain⟨e1,Cu⟩:∃e1,(s.heap.update a (Obj.mapSeq λ_=>(#[]:Array Aa))).get? a\seqObj "list" #[] e1:=#[_,get?_update_seq ho λ_=>#[]];have xZ:∀b o,b∉[a]->s.heap.get? b\o->(s.heap.update a (Obj.mapSeq λ_=>(#[]:Array Aa))).get? b\o:=λb o hb e=>(mF _ _ (λz=>hb (by simp[z]))).trans e
 have I1:Inv X pins σ H { s with heap:=s.heap.update a (Obj.mapSeq λ_=>(#[]:Array Aa)) }:=I.iM (t':=s.toks) (fp:=[a]) xZ (λb hb=>by
  obtain rfl:b=a:=⇑hb
  exact fa)
 unfold ksk_tree;apply aF (listItems_at ho Z ?_);apply aF (listUpdate_at ho Z ?_ (by rw[cK,bZ];omega) (gD _));apply aF (seqEpoch_at Cu Z ?_);apply aF (wpAny_newTuple ?_ (by show us.length<=_;rw[bZ];omega));apply aF (wpAny_newList ?_ (gD _));apply wpAny_holding ?_;have I2:Inv X pins σ H { s with heap:=(s.heap.update a (Obj.mapSeq λ_=>(#[]:Array Aa))).push (seqObj "tuple" us.toArray 0) }:=I1.kept (t':=s.toks) λb u e=>ck _ e;have I3:Inv X pins σ H { s with heap:=((s.heap.update a (Obj.mapSeq λ_=>(#[]:Array Aa))).push (seqObj "tuple" us.toArray 0)).push (seqObj "list" #[] 0) }:=I2.kept (t':=s.toks) λb u e=>ck _ e;have fk:c8 X pins H ((s.heap.update a (Obj.mapSeq λ_=>(#[]:Array Aa))).push (seqObj "tuple" us.toArray 0)).objs.size:=I2.jY (bj _) (I2.aJ.fresh (bj _));have jr:(((s.heap.update a (Obj.mapSeq λ_=>(#[]:Array Aa))).push (seqObj "tuple" us.toArray 0)).push (seqObj "list" #[] 0)).get? a\seqObj "list" #[] e1:=ck _ (ck _ Cu);have Mx:(((s.heap.update a (Obj.mapSeq λ_=>(#[]:Array Aa))).push (seqObj "tuple" us.toArray 0)).push (seqObj "list" #[] 0)).get? ((s.heap.update a (Obj.mapSeq λ_=>(#[]:Array Aa))).push (seqObj "tuple" us.toArray 0)).objs.size\seqObj "list" #[] 0:=eQ _ Z;have tY:a≠((s.heap.update a (Obj.mapSeq λ_=>(#[]:Array Aa))).push (seqObj "tuple" us.toArray 0)).objs.size:=eG (cy (ck (seqObj "tuple" us.toArray 0) Cu));show wpAny (model X.prog X.w) B (ksk_rest a (.ref f) false us.toArray e1 (.ref ((s.heap.update a (Obj.mapSeq λ_=>(#[]:Array Aa))).push (seqObj "tuple" us.toArray 0)).objs.size)) P E { s with heap:=((s.heap.update a (Obj.mapSeq λ_=>(#[]:Array Aa))).push (seqObj "tuple" us.toArray 0)).push (seqObj "list" #[] 0) };generalize ((s.heap.update a (Obj.mapSeq λ_=>(#[]:Array Aa))).push (seqObj "tuple" us.toArray 0)).objs.size=kS at fk Mx tY ⊢;generalize ((s.heap.update a (Obj.mapSeq λ_=>(#[]:Array Aa))).push (seqObj "tuple" us.toArray 0)).push (seqObj "list" #[] 0)=h3 at I3 jr Mx ⊢;clear I2 I1 xZ;unfold ksk_rest;apply aF (wpAny_rule ?_);rw[List.forIn_toArray];apply aF (_N (pins:=pins) (E:=E) (e1:=e1) tY j5 (λu s4 Qb hq=>?_) xs us [] [] [] H _ 0 r (λx hx=>hx) I3 (aa.refl H) fa fk jr Mx .nil .nil ⇑bS λH5 s5 kvs c5 I5 Yl Ur fk5 IV SI lk ⟨ks,rk,tk⟩=>?_)
 ·apply aF (wpAny_attempt (wpAny_mono hq (λk qb hk=>?_) λ_ _ hF=>hF.elim));exact aF (wpAny_mono hk (λ_ s6 h6=>bA h6) λ_ _ z=>z)
 rw[List.nil_append] at tk;rw[uD,Nat.zero_add] at lk;apply aF (listItems_at SI Z ?_)
 have tail:∀(p:Array Nat) (st:SortSt),Good xs.length p->Up (λi j=>bM ((xs.map kf).getD i []) ((xs.map kf).getD j [])) p xs.length->(arrOf st).map (·.2)=(mI p us).toArray->failedOf st=none->wpAny (model X.prog X.w) B (ksk_tail a false e1 (.ref kS) st) P E s5:=λp st g up Mc wA=>by
  have gu:Good us.length p:=by rw[<- lx];exact g
  have hz:(mI p us).length=us.length:=by
   unfold mI;rw[au,uG];exact gu.size
  let s1:=Heap.SameBut.update s5.heap kS (Obj.mapSeq λ_=>(#[]:Array Aa));have uf:(s5.heap.update kS (Obj.mapSeq λ_=>(#[]:Array Aa))).get? a\seqObj "list" #[] e1:=(mF _ _ (Ne.symm tY)).trans IV;unfold ksk_tail;dsimp only;rw[Mc];apply aF (listUpdate_at SI Z ?_ (by rw[cK,bZ];omega) (gD _));apply aF (wpAny_letGo ?_);apply aF (seqEpoch_at uf Z ?_);simp only[zf,if_false];apply aF (listUpdate_at uf Z ?_ (gD _) (by rw[cK,hz,bZ];omega));rw[wA];simp only[bne_self_eq_false,zf,if_false]
  have zl:(p.toList.map λi=>xs.getD i .non).length<=sizeLine:=by
   rw[au,uG,g.size,bZ];omega
  let#[pz,ek]:=kD_ (zs:=p.toList.map λi=>xs.getD i .non) g up Z;apply bA (h _ H5 _ (I5.zt (t':=s5.toks) (fp:=[a,kS]) (T:=a) (λb o hb e=>?_) (λb hb=>?_) Z2 zl (OB r gu) (get?_update_seq uf _)) Yl Ur.1 pz ek)
  ·have n1:b≠a:=λz=>hb (by simp[z]);have n2:b≠kS:=λz=>hb (by simp[z]);exact (mF _ _ (Ne.symm n1)).trans ((mF _ _ (Ne.symm n2)).trans e)
  rcases cw.mp hb with rfl|hb
  ·exact Ur
  obtain rfl:b=kS:=⇑hb
  exact fk5
 unfold ksk_end;dsimp only;simp only[zf,if_false];by_cases h2:us.toArray.size<2
 ·rw[aH h2,aH h2];apply aF (bA ?_);rw[StateT.run_pure];apply aF (bA (tail (List.range xs.length).toArray _ (Array.Perm.refl _) (λi j oA hj=>?_) ?_ Z))
  ·have e:i=j:=by
    simp only[cK] at h2;omega
   subst e;exact Oe _
  show ((kvs.toArray.zip us.toArray).map λx:Keyed=>x.2)=_;rw[show xs.length=us.length from lx,VT];apply Array.ext' ?_;simp[List.map_snd_zip,lk]
 rw[aB h2,aB h2]
 have js:2<=us.length:=by
  simp only[cK] at h2;omega
 let#[κ,hk,hc]:=VF (A:=B) (s':=s5) I5 rk tk al Z1 (λ_ _ e=>e);apply aF (wpAny_mono (hk (λk s'=>k=κ/\s'=s5) #[Z,Z]) (λk s7 FF=>?_) λ_ _ x=>x.elim);let#[rfl,rfl]:=FF;have O:Ord (λi j=>bM ((xs.map kf).getD i []) ((xs.map kf).getD j [])):=ON _
 apply aF (wpAny_mono (kat_run (ks:=kvs) (vs:=us) (G:=λp s'=>s'=s7/\Good us.length p/\Up (λi j=>bM ((xs.map kf).getD i []) ((xs.map kf).getD j [])) p us.length)
  (Q:=λeV s'=>∃p:Array Nat,arrOf eV=p.map (kas_item (kvs.toArray.zip us.toArray))/\failedOf eV=none/\s'=s7/\Good us.length p/\Up (λi j=>bM ((xs.map kf).getD i []) ((xs.map kf).getD j [])) p us.length)
  lk js bS (λp eV s' _ q1 q2 q3=>#[p,q1,q2,q3]) (Ok.wp (n:=us.length) (λi j C hi hj=>hc i j C Z1 Z1) (λp q=>#[Z,q]) (TB O Z1))) ?_ λ_ _ x=>x)
 rintro⟨⟨⟩,eV⟩ s' ⟨p,MV,hf,qe,g,u⟩;subst qe;rw[<- lx] at g u;exact tail p eV g u (kat_snds lk MV) hf
end
end L2
namespace L2
open PySem PySem.Spec PyProof.Rows PySem.W kX
section
variable{X:Cx}{pins:List (Addr × Obj)}{σ:St}{H:Hp}{s:Ab}
theorem Inv.ui{cQ:ae}{cl:List (Str × Addr)}{is:List Nat}{gs:ag}(I:Inv X pins σ H s)(qg:∀q∈cl,X.env.cells.lookup q.1\q.2)(wD:∀x∈cQ,∃c,cl.lookup x\c)(FI:∀x∈cQ,X.env.scope.names.lookup x\.cell)(hN:is.map (λi=>X.N[i]?)=cQ.map some)
  (Cy:is.map (λi=>σ[i]?)=gs.map (λv=>some (some v))):gs.length=cQ.length/\J1 cQ cl gs s.heap/\∀x c,cl.lookup x\c->H c=none:=by
 have lk:∀{x c},cl.lookup x\c->(x,c)∈cl:=λe=>pT e;apply#[?_,#[λa b c h1 h2=>I.ok.inj a b c (qg _ (lk h1)) (qg _ (lk h2)),wD,λa c h1=>I.cell a c (qg _ (lk h1)),λj a v h1 h2=>?_],λx c e=>I.d8 x c (qg _ (lk e))]
 ·let a:=dX List.length Cy;let b:=dX List.length hN;simp only[au] at a b;omega
 let#[c,hc]:=wD a (dC h1);have e1:(is.map λi=>X.N[i]?)[j]? = some (some a):=by rw[hN,cY,h1];rfl
 have e2:(is.map λi=>σ[i]?)[j]? = some (some (some v)):=by rw[Cy,cY,h2];rfl
 rw[cY] at e1 e2;let#[i,hi,e1]:=Option.map_eq_some_iff.mp e1;rw[hi] at e2;have e2:σ[i]? = some (some v):=eF e2;let#[m,_,hl]:=I.loc;let kd:=FI a (dC h1);let#[u,ru,lo]:=hl i a v e1 e2 (.inr (.inl kd));rcases lo with⟨z,_⟩|⟨_,c2,e3,o,e4,e5⟩
 ·have z:X.env.scope.names.lookup a\.local:=z;rw[kd] at z;cases z
 rw[qg _ (lk hc)] at e3;cases e3;exact#[c,u,hc,ru,o,e4,e5]
theorem kL_{B:Ag}{k:Nat}{qual:Str}{params:Arguments}{body:PySem.Expr}{scope:Scope}{p:Str}{cQ:ae}{sp:ag->ag->Hp->VK->XK->Prop}{f c':Addr}{cl:List (Str × Addr)}{is:List Nat}{gs xs:ag}{kf:V->aD}{H0:Hp}(F:iK X.prog X.w X.K X.mg X.base k qual params body scope [p] cQ sp)(hr:bc k B)(hB:B.frames=X.A.frames)
  (hf:H0 f\jT f qual params body scope cl c') (hc:H0 c'\Bk c' qual) (qg:∀q∈cl,X.env.cells.lookup q.1\q.2) (wD:∀x∈cQ,∃c,cl.lookup x\c) (FI:∀x∈cQ,X.env.scope.names.lookup x\.cell) (hN:is.map (λi=>X.N[i]?)=cQ.map some) (Cy:is.map (λi=>σ[i]?)=gs.map (λv=>some (some v)))
  (kA:∀H x,aa H0 H->x∈xs->sp [x] gs H (λv H'=>aa H H'/\∃t,v=.ref t/\H' t\.tup ((kf x).map kV)) (λ_ _ _=>False)):o_ X σ B (.ref f) H0 kf xs:=by
 intro pins H s x u I sm hx ru;let#[#[pm,j3,ef],_]:=I.aJ f _ (sm _ _ hf);let#[#[oc,HF,t,ec,d1,d2],_]:=I.aJ c' _ (sm _ _ hc);let#[hg,C,fc]:=I.ui qg wD FI hN Cy;let e0:=I.Be;apply wpAny_call (codeAny_mono (F B X.stack s H f c' pm j3 cl [u] [x] gs _ _ hr #[hB.trans e0.frames,e0.mod,e0.bs,e0.uz,e0.fM,e0.wH,e0.aJ,e0.bare] ef #[c',oc,HF,t,Z,ec,d1,d2] Z hg (.cons ru .nil) C fc (kA H x sm hx)) λr s' hq=>?_);cases r with
 |error e=>
  let#[a,cls,H',B,a0,dd,rfl,os,bare,un,aJ,fl,i,hE]:=hq;exact hE.elim
 |ok fl=>
  cases fl with
  |ret u=>exact I.after hq
  |next=>exact False.elim hq
  |brk=>exact False.elim hq
  |cont=>exact False.elim hq
theorem sortedK{f:Addr}{x:Aa}{xs:ag}{kf:V->aD}{sh:List Bool}{Q:VK}{E:Aa->Ab->Prop}(I:Inv X pins σ H s)(bS:xs.length<64)(al:Bg (xs.map kf) sh)(j5:o_ X σ X.A.in1.in1 (.ref f) H kf xs)
  (mz:∀R:ak->Ab->Prop,(∀vs s1,Inv X pins σ H s1->Vals xs vs->R vs s1)->wpAny (model X.prog X.w) X.A.in1 (collect x) R E s)
  (q:∀l zs H',aa H H'->H' l=none->H l=none->zs.Perm xs->zs.map kf=aY (xs.map kf)->Q (.ref l) (upd H' l (.lst zs))):wpAny (model X.prog X.w) X.A (call (.builtin "sorted") [x] [(Str.ofString "key",.ref f)]) (EP X pins σ Q) E s:=by
 apply call_function_entry_kw kind_sorted plain_sorted entry_sorted (ksk_s1 _ _) ?_;unfold Builtin.«sorted»;apply aF (m:=checkCount "sorted" 1 1 _) (bA ?_);apply aF (mz _ λvs s1 I1 r=>?_);let lv:=r.length;apply aF (wpAny_newList ?_ (by rw[bZ];omega));have IJ:(s1.heap.push (seqObj "list" vs.toArray 0)).get? s1.heap.objs.size\seqObj "list" vs.toArray 0:=eQ _ Z;have I2:Inv X pins σ H { s1 with heap:=s1.heap.push (seqObj "list" vs.toArray 0) }:=I1.kept (t':=s1.toks) λb u e=>ck _ e;have fa:c8 X pins H s1.heap.objs.size:=I1.jY (bj _) (I1.aJ.fresh (bj _));have nl:H s1.heap.objs.size=none:=I1.aJ.fresh (bj _);apply aF (wpAny_holding (wpAny_call_entry_kw slot_list_sort #[_,IJ,Z] entry_list_sort ?body (ksk_l1 _ _)))
 case body=>
  show wpAny (model X.prog X.w) X.A.in1.in1 (Builtin.«list.sort» #[[.ref s1.heap.objs.size],[(Str.ofString "key",.ref f)]]) _ _ _;rw[ksk_t1];apply gR_ (s:={ s1 with heap:=s1.heap.push (seqObj "list" vs.toArray 0) }) I2 fa IJ r Z1 al j5 λzs H' s' I' sm na pz ek=>?_;exact#[_,Z,bA #[_,Z,.ref _,_,I',Z,q _ zs H' sm na nl pz ek]]
end
def Ql(K:af)(H:Hp)(x:V)(xs:ag):Prop:=(∃l,x=.ref l/\dJ K H l xs)∨∃d kvs,x=.ref d/\H d\.dK kvs/\xs=kvs.map λkv=>kV kv.1
inductive mY (K:af) (qual:Str) (params:Arguments) (body:PySem.Expr) (scope:Scope) (cl:List (Str × Addr)) (is:List Nat) (sp:ag->ag->Hp->VK->XK->Prop) (t:TA) (σ:St) (H:Hp) (Q:VK) (vs:ag) (ws:ag) (H2:Hp):Prop
 |mk:∀x f c' xs kf sh gs,vs=[x]->ws=[.ref f]->H2 f\jT f qual params body scope cl c'->H2 c'\Bk c' qual->Ql K H2 x xs->xs.length<64->Bg (xs.map kf) sh->is.map (λi=>σ[i]?)=gs.map (λv=>some (some v))->(∀H x,aa H2 H->x∈xs->sp [x] gs H (λv H'=>aa H H'/\∃t,v=.ref t/\H' t\.tup ((kf x).map kV)) (λ_ _ _=>False))->(∀l zs H',aa H2 H'->H' l=none->H2 l=none->zs.Perm xs->zs.map kf=aY (xs.map kf)->Q (.ref l) (upd H' l (.lst zs)))->mY K qual params body scope cl is sp t σ H Q vs ws H2
def zw(K:af)(qual:Str)(params:Arguments)(body:PySem.Expr)(scope:Scope)(cl:List (Str × Addr))(is:List Nat)(sp:ag->ag->Hp->VK->XK->Prop)(t tk:TA):TE:=λσ H Q=>t σ H λvs H1=>tk σ H1 λws H2=>mY K qual params body scope cl is sp t σ H Q vs ws H2
theorem TZ{X:Cx}{e:PySem.Expr}{t tk:TA}{p pos kp tL:Pos}{k:Nat}{params:Arguments}{body:PySem.Expr}{scope:Scope}{px:Str}{cQ:ae}{qual:Str}{sp:ag->ag->Hp->VK->XK->Prop}{cl:List (Str × Addr)}{is:List Nat}(hc:X.calm=true)(hg:Gl X "sorted")(hm:X.mg "sorted"=none)(ha:PA X [e] t)(hkw:PK X [#[some "key",.Lambda params body scope tL,kp]] tk)
  (F:iK X.prog X.w X.K X.mg X.base k qual params body scope [px] cQ sp) (hr:bc (k+2) X.A) (qg:∀q∈cl,X.env.cells.lookup q.1\q.2) (wD:∀x∈cQ,∃c,cl.lookup x\c) (FI:∀x∈cQ,X.env.scope.names.lookup x\.cell) (hN:is.map (λi=>X.N[i]?)=cQ.map some)
  (he:starEach [e] X.env=[(false,eval e X.env)]:=by rfl) (AY:(backToKw pos (keywordEach [#[some "key",.Lambda params body scope tL,kp]] X.env)).all (·.1.isSome)=true:=by rfl) (FF:(backToKw pos (keywordEach [#[some "key",.Lambda params body scope tL,kp]] X.env)).filterMap (·.1)=[Str.ofString "key"]:=by rfl)
  (hkn:(backToKw pos (keywordEach [#[some "key",.Lambda params body scope tL,kp]] X.env)).any (·.1.isNone)=false:=by rfl):PE X (.Call (.Name "sorted" p) [e] [#[some "key",.Lambda params body scope tL,kp]] pos) (zw X.K qual params body scope cl is sp t tk):=by
 intro pins s σ H Q I h;apply wpAny_Call_Name_kw (CY I hg hm JS ?_);let hA:=ha pos pins s σ H _ I h;rw[he] at hA ⊢;apply callWith_builtin_kwB (first:=[]) Z hkn (evalArgs_kwB AY (a_ hA λus s1 ⟨vs,H1,I1,r1,q1⟩=>?_));apply a_ (hkw pos pins s1 σ H1 _ I1 q1) λws s2 ⟨zs,H2,I2,rz,x,f,c',xs,kf,sh,gs,ev,ez,hf,gQ,src,bS,al,Cy,kA,q⟩=>?_;subst ev ez;let#[u,rfl,ru]:=Vals.one r1;let#[fv,rfl,rf]:=Vals.one rz;cases rf;rw[FF];have hd:X.A.in1.handled=none:=I.ok.hd hc;apply sortedK I2 bS al (kL_ F hr.in1.in1 Z hf gQ qg wD FI hN Cy kA) (λR hR=>?_) q;rcases src with⟨l,rfl,hl⟩|⟨d,kvs,rfl,hd2,rfl⟩
 ·cases ru;exact iX_ I2 hl Z1 hR
 cases ru;exact R5 hd I2 (.inl hd2) hR
end L2
namespace L2
open PySem PySem.Spec PyProof.Rows
structure ko (K:af) (x qual:Str) (st:Stmt) (f c:Addr) (fd:Ae):Prop where
 ex:∃(oc:Aa) (od:Option Addr) (kV doc pm:Aa) (an:Option Addr) (ct:Aa) (jM:Array (Option Aa)),
  fd=PySem.W.fnOf x qual (jv st) (g9 st) (aX st) .none kV doc pm an (.ref c) ct/\K.lookup f=some #[oc,od,.func fd,jM]/\PySem.W.codeIn K (.ref c) qual=true
 kp:PySem.W.keepIn K (.ref f)=true
theorem ko.fn{K:af}{x qual:Str}{st:Stmt}{f c:Addr}{fd:Ae}(F:ko K x qual st f c fd):bf K x qual st f fd:=by
 let#[oc,od,kV,doc,pm,an,ct,jM,e,l,h]:=F.ex;exact#[#[oc,od,kV,doc,pm,an,.ref c,ct,jM,e,l,h],F.kp]
theorem ko.ok{P:Ad}{w:Af}{K:af}{mg:Str->Option Aa}{base:Heap}{x qual:Str}{st:Stmt}{f c:Addr}{fd:Ae}{N ps:ae}{k:Nat}{sp:Sp}(F:ko K x qual st f c fd)(S:bq N ps (aX st))(len:∀vs H Q E,sp vs H Q E->vs.length=ps.length)
  (fL:∀(A:Ag) (outer:List Env) (s:Ab) (H:Hp) (vs:ag) (Q:VK) (E:XK),bc k (A.deeper (envOfC qual (aX st) s.heap.objs.size f (.ref c)))->sp vs H Q E->
   ∃t,kW (j2 a9 P w K mg base N qual (aX st) f (.ref c) A outer s H E).Al (g9 st) t/\t { nx:=λ_ H'=>Q .non H',rt:=Q } (start N vs) H):!aj a9 (k+1) f fd ps sp:=by
 let#[oc,od,kV,doc,pm,an,ct,jM,rfl,lk,gQ]:=F.ex;apply RO lk gQ S len λA outer s H vs Q E hr kA=>?_;let#[t,h,q]:=fL A outer s H vs Q E hr kA;exact#[t,h.Al,q]
end L2
namespace Ev
open PySem L2
def NT(H G:Hp):Prop:=∀b o,H b\o->(∀vs,o≠.tbl vs)->G b\o
theorem NT.of{H G:Hp}(s:aa H G):NT H G:=λb o e _=>s b o e
theorem NT.refl(H:Hp):NT H H:=NT.of (aa.refl H)
theorem NT.trans{H G J:Hp}(s:NT H G)(t:NT G J):NT H J:=λb o e n=>t b o (s b o e n) n
theorem aM.nt{T:Addr}{H G:Hp}{vs:Array Aa}(b:aM T H G)(hT:H T\.tbl vs):NT H G:=λc o e n=>b c o e (λz=>by
 rw[z,hT] at e;exact n _ (eF e).symm)
theorem NT.tup{H G:Hp}(s:NT H G){a:Addr}{xs:ag}(h:H a\.tup xs):G a\.tup xs:=s _ _ h nofun
theorem NT.lst{H G:Hp}(s:NT H G){a:Addr}{xs:ag}(h:H a\.lst xs):G a\.lst xs:=s _ _ h nofun
theorem NT.dK{H G:Hp}(s:NT H G){a:Addr}{xs:List (Key × V)}(h:H a\.dK xs):G a\.dK xs:=s _ _ h nofun
theorem NT.ins{H G:Hp}(s:NT H G){a C dx:Addr}{fs:List (Str × V)}(h:H a\.ins C dx fs):G a\.ins C dx fs:=s _ _ h nofun
section
variable{K:af}{H G:Hp}{v:V}
theorem bD.nt{ys:ag}{ks:List aD}(h:bD K H ys ks)(s:NT H G):bD K G ys ks:=Paired.bL h λy k ⟨a,z,q⟩=>#[a,z,s.tup q]
theorem fj.nt{C p:Addr}{hs:Xa}{ts:Xb}{fp:ai}(W:fj K C H p hs ts fp)(s:NT H G):fj K C G p hs ts fp:=by
 let#[dx,d1,l2,d3,zs,as,rfl,h1,h2,h3,h4,h5,h6,h7]:=W.ex;exact#[dx,d1,l2,d3,zs,as,Z,s _ _ h1 nofun,s.dK h2,s.lst h3,bD.nt h4 s,s.dK h5,h6,λi n a e1 e2=>s.lst (h7 i n a e1 e2)]
theorem cu.nt{o:Option (Xb)}(h:cu K H v o)(s:NT H G):cu K G v o:=by
 cases o with
 |none=>exact h
 |some ws=>
  let#[a,ys,e,ha,t]:=h;exact#[a,ys,e,s.lst ha,bD.nt t s]
theorem gq.nt{CG CW g p:Addr}{hs:Xa}{ts:Xb}{qs:aK}{fp:ai}(h:gq K CG CW H g p hs ts qs fp)(s:NT H G):gq K CG CW G g p hs ts qs fp:=by
 let#[dx,dw,dy,vs,bP,h1,h2,h3,h4,h5,r]:=h.ex;exact#[dx,dw,dy,vs,bP,s _ _ h1 nofun,h2.nt s,s.dK h3,s.dK h4,Paired.bL h5 λv q h=>h.nt s,r]
theorem bU.nt{l:Addr}(h:bU H l)(s:NT H G):bU G l:=by
 rcases h with⟨a,e⟩|⟨a,b,c,e⟩
 ·exact .inl #[a,s.lst e]
 exact .inr #[a,b,c,s.lst e]
end
theorem RP{H:Hp}{T:Addr}{qual q':Str}{a a':Arguments}{b b':Expr}{sc H_:Scope}{ps:Pos}{cl:List (Str × Addr)}{σ:St}{Q:VK}(h:cn H T qual)(e1:q'=qual)(e2:a'=a)(e3:b'=b)(e4:H_=sc)(q:∀f c' H1,aM T H H1->cn H1 T qual->H1 f\jT f qual a b sc cl c'->H1 c'\Bk c' qual->Q (.ref f) H1):DZ T q' a' b' H_ ps cl σ H Q:=by
 subst e1 e2 e3 e4;let#[es,h,AR]:=h;apply#[_,h,Ua es,?_];rcases VN ps es with e|⟨e,he,q1⟩
 ·apply .inl #[e,λc' f n1 n2 n3=>?_];have Zu:T≠c':=bw h n1;have Zt:T≠f:=bw h n2
  have B:aM T H (upd (upd (upd H T (.tbl ((mJ es).toArray++(List.toArray [rawInt ps.line,rawInt ps.col,.ref c'])))) c' (Bk c' q')) f (jT f q' a' b' H_ cl c')):=λb o e n=>by
   rw[aC (bw e n2),aC (bw e n1),aC n];exact e
  apply q f c' _ B #[es++[(ps,c')],?_,λx hx=>?_] aq ?_
  ·rw[aC Zt,aC Zu,aq,U_];simp
  ·rcases eZ.mp hx with hx|hx
   ·exact B _ _ (AR x hx) (λz=>by have:=AR x hx;rw[z,h] at this;cases this)
   rw[List.mem_singleton.mp hx];show upd _ f _ c'=_;rw[aC n3,aq]
  rw[aC n3,aq]
 apply .inr #[e.2,q1,λf hf=>?_];let s:=aa.new (o:=jT f q' a' b' H_ cl e.2) hf;exact q f e.2 _ (aM.of s) #[es,s _ _ h,λx hx=>s _ _ (AR x hx)] aq (s _ _ (AR e he))
theorem fD{H:Hp}{T:Addr}{qual:Str}(h:cn H T qual):∃vs,H T\.tbl vs:=by
 let#[es,e,_]:=h;exact#[_,e]
theorem cn.but{H G:Hp}{T T':Addr}{q:Str}(h:cn H T q)(b:aM T' H G)(hT:∃vs,H T'\.tbl vs)(ne:T≠T'):cn G T q:=by
 let#[es,e,a]:=h;let#[vs,hT]:=hT;exact#[es,b _ _ e ne,λx hx=>b _ _ (a x hx) (λz=>by have:=a x hx;rw[z,hT] at this;cases this)]
def jS:Expr->Scope
 |.Lambda _ _ s _=>s
 |_=>aX gJ
def EO:Expr->Expr
 |.Lambda _ b _ _=>b
 |e=>e
def ER:Expr->Arguments
 |.Lambda a _ _ _=>a
 |_=>jv gJ
def RJ:Expr->Expr
 |.Call _ _ (k::_) _=>k.value
 |e=>e
def Eu(l:List Stmt)(i:Nat):Stmt:=l.getD i (.Pass #[0,0,0,0])
def Ni:Stmt->Expr
 |.For _ i _ _ _=>i
 |_=>.Constant .none 0 #[0,0,0,0]
def Le:Stmt->Expr
 |.Return (some e) _=>e
 |_=>.Constant .none 0 #[0,0,0,0]
end Ev
namespace Ev
open PySem L2
theorem EE{σ:St}{H:Hp}{k:ag->Hp->Prop}(h:k [] H):k4 σ H k:=h
theorem yQ{te:TE}{t:TA}{σ:St}{H:Hp}{k:ag->Hp->Prop}(h:te σ H λx H1=>t σ H1 λxs H2=>k (x::xs) H2):jD te t σ H k:=h
abbrev hV(qs:aK)(n:Str):Int:=strOf (qs.map fY) n
def kN(qs:aK)(n:Str):aD:=[.inl (-(hV qs n)),.inr n]
def jH:aD->Str
 |[_,.inr n]=>n
 |_=>⟨#[]⟩
def mq(qs:aK):ae:=(aY ((qs.map (·.1)).map (kN qs))).map jH
def EV(qs:aK):V->aD
 |.str n=>kN qs n
 |_=>[]
theorem U1{zs:ag}{ns:ae}(p:zs.Perm (ns.map V.str)):∃ms:ae,zs=ms.map V.str/\ms.Perm ns:=by
 have all:∀z∈zs,∃n,z=V.str n:=λz hz=>by
  let#[n,_,e]:=bH.mp (p.mem_iff.mp hz);exact#[n,e.symm]
 have mk:∀l:ag,(∀z∈l,∃n,z=V.str n)->∃ms:ae,l=ms.map V.str:=λl=>by
  induction l with
  |nil=>intro _;exact#[[],Z]
  |cons a r ih=>
   intro h;let#[n,rfl]:=h a d9;let#[ms,rfl]:=ih λz hz=>h z (eL _ hz);exact#[n::ms,Z]
 let#[ms,rfl]:=mk zs all;apply#[ms,Z,?_];have:=p.map (λv:V=>match v with | .str n=>n|_=>(⟨#[]⟩:Str));rw[cg,cg] at this;simpa [Function.comp_def] using this
theorem ZX{qs:aK}{zs:ag}(p:zs.Perm ((qs.map (·.1)).map V.str))(e:zs.map (EV qs)=aY (((qs.map (·.1)).map V.str).map (EV qs))):zs=(mq qs).map V.str:=by
 let#[ms,rfl,_]:=U1 p;have e1:(ms.map V.str).map (EV qs)=ms.map (kN qs):=by rw[cg];rfl
 have e2:((qs.map (·.1)).map V.str).map (EV qs)=(qs.map (·.1)).map (kN qs):=by
  rw[cg];rfl
 rw[e1,e2] at e
 have em:(ms.map (kN qs)).map jH=ms:=by
  rw[cg];exact List.map_id' ms
 unfold mq;rw[<- e,em]
theorem Gx(qs:aK):(mq qs).Perm (qs.map (·.1)):=by
 unfold mq;let p:=(kP ((qs.map (·.1)).map (kN qs))).map jH
 have e:((qs.map (·.1)).map (kN qs)).map jH=qs.map (·.1):=by
  generalize qs.map (·.1)=ns;rw[cg];exact List.map_id' _
 rw[e] at p;exact p
def eC(qs:aK)(f:ao)(h:Str):ae:=(mq qs).filter λn=>decide (f n=h)
abbrev xX:Str:="heaviest_first.<locals>.<lambda>"
def pH:Expr:=RJ (Ni (Eu (g9 hZ) 1))
abbrev A6:ae:=["goods"]
theorem F5:∀y∈(jS pH).names,y.2=.free->y.1∈A6:=by decide +kernel
theorem zM:GH ["name"] A6 (jS pH):=#[by decide +kernel,Z,Z,Z,by decide +kernel,by decide +kernel,λx h=>F5 (x,.free) (pT h) Z,by decide +kernel]
section v
inductive nu (K:af) (CG CW:Addr) (vs:ag) (gs:ag) (H:Hp) (Q:VK):Prop
 |mk:∀(g p:Addr) (q:Pc) (hs:Xa) (ts:Xb) (qs:aK) (fp:ai),vs=[.str q.1]->gs=[.ref g]->gq K CG CW H g p hs ts qs fp->(qs.map (·.1)).Nodup->q∈qs->0<=q.2.1->q.2.1<=1000000000->(∀t,H t=none->Q (.ref t) (upd H t (.tup [.int (-q.2.1),.str q.1])))->nu K CG CW vs gs H Q
def zE(K:af)(CG CW:Addr):ag->ag->Hp->VK->XK->Prop:=λvs gs H Q _=>nu K CG CW vs gs H Q
theorem k8_{CG CW CP:Addr}(T:dI K CG)(cW:!br CG 2 "weight" yM (BQ K CG CW CP)):!iK 3 xX (ER pH) (EO pH) (jS pH) ["name"] A6 (zE K CG CW):=by
 apply yd zM (λpm c' j3 cl us hl=>?_) (λA outer s H f cd cl vs gs Q E hr h hp=>?_)
 ·match us,hl with
  |[_],_=>rfl
 let#[g,p,q,hs,ts,qs,fp,rfl,rfl,G,nd,hq,w0,w1,k]:=h;let#[dx,dw,dy,vs,bP,h1,h2,_]:=id G.ex;apply#[_,eM %[Bp BA (ft cW T.cl hr (pv 1) %[0|0]),0|0],?_];have oy:(bV p dw dy).lookup ("weight":Str)=none:=vt _ _ _ Z0 Z0 Z0;apply#[_,Z,g,dx,_,Z,h1,oy,_,Z,g,p,.str q.1,some q.1,hs,ts,qs,fp,Z,G,nd,Z,.inl #[q,hq,Z,?_]];exact#[_,Z,_,Z,zl,λt ht=>k t ht]
def Gu(L:Addr):List (Str × Addr):=[("goods",L+1)]
theorem Pb{L f:Addr}{cd:Aa}:closureFor (jS pH) (PyProof.Rows.envOfC qk (aX hZ) L f cd)=pure (Gu L):=by rfl
theorem Pe{L f:Addr}{cd:Aa}:∀q∈Gu L,(PyProof.Rows.envOfC qk (aX hZ) L f cd).cells.lookup q.1\q.2:=by
 intro q hq;simp only[Gu,cw,List.not_mem_nil,or_false] at hq;rcases hq with rfl;rfl
theorem LP{L:Addr}:∀x∈A6,∃c,(Gu L).lookup x\c:=by
 intro x hx;simp only[A6,cw,List.not_mem_nil,or_false] at hx;rcases hx with rfl;exact#[_,Z]
theorem LM:∀x∈A6,(aX hZ).names.lookup x\.cell:=by decide +kernel
theorem rX:bq ["goods","placed","found","piece"] j7 (aX hZ):=bB
def B2(H:Hp)(ns:ae)(ad:Str->Addr)(g:Str->ae):Prop:=(∀h∈ns,H (ad h)\.lst ((g h).map V.str))/\∀h∈ns,∀h'∈ns,ad h=ad h'->h=h'
inductive nA (K:af) (CG CW T:Addr) (vs:ag) (H:Hp) (Q:VK) (E:XK):Prop
 |mk:∀(g p d:Addr) (hs:Xa) (ts:Xb) (qs:aK) (fp:ai) (f:ao),vs=[.ref g,.ref d]->pU K CG CW H g p d hs ts qs fp f->(∀q∈qs,0<=q.2.1/\q.2.1<=1000000000)->cn H T xX->(∀d' ad H',aM T H H'->cn H' T xX->H d'=none->H' d'\.dK (dP (az hs) λh=>.ref (ad h))->B2 H' (az hs) ad (eC qs f)->(∀h∈az hs,H (ad h)=none)->Q (.ref d') H')->nA K CG CW T vs H Q E
theorem cn.putL{H:Hp}{T a:Addr}{q:Str}{xs:ag}{o:HO}(h:cn H T q)(ha:H a\.lst xs):cn (upd H a o) T q:=by
 let#[es,e,c]:=h;apply⟨es,by rw[aC (cb e ha nofun)];exact e,λx hx=>?_⟩;rw[aC (λz=>by have:=c x hx;rw[z,ha] at this;cases this)];exact c x hx
theorem Bv{H:Hp}{d:Addr}{ns:ae}{g:Str->V}{n:Str}(h:H d\.dK (dP ns g))(m:n∈ns):fX H d (.str n) (some (g n)):=by
 have:=fX.k (k:=Sum.inr n) h;rw[GM m] at this;exact this
theorem IA{qs:aK}(nd:(qs.map (·.1)).Nodup){q:Pc}(h:q∈qs):hV qs q.1=q.2.1:=by
 apply io_ ?_ (bH.mpr ⟨q,h,rfl⟩);rw[cg];exact nd
theorem _q{f0 c0 CG CW CP T:Addr}{fd:Ae}(F:ko K qk qk hZ f0 c0 fd)(B:Bi mg)(TG:dI K CG)(TW:Txt K mg CW)(hC:PySem.W.CodeHd base c0 T)(ue:base.BuiltinsAt mg T)(cH:!br CW 1 "hands" gA (Dg K CW))(cW:!br CG 2 "weight" yM (BQ K CG CW CP)) :
  aj P w K mg base a9 6 f0 fd j7 (nA K CG CW T):=by
 apply F.ok rX (λvs H Q E h=>?_) (λA outer s H vs Q E hr h=>?_)
 ·let#[g,p,d,hs,ts,qs,fp,f,rfl,_]:=h;rfl
 let#[g,p,d,hs,ts,qs,fp,f,rfl,Pl,wq,tab,k]:=h;let hu:=fV hr;let sz:=bZ;have iX:bc 1 _:=hr.mono (by decide);refine' ⟨_,ax ?s1 (ax ?s2 (aA ?s3)),?kk⟩
 case' s1=>refine' bh 2 rX.nd (hG (BS Z) (by rfl) B.dict pS %[jy ["hand"] 1 [] (dN (wV cH TW.cl iX (dA (pv 0) Z))) (λfp s H=>eY (i:=0) (show (["hand"]:ae).Nodup by decide +kernel) Z (Or.inl Z)) (λfp s H=>gX) (λfp s H=>?e1)|0])
 case e1=>exact eM %[0,dH ba|0]
 case' s2=>refine' eR eE Z (dN ?l2) (cm 3 rX.nd) (aA ?b2)
 case l2=>exact TZ (px:="name") (cQ:=A6) (cl:=Gu s.heap.objs.size) (is:=[0]) (k:=3) Z (by rfl) B.sorted %[1|0] (SC (RW (P:=T) (c:=c0) Z Pb Z hC ue) RT) (k8_ TG cW) hr Pe LP LM Z
 case b2=>exact iE (iy ja xa xb vz (kL hu (pv 2) (kL hu (pv 1) (pv 3))) %[3|0])
 case s3=>exact aU (pv 2)
 let nd:=Pl.Gd.pB;have n8:(az hs).length<=8:=by have:=Pl.Gd.fI;have:=Pl.Gd.h8;omega
 let#[dx,dw,dy,vs,bP,h1,h2,h3,h4,h5,m1,m2,m3,m4,m5]:=id Pl.G.ex;let#[fi,d1,l2,d3,jA,as,ef,w1,_]:=id h2.ex;have gP:(cU d1 l2 d3).lookup ("hands":Str)=none:=iF _ _ _ Z0 Z0 Z0;apply#[_,Z,g,CG,dx,_,_,Z,h1,TG.cl,TG.nW,kK _ _ _,p,fi,_,Z,w1,gP,p,hs,ts,bP,Z,h2,λlh nh=>?_];let#[s1,e1]:=bg (o:=.lst ((az hs).map V.str)) nh;generalize upd H lh (.lst ((az hs).map V.str))=H1 at s1 e1 ⊢;apply#[lh,Z,#[_,.of e1],λD hD=>?_];apply jz (own:=1) (fv:=[]) (xs:=(az hs).map V.str) Z dW (λi out H'=>∃ad:Str->Addr,aa H1 H'/\H' D\.lst out/\kE K H' out (dP ((az hs).take i) λh=>.ref (ad h))/\B2 H' ((az hs).take i) ad (λ_=>[])/\∀h∈(az hs).take i,H1 (ad h)=none/\ad h≠D) #[λ_=>D,aa.new hD,aq,.nil,#[by simp,by simp],by simp] (λi out H' _ ⟨_,sm,_⟩=>.of (sm _ _ e1)) (λout H2 ⟨ad,s2,yB,pa,ls,fr⟩=>?_) (λi x out H' hx ⟨ad,sm,hd,pa,ls,fr⟩=>?_);rotate_left
 ·let#[n,hn,rfl]:=jc hx;have nn:n∉(az hs).take i:=OP nd hn;apply#[_,Z,Z,λNx hN=>dD ?_];apply#[_,Z,zl,λl nl=>?_];let#[s3,e3]:=bg (o:=.lst []) nl;generalize upd H' l (.lst [])=H3 at s3 e3 ⊢;apply#[zl,λt nt=>?_];let#[s4,e4]:=bg (o:=.tup [.str n,.ref l]) nt;generalize upd H3 t (.tup [.str n,.ref l])=H4 at s4 e4 ⊢;let qa:=s3.trans s4;let iY:=qa _ _ hd;have lD:l≠D:=λz=>by rw[z,hd] at nl;cases nl
  have Wi:∀h∈(az hs).take i,ad h≠l:=λh hh z=>by
   have:=ls.1 h hh;rw[z,nl] at this;cases this
  let lo:=bK pa;rw[je,cX] at lo
  have pD:∀{b:Addr} {zs:ag},H4 b\.tup zs->b≠D:=λhb z=>by
   rw[z,iY] at hb;cases hb
  have ne:∀h∈(az hs).take i,h≠n:=λh hh z=>nn (z▸hh);apply#[out,iY,by omega,hN (out++[.ref t]) _ #[λm=>if m=n then l else ad m,gY (sm.trans qa) hD,aq,?_,#[λh hh=>?_,λh hh h' t_ z=>?_],λh hh=>?_]]
  ·have e:dP ((az hs).take (i+1)) (λh=>.ref (if h=n then l else ad h))=dP ((az hs).take i) (λh=>.ref (ad h))++[(Sum.inr n,.ref l)]:=by
    rw[ij hn];unfold dP;rw[cj,fE,List.map_nil];dsimp only;rw[aH Z];congr 1;exact uF λm hm=>by rw[aB (ne m hm)]
   rw[e];exact jx (Paired.bL pa λy kv ⟨b,z,hb⟩=>#[b,z,by rw[aC (pD (qa _ _ hb))];exact qa _ _ hb]) (.cons #[t,Z,by rw[aC (pD e4)];exact e4] .nil)
  ·rw[ij hn] at hh;rcases eZ.mp hh with hh|hh
   ·dsimp only;rw[aB (ne h hh),aC (fr h hh).2];exact qa _ _ (ls.1 h hh)
   obtain rfl:h=n:=⇑hh
   dsimp only;rw[aH Z,aC lD];exact s4 _ _ e3
  ·rw[ij hn] at hh t_;dsimp only at z;rcases eZ.mp hh with a1|a1<;>rcases eZ.mp t_ with a2|a2
   ·rw[aB (ne h a1),aB (ne h' a2)] at z;exact ls.2 h a1 h' a2 z
   ·have a2:h'=n:=⇑a2
    rw[aB (ne h a1),aH a2] at z;exact absurd z (Wi h a1)
   ·have a1:h=n:=⇑a1
    rw[aB (ne h' a2),aH a1] at z;exact absurd z.symm (Wi h' a2)
   rw[show h=n by simpa using a1,show h'=n by simpa using a2]
  rw[ij hn] at hh;dsimp only;rcases eZ.mp hh with hh|hh
  ·rw[aB (ne h hh)];exact fr h hh
  obtain rfl:h=n:=⇑hh
  rw[aH Z];exact#[sm.free nl,lD]
 rw[au,eK] at pa ls fr;apply#[D,out,_,Z,yB,pa,by rw[je];omega,λdf LA=>?_]
 have mi:((dP (az hs) λh=>V.ref (ad h)).map (·.1)).Nodup:=by
  rw[GB,qE,pZ];exact nd.imp λn e=>n (g_ e)
 rw[BL mi];let#[s3,e3]:=bg (o:=.dK (dP (az hs) λh=>V.ref (ad h))) LA;lk;generalize upd H2 df (.dK (dP (az hs) λh=>V.ref (ad h)))=H3 at s3 e3 ⊢;let nK:=(s1.trans s2).trans s3;have Lz:H df=none:=(s1.trans s2).free LA;have T7:∀h∈az hs,H (ad h)=none:=λh hh=>s1.free (fr h hh).1;have RD:∀h∈az hs,H3 (ad h)\.lst []:=λh hh=>s3 _ _ (ls.1 h hh);let inj:=ls.2;clear s1 s2 s3 e1 pa ls fr yB nh hD LA;apply#[_,Z,EE (yQ ?_)];apply RP (tab.same nK) Z Z Z Z λfl c' H4 b4 fH wA CB=>?_;let#[tv,hT]:=fD tab
 have neT:∀{b:Addr} {o:HO},H3 b\o->(∀vs,o≠.tbl vs)->b≠T:=λ{b o} e n z=>by
  rw[z,nK _ _ hT] at e;exact n _ (eF e).symm
 have g6:NT H H4:=λb o e n=>b4 _ _ (nK _ _ e) (neT (nK _ _ e) n);have RC:∀h∈az hs,H4 (ad h)\.lst []:=λh hh=>b4 _ _ (RD h hh) (neT (RD h hh) nofun);let e4:=b4 _ _ e3 (neT e3 nofun);have fZ:aM T H H4:=λb o e n=>b4 _ _ (nK _ _ e) n;apply#[.ref d,fl,c',(qs.map (·.1)).map V.str,EV qs,[false,true],[.ref g],Z,Z,wA,CB,.inr #[d,_,Z,g6.dK Pl.hd,?_],by rw[au,au];exact Pl.bS,#[by decide,λk hk=>?_],Z,λH' x sm hx=>?_,λl zs H5 s5 nl uY pz ek=>?_]
 ·show _=((qs.map (·.1)).map _).map _;generalize qs.map (·.1)=Ez;rw[cg];rfl
 ·let#[v,hv,rfl]:=bH.mp hk;let#[n,_,rfl]:=bH.mp hv;rfl
 ·let#[n,hn,rfl]:=bH.mp hx;let#[q,hq,rfl]:=bH.mp hn;apply#[g,p,q,hs,ts,qs,fp,Z,Z,(Pl.G.nt g6).same sm,Pl.nd,hq,(wq q hq).1,(wq q hq).2,λt nt=>#[aa.new nt,t,Z,?_]];rw[aq];show _\HO.tup [.int (-(hV qs q.1)),.str q.1];rw[IA Pl.nd hq]
 rw[ZX pz ek];have hl:upd H5 l (.lst ((mq qs).map V.str)) l\.lst ((mq qs).map V.str):=aq;have s6:aa H4 (upd H5 l (.lst ((mq qs).map V.str))):=s5.trans (aa.new nl)
 have _b:∀h∈az hs,ad h≠l:=λh hh z=>by
  have:=RC h hh;rw[z,uY] at this;cases this
 generalize upd H5 l (.lst ((mq qs).map V.str))=H6 at hl s6 ⊢
 have RG:(mq qs).length<64:=by
  rw[(Gx qs).length_eq,au];exact Pl.bS
 have dT:d≠T:=λz=>by
  have:=Pl.hd;rw[z,hT] at this;cases this
 apply#[l,Z,#[_,.of hl],hU (K:=K) (a:=l) (xs:=(mq qs).map V.str) (λi σ H'=>∃v3:aI,σ=[some (.ref g),some (.ref d),some (.ref df),v3]/\aM T H H'/\cn H' T xX/\H' df\.dK (dP (az hs) λh=>V.ref (ad h))/\H' l\.lst ((mq qs).map V.str)/\B2 H' (az hs) ad (λh=>((mq qs).take i).filter λn=>decide (f n=h))) #[none,Z,λb o e n=>s6 _ _ (fZ b o e n),fH.same s6,s6 _ _ e4,hl,λh hh=>s6 _ _ (RC h hh),inj] (λi σ H' _ ⟨_,_,_,_,_,z,_⟩=>.of z) ?_ ?_]
 ·rintro i x σ H' hx ⟨v3,rfl,bT,jC,ub,SG,ls⟩;let#[n,hn,rfl]:=jc hx;have nm:n∈qs.map (·.1):=(Gx qs).mem_iff.mp (dC hn);have fm:f n∈az hs:=(iH hs).mem_iff.mpr (Pl.at_ n nm);let jX:=bT _ _ Pl.hd dT;let la:=ls.1 (f n) fm;lk;apply#[_,Z,_,Z,_,Z,d,_,Z,Bv jX nm,df,_,Z,Bv ub fm,.inl #[Z,_,.of la],_,Z,ad (f n),_,_,Z,Z,la,?_,?_]
  ·rw[au];have:=List.length_filter_le (λn'=>decide (f n'=f n)) ((mq qs).take i);rw[cX] at this;dsimp only;omega
  apply#[_,Z,λb o e ne=>?_,cn.putL jC la,?_,?_,λh hh=>?_,inj]
  ·rw[aC (bw e (T7 _ fm))];exact bT b o e ne
  ·rw[aC (cb ub la nofun)];exact ub
  ·rw[aC (_b _ fm).symm];exact SG
  by_cases z:h=f n
  ·subst z;dsimp only;rw[aq,ij hn,List.filter_append,List.filter_cons_of_pos Z2,List.filter_nil,cj];rfl
  dsimp only;rw[aC (λy=>z (inj h hh _ fm y)),ij hn,List.filter_append,List.filter_cons_of_neg ⇑(λy=>z y.symm),List.filter_nil,zk];exact ls.1 h hh
 rintro σ H' ⟨v3,rfl,bT,jC,ub,SG,ls⟩;rw[au,eK] at ls;exact#[_,Z,k df ad H' bT jC Lz ub ls T7]
end
end Ev
namespace Ev
open PySem L2
abbrev lQ:Stmt:=ju Jb 0
abbrev sJ:Stmt:=ju Jb 1
abbrev lW:Stmt:=ju Jb 2
abbrev vj:Stmt:=ju Jb 3
def dO(g dl dv dp:Addr):List (Str × V):=aE Bo (.ref dp) (aE oN (.ref dv) (aE iA (.ref dl) (aE "wares" (.ref g) [])))
theorem gi(g dl dv dp:Addr):(dO g dl dv dp).lookup ("wares":Str)\.ref g:=by
 unfold dO;rw[e_,e_,e_,e_,aB Z0,aB Z0,aB Z0,aH Z]
theorem Ef(g dl dv dp:Addr):(dO g dl dv dp).lookup (iA:Str)\.ref dl:=by
 unfold dO;rw[e_,e_,e_,aB Z0,aB Z0,aH Z]
theorem K_(g dl dv dp:Addr):(dO g dl dv dp).lookup (oN:Str)\.ref dv:=by
 unfold dO;rw[e_,e_,aB Z0,aH Z]
theorem Ee(g dl dv dp:Addr):(dO g dl dv dp).lookup (Bo:Str)\.ref dp:=by
 unfold dO;rw[e_,aH Z]
theorem CV(g dl dv dp:Addr){m:Str}(h1:¬m="wares")(h2:¬m=iA)(h3:¬m=oN)(h4:¬m=Bo):(dO g dl dv dp).lookup m=none:=by
 unfold dO;rw[e_,e_,e_,e_,aB h4,aB h3,aB h2,aB h1];rfl
structure fW (K:af) (CS:Addr):Prop where
 cl:mT K CS
 nW:kC K CS "wares"
 nL:kC K CS iA
 nV:kC K CS oN
 nP:kC K CS Bo
structure Wd (hs:Xa) (ts:Xb) (qs:aK) (f:ao):Prop where
 Gd:Good hs ts
 nd:(qs.map (·.1)).Nodup
 bS:qs.length<64
 at_:∀n∈qs.map (·.1),f n∈hs.map (·.1)
 wq:∀q∈qs,0<=q.2.1/\q.2.1<=1000000000
structure iz (K:af) (CS CG CW:Addr) (H:Hp) (v g p:Addr) (hs:Xa) (ts:Xb) (qs:aK) (fp:ai) (f:ao):Prop where
 ex:∃(dx dl dv dp:Addr) (ad:Str->Addr),H v\.ins CS dx (dO g dl dv dp)/\gq K CG CW H g p hs ts qs fp/\H dl\.dK (wj hs qs f)/\H dv\.dK (dP (az hs) λh=>.int (uZ hs qs f h))/\H dp\.dK (dP (az hs) λh=>.ref (ad h))/\∀h∈az hs,H (ad h)\.lst ((eC qs f h).map V.str)
theorem iz.nt{K:af}{CS CG CW:Addr}{H G:Hp}{v g p:Addr}{hs:Xa}{ts:Xb}{qs:aK}{fp:ai}{f:ao}(S:iz K CS CG CW H v g p hs ts qs fp f)(s:NT H G):iz K CS CG CW G v g p hs ts qs fp f:=by
 let#[dx,dl,dv,dp,ad,h1,h2,h3,h4,h5,h6]:=S.ex;exact#[dx,dl,dv,dp,ad,s.ins h1,h2.nt s,s.dK h3,s.dK h4,s.dK h5,λh hh=>s.lst (h6 h hh)]
theorem iz.same{K:af}{CS CG CW:Addr}{H G:Hp}{v g p:Addr}{hs:Xa}{ts:Xb}{qs:aK}{fp:ai}{f:ao}(S:iz K CS CG CW H v g p hs ts qs fp f)(s:aa H G):iz K CS CG CW G v g p hs ts qs fp f:=S.nt (NT.of s)
abbrev lo(qs:aK)(f:ao)(h:Str):Int:=ld f (qs.map fY) h
def iB(hs:Xa)(qs:aK)(f:ao)(a b:Str):Int:=lo qs f a * strOf hs b - lo qs f b * strOf hs a
def i9(hs:Xa)(a b:Str):Int:=strOf hs a+strOf hs b
section v
theorem vR:bq CN CN (aX lQ):=bB
inductive Hc (K:af) (CS CG CW T:Addr) (vs:ag) (H:Hp) (Q:VK) (E:XK):Prop
 |mk:∀(v dx g p d:Addr) (hs:Xa) (ts:Xb) (qs:aK) (fp:ai) (f:ao),vs=[.ref v,.ref g,.ref d]->H v\.ins CS dx []->v∉fp->pU K CG CW H g p d hs ts qs fp f->Wd hs ts qs f->cn H T xX->(∀H',(∀b o,H b\o->b≠v->b≠T->H' b\o)->cn H' T xX->iz K CS CG CW H' v g p hs ts qs fp f->Q .non H')->Hc K CS CG CW T vs H Q E
theorem is_{f0 CS CG CW T:Addr}{fd:Ae}(F:bf K "__init__" "Sight.__init__" lQ f0 fd)(TS:fW K CS)(GY:!aZ 3 "loads_at" j7 (Hl K CG CW))(JU:!aZ 4 "levels_at" j7 (J7 K CG CW))(PR:!aZ 6 qk j7 (nA K CG CW T)) :
  aj P w K mg base a9 7 f0 fd CN (Hc K CS CG CW T):=by
 exists F.bF vR;let#[v,dx,g,p,d,hs,ts,qs,fp,f,rfl,hv,xw,Pl,W,tab,k]:=h;refine' #[_,ax ?s1 (ax ?s2 (ax ?s3 (aA ?s4))),?kk]
 case s1=>exact vw (pv 0) (pv 1) Z
 case s2=>exact vw (pv 0) (aN GY hr %[1,2|0]) Z
 case s3=>exact vw (pv 0) (aN JU hr %[1,2|0]) Z
 case s4=>exact vw (pv 0) (aN PR hr %[1,2|0]) Z
 have dv:d≠v:=cb Pl.hd hv nofun;have tO:∀{G:Hp},(∀b o,H b\o->b≠v->G b\o)->pU K CG CW G g p d hs ts qs fp f:=λ{G} up=>#[Pl.G.keep (λb hb o e=>up b o e (λz=>xw (z▸hb))) (λb xs e=>up b _ e (cb e hv nofun)),Pl.Gd,Pl.i4,up _ _ Pl.hd dv,Pl.at_,Pl.nd,Pl.bS];apply#[_,Z,_,Z,v,CS,dx,_,Z,hv,TS.cl,TS.nW,by show 0<1000;decide,?_];have up1:∀b o,H b\o->b≠v->upd H v (.ins CS dx (aE "wares" (.ref g) [])) b\o:=λb o e n=>by rw[aC n];exact e
 have oo:upd H v (.ins CS dx (aE "wares" (.ref g) [])) v\.ins CS dx (aE "wares" (.ref g) []):=aq;have CL:∀{b},upd H v (.ins CS dx (aE "wares" (.ref g) [])) b=none->b≠v:=λ{b} e z=>by rw[z,aq] at e;cases e
 generalize upd H v (.ins CS dx (aE "wares" (.ref g) []))=H1 at up1 oo CL ⊢;apply#[_,Z,_,Z,g,p,d,hs,ts,qs,fp,f,Z,tO up1,λdl H2 s2 nl hl=>?_];let hv2:=s2 _ _ oo;have lv:dl≠v:=CL nl;apply#[_,Z,v,CS,dx,_,Z,hv2,TS.cl,TS.nL,by show 1<1000;decide,?_];have Kv:∀b o,H b\o->b≠v->upd H2 v (.ins CS dx (aE iA (.ref dl) (aE "wares" (.ref g) []))) b\o:=λb o e n=>by rw[aC n];exact s2 _ _ (up1 b o e n)
 have Sn:upd H2 v (.ins CS dx (aE iA (.ref dl) (aE "wares" (.ref g) []))) v\.ins CS dx (aE iA (.ref dl) (aE "wares" (.ref g) [])):=aq;have F7:∀{b},upd H2 v (.ins CS dx (aE iA (.ref dl) (aE "wares" (.ref g) []))) b=none->b≠v:=λ{b} e z=>by rw[z,aq] at e;cases e
 have oz:upd H2 v (.ins CS dx (aE iA (.ref dl) (aE "wares" (.ref g) []))) dl\.dK (wj hs qs f):=by rw[aC lv];exact hl
 generalize upd H2 v (.ins CS dx (aE iA (.ref dl) (aE "wares" (.ref g) [])))=H3 at Kv Sn F7 oz ⊢;apply#[_,Z,_,Z,g,p,d,hs,ts,qs,fp,f,Z,tO Kv,W.wq,λde H4 s4 ne he=>?_];let hv4:=s4 _ _ Sn;have ev:de≠v:=F7 ne;apply#[_,Z,v,CS,dx,_,Z,hv4,TS.cl,TS.nV,by show 2<1000;decide,?_];have uO:∀b o,H b\o->b≠v->upd H4 v (.ins CS dx (aE oN (.ref de) (aE iA (.ref dl) (aE "wares" (.ref g) [])))) b\o:=λb o e n=>by rw[aC n];exact s4 _ _ (Kv b o e n)
 have Sm:upd H4 v (.ins CS dx (aE oN (.ref de) (aE iA (.ref dl) (aE "wares" (.ref g) [])))) v\.ins CS dx (aE oN (.ref de) (aE iA (.ref dl) (aE "wares" (.ref g) []))):=aq;have oH:∀{b},upd H4 v (.ins CS dx (aE oN (.ref de) (aE iA (.ref dl) (aE "wares" (.ref g) [])))) b=none->b≠v:=λ{b} e z=>by rw[z,aq] at e;cases e
 have AO:upd H4 v (.ins CS dx (aE oN (.ref de) (aE iA (.ref dl) (aE "wares" (.ref g) [])))) dl\.dK (wj hs qs f):=by rw[aC lv];exact s4 _ _ oz
 have SU:upd H4 v (.ins CS dx (aE oN (.ref de) (aE iA (.ref dl) (aE "wares" (.ref g) [])))) de\.dK (dP (az hs) λh=>.int (uZ hs qs f h)):=by rw[aC ev];exact he
 generalize upd H4 v (.ins CS dx (aE oN (.ref de) (aE iA (.ref dl) (aE "wares" (.ref g) []))))=H5 at uO Sm oH AO SU ⊢;let#[es,hT,IT]:=id tab;have Tv:T≠v:=cb hT hv nofun;have KH:cn H5 T xX:=#[es,uO _ _ hT Tv,λe he=>uO _ _ (IT e he) (λz=>by have:=IT e he;rw[z,hv] at this;cases this)];let Wl:=tO uO;apply#[_,Z,_,Z,g,p,d,hs,ts,qs,fp,f,Z,Wl,W.wq,KH,λdp ad H6 b6 zv np hp ls fra=>?_];have pA:NT H5 H6:=b6.nt (uO _ _ hT Tv);let IC:=pA.ins Sm;have YU:dp≠v:=oH np;have av:∀h∈az hs,ad h≠v:=λh hh=>oH (fra h hh);apply#[_,Z,v,CS,dx,_,Z,IC,TS.cl,TS.nP,by show 3<1000;decide,?_];apply k _ (λb o e n1 n2=>?_) ?_ #[dx,dl,de,dp,ad,aq,(Wl.G.nt pA).keep (λb hb o e=>?_) (λb xs e=>?_),?_,?_,?_,λh hh=>?_]
 ·rw[aC n1];exact b6 _ _ (uO b o e n1) n2
 ·let#[es,e1,e2]:=zv;exact#[es,by rw[aC (cb e1 IC nofun)];exact e1,λe he=>by rw[aC (λz=>by have:=e2 e he;rw[z,IC] at this;cases this)];exact e2 e he]
 ·rw[aC (λz:b=v=>xw (z▸hb))];exact e
 ·rw[aC (cb e IC nofun)];exact e
 ·rw[aC lv];exact pA.dK AO
 ·rw[aC ev];exact pA.dK SU
 ·rw[aC YU];exact hp
 rw[aC (av h hh)];exact ls.1 h hh
theorem rV:bq ["self","one","other","web"] kG (aX sJ):=bB
inductive C4 (K:af) (CS CG CW:Addr) (vs:ag) (H:Hp) (Q:VK) (E:XK):Prop
 |mk:∀(v g p:Addr) (a b:Str) (hs:Xa) (ts:Xb) (qs:aK) (fp:ai) (f:ao),vs=[.ref v,.str a,.str b]->iz K CS CG CW H v g p hs ts qs fp f->Wd hs ts qs f->a∈az hs->b∈az hs->Q (.int (iB hs qs f a b)) H->C4 K CS CG CW vs H Q E
theorem k9_{f0 CS CG CW:Addr}{fd:Ae}(F:bf K "lead" "Sight.lead" sJ f0 fd)(TS:fW K CS)(TG:dI K CG)(TW:Txt K mg CW)(cS:!br CW 2 "strength" jw (Dw K CW)):!aj a9 3 f0 fd kG (C4 K CS CG CW):=by
 exists F.bF rV;let#[v,g,p,a,b,hs,ts,qs,fp,f,rfl,S,W,ha,hb,k]:=h;let hu:=fV hr;refine' #[_,ax ?s1 (aA ?s2),?kk]
 case s1=>exact bh 3 rV.nd (dA (dA (pv 0) Z) Z)
 case s2=>exact aU (bG yV (bG qz (kL hu (dA (pv 0) Z) (pv 1)) (ft cS TW.cl hr (pv 3) %[2|0])) (bG qz (kL hu (dA (pv 0) Z) (pv 2)) (ft cS TW.cl hr (pv 3) %[1|0])))
 let#[dx,dl,dv,dp,ad,h1,G,h3,h4,h5,h6]:=S.ex;let#[ib,dw,dy,vs,bP,g1,g2,_]:=id G.ex;let#[fi,d1,l2,d3,jA,as,ef,w1,_]:=id g2.ex;have gP:(cU d1 l2 d3).lookup ("strength":Str)=none:=iF _ _ _ Z0 Z0 Z0;let la:=Iz W.wq W.bS f a;let lb:=Iz W.wq W.bS f b;apply#[_,Z,v,CS,dx,_,_,Z,h1,TS.cl,TS.nW,gi _ _ _ _,g,CG,ib,_,_,Z,g1,TG.cl,TG.nW,kK _ _ _,?_];lk;apply#[_,Z,v,CS,dx,_,_,Z,h1,TS.cl,TS.nL,Ef _ _ _ _,_,Z,dl,_,Z,Bv h3 ha,_,Z,p,fi,_,Z,w1,gP,_,Z,p,b,strOf hs b,hs,ts,bP,Z,g2,W.Gd.yn,yY ((iH hs).mem_iff.mp hb),?_];apply#[_,_,Z,Z,.inl #[by omega,by omega],?_];apply#[_,Z,v,CS,dx,_,_,Z,h1,TS.cl,TS.nL,Ef _ _ _ _,_,Z,dl,_,Z,Bv h3 hb,_,Z,p,fi,_,Z,w1,gP,_,Z,p,a,strOf hs a,hs,ts,bP,Z,g2,W.Gd.yn,yY ((iH hs).mem_iff.mp ha),?_];exact#[_,_,Z,Z,.inl #[by omega,by omega],_,_,Z,Z,k]
theorem vU:bq kG kG (aX lW):=bB
inductive JF (K:af) (CS CG CW:Addr) (vs:ag) (H:Hp) (Q:VK) (E:XK):Prop
 |mk:∀(v g p:Addr) (a b:Str) (hs:Xa) (ts:Xb) (qs:aK) (fp:ai) (f:ao),vs=[.ref v,.str a,.str b]->iz K CS CG CW H v g p hs ts qs fp f->Wd hs ts qs f->a∈az hs->b∈az hs->Q (.int (i9 hs a b)) H->JF K CS CG CW vs H Q E
theorem i9_{f0 CS CG CW:Addr}{fd:Ae}(F:bf K "joint_strength" "Sight.joint_strength" lW f0 fd)(TS:fW K CS)(TG:dI K CG)(TW:Txt K mg CW)(cS:!br CW 2 "strength" jw (Dw K CW)):!aj a9 3 f0 fd kG (JF K CS CG CW):=by
 exists F.bF vU;let#[v,g,p,a,b,hs,ts,qs,fp,f,rfl,S,W,ha,hb,k]:=h;refine' #[_,aA ?s2,?kk]
 case s2=>exact aU (bG fO (ft cS TW.cl hr (dA (dA (pv 0) Z) Z) %[1|0]) (ft cS TW.cl hr (dA (dA (pv 0) Z) Z) %[2|0]))
 let#[dx,dl,dv,dp,ad,h1,G,h3,h4,h5,h6]:=S.ex;let#[ib,dw,dy,vs,bP,g1,g2,_]:=id G.ex;let#[fi,d1,l2,d3,jA,as,ef,w1,_]:=id g2.ex;have gP:(cU d1 l2 d3).lookup ("strength":Str)=none:=iF _ _ _ Z0 Z0 Z0;apply#[_,Z,v,CS,dx,_,_,Z,h1,TS.cl,TS.nW,gi _ _ _ _,g,CG,ib,_,_,Z,g1,TG.cl,TG.nW,kK _ _ _,p,fi,_,Z,w1,gP,_,Z,p,a,strOf hs a,hs,ts,bP,Z,g2,W.Gd.yn,yY ((iH hs).mem_iff.mp ha),?_];apply#[_,Z,v,CS,dx,_,_,Z,h1,TS.cl,TS.nW,gi _ _ _ _,g,CG,ib,_,_,Z,g1,TG.cl,TG.nW,kK _ _ _,p,fi,_,Z,w1,gP,_,Z,p,b,strOf hs b,hs,ts,bP,Z,g2,W.Gd.yn,yY ((iH hs).mem_iff.mp hb),?_];exact#[_,_,Z,Z,k]
end
end Ev
namespace Ev
open PySem L2
theorem qB(a b:Str):decide (V.str a=V.str b)=decide (a=b):=by
 by_cases z:a=b
 ·simp[z]
 have:¬(V.str a=V.str b):=λe=>z (V.str.inj e);simp[z,this]
abbrev nb(hs:Xa)(ts:Xb)(h:Str):ae:=near (az hs) (aQ ts) h
def kR(hs:Xa)(qs:aK)(f:ao)(n:Str):aD:=[.inl (uZ hs qs f n),.inr n]
def dh(hs:Xa)(ts:Xb)(qs:aK)(f:ao)(h:Str):ae:=(aY ((nb hs ts h).map (kR hs qs f))).map jH
def EW(hs:Xa)(qs:aK)(f:ao):V->aD
 |.str n=>kR hs qs f n
 |_=>[]
theorem kM_{hs:Xa}{ts:Xb}{qs:aK}{f:ao}{h:Str}{zs:ag}(p:zs.Perm ((nb hs ts h).map V.str))(e:zs.map (EW hs qs f)=aY (((nb hs ts h).map V.str).map (EW hs qs f))):zs=(dh hs ts qs f h).map V.str:=by
 let#[ms,rfl,_]:=U1 p;have e1:(ms.map V.str).map (EW hs qs f)=ms.map (kR hs qs f):=by rw[cg];rfl
 have e2:((nb hs ts h).map V.str).map (EW hs qs f)=(nb hs ts h).map (kR hs qs f):=by
  rw[cg];rfl
 rw[e1,e2] at e
 have em:(ms.map (kR hs qs f)).map jH=ms:=by
  rw[cg];exact List.map_id' ms
 unfold dh;rw[<- e,em]
theorem Dq(hs:Xa)(ts:Xb)(qs:aK)(f:ao)(h:Str):(dh hs ts qs f h).Perm (nb hs ts h):=by
 unfold dh;let p:=(kP ((nb hs ts h).map (kR hs qs f))).map jH
 have e:((nb hs ts h).map (kR hs qs f)).map jH=nb hs ts h:=by
  rw[cg];exact List.map_id' _
 rw[e] at p;exact p
theorem Bn{hs:Xa}{ts:Xb}{h n:Str}(m:n∈nb hs ts h):n∈az hs:=(List.mem_filter.mp m).1
theorem C5(hs:Xa)(ts:Xb)(h:Str):(nb hs ts h).length<=(az hs).length:=List.length_filter_le ..
abbrev ji:Str:="Sight.rising_neighbours.<locals>.<lambda>"
def pI:Expr:=RJ (Le (Eu (g9 vj) 0))
abbrev A7:ae:=gA
theorem F6:∀y∈(jS pI).names,y.2=.free->y.1∈A7:=by decide +kernel
theorem zN:GH ["other"] A7 (jS pI):=#[by decide +kernel,Z,Z,Z,by decide +kernel,by decide +kernel,λx h=>F6 (x,.free) (pT h) Z,by decide +kernel]
section v
inductive ny (K:af) (CS CG CW:Addr) (vs:ag) (gs:ag) (H:Hp) (Q:VK):Prop
 |mk:∀(v g p:Addr) (n:Str) (hs:Xa) (ts:Xb) (qs:aK) (fp:ai) (f:ao),vs=[.str n]->gs=[.ref v]->iz K CS CG CW H v g p hs ts qs fp f->n∈az hs->(∀t,H t=none->Q (.ref t) (upd H t (.tup [.int (uZ hs qs f n),.str n])))->ny K CS CG CW vs gs H Q
def zF(K:af)(CS CG CW:Addr):ag->ag->Hp->VK->XK->Prop:=λvs gs H Q _=>ny K CS CG CW vs gs H Q
theorem _O{CS CG CW:Addr}(TS:fW K CS):!iK 1 ji (ER pI) (EO pI) (jS pI) ["other"] A7 (zF K CS CG CW):=by
 apply yd zN (λpm c' j3 cl us hl=>?_) (λA outer s H f0 cd cl vs gs Q E hr h hp=>?_)
 ·match us,hl with
  |[_],_=>rfl
 let#[v,g,p,n,hs,ts,qs,fp,f,rfl,rfl,S,hn,k]:=h;let hu:=fV hr;let#[dx,dl,dv,dp,ad,h1,G,h3,h4,h5,h6]:=S.ex;apply#[_,eM %[kL hu (dA (pv 1) Z) (pv 0),0|0],?_];exact#[_,Z,v,CS,dx,_,_,Z,h1,TS.cl,TS.nV,K_ _ _ _ _,_,Z,dv,_,Z,Bv h4 hn,_,Z,zl,λt ht=>k t ht]
def Gv(L:Addr):List (Str × Addr):=[("self",L+1)]
theorem Pd{L f:Addr}{cd:Aa}:closureFor (jS pI) (PyProof.Rows.envOfC "Sight.rising_neighbours" (aX vj) L f cd)=pure (Gv L):=by rfl
theorem Pg{L f:Addr}{cd:Aa}:∀q∈Gv L,(PyProof.Rows.envOfC "Sight.rising_neighbours" (aX vj) L f cd).cells.lookup q.1\q.2:=by
 intro q hq;simp only[Gv,cw,List.not_mem_nil,or_false] at hq;rcases hq with rfl;rfl
theorem LQ{L:Addr}:∀x∈A7,∃c,(Gv L).lookup x\c:=by
 intro x hx;simp only[A7,cw,List.not_mem_nil,or_false] at hx;rcases hx with rfl;exact#[_,Z]
theorem LN:∀x∈A7,(aX vj).names.lookup x\.cell:=by decide +kernel
theorem zH:bq jw jw (aX vj):=bB
inductive Gk (K:af) (CS CG CW T:Addr) (vs:ag) (H:Hp) (Q:VK) (E:XK):Prop
 |mk:∀(v g p:Addr) (h:Str) (hs:Xa) (ts:Xb) (qs:aK) (fp:ai) (f:ao),vs=[.ref v,.str h]->iz K CS CG CW H v g p hs ts qs fp f->Wd hs ts qs f->h∈az hs->cn H T ji->(∀l H',aM T H H'->cn H' T ji->H l=none->H' l\.lst ((dh hs ts qs f h).map V.str)->Q (.ref l) H')->Gk K CS CG CW T vs H Q E
theorem jD_{f0 c0 CS CG CW T:Addr}{fd:Ae}(F:ko K Bt "Sight.rising_neighbours" vj f0 c0 fd)(B:Bi mg)(TS:fW K CS)(TG:dI K CG)(TW:Txt K mg CW)(hC:PySem.W.CodeHd base c0 T)(ue:base.BuiltinsAt mg T)(cN:!br CW 2 "neighbours" jw (JE K CW)) :
  aj P w K mg base a9 4 f0 fd jw (Gk K CS CG CW T):=by
 apply F.ok zH (λvs H Q E h=>?_) (λA outer s H vs Q E hr h=>?_)
 ·let#[v,g,p,h,hs,ts,qs,fp,f,rfl,_]:=h;rfl
 let#[v,g,p,h,hs,ts,qs,fp,f,rfl,S,W,hh,tab,k]:=h;have tW:bc 2 _:=hr.mono (by decide);refine' ⟨_,aA (aU ?l2),?kk⟩
 case l2=>exact TZ (px:="other") (cQ:=A7) (cl:=Gv s.heap.objs.size) (is:=[0]) (k:=1) Z (by rfl) B.sorted %[ft cN TW.cl tW (dA (dA (pv 0) Z) Z) %[1|0]|0] (SC (RW (P:=T) (c:=c0) Z Pd Z hC ue) RT) (_O (CG:=CG) (CW:=CW) TS) hr Pg LQ LN Z
 let#[dx,dl,dv,dp,ad,h1,G,h3,h4,h5,h6]:=S.ex;let#[ib,dw,dy,vs,bP,g1,g2,_]:=id G.ex;let#[fi,d1,l2,d3,jA,as,ef,w1,_]:=id g2.ex;have gP:(cU d1 l2 d3).lookup ("neighbours":Str)=none:=iF _ _ _ Z0 Z0 Z0;apply#[_,Z,v,CS,dx,_,_,Z,h1,TS.cl,TS.nW,gi _ _ _ _,g,CG,ib,_,_,Z,g1,TG.cl,TG.nW,kK _ _ _,p,fi,_,Z,w1,gP,_,Z,p,h,hs,ts,bP,Z,g2,W.Gd.pB,(iH hs).mem_iff.mp hh,λln nn=>?_];let#[s1,e1]:=bg (o:=.lst ((nb hs ts h).map V.str)) nn;show k4 _ (upd H ln (.lst ((nb hs ts h).map V.str))) _;generalize upd H ln (.lst ((nb hs ts h).map V.str))=H1 at s1 e1 ⊢;apply EE (yQ ?_);apply RP (tab.same s1) Z Z Z Z λfl c' H4 b4 fH wA CB=>?_;let#[tv,hT]:=fD tab;have g6:NT H1 H4:=b4.nt (s1 _ _ hT);let S4:=(S.same s1).nt g6;have n8:(nb hs ts h).length<=8:=by have:=C5 hs ts h;have:=W.Gd.fI;have:=W.Gd.h8;omega
 apply#[.ref ln,fl,c',(nb hs ts h).map V.str,EW hs qs f,[false,true],[.ref v],Z,Z,wA,CB,.inl #[ln,Z,.of (g6.lst e1)],by rw[au];omega,#[by decide,λk hk=>?_],Z,λH' x sm hx=>?_,λl zs H5 s5 nl uY pz ek=>?_]
 ·let#[v,hv,rfl]:=bH.mp hk;let#[n,_,rfl]:=bH.mp hv;rfl
 ·let#[n,hn,rfl]:=bH.mp hx;apply#[v,g,p,n,hs,ts,qs,fp,f,Z,Z,S4.same sm,Bn hn,λt nt=>#[aa.new nt,t,Z,?_]];rw[aq];rfl
 rw[kM_ pz ek];have s6:aa H4 (upd H5 l (.lst ((dh hs ts qs f h).map V.str))):=s5.trans (aa.new nl);apply k l _ (λb o e n=>s6 _ _ (b4 _ _ (s1 _ _ e) n)) (fH.same s6) ?_ aq;cases z:H l with
 |none=>rfl
 |some o=>
  by_cases y:l=T
  ·let#[es,e,_]:=fH;rw[y,e] at uY;cases uY
  rw[b4 _ _ (s1 _ _ z) y] at uY;cases uY
theorem zQ:bq oX oX (aX sQ):=bB
def pN(g:Str)(a b:Int):Bool:=if g="high" then decide (0<a) else if g="fall" then decide (b<2 * a) else decide (b<=a)
def rD:Sp:=λvs H Q _=>∃(g:Str) (a b:Int),vs=[.str g,.int a,.int b]/\Q (.bl (pN g a b)) H
theorem jV_{f0:Addr}{fd:Ae}(F:bf K "fits" "fits" sQ f0 fd):!aj a9 1 f0 fd oX rD:=by
 exists F.bF zQ;let#[g,a,b,rfl,k]:=h;refine' #[_,ax ?s1 (ax ?s2 (aA ?s3)),?kk]
 case s1=>exact bx (bY gU (pv 0) dc) (aA (aU (oM yH (pv 1) ay))) bJ
 case s2=>exact bx (bY gU (pv 0) dc) (aA (aU (oM yH (bG qz ay (pv 1)) (pv 2)))) bJ
 case s3=>exact aU (oM Iu (pv 1) (pv 2))
 unfold pN at k;apply#[_,Z,Z,_,Z,?_];rw[qB];apply aL (λc=>?_) (λc=>?_)
 ·have c:g="high":=wZ c;rw[aH c] at k;exact#[_,Z,_,_,Z,Z,k]
 have c:¬g="high":=λz=>c (b_ z);rw[aB c] at k;apply#[_,Z,Z,_,Z,?_];rw[qB];apply aL (λc=>?_) (λc=>?_)
 ·have c:g="fall":=wZ c;rw[aH c] at k;exact#[_,Z,_,_,Z,Z,.inl #[by decide,by decide],_,Z,_,_,Z,Z,k]
 have c:¬g="fall":=λz=>c (b_ z);rw[aB c] at k;exact#[_,Z,_,Z,_,_,Z,Z,k]
end
end Ev
namespace Ev
open PySem L2
abbrev Mv:=Str × Str × Str
def kM(m:Mv):aD:=[.inr m.1,.inr m.2.1,.inr m.2.2]
def Kt(qs:aK)(n:Str):Option (Xb):=match qs.find? λq=>decide (q.1=n) with
 |some q=>q.2.2
 |none=>none
theorem RK{qs:aK}(nd:(qs.map (·.1)).Nodup){q:Pc}(h:q∈qs):Kt qs q.1=q.2.2:=by
 unfold Kt;cases e:qs.find? λp=>decide (p.1=q.1) with
 |none=>
  have:=List.find?_eq_none.mp e q h;simp at this
 |some p=>
  let a:=List.mem_of_find?_eq_some e;let b:=List.find?_some e;have b:p.1=q.1:=wZ b;rw[UQ nd a h b]
def mj(hs:Xa)(ts:Xb)(qs:aK)(n a b:Str):Bool:=CI hs ts (Kt qs n) (some a) (some b)
def qf(hs:Xa)(ts:Xb)(qs:aK)(f:ao)(gd:Str)(gv:ae)(a b n:Str):Bool:=!decide (n∈gv)&&(pN gd (iB hs qs f a b) (hV qs n * i9 hs a b)&&mj hs ts qs n a b)
def gj(hs:Xa)(ts:Xb)(qs:aK)(f:ao)(gd:Str)(gv:ae)(a b:Str):List Mv:=match (eC qs f a).find? (qf hs ts qs f gd gv a b) with
 |some n=>[(n,a,b)]
 |none=>[]
theorem S_{α:Type}{p:α->Bool}:∀{l:List α} {i:Nat} {x:α},l[i]? = some x->p x=true->(∀y∈l.take i,p y=false)->l.find? p\x
 |a::l,0,x,h,hp,_=>by
  cases h;rw[List.find?_cons_of_pos hp]
 |a::l,i+1,x,h,hp,hn=>by
  have na:¬p a=true:=by rw[hn a Z2];decide
  rw[List.find?_cons_of_neg na];exact S_ ⇑h hp λy hy=>hn y (by simp[hy])
 |[],i,x,h,_,_=>by simp at h
theorem BH{qs:aK}{f:ao}{h n:Str}(m:n∈eC qs f h):n∈qs.map (·.1)/\f n=h:=by
 let#[a,b]:=List.mem_filter.mp m;exact#[(Gx qs).mem_iff.mp a,wZ b]
section v
theorem nE:bq ["sight","one","other","guard","given","lead","joint","piece"] kb (aX zY):=bB
inductive jF (K:af) (CS CG CW:Addr) (vs:ag) (H:Hp) (Q:VK) (E:XK):Prop
 |mk:∀(v g p lg:Addr) (a b gd:Str) (gv:ae) (hs:Xa) (ts:Xb) (qs:aK) (fp:ai) (f:ao),vs=[.ref v,.str a,.str b,.str gd,.ref lg]->iz K CS CG CW H v g p hs ts qs fp f->Wd hs ts qs f->a∈az hs->b∈az hs->H lg\.lst (gv.map V.str)->(∀l ys H',aa H H'->H l=none->H' l\.lst ys->bD K H' ys ((gj hs ts qs f gd gv a b).map kM)->Q (.ref l) H')->jF K CS CG CW vs H Q E
theorem kQ_{f0 CS CG CW CP:Addr}{fd:Ae}(F:bf K "heaviest_move" "heaviest_move" zY f0 fd)(TS:fW K CS)(TG:dI K CG)(cL:!br CS 3 "lead" kG (C4 K CS CG CW))(cJ:!br CS 3 "joint_strength" kG (JF K CS CG CW))(cF:!aZ 1 "fits" oX rD)(cW:!br CG 2 "weight" yM (BQ K CG CW CP))(cM:!br CG 3 "may_go" o4 (Je K CG CW CP)) :
  aj P w K mg base a9 4 f0 fd kb (jF K CS CG CW):=by
 exists F.bF nE;let#[v,g,p,lg,a,b,gd,gv,hs,ts,qs,fp,f,rfl,S,W,ha,hb,hg,k]:=h;let hu:=fV hr;let sz:=bZ;have tW:bc 2 _:=hr.mono (by decide);refine' #[_,?r0,?kk]
 case' r0=>refine' ax ?s1 ?r1
 case' r1=>refine' ax ?s2 ?r2
 case' r2=>refine' ax ?s3 (aA ?s4)
 case s1=>exact bh 5 nE.nd (ft cL TS.cl hr (pv 0) %[1,2|0])
 case s2=>exact bh 6 nE.nd (ft cJ TS.cl hr (pv 0) %[1,2|0])
 case' s3=>refine' eR eE Z (dN (kL hu (dA (pv 0) Z) (pv 1))) (cm 7 nE.nd) (aA ?b3)
 case' b3=>refine' bx (PW.pt (pW ?c1 (uB ?c2))) (aA ?b4) bJ
 case c1=>exact bY (UB ic (mK hr 0)) (pv 7) (pv 4) (by with_unfolding_all rfl)
 case c2=>exact di (aN cF hr %[3,5,bG qz (ft cW TG.cl tW (dA (pv 0) Z) %[7|0]) (pv 6)|0])
 case b4=>exact bx (di (ft cM TG.cl hr (dA (pv 0) Z) %[7,1,2|0])) (aA (aU (dH %[eM %[7,1,2|0]|0]))) bJ
 case s4=>exact aU (dH ba)
 let#[dx,dl,dv,dp,ad,h1,G,h3,h4,h5,h6]:=S.ex;have no:∀{m:Str},¬m="wares"->¬m=iA->¬m=oN->¬m=Bo->(dO g dl dv dp).lookup m=none:=λa b c d=>CV _ _ _ _ a b c d;apply#[_,Z,v,dx,_,Z,h1,no Z0 Z0 Z0 Z0,_,Z,_,Z,v,g,p,a,b,hs,ts,qs,fp,f,Z,S,W,ha,hb,?_];lk;apply#[_,Z,v,dx,_,Z,h1,no Z0 Z0 Z0 Z0,_,Z,_,Z,v,g,p,a,b,hs,ts,qs,fp,f,Z,S,W,ha,hb,?_];lk;let hl:=h6 a ha;apply#[_,Z,v,CS,dx,_,_,Z,h1,TS.cl,TS.nP,Ee _ _ _ _,_,Z,dp,_,Z,Bv h5 ha,ad a,Z,#[_,.of hl],hU (K:=K) (a:=ad a) (xs:=(eC qs f a).map V.str) (λi σ H'=>∃v7:aI,σ=[some (.ref v),some (.str a),some (.str b),some (.str gd),some (.ref lg),some (.int (iB hs qs f a b)),some (.int (i9 hs a b)),v7]/\aa H H'/\∀n∈(eC qs f a).take i,qf hs ts qs f gd gv a b n=false) #[none,Z,aa.refl H,by simp] (λi σ H' _ ⟨_,_,sm,_⟩=>.of (sm _ _ hl)) ?_ ?_]
 ·rintro i x σ H' hx ⟨v7,rfl,sm,nf⟩;let#[n,hn,rfl]:=jc hx;let#[nm,fn]:=BH (dC hn);let#[q,hq,rfl]:=bH.mp nm;let G':=G.same sm;let oG:=sm _ _ h1;let#[ib,dw,dy,vs,bP,g1,g2,_]:=id G'.ex;have L1:(bV p dw dy).lookup ("weight":Str)=none:=vt _ _ _ Z0 Z0 Z0;have Ml:(bV p dw dy).lookup ("may_go":Str)=none:=vt _ _ _ Z0 Z0 Z0;let wq:=W.wq q hq;let ew:=IA W.nd hq;let ey:=RK W.nd hq
  have go:∀{H2:Hp},aa H' H2->qf hs ts qs f gd gv a b q.1=false->∃v7:aI,[some (V.ref v),some (V.str a),some (V.str b),some (V.str gd),some (V.ref lg),some (V.int (iB hs qs f a b)),some (V.int (i9 hs a b)),some (V.str q.1)]=[some (V.ref v),some (V.str a),some (V.str b),some (V.str gd),some (V.ref lg),some (V.int (iB hs qs f a b)),some (V.int (i9 hs a b)),v7]/\aa H H2/\∀n∈(eC qs f a).take (i+1),qf hs ts qs f gd gv a b n=false:=λ{H2} s2 e=>#[_,Z,sm.trans s2,λm hm=>by
   rw[ij hn] at hm;rcases eZ.mp hm with hm|hm
   ·exact nf m hm
   rw[List.mem_singleton.mp hm];exact e]
  lk;apply#[_,Z,_,Z,q.1,gv,Z,#[lg,_,Z,.of (sm _ _ hg),GE gv],_,Z,?_];rw[aH Z];apply aL (λc=>?_) (λc=>?_)
  ·have c:¬q.1∈gv:=⇑c
   apply#[_,Z,_,Z,_,Z,v,CS,dx,_,_,Z,oG,TS.cl,TS.nW,gi _ _ _ _,g,ib,_,Z,g1,L1,_,Z,g,p,.str q.1,some q.1,hs,ts,qs,fp,Z,G',W.nd,Z,.inl #[q,hq,Z,?_]];apply#[_,Z,_,_,Z,Z,.inl #[by omega,by omega],gd,iB hs qs f a b,q.2.1 * i9 hs a b,Z,_,Z,?_];apply aL (λc2=>?_) (λc2=>?_)
   ·apply#[_,Z,v,CS,dx,_,_,Z,oG,TS.cl,TS.nW,gi _ _ _ _,g,ib,_,Z,g1,Ml,_,Z,_,Z,_,Z,g,p,.str q.1,.str a,.str b,some q.1,some a,some b,hs,ts,qs,fp,Z,G',W.nd,W.Gd.pB,Z,.inl #[q,hq,Z,Z,Z,λH2 s2=>#[_,Z,?_]]];apply aL (λc3=>?_) (λc3=>?_)
    ·have pt:qf hs ts qs f gd gv a b q.1=true:=by
      unfold qf mj;rw[ew,ey,c2,d_ c];simpa using c3
     apply#[_,Z,_,Z,_,Z,zl,λt nt=>?_];let#[s3,e3]:=bg (o:=.tup [.str q.1,.str a,.str b]) nt;generalize upd H2 t (.tup [.str q.1,.str a,.str b])=H3 at s3 e3 ⊢;apply#[zl,λl nl=>?_];let s4:=aa.new (o:=.lst [.ref t]) nl;let Ej:=(sm.trans s2).trans s3;apply k l [.ref t] _ (Ej.trans s4) (Ej.free nl) aq ?_;unfold gj;rw[S_ hn pt nf];exact .cons #[t,Z,s4 _ _ e3] .nil
    apply go s2 ?_;unfold qf mj;rw[ew,ey,c2];have c3:CI hs ts q.2.2 (some a) (some b)=false:=⇑c3
    rw[c3,xr,xr]
   apply go (aa.refl H') ?_;unfold qf;rw[ew,show pN gd (iB hs qs f a b) (q.2.1 * i9 hs a b)=false by simpa using c2,Bool.false_and,xr]
  have c:q.1∈gv:=⇑c
  apply go (aa.refl H') ?_;unfold qf;rw[b_ c];rfl
 rintro σ H' ⟨v7,rfl,sm,nf⟩;rw[au,eK] at nf;apply#[zl,λl nl=>?_];apply k l [] _ (sm.trans (aa.new nl)) (sm.free nl) aq ?_;unfold gj;rw[List.find?_eq_none.mpr λn hn=>by rw[nf n hn];decide];exact .nil
def vx(hs:Xa)(ts:Xb)(qs:aK)(f:ao)(gd h:Str):List Mv:=match dh hs ts qs f h with
 |[]=>[]
 |o::_=>gj hs ts qs f gd [] h o
theorem UX:bq ["sight","hand","guard","around"] CM (aX Ow):=bB
inductive jE (K:af) (CS CG CW T:Addr) (mv:Xa->Xb->aK->(Str->Str)->Str->Str->List Mv) (vs:ag) (H:Hp) (Q:VK) (E:XK):Prop
 |mk:∀(v g p:Addr) (h gd:Str) (hs:Xa) (ts:Xb) (qs:aK) (fp:ai) (f:ao),vs=[.ref v,.str h,.str gd]->iz K CS CG CW H v g p hs ts qs fp f->Wd hs ts qs f->h∈az hs->cn H T ji->(∀l ys H',aM T H H'->cn H' T ji->H l=none->H' l\.lst ys->bD K H' ys ((mv hs ts qs f gd h).map kM)->Q (.ref l) H')->jE K CS CG CW T mv vs H Q E
theorem aM.new{T l:Addr}{H G:Hp}(b:aM T H G)(hT:∃vs,G T\.tbl vs)(n:G l=none):H l=none:=by
 cases z:H l with
 |none=>rfl
 |some o=>
  by_cases y:l=T
  ·let#[vs,e]:=hT;rw[y,e] at n;cases n
  rw[b _ _ z y] at n;cases n
theorem fR_{f0 CS CG CW T:Addr}{fd:Ae}(F:bf K "moves_by_least" "moves_by_least" Ow f0 fd)(TS:fW K CS)(cR:!br CS 4 Bt jw (Gk K CS CG CW T))(cH:!aZ 4 "heaviest_move" kb (jF K CS CG CW)):!aj a9 5 f0 fd CM (jE K CS CG CW T vx):=by
 exists F.bF UX;let#[v,g,p,h,gd,hs,ts,qs,fp,f,rfl,S,W,hh,tab,k]:=h;refine' #[_,ax ?s1 (ax ?s2 (aA ?s3)),?kk]
 case s1=>exact bh 3 UX.nd (ft cR TS.cl hr (pv 0) %[1|0])
 case s2=>exact bx (bY (RV ic (mK hr 0)) (pv 3) (dH ba)) (aA (aU (dH ba))) bJ
 case s3=>exact aU (aN cH hr %[0,1,bp dY (pv 3) ay,2,dH ba|0])
 let#[dx,dl,dv,dp,ad,h1,G,h3,h4,h5,h6]:=S.ex;apply#[_,Z,v,dx,_,Z,h1,CV _ _ _ _ Z0 Z0 Z0 Z0,_,Z,v,g,p,h,hs,ts,qs,fp,f,Z,S,W,hh,tab,λl1 H1 b1 vI n1 e1=>?_];lk;let#[tv,hT]:=fD tab;let S1:=S.nt (b1.nt hT);apply#[_,Z,zl,λl2 n2=>?_];let#[s2,e2]:=bg (o:=.lst []) n2;generalize upd H1 l2 (.lst [])=H2 at s2 e2 ⊢;let Bu:=s2 _ _ e1;have b2:aM T H H2:=λb o e n=>s2 _ _ (b1 _ _ e n);let kZ:=vI.same s2;let Er:=Dq hs ts qs f h;apply#[dh hs ts qs f h,[],UP Bu,UP e2,_,Z,?_];cases z:dh hs ts qs f h with
 |nil=>
  apply bN #[zl,λl3 n3=>?_];let s3:=aa.new (o:=.lst []) n3;apply k l3 [] _ (λb o e n=>s3 _ _ (b2 _ _ e n)) (kZ.same s3) (aM.new b2 (fD kZ) n3) aq ?_;unfold vx;rw[z];exact .nil
 |cons o r=>
  rw[d_ Z2];apply aO ?_;rw[z] at Bu Er;have ob:o∈az hs:=Bn (Er.mem_iff.mp d9);apply#[_,Z,_,Z,_,Z,l1,_,0,.str o,Z,Z,.of Bu,L2.fq (j:=0) Z,_,Z,zl,λl3 n3=>?_];let#[s3,e3]:=bg (o:=.lst []) n3;generalize upd H2 l3 (.lst [])=H3 at s3 e3 ⊢;apply#[v,g,p,l3,h,o,gd,[],hs,ts,qs,fp,f,Z,(S1.same s2).same s3,W,hh,ob,e3,λl ys H4 s4 nl hl tu=>?_];let qa:=s3.trans s4;apply k l ys H4 (λb o e n=>qa _ _ (b2 _ _ e n)) (kZ.same qa) (aM.new b2 (fD kZ) (s3.free nl)) hl ?_;unfold vx;rw[z];exact tu
end
end Ev
abbrev fg:=List Ev.Mv
namespace Ev
open PySem L2
abbrev zm:=Rl->Xa->Xb->aK->(Str->Str)->Str->fg
def C1(mv:zm)(r:Rl)(hs:Xa)(ts:Xb)(qs:aK)(f:ao):fg:=if r.2.2.1="one" then ((az hs).flatMap (mv r hs ts qs f)).take 1 else (az hs).flatMap (mv r hs ts qs f)
def yO:zm:=λr hs ts qs f h=>vx hs ts qs f (r.2.2.2.getD "") h
theorem S8:∀r∈rl,r.2.1≠"shares"->r.2.2.2.isSome=true:=by decide +kernel
theorem qv(hs:Xa)(ts:Xb)(qs:aK)(f:ao)(gd:Str)(gv:ae)(a b:Str):(gj hs ts qs f gd gv a b).length<=1:=by
 unfold gj;split
 ·exact bj 1
 exact gD 1
theorem gt_(r:Rl)(hs:Xa)(ts:Xb)(qs:aK)(f:ao)(h:Str):(yO r hs ts qs f h).length<=1:=by
 unfold yO vx;split
 ·exact gD 1
 exact qv ..
theorem TY{α:Type}{g:Str->List α}{n:Nat}(h:∀x,(g x).length<=n):∀l:ae,(l.flatMap g).length<=n * l.length
 |[]=>by simp
 |a::l=>by
  have:=h a;let ih:=TY h l;rw[List.flatMap_cons,dM,gB,Nat.mul_succ];omega
section v
theorem OO:bq vg vg (aX GK):=bB
inductive vB (K:af) (CS CG CW T:Addr) (pr:Rl->Prop) (mv:zm) (vs:ag) (H:Hp) (Q:VK) (E:XK):Prop
 |mk:∀(v g p aw:Addr) (h:Str) (hs:Xa) (ts:Xb) (qs:aK) (fp:ai) (f:ao),∀r∈rl,vs=[.ref v,.str h,.ref aw]->pr r->(∀H',gE K H' aw [.str r.2.1,.str r.2.2.1,tE r.2.2.2])->iz K CS CG CW H v g p hs ts qs fp f->Wd hs ts qs f->h∈az hs->cn H T ji->(∀l ys H',aM T H H'->cn H' T ji->H l=none->H' l\.lst ys->bD K H' ys ((mv r hs ts qs f h).map kM)->Q (.ref l) H')->vB K CS CG CW T pr mv vs H Q E
theorem fO_{f0 CS CG CW T:Addr}{fd:Ae}(F:bf K "moves_from" "moves_from" GK f0 fd)(cL:!aZ 5 "moves_by_least" CM (jE K CS CG CW T vx)):!aj a9 6 f0 fd vg (vB K CS CG CW T (λr=>r.2.1="least") yO):=by
 exists F.bF OO;let#[v,g,p,aw,h,hs,ts,qs,fp,f,r,bX,rfl,le,ha,S,W,hh,tab,k]:=h;refine' #[_,ax ?s1 eI,?kk]
 case s1=>exact bx (bY gU (bp c7 (pv 2) ay) dc) (aA (aU (aN cL hr %[0,1,bp c7 (pv 2) ay|0]))) bJ
 let so:=S8 r bX (by rw[le];decide +kernel);let#[gd,eg]:=BW.mp so;apply#[_,Z,aw,_,_,_,Z,Z,ha _,Z,Z,_,Z,?_];rw[qB,b_ le];apply bN ?_;apply#[_,Z,_,Z,_,Z,aw,_,_,.str gd,Z,Z,ha _,?_,v,g,p,h,gd,hs,ts,qs,fp,f,Z,S,W,hh,tab,λl ys H' b t n e tu=>k l ys H' b t n e ?_]
 ·rw[eg];rfl
 unfold yO;rw[eg];exact tu
theorem Jc:bq ["sight","rule","moment","words","moves","hand"] vi (aX jI):=bB
inductive k_ (K:af) (CS CG CW T:Addr) (pr:Rl->Prop) (mv:zm) (vs:ag) (H:Hp) (Q:VK) (E:XK):Prop
 |mk:∀(v g p:Addr) (m:Int) (hs:Xa) (ts:Xb) (qs:aK) (fp:ai) (f:ao),∀r∈rl,vs=[.ref v,.str r.1,.int m]->pr r->iz K CS CG CW H v g p hs ts qs fp f->Wd hs ts qs f->cn H T ji->(∀l ys H',aM T H H'->cn H' T ji->H l=none->H' l\.lst ys->bD K H' ys ((C1 mv r hs ts qs f).map kM)->Q (.ref l) H')->k_ K CS CG CW T pr mv vs H Q E
theorem _L{f0 CS CG CW T:Addr}{fd:Ae}{pr:Rl->Prop}{mv:zm}(F:bf K "moves_seen" "moves_seen" jI f0 fd)(TS:fW K CS)(TG:dI K CG)(TW:Txt K mg CW)(Zj:∀r,pr r->r.2.1≠"turns")(hb:∀r hs ts qs f h,Wd hs ts qs f->(mv r hs ts qs f h).length<=1000)(w4:!aZ 2 Bm ["rule"] (Hf K))(cH:!br CW 1 "hands" gA (Dg K CW))(cF:!aZ 6 "moves_from" vg (vB K CS CG CW T pr mv)) :
  aj P w K mg base a9 7 f0 fd vi (k_ K CS CG CW T pr mv):=by
 exists F.bF Jc;let#[v,g,p,m,hs,ts,qs,fp,f,r,bX,rfl,hp,S,W,tab,k]:=h;let sz:=bZ;have iX:bc 1 _:=hr.mono (by decide);refine' #[_,?r0,?kk]
 case' r0=>refine' ax ?s1 ?r1
 case' r1=>refine' ax ?s2 ?r2
 case' r2=>refine' ax ?s3 ?r3
 case' r3=>refine' ax ?s4 (aA ?s5)
 case s1=>exact bh 3 Jc.nd (aN w4 hr %[1|0])
 case s2=>exact bx (bY gU (bp c7 (pv 3) ay) dc) eI bJ
 case s3=>exact bh 4 Jc.nd (dH ba)
 case' s4=>refine' eR eE Z (dN (wV cH TW.cl iX (dA (dA (pv 0) Z) Z))) (cm 5 Jc.nd) (ax ?b1 (aA ?b2))
 case b1=>exact iE (iy ja Di Dj Dp (pv 4) %[aN cF hr %[0,5,3|0]|0])
 case b2=>exact bx (PW.pt (pW (bY gU (bp c7 (pv 3) ay) dc) (uB (bY (OE (mK hr 0)) (pv 4) (dH ba))))) (aA (aU (qA qy (pv 4) qw (qx ay)))) bJ
 case s5=>exact aU (pv 4)
 apply#[_,Z,r,bX,Z,λaw ha=>?_];lk;apply#[_,Z,aw,_,_,_,Z,Z,ha _,Z,Z,_,Z,?_];rw[qB,d_ (Zj r hp)];apply aO ?_;apply#[zl,λlm nm=>?_];lk;let#[s1,e1]:=bg (o:=.lst []) nm;generalize upd H lm (.lst [])=H1 at s1 e1 ⊢;let#[dx,dl,dv,dp,ad,h1,G,h3,h4,h5,h6]:=(S.same s1).ex;let#[ib,dw,dy,vs,bP,g1,g2,_]:=id G.ex;let#[fi,d1,l2,d3,jA,as,ef,w1,_]:=id g2.ex;have gP:(cU d1 l2 d3).lookup ("hands":Str)=none:=iF _ _ _ Z0 Z0 Z0;apply#[_,Z,v,CS,dx,_,_,Z,h1,TS.cl,TS.nW,gi _ _ _ _,g,CG,ib,_,_,Z,g1,TG.cl,TG.nW,kK _ _ _,p,fi,_,Z,w1,gP,p,hs,ts,bP,Z,g2,λlh nh=>?_];let#[s2,e2]:=bg (o:=.lst ((az hs).map V.str)) nh;generalize upd H1 lh (.lst ((az hs).map V.str))=H2 at s2 e2 ⊢;have _e:lm≠lh:=bw e1 nh;let g5:=s1.trans s2;let#[tv,hT]:=fD tab;have neT:∀{b:Addr} {xs:ag},H2 b\.lst xs->b≠T:=λe z=>by rw[z,g5 _ _ hT] at e;cases e
 have n8:(az hs).length<=8:=by have:=W.Gd.fI;have:=W.Gd.h8;omega
 have bound:∀i,(((az hs).take i).flatMap (mv r hs ts qs f)).length<=8000:=λi=>by
  have:=TY (g:=mv r hs ts qs f) (n:=1000) (λx=>hb r hs ts qs f x W) ((az hs).take i);rw[cX] at this;omega
 apply#[lh,Z,#[_,.of e2],hU (K:=K) (a:=lh) (xs:=(az hs).map V.str) (λi σ H'=>∃(v5:aI) (ys:ag),σ=[some (.ref v),some (.str r.1),some (.int m),some (.ref aw),some (.ref lm),v5]/\aM T H H'/\cn H' T ji/\H' lh\.lst ((az hs).map V.str)/\H' lm\.lst ys/\bD K H' ys ((((az hs).take i).flatMap (mv r hs ts qs f)).map kM)/\(r.2.2.1="one"->((az hs).take i).flatMap (mv r hs ts qs f)=[])) #[none,[],Z,λb o e n=>g5 _ _ e,tab.same g5,e2,s2 _ _ e1,.nil,λ_=>rfl] (λi σ H' _ ⟨_,_,_,_,_,z,_⟩=>.of z) ?_ ?_]
 ·rintro i x σ H' hx ⟨v5,ys,rfl,bT,jC,pL,mr,tu,one⟩;let#[n,hn,rfl]:=jc hx;let Lu:=dC hn;lk;let S':=S.nt (bT.nt hT);apply#[_,Z,.inl #[Z,_,.of mr],_,Z,_,Z,_,Z,v,g,p,aw,n,hs,ts,qs,fp,f,r,bX,Z,hp,ha,S',W,Lu,jC,λl zs H3 b3 fQ nl hl tz=>?_];let#[tv',CH]:=fD jC;let qc:=b3.nt CH;let wo:=qc.lst mr;let B8:=bD.nt tu qc;have lT:l≠T:=λz=>by rw[z,CH] at nl;cases nl
  have Cm:lm≠l:=bw mr nl;let f_:=bound i;let ly:=bK tu;let lz:=bK tz;rw[au] at ly lz;let bz:=hb r hs ts qs f n W;apply#[lm,l,ys,zs,Z,Z,wo,hl,by omega,?_];have e4:upd H3 lm (.lst (ys++zs)) lm\.lst (ys++zs):=aq
  have b4:aM T H (upd H3 lm (.lst (ys++zs))):=λb o e ne=>by
   rw[aC (bw e nm)];exact b3 _ _ (bT _ _ e ne) ne
  have fH:cn (upd H3 lm (.lst (ys++zs))) T ji:=cn.putL fQ wo
  have AN:upd H3 lm (.lst (ys++zs)) lh\.lst ((az hs).map V.str):=by
   rw[aC _e.symm];exact qc.lst pL
  have fl:((az hs).take (i+1)).flatMap (mv r hs ts qs f)=((az hs).take i).flatMap (mv r hs ts qs f)++mv r hs ts qs f n:=by
   rw[ij hn,List.flatMap_append,List.flatMap_cons,List.flatMap_nil,zk]
  have uP:bD K (upd H3 lm (.lst (ys++zs))) (ys++zs) ((((az hs).take (i+1)).flatMap (mv r hs ts qs f)).map kM):=by
   rw[fl,cj];exact jx (iI B8 wo) (iI tz wo)
  generalize upd H3 lm (.lst (ys++zs))=H4 at e4 b4 fH AN uP ⊢;dsimp only;apply#[_,Z,aw,_,_,_,Z,Z,ha _,Z,Z,_,Z,?_];rw[qB];apply aL (λc=>?_) (λc=>?_)
  ·have c:r.2.2.1="one":=wZ c;apply#[_,Z,zl,λle ne=>?_];let#[s5,e5]:=bg (o:=.lst []) ne;generalize upd H4 le (.lst [])=H5 at s5 e5 ⊢;apply#[lm,le,ys++zs,Z,Z,.of (s5 _ _ e4),.of e5,_,Z,?_];let ll:=bK uP;rw[au] at ll;apply aL (λc2=>?_) (λc2=>?_)
   ·apply#[_,Z,_,Z,lm,_,Z,.of (s5 _ _ e4),λlq nq=>?_];rw[show cz (ys++zs) none (some 1)=(ys++zs).take 1 from Dv (ys++zs) 1];let s6:=aa.new (o:=.lst ((ys++zs).take 1)) nq;let nJ:=s5.trans s6;have b6:aM T H (upd H5 lq (.lst ((ys++zs).take 1))):=λb o e n=>nJ _ _ (b4 _ _ e n);apply k lq _ _ b6 (fH.same nJ) (aM.new (T:=T) (G:=H5) (λb o e n=>s5 _ _ (b4 _ _ e n)) (fD (fH.same s5)) nq) aq ?_;unfold C1;rw[aH c]
    have nz:((az hs).take (i+1)).flatMap (mv r hs ts qs f)≠[]:=λz=>by
     rw[z,uD] at ll;have y:ys++zs=[]:=zi.mp ll;rw[y] at c2;simp at c2
    have e7:((az hs).flatMap (mv r hs ts qs f)).take 1=(((az hs).take (i+1)).flatMap (mv r hs ts qs f)).take 1:=by
     conv=>lhs;rw[<- List.take_append_drop (i+1) (az hs),List.flatMap_append]
     cases z:((az hs).take (i+1)).flatMap (mv r hs ts qs f) with
     |nil=>exact absurd z nz
     |cons a b=>rfl
    rw[e7,List.map_take];exact Ke 1 (uP.same nJ)
   have z:ys++zs=[]:=⇑c2
   apply#[_,_,Z,λb o e n=>s5 _ _ (b4 _ _ e n),fH.same s5,s5 _ _ AN,s5 _ _ e4,uP.same s5,λ_=>?_];rw[z,uD] at ll;exact zi.mp ll.symm
  apply#[_,_,Z,b4,fH,AN,e4,uP,λz=>absurd (b_ z) c]
 rintro σ H' ⟨v5,ys,rfl,bT,jC,pL,mr,tu,one⟩;rw[au,eK] at tu one;apply#[_,Z,k lm ys H' bT jC nm mr ?_];unfold C1;by_cases c:r.2.2.1="one"
 ·rw[aH c];have:=one c;rw[this] at tu ⊢;exact tu
 rw[aB c];exact tu
end
end Ev
namespace Ev
open PySem L2
structure gZ (P:Ad) (w:Af) (K:af) (mg:Str->Option Aa) (base:Heap) (C:Addr) (k:Nat) (x:Str) (ps:ae) (sp:Sp):Prop where
 ex:∃f fd,aj P w K mg base a9 k f fd ps sp/\Mk K C f/\mg x\.ref C/\qj K fd ps []
theorem Bs{n_:Nat}{X:Cx}{C:Addr}{k:Nat}{x:Str}{ps:ae}{sp:Sp}{p pos:Pos}{e:Expr}{es:List Expr}{t:TA}(c:gZ X.prog X.w X.K X.mg X.base C k x ps sp)(hr:bc n_ X.A)(ha:PA X (e::es) t)(hg:Gl X x:=by rfl)(uc:(x == ("__debug__":Str))=false:=by decide)
  (he:starEach (e::es) X.env=(false,eval e X.env)::starEach es X.env:=by rfl) (jm:(backTo pos (starEach es X.env)).any (·.1)=false:=by rfl) (hk:(k+1)<=n_:=by decide):PE X (.Call (.Name x p) (e::es) [] pos) (xE C sp [] E0 t):=by
 let#[f,fd,F,M,m,b]:=c.ex;exact jO_ M F (hr.mono hk) hg m b .nil oa ha uc he jm
section v
theorem U5:bq CT CT (aX JK):=bB
def U0:Sp:=λvs H Q _=>∃i a:Int,vs=[.int i,.int a]/\Q (.bl (decide (a<=i))) H
theorem hP_{f0:Addr}{fd:Ae}(F:bf K "is_whole_from" "is_whole_from" JK f0 fd)(cI:!aZ 1 "is_whole" fF rB):!aj a9 2 f0 fd CT U0:=by
 exists F.bF U5;let#[i,a,rfl,k]:=h;apply#[_,aA (aU (kD (aN cI hr %[0|0]) (kF (oM pP (pv 1) (pv 0))))),?_];exact#[_,Z,i,Z,_,Z,bN #[_,Z,_,Z,_,_,Z,Z,k]]
theorem fg':bq fF fF (aX P0):=bB
def Vu:Sp:=λvs H Q _=>∃i:Int,vs=[.int i]/\0<=i/\Q (.int i) H
theorem eF_{f0:Addr}{fd:Ae}(F:bf K "checked_moments" "checked_moments" P0 f0 fd)(cI:!aZ 2 "is_whole_from" CT U0):!aj a9 3 f0 fd fF Vu:=by
 apply F.bF fg' λaP A outer s H vs Q E hr h=>?_;let#[i,rfl,h0,k]:=h;apply#[_,ax (bx (dZ (di (aN cI hr %[0,ay|0]))) eI bJ) (aA (aU (pv 0))),?_];apply#[_,Z,i,0,Z,_,Z,?_];rw[b_ h0];exact aO #[_,Z,k]
theorem r9:bq uo uo (aX Ny):=bB
def JX(K:af)(CG CW:Addr):Sp:=λvs H Q _=>∃(g d:V),∃r∈rl,vs=[g,d,.str r.1]/\GF K CG CW [g,d] H Q E0
theorem gc_{f0 CG CW:Addr}{fd:Ae}(F:bf K "checked_start" "checked_start" Ny f0 fd)(w4:!aZ 2 Bm ["rule"] (Hf K))(cS:!aZ 2 "checked_stand" vh (GF K CG CW)):!aj a9 3 f0 fd uo (JX K CG CW):=by
 exists F.bF r9;let#[g,d,r,bX,rfl,h]:=h;apply#[_,ax (iE (aN w4 hr %[2|0])) (aA (aU (aN cS hr %[0,1|0]))),?_];exact#[_,Z,r,bX,Z,λa _=>#[_,Z,_,Z,h]]
structure o8 (K:af) (CG CW:Addr) (H:Hp) (g p d:Addr) (hs:Xa) (ts:Xb) (qs:aK) (fp:ai) (ns:ae) (f:ao):Prop where
 G:gq K CG CW H g p hs ts qs fp
 i4:d∉fp
 hd:H d\.dK (bR ns f)
 so:o9 hs qs ns f
 has:∀b∈fp,∃o,H b\o/\∀vs,o≠.tbl vs
theorem o8.nt{CG CW g p d:Addr}{H G:Hp}{hs:Xa}{ts:Xb}{qs:aK}{fp:ai}{ns:ae}{f:ao}(S:o8 K CG CW H g p d hs ts qs fp ns f)(s:NT H G):o8 K CG CW G g p d hs ts qs fp ns f:=#[S.G.nt s,S.i4,s.dK S.hd,S.so,λb hb=>by
 let#[o,e,n]:=S.has b hb;exact#[o,s _ _ e n,n]]
structure Tb (H:Hp) (T1 T2:Addr):Prop where
 a:cn H T1 xX
 b:cn H T2 ji
 ne:T1≠T2
theorem VH:bq ["goods","stand","rule","moment","placed"] o5 (aX OQ):=bB
end
end Ev
namespace Ev
open PySem L2
def oJ(hs:Xa)(ts:Xb)(qs:aK)(f:ao)(gd h:Str):fg->ae->fg
 |ms,[]=>ms
 |ms,o::l=>if 0<iB hs qs f h o then oJ hs ts qs f gd h (ms++gj hs ts qs f gd (ms.map (·.1)) h o) l else oJ hs ts qs f gd h ms l
def Df(hs:Xa)(ts:Xb)(qs:aK)(f:ao)(gd h:Str):fg:=oJ hs ts qs f gd h [] (dh hs ts qs f h)
section v
theorem JQ:bq ["sight","hand","guard","moves","other","given"] CM (aX Oh):=bB
theorem gb_{f0 CS CG CW T:Addr}{fd:Ae}(F:bf K "moves_by_below" "moves_by_below" Oh f0 fd)(TS:fW K CS)(cR:!br CS 4 Bt jw (Gk K CS CG CW T))(cL:!br CS 3 "lead" kG (C4 K CS CG CW))(cH:!aZ 4 "heaviest_move" kb (jF K CS CG CW)):!aj a9 5 f0 fd CM (jE K CS CG CW T Df):=by
 exists F.bF JQ;let#[v,g,p,h,gd,hs,ts,qs,fp,f,rfl,S,W,hh,tab,k]:=h;let sz:=bZ;have Fg:bc 3 _:=hr.mono (by decide);refine' #[_,ax ?s1 (ax ?s2 (aA ?s3)),?kk]
 case s1=>exact bh 3 JQ.nd (dH ba)
 case' s2=>refine' eR eE Z (dN (ft cR TS.cl hr (pv 0) %[1|0])) (cm 4 JQ.nd) (aA (bx ?t1 (ax ?b1 (aA ?b2)) bJ))
 case t1=>exact bY yH (ft cL TS.cl Fg (pv 0) %[1,4|0]) ay
 case b1=>exact BM (i:=5) ["move"] 1 [] JQ.nd Z (Or.inl Z) (dN (pv 3)) (λfp s H=>eY (i:=0) (show (["move"]:ae).Nodup by decide +kernel) Z (Or.inl Z)) (λfp s H=>gX) (λfp s H=>bp (tQ (K:=K) jL c7) (pv 0) ay)
 case b2=>exact iE (iy ja Di Dj Dp (pv 3) %[aN cH hr %[0,1,4,2,5|0]|0])
 case s3=>exact aU (pv 3)
 have n8:(az hs).length<=8:=by have:=W.Gd.fI;have:=W.Gd.h8;omega
 apply#[zl,λlm nm=>?_];lk;let#[s1,e1]:=bg (o:=.lst []) nm;generalize upd H lm (.lst [])=H1 at s1 e1 ⊢;let S1:=S.same s1;let vI:=tab.same s1;let#[dx,dl,dv,dp,ad,h1,G,h3,h4,h5,h6]:=S1.ex;apply#[_,Z,v,dx,_,Z,h1,CV _ _ _ _ Z0 Z0 Z0 Z0,_,Z,v,g,p,h,hs,ts,qs,fp,f,Z,S1,W,hh,vI,λl1 H2 b2 kZ n1 e2=>?_];let#[tv,hT]:=fD vI;let#[Kx,FZ]:=fD kZ;let kz:=b2.nt hT;let S2:=S1.nt kz;let m2:=kz.lst e1;have Cm:lm≠l1:=bw e1 n1;let Er:=Dq hs ts qs f h;have EZ:∀x∈dh hs ts qs f h,x∈az hs:=λx hx=>Bn (Er.mem_iff.mp hx)
 have ll:(dh hs ts qs f h).length<=8:=by
  rw[Er.length_eq];have:=C5 hs ts h;omega
 have bT:aM T H H2:=λb o e n=>b2 _ _ (s1 _ _ e) n;apply#[l1,Z,#[_,.of e2],hU (K:=K) (a:=l1) (xs:=(dh hs ts qs f h).map V.str) (λi σ H'=>∃(v4 v5:aI) (ys:ag) (ms:fg),σ=[some (.ref v),some (.str h),some (.str gd),some (.ref lm),v4,v5]/\aM T H H'/\cn H' T ji/\H' l1\.lst ((dh hs ts qs f h).map V.str)/\H' lm\.lst ys/\bD K H' ys (ms.map kM)/\ms.length<=i/\oJ hs ts qs f gd h ms ((dh hs ts qs f h).drop i)=Df hs ts qs f gd h) #[none,none,[],[],Z,bT,kZ,e2,m2,.nil,bj _,Z] (λi σ H' _ ⟨_,_,_,_,_,_,_,z,_⟩=>.of z) ?_ ?_]
 ·rintro i x σ H3 hx ⟨v4,v5,ys,ms,rfl,Hk,fQ,l3,m3,t3,LL,eq3⟩;let#[o,ho,rfl]:=jc hx;have hi:i<(dh hs ts qs f h).length:=(cq.mp ho).1;let om:=EZ o (dC ho)
  have dr:(dh hs ts qs f h).drop i=o::(dh hs ts qs f h).drop (i+1):=by
   let#[h1,h2]:=cq.mp ho;rw[List.drop_eq_getElem_cons h1,h2]
  rw[dr] at eq3;let#[tv0,hT0]:=fD tab;let S3:=S.nt (Hk.nt hT0);let#[Of,_,_,_,_,k1,_]:=S3.ex;let ly:=bK t3;rw[au] at ly;lk;apply#[_,Z,v,Of,_,Z,k1,CV _ _ _ _ Z0 Z0 Z0 Z0,_,Z,_,Z,v,g,p,h,o,hs,ts,qs,fp,f,Z,S3,W,hh,om,_,_,Z,Z,_,Z,?_];apply aL (λc=>?_) (λc=>?_)
  ·have c:0<iB hs qs f h o:=⇑c
   have eq3:oJ hs ts qs f gd h (ms++gj hs ts qs f gd (ms.map (·.1)) h o) ((dh hs ts qs f h).drop (i+1))=Df hs ts qs f gd h:=by
    rw[oJ,aH c] at eq3;exact eq3
   apply#[_,Z,lm,Z,#[_,.of m3],λD hD=>?_];apply jz (own:=1) (fv:=[]) (xs:=ys) Z dW (λj out H'=>aa H3 H'/\H' D\.lst out/\out=((ms.map (·.1)).take j).map V.str) #[aa.new hD,aq,Z] (λj out H' _ ⟨sm,_⟩=>.of (sm _ _ m3)) (λout H4 ⟨s4,d4,eo⟩=>?_) (λj x out H' hx ⟨sm,hd,eo⟩=>?_);rotate_left
   ·let#[q,hq,a,rfl,ha]:=kU t3 hx;have hj:j<ms.length:=(cq.mp hq).1;apply#[_,Z,Z,λNx hN=>dD ?_];apply#[_,Z,a,_,0,.str q.1,Z,Z,.of (sm _ _ ha),L2.fq (j:=0) Z,out,hd,?_,hN (out++[.str q.1]) _ #[gY sm hD,aq,?_]]
    ·rw[eo,au,cX];omega
    rw[eo,ij (show (ms.map (·.1))[j]? = some q.1 by rw[cY,hq];rfl),cj];rfl
   rw[ly,vC (by rw[au];exact bj _)] at eo;subst eo;lk;let m4:=s4 _ _ m3;apply#[_,Z,.inl #[Z,_,.of m4],?_];apply#[_,Z,_,Z,_,Z,_,Z,_,Z,v,g,p,D,h,o,gd,ms.map (·.1),hs,ts,qs,fp,f,Z,S3.same s4,W,hh,om,d4,λl5 zs H5 s5 n5 e5 t5=>?_];let uU:=s4.trans s5;let m5:=uU _ _ m3;let lz:=bK t5;let hl:=qv hs ts qs f gd (ms.map (·.1)) h o;rw[au] at lz;apply#[lm,l5,ys,zs,Z,Z,m5,e5,by omega,?_];apply#[_,_,ys++zs,ms++gj hs ts qs f gd (ms.map (·.1)) h o,Z,λb u e n=>?_,cn.putL (fQ.same uU) m5,?_,aq,?_,?_,eq3]
   ·rw[aC (bw e nm)];exact uU _ _ (Hk _ _ e n)
   ·rw[aC Cm.symm];exact uU _ _ l3
   ·rw[cj];exact jx (iI (t3.same uU) m5) (iI t5 m5)
   rw[dM];omega
  have c:¬0<iB hs qs f h o:=⇑c
  apply#[_,_,ys,ms,Z,Hk,fQ,l3,m3,t3,by omega,?_];rw[oJ,aB c] at eq3;exact eq3
 rintro σ H3 ⟨v4,v5,ys,ms,rfl,Hk,fQ,l3,m3,t3,LL,eq3⟩;rw[au,List.drop_length] at eq3;apply#[_,Z,k lm ys H3 Hk fQ nm m3 ?_];rw[<- eq3];exact t3
end
end Ev
namespace Ev
open PySem L2
def BI:zm:=λr hs ts qs f h=>Df hs ts qs f (r.2.2.2.getD "") h
theorem NQ{hs:Xa}{ts:Xb}{qs:aK}{f:ao}{gd h:Str}:∀(l:ae) (ms:fg),(oJ hs ts qs f gd h ms l).length<=ms.length+l.length
 |[],ms=>bj _
 |o::l,ms=>by
  rw[oJ,gB];split
  ·let h1:=NQ (hs:=hs) (ts:=ts) (qs:=qs) (f:=f) (gd:=gd) (h:=h) l (ms++gj hs ts qs f gd (ms.map (·.1)) h o);let h2:=qv hs ts qs f gd (ms.map (·.1)) h o;rw[dM] at h1;omega
  let h1:=NQ (hs:=hs) (ts:=ts) (qs:=qs) (f:=f) (gd:=gd) (h:=h) l ms;omega
theorem gj_(r:Rl)(hs:Xa)(ts:Xb)(qs:aK)(f:ao)(h:Str)(W:Wd hs ts qs f):(BI r hs ts qs f h).length<=8:=by
 unfold BI Df;let h1:=NQ (hs:=hs) (ts:=ts) (qs:=qs) (f:=f) (gd:=r.2.2.2.getD "") (h:=h) (dh hs ts qs f h) [];let h2:=(Dq hs ts qs f h).length_eq;let h3:=C5 hs ts h;let h4:=W.Gd.fI;let h5:=W.Gd.h8;rw[uD] at h1;omega
section v
theorem g1_{f0 CS CG CW T:Addr}{fd:Ae}(F:bf K "moves_from" "moves_from" GK f0 fd)(cL:!aZ 5 "moves_by_below" CM (jE K CS CG CW T Df)):!aj a9 6 f0 fd vg (vB K CS CG CW T (λr=>r.2.1="below") BI):=by
 exists F.bF OO;let#[v,g,p,aw,h,hs,ts,qs,fp,f,r,bX,rfl,le,ha,S,W,hh,tab,k]:=h;refine' #[_,ax ?s0 (ax ?s1 eI),?kk]
 case s0=>exact bx (bY gU (bp c7 (pv 2) ay) dc) eI bJ
 case s1=>exact bx (bY gU (bp c7 (pv 2) ay) dc) (aA (aU (aN cL hr %[0,1,bp c7 (pv 2) ay|0]))) bJ
 let so:=S8 r bX (by rw[le];decide +kernel);let#[gd,eg]:=BW.mp so;have ln:¬r.2.1="least":=by rw[le];decide +kernel
 apply#[_,Z,aw,_,_,_,Z,Z,ha _,Z,Z,_,Z,?_];rw[qB,d_ ln];apply aO ?_;apply#[_,Z,aw,_,_,_,Z,Z,ha _,Z,Z,_,Z,?_];rw[qB,b_ le];apply bN ?_;apply#[_,Z,_,Z,_,Z,aw,_,_,.str gd,Z,Z,ha _,?_,v,g,p,h,gd,hs,ts,qs,fp,f,Z,S,W,hh,tab,λl ys H' b t n e tu=>k l ys H' b t n e ?_]
 ·rw[eg];rfl
 unfold BI;rw[eg];exact tu
end
end Ev
namespace Ev
open PySem L2
def wN(hs:Xa)(ts:Xb):Int:=((fS hs ts).max?).getD 0
theorem _G{hs:Xa}{ts:Xb}{m:Int}(h1:m∈fS hs ts)(h2:∀a∈fS hs ts,a<=m):m=wN hs ts:=by
 unfold wN;rw[List.max?_eq_some_iff.mpr #[h1,h2]];rfl
theorem _T{hs:Xa}{ts:Xb}(G:Good hs ts){m:Int}(h:m∈fS hs ts):0<=m/\m<=8:=by
 let#[n,_,rfl]:=bH.mp h;let h1:=C5 hs ts n;let h2:=G.fI;let h3:=G.h8;show 0<=((nb hs ts n).length:Int)/\((nb hs ts n).length:Int)<=8;omega
theorem iu_{hs:Xa}{ts:Xb}(G:Good hs ts){a b:Str}(ha:a∈az hs)(hb:b∈az hs):2<=i9 hs a b/\i9 hs a b<=2000:=by
 let h1:=yW G ha;let h2:=yW G hb;unfold i9;omega
def rJ(wt:Str->Int)(ok:Str->Bool):Int->ae->ae
 |_,[]=>[]
 |l,n::ns=>if (ok n&&decide (wt n<=l))=true then n::rJ wt ok (l - wt n) ns else rJ wt ok l ns
theorem C8(wt:Str->Int)(ok:Str->Bool):∀(l:Int) (ns:ae),(rJ wt ok l ns).Sublist ns
 |_,[]=>.slnil
 |l,n::ns=>by
  unfold rJ;split
  ·exact (C8 wt ok _ ns).cons_cons n
  exact (C8 wt ok _ ns).cons n
def gg(hs:Xa)(ts:Xb)(qs:aK)(gv:ae)(a b n:Str):Bool:=!decide (n∈gv)&&mj hs ts qs n a b
def rH(hs:Xa)(ts:Xb)(qs:aK)(f:ao)(a b:Str):Int:=iB hs qs f a b / (i9 hs a b * (wN hs ts+1))
def Ec(hs:Xa)(ts:Xb)(qs:aK)(f:ao)(gv:ae)(a b:Str):ae:=rJ (hV qs) (gg hs ts qs gv a b) (rH hs ts qs f a b) (eC qs f a)
abbrev to3(a b:Str)(n:Str):Mv:=(n,a,b)
def uS(hs:Xa)(ts:Xb)(qs:aK)(f:ao)(gv:ae)(a b:Str):fg:=(Ec hs ts qs f gv a b).map (to3 a b)
theorem Uz{hs:Xa}{ts:Xb}{qs:aK}{f:ao}(W:Wd hs ts qs f)(a:Str):(eC qs f a).length<=63:=by
 have h1:(eC qs f a).length<=(mq qs).length:=List.length_filter_le ..;let h2:=(Gx qs).length_eq;rw[au] at h2;have:=W.bS;omega
theorem Tw{hs:Xa}{ts:Xb}{qs:aK}{f:ao}(W:Wd hs ts qs f)(gv:ae)(a b:Str):(uS hs ts qs f gv a b).length<=63:=by
 unfold uS;rw[au];have:=(C8 (hV qs) (gg hs ts qs gv a b) (rH hs ts qs f a b) (eC qs f a)).length_le;let h2:=Uz W a;unfold Ec;omega
theorem Tf{α:Type}{l:List α}{i:Nat}{x:α}(h:l[i]? = some x):l.drop i=x::l.drop (i+1):=by
 let#[h1,h2]:=cq.mp h;rw[List.drop_eq_getElem_cons h1,h2]
section v
abbrev K9:ae:=["sight","one","other","given","parts","left","moves","piece","weight"]
theorem Bl:bq K9 ["sight","one","other","given"] (aX zW):=bB
inductive qZ (K:af) (CS CG CW:Addr) (vs:ag) (H:Hp) (Q:VK) (E:XK):Prop
 |mk:∀(v g p lg:Addr) (a b:Str) (gv:ae) (hs:Xa) (ts:Xb) (qs:aK) (fp:ai) (f:ao),vs=[.ref v,.str a,.str b,.ref lg]->iz K CS CG CW H v g p hs ts qs fp f->Wd hs ts qs f->a∈az hs->b∈az hs->H lg\.lst (gv.map V.str)->(∀l ys H',aa H H'->H l=none->H' l\.lst ys->bD K H' ys ((uS hs ts qs f gv a b).map kM)->Q (.ref l) H')->qZ K CS CG CW vs H Q E
theorem _v{f0 CS CG CW CP:Addr}{fd:Ae}(F:bf K "share_moves" "share_moves" zW f0 fd)(TS:fW K CS)(TG:dI K CG)(TW:Txt K mg CW)(cL:!br CS 3 "lead" kG (C4 K CS CG CW))(cJ:!br CS 3 "joint_strength" kG (JF K CS CG CW))(cN:!br CW 1 "most_neighbours" gA (lB K CW))(cW:!br CG 2 "weight" yM (BQ K CG CW CP))(cM:!br CG 3 "may_go" o4 (Je K CG CW CP)) :
  aj P w K mg base a9 4 f0 fd ["sight","one","other","given"] (qZ K CS CG CW):=by
 exists F.bF Bl;let#[v,g,p,lg,a,b,gv,hs,ts,qs,fp,f,rfl,S,W,ha,hb,hg,k]:=h;let hu:=fV hr;let sz:=bZ;have iX:bc 1 _:=hr.mono (by decide);have tW:bc 2 _:=hr.mono (by decide);refine' #[_,?r0,?kk]
 case' r0=>refine' ax ?s1 ?r1
 case' r1=>refine' ax ?s2 ?r2
 case' r2=>refine' ax ?s3 ?r3
 case' r3=>refine' ax ?s4 (aA ?s5)
 case s1=>exact bh 4 Bl.nd (bG qz (ft cJ TS.cl hr (pv 0) %[1,2|0]) (bG fO (wV cN TW.cl iX (dA (dA (pv 0) Z) Z)) ay))
 case s2=>exact bh 5 Bl.nd (bG xg (ft cL TS.cl hr (pv 0) %[1,2|0]) (pv 4))
 case s3=>exact bh 6 Bl.nd (dH ba)
 case' s4=>refine' eR eE Z (dN (kL hu (dA (pv 0) Z) (pv 1))) (cm 7 Bl.nd) (ax ?b1 (aA ?b2))
 case b1=>exact bh 8 Bl.nd (ft cW TG.cl tW (dA (pv 0) Z) %[7|0])
 case' b2=>refine' bx (PW.pt (pW ?c1 (pW ?c2 (uB ?c3)))) (ax ?b3 (aA ?b4)) bJ
 case c1=>exact bY (UB ic (mK hr 0)) (pv 7) (pv 3) (by with_unfolding_all rfl)
 case c2=>exact bY pP (pv 8) (pv 5)
 case c3=>exact di (ft cM TG.cl hr (dA (pv 0) Z) %[7,1,2|0])
 case b3=>exact iE (iy ja xa xb vz (pv 6) %[eM %[7,1,2|0]|0])
 case b4=>exact bh 5 Bl.nd (bG yV (pv 5) (pv 8))
 case s5=>exact aU (pv 6)
 let#[dx,dl,dv,dp,ad,h1,G,h3,h4,h5,h6]:=S.ex;let#[ib,dw,dy,vs,bP,g1,g2,_]:=id G.ex;let#[fi,d1,l2,d3,jA,as,ef,w1,_]:=id g2.ex;have hnm:(cU d1 l2 d3).lookup ("most_neighbours":Str)=none:=iF _ _ _ Z0 Z0 Z0;have no:∀{m:Str},¬m="wares"->¬m=iA->¬m=oN->¬m=Bo->(dO g dl dv dp).lookup m=none:=λa b c d=>CV _ _ _ _ a b c d;let jo:=iu_ W.Gd ha hb;let nl:=W.Gd.fI;let n1:=W.Gd.h1;let n8:=W.Gd.h8;apply#[_,Z,v,dx,_,Z,h1,no Z0 Z0 Z0 Z0,_,Z,_,Z,v,g,p,a,b,hs,ts,qs,fp,f,Z,S,W,ha,hb,?_];apply#[_,Z,v,CS,dx,_,_,Z,h1,TS.cl,TS.nW,gi _ _ _ _,g,CG,ib,_,_,Z,g1,TG.cl,TG.nW,kK _ _ _,p,fi,_,Z,w1,hnm,p,hs,ts,bP,Z,g2,by omega,by omega,λm H1 s1 m1 m2=>?_];let mo:=_T W.Gd m1;obtain rfl:=_G m1 m2;have pp:0<i9 hs a b * (wN hs ts+1):=Int.mul_pos Z1 Z1
 have pl:i9 hs a b * (wN hs ts+1)<1073741824:=by
  have:=Int.mul_le_mul jo.2 (show wN hs ts+1<=9 by omega) Z1 (by decide);omega
 apply#[_,_,Z,Z,_,_,Z,Z,.inl #[by omega,by omega],?_];lk;apply#[_,Z,v,dx,_,Z,s1 _ _ h1,no Z0 Z0 Z0 Z0,_,Z,_,Z,v,g,p,a,b,hs,ts,qs,fp,f,Z,S.same s1,W,ha,hb,_,Z,_,_,Z,Z,#[pp,pl],?_];lk;apply#[zl,λlm nm=>?_];lk;let#[s2,e2]:=bg (o:=.lst []) nm;let Cg:=s1.free nm;generalize upd H1 lm (.lst [])=H2 at s2 e2 ⊢;let g5:=s1.trans s2;let hl:=h6 a ha;let l63:=Uz W a;apply#[_,Z,v,CS,dx,_,_,Z,g5 _ _ h1,TS.cl,TS.nP,Ee _ _ _ _,_,Z,dp,_,Z,Bv (g5 _ _ h5) ha,ad a,Z,#[_,.of (g5 _ _ hl)],hU (K:=K) (a:=ad a) (xs:=(eC qs f a).map V.str) (λi σ H'=>∃(v7 v8:aI) (left:Int) (ys:ag) (ns:ae),σ=[some (.ref v),some (.str a),some (.str b),some (.ref lg),some (.int (i9 hs a b * (wN hs ts+1))),some (.int left),some (.ref lm),v7,v8]/\aa H H'/\H' lm\.lst ys/\bD K H' ys ((ns.map (to3 a b)).map kM)/\ns.length<=i/\ns++rJ (hV qs) (gg hs ts qs gv a b) left ((eC qs f a).drop i)=Ec hs ts qs f gv a b) #[none,none,_,[],[],Z,g5,e2,.nil,bj _,Z] (λi σ H' _ ⟨_,_,_,_,_,_,sm,_⟩=>.of (sm _ _ hl)) ?_ ?_]
 ·rintro i x σ H' hx ⟨v7,v8,left,ys,ns,rfl,sm,mr,tu,ln,eq⟩;let#[n,hn,rfl]:=jc hx;have hi:i<(eC qs f a).length:=(cq.mp hn).1;let#[Lu,fn]:=BH (dC hn);let#[q,hq,rfl]:=bH.mp Lu;let G':=G.same sm;let oG:=sm _ _ h1;let#[Gc,Vf,Vd,HF,fpw',TU,g2',_]:=id G'.ex;have L1:(bV p Vf Vd).lookup ("weight":Str)=none:=vt _ _ _ Z0 Z0 Z0;have Ml:(bV p Vf Vd).lookup ("may_go":Str)=none:=vt _ _ _ Z0 Z0 Z0;let ew:=IA W.nd hq;let ey:=RK W.nd hq;rw[Tf hn,rJ] at eq;let ly:=bK tu;rw[au,au] at ly
  have go:∀{H2:Hp} {v8:aI},aa H' H2->(gg hs ts qs gv a b q.1&&decide (hV qs q.1<=left))=false->∃(v7 Xg:aI) (yc:Int) (ys:ag) (ns:ae),[some (V.ref v),some (.str a),some (.str b),some (.ref lg),some (.int (i9 hs a b * (wN hs ts+1))),some (.int left),some (.ref lm),some (.str q.1),v8]=[some (V.ref v),some (.str a),some (.str b),some (.ref lg),some (.int (i9 hs a b * (wN hs ts+1))),some (.int yc),some (.ref lm),v7,Xg]/\aa H H2/\H2 lm\.lst ys/\bD K H2 ys ((ns.map (to3 a b)).map kM)/\ns.length<=i+1/\ns++rJ (hV qs) (gg hs ts qs gv a b) yc ((eC qs f a).drop (i+1))=Ec hs ts qs f gv a b:=λ{H2 v8} s2 e=>by
   rw[e,aB (by decide)] at eq;exact#[_,_,_,ys,ns,Z,sm.trans s2,s2 _ _ mr,tu.same s2,by omega,eq]
  lk;apply#[_,Z,v,CS,dx,_,_,Z,oG,TS.cl,TS.nW,gi _ _ _ _,g,Gc,_,Z,TU,L1,_,Z,g,p,.str q.1,some q.1,hs,ts,qs,fp,Z,G',W.nd,Z,.inl #[q,hq,Z,?_]];lk;apply#[_,Z,_,Z,q.1,gv,Z,#[lg,_,Z,.of (sm _ _ hg),GE gv],_,Z,?_];apply aL (λc=>?_) (λc=>?_)
  ·have c:¬q.1∈gv:=⇑c
   apply#[_,Z,_,Z,_,_,Z,Z,_,Z,?_];apply aL (λc2=>?_) (λc2=>?_)
   ·have c2:q.2.1<=left:=⇑c2
    apply#[_,Z,v,CS,dx,_,_,Z,oG,TS.cl,TS.nW,gi _ _ _ _,g,Gc,_,Z,TU,Ml,_,Z,_,Z,_,Z,g,p,.str q.1,.str a,.str b,some q.1,some a,some b,hs,ts,qs,fp,Z,G',W.nd,W.Gd.pB,Z,.inl #[q,hq,Z,Z,Z,λH3 s3=>#[_,Z,?_]]];apply aL (λc3=>?_) (λc3=>?_)
    ·have pt:(gg hs ts qs gv a b q.1&&decide (hV qs q.1<=left))=true:=by
      unfold gg mj;rw[ew,ey,b_ c2,d_ c];simpa using c3
     rw[aH pt,ew] at eq;apply#[_,Z,.inl #[Z,_,.of (s3 _ _ mr)],_,Z,_,Z,_,Z,zl,λt nt=>?_];let#[s4,e4]:=bg (o:=.tup [.str q.1,.str a,.str b]) nt;generalize upd H3 t (.tup [.str q.1,.str a,.str b])=H4 at s4 e4 ⊢;let qa:=s3.trans s4;let FA:=qa _ _ mr;apply#[lm,_,_,Z,Z,FA,by omega,?_];dsimp only;apply#[_,Z,_,Z,_,_,Z,Z,?_];lk;apply#[_,_,_,ys++[.ref t],ns++[q.1],Z,λb' o e=>?_,aq,?_,?_,?_]
     ·rw[aC (bw e Cg)];exact qa _ _ (sm _ _ e)
     ·rw[cj,cj];exact iI (vA (tu.same qa) e4) FA
     ·rw[dM];show ns.length+1<=i+1;omega
     rw[List.append_assoc];exact eq
    apply go s3 ?_;unfold gg mj;have c3:CI hs ts q.2.2 (some a) (some b)=false:=⇑c3
    rw[ey,c3,xr,Bool.false_and]
   apply go (aa.refl H') ?_;have c2:¬q.2.1<=left:=⇑c2
   rw[ew,d_ c2,xr]
  have c:q.1∈gv:=⇑c
  apply go (aa.refl H') ?_;unfold gg;rw[b_ c];rfl
 rintro σ H' ⟨v7,v8,left,ys,ns,rfl,sm,mr,tu,ln,eq⟩;rw[au,List.drop_length,rJ,zk] at eq;apply#[_,Z,k lm ys H' sm Cg mr ?_];unfold uS;rw[<- eq];exact tu
end
end Ev
namespace Ev
open PySem L2
def pO(hs:Xa)(ts:Xb)(qs:aK)(f:ao)(h:Str):fg->ae->fg
 |ms,[]=>ms
 |ms,o::l=>if 0<iB hs qs f h o then pO hs ts qs f h (ms++uS hs ts qs f (ms.map (·.1)) h o) l else pO hs ts qs f h ms l
def Gw(hs:Xa)(ts:Xb)(qs:aK)(f:ao)(h:Str):fg:=pO hs ts qs f h [] (nb hs ts h)
def C9:zm:=λ_ hs ts qs f h=>Gw hs ts qs f h
theorem NX{hs:Xa}{ts:Xb}{qs:aK}{f:ao}(W:Wd hs ts qs f){h:Str}:∀(l:ae) (ms:fg),(pO hs ts qs f h ms l).length<=ms.length+63 * l.length
 |[],ms=>bj _
 |o::l,ms=>by
  rw[pO,gB];split
  ·let h1:=NX W (h:=h) l (ms++uS hs ts qs f (ms.map (·.1)) h o);let h2:=Tw W (ms.map (·.1)) h o;rw[dM] at h1;omega
  let h1:=NX W (h:=h) l ms;omega
theorem g7_(r:Rl)(hs:Xa)(ts:Xb)(qs:aK)(f:ao)(h:Str)(W:Wd hs ts qs f):(C9 r hs ts qs f h).length<=1000:=by
 unfold C9 Gw;let h1:=NX W (h:=h) (nb hs ts h) [];let h3:=C5 hs ts h;let h4:=W.Gd.fI;let h5:=W.Gd.h8;rw[uD] at h1;omega
section v
theorem Kb:bq ["sight","hand","moves","other","given"] ["sight","hand"] (aX Px):=bB
inductive Oq (K:af) (CS CG CW:Addr) (vs:ag) (H:Hp) (Q:VK) (E:XK):Prop
 |mk:∀(v g p:Addr) (h:Str) (hs:Xa) (ts:Xb) (qs:aK) (fp:ai) (f:ao),vs=[.ref v,.str h]->iz K CS CG CW H v g p hs ts qs fp f->Wd hs ts qs f->h∈az hs->(∀l ys H',aa H H'->H l=none->H' l\.lst ys->bD K H' ys ((Gw hs ts qs f h).map kM)->Q (.ref l) H')->Oq K CS CG CW vs H Q E
theorem eM_{f0 CS CG CW:Addr}{fd:Ae}(F:bf K "moves_by_shares" "moves_by_shares" Px f0 fd)(TS:fW K CS)(TG:dI K CG)(TW:Txt K mg CW)(cN:!br CW 2 "neighbours" jw (JE K CW))(cL:!br CS 3 "lead" kG (C4 K CS CG CW))(cH:!aZ 4 "share_moves" ["sight","one","other","given"] (qZ K CS CG CW)):!aj a9 5 f0 fd ["sight","hand"] (Oq K CS CG CW):=by
 exists F.bF Kb;let#[v,g,p,h,hs,ts,qs,fp,f,rfl,S,W,hh,k]:=h;let sz:=bZ;have tW:bc 2 _:=hr.mono (by decide);have Fg:bc 3 _:=hr.mono (by decide);refine' #[_,ax ?s1 (ax ?s2 (aA ?s3)),?kk]
 case s1=>exact bh 2 Kb.nd (dH ba)
 case' s2=>refine' eR eE Z (dN (ft cN TW.cl tW (dA (dA (pv 0) Z) Z) %[1|0])) (cm 3 Kb.nd) (aA (bx ?t1 (ax ?b1 (aA ?b2)) bJ))
 case t1=>exact bY yH (ft cL TS.cl Fg (pv 0) %[1,3|0]) ay
 case b1=>exact BM (i:=4) ["move"] 1 [] Kb.nd Z (Or.inl Z) (dN (pv 2)) (λfp s H=>eY (i:=0) (show (["move"]:ae).Nodup by decide +kernel) Z (Or.inl Z)) (λfp s H=>gX) (λfp s H=>bp (tQ (K:=K) jL c7) (pv 0) ay)
 case b2=>exact iE (iy ja Di Dj Dp (pv 2) %[aN cH hr %[0,1,3,4|0]|0])
 case s3=>exact aU (pv 2)
 have n8:(az hs).length<=8:=by have:=W.Gd.fI;have:=W.Gd.h8;omega
 apply#[zl,λlm nm=>?_];lk;let#[s1,e1]:=bg (o:=.lst []) nm;generalize upd H lm (.lst [])=H1 at s1 e1 ⊢;let#[dx,dl,dv,dp,ad,h1,G,h3,h4,h5,h6]:=(S.same s1).ex;let#[ib,dw,dy,vs,bP,g1,g2,_]:=id G.ex;let#[fi,d1,l2,d3,jA,as,ef,w1,_]:=id g2.ex;have gP:(cU d1 l2 d3).lookup ("neighbours":Str)=none:=iF _ _ _ Z0 Z0 Z0;apply#[_,Z,v,CS,dx,_,_,Z,h1,TS.cl,TS.nW,gi _ _ _ _,g,CG,ib,_,_,Z,g1,TG.cl,TG.nW,kK _ _ _,p,fi,_,Z,w1,gP,_,Z,p,h,hs,ts,bP,Z,g2,W.Gd.pB,(iH hs).mem_iff.mp hh,λl1 n1=>?_];let#[s2,e2]:=bg (o:=.lst ((nb hs ts h).map V.str)) n1;have Cm:lm≠l1:=bw e1 n1;let g5:=s1.trans s2;generalize upd H1 l1 (.lst ((nb hs ts h).map V.str))=H2 at s2 e2 g5 ⊢;have EZ:∀x∈nb hs ts h,x∈az hs:=λx hx=>Bn hx
 have ll:(nb hs ts h).length<=8:=by
  have:=C5 hs ts h;omega
 apply#[l1,Z,#[_,.of e2],hU (K:=K) (a:=l1) (xs:=(nb hs ts h).map V.str) (λi σ H'=>∃(v3 v4:aI) (ys:ag) (ms:fg),σ=[some (.ref v),some (.str h),some (.ref lm),v3,v4]/\aa H H'/\H' l1\.lst ((nb hs ts h).map V.str)/\H' lm\.lst ys/\bD K H' ys (ms.map kM)/\ms.length<=63 * i/\pO hs ts qs f h ms ((nb hs ts h).drop i)=Gw hs ts qs f h) #[none,none,[],[],Z,g5,e2,s2 _ _ e1,.nil,bj _,Z] (λi σ H' _ ⟨_,_,_,_,_,_,z,_⟩=>.of z) ?_ ?_]
 ·rintro i x σ H3 hx ⟨v3,v4,ys,ms,rfl,Eb,l3,m3,t3,LL,eq3⟩;let#[o,ho,rfl]:=jc hx;have hi:i<(nb hs ts h).length:=(cq.mp ho).1;let om:=EZ o (dC ho);rw[Tf ho] at eq3;let S3:=S.same Eb;let#[Of,_,_,_,_,k1,_]:=S3.ex;let ly:=bK t3;rw[au] at ly;lk;apply#[_,Z,v,Of,_,Z,k1,CV _ _ _ _ Z0 Z0 Z0 Z0,_,Z,_,Z,v,g,p,h,o,hs,ts,qs,fp,f,Z,S3,W,hh,om,_,_,Z,Z,_,Z,?_];apply aL (λc=>?_) (λc=>?_)
  ·have c:0<iB hs qs f h o:=⇑c
   have eq3:pO hs ts qs f h (ms++uS hs ts qs f (ms.map (·.1)) h o) ((nb hs ts h).drop (i+1))=Gw hs ts qs f h:=by
    rw[pO,aH c] at eq3;exact eq3
   apply#[_,Z,lm,Z,#[_,.of m3],λD hD=>?_];apply jz (own:=1) (fv:=[]) (xs:=ys) Z dW (λj out H'=>aa H3 H'/\H' D\.lst out/\out=((ms.map (·.1)).take j).map V.str) #[aa.new hD,aq,Z] (λj out H' _ ⟨sm,_⟩=>.of (sm _ _ m3)) (λout H4 ⟨s4,d4,eo⟩=>?_) (λj x out H' hx ⟨sm,hd,eo⟩=>?_);rotate_left
   ·let#[q,hq,a,rfl,ha]:=kU t3 hx;have hj:j<ms.length:=(cq.mp hq).1;apply#[_,Z,Z,λNx hN=>dD ?_];apply#[_,Z,a,_,0,.str q.1,Z,Z,.of (sm _ _ ha),L2.fq (j:=0) Z,out,hd,?_,hN (out++[.str q.1]) _ #[gY sm hD,aq,?_]]
    ·rw[eo,au,cX];omega
    rw[eo,ij (show (ms.map (·.1))[j]? = some q.1 by rw[cY,hq];rfl),cj];rfl
   rw[ly,vC (by rw[au];exact bj _)] at eo;subst eo;lk;let m4:=s4 _ _ m3;apply#[_,Z,.inl #[Z,_,.of m4],?_];apply#[_,Z,_,Z,_,Z,_,Z,v,g,p,D,h,o,ms.map (·.1),hs,ts,qs,fp,f,Z,S3.same s4,W,hh,om,d4,λl5 zs H5 s5 n5 e5 t5=>?_];let uU:=s4.trans s5;let m5:=uU _ _ m3;let lz:=bK t5;let hl:=Tw W (ms.map (·.1)) h o;rw[au] at lz;apply#[lm,l5,ys,zs,Z,Z,m5,e5,by omega,?_];apply#[_,_,ys++zs,ms++uS hs ts qs f (ms.map (·.1)) h o,Z,λb u e=>?_,?_,aq,?_,?_,eq3]
   ·rw[aC (bw e nm)];exact uU _ _ (Eb _ _ e)
   ·rw[aC Cm.symm];exact uU _ _ l3
   ·rw[cj];exact jx (iI (t3.same uU) m5) (iI t5 m5)
   rw[dM];omega
  have c:¬0<iB hs qs f h o:=⇑c
  apply#[_,_,ys,ms,Z,Eb,l3,m3,t3,by omega,?_];rw[pO,aB c] at eq3;exact eq3
 rintro σ H3 ⟨v3,v4,ys,ms,rfl,Eb,l3,m3,t3,LL,eq3⟩;rw[au,List.drop_length] at eq3;apply#[_,Z,k lm ys H3 Eb nm m3 ?_];rw[<- eq3];exact t3
theorem fS_{f0 CS CG CW T:Addr}{fd:Ae}(F:bf K "moves_from" "moves_from" GK f0 fd)(cL:!aZ 5 "moves_by_shares" ["sight","hand"] (Oq K CS CG CW)):!aj a9 6 f0 fd vg (vB K CS CG CW T (λr=>r.2.1="shares") C9):=by
 exists F.bF OO;let#[v,g,p,aw,h,hs,ts,qs,fp,f,r,bX,rfl,le,ha,S,W,hh,tab,k]:=h;refine' #[_,ax ?s0 (ax ?s1 (aA ?s2)),?kk]
 case s0=>exact bx (bY gU (bp c7 (pv 2) ay) dc) eI bJ
 case s1=>exact bx (bY gU (bp c7 (pv 2) ay) dc) eI bJ
 case s2=>exact aU (aN cL hr %[0,1|0])
 have ln:¬r.2.1="least":=by rw[le];decide +kernel
 have lb:¬r.2.1="below":=by rw[le];decide +kernel
 apply#[_,Z,aw,_,_,_,Z,Z,ha _,Z,Z,_,Z,?_];rw[qB,d_ ln];apply aO ?_;apply#[_,Z,aw,_,_,_,Z,Z,ha _,Z,Z,_,Z,?_];rw[qB,d_ lb];apply aO ?_;exact#[_,Z,_,Z,v,g,p,h,hs,ts,qs,fp,f,Z,S,W,hh,λl ys H' b n e tu=>k l ys H' (aM.of b) (tab.same b) n e tu]
end
end Ev
namespace Ev
open PySem L2
def hit(t u:Str × Str):Bool:=(decide (u.1=t.1) || decide (u.2=t.1)) || (decide (u.1=t.2) || decide (u.2=t.2))
def fC(rs:List Xb)(t:Str × Str):Nat:=rs.findIdx λr=>!r.any (hit t)
def xj(K:af)(H:Hp)(l:Addr)(as:ai)(rs:List Xb):Prop:=H l=some (.lst (as.map V.ref))/\Paired (λa r=>∃zs,H a\.lst zs/\bD K H zs (r.map kT)) as rs
theorem xj.same{K:af}{H H':Hp}{l:Addr}{as:ai}{rs:List Xb}(h:xj K H l as rs)(s:aa H H'):xj K H' l as rs:=#[s _ _ h.1,Paired.bL h.2 λa r ⟨zs,e,t⟩=>#[zs,s _ _ e,t.same s]]
section v
theorem rP:bq ["rows","tie","place","row"] ["rows","tie"] (aX PJ):=bB
inductive rg (K:af) (vs:ag) (H:Hp) (Q:VK) (E:XK):Prop
 |mk:∀(l t:Addr) (as:ai) (rs:List Xb) (tt:Str × Str),vs=[.ref l,.ref t]->xj K H l as rs->H t\.tup ((kT tt).map kV)->(∀r∈rs,r.length<=1000)->(∀H',aa H H'->Q (.int (fC rs tt)) H')->rg K vs H Q E
theorem _k{f:Addr}{fd:Ae}(F:bf K "first_row_without" "first_row_without" PJ f fd)(B:Bi mg):!aj a9 1 f fd ["rows","tie"] (rg K):=by
 exists F.bF rP;let#[l,t,as,rs,tt,rfl,R,ht,yC,k]:=h;let sz:=bZ
 apply#[_,ax (eR eE Z (N9 (by rfl) B.enum %[0|0]) (mE Z (dB (cm 2 rP.nd) (dB (cm 3 rP.nd) jd)))
   (aA (bx (dZ (di (cc (iA_ Z) (by rfl) B.any PyProof.Rows.Boot.«any» (eW
    (jy ["there","tie"] 1 [1] (dN (pv 3)) (λfp s H=>eY (i:=0) (show (["there","tie"]:ae).Nodup by decide +kernel) Z (Or.inl Z)) (λfp s H=>gX)
     (λfp s H=>RH (oM (Lg (K:=K) (λK=>Ig K false) VA) (bp (tQ (K:=K) jL c7) (pv 1) ay) (pv 0) (by with_unfolding_all rfl)) (kF (oM (Lg (K:=K) (λK=>Ig K false) VA) (bp (tQ (K:=K) jL c7) (pv 1) ay) (pv 0) (by with_unfolding_all rfl))))) ba)))) (aA (aU (pv 2))) bJ)))
  (aA (aU (cc gc (by rfl) B.len fP %[0|0]))),?_]
 let la:=bK R.2;apply#[_,Z,l,Z,#[_,.of R.1],Ul (K:=K) (a:=l) (xs:=as.map V.ref) (λi σ H2=>∃(v2 v3:aI),σ=[some (.ref l),some (.ref t),v2,v3]/\aa H H2/\∀r∈rs.take i,r.any (hit tt)=true) #[none,none,Z,aa.refl H,by simp] (λi σ H2 _ ⟨_,_,_,s2,_⟩=>.of (s2 _ _ R.1)) ?_ ?_]
 ·rintro i x σ H2 hx ⟨v2,v3,rfl,s2,past⟩ u hu
  have hi:i<as.length:=by
   have:=(cq.mp hx).1;rwa [au] at this
  have ex:x=.ref as[i]:=by
   rw[cY,bO hi] at hx;exact (eF hx).symm
  subst ex;have IF:i<rs.length:=by omega
  let#[zs,Sh,tz]:=hJ R.2 i hi IF;have s3:aa H (upd H2 u (.tup [.int i,.ref as[i]])):=s2.trans (aa.new hu);have L5:upd H2 u (.tup [.int i,.ref as[i]]) u\.tup [.int i,.ref as[i]]:=aq;generalize upd H2 u (.tup [.int i,.ref as[i]])=H3 at s3 L5 ⊢;apply#[u,_,Z,.of L5,Z,_,_,Z,_,_,Z,Z,?_];apply#[_,Z,as[i],Z,#[_,.of (s3 _ _ Sh)],λD hD=>?_];let lz:=bK tz;rw[au] at lz;let lr:=yC rs[i] (kQ IF);apply jz (own:=1) (fv:=[some (.ref t)]) (xs:=zs) Z dW (λj out H'=>aa H3 H'/\H' D\.lst out/\out=((rs[i].take j).map (hit tt)).map V.bl) #[aa.new hD,aq,Z] (λj out H' _ ⟨sm,_,_⟩=>.of (sm _ _ (s3 _ _ Sh))) (λout H4 ⟨s4,iY,eo⟩=>?_) (λj y out H' hy ⟨sm,dU,eo⟩=>?_)
  ·rw[lz,eK] at eo;subst eo;apply#[D,rs[i].map (hit tt),Z,.of iY,#[_,Z,?_]];have F_:(rs[i].map (hit tt)).any id=rs[i].any (hit tt):=by rw[List.any_map];rfl
   apply aL (λc=>?_) (λc=>?_)
   ·have c:rs[i].any (hit tt)=false:=by
     have:(!(rs[i].map (hit tt)).any id)=true:=c;rw[F_] at this;simpa using this
    have e:fC rs tt=i:=by
     unfold fC;rw[List.findIdx_eq IF];apply#[by rw[c];rfl,λj hj=>?_];have:=past (rs[j]' Z1) (List.mem_iff_getElem?.mpr #[j,by rw[List.getElem?_take_of_lt hj,bO Z1]]);rw[this];rfl
    apply#[_,Z,?_];have:=k H4 (s3.trans s4);rw[e] at this;exact this
   have c:rs[i].any (hit tt)=true:=by
    have:¬(!(rs[i].map (hit tt)).any id)=true:=c;rw[F_] at this;simpa using this
   apply#[_,_,Z,s3.trans s4,λr hr=>?_];rw[iD,bO IF] at hr;rcases eZ.mp hr with hr|hr
   ·exact past r hr
   obtain rfl:r=rs[i]:=⇑hr
   exact c
  let#[q,hq,a,rfl,ha]:=kU tz hy;let S7:=sm _ _ (s3 _ _ (yk ha));let jk:=sm _ _ (s3 _ _ (yk ht))
  have lo:out.length<sizeLine:=by
   rw[eo,au,au,cX];omega
  apply#[_,Z,Z,λNx hN=>dD ?_];have nx:Nx (upd H' D (.lst (out++[.bl (hit tt q)]))):=hN _ _ #[gY sm hD,aq,by rw[DA _ hq,cj,eo];rfl];apply#[_,Z,t,_,_,_,Z,Z,.of jk,Z,_,Z,a,_,Z,.inr (.of S7),Z,Z,_,Z,?_];apply aL (λc=>?_) (λc=>?_)
  ·have c:(decide (q.1=tt.1) || decide (q.2=tt.1))=true:=by rw[<- M_];exact c
   apply#[out,dU,lo,?_];rwa [show hit tt q=true by unfold hit;rw[c];rfl] at nx
  have c:(decide (q.1=tt.1) || decide (q.2=tt.1))=false:=by
   rw[<- M_];simpa using c
  apply#[_,Z,t,_,_,_,Z,Z,.of jk,Z,_,Z,a,_,Z,.inr (.of S7),Z,Z,out,dU,lo,?_];rw[show hit tt q=E1 (.str tt.2) [.str q.1,.str q.2] by unfold hit;rw[c,Bool.false_or,M_]] at nx;exact nx
 rintro σ H2 ⟨v2,v3,rfl,s2,past⟩;rw[au,la,eK] at past;apply#[_,Z,l,_,Z,.inl (.of (s2 _ _ R.1)),?_]
 have e:fC rs tt=rs.length:=by
  unfold fC;rw[List.findIdx_eq_length];intro r hr;rw[past r hr];rfl
 have:=k H2 s2;rw[e] at this;rw[au,la];exact this
end
end Ev
namespace Ev
open PySem L2
abbrev lL:Stmt:=ju iS 8
theorem OR{α β:Type}{F:α->β->Prop}:∀{l:List α} {m:List β},l.length=m.length->(∀(i:Nat) (h1:i<l.length) (h2:i<m.length),F l[i] m[i])->Paired F l m
 |[],[],_,_=>.nil
 |[],_::_,h,_=>by cases h
 |_::_,[],h,_=>by cases h
 |a::l,b::m,h,f=>.cons (f 0 Z2 Z2) (OR ⇑h λi h1 h2=>f (i+1) ⇑h1 ⇑h2)
def g8(rs:List Xb)(t:Str × Str):List Xb:=if h:fC rs t<rs.length then rs.set (fC rs t) (rs[fC rs t]++[t]) else rs++[[t]]
def turnsOf(ts:Xb):List Xb:=ts.foldl g8 []
theorem iO_(rs:List Xb)(t:Str × Str):fC rs t<=rs.length:=List.findIdx_le_length
theorem O0(rs:List Xb)(t:Str × Str):(g8 rs t).length<=rs.length+1:=by
 unfold g8;split
 ·rw[List.length_set];omega
 rw[dM];exact bj _
theorem O5{rs:List Xb}{t:Str × Str}{n:Nat}(h:∀r∈rs,r.length<=n):∀r∈g8 rs t,r.length<=n+1:=by
 unfold g8;intro r hr;split at hr
 ·rename_i dz
  rcases List.mem_or_eq_of_mem_set hr with m|rfl
  ·have:=h r m;omega
  have:=h rs[fC rs t] (kQ dz);rw[dM];show rs[fC rs t].length+1<=n+1;omega
 rcases eZ.mp hr with m|m
 ·have:=h r m;omega
 obtain rfl:r=[t]:=⇑m
 simp
theorem xj.add{K:af}{H H':Hp}{l a:Addr}{as:ai}{rs:List Xb}{t:Str × Str}{zs:ag}(h:xj K H l as rs)(nd:as.Nodup){p:Nat}(hp:p<rs.length)(ha:as[p]? = some a)(hl:H' l\.lst (as.map V.ref))(hz:H' a\.lst zs)(tz:bD K H' zs ((rs[p]++[t]).map kT))
  (k:∀b o,H b\o->b≠l->b≠a->H' b\o) (jW:∀b∈as,b≠l) (kt:∀b xs,H b\.tup xs->H' b\.tup xs):xj K H' l as (rs.set p (rs[p]++[t])):=by
 let la:=bK h.2;apply#[hl,OR (by rw[List.length_set,la]) λi h1 h2=>?_];rw[List.length_set] at h2;let#[Cq,ea]:=cq.mp ha;by_cases e:p=i
 ·subst e;rw[List.getElem_set_self,ea];exact#[zs,hz,tz]
 rw[List.getElem_set_ne e];let#[DH,e2,t2]:=hJ h.2 i h1 h2;have ne:as[i]≠a:=λq=>e ((List.getElem_inj nd).mp (ea.trans q.symm));exact#[DH,k _ _ e2 (jW _ (kQ h1)) ne,Paired.bL t2 λy q ⟨c,z,e⟩=>#[c,z,kt _ _ e]]
theorem eP_{α β:Type}{F:α->β->Prop}{l:List α}{m:List β}{a:α}{b:β}(h:Paired F l m)(f:F a b):Paired F (l++[a]) (m++[b]):=Paired.snoc h f
section v
theorem JB:bq ["self","rows","tie","place"] gA (aX lL):=bB
inductive Jy (K:af) (C:Addr) (vs:ag) (H:Hp) (Q:VK) (E:XK):Prop
 |mk:∀(p:Addr) (hs:Xa) (ts:Xb) (fp:ai),vs=[.ref p]->fj K C H p hs ts fp->ts.length<64->(∀(l:Addr) (as:ai) (H':Hp),aa H H'->H l=none->(∀a∈as,H a=none)->(∀a∈as,a≠l)->as.Nodup->xj K H' l as (turnsOf (aQ ts))->Q (.ref l) H')->Jy K C vs H Q E
theorem iL_{f C:Addr}{fd:Ae}(F:bf K "turns" "Web.turns" lL f fd)(B:Bi mg)(T:Txt K mg C)(cT:!br C 2 "ties" gA (NR K C))(cR:!aZ 1 "first_row_without" ["rows","tie"] (rg K)):!aj a9 3 f fd gA (Jy K C):=by
 exists F.bF JB;let#[p,hs,ts,fp,rfl,W,bS,k]:=h;let sz:=bZ;let#[dx,d1,l2,d3,jA,Wg,efp,h1,_]:=id W.ex;have Zk:(cU d1 l2 d3).lookup ("ties":Str)=none:=iF _ _ _ Z0 Z0 Z0
 apply#[_,ax (bh 1 JB.nd (dH ba))
  (ax (eR eE Z (dN (wV cT T.cl hr (pv 0))) (cm 2 JB.nd)
   (ax (bh 3 JB.nd (aN cR hr %[1,2|0]))
   (ax (bx (bY gU (pv 3) (cc gc (by rfl) B.len fP %[1|0]))
    (aA (iE (iy ja xa xb vz (pv 1) %[dH ba|0]))) bJ)
   (aA (iE (iy ja xa xb vz (bp dY (pv 1) (pv 3)) %[2|0]))))))
  (aA (aU (pv 1)))),?_]
 apply#[zl,λlr Mq=>?_];have s0:aa H (upd H lr (.lst [])):=aa.new Mq;have wm:upd H lr (.lst []) lr\.lst []:=aq;generalize upd H lr (.lst [])=H0 at s0 wm ⊢;apply#[_,Z,p,dx,_,Z,s0 _ _ h1,Zk,p,hs,ts,fp,Z,W.same s0,bS,λlt zs H1 s1 dz tZ tz=>?_];have Ci:lt≠lr:=(bw wm dz).symm;let lz:=bK tz;rw[au,Gs] at lz;let qd:=Gs ts
 apply#[lt,Z,#[_,.of tZ],hU (K:=K) (a:=lt) (xs:=zs) (λi σ H2=>∃(v2 v3:aI) (as:ai),σ=[some (.ref p),some (.ref lr),v2,v3]/\aM lr H1 H2/\(∀a∈as,H1 a=none/\a≠lr)/\as.Nodup/\xj K H2 lr as (turnsOf ((aQ ts).take i))/\(turnsOf ((aQ ts).take i)).length<=i/\∀r∈turnsOf ((aQ ts).take i),r.length<=i)
  #[none,none,[],Z,aM.refl _ _,by simp,.nil,#[s1 _ _ wm,.nil],bj _,by intro r hr;simp[turnsOf] at hr] (λi σ H2 _ ⟨_,_,_,_,b,_⟩=>.of (b _ _ tZ Ci)) ?_ ?_]
 ·rintro i y σ H2 hy ⟨v2,v3,as,rfl,b2,fa,nd,R,l1,Cn⟩;let#[t,ht,a,rfl,ha]:=kU tz hy;have hi:i<(aQ ts).length:=(cq.mp ht).1;let Mp:=s1 _ _ wm;have Rz:a≠lr:=cb ha Mp nofun;let iu:=b2 _ _ ha Rz;let la:=bK R.2
  have Bd:turnsOf ((aQ ts).take (i+1))=g8 (turnsOf ((aQ ts).take i)) t:=by
   unfold turnsOf;rw[iD,ht,List.foldl_append];rfl
  generalize turnsOf ((aQ ts).take i)=rs at R l1 Cn la Bd;apply#[_,Z,_,Z,lr,a,as,rs,t,Z,R,iu,λr hr=>by have:=Cn r hr;omega,λH3 s3=>?_];let R3:=R.same s3;let jr:=s3 _ _ iu;have b3:aM lr H1 H3:=b2.trans (aM.of s3);have f3:∀a∈as,H1 a=none/\a≠lr:=fa;apply#[_,Z,_,Z,lr,_,Z,.inl (.of R3.1),Z,_,Z,?_];apply aL (λc=>?_) (λc=>?_)
  ·have c:fC rs t=rs.length:=by
    have:V.int (fC rs t)=V.int ((as.map V.ref).length:Nat):=⇑c
    rw[au,la] at this;have:=V.int.inj this;omega
   apply#[_,Z,.inl #[Z,_,.of R3.1],zl,λln AM=>?_];let#[s4,Ms]:=bg (o:=.lst []) AM;have Il:ln≠lr:=(bw R3.1 AM).symm;apply#[lr,_,_,Z,Z,s4 _ _ R3.1,by rw[au];omega,?_]
   have fln:H1 ln=none:=by
    cases z:H1 ln with
    |none=>rfl
    |some o=>
     have:=b3 _ _ z Il;rw[AM] at this;cases this
   have Zo:ln∉as:=λm=>by
    let#[j,hj,e]:=mO m;let#[zz,e2,_]:=hJ R3.2 j hj Z1;rw[e,AM] at e2;cases e2
   have Qg:eJ (as.map V.ref++[V.ref ln]) (fC rs t:Int)\.ref ln:=by
    rw[fq Z1 (by rw[dM,au];show ((fC rs t:Nat):Int)<((as.length+1:Nat):Int);omega),mN,c,xp (by rw[au];omega),au,la,Nat.sub_self];rfl
   have AK:upd (upd H3 ln (.lst [])) lr (.lst (as.map V.ref++[.ref ln])) lr\.lst (as.map V.ref++[.ref ln]):=aq;have AL:upd (upd H3 ln (.lst [])) lr (.lst (as.map V.ref++[.ref ln])) ln\.lst []:=by rw[aC Il];exact Ms
   have k5:∀{b o},H3 b\o->b≠lr->upd (upd H3 ln (.lst [])) lr (.lst (as.map V.ref++[.ref ln])) b\o:=λe ne=>by rw[aC ne];exact s4 _ _ e
   generalize upd (upd H3 ln (.lst [])) lr (.lst (as.map V.ref++[.ref ln]))=H5 at AK AL k5 ⊢;apply#[_,Z,_,Z,lr,_,_,_,Z,Z,.of AK,Qg,.inl #[Z,_,.of AL],_,Z,ln,_,_,Z,Z,AL,by show 0<sizeLine;decide,?_];have k6:∀{b o},H3 b\o->b≠lr->upd H5 ln (.lst ([]++[.ref a])) b\o:=λe ne=>by rw[aC (bw e AM)];exact k5 e ne
   have Fx:upd H5 ln (.lst ([]++[.ref a])) ln\.lst [.ref a]:=aq;have Fv:upd H5 ln (.lst ([]++[.ref a])) lr\.lst (as.map V.ref++[.ref ln]):=by rw[aC Il.symm];exact AK
   generalize upd H5 ln (.lst ([]++[.ref a]))=H6 at k6 Fx Fv ⊢;have kt:∀b xs,H3 b\.tup xs->H6 b\.tup xs:=λb xs e=>k6 e (cb e R3.1 nofun)
   have ep:g8 rs t=rs++[[t]]:=by
    unfold g8;rw[dif_neg Z1]
   apply#[_,_,as++[ln],Z,λb o e ne=>k6 (b3 _ _ e ne) ne,λx hx=>?_,?_,?_,?_,?_]
   ·rcases eZ.mp hx with m|m
    ·exact fa x m
    obtain rfl:x=ln:=⇑m
    exact#[fln,Il]
   ·rw[ze]
    exact#[nd,by simp,λx hx z hz=>by
     obtain rfl:z=ln:=⇑hz
     exact λq=>Zo (q▸hx)]
   ·rw[Bd,ep];apply#[by rw[cj];exact Fv,eP_ (OR la λj h1 h2=>?_) #[_,Fx,.cons #[a,Z,kt _ _ jr] .nil]];let#[zz,e,tt]:=hJ R3.2 j h1 h2;exact#[zz,k6 e (fa _ (kQ h1)).2,Paired.bL tt λy q ⟨c,z,e⟩=>#[c,z,kt _ _ e]]
   ·rw[Bd];have:=O0 rs t;omega
   rw[Bd];exact O5 Cn
  have c:fC rs t<rs.length:=by
   let h1:=iO_ rs t
   have:¬fC rs t=rs.length:=λe=>c (by
    rw[au,la,e];simp)
   omega
  have Cq:fC rs t<as.length:=by omega
  have nl:as[fC rs t]≠lr:=(fa _ (kQ Cq)).2;let#[zz,ez,QP]:=hJ R3.2 (fC rs t) Cq c;let ZO:=bK QP;rw[au] at ZO;let Z4:=Cn _ (kQ c)
  have Qg:eJ (as.map V.ref) (fC rs t:Int)\.ref as[fC rs t]:=by
   rw[fq Z1 (by rw[au];omega),mN,cY,bO Cq];rfl
  apply#[_,Z,_,Z,lr,_,_,_,Z,Z,.of R3.1,Qg,.inl #[Z,_,.of ez],_,Z,_,_,_,Z,Z,ez,by omega,?_];have k6:∀{b o},H3 b\o->b≠as[fC rs t]->upd H3 as[fC rs t] (.lst (zz++[.ref a])) b\o:=λe ne=>by rw[aC ne];exact e
  have h6:upd H3 as[fC rs t] (.lst (zz++[.ref a])) as[fC rs t]\.lst (zz++[.ref a]):=aq;generalize upd H3 as[fC rs t] (.lst (zz++[.ref a]))=H6 at k6 h6 ⊢;have kt:∀b xs,H3 b\.tup xs->H6 b\.tup xs:=λb xs e=>k6 e (cb e ez nofun)
  have ep:g8 rs t=rs.set (fC rs t) (rs[fC rs t]++[t]):=by
   unfold g8;rw[dif_pos c]
  apply#[_,_,as,Z,λb o e ne=>k6 (b3 _ _ e ne) (bw e (fa _ (kQ Cq)).1),fa,nd,?_,?_,?_]
  ·rw[Bd,ep];apply R3.add nd c (bO Cq) (k6 R3.1 nl.symm) h6 ?_ (λb o e _ ne=>k6 e ne) (λb hb=>(fa b hb).2) kt;rw[cj];exact vA (Paired.bL QP λy q ⟨c,z,e⟩=>#[c,z,kt _ _ e]) (kt _ _ jr)
  ·rw[Bd];have:=O0 rs t;omega
  rw[Bd];exact O5 Cn
 rintro σ H2 ⟨v2,v3,as,rfl,b2,fa,nd,R,_,_⟩;rw[lz,<- qd,eK] at R;have s2:aa H H2:=λb o e=>b2 _ _ (s1 _ _ (s0 _ _ e)) (bw e Mq);exact#[_,Z,k lr as H2 s2 Mq (λa ha=>(s0.trans s1).free (fa a ha).1) (λa ha=>(fa a ha).2) nd R]
end
end Ev
namespace L2
open PySem PyProof.Rows
section
variable{X:Cx}
inductive tq (K:af) (x:V) (y:V) (H:Hp) (Q:VK):Prop
 |mk:∀a b xs,x=.ref a->y=.ref b->dJ K H a xs->dJ K H b []->Q (.bl xs.isEmpty) H->tq K x y H Q
theorem ih_(hu:X.A.units+0+1<cLine):d6 X (compareOp .Eq) (tq X.K):=by
 intro pins s σ H x y v u Q I rx ry h;let#[a,b,xs,rfl,rfl,t,t',hq]:=h;cases xs with
 |nil=>exact RV ic hu pins s σ H (.ref a) (.ref b) v u Q I rx ry #[[],[],#[a,[],Z,t,.nil],#[b,[],Z,t',.nil],hq]
 |cons z zs=>
  cases rx;cases ry;let#[us,r,pl,_]:=I.list t;let#[vs,r',tD,_]:=I.list t';let l1:=r.length;let l2:=r'.length;exact SeqAt.eq_list_lengthsAt pl.isList tD.isList (by simp only[cK,bne_iff_ne];simp at l1 l2;omega) Z1 #[.bl false,H,I,Z,hq]
end
end L2
namespace Ev
open PySem L2
def jt(ts:Xb)(m:Int):Xb:=((turnsOf (aQ ts))[(m % ((turnsOf (aQ ts)).length:Int)).toNat]?).getD []
def pV(hs:Xa)(ts:Xb)(qs:aK)(f:ao)(gd:Str)(t:Str × Str):fg:=gj hs ts qs f gd [] t.1 t.2++gj hs ts qs f gd [] t.2 t.1
def xf(hs:Xa)(ts:Xb)(qs:aK)(f:ao)(gd:Str)(m:Int):fg:=(jt ts m).flatMap (pV hs ts qs f gd)
theorem fV_{rs:List Xb}{t u:Str × Str}{r:Xb}(hr:r∈g8 rs t)(hu:u∈r):u=t∨∃r'∈rs,u∈r':=by
 unfold g8 at hr;split at hr
 ·rename_i dz
  rcases List.mem_or_eq_of_mem_set hr with m|rfl
  ·exact .inr #[r,m,hu]
  rcases eZ.mp hu with h|h
  ·exact .inr #[_,kQ dz,h]
  exact .inl ⇑h
 rcases eZ.mp hr with m|m
 ·exact .inr #[r,m,hu]
 obtain rfl:r=[t]:=⇑m
 exact .inl ⇑hu
theorem UH{u:Str × Str}:∀(ts:Xb) (rs:List Xb) {r:Xb},r∈ts.foldl g8 rs->u∈r->u∈ts∨∃r'∈rs,u∈r'
 |[],rs,r,hr,hu=>.inr #[r,hr,hu]
 |t::ts,rs,r,hr,hu=>by
  rw[List.foldl_cons] at hr;rcases UH ts (g8 rs t) hr hu with h|⟨r',h1,h2⟩
  ·exact .inl (eL _ h)
  rcases fV_ h1 h2 with rfl|h
  ·exact .inl d9
  exact .inr h
theorem UD:∀(ts:Xb) (rs:List Xb),(ts.foldl g8 rs).length<=rs.length+ts.length
 |[],rs=>bj _
 |t::ts,rs=>by
  rw[List.foldl_cons,gB];let h1:=UD ts (g8 rs t);let h2:=O0 rs t;omega
theorem VD{n:Nat}:∀(ts:Xb) (rs:List Xb),(∀r∈rs,r.length<=n)->∀r∈ts.foldl g8 rs,r.length<=n+ts.length
 |[],rs,h,r,hr=>h r hr
 |t::ts,rs,h,r,hr=>by
  rw[List.foldl_cons] at hr;have:=VD (n:=n+1) ts (g8 rs t) (O5 h) r hr;rw[gB];omega
theorem Dr{ts:Xb}{m:Int}{u:Str × Str}(h:u∈jt ts m):u∈aQ ts:=by
 unfold jt at h;cases e:(turnsOf (aQ ts))[(m % ((turnsOf (aQ ts)).length:Int)).toNat]? with
 |none=>rw[e] at h;cases h
 |some r=>
  rw[e] at h;rcases UH (aQ ts) [] (dC e) h with z|⟨_,z,_⟩
  ·exact z
  cases z
theorem eQ_{hs:Xa}{ts:Xb}(G:Good hs ts)(m:Int):(jt ts m).length<64:=by
 unfold jt;cases e:(turnsOf (aQ ts))[(m % ((turnsOf (aQ ts)).length:Int)).toNat]? with
 |none=>show 0<64;decide
 |some r=>
  have:=VD (n:=0) (aQ ts) [] Z2 r (dC e);rw[Gs] at this;have:=G.vL;show r.length<64;omega
theorem GC{hs:Xa}{ts:Xb}(G:Good hs ts){u:Str × Str}(h:u∈aQ ts):u.1∈az hs/\u.2∈az hs:=by
 have k:kT u∈(aQ ts).map kT:=bH.mpr #[u,h,Z];rw[Hm,(kP _).mem_iff] at k;let#[t,ht,e]:=bH.mp k;let e:=C6 e;let#[h1,h2]:=G.HL t ht;let n1:=(iH hs).mem_iff.mpr h1;let n2:=(iH hs).mem_iff.mpr h2;rw[<- e];unfold aR;split
 ·exact#[n1,n2]
 exact#[n2,n1]
theorem Us{α β:Type}{g:α->List β}{n:Nat}(h:∀x,(g x).length<=n):∀l:List α,(l.flatMap g).length<=n * l.length
 |[]=>gD _
 |a::l=>by
  let h1:=h a;let h2:=Us h l;rw[List.flatMap_cons,dM,gB,Nat.mul_succ];omega
theorem fJ_(hs:Xa)(ts:Xb)(qs:aK)(f:ao)(gd:Str)(t:Str × Str):(pV hs ts qs f gd t).length<=2:=by
 unfold pV;rw[dM];let h1:=qv hs ts qs f gd [] t.1 t.2;let h2:=qv hs ts qs f gd [] t.2 t.1;omega
section v
theorem Hj:bq ["sight","guard","moment","rows","moves","one","other"] ["sight","guard","moment"] (aX OG):=bB
inductive Pu (K:af) (CS CG CW:Addr) (vs:ag) (H:Hp) (Q:VK) (E:XK):Prop
 |mk:∀(v g p:Addr) (gd:Str) (m:Int) (hs:Xa) (ts:Xb) (qs:aK) (fp:ai) (f:ao),vs=[.ref v,.str gd,.int m]->0<=m->iz K CS CG CW H v g p hs ts qs fp f->Wd hs ts qs f->(∀l ys H',aa H H'->H l=none->H' l\.lst ys->bD K H' ys ((xf hs ts qs f gd m).map kM)->Q (.ref l) H')->Pu K CS CG CW vs H Q E
theorem fY_{f0 CS CG CW:Addr}{fd:Ae}(F:bf K "moves_by_turns" "moves_by_turns" OG f0 fd)(B:Bi mg)(TS:fW K CS)(TG:dI K CG)(TW:Txt K mg CW)(cT:!br CW 3 "turns" gA (Jy K CW))(cH:!aZ 4 "heaviest_move" kb (jF K CS CG CW)):!aj a9 5 f0 fd ["sight","guard","moment"] (Pu K CS CG CW):=by
 exists F.bF Hj;let#[v,g,p,gd,m,hs,ts,qs,fp,f,rfl,m0,S,W,k]:=h;let sz:=bZ;have Fg:bc 3 _:=hr.mono (by decide);refine' #[_,?r0,?kk]
 case' r0=>refine' ax ?s1 ?r1
 case' r1=>refine' ax ?s2 ?r2
 case' r2=>refine' ax ?s3 (ax ?s4 (aA ?s5))
 case s1=>exact bh 3 Hj.nd (wV cT TW.cl Fg (dA (dA (pv 0) Z) Z))
 case s2=>exact bx (bY (ih_ (mK hr 0)) (pv 3) (dH ba)) (aA (aU (dH ba))) bJ
 case s3=>exact bh 4 Hj.nd (dH ba)
 case' s4=>refine' eR eE Z (dN (bp dY (pv 3) (bG vv (pv 2) (cc gc (by rfl) B.len fP %[3|0])))) (mE Z (dB (cm 5 Hj.nd) (dB (cm 6 Hj.nd) jd))) (ax ?b1 (aA ?b2))
 case b1=>exact iE (iy ja Di Dj Dp (pv 4) %[aN cH hr %[0,5,6,1,dH ba|0]|0])
 case b2=>exact iE (iy ja Di Dj Dp (pv 4) %[aN cH hr %[0,6,5,1,dH ba|0]|0])
 case s5=>exact aU (pv 4)
 let#[dx,dl,dv,dp,ad,h1,G,h3,h4,h5,h6]:=S.ex;let#[ib,dw,dy,vs,bP,g1,g2,_]:=id G.ex;let#[fi,d1,l2,d3,jA,Wg,ef,w1,_]:=id g2.ex;have gP:(cU d1 l2 d3).lookup ("turns":Str)=none:=iF _ _ _ Z0 Z0 Z0;apply#[_,Z,v,CS,dx,_,_,Z,h1,TS.cl,TS.nW,gi _ _ _ _,g,CG,ib,_,_,Z,g1,TG.cl,TG.nW,kK _ _ _,p,fi,_,Z,w1,gP,p,hs,ts,bP,Z,g2,W.Gd.vL,λlr as H1 s1 nr _ _ _ R=>?_];lk;let la:=bK R.2;apply#[_,Z,zl,λle ne=>?_];let#[jh,e2]:=bg (o:=.lst []) ne;generalize upd H1 le (.lst [])=H2 at jh e2 ⊢;let s2:=s1.trans jh;let R2:=R.same jh;apply#[lr,le,_,Z,Z,.of R2.1,.of e2,_,Z,?_];apply aL (λc=>?_) (λc=>?_)
 ·have z:as=[]:=⇑c
  have z:turnsOf (aQ ts)=[]:=by
   rw[z] at la;exact zi.mp la.symm
  apply#[zl,λl nl=>?_];apply k l [] _ (s2.trans (aa.new nl)) (s2.free nl) aq ?_;unfold xf jt;rw[z];exact .nil
 have z:as≠[]:=⇑c
 have pos:0<as.length:=List.length_pos_iff.mpr z;apply#[zl,λlm nm=>?_];lk;let#[z_,e3]:=bg (o:=.lst []) nm;generalize upd H2 lm (.lst [])=H3 at z_ e3 ⊢;let s3:=s2.trans z_;have Cg:H lm=none:=s2.free nm;let R3:=R2.same z_
 have lt:(m % ((turnsOf (aQ ts)).length:Int)).toNat<as.length:=by
  let h1:=Int.emod_nonneg m (show ((as.length:Nat):Int)≠0 by omega);let h2:=Int.emod_lt_of_pos m (show 0<((as.length:Nat):Int) by omega);rw[<- la];omega
 have lt':(m % ((turnsOf (aQ ts)).length:Int)).toNat<(turnsOf (aQ ts)).length:=by omega
 let#[zs,hz,tz]:=hJ R2.2 _ lt lt'
 have er:jt ts m=(turnsOf (aQ ts))[(m % ((turnsOf (aQ ts)).length:Int)).toNat]:=by
  unfold jt;rw[bO lt'];rfl
 rw[<- er] at tz;let _i:=eQ_ W.Gd m;have YF:∀u∈jt ts m,u.1∈az hs/\u.2∈az hs:=λu hu=>GC W.Gd (Dr hu);let h0:=Int.emod_nonneg m (show (((turnsOf (aQ ts)).length:Nat):Int)≠0 by omega)
 have ix:eJ (as.map V.ref) (m % ((as.map V.ref).length:Int))\.ref (as[(m % ((turnsOf (aQ ts)).length:Int)).toNat]):=by
  rw[au,la,fq h0 (by rw[au];omega),cY,bO lt];rfl
 generalize as[(m % ((turnsOf (aQ ts)).length:Int)).toNat]=ar at hz ix;let lz:=bK tz;rw[au] at lz;have Qh:ar≠lm:=bw hz nm;replace hz:=z_ _ _ hz;replace tz:=tz.same z_;apply#[_,Z,_,Z,_,Z,lr,_,Z,.inl (.of R3.1),_,_,Z,Z,by rw[au];omega,lr,_,_,_,Z,Z,.of R3.1,ix,ar,Z,#[_,.of hz],hU (K:=K) (a:=ar) (xs:=zs) (λi σ H'=>∃(v5 v6:aI) (ys:ag),σ=[some (.ref v),some (.str gd),some (.int m),some (.ref lr),some (.ref lm),v5,v6]/\aa H H'/\aM lm H3 H'/\H' lm\.lst ys/\bD K H' ys ((((jt ts m).take i).flatMap (pV hs ts qs f gd)).map kM)) #[none,none,[],Z,s3,aM.refl _ _,e3,.nil] (λi σ H' _ ⟨_,_,_,_,_,b,_⟩=>.of (b _ _ hz Qh)) ?_ ?_]
 ·rintro i x σ H4 hx ⟨v5,v6,ys,rfl,s4,b4,m4,t4⟩;let#[u,hu,a,rfl,ha]:=kU tz hx;have hi:i<(jt ts m).length:=(cq.mp hu).1;let#[n1,n2]:=YF u (dC hu);have ug:H4 a\.tup [.str u.1,.str u.2]:=b4 _ _ ha (cb ha e3 nofun);apply#[a,_,Z,.of ug,Z,_,_,Z,_,_,Z,Z,?_];dsimp only;let ly:=bK t4;rw[au] at ly;let bl:=Us (fJ_ hs ts qs f gd) ((jt ts m).take i);rw[cX] at bl;let l1:=qv hs ts qs f gd [] u.1 u.2;let Cn:=qv hs ts qs f gd [] u.2 u.1;apply#[_,Z,.inl #[Z,_,.of m4],_,Z,_,Z,_,Z,_,Z,zl,λlg ng=>?_];let#[sW,e5]:=bg (o:=.lst []) ng;generalize upd H4 lg (.lst [])=H5 at sW e5 ⊢;apply#[v,g,p,lg,u.1,u.2,gd,[],hs,ts,qs,fp,f,Z,S.same (s4.trans sW),W,n1,n2,e5,λl6 z6 H6 nJ n6 e6 t6=>?_];let uT:=sW.trans nJ;let m6:=uT _ _ m4;let ZR:=bK t6;rw[au] at ZR;apply#[lm,l6,ys,z6,Z,Z,m6,e6,by omega,?_];have s7:aa H (upd H6 lm (.lst (ys++z6))):=gY (s4.trans uT) Cg;have b7:aM lm H3 (upd H6 lm (.lst (ys++z6))):=λb o e n=>by rw[aC n];exact uT _ _ (b4 _ _ e n)
  have e7:upd H6 lm (.lst (ys++z6)) lm\.lst (ys++z6):=aq
  have t7:bD K (upd H6 lm (.lst (ys++z6))) (ys++z6) ((((jt ts m).take i).flatMap (pV hs ts qs f gd)++gj hs ts qs f gd [] u.1 u.2).map kM):=by
   rw[cj];exact jx (iI (t4.same uT) m6) (iI t6 m6)
  generalize upd H6 lm (.lst (ys++z6))=H7 at s7 b7 e7 t7 ⊢;dsimp only;apply#[_,Z,.inl #[Z,_,.of e7],_,Z,_,Z,_,Z,_,Z,zl,λRF Zp=>?_];let#[sU,e8]:=bg (o:=.lst []) Zp;generalize upd H7 RF (.lst [])=H8 at sU e8 ⊢;apply#[v,g,p,RF,u.2,u.1,gd,[],hs,ts,qs,fp,f,Z,S.same (s7.trans sU),W,n2,n1,e8,λl9 z9 H9 YB n9 e9 t9=>?_];let Ie:=sU.trans YB;let m9:=Ie _ _ e7;let ZQ:=bK t9;have ly7:(ys++z6).length=ys.length+z6.length:=dM;rw[au] at ZQ;apply#[lm,l9,ys++z6,z9,Z,Z,m9,e9,by omega,?_];apply#[_,_,(ys++z6)++z9,Z,gY (s7.trans Ie) Cg,λb o e n=>by rw[aC n];exact Ie _ _ (b7 _ _ e n),aq,?_];rw[show (jt ts m).take (i+1)=(jt ts m).take i++[u] by rw[iD,hu];rfl,List.flatMap_append,List.flatMap_cons,List.flatMap_nil,zk];unfold pV;rw[<- List.append_assoc,cj];exact jx (iI (t7.same Ie) m9) (iI t9 m9)
 rintro σ H4 ⟨v5,v6,ys,rfl,s4,b4,m4,t4⟩;rw[lz,eK] at t4;exact#[_,Z,k lm ys H4 s4 Cg m4 t4]
theorem nC:bq ["sight","rule","moment","words","moves","hand"] vi (aX jI):=bB
inductive NY (K:af) (CS CG CW:Addr) (vs:ag) (H:Hp) (Q:VK) (E:XK):Prop
 |mk:∀(v g p:Addr) (m:Int) (gd:Str) (hs:Xa) (ts:Xb) (qs:aK) (fp:ai) (f:ao),∀r∈rl,vs=[.ref v,.str r.1,.int m]->r.2.1="turns"->r.2.2.2\gd->0<=m->iz K CS CG CW H v g p hs ts qs fp f->Wd hs ts qs f->(∀l ys H',aa H H'->H l=none->H' l\.lst ys->bD K H' ys ((xf hs ts qs f gd m).map kM)->Q (.ref l) H')->NY K CS CG CW vs H Q E
theorem jb_{f0 CS CG CW:Addr}{fd:Ae}(F:bf K "moves_seen" "moves_seen" jI f0 fd)(w4:!aZ 2 Bm ["rule"] (Hf K))(cT:!aZ 5 "moves_by_turns" ["sight","guard","moment"] (Pu K CS CG CW)):!aj a9 6 f0 fd vi (NY K CS CG CW):=by
 exists F.bF nC;let#[v,g,p,m,gd,hs,ts,qs,fp,f,r,bX,rfl,le,eg,m0,S,W,k]:=h;refine' #[_,ax ?s1 (ax ?s2 eI),?kk]
 case s1=>exact CZ (i:=3) nC.nd Z (Or.inl Z) (aN w4 hr %[1|0])
 case s2=>exact bx (bY gU (bp c7 (pv 3) ay) dc) (aA (aU (aN cT hr %[0,bp c7 (pv 3) ay,2|0]))) bJ
 apply#[_,Z,r,bX,Z,λaw ha=>?_];lk;apply#[_,Z,aw,_,_,_,Z,Z,ha _,Z,Z,_,Z,?_];rw[qB,b_ le];apply bN ?_;apply#[_,Z,_,Z,aw,_,_,.str gd,Z,Z,ha _,?_,_,Z,v,g,p,gd,m,hs,ts,qs,fp,f,Z,m0,S,W,k];rw[eg];rfl
end
end Ev
namespace Ev
open PySem L2
theorem aj.two{P:Ad}{w:Af}{K:af}{mg:Str->Option Aa}{base:Heap}{CX:kq}{k:Nat}{f:Addr}{fd:Ae}{ps:ae}{sp Q5 K1:Sp}(F:!aj CX k f fd ps Q5)(G:!aj CX k f fd ps K1)(h:∀vs H Q E,sp vs H Q E->Q5 vs H Q E∨K1 vs H Q E):!aj CX k f fd ps sp:=
 #[λvs H Q E q=>(h vs H Q E q).elim (F.len vs H Q E) (G.len vs H Q E),λA outer s H args us vs Q E hr e b v q=>(h vs H Q E q).elim (F.run A outer s H args us vs Q E hr e b v) (G.run A outer s H args us vs Q E hr e b v)]
def kI:zm:=λr hs ts qs f h=>if r.2.1="least" then yO r hs ts qs f h else if r.2.1="below" then BI r hs ts qs f h else C9 r hs ts qs f h
theorem TL:∀r∈rl,r.2.1≠"turns"->r.2.1≠"least"->r.2.1≠"below"->r.2.1="shares":=by decide +kernel
theorem j2_:∀r∈rl,r.2.1="turns"->r.2.2.2.isSome=true:=by decide +kernel
theorem UV{r:Rl}(h:r.2.1="least")(hs:Xa)(ts:Xb)(qs:aK)(f:ao)(x:Str):kI r hs ts qs f x=yO r hs ts qs f x:=aH h
theorem Vy{r:Rl}(h:r.2.1="below")(hs:Xa)(ts:Xb)(qs:aK)(f:ao)(x:Str):kI r hs ts qs f x=BI r hs ts qs f x:=(aB (by rw[h];decide +kernel)).trans (aH h)
theorem Vi{r:Rl}(h:r.2.1="shares")(hs:Xa)(ts:Xb)(qs:aK)(f:ao)(x:Str):kI r hs ts qs f x=C9 r hs ts qs f x:=(aB (by rw[h];decide +kernel)).trans (aB (by rw[h];decide +kernel))
def iq(r:Rl)(hs:Xa)(ts:Xb)(qs:aK)(f:ao)(m:Int):fg:=if r.2.1="turns" then xf hs ts qs f (r.2.2.2.getD "") m else C1 kI r hs ts qs f
def kJ(r:Rl)(ts:Xb):Nat:=if r.2.1="turns" then max 1 (turnsOf (aQ ts)).length else 1
def eX(r:Rl)(hs:Xa)(ts:Xb)(qs:aK)(f:ao):Bool:=(List.range (kJ r ts)).all λm=>(iq r hs ts qs f m).isEmpty
def BT(T1 T2:Addr)(H H':Hp):Prop:=∀b o,H b\o->b≠T1->b≠T2->H' b\o
theorem BT.of{T1 T2:Addr}{H H':Hp}(s:aa H H'):BT T1 T2 H H':=λb o e _ _=>s b o e
theorem BT.trans{T1 T2:Addr}{H H1 H2:Hp}(a:BT T1 T2 H H1)(b:BT T1 T2 H1 H2):BT T1 T2 H H2:=λc o e n1 n2=>b c o (a c o e n1 n2) n1 n2
theorem BT.nt{T1 T2:Addr}{H H':Hp}(a:BT T1 T2 H H')(tb:Tb H T1 T2):NT H H':=λb o e n=>by
 let#[v1,h1]:=fD tb.a;let#[v2,h2]:=fD tb.b;exact a b o e (λz=>n v1 (by rw[z,h1] at e;exact (eF e).symm)) (λz=>n v2 (by rw[z,h2] at e;exact (eF e).symm))
theorem BT.sec{T1 T2:Addr}{H H':Hp}(a:aM T2 H H'):BT T1 T2 H H':=λb o e _ n=>a b o e n
section
variable{P:Ad}{w:Af}{K:af}{mg:Str->Option Aa}{base:Heap}{CS CG CW T1 T2:Addr}
theorem fU_{f0:Addr}{fd:Ae}{T:Addr}(l:!aj a9 6 f0 fd vg (vB K CS CG CW T (λr=>r.2.1="least") yO))(b:!aj a9 6 f0 fd vg (vB K CS CG CW T (λr=>r.2.1="below") BI))(s:!aj a9 6 f0 fd vg (vB K CS CG CW T (λr=>r.2.1="shares") C9)):!aj a9 6 f0 fd vg (vB K CS CG CW T (λr=>r.2.1≠"turns") kI):=by
 apply aj.two l (K1:=vB K CS CG CW T (λr=>r.2.1≠"turns"/\r.2.1≠"least") kI) (aj.two b s λvs H Q E q=>?_) λvs H Q E q=>?_
 ·let#[v,g,p,aw,h,hs,ts,qs,fp,f,r,hr,e,#[n1,n2],ha,S,W,hh,tab,k]:=q;by_cases c:r.2.1="below"
  ·exact .inl #[v,g,p,aw,h,hs,ts,qs,fp,f,r,hr,e,c,ha,S,W,hh,tab,λl ys H' b t n e tu=>k l ys H' b t n e (by rw[Vy c];exact tu)]
  let c:=TL r hr n1 n2 c;exact .inr #[v,g,p,aw,h,hs,ts,qs,fp,f,r,hr,e,c,ha,S,W,hh,tab,λl ys H' b t n e tu=>k l ys H' b t n e (by rw[Vi c];exact tu)]
 let#[v,g,p,aw,h,hs,ts,qs,fp,f,r,hr,e,n1,ha,S,W,hh,tab,k]:=q;by_cases c:r.2.1="least"
 ·exact .inl #[v,g,p,aw,h,hs,ts,qs,fp,f,r,hr,e,c,ha,S,W,hh,tab,λl ys H' b t n e tu=>k l ys H' b t n e (by rw[UV c];exact tu)]
 exact .inr #[v,g,p,aw,h,hs,ts,qs,fp,f,r,hr,e,#[n1,c],ha,S,W,hh,tab,k]
inductive G_ (K:af) (CS CG CW T:Addr) (vs:ag) (H:Hp) (Q:VK) (E:XK):Prop
 |mk:∀(v g p:Addr) (m:Int) (hs:Xa) (ts:Xb) (qs:aK) (fp:ai) (f:ao),∀r∈rl,vs=[.ref v,.str r.1,.int m]->0<=m->iz K CS CG CW H v g p hs ts qs fp f->Wd hs ts qs f->cn H T ji->(∀l ys H',aM T H H'->cn H' T ji->H l=none->H' l\.lst ys->bD K H' ys ((iq r hs ts qs f m).map kM)->Q (.ref l) H')->G_ K CS CG CW T vs H Q E
theorem iP_{f0:Addr}{fd:Ae}{T:Addr}(a:!aj a9 7 f0 fd vi (k_ K CS CG CW T (λr=>r.2.1≠"turns") kI))(t:!aj a9 6 f0 fd vi (NY K CS CG CW)):!aj a9 7 f0 fd vi (G_ K CS CG CW T):=by
 apply aj.two a (t.mono (by decide)) λvs H Q E q=>?_;let#[v,g,p,m,hs,ts,qs,fp,f,r,hr,e,m0,S,W,tab,k]:=q;by_cases c:r.2.1="turns"
 ·let#[gd,eg]:=BW.mp (j2_ r hr c);exact .inr #[v,g,p,m,gd,hs,ts,qs,fp,f,r,hr,e,c,eg,m0,S,W,λl ys H' s n e tu=>k l ys H' (aM.of s) (tab.same s) n e (by unfold iq;rw[aH c,eg];exact tu)]
 exact .inl #[v,g,p,m,hs,ts,qs,fp,f,r,hr,e,c,S,W,tab,λl ys H' b t n e tu=>k l ys H' b t n e (by unfold iq;rw[aB c];exact tu)]
theorem rO:bq ["web","rule"] ["web","rule"] (aX N0):=bB
inductive J4 (K:af) (C:Addr) (vs:ag) (H:Hp) (Q:VK) (E:XK):Prop
 |mk:∀(p:Addr) (hs:Xa) (ts:Xb) (fp:ai),∀r∈rl,vs=[.ref p,.str r.1]->fj K C H p hs ts fp->ts.length<64->(∀H',aa H H'->Q (.int (kJ r ts)) H')->J4 K C vs H Q E
theorem hr_{f C:Addr}{fd:Ae}(F:bf K "rows_by" "rows_by" N0 f fd)(B:Bi mg)(T:Txt K mg C)(cW:!aZ 2 Bm ["rule"] (Hf K))(cT:!br C 3 "turns" gA (Jy K C)):!aj a9 4 f fd ["web","rule"] (J4 K C):=by
 exists F.bF rO;let#[p,hs,ts,fp,r,bX,rfl,W,h1,k]:=h;refine' #[_,ax ?s1 (aA ?s2),?kk]
 case s1=>exact bx (bY qp (bp c7 (aN cW hr %[1|0]) ay) dc) (aA (aU ay)) bJ
 case s2=>exact aU (cc (hp_ Z) (by rfl) B.max PyProof.Rows.Boot.«max» %[ay,cc gc (by rfl) B.len fP %[wV cT T.cl hr (pv 0)|0]|0])
 apply#[_,Z,r,bX,Z,λa ha=>?_];apply#[a,_,_,_,Z,Z,ha _,Z,Z,_,Z,?_];apply aL (λc=>?_) (λc=>?_)
 ·have c:¬r.2.1="turns":=by simpa [qB] using c
  have:=k H (aa.refl _);unfold kJ at this;rw[aB c] at this;exact this
 have c:r.2.1="turns":=by simpa [qB] using c
 let#[fi,d1,l2,d3,jA,Wg,ef,w1,_]:=id W.ex;apply#[_,Z,p,fi,_,Z,w1,iF _ _ _ Z0 Z0 Z0,p,hs,ts,fp,Z,W,h1,λl as H' s _ _ _ _ R=>?_];apply#[l,_,Z,.inl (.of R.1),_,_,Z,?_];let la:=bK R.2;have:=k H' s;unfold kJ at this;rw[aH c,<- la] at this;rw[au,show (if ((as.length:Nat):Int) > 1 then ((as.length:Nat):Int) else 1)=((max 1 as.length:Nat):Int) by split<;>omega]
 exact this
theorem Nv:bq ["goods","placed","rule","sight","moment"] ka (aX Ot):=bB
structure B0 (K:af) (CG CW T1 T2:Addr) (H:Hp) (g p d:Addr) (hs:Xa) (ts:Xb) (qs:aK) (fp:ai) (f:ao):Prop where
 Pl:pU K CG CW H g p d hs ts qs fp f
 W:Wd hs ts qs f
 tb:Tb H T1 T2
 has:∀b∈fp,∃o,H b\o
inductive GV (K:af) (CG CW T1 T2:Addr) (vs:ag) (H:Hp) (Q:VK) (E:XK):Prop
 |mk:∀(g p d:Addr) (hs:Xa) (ts:Xb) (qs:aK) (fp:ai) (f:ao),∀r∈rl,vs=[.ref g,.ref d,.str r.1]->B0 K CG CW T1 T2 H g p d hs ts qs fp f->(∀H',BT T1 T2 H H'->Tb H' T1 T2->Q (.bl (eX r hs ts qs f)) H')->GV K CG CW T1 T2 vs H Q E
theorem j4_{f0:Addr}{fd:Ae}(F:bf K "rests_at" "rests_at" Ot f0 fd)(B:Bi mg)(TG:dI K CG)(GX:!gZ CS 7 "Sight" CN (Hc K CS CG CW T1))(w6:!aZ 7 "moves_seen" vi (G_ K CS CG CW T2))(w_:!aZ 4 "rows_by" ["web","rule"] (J4 K CW)):!aj a9 9 f0 fd ka (GV K CG CW T1 T2):=by
 exists F.bF Nv;let#[g,p,d,hs,ts,qs,fp,f,r,bX,rfl,D,k]:=h;let sz:=bZ;refine' #[_,ax ?s1 (ax ?s2 (aA (aU qr))),?kk]
 case s1=>exact bh 3 Nv.nd (Bs GX hr %[0,1|0])
 case' s2=>refine' eR eE Z (xi (by rfl) B.range %[aN w_ hr %[dA (pv 0) Z,2|0]|0]) (cm 4 Nv.nd) (aA (bx ?e1 (aA (aU qr)) bJ))
 case e1=>exact bY (OE (mK hr 0)) (aN w6 hr %[3,2,4|0]) (dH ba)
 apply#[_,Z,_,Z,λv dx hv wB ne=>?_];have s2:aa H (upd (upd H dx (.own v)) v (.ins CS dx [])):=(aa.new wB).trans (aa.new (by rw[aC ne.symm];exact hv));have e2:upd (upd H dx (.own v)) v (.ins CS dx []) v\.ins CS dx []:=aq;generalize upd (upd H dx (.own v)) v (.ins CS dx [])=H2 at s2 e2 ⊢
 have xw:v∉fp:=λhm=>by
  let#[o,e]:=D.has v hm;rw[e] at hv;cases hv
 have Hr:pU K CG CW H2 g p d hs ts qs fp f:=#[D.Pl.G.same s2,D.W.Gd,D.Pl.i4,s2 _ _ D.Pl.hd,D.W.at_,D.W.nd,D.W.bS];apply#[v,dx,g,p,d,hs,ts,qs,fp,f,Z,e2,xw,Hr,D.W,D.tb.a.same s2,λH3 k3 fQ S3=>#[Z,?_]];lk;let#[QS,CF]:=fD D.tb.a;have ye:∀b o,H b\o->b≠T1->H3 b\o:=λb o e n=>k3 b o (s2 _ _ e) (bw e hv) n;have qc:NT H H3:=λb o e n=>ye b o e (λz=>by rw[z,CF] at e;exact n _ (eF e).symm)
 have d7:cn H3 T2 ji:=by
  let#[es,a1,a2]:=D.tb.b;exact#[es,ye _ _ a1 D.tb.ne.symm,λx hx=>qc _ _ (a2 x hx) nofun]
 let#[_,_,_,_,_,_,GA3,_]:=id S3.ex;let#[ib,dw,dy,vs,bP,g1,g2,_]:=id GA3.ex
 have rn:kJ r ts<=64:=by
  let tl:=UD (aQ ts) [];rw[Gs,uD] at tl;let vL:=D.W.Gd.vL
  have:(turnsOf (aQ ts)).length<=64:=by
   show ((aQ ts).foldl g8 []).length<=64;omega
  unfold kJ;split<;>omega
 apply#[_,Z,g,CG,ib,_,_,Z,g1,TG.cl,TG.nW,kK _ _ _,_,Z,p,hs,ts,bP,r,bX,Z,g2,D.W.Gd.vL,λH4 s4=>?_];apply#[((kJ r ts:Nat):Int),Z,by omega,by omega,?_];have V9:BT T1 T2 H H4:=λb o e n1 n2=>s4 _ _ (ye b o e n1);let S4:=S3.same s4;have dm:Tb H4 T1 T2:=#[fQ.same s4,d7.same s4,D.tb.ne];apply yZ (λi σ H'=>∃v4:aI,σ=[some (.ref g),some (.ref d),some (.str r.1),some (.ref v),v4]/\BT T1 T2 H4 H'/\Tb H' T1 T2/\∀j:Nat,j<i->(iq r hs ts qs f j).isEmpty=true) #[none,Z,BT.of (aa.refl _),dm,by omega] ?_ ?_
 ·rintro i σ H5 hi ⟨v4,rfl,x_,iN,em⟩;rw[mN] at hi;lk;let#[Kx,FZ]:=fD iN.b;apply#[_,Z,_,Z,_,Z,v,g,p,0+(i:Int),hs,ts,qs,fp,f,r,bX,Z,by omega,S4.nt (x_.nt dm),D.W,iN.b,λl ys H6 b6 zv nl hl tu=>?_];have pA:BT T1 T2 H5 H6:=BT.sec b6;apply#[zl,λle ne'=>?_];let s7:=aa.new (o:=.lst []) ne';have uR:Tb (upd H6 le (.lst [])) T1 T2:=#[cn.same s7 (cn.but iN.a b6 #[_,FZ] D.tb.ne),zv.same s7,D.tb.ne];let ly:=bK tu;rw[au,Int.zero_add] at ly;apply#[l,le,ys,Z,Z,.of (s7 _ _ hl),.of aq,_,Z,?_];let Ak:=(x_.trans pA).trans (BT.of s7);apply aL (λc=>?_) (λc=>?_)
  ·have c:ys.isEmpty=false:=⇑c
   have hf:eX r hs ts qs f=false:=by
    apply List.all_eq_false.mpr #[i,List.mem_range.mpr hi,?_];rw[List.isEmpty_eq_false_iff] at c;rw[List.isEmpty_iff];intro z;rw[z,uD] at ly;exact c (zi.mp ly)
   have:=k _ (V9.trans Ak) uR;rw[hf] at this;exact this
  have c:ys.isEmpty=true:=⇑c
  apply#[_,Z,Ak,uR,λj hj=>?_];by_cases e:j=i
  ·rw[e,List.isEmpty_iff];rw[List.isEmpty_iff] at c;rw[c,uD] at ly;exact zi.mp ly.symm
  exact em j Z1
 rintro σ H5 ⟨v4,rfl,x_,iN,em⟩;rw[mN] at em;have ht:eX r hs ts qs f=true:=List.all_eq_true.mpr λj hj=>em j (List.mem_range.mp hj);have:=k H5 (V9.trans x_) iN;rw[ht] at this;exact this
end
end Ev
namespace Ev
open PySem L2
theorem PP{α:Type}{xs:List α}{i:Nat}{x:α}(h:xs[i]? = some x):xs.take (i+1)=xs.take i++[x]:=by rw[iD,h];rfl
def h9(f:ao)(m:Mv):ao:=λn=>if n=m.1 then m.2.2 else f n
def eD(f:ao)(ms:fg):ao:=ms.foldl h9 f
theorem OT(f:ao)(a:fg)(m:Mv):eD f (a++[m])=h9 (eD f a) m:=by
 unfold eD;rw[List.foldl_append];rfl
theorem Og{ns:ae}{f:ao}{m:Mv}(h:m.1∈ns):putK (bR ns f) (Sum.inr m.1) (.str m.2.2)=bR ns (h9 f m):=by
 unfold bR;rw[SO h];apply JP λn _=>?_;unfold h9;by_cases z:n=m.1
 ·rw[aH z,aH z]
 rw[aB z,aB z]
theorem Ma{H:Hp}{p:Addr}{m:Mv}(h:H p\.tup ((kM m).map kV)):H p\.tup [.str m.1,.str m.2.1,.str m.2.2]:=h
theorem S9{A:ae}{n:Str}:∀{ms:fg} {f:ao},(∀x∈ms,x.2.2∈A)->f n∈A->eD f ms n∈A
 |[],_,_,h=>h
 |m::ms,f,a,h=>by
  show eD (h9 f m) ms n∈A;apply S9 (λx hx=>a x (by simp[hx])) ?_;unfold h9;split
  ·exact a m Z2
  exact h
section
variable{hs:Xa}{ts:Xb}{qs:aK}{f:ao}
def vE(hs:Xa)(qs:aK)(x:Mv):Prop:=x.1∈qs.map (·.1)/\x.2.2∈az hs
theorem Jd{gd a b:Str}{gv:ae}(hb:b∈az hs):∀x∈gj hs ts qs f gd gv a b,vE hs qs x:=λx h=>by
 unfold gj at h;split at h
 ·rename_i n e
  let hm:=List.mem_singleton.mp h;subst hm;exact#[(BH (List.mem_of_find?_eq_some e)).1,hb]
 cases h
theorem Nd{ms ns:fg}(a:∀x∈ms,vE hs qs x)(b:∀x∈ns,vE hs qs x):∀x∈ms++ns,vE hs qs x:=λx h=>(eZ.mp h).elim (a x) (b x)
theorem M0{gd h:Str}:∀{l:ae} {ms:fg},(∀o∈l,o∈az hs)->(∀x∈ms,vE hs qs x)->∀x∈oJ hs ts qs f gd h ms l,vE hs qs x
 |[],ms,_,a=>a
 |o::l,ms,hl,a=>by
  unfold oJ;split
  ·exact M0 (λx hx=>hl x (by simp[hx])) (Nd a (Jd (hl o Z2)))
  exact M0 (λx hx=>hl x (by simp[hx])) a
theorem M9{h:Str}:∀{l:ae} {ms:fg},(∀o∈l,o∈az hs)->(∀x∈ms,vE hs qs x)->∀x∈pO hs ts qs f h ms l,vE hs qs x
 |[],ms,_,a=>a
 |o::l,ms,hl,a=>by
  unfold pO;split
  ·apply M9 (λx hx=>hl x (by simp[hx])) (Nd a λx hx=>?_);let#[n,hn,rfl]:=bH.mp hx;exact#[(BH ((C8 _ _ _ _).subset hn)).1,hl o Z2]
  exact M9 (λx hx=>hl x (by simp[hx])) a
theorem Ja(W:Wd hs ts qs f)(r:Rl)(m:Int):∀x∈iq r hs ts qs f m,vE hs qs x:=by
 have Cb:∀h,∀o∈dh hs ts qs f h,o∈az hs:=λh o ho=>Bn ((Dq hs ts qs f h).mem_iff.mp ho);unfold iq;split
 ·intro x hx;let#[t,ht,hx]:=List.mem_flatMap.mp hx;let#[t1,t2]:=GC W.Gd (Dr ht);exact Nd (Jd t2) (Jd t1) x hx
 have full:∀x∈(az hs).flatMap (kI r hs ts qs f),vE hs qs x:=λx hx=>by
  let#[h,hh,hx]:=List.mem_flatMap.mp hx;revert hx;unfold kI;split
  ·unfold yO vx;have:=Cb h;split
   ·intro z;cases z
   rename_i o _ e
   rw[e] at this;exact Jd (this o Z2) x
  split
  ·exact M0 (Cb h) (λx z=>by cases z) x
  exact M9 (λo ho=>Bn ho) (λx z=>by cases z) x
 unfold C1;split
 ·exact λx hx=>full x (List.mem_of_mem_take hx)
 exact full
def qY(r:Rl)(hs:Xa)(ts:Xb)(qs:aK)(m:Int)(f:ao):ao:=eD f (iq r hs ts qs f m)
def runM(r:Rl)(hs:Xa)(ts:Xb)(qs:aK)(f:ao):Nat->Str->Str
 |0=>f
 |n+1=>qY r hs ts qs n (runM r hs ts qs f n)
theorem Wd.step(W:Wd hs ts qs f)(r:Rl)(m:Int):Wd hs ts qs (qY r hs ts qs m f):=#[W.Gd,W.nd,W.bS,λn hn=>S9 (λx hx=>(iH hs).mem_iff.mp (Ja W r m x hx).2) (W.at_ n hn),W.wq]
theorem Wd.run(W:Wd hs ts qs f)(r:Rl):∀n,Wd hs ts qs (runM r hs ts qs f n)
 |0=>W
 |n+1=>(W.run r n).step r n
end
section
variable{P:Ad}{w:Af}{K:af}{mg:Str->Option Aa}{base:Heap}{CS CG CW T1 T2:Addr}
abbrev YY:ae:=["goods","placed","rule","moment","after","piece","one","other"]
theorem Hb:bq YY o6 (aX lS):=bB
inductive Jz (K:af) (CG CW T1 T2:Addr) (vs:ag) (H:Hp) (Q:VK) (E:XK):Prop
 |mk:∀(g p d:Addr) (m:Int) (hs:Xa) (ts:Xb) (qs:aK) (fp:ai) (f:ao),∀r∈rl,vs=[.ref g,.ref d,.str r.1,.int m]->0<=m->B0 K CG CW T1 T2 H g p d hs ts qs fp f->(∀d' H',BT T1 T2 H H'->Tb H' T1 T2->H d'=none->H' d'\.dK (bR (qs.map (·.1)) (qY r hs ts qs m f))->Q (.ref d') H')->Jz K CG CW T1 T2 vs H Q E
theorem iN_{f0:Addr}{fd:Ae}(F:bf K "placed_after" "placed_after" lS f0 fd)(B:Bi mg)(GX:!gZ CS 7 "Sight" CN (Hc K CS CG CW T1))(w6:!aZ 7 "moves_seen" vi (G_ K CS CG CW T2)):!aj a9 9 f0 fd o6 (Jz K CG CW T1 T2):=by
 exists F.bF Hb;let#[g,p,d,m,hs,ts,qs,fp,f,r,bX,rfl,m0,D,k]:=h;let sz:=bZ;let hu:=fV hr;refine' #[_,ax ?s1 (ax ?s2 (aA (aU (pv 4)))),?kk]
 case s1=>exact bh 4 Hb.nd (hG Hg (by rfl) B.dict pS %[1|0])
 case s2=>exact eR eE Z (dN (aN w6 hr %[Bs GX hr %[0,1|0],2,3|0])) (mE Z (dB (cm 5 Hb.nd) (dB (cm 6 Hb.nd) (dB (cm 7 Hb.nd) jd)))) (aA (vq hu (pv 4) (pv 5) (pv 7) Z))
 let bS:=D.W.bS;apply#[_,Z,d,_,Z,.inl D.Pl.hd,λdl Ck=>?_];let#[sd,ed]:=bg (o:=.dK (bR (qs.map (·.1)) f)) Ck;show pe _ _ _ _ (upd H dl (.dK (bR (qs.map (·.1)) f)));generalize upd H dl (.dK (bR (qs.map (·.1)) f))=H1 at sd ed ⊢;apply#[_,Z,_,Z,λv dx hv wB ne=>?_];have s2:aa H1 (upd (upd H1 dx (.own v)) v (.ins CS dx [])):=(aa.new wB).trans (aa.new (by rw[aC ne.symm];exact hv));have e2:upd (upd H1 dx (.own v)) v (.ins CS dx []) v\.ins CS dx []:=aq;generalize upd (upd H1 dx (.own v)) v (.ins CS dx [])=H2 at s2 e2 ⊢;let g5:=sd.trans s2
 have xw:v∉fp:=λhm=>by
  let#[o,e]:=D.has v hm;rw[sd _ _ e] at hv;cases hv
 have Hr:pU K CG CW H2 g p d hs ts qs fp f:=#[D.Pl.G.same g5,D.W.Gd,D.Pl.i4,g5 _ _ D.Pl.hd,D.W.at_,D.W.nd,D.W.bS];apply#[v,dx,g,p,d,hs,ts,qs,fp,f,Z,e2,xw,Hr,D.W,D.tb.a.same g5,λH3 k3 fQ S3=>#[Z,?_]];let#[QS,CF]:=fD D.tb.a;have LW:∀b o,H1 b\o->b≠T1->H3 b\o:=λb o e n=>k3 b o (s2 _ _ e) (bw e hv) n
 have d7:cn H3 T2 ji:=by
  let#[es,a1,a2]:=D.tb.b;exact#[es,LW _ _ (sd _ _ a1) D.tb.ne.symm,λx hx=>LW _ _ (sd _ _ (a2 x hx)) (λz=>by have:=a2 x hx;rw[z,CF] at this;cases this)]
 apply#[_,Z,_,Z,v,g,p,m,hs,ts,qs,fp,f,r,bX,Z,m0,S3,D.W,d7,λl ys H4 b4 fH nl hl tu=>?_];let#[Kx,FZ]:=fD d7;have qC:BT T1 T2 H1 H4:=λb o e n1 n2=>b4 _ _ (LW b o e n1) n2;have dm:Tb H4 T1 T2:=#[cn.but fQ b4 #[_,FZ] D.tb.ne,fH,D.tb.ne];have DR:∀{T tv},H T\.tbl tv->dl≠T:=λe z=>by rw[<- z,Ck] at e;cases e
 let#[XY,MZ]:=fD D.tb.b;let jZ:=qC _ _ ed (DR CF) (DR MZ);have _s:l≠dl:=cb hl jZ nofun;let ly:=bK tu;rw[au] at ly;apply#[l,Z,#[_,.of hl],hU (K:=K) (a:=l) (xs:=ys) (λj σ H'=>∃v5 v6 v7:aI,σ=[some (.ref g),some (.ref d),some (.str r.1),some (.int m),some (.ref dl),v5,v6,v7]/\aM dl H4 H'/\H' dl\.dK (bR (qs.map (·.1)) (eD f ((iq r hs ts qs f m).take j)))) #[none,none,none,Z,aM.refl _ _,jZ] (λj σ H' _ ⟨_,_,_,_,b,_⟩=>.of (b _ _ hl _s)) ?_ ?_]
 ·rintro j y σ H' hy ⟨v5,v6,v7,rfl,b',e'⟩;let#[x,hx,xx,rfl,oq]:=kU tu hy;let oq:=Ma oq;have DO:xx≠dl:=cb oq jZ nofun;apply#[xx,_,Z,.of (b' _ _ oq DO),Z,_,_,Z,_,_,Z,_,_,Z,Z,?_];dsimp only;apply#[_,Z,_,Z,_,Z,dl,_,Z,.k (k:=Sum.inr x.1) e' (by rw[je,au];omega),?_];apply#[_,_,_,Z,b'.trans aM.upd,?_];rw[aq,Og (Ja D.W r m x (dC hx)).1,PP hx,OT]
 rintro σ H' ⟨v5,v6,v7,rfl,b',e'⟩;rw[ly,eK] at e';have kT:∀{T qn},cn H4 T qn->cn H' T qn:=λ⟨es,a1,a2⟩=>#[es,b' _ _ a1 (λz=>by rw[z,jZ] at a1;cases a1),λx hx=>b' _ _ (a2 x hx) (λz=>by have:=a2 x hx;rw[z,jZ] at this;cases this)];exact#[_,Z,k dl H' (λb o e n1 n2=>b' b o (qC b o (sd _ _ e) n1 n2) (bw e Ck)) #[kT dm.a,kT dm.b,D.tb.ne] Ck e']
end
end Ev
namespace Ev
open PySem L2
section v
theorem nB:bq ["goods","placed","levels"] j7 (aX lO):=bB
def hY(hs:Xa)(qs:aK)(f:ao):Int:=sumF (az hs) (ld f (qs.map fY)) λh=>oi hs / strOf hs h
inductive Ju (K:af) (CG CW:Addr) (vs:ag) (H:Hp) (Q:VK) (E:XK):Prop
 |mk:∀(g p d:Addr) (hs:Xa) (ts:Xb) (qs:aK) (fp:ai) (f:ao),vs=[.ref g,.ref d]->pU K CG CW H g p d hs ts qs fp f->(∀q∈qs,0<=q.2.1/\q.2.1<=1000000000)->(∀H',aa H H'->Q (.int (hY hs qs f)) H')->Ju K CG CW vs H Q E
theorem ik_{f CG CW:Addr}{fd:Ae}(F:bf K "sum_at" "sum_at" lO f fd)(LG:mg "sum"=none)(cL:!aZ 3 "loads_at" j7 (Hl K CG CW))(cV:!aZ 4 "levels_at" j7 (J7 K CG CW)):!aj a9 5 f fd j7 (Ju K CG CW):=by
 exists F.bF nB;let#[g,p,d,hs,ts,qs,fp,f,rfl,Pl,wp,k]:=h;let hu:=fV hr;let sz:=bZ;let nl:=Pl.Gd.fI;let h8:=Pl.Gd.h8;refine' #[_,ax ?s1 (aA ?s2),?kk]
 case s1=>exact bh 2 nB.nd (aN cV hr %[0,1|0])
 case' s2=>refine' aU (cc (gV_ Z) (by rfl) LG PyProof.Rows.boot_sum %[jy ["hand","load","levels"] 2 [2] (JY (GG (aN cL hr %[0,1|0]))) (λfp s H=>?g1) (λfp s H=>gX) (λfp s H=>?e1)|0])
 case g1=>exact Gg (n:=2) (dB (eY (i:=0) (show (["hand","load","levels"]:ae).Nodup by decide +kernel) Z (Or.inl Z)) (dB (eY (i:=1) (show (["hand","load","levels"]:ae).Nodup by decide +kernel) Z (Or.inl Z)) jd))
 case e1=>exact bG qz (pv 1) (kL hu (pv 2) (pv 0))
 apply#[_,Z,_,Z,g,p,d,hs,ts,qs,fp,f,Z,Pl,wp,λdv H1 s1 n1 e1=>?_];have Qm:pU K CG CW H1 g p d hs ts qs fp f:=#[Pl.G.same s1,Pl.Gd,Pl.i4,s1 _ _ Pl.hd,Pl.at_,Pl.nd,Pl.bS];apply#[_,Z,_,Z,g,p,d,hs,ts,qs,fp,f,Z,Qm,λdl H2 s2 n2 e2=>?_];apply#[dl,_,Z,e2,λv hv=>?_];let#[s3,oo]:=bg (o:=pR v dl) hv;let e3:=s3 _ _ e2;let md:=s2.trans s3;generalize upd H2 v (pR v dl)=H3 at s3 oo e3 md ⊢;apply#[v,dl,_,Z,oo,e3,λo D hD=>?_];have dvl:dv≠dl:=bw e1 n2;have sf:aa H1 (upd H3 dl (.frz o (.dK (wj hs qs f)))):=gY md n2;have ef:upd H3 dl (.frz o (.dK (wj hs qs f))) dl\.frz o (.dK (wj hs qs f)):=aq;generalize upd H3 dl (.frz o (.dK (wj hs qs f)))=H4 at sf ef hD ⊢;apply g5_ (own:=2) (fv:=[some (.ref dv)]) Z A2 (λi out H'=>aa H4 H'/\H' D\.lst out/\out=(((az hs).take i).map λh=>ld f (qs.map fY) h * uZ hs qs f h).map V.int) #[aa.new hD,aq,Z] (λi out H' _ ⟨sm,_,_⟩=>sm _ _ ef) (λout H5 ⟨sm,oE,eo⟩=>?_) (λi ky x out H' hx ⟨sm,dU,eo⟩ t ht=>?_)
 ·rw[je,eK] at eo;rw[eo] at oE;exact#[D,_,Z,.of oE,k H5 (s1.trans (sf.trans sm))]
 let#[n,hn,rfl,rfl]:=Jf hx;have hi:i<(az hs).length:=(cq.mp hn).1;let nm:=dC hn;let lo:=Iz wp Pl.bS f n;let#[ss,et]:=bg (o:=.tup [.str n,.int (ld f (qs.map fY) n)]) ht;apply#[[some (.str n),some (.int (ld f (qs.map fY) n))],#[t,_,_,Z,.of et,Z],Z,λNx hN=>dD ?_];let s4:=(sf.trans sm).trans ss;let sD:=ss _ _ dU;let s5:=sm.trans ss;show DX _ _ _ _ (upd H' t (.tup [.str n,.int (ld f (qs.map fY) n)])) _;generalize upd H' t (.tup [.str n,.int (ld f (qs.map fY) n)])=H6 at s4 sD s5 ⊢;apply#[_,Z,_,Z,_,Z,dv,.int (uZ hs qs f n),Z,?_,_,_,Z,Z,.inl #[by omega,by omega],out,sD,by rw[eo,au,au,cX];omega,hN _ _ #[gY s5 hD,aq,?_]]
 ·rw[<- GM (g:=λh=>V.int (uZ hs qs f h)) nm];exact .k (k:=Sum.inr n) (s4 _ _ e1)
 rw[ij hn,cj,cj,eo];rfl
end
end Ev
namespace Ev
open PySem L2
section
variable{P:Ad}{w:Af}{K:af}{mg:Str->Option Aa}{base:Heap}{CS CG CW T1 T2:Addr}
inductive J2 (K:af) (CG CW T1 T2:Addr) (vs:ag) (H:Hp) (Q:VK) (E:XK):Prop
 |mk:∀(g p d:Addr) (m:Int) (hs:Xa) (ts:Xb) (qs:aK) (fp:ai) (ns:ae) (f:ao),∀r∈rl,vs=[.ref g,.ref d,.str r.1,.int m]->0<=m->o8 K CG CW H g p d hs ts qs fp ns f->Wd hs ts qs f->Tb H T1 T2->(∀l ys H',BT T1 T2 H H'->Tb H' T1 T2->H l=none->H' l\.lst ys->bD K H' ys ((iq r hs ts qs f m).map kM)->Q (.ref l) H')->J2 K CG CW T1 T2 vs H Q E
theorem gT_{f0:Addr}{fd:Ae}(F:bf K "moves_of" "moves_of" OQ f0 fd)(GP:!aZ 3 "checked_start" uo (JX K CG CW))(GX:!gZ CS 7 "Sight" CN (Hc K CS CG CW T1))(w6:!aZ 7 "moves_seen" vi (G_ K CS CG CW T2))(PH:!aZ 3 "checked_moments" fF Vu) :
  aj P w K mg base a9 9 f0 fd o5 (J2 K CG CW T1 T2):=by
 exists F.bF VH;let#[g,p,d,m,hs,ts,qs,fp,ns,f,r,bX,rfl,m0,S,W,tb,k]:=h;refine' #[_,ax ?s1 (aA ?s2),?kk]
 case s1=>exact bh 4 VH.nd (aN GP hr %[0,1,2|0])
 case s2=>exact aU (aN w6 hr %[Bs GX hr %[0,4|0],2,aN PH hr %[3|0]|0])
 apply#[_,Z,_,Z,_,Z,_,_,r,bX,Z,#[g,p,d,hs,ts,qs,fp,ns,f,Z,S.G,S.i4,S.hd,S.so,W.nd,W.bS,λdp H1 s1 n1 e1=>?_]];lk
 have wU:dp∉fp:=λhm=>by
  let#[o,e,_]:=S.has dp hm;rw[e] at n1;cases n1
 have Pl:pU K CG CW H1 g p dp hs ts qs fp f:=#[S.G.same s1,W.Gd,wU,e1,W.at_,W.nd,W.bS];apply#[_,Z,_,Z,λv dx hv wB ne=>?_];have s2:aa H1 (upd (upd H1 dx (.own v)) v (.ins CS dx [])):=(aa.new wB).trans (aa.new (by rw[aC ne.symm];exact hv));have e2:upd (upd H1 dx (.own v)) v (.ins CS dx []) v\.ins CS dx []:=aq;generalize upd (upd H1 dx (.own v)) v (.ins CS dx [])=H2 at s2 e2 ⊢
 have xw:v∉fp:=λhm=>by
  let#[o,e,_]:=S.has v hm;rw[s1 _ _ e] at hv;cases hv
 let g5:=s1.trans s2;have Hr:pU K CG CW H2 g p dp hs ts qs fp f:=#[Pl.G.same s2,W.Gd,wU,s2 _ _ e1,W.at_,W.nd,W.bS];apply#[v,dx,g,p,dp,hs,ts,qs,fp,f,Z,e2,xw,Hr,W,tb.a.same g5,λH3 k3 fQ S3=>#[Z,?_]];let#[QS,CF]:=fD tb.a;let#[Kx,FZ]:=fD tb.b
 have nv:∀{b:Addr} {o:HO},H b\o->b≠v:=λe z=>by
  rw[z] at e;rw[s1 _ _ e] at hv;cases hv
 have ye:∀b o,H b\o->b≠T1->H3 b\o:=λb o e n=>k3 b o (g5 _ _ e) (nv e) n;have qc:NT H H3:=λb o e n=>ye b o e (λz=>by rw[z,CF] at e;exact n _ (eF e).symm)
 have d7:cn H3 T2 ji:=by
  let#[es,a1,a2]:=tb.b;exact#[es,ye _ _ a1 tb.ne.symm,λx hx=>qc _ _ (a2 x hx) nofun]
 apply#[_,Z,_,Z,m,Z,m0,?_];apply#[v,g,p,m,hs,ts,qs,fp,f,r,bX,Z,m0,S3,W,d7,λl ys H4 b4 fH nl hl tu=>?_];let#[XY,MZ]:=fD d7;let g6:=b4.nt MZ;apply k l ys H4 (λb o e n1 n2=>b4 _ _ (ye b o e n1) n2) #[?_,fH,tb.ne] ?_ hl tu
 ·let#[es,a1,a2]:=fQ;exact#[es,b4 _ _ a1 tb.ne,λx hx=>g6 _ _ (a2 x hx) nofun]
 cases z:H l with
 |none=>rfl
 |some o=>
  by_cases y:l=T1
  ·let#[es,a1,_]:=fQ;rw[y,a1] at nl;cases nl
  rw[ye _ _ z y] at nl;cases nl
theorem si:bq uo uo (aX N5):=bB
inductive JG (K:af) (CG CW T1 T2:Addr) (vs:ag) (H:Hp) (Q:VK) (E:XK):Prop
 |mk:∀(g p d:Addr) (hs:Xa) (ts:Xb) (qs:aK) (fp:ai) (ns:ae) (f:ao),∀r∈rl,vs=[.ref g,.ref d,.str r.1]->o8 K CG CW H g p d hs ts qs fp ns f->Wd hs ts qs f->Tb H T1 T2->(∀H',BT T1 T2 H H'->Tb H' T1 T2->Q (.bl (eX r hs ts qs f)) H')->JG K CG CW T1 T2 vs H Q E
theorem ip_{f0:Addr}{fd:Ae}(F:bf K "at_rest" "at_rest" N5 f0 fd)(GP:!aZ 3 "checked_start" uo (JX K CG CW))(uu:!aZ 9 "rests_at" ka (GV K CG CW T1 T2)):!aj a9 10 f0 fd uo (JG K CG CW T1 T2):=by
 exists F.bF si;let#[g,p,d,hs,ts,qs,fp,ns,f,r,bX,rfl,S,W,tb,k]:=h;refine' #[_,aA ?s1,?kk]
 case s1=>exact aU (aN uu hr %[0,aN GP hr %[0,1,2|0],2|0])
 apply#[_,Z,_,Z,_,Z,_,Z,_,_,r,bX,Z,#[g,p,d,hs,ts,qs,fp,ns,f,Z,S.G,S.i4,S.hd,S.so,W.nd,W.bS,λdp H1 s1 n1 e1=>?_]]
 have wU:dp∉fp:=λhm=>by
  let#[o,e,_]:=S.has dp hm;rw[e] at n1;cases n1
 apply#[_,Z,g,p,dp,hs,ts,qs,fp,f,r,bX,Z,#[#[S.G.same s1,W.Gd,wU,e1,W.at_,W.nd,W.bS],W,#[tb.a.same s1,tb.b.same s1,tb.ne],λb hb=>let #[o,e,_]:=S.has b hb;#[o,s1 _ _ e]],λH' nt t'=>k H' ((BT.of s1).trans nt) t']
end
end Ev
namespace Ev
open PySem L2
theorem NI{H:Hp}{l d:Addr}{u:HO}(h:bU H l)(ne:d≠l):bU (upd H d u) l:=by
 rcases h with⟨n,e⟩|⟨n,m,c,e⟩
 ·exact .inl #[n,by rw[aC ne.symm];exact e]
 exact .inr #[n,m,c,by rw[aC ne.symm];exact e]
section v
theorem Np:bq [fo,"_law_pieces_here","_law_hands",wM,"_law_piece"] uL (aX lP):=bB
inductive NF (K:af) (vs:ag) (H:Hp) (Q:VK) (E:XK):Prop
 |mk:∀(l lp lh:Addr) (yp yh:ag) (ps:aK) (hs:Xa),vs=[.ref l,.ref lp,.ref lh]->bU H l->H lp\.lst yp->lp≠l->ux K H yp ps->H lh\.lst yh->lh≠l->bD K H yh (hs.map kH)->0<hs.length->hs.length<=8->ps.length<=30->(ps.map (·.1)).Nodup->(∀d f H',aM l H H'->bU H' l->H d=none->H' d\.dK (bR (ps.map (·.1)) f)->(∀n∈ps.map (·.1),f n∈hs.map (·.1))->Q (.ref d) H')->NF K vs H Q E
theorem ir_{f:Addr}{fd:Ae}(F:bf K "_law_stand" "_law_stand" lP f fd)(B:Bi mg)(cD:!aZ 1 qu uy vy):!aj a9 2 f fd uL (NF K):=by
 exists F.bF Np;let#[l,lp,lh,yp,yh,ps,hs,rfl,st,Cw,As,pc,pL,yb,th,h0,h8,h30,nd,k]:=h;let hu:=fV hr;let sz:=bZ;refine' #[_,?r0,?kk]
 case' r0=>refine' ax ?s1 (ax ?s2 (aA ?s3))
 case s1=>exact bh 3 Np.nd GD
 case s2=>exact eR eE Z (dN (pv 1)) (cm 4 Np.nd) (aA (vq hu (pv 3) (bp c7 (pv 4) ay) (bp c7 (bp dY (pv 2) (aN cD hr %[0,cc gc (by rfl) B.len fP %[2|0]|0])) ay) Z))
 case s3=>exact aU (pv 3)
 let LH:=bK pc;let ZS:=bK th;rw[au] at ZS;intro d hd;let s1:=aa.new (o:=.dK []) hd
 have dl:d≠l:=by
  let#[xs,e]:=st.some;exact (bw e hd).symm
 have b1:aM l H (upd H d (.dK [])):=aM.of s1;have e1:upd H d (.dK []) d\.dK []:=aq;let fb:=st.same s1;show pe _ _ _ _ (upd H d (.dK []));generalize upd H d (.dK [])=H1 at b1 e1 fb s1 ⊢;let#[Ks,ve]:=st.some;have lpd:lp≠d:=bw Cw hd;apply#[_,Z,lp,Z,#[_,.of (s1 _ _ Cw)],hU (K:=K) (a:=lp) (xs:=yp) (λi σ H'=>∃(v4:aI) (f:ao),σ=[some (.ref l),some (.ref lp),some (.ref lh),some (.ref d),v4]/\aM l H H'/\bU H' l/\H' d\.dK (bR ((ps.map (·.1)).take i) f)/\∀n∈(ps.map (·.1)).take i,f n∈hs.map (·.1)) #[none,λn=>n,Z,b1,fb,e1,λn hn=>by simp at hn] (λi σ H' _ ⟨_,_,_,b,_⟩=>.of (b _ _ Cw As)) ?_ ?_]
 ·rintro i y σ H2 hy ⟨v4,f,rfl,b2,dE,e2,fm⟩;have hi:i<yp.length:=(cq.mp hy).1;have IM:i<ps.length:=by omega
  let#[t,v,et,ht,_]:=hJ pc i hi IM;rw[(cq.mp hy).2] at et;subst et;have hn:(ps.map (·.1))[i]? = some (ps[i]'IM).1:=by rw[cY,bO IM];rfl
  generalize ps[i]'IM=q at ht hn;have tl:t≠l:=cb ht ve nofun;apply#[_,Z,_,Z,_,Z,lh,_,Z,.inl (.of (b2 _ _ pL yb)),l,(yh.length:Int),Z,by omega,by omega,dE,λj H3 j0 j1 b3 dR=>?_];let#[j,rfl]:=p5 j0;let xk:=b2.trans b3;have hj:j<yh.length:=by omega
  have Si:yh[j]? = some (yh[j]'hj):=bO hj;let#[h,hh,a,ea,ha]:=kU th Si;have al:a≠l:=cb ha ve nofun;let jr:=Sv (xk _ _ ha al);let IE:=xk _ _ ht tl;let e3:=b3 _ _ e2 dl;apply#[lh,_,_,.ref a,Z,Z,.of (xk _ _ pL yb),by rw[fq Z1 Z1,mN,Si,ea],a,_,0,_,Z,Z,.of jr,Z,?_];apply#[_,Z,_,Z,t,_,0,_,Z,Z,.of IE,Z,d,_,Z,.k (k:=Sum.inr q.1) e3 (by rw[je,cX,au];omega),?_];apply#[_,λm=>if m=q.1 then h.1 else f m,Z,λb o e nb=>?_,?_,?_,?_]
  ·rw[aC (bw e hd)];exact xk _ _ e nb
  ·exact NI dR dl
  ·rw[aq,ij hn,Sj (OP nd hn)];congr 2;apply JP λm _=>?_;by_cases z:m=q.1
   ·simp[z]
   simp[z]
  intro m hm;rw[ij hn] at hm;show (if m=q.1 then h.1 else f m)∈_;by_cases z:m=q.1
  ·rw[aH z];exact bH.mpr #[h,dC hh,Z]
  rw[aB z];rcases eZ.mp hm with hm|hm
  ·exact fm m hm
  exact absurd ⇑hm z
 rintro σ H2 ⟨v4,f,rfl,b2,dE,e2,fm⟩;rw[LH,<- au (f:=λq:Pc=>q.1),eK] at e2 fm;exact#[_,Z,k d f H2 b2 dE hd e2 fm]
end
end Ev
namespace L2
open PySem PySem.Spec PyProof.Rows
theorem d5.frm{K:af}{H H':Hp}{v:V}{t:Aa}(h:d5 K H v t)(s:∀a o,v=.ref a->H a\o->(∀vs,o≠.tbl vs)->H' a\o):d5 K H' v t:=by
 cases h with
 |non=>exact .non
 |bl x=>exact .bl x
 |int x=>exact .int x
 |str x=>exact .str x
 |flt x=>exact .flt x
 |lst e=>exact .lst (s _ _ Z e nofun)
 |frz e=>exact .frz (s _ _ Z e nofun)
 |tup e=>exact .tup (s _ _ Z e nofun)
 |dK e=>exact .dK (s _ _ Z e nofun)
 |dT e=>exact .dT (s _ _ Z e nofun)
 |ins e a b c d f=>exact .ins (s _ _ Z e nofun) a b c d f
end L2
namespace Ev
open PySem L2
def kj(K:af)(H:Hp)(v:V)(T:String):Prop:=∃ty,d5 K H v ty/\PySem.W.kitOne K ty (.type T)\false
theorem kj.nt{K:af}{H H':Hp}{v:V}{T:String}(h:kj K H v T)(s:NT H H'):kj K H' v T:=let #[ty,a,b]:=h;#[ty,a.frm λa o _ e n=>s a o e n,b]
def DB(K:af)(H:Hp)(y:V)(c:Bool):Prop:=(c=true/\∃i,y=.int i)∨(c=false/\((∃b,y=.bl b)∨kj K H y "int"))
theorem DB.nt{K:af}{H H':Hp}{y:V}{c:Bool}(h:DB K H y c)(s:NT H H'):DB K H' y c:=h.imp id λ⟨e,h⟩=>#[e,h.imp id λh=>h.nt s]
section v
def lC(K:af):Sp:=λvs H Q _=>∃(v:V) (c:Bool),vs=[v]/\DB K H v c/\Q (.bl c) H
theorem _I{f:Addr}{fd:Ae}(F:bf K "is_whole" "is_whole" vW f fd)(B:Bi mg):!aj a9 1 f fd fF (lC K):=by
 exists F.bF xN;let#[v,c,rfl,n,k]:=h;apply#[_,aA (aU (kD (cc iJ (by rfl) B.h_ ig %[0,iG (v:=.ty "int") (by rfl) B.int MQ Z|0]) (kF (R9 (cc iJ (by rfl) B.h_ ig %[0,iG (v:=.ty "bool") (by rfl) B.bool PyProof.Rows.Boot.«bool» rfl|0]))))),?_];rcases n with⟨rfl,i,rfl⟩|⟨rfl,⟨b,rfl⟩|⟨ty,h1,h2⟩⟩
 ·exact#[_,Z,_,_,_,_,Z,.int i,Z,_,Z,bN #[_,Z,_,_,_,_,Z,.int i,Z,_,Z,k]]
 ·exact#[_,Z,_,_,_,_,Z,.bl b,Z,_,Z,bN #[_,Z,_,_,_,_,Z,.bl b,Z,_,Z,k]]
 exact#[_,Z,_,_,_,_,Z,h1,h2,_,Z,aO k]
def BX(K:af)(H:Hp)(y:V)(a:Int)(c:Bool):Prop:=(∃i,y=.int i/\c=decide (a<=i))∨(c=false/\((∃b,y=.bl b)∨kj K H y "int"))
def VJ(K:af):Sp:=λvs H Q _=>∃(v:V) (a:Int) (c:Bool),vs=[v,.int a]/\BX K H v a c/\Q (.bl c) H
theorem fX_{f0:Addr}{fd:Ae}(F:bf K "is_whole_from" "is_whole_from" JK f0 fd)(cI:!aZ 1 "is_whole" fF (lC K)):!aj a9 2 f0 fd CT (VJ K):=by
 exists F.bF U5;let#[v,a,c,rfl,n,k]:=h;apply#[_,aA (aU (kD (aN cI hr %[0|0]) (kF (oM pP (pv 1) (pv 0))))),?_];rcases n with⟨i,rfl,rfl⟩|⟨rfl,n⟩
 ·exact#[_,Z,_,true,Z,.inl #[Z,i,Z],_,Z,bN #[_,Z,_,Z,_,_,Z,Z,k]]
 exact#[_,Z,_,false,Z,.inr #[Z,n],_,Z,aO k]
def p9(K:af)(H:Hp)(v:V)(x:Str)(n:Nat)(c:Bool):Prop:=(c=false/\kj K H v "tuple")∨∃a xs,v=.ref a/\H a\.tup xs/\((c=false/\xs.length≠n)∨(xs.length=n/\∃y r,xs=y::r/\((∃z,y=.str z/\c=decide (z=x))∨(c=false/\kj K H y "str"))))
theorem se:bq j_ j_ (aX NO):=bB
inductive J6 (K:af) (vs:ag) (H:Hp) (Q:VK) (E:XK):Prop
 |mk:∀(v:V) (x:Str) (n:Nat) (c:Bool),vs=[v,.str x,.int n]->p9 K H v x n c->Q (.bl c) H->J6 K vs H Q E
theorem gG_{f:Addr}{fd:Ae}(F:bf K "begins_with" "begins_with" NO f fd)(B:Bi mg):!aj a9 1 f fd j_ (J6 K):=by
 exists F.bF se;let#[v,x,n,c,rfl,b,k]:=h;refine' #[_,ax (bx (PW.pt (qq (dZ (di (cc iJ (by rfl) B.h_ ig %[0,iG (v:=.ty "tuple") (by rfl) B.tuple BO Z|0]))) (uC (bY qp (cc gc (by rfl) B.len fP %[0|0]) (pv 2))))) (aA (aU qr)) bJ) (aA (aU (kD (cc iJ (by rfl) B.h_ ig %[bp c7 (pv 0) ay,iG (v:=.ty "str") (by rfl) B.str C3 Z|0]) (kF (oM gU (bp c7 (pv 0) ay) (pv 1)))))),?_];rcases b with⟨rfl,ty,h1,h2⟩|⟨a,xs,rfl,ha,b⟩
 ·exact#[_,Z,_,_,_,_,Z,h1,h2,false,Z,bN (bN k)]
 apply#[_,Z,_,_,_,_,Z,.tup ha,Z,true,Z,aO ?_];apply#[_,Z,a,xs,Z,.inr (.of ha),_,Z,Z,_,Z,?_];rcases b with⟨rfl,ne⟩|⟨en,y,r,rfl,b⟩
 ·apply aL (λ_=>k) (λc=>?_);have c:(xs.length:Int)=n:=⇑c
  omega
 apply aL (λc=>absurd (show ((y::r).length:Int)=(n:Int) by omega) ⇑c) (λ_=>?_);apply#[_,Z,a,_,0,y,Z,Z,.of ha,L2.fq (j:=0) Z,?_];rcases b with⟨z,rfl,rfl⟩|⟨rfl,ty,h1,h2⟩
 ·apply#[_,_,_,true,Z,.str z,Z,_,Z,bN ?_];apply#[_,Z,a,_,0,.str z,Z,Z,.of ha,L2.fq (j:=0) Z,_,Z,Z,?_];rw[show decide (V.str z=V.str x)=decide (z=x) from decide_eq_decide.mpr #[λh=>V.str.inj h,λh=>by rw[h]]];exact k
 exact#[_,_,_,false,Z,h1,h2,_,Z,aO k]
end
end Ev
namespace Ev
open PySem L2
def Bh(K:af)(H:Hp)(v:V)(c:Bool):Prop:=(c=false/\p9 K H v "rest" 2 false)∨∃(a:Addr) (y:V),v=.ref a/\H a\.tup [.str "rest",y]/\((c=false/\kj K H y "list")∨∃(l:Addr) (ys:ag) (bs:List Bool),y=.ref l/\H l\.lst ys/\Paired (DB K H) ys bs/\ys.length<=100000/\c=(decide (1<=ys.length)&&decide (ys.length<=3001)&&bs.all id))
section v
theorem rR:bq ["paper"] ["paper"] (aX NB):=bB
def U9(K:af):Sp:=λvs H Q _=>∃(v:V) (c:Bool),vs=[v]/\Bh K H v c/\∀H',aa H H'->Q (.bl c) H'
theorem gp_{f:Addr}{fd:Ae}(F:bf K "is_of_a_rest" "is_of_a_rest" NB f fd)(B:Bi mg){t:Tok}(mM:mg "MOST_MOMENTS"\.int 3000 t)(cB:!aZ 1 "begins_with" j_ (J6 K))(cI:!aZ 1 "is_whole" fF (lC K)):!aj a9 2 f fd ["paper"] (U9 K):=by
 exists F.bF rR;let#[v,c,rfl,b,k]:=h;let sz:=bZ;refine' #[_,ax ?s1 (aA ?s2),?kk]
 case s1=>exact bx (PW.pt (qq (dZ (di (aN cB hr %[0,dc,ay|0]))) (uC (dZ (di (cc iJ (by rfl) B.h_ ig %[bp c7 (pv 0) ay,iG (v:=.ty "list") (by rfl) B.list uA Z|0])))))) (aA (aU qr)) bJ
 case' s2=>refine' aU (kD (Od pP pP ay (cc gc (by rfl) B.len fP %[bp c7 (pv 0) ay|0]) (bG fO (xh (v:=.int 3000) (by rfl) mM #[t,Z]) ay)) (kF (cc (T3 Z) (by rfl) B.all PyProof.Rows.Boot.«all» %[jy ["number"] 1 [] (dN (bp (tQ (K:=K) jL c7) (pv 0) ay)) (λfp s H=>eY (i:=0) (show (["number"]:ae).Nodup by decide +kernel) Z (Or.inl Z)) (λfp s H=>gX) (λfp s H=>?te)|0])))
 case te=>exact aN cI hr %[0|0]
 rcases b with⟨rfl,b⟩|⟨a,y,rfl,ha,b⟩
 ·exact#[_,Z,v,"rest",2,false,Z,b,false,Z,bN (bN (k H (aa.refl H)))]
 apply#[_,Z,.ref a,"rest",2,true,Z,.inr #[a,_,Z,ha,.inr #[Z,_,_,Z,.inl #[_,Z,by simp]]],true,Z,aO ?_];have zd:∀{x:V},eJ [x,y] 1\y:=λ{x}=>L2.fq (j:=1) Z;apply#[_,Z,a,_,1,y,Z,Z,.of ha,zd,?_];rcases b with⟨rfl,ty,h1,h2⟩|⟨l,ys,bs,rfl,hl,pb,l1,rfl⟩
 ·exact#[_,_,_,false,Z,h1,h2,false,Z,bN (k H (aa.refl H))]
 apply#[_,_,_,true,Z,.lst hl,Z,true,Z,aO ?_];let lb:=bK pb;apply#[_,Z,a,_,1,.ref l,Z,Z,.of ha,zd,l,ys,Z,.inl (.of hl),?_];apply#[_,_,Z,Z,_,Z,?_];apply aL (λc1=>?_) (λc1=>?_);rotate_left 1
 ·have c1:¬(1:Int)<=(ys.length:Int):=⇑c1
  have:=k H (aa.refl H);rw[show decide (1<=ys.length)=false from d_ Z1] at this;exact#[_,Z,aO this]
 have c1:(1:Int)<=(ys.length:Int):=⇑c1
 apply#[_,_,Z,Z,_,_,Z,Z,_,Z,?_];apply aL (λc2=>?_) (λc2=>?_);rotate_left 1
 ·have c2:¬(ys.length:Int)<=3000+1:=⇑c2
  have:=k H (aa.refl H);rw[show decide (ys.length<=3001)=false from d_ Z1,xr] at this;exact this
 have c2:(ys.length:Int)<=3000+1:=⇑c2
 apply#[_,Z,a,_,1,.ref l,Z,Z,.of ha,zd,l,Z,#[ys,.of hl],λD hD=>?_];apply jz (own:=1) (fv:=[]) (xs:=ys) Z dW (λi out H'=>aa H H'/\H' D\.lst out/\out=(bs.take i).map V.bl) #[aa.new hD,aq,Z] (λi out H' _ ⟨sm,_⟩=>.of (sm _ _ hl)) (λout H' ⟨sm,dU,eo⟩=>?_) (λi x out H' hx ⟨sm,dU,eo⟩=>?_)
 ·rw[lb,eK] at eo;have:=k H' sm;rw[show decide (1<=ys.length)=true from b_ Z1,show decide (ys.length<=3001)=true from b_ Z1] at this;exact#[D,bs,Z,.of (by rw[dU,eo]),this]
 have hi:i<ys.length:=(cq.mp hx).1;let w:=hJ pb i hi Z1;rw[(cq.mp hx).2] at w;have lo:out.length=i:=by rw[eo,au,cX];omega
 apply#[_,Z,Z,λNx hN=>dD ?_];apply#[_,Z,x,_,Z,w.nt (NT.of sm),out,dU,by omega,hN (out++[.bl (bs[i]' Z1)]) _ #[gY sm hD,aq,?_]];rw[iD,bO Z1,cj];exact dX (λz=>z++_) eo
end
end Ev
namespace Ev
open PySem L2
def kg(K:af)(H:Hp)(v:V)(c:Bool):Prop:=(c=false/\p9 K H v "ring" 3 false)∨∃(a:Addr) (y z:V),v=.ref a/\H a\.tup [.str "ring",y,z]/\((c=false/\BX K H y 0 false)∨(BX K H y 0 true/\c=false/\BX K H z 1 false)∨∃i j:Int,y=.int i/\z=.int j/\0<=i/\1<=j/\c=decide (i+j<=3000))
section v
theorem rQ:bq ["paper"] ["paper"] (aX Ob):=bB
def Uq(K:af):Sp:=λvs H Q _=>∃(v:V) (c:Bool),vs=[v]/\kg K H v c/\Q (.bl c) H
theorem gg_{f:Addr}{fd:Ae}(F:bf K "is_of_a_ring" "is_of_a_ring" Ob f fd){t:Tok}(mM:mg "MOST_MOMENTS"\.int 3000 t)(cB:!aZ 1 "begins_with" j_ (J6 K))(cW:!aZ 2 "is_whole_from" CT (VJ K)):!aj a9 3 f fd ["paper"] (Uq K):=by
 exists F.bF rQ;let#[v,c,rfl,b,k]:=h;refine' #[_,ax ?s1 (ax ?s2 (aA ?s3)),?kk]
 case s1=>exact bx (dZ (di (aN cB hr %[0,dc,ay|0]))) (aA (aU qr)) bJ
 case s2=>exact bx (PW.pt (qq (dZ (di (aN cW hr %[bp c7 (pv 0) ay,ay|0]))) (uC (dZ (di (aN cW hr %[bp c7 (pv 0) ay,ay|0])))))) (aA (aU qr)) bJ
 case s3=>exact aU (oM pP (bG fO (bp c7 (pv 0) ay) (bp c7 (pv 0) ay)) (xh (v:=.int 3000) (by rfl) mM #[t,Z]))
 rcases b with⟨rfl,b⟩|⟨a,y,z,rfl,ha,b⟩
 ·exact#[_,Z,v,"ring",3,false,Z,b,_,Z,bN k]
 apply#[_,Z,.ref a,"ring",3,true,Z,.inr #[a,_,Z,ha,.inr #[Z,_,_,Z,.inl #[_,Z,by simp]]],_,Z,aO ?_];have zd:∀{x:V},eJ [x,y,z] 1\y:=λ{x}=>L2.fq (j:=1) Z;have at2:∀{x:V},eJ [x,y,z] 2\z:=λ{x}=>L2.fq (j:=2) Z;apply#[_,Z,a,_,1,y,Z,Z,.of ha,zd,?_];rcases b with⟨rfl,b⟩|⟨b1,rfl,b⟩|⟨i,j,rfl,rfl,i0,j0,rfl⟩
 ·exact#[y,0,false,Z,b,false,Z,bN (bN k)]
 ·apply#[y,0,true,Z,b1,true,Z,aO ?_];exact#[_,Z,a,_,2,z,Z,Z,.of ha,at2,z,1,false,Z,b,false,Z,bN k]
 apply#[.int i,0,true,Z,.inl #[i,Z,(b_ i0).symm],true,Z,aO ?_];apply#[_,Z,a,_,2,.int j,Z,Z,.of ha,at2,.int j,1,true,Z,.inl #[j,Z,(b_ j0).symm],true,Z,aO ?_];exact#[_,Z,a,_,1,.int i,Z,Z,.of ha,zd,_,Z,a,_,2,.int j,Z,Z,.of ha,at2,_,_,Z,Z,_,_,Z,Z,k]
end
end Ev
namespace Ev
open PySem L2
inductive xU (x:V) (y:V) (H:Hp) (Q:VK):Prop
 |mk:∀(a b:Addr) (ns:ae) (f g:ao),x=.ref a->y=.ref b->H a\.dK (bR ns f)->H b\.dK (bR ns g)->Q (.bl (!(ns.all λn=>decide (f n=g n)))) H->xU x y H Q
theorem NJ{X:Cx}(hu:X.A.units<cLine):d6 X (compareOp .NotEq) xU:=by
 intro pins s σ H x y v u Q I rx ry h;let#[a,b,ns,f,g,rfl,rfl,ha,hb,q]:=h;cases rx;cases ry;let#[za,na,va,ra,da]:=oK I.aJ (.inl ha);let#[zb,nb,vb,rb,db]:=oK I.aJ (.inl hb);let la:=ra.length;let lb:=rb.length;rw[je] at la lb;apply PySem.W.keq_ne na nb da db hu (r:=ns.all λn=>decide (f n=g n)) (λ_=>Tp rb ns va ra λ_ h=>h) ⟨.bl _,H,I,rfl,?_⟩;rw[<- la,<- lb];simpa using q
def By(r:Rl)(hs:Xa)(ts:Xb)(qs:aK)(f:ao)(k:Nat):Bool:=!((qs.map (·.1)).all λn=>decide (runM r hs ts qs f (k+1) n=runM r hs ts qs f k n))
def Cd(r:Rl)(hs:Xa)(ts:Xb)(qs:aK)(f:ao)(ss:List Int)(k:Nat):Prop:=ss[k]? = some (hY hs qs (runM r hs ts qs f k))/\eX r hs ts qs (runM r hs ts qs f k)=false/\¬(By r hs ts qs f k=true/\∃x y:Int,ss[k]? = some x/\ss[k+1]? = some y/\x<=y)
def Nh(r:Rl)(hs:Xa)(ts:Xb)(qs:aK)(f:ao)(ss:List Int)(v:V)(H:Hp):Prop:=∃k:Nat,k<ss.length/\(∀j:Nat,j<k->Cd r hs ts qs f ss j) /\
 ((∃t,ss[k]?≠some (hY hs qs (runM r hs ts qs f k))/\v=.ref t/\H t\.tup [.str "sum",.int k]) ∨
  (ss[k]? = some (hY hs qs (runM r hs ts qs f k))/\eX r hs ts qs (runM r hs ts qs f k)=true/\k+1<ss.length/\∃t,v=.ref t/\H t\.tup [.str "rests",.int k]) ∨
  (ss[k]? = some (hY hs qs (runM r hs ts qs f k))/\eX r hs ts qs (runM r hs ts qs f k)=false/\k+1<ss.length/\By r hs ts qs f k=true/\(∃x y:Int,ss[k]? = some x/\ss[k+1]? = some y/\x<=y)/\∃t,v=.ref t/\H t\.tup [.str "rise",.int k]) ∨
  (k+1=ss.length/\ss[k]? = some (hY hs qs (runM r hs ts qs f k))/\((eX r hs ts qs (runM r hs ts qs f k)=true/\v=.non)∨(eX r hs ts qs (runM r hs ts qs f k)=false/\∃t,v=.ref t/\H t\.tup [.str "goes",.int k]))))
section
variable{P:Ad}{w:Af}{K:af}{mg:Str->Option Aa}{base:Heap}{CS CG CW T1 T2:Addr}
abbrev frN:ae:=["goods","placed","rule","sums","last","there","k","after"]
theorem C_:bq frN uI (aX l8):=bB
inductive Nz (K:af) (CG CW T1 T2:Addr) (vs:ag) (H:Hp) (Q:VK) (E:XK):Prop
 |mk:∀(g p d l:Addr) (ss:List Int) (hs:Xa) (ts:Xb) (qs:aK) (fp:ai) (f:ao),∀r∈rl,vs=[.ref g,.ref d,.str r.1,.ref l]->H l\.lst (ss.map V.int)->0<ss.length->ss.length<=3001->B0 K CG CW T1 T2 H g p d hs ts qs fp f->(∀v H',BT T1 T2 H H'->Tb H' T1 T2->Nh r hs ts qs f ss v H'->Q v H')->Nz K CG CW T1 T2 vs H Q E
theorem ib_{f0:Addr}{fd:Ae}(F:bf K "fault_of_rest" "fault_of_rest" l8 f0 fd)(B:Bi mg)(VW:!aZ 5 "sum_at" j7 (Ju K CG CW))(uu:!aZ 9 "rests_at" ka (GV K CG CW T1 T2))(Py:!aZ 9 "placed_after" o6 (Jz K CG CW T1 T2)):!aj a9 10 f0 fd uI (Nz K CG CW T1 T2):=by
 apply F.ok C_ (λvs H Q E h=>?_) (λaP A outer s H vs Q E hr h=>?_)
 ·let#[g,p,d,l,ss,hs,ts,qs,fp,f,r,bX,rfl,_]:=h;rfl
 let#[g,p,d,l,ss,hs,ts,qs,fp,f,r,bX,rfl,hl,l0,l3,D,k]:=h;let sz:=bZ;refine' ⟨_,ax ?s1 ?r1,?kk⟩
 case s1=>exact bh 4 C_.nd (bG yV (cc gc (by rfl) B.len fP %[3|0]) ay)
 case' r1=>refine' ax ?s2 ?r2
 case s2=>exact bh 5 C_.nd (pv 1)
 case' r2=>refine' ax ?s3 (ax ?s4 (aA ?s5))
 case' s3=>refine' eR eE Z (xi (by rfl) B.range %[4|0]) (cm 6 C_.nd) (ax ?b1 (ax ?b2 (ax ?b3 (ax ?b4 (aA ?b5)))))
 case b1=>exact bx (bY qp (bp dY (pv 3) (pv 6)) (aN VW hr %[0,5|0])) (aA (aU (eM %[dc,6|0]))) bJ
 case b2=>exact bx (di (aN uu hr %[0,5,2|0])) (aA (aU (eM %[dc,6|0]))) bJ
 case b3=>exact bh 7 C_.nd (aN Py hr %[0,5,2,6|0])
 case b4=>exact bx (PW.pt (pW (bY (NJ (Nat.lt_of_succ_lt (mK hr 0))) (pv 7) (pv 5)) (uB (bY Iu (bp dY (pv 3) (bG fO (pv 6) ay)) (bp dY (pv 3) (pv 6)))))) (aA (aU (eM %[dc,6|0]))) bJ
 case b5=>exact bh 5 C_.nd (pv 7)
 case s4=>exact bx (bY qp (bp dY (pv 3) (pv 4)) (aN VW hr %[0,5|0])) (aA (aU (eM %[dc,4|0]))) bJ
 case s5=>exact aU (Uc (di (aN uu hr %[0,5,2|0])) BD (eM %[dc,4|0]))
 have at_:∀{i:Nat} {z:Int},ss[i]? = some z->eJ (ss.map V.int) (i:Int)\.int z:=λ{i z} e=>L2.fq (by rw[cY,e];rfl)
 have EF:∀{a:Addr},H a=none->a∉fp:=λna m=>by
  let#[o,e]:=D.has _ m;rw[e] at na;cases na
 obtain⟨n,en⟩:∃n:Nat,ss.length=n+1:=#[ss.length - 1,by omega];apply#[_,Z,l,_,Z,.inl (.of hl),_,_,Z,Z,setG ?_];dsimp only;rw[show ((ss.map V.int).length:Int) - 1=(n:Int) by rw[au];omega];apply#[_,Z,setG ?_];dsimp only
 have PD:∀{G:Hp} {dp:Addr} {i:Nat},BT T1 T2 H G->Tb G T1 T2->(dp=d∨H dp=none)->G dp\.dK (bR (qs.map (·.1)) (runM r hs ts qs f i))->B0 K CG CW T1 T2 G g p dp hs ts qs fp (runM r hs ts qs f i):=λ{G dp i} bt tb nd e=>#[#[D.Pl.G.nt (bt.nt D.tb),D.W.Gd,nd.elim (λz=>z▸D.Pl.i4) EF,e,(D.W.run r i).at_,D.W.nd,D.W.bS],D.W.run r i,tb,λb hb=>by
  let#[o,e]:=D.has b hb;let#[u1,g1]:=fD tb.a;let#[u2,g2]:=fD tb.b;by_cases y1:b=T1
  ·exact#[_,y1▸g1]
  by_cases y2:b=T2
  ·exact#[_,y2▸g2]
  exact#[o,bt _ _ e y1 y2]]
 apply iR (λσ H'=>∃(v6 v7:aI) (dp:Addr),σ=[some (.ref g),some (.ref d),some (.str r.1),some (.ref l),some (.int n),some (.ref dp),v6,v7]/\BT T1 T2 H H'/\Tb H' T1 T2/\(dp=d∨H dp=none)/\H' dp\.dK (bR (qs.map (·.1)) (runM r hs ts qs f n))/\∀j:Nat,j<n->Cd r hs ts qs f ss j) ?later (λN hN=>?loop)
 case loop=>
  apply#[_,Z,_,Z,by omega,by omega,?_];apply yZ (λi σ H'=>∃(v6 v7:aI) (dp:Addr),σ=[some (.ref g),some (.ref d),some (.str r.1),some (.ref l),some (.int n),some (.ref dp),v6,v7]/\BT T1 T2 H H'/\Tb H' T1 T2/\(dp=d∨H dp=none)/\H' dp\.dK (bR (qs.map (·.1)) (runM r hs ts qs f i))/\∀j:Nat,j<i->Cd r hs ts qs f ss j) #[none,none,d,Z,BT.of (aa.refl _),D.tb,.inl Z,D.Pl.hd,by omega] ?_ (λσ H' h=>hN _ _ h);rintro i σ H1 hi ⟨v6,v7,dp,rfl,b,tb,nd,ed,pa⟩;rw[mN] at hi;lk;rw[Int.zero_add];let nt:=b.nt D.tb;let Dn:=PD b tb nd ed;obtain⟨z,ez⟩:∃z,ss[i]? = some z:=#[_,bO Z1];obtain⟨y,ey⟩:∃y,ss[i+1]? = some y:=#[_,bO Z1];apply#[_,Z,_,Z,l,_,_,.int z,Z,Z,.inl (.inl (nt.lst hl)),at_ ez,?_];apply#[_,Z,_,Z,g,p,dp,hs,ts,qs,fp,_,Z,Dn.Pl,D.W.wq,λH2 s2=>?_];let b2:=b.trans (BT.of s2);have d7:Tb H2 T1 T2:=#[tb.a.same s2,tb.b.same s2,tb.ne];apply#[Z,_,Z,aL (λc=>?_) (λc=>?_)]
  ·have c:¬z=hY hs qs (runM r hs ts qs f i):=⇑c
   apply#[_,Z,zl,λt jO=>?_];let s3:=aa.new (o:=.tup [.str "sum",.int (i:Int)]) jO;exact k _ _ (b2.trans (BT.of s3)) #[d7.a.same s3,d7.b.same s3,tb.ne] #[i,by omega,pa,.inl #[t,λq=>c (eF (ez.symm.trans q)),Z,aq]]
  have c:z=hY hs qs (runM r hs ts qs f i):=⇑c
  subst c;apply#[_,Z,_,Z,_,Z,g,p,dp,hs,ts,qs,fp,_,r,bX,Z,PD b2 d7 nd (s2 _ _ ed),λH3 b3 c_=>?_];let f_:=b2.trans b3;apply#[_,Z,aL (λc=>?_) (λc=>?_)]
  ·apply#[_,Z,zl,λt jO=>?_];let s4:=aa.new (o:=.tup [.str "rests",.int (i:Int)]) jO;exact k _ _ (f_.trans (BT.of s4)) #[c_.a.same s4,c_.b.same s4,tb.ne] #[i,by omega,pa,.inr (.inl #[ez,c,by omega,t,Z,aq])]
  have c:eX r hs ts qs (runM r hs ts qs f i)=false:=⇑c
  have oI:H3 dp\.dK (bR (qs.map (·.1)) (runM r hs ts qs f i)):=(b3.nt d7).dK (s2 _ _ ed);apply#[_,Z,_,Z,_,Z,_,Z,g,p,dp,(i:Int),hs,ts,qs,fp,_,r,bX,Z,by omega,PD f_ c_ nd oI,λdq H4 b4 dm n4 e4=>?_];lk;let fZ:=f_.trans b4
  have nq:H dq=none:=by
   cases z:H dq with
   |none=>rfl
   |some o=>
    by_cases y1:dq=T1
    ·let#[tv,hT]:=fD c_.a;rw[y1,hT] at n4;cases n4
    by_cases y2:dq=T2
    ·let#[tv,hT]:=fD c_.b;rw[y2,hT] at n4;cases n4
    rw[f_ _ _ z y1 y2] at n4;cases n4
  have e4:H4 dq\.dK (bR (qs.map (·.1)) (runM r hs ts qs f (i+1))):=e4;let jZ:=(b4.nt c_).dK oI;let wu:=(fZ.nt D.tb).lst hl
  have next:Cd r hs ts qs f ss i->∀j:Nat,j<i+1->Cd r hs ts qs f ss j:=λpi j hj=>by
   by_cases c:j<i
   ·exact pa j c
   obtain rfl:j=i:=by omega
   exact pi
  apply#[_,Z,_,Z,dq,dp,_,_,_,Z,Z,e4,jZ,?_];apply#[_,Z,aL (λch=>?_) (λch=>?_)]
  ·apply#[_,Z,_,Z,_,_,Z,Z,l,_,_,.int y,Z,Z,.inl (.inl wu),L2.fq (j:=i+1) (by rw[cY,ey];rfl),?_];apply#[_,Z,_,Z,l,_,_,.int _,Z,Z,.inl (.inl wu),at_ ez,?_];apply#[_,_,Z,Z,_,Z,aL (λc2=>?_) (λc2=>?_)]
   ·have c2:hY hs qs (runM r hs ts qs f i)<=y:=⇑c2
    apply#[_,Z,zl,λt jO=>?_];let s5:=aa.new (o:=.tup [.str "rise",.int (i:Int)]) jO;exact k _ _ (fZ.trans (BT.of s5)) #[dm.a.same s5,dm.b.same s5,tb.ne] #[i,by omega,pa,.inr (.inr (.inl #[ez,c,by omega,ch,#[_,y,ez,ey,c2],t,Z,aq]))]
   have c2:¬hY hs qs (runM r hs ts qs f i)<=y:=⇑c2
   apply#[_,Z,setG #[_,_,dq,Z,fZ,dm,.inr nq,e4,next #[ez,c,λ⟨_,x',y',e1,e2,le⟩=>c2 ?_]]];rw[ez] at e1;rw[ey] at e2;cases e1;cases e2;exact le
  apply aO #[_,Z,setG #[_,_,dq,Z,fZ,dm,.inr nq,e4,next #[ez,c,λ⟨h1,_⟩=>ch h1]]]
 rintro σ H' ⟨v6,v7,dp,rfl,b,tb,nd,ed,pa⟩;let nt:=b.nt D.tb;let Dn:=PD b tb nd ed;obtain⟨z,ez⟩:∃z,ss[n]? = some z:=#[_,bO Z1];apply#[_,Z,_,Z,l,_,_,.int z,Z,Z,.inl (.inl (nt.lst hl)),at_ ez,?_];apply#[_,Z,_,Z,g,p,dp,hs,ts,qs,fp,_,Z,Dn.Pl,D.W.wq,λH2 s2=>?_];let b2:=b.trans (BT.of s2);have d7:Tb H2 T1 T2:=#[tb.a.same s2,tb.b.same s2,tb.ne];apply#[Z,_,Z,aL (λc=>?_) (λc=>?_)]
 ·have c:¬z=hY hs qs (runM r hs ts qs f n):=⇑c
  apply#[_,Z,zl,λt jO=>?_];let s3:=aa.new (o:=.tup [.str "sum",.int (n:Int)]) jO;exact k _ _ (b2.trans (BT.of s3)) #[d7.a.same s3,d7.b.same s3,tb.ne] #[n,by omega,pa,.inl #[t,λq=>c (eF (ez.symm.trans q)),Z,aq]]
 have c:z=hY hs qs (runM r hs ts qs f n):=⇑c
 subst c;apply#[_,Z,_,Z,_,Z,g,p,dp,hs,ts,qs,fp,_,r,bX,Z,PD b2 d7 nd (s2 _ _ ed),λH3 b3 c_=>?_];let f_:=b2.trans b3;apply#[_,Z,aL (λc=>?_) (λc=>?_)]
 ·exact k _ _ f_ c_ #[n,by omega,pa,.inr (.inr (.inr #[by omega,ez,.inl #[c,Z]]))]
 have c:eX r hs ts qs (runM r hs ts qs f n)=false:=⇑c
 apply#[_,Z,zl,λt jO=>?_];let s4:=aa.new (o:=.tup [.str "goes",.int (n:Int)]) jO;exact k _ _ (f_.trans (BT.of s4)) #[c_.a.same s4,c_.b.same s4,tb.ne] #[n,by omega,pa,.inr (.inr (.inr #[by omega,ez,.inr #[c,t,Z,aq]]))]
end
end Ev
namespace Ev
open PySem L2
def zU(r:Rl)(hs:Xa)(ts:Xb)(qs:aK)(f:ao)(i j:Nat):Bool:=(qs.map (·.1)).all λn=>decide (runM r hs ts qs f i n=runM r hs ts qs f j n)
def Uj(r:Rl)(hs:Xa)(ts:Xb)(qs:aK)(f:ao)(t lg:Nat)(v:V)(H:Hp):Prop:=
 (∃k:Nat,k<=t+lg/\(∀j:Nat,j<k->eX r hs ts qs (runM r hs ts qs f j)=false)/\eX r hs ts qs (runM r hs ts qs f k)=true/\∃a,v=.ref a/\H a\.tup [.str "rests",.int k]) ∨
 ((∀j:Nat,j<=t+lg->eX r hs ts qs (runM r hs ts qs f j)=false)/\((zU r hs ts qs f t (t+lg)=true/\lg % kJ r ts=0/\v=.non)∨(¬(zU r hs ts qs f t (t+lg)=true/\lg % kJ r ts=0)/\∃a,v=.ref a/\H a\.tup [.str "unlike"])))
theorem h1_(r:Rl)(ts:Xb):0<kJ r ts:=by
 unfold kJ;split<;>omega
section
variable{P:Ad}{w:Af}{K:af}{mg:Str->Option Aa}{base:Heap}{CS CG CW T1 T2:Addr}
abbrev fgN:ae:=["goods","placed","rule","t","long","stands","k"]
theorem NG:bq fgN uJ (aX lZ):=bB
inductive NH (K:af) (CG CW T1 T2:Addr) (vs:ag) (H:Hp) (Q:VK) (E:XK):Prop
 |mk:∀(g p d:Addr) (t lg:Nat) (hs:Xa) (ts:Xb) (qs:aK) (fp:ai) (f:ao),∀r∈rl,vs=[.ref g,.ref d,.str r.1,.int t,.int lg]->t+lg<=3000->B0 K CG CW T1 T2 H g p d hs ts qs fp f->(∀v H',BT T1 T2 H H'->Tb H' T1 T2->Uj r hs ts qs f t lg v H'->Q v H')->NH K CG CW T1 T2 vs H Q E
theorem j0_{f0:Addr}{fd:Ae}(F:bf K "fault_of_ring" "fault_of_ring" lZ f0 fd)(B:Bi mg)(TG:dI K CG)(w_:!aZ 4 "rows_by" ["web","rule"] (J4 K CW))(uu:!aZ 9 "rests_at" ka (GV K CG CW T1 T2))(Py:!aZ 9 "placed_after" o6 (Jz K CG CW T1 T2)):!aj a9 10 f0 fd uJ (NH K CG CW T1 T2):=by
 apply F.ok NG (λvs H Q E h=>?_) (λaP A outer s H vs Q E hr h=>?_)
 ·let#[g,p,d,t,lg,hs,ts,qs,fp,f,r,bX,rfl,_]:=h;rfl
 let#[g,p,d,t,lg,hs,ts,qs,fp,f,r,bX,rfl,l3,D,k]:=h;let sz:=bZ;refine' ⟨_,ax ?s1 ?r1,?kk⟩
 case s1=>exact bh 5 NG.nd (dH %[1|0])
 case' r1=>refine' ax ?s2 (ax ?s3 (aA (aU BD)))
 case' s2=>refine' eR eE Z (xi (by rfl) B.range %[bG fO (bG fO (pv 3) (pv 4)) ay|0]) (cm 6 NG.nd) (ax ?b1 (aA ?b2))
 case b1=>exact bx (di (aN uu hr %[0,bp dY (pv 5) (pv 6),2|0])) (aA (aU (eM %[dc,6|0]))) bJ
 case b2=>exact iE (iy ja xa xb vz (pv 5) %[aN Py hr %[0,bp dY (pv 5) (pv 6),2,6|0]|0])
 case s3=>exact bx (PW.pt (qq (bY (NJ (Nat.lt_of_succ_lt (mK hr 0))) (bp dY (pv 5) (pv 3)) (bp dY (pv 5) (bG fO (pv 3) (pv 4)))) (uC (bY qp (bG vv (pv 4) (aN w_ hr %[dA (pv 0) Z,2|0])) ay)))) (aA (aU (hG (ur (K:=K)) (by rfl) B.tuple BO %[dH %[dc|0]|0]))) bJ
 have EF:∀{a:Addr},H a=none->a∉fp:=λna m=>by
  let#[o,e]:=D.has _ m;rw[e] at na;cases na
 have PD:∀{G:Hp} {dp:Addr} {i:Nat},BT T1 T2 H G->Tb G T1 T2->(dp=d∨H dp=none)->G dp\.dK (bR (qs.map (·.1)) (runM r hs ts qs f i))->B0 K CG CW T1 T2 G g p dp hs ts qs fp (runM r hs ts qs f i):=λ{G dp i} bt tb nd e=>#[#[D.Pl.G.nt (bt.nt D.tb),D.W.Gd,nd.elim (λz=>z▸D.Pl.i4) EF,e,(D.W.run r i).at_,D.W.nd,D.W.bS],D.W.run r i,tb,λb hb=>by
  let#[o,e]:=D.has b hb;let#[u1,g1]:=fD tb.a;let#[u2,g2]:=fD tb.b;by_cases y1:b=T1
  ·exact#[_,y1▸g1]
  by_cases y2:b=T2
  ·exact#[_,y2▸g2]
  exact#[o,bt _ _ e y1 y2]]
 apply#[_,Z,zl,λls uX=>?_];let#[s1,e1]:=bg (o:=.lst [.ref d]) uX;have vH:Tb (upd H ls (.lst [.ref d])) T1 T2:=#[D.tb.a.same s1,D.tb.b.same s1,D.tb.ne];generalize upd H ls (.lst [.ref d])=H1 at s1 e1 vH ⊢;lk;apply iR (λσ H'=>∃(v6:aI) (ds:ai),σ=[some (.ref g),some (.ref d),some (.str r.1),some (.int t),some (.int lg),some (.ref ls),v6]/\BT T1 T2 H H'/\Tb H' T1 T2/\H' ls\.lst (ds.map V.ref)/\ds.length=t+lg+2/\(∀(j:Nat) (a:Addr),ds[j]? = some a->(a=d∨H a=none)/\H' a\.dK (bR (qs.map (·.1)) (runM r hs ts qs f j)))/\∀j:Nat,j<t+lg+1->eX r hs ts qs (runM r hs ts qs f j)=false) ?later (λN hN=>?loop)
 case loop=>
  apply#[_,Z,_,Z,_,_,Z,Z,_,_,Z,Z,((t+lg+1:Nat):Int),Z,by omega,by omega,?_];apply yZ (λi σ H'=>∃(v6:aI) (ds:ai),σ=[some (.ref g),some (.ref d),some (.str r.1),some (.int t),some (.int lg),some (.ref ls),v6]/\BT T1 T2 H H'/\Tb H' T1 T2/\H' ls\.lst (ds.map V.ref)/\ds.length=i+1/\(∀(j:Nat) (a:Addr),ds[j]? = some a->(a=d∨H a=none)/\H' a\.dK (bR (qs.map (·.1)) (runM r hs ts qs f j)))/\∀j:Nat,j<i->eX r hs ts qs (runM r hs ts qs f j)=false) #[none,[d],Z,BT.of s1,vH,e1,Z,λj a e=>?_,by omega] ?_ (λσ H' h=>hN _ _ (by rw[mN] at h;exact h))
  ·match j,e with
   |0,e=>cases e;exact#[.inl Z,s1 _ _ D.Pl.hd]
  rintro i σ H2 hi ⟨v6,ds,rfl,b2,d7,el,ld,da,no⟩;rw[mN] at hi;lk;rw[Int.zero_add];obtain⟨dp,Bj⟩:∃dp,ds[i]? = some dp:=#[_,bO Z1];let#[nd,ed]:=da i dp Bj;have at_:eJ (ds.map V.ref) (i:Int)\.ref dp:=L2.fq (by rw[cY,Bj];rfl);apply#[_,Z,_,Z,_,Z,ls,_,_,.ref dp,Z,Z,.inl (.inl el),at_,_,Z,g,p,dp,hs,ts,qs,fp,_,r,bX,Z,PD b2 d7 nd ed,λH3 b3 c_=>?_];let f_:=b2.trans b3;let NA:=(b3.nt d7).lst el;have Om:∀(j:Nat) (a:Addr),ds[j]? = some a->(a=d∨H a=none)/\H3 a\.dK (bR (qs.map (·.1)) (runM r hs ts qs f j)):=λj a e=>#[(da j a e).1,(b3.nt d7).dK (da j a e).2];apply#[_,Z,aL (λc=>?_) (λc=>?_)]
  ·apply#[_,Z,zl,λa na=>?_];let s4:=aa.new (o:=.tup [.str "rests",.int (i:Int)]) na;exact k _ _ (f_.trans (BT.of s4)) #[c_.a.same s4,c_.b.same s4,c_.ne] (.inl #[i,by omega,no,c,a,Z,aq])
  have c:eX r hs ts qs (runM r hs ts qs f i)=false:=⇑c
  apply#[_,Z,.inl #[Z,#[_,.of NA]],?_];apply#[_,Z,_,Z,_,Z,ls,_,_,.ref dp,Z,Z,.inl (.inl NA),at_,_,Z,_,Z,g,p,dp,(i:Int),hs,ts,qs,fp,_,r,bX,Z,by omega,PD f_ c_ nd (Om i dp Bj).2,λdq H4 b4 dm n4 e4=>?_];let fZ:=f_.trans b4
  have nq:H dq=none:=by
   cases z:H dq with
   |none=>rfl
   |some o=>
    by_cases y1:dq=T1
    ·let#[tv,hT]:=fD c_.a;rw[y1,hT] at n4;cases n4
    by_cases y2:dq=T2
    ·let#[tv,hT]:=fD c_.b;rw[y2,hT] at n4;cases n4
    rw[f_ _ _ z y1 y2] at n4;cases n4
  have e4:H4 dq\.dK (bR (qs.map (·.1)) (runM r hs ts qs f (i+1))):=e4;let Bf:=(b4.nt c_).lst NA;apply#[ls,_,_,Z,Z,Bf,by rw[au];omega,?_];have b5:aM ls H4 (upd H4 ls (.lst (ds.map V.ref++[.ref dq]))):=aM.upd
  have e5:upd H4 ls (.lst (ds.map V.ref++[.ref dq])) ls\.lst ((ds++[dq]).map V.ref):=by
   rw[aq,cj];rfl
  generalize upd H4 ls (.lst (ds.map V.ref++[.ref dq]))=H5 at b5 e5 ⊢;have kT:∀{T qn},cn H4 T qn->cn H5 T qn:=λ⟨es,a1,a2⟩=>#[es,b5 _ _ a1 (λz=>by rw[z,Bf] at a1;cases a1),λx hx=>b5 _ _ (a2 x hx) (λz=>by have:=a2 x hx;rw[z,Bf] at this;cases this)];have kd:∀a kvs,H4 a\.dK kvs->H5 a\.dK kvs:=λa kvs e=>b5 _ _ e (cb e Bf nofun);apply#[_,ds++[dq],Z,λb o e y1 y2=>b5 _ _ (fZ b o e y1 y2) (bw e uX),#[kT dm.a,kT dm.b,dm.ne],e5,by rw[dM,ld];rfl,λj a e=>?_,λj hj=>?_]
  ·by_cases z:j<ds.length
   ·rw[zj z] at e;exact#[(Om j a e).1,kd _ _ ((b4.nt c_).dK (Om j a e).2)]
   rw[xp Z1] at e
   have ej:j=i+1:=by
    have:=(cq.mp e).1;simp only[zh] at this;omega
   subst ej;rw[ld,Nat.sub_self] at e;cases e;exact#[.inr nq,kd _ _ e4]
  by_cases z:j<i
  ·exact no j z
  obtain rfl:j=i:=by omega
  exact c
 rintro σ H2 ⟨v6,ds,rfl,b2,d7,el,ld,da,no⟩;obtain⟨dt,UU⟩:∃dp,ds[t]? = some dp:=#[_,bO Z1];obtain⟨du,UT⟩:∃dp,ds[t+lg]? = some dp:=#[_,bO Z1];let e1':=(da _ _ UU).2;let Js:=(da _ _ UT).2;apply#[_,Z,_,Z,ls,_,_,.ref dt,Z,Z,.inl (.inl el),L2.fq (j:=t) (by rw[cY,UU];rfl),?_];apply#[_,Z,_,Z,_,Z,_,_,Z,Z,ls,_,_,.ref du,Z,Z,.inl (.inl el),L2.fq (j:=t+lg) (by rw[cY,UT];rfl),?_];apply#[dt,du,_,_,_,Z,Z,e1',Js,?_];have Rt:∀j:Nat,j<=t+lg->eX r hs ts qs (runM r hs ts qs f j)=false:=λj hj=>no j Z1
 have Qv:∀H3,BT T1 T2 H H3->Tb H3 T1 T2->¬(zU r hs ts qs f t (t+lg)=true/\lg % kJ r ts=0)->∀l2,H3 l2=none->∀H4,H4=upd H3 l2 (.lst [.str "unlike"])->∀a,H4 a=none->Q (.ref a) (upd H4 a (.tup [.str "unlike"])):=λH3 b3 c_ un l2 n2 H4 e4 a na=>by
  subst e4;let s1:=aa.new (o:=.lst [.str "unlike"]) n2;let s2:=aa.new (o:=.tup [.str "unlike"]) na;let jh:=s1.trans s2;exact k _ _ (b3.trans (BT.of jh)) #[c_.a.same jh,c_.b.same jh,c_.ne] (.inr #[Rt,.inr #[un,a,Z,aq]])
 apply#[_,Z,aL (λc=>?_) (λc=>?_)]
 ·have c:¬zU r hs ts qs f t (t+lg)=true:=by
   unfold zU;simpa using c
  apply bN #[zl,λl2 n2=>?_];exact#[l2,_,Z,.inl #[.inl (.of aq),λa na=>Qv _ b2 d7 (λz=>c z.1) l2 n2 _ Z a na]]
 have c:zU r hs ts qs f t (t+lg)=true:=by
  unfold zU;simpa using c
 let G2:=D.Pl.G.nt (b2.nt D.tb);let#[ib,dw,dy,vs,bP,g1,g2,_]:=id G2.ex;let rp:=h1_ r ts;apply#[_,Z,_,Z,g,CG,ib,_,_,Z,g1,TG.cl,TG.nW,kK _ _ _,_,Z,p,hs,ts,bP,r,bX,Z,g2,D.W.Gd.vL,λH3 s3=>?_];let b3:=b2.trans (BT.of s3);have c_:Tb H3 T1 T2:=#[d7.a.same s3,d7.b.same s3,d7.ne];apply#[_,_,Z,Z,by omega,Z,_,Z,aL (λc2=>?_) (λc2=>?_)]
 ·have c2:¬lg % kJ r ts=0:=by
   have:¬(lg:Int) % ((kJ r ts:Nat):Int)=0:=⇑c2
   omega
  apply#[zl,λl2 n2=>?_];exact#[l2,_,Z,.inl #[.inl (.of aq),λa na=>Qv _ b3 c_ (λz=>c2 z.2) l2 n2 _ Z a na]]
 have c2:lg % kJ r ts=0:=by
  have:(lg:Int) % ((kJ r ts:Nat):Int)=0:=⇑c2
  omega
 exact k _ _ b3 c_ (.inr #[Rt,.inl #[c,c2,Z]])
end
end Ev
namespace Ev
open PySem L2
theorem p9.nt{K:af}{H H':Hp}{v:V}{x:Str}{n:Nat}{c:Bool}(h:p9 K H v x n c)(s:NT H H'):p9 K H' v x n c:=by
 rcases h with⟨e,h⟩|⟨a,xs,e,ha,h⟩
 ·exact .inl #[e,h.nt s]
 apply .inr #[a,xs,e,s.tup ha,h.imp id λ⟨en,y,r,ex,h⟩=>#[en,y,r,ex,h.imp id λ⟨e,h⟩=>#[e,h.nt s]]]
theorem Bh.nt{K:af}{H H':Hp}{v:V}{c:Bool}(h:Bh K H v c)(s:NT H H'):Bh K H' v c:=by
 rcases h with⟨e,h⟩|⟨a,y,e,ha,h⟩
 ·exact .inl #[e,h.nt s]
 apply .inr #[a,y,e,s.tup ha,?_];rcases h with⟨e,h⟩|⟨l,ys,bs,e,hl,pb,l1,ec⟩
 ·exact .inl #[e,h.nt s]
 exact .inr #[l,ys,bs,e,s.lst hl,Paired.bL pb λ_ _ h=>h.nt s,l1,ec]
theorem BX.nt{K:af}{H H':Hp}{y:V}{a:Int}{c:Bool}(h:BX K H y a c)(s:NT H H'):BX K H' y a c:=h.imp id λ⟨e,h⟩=>#[e,h.imp id λh=>h.nt s]
theorem kg.nt{K:af}{H H':Hp}{v:V}{c:Bool}(h:kg K H v c)(s:NT H H'):kg K H' v c:=by
 rcases h with⟨e,h⟩|⟨a,y,z,e,ha,h⟩
 ·exact .inl #[e,h.nt s]
 exact .inr #[a,y,z,e,s.tup ha,h.imp (λ⟨e,h⟩=>#[e,h.nt s]) λh=>h.imp (λ⟨a,e,h⟩=>#[a.nt s,e,h.nt s]) id]
theorem Tq{K:af}{H:Hp}:∀ss:List Int,Paired (DB K H) (ss.map V.int) (ss.map λ_=>true)
 |[]=>.nil
 |s::ss=>.cons (.inl #[Z,s,Z]) (Tq ss)
theorem _X{K:af}{H:Hp}{a l:Addr}{ss:List Int}(ha:H a\.tup [.str "rest",.ref l])(hl:H l\.lst (ss.map V.int))(l0:0<ss.length)(l3:ss.length<=3001):Bh K H (.ref a) true:=by
 apply .inr #[a,_,Z,ha,.inr #[l,_,_,Z,hl,Tq ss,by rw[au];omega,?_]];rw[au,b_ (show 1<=ss.length by omega),b_ l3]
 have:(ss.map λ_=>true).all id=true:=List.all_eq_true.mpr λb hb=>by
  let#[_,_,rfl]:=bH.mp hb;rfl
 rw[this];rfl
section
variable{P:Ad}{w:Af}{K:af}{mg:Str->Option Aa}{base:Heap}{CS CG CW T1 T2:Addr}
theorem U2:bq ["goods","stand","rule","paper","placed"] uH (aX Nw):=bB
inductive OL (K:af) (CG CW T1 T2:Addr) (vs:ag) (H:Hp) (Q:VK) (E:XK):Prop
 |mk:∀(g p d:Addr) (v:V) (hs:Xa) (ts:Xb) (qs:aK) (fp:ai) (ns:ae) (f:ao),∀r∈rl,vs=[.ref g,.ref d,.str r.1,v]->o8 K CG CW H g p d hs ts qs fp ns f->Wd hs ts qs f->Tb H T1 T2->((Bh K H v false/\kg K H v false/\∀t H',BT T1 T2 H H'->Tb H' T1 T2->H' t\.tup [.str "form"]->Q (.ref t) H')∨(∃(a l:Addr) (ss:List Int),v=.ref a/\H a\.tup [.str "rest",.ref l]/\H l\.lst (ss.map V.int)/\0<ss.length/\ss.length<=3001/\∀v H',BT T1 T2 H H'->Tb H' T1 T2->Nh r hs ts qs f ss v H'->Q v H')∨∃(a:Addr) (t lg:Nat),v=.ref a/\H a\.tup [.str "ring",.int t,.int lg]/\1<=lg/\t+lg<=3000/\∀v H',BT T1 T2 H H'->Tb H' T1 T2->Uj r hs ts qs f t lg v H'->Q v H')->OL K CG CW T1 T2 vs H Q E
theorem h9_{f0:Addr}{fd:Ae}(F:bf K "paper_fault" "paper_fault" Nw f0 fd)(B:Bi mg)(GP:!aZ 3 "checked_start" uo (JX K CG CW))(cR:!aZ 2 "is_of_a_rest" ["paper"] (U9 K))(cG:!aZ 3 "is_of_a_ring" ["paper"] (Uq K))(PU:!aZ 10 "fault_of_rest" uI (Nz K CG CW T1 T2))(PV:!aZ 10 "fault_of_ring" uJ (NH K CG CW T1 T2)):!aj a9 11 f0 fd uH (OL K CG CW T1 T2):=by
 apply F.ok U2 (λvs H Q E h=>?_) (λaP A outer s H vs Q E hr h=>?_)
 ·let#[g,p,d,v,hs,ts,qs,fp,ns,f,r,bX,rfl,_]:=h;rfl
 let#[g,p,d,v,hs,ts,qs,fp,ns,f,r,bX,rfl,S,W,tb,h]:=h;refine' ⟨_,ax ?s1 (ax ?s2 (ax ?s3 (aA ?s4))),?kk⟩
 case s1=>exact bh 4 U2.nd (aN GP hr %[0,1,2|0])
 case s2=>exact bx (di (aN cR hr %[3|0])) (aA (aU (aN PU hr %[0,4,2,bp c7 (pv 3) ay|0]))) bJ
 case s3=>exact bx (di (aN cG hr %[3|0])) (aA (aU (aN PV hr %[0,4,2,bp c7 (pv 3) ay,bp c7 (pv 3) ay|0]))) bJ
 case s4=>exact aU (hG (ur (K:=K)) (by rfl) B.tuple BO %[dH %[dc|0]|0])
 have EF:∀{a:Addr},H a=none->a∉fp:=λna m=>by
  let#[o,e,_]:=S.has _ m;rw[e] at na;cases na
 apply#[_,Z,_,Z,_,Z,_,_,r,bX,Z,g,p,d,hs,ts,qs,fp,ns,f,Z,S.G,S.i4,S.hd,S.so,W.nd,W.bS,λdp H1 s1 n1 e1=>?_];lk;have vH:Tb H1 T1 T2:=#[tb.a.same s1,tb.b.same s1,tb.ne];have PD:∀{G:Hp},aa H1 G->B0 K CG CW T1 T2 G g p dp hs ts qs fp f:=λ{G} s=>#[#[S.G.same (s1.trans s),W.Gd,EF n1,s _ _ e1,W.at_,W.nd,W.bS],W,#[vH.a.same s,vH.b.same s,tb.ne],λb hb=>let #[o,e,_]:=S.has b hb;#[o,s _ _ (s1 _ _ e)]];rcases h with⟨ZD,Zx,k⟩|⟨a,l,ss,rfl,ha,hl,l0,l3,k⟩|⟨a,t,lg,rfl,ha,g0,g3,k⟩
 ·apply#[_,Z,v,false,Z,ZD.nt (NT.of s1),λH2 s2=>#[_,Z,aO ?_]];apply#[_,Z,v,false,Z,Zx.nt (NT.of (s1.trans s2)),_,Z,aO ?_];apply#[zl,λl2 n2=>?_];let s3:=aa.new (o:=.lst [.str "form"]) n2;apply#[l2,_,Z,.inl #[.inl (.of aq),λt nt=>?_]];let s4:=((s1.trans s2).trans s3).trans (aa.new (o:=.tup [.str "form"]) nt);exact k _ _ (BT.of s4) #[tb.a.same s4,tb.b.same s4,tb.ne] aq
 ·apply#[_,Z,.ref a,true,Z,(_X ha hl l0 l3).nt (NT.of s1),λH2 s2=>#[_,Z,bN ?_]];let jh:=s1.trans s2;apply#[_,Z,_,Z,_,Z,_,Z,a,_,1,.ref l,Z,Z,.of (jh _ _ ha),L2.fq (j:=1) Z,?_];exact#[g,p,dp,l,ss,hs,ts,qs,fp,f,r,bX,Z,jh _ _ hl,l0,l3,PD s2,λv H' b t u=>k v H' ((BT.of jh).trans b) t u]
 apply#[_,Z,.ref a,false,Z,(show Bh K H1 (.ref a) false from .inl #[Z,.inr #[a,_,Z,s1 _ _ ha,.inl #[Z,by simp]]]),λH2 s2=>#[_,Z,aO ?_]];let jh:=s1.trans s2;let iu:=jh _ _ ha;apply#[_,Z,.ref a,true,Z,.inr #[a,_,_,Z,iu,.inr (.inr #[t,lg,Z,Z,by omega,by omega,(b_ Z1).symm])],_,Z,bN ?_];apply#[_,Z,_,Z,_,Z,_,Z,a,_,1,.int t,Z,Z,.of iu,L2.fq (j:=1) Z,_,Z,a,_,2,.int lg,Z,Z,.of iu,L2.fq (j:=2) Z,?_];exact#[g,p,dp,t,lg,hs,ts,qs,fp,f,r,bX,Z,g3,PD s2,λv H' b t u=>k v H' ((BT.of jh).trans b) t u]
end
end Ev
namespace Ev
open PySem L2
theorem fj.wI{K:af}{C:Addr}{H:Hp}{p:Addr}{hs:Xa}{ts:Xb}{fp:ai}(W:fj K C H p hs ts fp){b:Addr}(hb:b∈fp):∃o,H b\o/\∀vs,o≠.tbl vs:=by
 let#[dx,d1,l2,d3,zs,as,rfl,h1,h2,h3,h4,h5,h6,h7]:=W.ex;simp only[cw] at hb;rcases hb with rfl|rfl|rfl|rfl|hb
 ·exact#[_,h1,by intro vs z;cases z]
 ·exact#[_,h2,by intro vs z;cases z]
 ·exact#[_,h3,by intro vs z;cases z]
 ·exact#[_,h5,by intro vs z;cases z]
 let#[i,hi,e]:=mO hb;exact#[_,h7 i ((az hs)[i]' Z1) b (bO Z1) (by rw[<- e];exact bO hi),by intro vs z;cases z]
theorem gq.wI{K:af}{CG CW:Addr}{H:Hp}{g p:Addr}{hs:Xa}{ts:Xb}{qs:aK}{fp:ai}(G:gq K CG CW H g p hs ts qs fp):∃yF,gq K CG CW H g p hs ts qs yF/\(∀b∈yF,b∈fp)/\∀b∈yF,∃o,H b\o/\∀vs,o≠.tbl vs:=by
 let#[dx,dw,dy,vs,bP,h1,h2,h3,h4,h5,m1,m2,m3,m4,m5]:=G.ex;apply#[g::dw::dy::(bP++vs.filterMap λv=>match v with | .ref a=>some a|_=>none),#[dx,dw,dy,vs,bP,h1,h2,h3,h4,h5,by simp,by simp,by simp,λb hb=>by simp[hb],λv hv a z=>?_],λb hb=>?_,λb hb=>?_]
 ·have:a∈vs.filterMap λv=>match v with | .ref a=>some a|_=>none:=xo.mpr #[v,hv,by rw[z]];simp only[cw,eZ];exact .inr (.inr (.inr (.inr this)))
 ·simp only[cw,eZ] at hb;rcases hb with rfl|rfl|rfl|hb|hb
  ·exact m1
  ·exact m2
  ·exact m3
  ·exact m4 b hb
  let#[v,hv,e]:=xo.mp hb;cases v with
  |ref a=>cases e;exact m5 _ hv _ Z
  |_=>cases e
 simp only[cw,eZ] at hb;rcases hb with rfl|rfl|rfl|hb|hb
 ·exact#[_,h1,by intro vs z;cases z]
 ·exact#[_,h3,by intro vs z;cases z]
 ·exact#[_,h4,by intro vs z;cases z]
 ·exact h2.wI hb
 let#[v,hv,e]:=xo.mp hb;let#[i,hi,ev]:=mO hv;let le:=bK h5;let w:=hJ h5 i hi Z1;rw[ev] at w;cases o:(qs[i]' Z1).2.2 with
 |none=>
  rw[o] at w;rw[show v=.non from w] at e;cases e
 |some ws=>
  rw[o] at w;let#[a,ys,ea,ha,_]:=w;rw[ea] at e;cases e;exact#[_,ha,by intro vs z;cases z]
section
variable{K:af}{CG CW:Addr}
theorem RS{H:Hp}{R:Addr->Hp->Prop}{E:XK}{lh lt:Addr}{yh yt:ag}{hs:Xa}{ts:Xb}(G:Good hs ts)(h1:H lh\.lst yh)(h2:bD K H yh (hs.map kH))(h3:H lt\.lst yt)(h4:bD K H yt (ts.map kT))
  (k:∀p fp H',aa H H'->fj K CW H' p hs ts fp->(∀b∈fp,H b=none)->R p H'):∀x dx,H x=none->H dx=none->dx≠x->Ga K CW (.ref x::([.ref lh,.ref lt]++[])) (upd (upd H dx (.own x)) x (.ins CW dx [])) (λv H2=>v=.non/\R x H2) E:=by
 intro p dx hp wB ne;have s4:aa H (upd (upd H dx (.own p)) p (.ins CW dx [])):=(aa.new wB).trans (aa.new (by rw[aC ne.symm];exact hp));apply#[p,dx,lh,lt,yh,yt,hs,ts,Z,aq,s4 _ _ h1,h2.same s4,s4 _ _ h3,h4.same s4,G,λbP H5 kp W fr=>#[Z,?_]];apply k p bP H5 (λb o e=>kp b o (s4 _ _ e) (bw e hp)) W λb hb=>?_;rcases fr b hb with rfl|z
 ·exact hp
 exact s4.free z
theorem TV{H:Hp}{R:Addr->Hp->Prop}{E:XK}{p lp:Addr}{yp:ag}{hs:Xa}{ts:Xb}{ps:aK}{bP:ai}(W:fj K CW H p hs ts bP)(G:Good hs ts)(h1:H lp\.lst yp)(h2:ux K H yp ps)(gp:∀q∈ps,CQ ts q)(nd:(ps.map (·.1)).Nodup)(len:ps.length<64)
  (k:∀g qs fp H',aa H H'->gq K CG CW H' g p hs ts qs fp->Qs ps qs->(∀b∈fp,b∈bP∨H b=none)->R g H'):∀x dx,H x=none->H dx=none->dx≠x->GT K CG CW (.ref x::([.ref p,.ref lp]++[])) (upd (upd H dx (.own x)) x (.ins CG dx [])) (λv H2=>v=.non/\R x H2) E:=by
 intro g dx hg wB ne;have s4:aa H (upd (upd H dx (.own g)) g (.ins CG dx [])):=(aa.new wB).trans (aa.new (by rw[aC ne.symm];exact hg))
 have gw:g∉bP:=λm=>by
  let#[o,e]:=W.has m;rw[hg] at e;cases e
 apply#[g,dx,p,lp,yp,ps,hs,ts,bP,Z,aq,W.same s4,gw,G,s4 _ _ h1,Paired.bL h2 λ_ _ q=>q.same s4,gp,nd,len,λqs fp H5 kp GA Qq fr=>#[Z,?_]];apply k g qs fp H5 (λb o e=>kp b o (s4 _ _ e) (bw e hg)) GA Qq λb hb=>?_;rcases fr b hb with rfl|z|z
 ·exact .inr hg
 ·exact .inl z
 exact .inr (s4.free z)
end
def jK:ae:=["least one high","least one fall","least one calm","least all high","least all fall","least all calm","below one high","below one fall","below one calm","below all high","below all fall","below all calm","shares one","shares all","turns high","turns fall","turns calm"]
theorem R4:∀x∈jK,∃r∈rl,r.1=x:=by decide +kernel
structure Wo (K:af) (CG CW:Addr) (H:Hp) (g p d:Addr) (hs:Xa) (ts:Xb) (qs:aK) (fp:ai) (ns:ae) (f:ao):Prop where
 S:o8 K CG CW H g p d hs ts qs fp ns f
 W:Wd hs ts qs f
 Rf:qs.length<=30
 w1:∀q∈qs,1<=q.2.1
section
variable{P:Ad}{w:Af}{K:af}{mg:Str->Option Aa}{base:Heap}{CG CW:Addr}
theorem Jr:bq [fo,"_law_some"] [fo] (aX sx):=bB
def q_:Sp:=λvs H Q _=>∃l:Addr,vs=[.ref l]/\bU H l/\∀(r:Rl) (H':Hp),r∈rl->aM l H H'->bU H' l->Q (.str r.1) H'
theorem _U{f0:Addr}{fd:Ae}(F:bf K "_law_rule" "_law_rule" sx f0 fd)(cD:!aZ 1 qu uy vy):!aj a9 2 f0 fd [fo] q_:=by
 exists F.bF Jr;let#[l,rfl,st,k]:=h;refine' #[_,ax ?s1 (ax ?s2 (ax ?s3 (aA ?s4))),?kk]
 case s1=>exact bh 1 Jr.nd (dH %[dc,dc,dc,dc,dc,dc|0])
 case s2=>exact bh 1 Jr.nd (bG yX (pv 1) (dH %[dc,dc,dc,dc,dc|0]))
 case s3=>exact bh 1 Jr.nd (bG yX (pv 1) (dH %[dc,dc,dc,dc,dc,dc|0]))
 case s4=>exact aU (bp dY (pv 1) (aN cD hr %[0,ay|0]))
 apply#[zl,λa na=>?_];let#[s1,e1]:=bg (o:=.lst ((jK.take 6).map V.str)) na;show gz _ _ _ (upd H a (.lst ((jK.take 6).map V.str))) _;generalize upd H a (.lst ((jK.take 6).map V.str))=H1 at s1 e1 ⊢;lk;apply#[_,Z,zl,λb nb=>?_];let#[s2,e2]:=bg (o:=.lst (((jK.drop 6).take 5).map V.str)) nb;show v_ _ _ (upd H1 b (.lst (((jK.drop 6).take 5).map V.str))) _;generalize upd H1 b (.lst (((jK.drop 6).take 5).map V.str))=H2 at s2 e2 ⊢;apply#[a,b,_,_,Z,Z,s2 _ _ e1,e2,by decide +kernel,λc nc=>?_];let#[s3,e3]:=bg (o:=.lst ((jK.take 11).map V.str)) nc;show gz _ _ _ (upd H2 c (.lst ((jK.take 11).map V.str))) _;generalize upd H2 c (.lst ((jK.take 11).map V.str))=H3 at s3 e3 ⊢;lk;apply#[_,Z,zl,λb2 Zr=>?_];let#[s4,e4]:=bg (o:=.lst ((jK.drop 11).map V.str)) Zr;show v_ _ _ (upd H3 b2 (.lst ((jK.drop 11).map V.str))) _;generalize upd H3 b2 (.lst ((jK.drop 11).map V.str))=H4 at s4 e4 ⊢;apply#[c,b2,_,_,Z,Z,s4 _ _ e3,e4,by decide +kernel,λe ne=>?_];let#[s5,e5]:=bg (o:=.lst (jK.map V.str)) ne;show gz _ _ _ (upd H4 e (.lst (jK.map V.str))) _;generalize upd H4 e (.lst (jK.map V.str))=H5 at s5 e5 ⊢;lk;let Ra:=(((s1.trans s2).trans s3).trans s4).trans s5;have el:e≠l:=(((((st.same s1).same s2).same s3).same s4)).ne ne;apply#[_,Z,_,Z,l,17,Z,by decide,by decide,st.same Ra,λq H6 q0 q1 b6 gI=>?_]
 let#[v,hv,r,iX,rfl]:=My (p:=λv:V=>∃r∈rl,v=.str r.1) (xs:=jK.map V.str) (r:=q) (n:=17) Z q0 q1 (λv hv=>by
  let#[x,hx,rfl]:=bH.mp hv;let#[r,h1,h2]:=R4 x hx;exact#[r,h1,by rw[h2]])
 exact#[e,_,_,_,Z,Z,.inl (.inl (b6 _ _ e5 el)),hv,k r H6 iX ((aM.of Ra).trans b6) gI]
end
end Ev
namespace Ev
open PySem L2
theorem Wo.nt{K:af}{CG CW g p d:Addr}{H G:Hp}{hs:Xa}{ts:Xb}{qs:aK}{fp:ai}{ns:ae}{f:ao}(S:Wo K CG CW H g p d hs ts qs fp ns f)(s:NT H G):Wo K CG CW G g p d hs ts qs fp ns f:=#[S.S.nt s,S.W,S.Rf,S.w1]
section
variable{P:Ad}{w:Af}{K:af}{mg:Str->Option Aa}{base:Heap}{CG CW:Addr}
abbrev W4:ae:=[fo,"_law_most_hands","_law_most_pieces","_law_hands","_law_ties","_law_pieces_here",wM]
theorem GI:bq W4 uM (aX lI):=bB
def ni(K:af)(CG CW:Addr):Sp:=λvs H Q _=>∃(l:Addr) (m:Nat),vs=[.ref l,.int 4,.int m]/\m<=30/\bU H l/\∀(t g p d:Addr) (r:Rl) (hs:Xa) (ts:Xb) (qs:aK) (fp:ai) (ns:ae) (f:ao) (H':Hp),aM l H H'->bU H' l->r∈rl->H' t\.tup [.ref g,.ref d,.str r.1]->Wo K CG CW H' g p d hs ts qs fp ns f->d≠l->l∉fp->H d=none->Q (.ref t) H'
theorem ii_{f0:Addr}{fd:Ae}(F:bf K "_law_world" "_law_world" lI f0 fd)(cL:!aZ 3 "_law_web" [fo,"_law_most"] (rq K))(cP:!aZ 3 "_law_pieces" uK (Ou K))(cS:!aZ 2 "_law_stand" uL (NF K))(cR:!aZ 2 "_law_rule" [fo] q_)(cW:!gZ CW 5 "Web" oU (Ga K CW))(cG:!gZ CG 7 "Goods" oR (GT K CG CW)):!aj a9 9 f0 fd uM (ni K CG CW):=by
 exists F.bF GI;let#[l,m,rfl,EL,st,k]:=h;let sz:=bZ;refine' #[_,ax ?s1 (ax ?s2 (ax ?s3 (aA ?s4))),?kk]
 case s1=>exact Bx (aN cL hr %[0,1|0]) (mE Z (dB (cm 3 GI.nd) (dB (cm 4 GI.nd) jd)))
 case s2=>exact bh 5 GI.nd (aN cP hr %[0,4,2|0])
 case s3=>exact bh 6 GI.nd (aN cS hr %[0,5,3|0])
 case s4=>exact aU (eM %[Bs cG hr %[Bs cW hr %[3,4|0],5|0],6,aN cR hr %[0|0]|0])
 apply#[_,Z,_,Z,l,Z,st,λt0 lh lt yh yt hs ts H1 b1 fb yi Ao Ci nll pL th dz tt Gd _=>?_];apply#[t0,_,Z,.of yi,Z,_,_,Z,_,_,Z,Z,?_];have yb:lh≠l:=st.ne Ao;have qd:lt≠l:=st.ne Ci;apply#[_,Z,_,Z,_,Z,l,lt,m,yt,ts,Z,EL,fb,dz,tt,qd,Gd.vL,Gd.tok,Gd.QU,λlp yp ps H2 b2 dE Cj Cw pc gp nd pm _=>?_];lk;let#[WQ,fJ]:=fb.some;let FB:=b2 _ _ pL yb;let Mo:=b2 _ _ dz qd;let QV:=iC th b2 fJ;let X3:=iC tt b2 fJ;have As:lp≠l:=fb.ne Cj;let Dx:=b1.trans b2;apply#[_,Z,_,Z,_,Z,l,lp,lh,yp,yh,ps,hs,Z,dE,Cw,As,pc,FB,yb,QV,?_,?_,by omega,nd,λd f H3 b3 dR Ry ed fm=>?_]
 ·have:=Gd.h1;omega
 ·exact Gd.h8
 lk;let#[WM,kB]:=dE.some;let Mu:=b3 _ _ FB yb;let Ft:=b3 _ _ Mo qd;let Mr:=b3 _ _ Cw As;let X4:=iC QV b3 kB;let X2:=iC X3 b3 kB;let f_:=Dx.trans b3;have dl:d≠l:=dE.ne Ry;have YX:ux K H3 yp ps:=Paired.bL pc λ_ _ q=>q.but b3 dE;let#[Qt,oz]:=dR.some;let Zq:=Dx.free dE Ry;apply#[_,Z,_,Z,RS Gd Mu X4 Ft X2 (λp bP H5 s5 W fw=>#[_,Z,TV W Gd (s5 _ _ Mr) (Paired.bL YX λ_ _ q=>q.same s5) gp nd Z1 (λg qs fp H6 s6 GA Qq fr=>?_)])];let nJ:=s5.trans s6;let gI:=dR.same nJ
 have lfp:l∉fp:=λm=>by
  rcases fr l m with z|z
  ·have:=fw l z;rw[oz] at this;cases this
  rw[s5 _ _ oz] at z;cases z
 have i4:d∉fp:=λm=>by
  rcases fr d m with z|z
  ·have:=fw d z;rw[ed] at this;cases this
  rw[s5 _ _ ed] at z;cases z
 apply#[_,Z,_,Z,l,Z,gI,λr H7 hr7 b7 k7=>?_];apply#[zl,λt nt=>?_];let#[s8,e8]:=bg (o:=.tup [.ref g,.ref d,.str r.1]) nt;generalize upd H7 t (.tup [.ref g,.ref d,.str r.1])=H8 at s8 e8 ⊢;let#[WJ,IK]:=gI.some;let G7:=GA.keep (λc hc o e=>b7 _ _ e (λz=>lfp (z▸hc))) λc zs e=>b7 _ _ e (cb e IK nofun);let#[yF,G8,sub,has]:=(G7.same s8).wI;let ed8:=s8 _ _ (b7 _ _ (nJ _ _ ed) dl)
 have Rk:(ps.map (·.1)).Perm (qs.map (·.1)):=by
  rw[Qq.Cf];exact (xm _).symm
 let ql:=Qq.len;have b08:aM l H H8:=((f_.trans (aM.of nJ)).trans b7).trans (aM.of s8)
 have zr:∀q∈qs,1<=q.2.1/\q.2.1<=1000000000:=λq hq=>by
  let#[q',hq',rfl]:=Qq.mem q hq;exact#[(gp q' hq').w1,(gp q' hq').w2]
 exact k t g p d r hs ts qs yF (ps.map (·.1)) f H8 b08 (k7.same s8) hr7 e8 #[#[G8,λz=>i4 (sub _ z),ed8,#[Rk,fm],has],#[Gd,Qq.nd nd,by omega,λn hn=>fm n (Rk.mem_iff.mpr hn),λq hq=>#[by have:=(zr q hq).1;omega,(zr q hq).2]],by omega,λq hq=>(zr q hq).1] dl (λz=>lfp (sub _ z)) Zq
end
end Ev
namespace Ev
open PySem L2
theorem Ux{α:Type}{xs:List α}(h:0<xs.length):eJ xs (-1)=xs[xs.length - 1]?:=by
 unfold eJ tP;rw[aB (by decide),aH Z1];show xs[((xs.length:Int) + -1).toNat]? = _;congr 1;omega
section
variable{P:Ad}{w:Af}{K:af}{mg:Str->Option Aa}{base:Heap}{CG CW T1 T2:Addr}
abbrev Xc:ae:=["_law_goods",wM,"_law_rule_here","_law_many","_law_stands","_law_now","_law_piece","_law_one","_law_other"]
theorem Ds:bq Xc o7 (aX NV):=bB
inductive JV (K:af) (CG CW T1 T2:Addr) (vs:ag) (H:Hp) (Q:VK) (E:XK):Prop
 |mk:∀(g p d:Addr) (many:Nat) (hs:Xa) (ts:Xb) (qs:aK) (fp:ai) (ns:ae) (f:ao),∀r∈rl,vs=[.ref g,.ref d,.str r.1,.int many]->many<=3000->Wo K CG CW H g p d hs ts qs fp ns f->Tb H T1 T2->(∀(ls:Addr) (ds:ai) (n:Nat) (H':Hp),BT T1 T2 H H'->Tb H' T1 T2->H ls=none->H' ls\.lst (ds.map V.ref)->ds.length=n+1->n<=many->(∀(j:Nat) (a:Addr),ds[j]? = some a->H a=none/\a≠ls/\H' a\.dK (bR ns (runM r hs ts qs f j)))->(∀j:Nat,j<n->eX r hs ts qs (runM r hs ts qs f j)=false)->(n=many∨eX r hs ts qs (runM r hs ts qs f n)=true)->Q (.ref ls) H')->JV K CG CW T1 T2 vs H Q E
theorem hs_{f0:Addr}{fd:Ae}(F:bf K "_law_walked" "_law_walked" NV f0 fd)(B:Bi mg)(uu:!aZ 10 "at_rest" uo (JG K CG CW T1 T2))(Dm:!aZ 9 "moves_of" o5 (J2 K CG CW T1 T2)):!aj a9 11 f0 fd o7 (JV K CG CW T1 T2):=by
 apply F.ok Ds (λvs H Q E h=>?_) (λaP A outer s H vs Q E hr h=>?_)
 ·let#[g,p,d,m,hs,ts,qs,fp,ns,f,r,bX,rfl,_]:=h;rfl
 let#[g,p,d,many,hs,ts,qs,fp,ns,f,r,bX,rfl,m3,O,tb,k]:=h;let sz:=bZ;let hu:=fV hr;refine' ⟨_,ax ?s1 ?r1,?kk⟩
 case s1=>exact bh 4 Ds.nd (dH %[hG Hg (by rfl) B.dict pS %[1|0]|0])
 case' r1=>refine' ax ?s2 (aA (aU (pv 4)))
 case' s2=>refine' Uo eE (PW.pt (pW ?w1 (uB ?w2))) (ax ?b1 (ax ?b2 (aA ?b3)))
 case w1=>exact bY pP (cc gc (by rfl) B.len fP %[4|0]) (pv 3)
 case w2=>exact dZ (di (aN uu hr %[0,bp dY (pv 4) (Bp BA ay),2|0]))
 case b1=>exact bh 5 Ds.nd (hG Hg (by rfl) B.dict pS %[bp dY (pv 4) (Bp BA ay)|0])
 case b2=>exact eR eE Z (dN (aN Dm hr %[0,5,2,bG yV (cc gc (by rfl) B.len fP %[4|0]) ay|0])) (mE Z (dB (cm 6 Ds.nd) (dB (cm 7 Ds.nd) (dB (cm 8 Ds.nd) jd)))) (aA (vq hu (pv 5) (pv 6) (pv 8) Z))
 case b3=>exact iE (iy ja xa xb vz (pv 4) %[5|0])
 let S:=O.S;let pm:=S.so.perm;apply#[_,Z,d,_,Z,.inl S.hd,λd0 n0=>?_];let#[s1,e1]:=bg (o:=.dK (bR ns f)) n0;show _/\_;generalize upd H d0 (.dK (bR ns f))=H1 at s1 e1 ⊢;apply#[zl,λls uX=>?_];let s2:=aa.new (o:=.lst [.ref d0]) uX;have UJ:upd H1 ls (.lst [.ref d0]) ls\.lst ([d0].map V.ref):=aq;let e2:=s2 _ _ e1;have d0l:d0≠ls:=bw e1 uX;show gz _ _ _ (upd H1 ls (.lst [.ref d0])) _;generalize upd H1 ls (.lst [.ref d0])=H2 at s2 UJ e2 ⊢;lk;let g5:=s1.trans s2;let Ru:=s1.free uX;have d7:Tb H2 T1 T2:=#[tb.a.same g5,tb.b.same g5,tb.ne]
 have SD:∀{G:Hp} {dp:Addr} {i:Nat},NT H G->H dp=none->G dp\.dK (bR ns (runM r hs ts qs f i))->o8 K CG CW G g p dp hs ts qs fp ns (runM r hs ts qs f i):=λ{G dp i} nt nd e=>by
  apply#[S.G.nt nt,λm=>?_,e,#[pm,λn hn=>(O.W.run r i).at_ n (pm.mem_iff.mp hn)],λb hb=>?_]
  ·let#[o,e',_]:=S.has _ m;rw[nd] at e';cases e'
  let#[o,e,q]:=S.has b hb;exact#[o,nt _ _ e q,q]
 have last:∀{ds:ai} {n:Nat} {dp:Addr},ds.length=n+1->ds[n]? = some dp->eJ (ds.map V.ref) (-1)\.ref dp:=λ{ds n dp} ld e=>by
  rw[Ux (by rw[au];omega),au,ld,Nat.add_sub_cancel,cY,e];rfl
 apply#[λm σ H'=>∃(i:Nat) (v5 v6 v7 v8:aI) (ds:ai),m=many+1 - i/\i<=many/\σ=[some (.ref g),some (.ref d),some (.str r.1),some (.int many),some (.ref ls),v5,v6,v7,v8]/\BT T1 T2 H H'/\Tb H' T1 T2/\H' ls\.lst (ds.map V.ref)/\ds.length=i+1/\(∀(j:Nat) (a:Addr),ds[j]? = some a->H a=none/\a≠ls/\H' a\.dK (bR ns (runM r hs ts qs f j)))/\∀j:Nat,j<i->eX r hs ts qs (runM r hs ts qs f j)=false,#[many+1,0,none,none,none,none,[d0],Z,by omega,Z,BT.of g5,d7,UJ,Z,λj a e=>?_,by omega],?_]
 ·match j,e with
  |0,e=>cases e;exact#[n0,d0l,e2]
 rintro m σ H3 ⟨i,v5,v6,v7,v8,ds,rfl,im,rfl,b3,c_,el,ld,da,no⟩;obtain⟨dp,Bj⟩:∃dp,ds[i]? = some dp:=#[_,bO Z1];let#[nd,dl,ed]:=da i dp Bj;have out:eX r hs ts qs (runM r hs ts qs f i)=true∨i=many->∀H4,BT T1 T2 H H4->Tb H4 T1 T2->NT H3 H4->Q (.ref ls) H4:=λc H4 b4 dm g6=>k ls ds i H4 b4 dm Ru (g6.lst el) ld im (λj a e=>#[(da j a e).1,(da j a e).2.1,g6.dK (da j a e).2.2]) no c.symm;apply#[_,Z,ls,_,Z,.inl (.of el),_,Z,_,_,Z,Z,_,Z,?_];apply aL (λc=>?_) (λc=>?_);rotate_left 1
 ·have c:¬((ds.map V.ref).length:Int)<=(many:Int):=⇑c
  rw[au] at c;exact aO #[_,Z,out (.inr Z1) H3 b3 c_ (NT.refl _)]
 have c:((ds.map V.ref).length:Int)<=(many:Int):=⇑c
 rw[au] at c;apply#[_,Z,_,Z,1,Z,ls,_,_,.ref dp,Z,Z,.inl (.inl el),last ld Bj,_,Z,?_];apply#[g,p,dp,hs,ts,qs,fp,ns,_,r,bX,Z,SD (b3.nt tb) nd ed,O.W.run r i,c_,λH4 b4 dm=>?_];let fZ:=b3.trans b4;let g6:=b4.nt c_;apply#[_,Z,aL (λc=>?_) (λc=>?_)];rotate_left 1
 ·have c:eX r hs ts qs (runM r hs ts qs f i)=true:=⇑c
  exact#[_,Z,out (.inl c) H4 fZ dm g6]
 have cr:eX r hs ts qs (runM r hs ts qs f i)=false:=⇑c
 clear out;apply#[_,λbu H' h=>h,?_];let Bf:=g6.lst el;let jZ:=g6.dK ed;apply#[_,Z,1,Z,ls,_,_,.ref dp,Z,Z,.inl (.inl Bf),last ld Bj,dp,_,Z,.inl jZ,λdn pF=>?_];let#[s5,e5]:=bg (o:=.dK (bR ns (runM r hs ts qs f i))) pF;show gz _ _ _ (upd H4 dn (.dK (bR ns (runM r hs ts qs f i)))) _;generalize upd H4 dn (.dK (bR ns (runM r hs ts qs f i)))=H5 at s5 e5 ⊢;lk;let xl:=fZ.trans (BT.of s5);have iN:Tb H5 T1 T2:=#[dm.a.same s5,dm.b.same s5,dm.ne];have Ey:NT H3 H5:=g6.trans (NT.of s5);let el5:=Ey.lst el
 have nn:H dn=none:=by
  cases z:H dn with
  |none=>rfl
  |some o=>
   by_cases y1:dn=T1
   ·let#[tv,hT]:=fD dm.a;rw[y1,hT] at pF;cases pF
   by_cases y2:dn=T2
   ·let#[tv,hT]:=fD dm.b;rw[y2,hT] at pF;cases pF
   rw[fZ _ _ z y1 y2] at pF;cases pF
 have Ol:dn≠ls:=(bw Bf pF).symm;have dnp:∀{j:Nat} {a:Addr},ds[j]? = some a->a≠dn:=λ{j a} e=>bw (g6.dK (da j a e).2.2) pF;apply#[_,Z,_,Z,_,Z,_,Z,ls,_,Z,.inl (.of el5),_,_,Z,Z,?_];rw[show ((ds.map V.ref).length:Int) - 1=(i:Int) by rw[au];omega];apply#[g,p,dn,(i:Int),hs,ts,qs,fp,ns,_,r,bX,Z,by omega,SD (xl.nt tb) nn e5,O.W.run r i,iN,λl ys H6 b6 zu nl hl tu=>?_];let b06:=xl.trans b6;let pA:=b6.nt iN;let Ex:=Ey.trans pA;let e6:=pA.dK e5;let el6:=Ex.lst el;have ldn:l≠dn:=cb hl e6 nofun;let ly:=bK tu;rw[au] at ly
 have Zv:ns.length<64:=by
  have:=pm.length_eq;rw[au] at this;have:=O.W.bS;omega
 apply#[l,Z,#[_,.of hl],hU (K:=K) (a:=l) (xs:=ys) (λj σ H'=>∃v6 v7 v8:aI,σ=[some (.ref g),some (.ref d),some (.str r.1),some (.int many),some (.ref ls),some (.ref dn),v6,v7,v8]/\aM dn H6 H'/\H' dn\.dK (bR ns (eD (runM r hs ts qs f i) ((iq r hs ts qs (runM r hs ts qs f i) i).take j)))) #[v6,v7,v8,Z,aM.refl _ _,e6] (λj σ H' _ ⟨_,_,_,_,b,_⟩=>.of (b _ _ hl ldn)) ?_ ?_]
 ·rintro j y σ H' hy ⟨v6,v7,v8,rfl,b',e'⟩;let#[x,hx,xx,rfl,oq]:=kU tu hy;let oq:=Ma oq;have DO:xx≠dn:=cb oq e6 nofun;apply#[xx,_,Z,.of (b' _ _ oq DO),Z,_,_,Z,_,_,Z,_,_,Z,Z,?_];dsimp only;apply#[_,Z,_,Z,_,Z,dn,_,Z,.k (k:=Sum.inr x.1) e' (by rw[je];omega),?_];apply#[_,_,_,Z,b'.trans aM.upd,?_];rw[aq,Og (pm.mem_iff.mpr (Ja (O.W.run r i) r i x (dC hx)).1),PP hx,OT]
 rintro σ H7 ⟨v6,v7,v8,rfl,b',e'⟩;rw[ly,eK] at e';have e':H7 dn\.dK (bR ns (runM r hs ts qs f (i+1))):=e';have kT:∀{T qn},cn H6 T qn->cn H7 T qn:=λ⟨es,a1,a2⟩=>#[es,b' _ _ a1 (λz=>by rw[z,e6] at a1;cases a1),λx hx=>b' _ _ (a2 x hx) (λz=>by have:=a2 x hx;rw[z,e6] at this;cases this)];have uR:Tb H7 T1 T2:=#[kT zu.a,kT zu.b,zu.ne];let Jl:=b' _ _ el6 Ol.symm;have Qf:BT T1 T2 H H7:=λb o e y1 y2=>b' _ _ (b06 b o e y1 y2) (bw e nn);apply#[_,Z,.inl #[Z,#[_,.of Jl]],_,Z,ls,_,_,Z,Z,Jl,by rw[au];omega,?_];have b8:aM ls H7 (upd H7 ls (.lst (ds.map V.ref++[.ref dn]))):=aM.upd
 have e8:upd H7 ls (.lst (ds.map V.ref++[.ref dn])) ls\.lst ((ds++[dn]).map V.ref):=by
  rw[aq,cj];rfl
 generalize upd H7 ls (.lst (ds.map V.ref++[.ref dn]))=H8 at b8 e8 ⊢;have RN:∀{T qn},cn H7 T qn->cn H8 T qn:=λ⟨es,a1,a2⟩=>#[es,b8 _ _ a1 (λz=>by rw[z,Jl] at a1;cases a1),λx hx=>b8 _ _ (a2 x hx) (λz=>by have:=a2 x hx;rw[z,Jl] at this;cases this)];apply#[many+1 - (i+1),by omega,i+1,_,_,_,_,ds++[dn],Z,by omega,Z,λb o e y1 y2=>b8 _ _ (Qf b o e y1 y2) (bw e Ru),#[RN uR.a,RN uR.b,uR.ne],e8,by rw[dM,ld];rfl,λj a e=>?_,λj hj=>?_]
 ·by_cases z:j<ds.length
  ·rw[zj z] at e;let#[x1,x2,x3]:=da j a e;exact#[x1,x2,b8 _ _ (b' _ _ (Ex.dK x3) (dnp e)) x2]
  rw[xp Z1] at e
  have ej:j=i+1:=by
   have:=(cq.mp e).1;simp only[zh] at this;omega
  subst ej;rw[ld,Nat.sub_self] at e;cases e;exact#[nn,Ol,b8 _ _ e' Ol]
 by_cases z:j<i
 ·exact no j z
 obtain rfl:j=i:=by omega
 exact cr
end
end Ev
namespace L2
open PySem PySem.Spec PyProof.Rows PySem.W kX jg
theorem OM{α β:Type}{f g:α->Option β}:∀{l:List α},(∀x∈l,f x=g x)->l.filterMap f=l.filterMap g
 |[],_=>rfl
 |a::l,h=>by rw[List.filterMap_cons,List.filterMap_cons,h a d9,OM λx hx=>h x (eL _ hx)]
theorem if_(its:ak):slicePick its.toArray none none (some (-1))=its.reverse.toArray:=by
 have key:((List.range its.length).map λk=>its[its.length - 1 - k]?)=its.reverse.map some:=by
  apply List.ext_getElem ?_ ?_
  ·simp
  intro i h1 h2;have hi:i<its.length:=⇑h1
  simp only[List.getElem_map,List.getElem_range,List.getElem_reverse];rw[bO Z1]
 have e:(sliceRange (sliceBounds none none (some (-1)) its.toArray.size).1 (sliceBounds none none (some (-1)) its.toArray.size).2.1 (sliceBounds none none (some (-1)) its.toArray.size).2.2).filterMap (its.toArray[·]?)=((List.range its.length).map λk=>its[its.length - 1 - k]?).filterMap id:=by
  have c:(if (((its.length:Nat):Int) - 1) > -1 then ((((its.length:Nat):Int) - 1) - -1 - -1 - 1) / (- -1) else 0).toNat=its.length:=by
   by_cases z:(((its.length:Nat):Int) - 1) > -1
   ·rw[aH z,show (- -1:Int)=1 by decide,Int.ediv_one];omega
   rw[aB z];omega
  show (((List.range (if (((its.length:Nat):Int) - 1) > -1 then ((((its.length:Nat):Int) - 1) - -1 - -1 - 1) / (- -1) else 0).toNat).map λ(k:Nat)=>((((its.length:Nat):Int) - 1) + -1 * (k:Int)).toNat)).filterMap (its.toArray[·]?)=_;rw[c,List.filterMap_map,List.filterMap_map];apply OM λk hk=>?_;have hk:k<its.length:=List.mem_range.mp hk;show its.toArray[((((its.length:Nat):Int) - 1) + -1 * (k:Int)).toNat]? = its[its.length - 1 - k]?;rw[List.getElem?_toArray];congr 1;omega
 unfold slicePick;rw[e,key,List.filterMap_map];congr 1;exact (OM λ_ _=>rfl).trans List.filterMap_some
section
variable{X:Cx}{e st:Expr}{te ts:TE}{pos p2:Pos}
def DV(K:af)(te ts:TE):TE:=λσ H Q=>te σ H λx H1=>ts σ H1 λy H2=>y=.int (-1)/\∃a xs,x=.ref a/\dJ K H2 a xs/\∀p,H2 p=none->Q (.ref p) (upd H2 p (.lst xs.reverse))
theorem Uu:∀{xs:ag} {us:ak},Vals xs us->Vals xs.reverse us.reverse
 |_,_,.nil=>.nil
 |_,_,.cons h t=>by
  rw[List.reverse_cons,List.reverse_cons];exact (Uu t).append (.cons h .nil)
theorem jF_(he:PE X e te)(hs:PE X st ts):PE X (.Subscript e (.Slice none none (some st) p2) pos) (DV X.K te ts):=by
 intro pins s σ H Q I h;apply Subscript_ (a_ (he pins s σ H _ I h) λv s1 ⟨x,H1,I1,r1,q1⟩=>?_);apply wpAny_Slice ?_;rw[evalPart_none];apply bA (bA ?_);rw[evalPart_some];apply a_ (hs pins s1 σ H1 _ I1 q1) λvs s3 ⟨y,H3,I3,ry,ey,a,xs,ex,hx,q⟩=>?_;subst ex ey;let#[t,rfl]:=ry;cases r1;have I4:Inv X pins σ H3 { s3 with heap:=s3.heap.push { cls:=.type "slice",data:=.fields (List.toArray [.none,.none,.int (-1) t]) } }:=I3.kept (t':=s3.toks) λb ob q=>ck _ q;let#[its,r,ht,hz]:=I4.list hx;let hlen:=r.length;show wpAny (model X.prog X.w) X.A (subscriptTail e (.Slice none none (some st) p2) (.ref a) (.ref s3.heap.objs.size)) (EP X pins σ Q) X.xe { s3 with heap:=s3.heap.push { cls:=.type "slice",data:=.fields (List.toArray [.none,.none,.int (-1) t]) } };apply tail_any (ops:=[.ref a,.ref s3.heap.objs.size]) ht.isList.typeIs slot_list_getitem.lookup (wpAny_getItem_list_slice ht.isList (Heap.IsSliceOf.new ..) .none .none (.int (-1) t) Z2 ?_ (by rw[cK]<;>omega)) (by with_unfolding_all rfl)
 rw[if_];apply#[.ref _,upd H3 _ (.lst xs.reverse),I4.laid (t':=s3.toks) (λb o e=>ck _ e) (bj _) ?_,Z,q _ (I4.aJ.fresh (bj _))];exact#[by rw[List.length_reverse];exact hz,_,0,Uu r,eQ _ Z]
end
section
variable{X:Cx}
end
end L2
namespace L2
open PySem PySem.Spec PyProof.Rows PySem.W kX jg
def Re(K:af){D:Type}(R:Rp D):Rp (List D):=λH x ds=>∃a xs,x=.ref a/\gE K H a xs/\Paired (R H) xs ds
section
variable{X:Cx}
theorem k1_{D:Type}[DecidableEq D]{ds es:List D}:((List.range (min ds.length es.length)).all (λj=>decide (ds[j]? = es[j]?))&&ds.length == es.length)=decide (ds=es):=by
 by_cases hl:ds.length=es.length
 ·rw[hl,Nat.min_self,<- hl,P7 hl];simp
 rw[d_ (λz=>hl (by rw[z])),show (ds.length == es.length)=false by rw[beq_eq_false_iff_ne];exact hl,xr]
end
end L2
namespace L2
open PySem PySem.Spec PyProof.Rows PySem.W kX jg
section
variable{X:Cx}
end
end L2
namespace L2
open PySem PySem.Spec PyProof.Rows PySem.W kX jg
def fK:V->Option Key
 |.bl b=>some (.inl (if b then 1 else 0))
 |.int i=>some (.inl i)
 |.str x=>some (.inr x)
 |_=>none
def rK:Rp Key:=λ_ x d=>fK x\d
theorem TC{α:Type}[BEq α][LawfulBEq α][DecidableEq α](a b:α):(a == b)=decide (a=b):=by
 by_cases h:a=b
 ·subst h;simp
 simp[h]
theorem ZV{x y:V}{d e:Key}(hx:fK x\d)(hy:fK y\e):mB x y=decide (d=e)/\uq x=true/\uq y=true:=by
 have il:∀a b:Int,(a == b)=decide ((Sum.inl a:Key)=Sum.inl b):=λa b=>(TC a b).trans (decide_eq_decide.mpr #[λh=>by rw[h],λh=>Sum.inl.inj h]);have ir:∀a b:Str,(a == b)=decide ((Sum.inr a:Key)=Sum.inr b):=λa b=>(TC a b).trans (decide_eq_decide.mpr #[λh=>by rw[h],λh=>g_ h]);cases x<;>cases hx<;>cases y<;>cases hy<;>apply#[?_,Z,Z]
 ·rename_i a b
  cases a<;>cases b<;>rfl
 ·exact il _ _
 ·rfl
 ·exact il _ _
 ·exact il _ _
 ·rfl
 ·rfl
 ·rfl
 exact ir _ _
section
variable{X:Cx}
theorem O_:p8 X 0 rK where
 eq:=λ{pins σ H s A x y u v d e} I ru rv hx hy hu=>by
  let#[e2,fx,fy]:=ZV hx hy;let q:=Gh (A:=A) (s:=s) ru rv fx fy;rwa [e2] at q
 one:=λ{pins σ H s x d e} I hx hy=>eF ((show fK x\d from hx).symm.trans hy)
end
end L2
namespace L2
open PySem PySem.Spec PyProof.Rows PySem.W kX jg
section
variable{X:Cx}
theorem kC_{n:Nat}{D:Type}[DecidableEq D]{R:Rp D}(c:p8 X n R)(hu:X.A.units+n+1<cLine):d6 X (compareOp .Eq) (vZ (Re X.K R) false):=by
 intro pins s σ H x y v u Q I rx ry h;let#[d,e,#[a,xs,rfl,t,q],#[b,ys,rfl,t',q'],hq]:=h;cases rx;cases ry;let#[us,r,pl,_]:=I.tuple t;let#[vs,r',tD,_]:=I.tuple t';let l1:=r.length;let l2:=r'.length;let l3:=bK q;let l4:=bK q';apply SeqAt.eq_tupleAt (Kc pl) (Kc tD) Z1 (OC c I r r' q q' (A:=X.A.in1) (by show X.A.units+1+n<cLine;omega)) #[.bl _,H,I,Z,?_];rw[show us.toArray.size=d.length by simp only[cK];omega,show vs.toArray.size=e.length by simp only[cK];omega,k1_];exact hq
def xW(K:af)(neg:Bool):V->V->Hp->VK->Prop:=λx y H Q=>vZ (Re K rK) neg x y H Q∨(x=.non/\y=.non/\Q (.bl (!neg)) H)
theorem jZ_(hu:X.A.units+1<cLine):d6 X (compareOp .Eq) (xW X.K false):=by
 intro pins s σ H x y v u Q I rx ry h;rcases h with h|⟨rfl,rfl,q⟩
 ·exact kC_ O_ Z1 pins s σ H x y v u Q I rx ry h
 exact gU pins s σ H .non .non v u Q I rx ry #[Z,q]
end
end L2
namespace Ev
open PySem L2
theorem Sf{K:af}{H H':Hp}{a:Addr}{xs:ag}(s:NT H H')(h:dJ K H a xs):dJ K H' a xs:=by
 rcases h with (h|⟨o,h⟩)|h
 ·exact .inl (.inl (s.lst h))
 ·exact .inl (.inr #[o,s _ _ h nofun])
 exact .inr h
theorem EG{D:Ends}{σ:St}{H:Hp}(h:D.nx σ H):xD D σ H:=h
theorem Tb.nt{H G:Hp}{T1 T2:Addr}(t:Tb H T1 T2)(s:aa H G):Tb G T1 T2:=#[t.a.same s,t.b.same s,t.ne]
theorem aM.same{l:Addr}{H0 H1 H2:Hp}(b:aM l H1 H2)(nl:H0 l=none)(s:aa H0 H1):aa H0 H2:=λc o e=>b _ _ (s _ _ e) (bw e nl)
section
variable{P:Ad}{w:Af}{K:af}{mg:Str->Option Aa}{base:Heap}{CG CW:Addr}
theorem vQ:bq vh vh (aX lN):=bB
inductive Dc (K:af) (CG CW:Addr) (vs:ag) (H:Hp) (Q:VK) (E:XK):Prop
 |mk:∀(g p d:Addr) (hs:Xa) (ts:Xb) (qs:aK) (fp:ai) (ns:ae) (f:ao),vs=[.ref g,.ref d]->o8 K CG CW H g p d hs ts qs fp ns f->Wd hs ts qs f->(∀H',aa H H'->Q (.int (hY hs qs f)) H')->Dc K CG CW vs H Q E
theorem id_{f:Addr}{fd:Ae}(F:bf K "sum_of" "sum_of" lN f fd)(cC:!aZ 2 "checked_stand" vh (GF K CG CW))(cL:!aZ 5 "sum_at" j7 (Ju K CG CW)):!aj a9 6 f fd vh (Dc K CG CW):=by
 exists F.bF vQ;let#[g,p,d,hs,ts,qs,fp,ns,f,rfl,S,W,k]:=h;apply#[_,aA (aU (aN cL hr %[0,aN cC hr %[0,1|0]|0])),?_];apply#[_,Z,_,Z,_,Z,g,p,d,hs,ts,qs,fp,ns,f,Z,S.G,S.i4,S.hd,S.so,W.nd,W.bS,λd1 H1 s1 n1 e1=>?_]
 exact#[g,p,d1,hs,ts,qs,fp,f,Z,#[S.G.same s1,W.Gd,λm=>(by
  let#[o,e,_]:=S.has _ m;rw[e] at n1;cases n1),e1,W.at_,W.nd,W.bS],W.wq,λH2 s2=>k H2 (s1.trans s2)]
end
end Ev
namespace jg
open PySem PySem.Spec PySem.Calls PyProof.Rows PySem.W
section
variable{prog:Ad}{w:Af}{A:Ag}
end
end jg
namespace L2
open PySem PySem.Spec PySem.Calls PyProof.Rows PySem.W jg
end L2
namespace Ev
open PySem L2
theorem _j{rs:List Xb}{t:Str × Str}(h:∀r∈rs,r.Pairwise λu v=>hit v u=false):∀r∈g8 rs t,r.Pairwise λu v=>hit v u=false:=by
 intro r hr;unfold g8 at hr;split at hr
 ·rename_i dz
  rcases List.mem_or_eq_of_mem_set hr with m|rfl
  ·exact h r m
  rw[List.pairwise_append];apply#[h _ (kQ dz),List.pairwise_singleton ..,λu hu v hv=>?_];obtain rfl:v=t:=⇑hv
  have:=@List.findIdx_getElem _ (λr:Xb=>!r.any (hit v)) rs dz;have this:(!(rs[fC rs v].any (hit v)))=true:=this;have this:rs[fC rs v].any (hit v)=false:=⇑this
  have:=List.any_eq_false.mp this u hu;simpa using this
 rcases eZ.mp hr with m|m
 ·exact h r m
 obtain rfl:r=[t]:=⇑m
 exact List.pairwise_singleton ..
theorem Uw:∀(ts:Xb) (rs:List Xb),(∀r∈rs,r.Pairwise λu v=>hit v u=false)->∀r∈ts.foldl g8 rs,r.Pairwise λu v=>hit v u=false
 |[],rs,h=>h
 |t::ts,rs,h=>by
  rw[List.foldl_cons];exact Uw ts _ (_j h)
theorem fM_(ts:Xb)(m:Int):(jt ts m).Pairwise λu v=>hit v u=false:=by
 unfold jt;cases e:(turnsOf (aQ ts))[(m % ((turnsOf (aQ ts)).length:Int)).toNat]? with
 |none=>exact .nil
 |some r=>exact Uw (aQ ts) [] Z2 r (dC e)
theorem Tx{gd:Str}{a b:Int}(h:pN gd a b=true)(hb:1<=b):0<a:=by
 unfold pN at h;split at h
 ·simpa using h
 split at h
 ·have:b<2 * a:=⇑h
  omega
 have:b<=a:=⇑h
 omega
section
variable{hs:Xa}{ts:Xb}{qs:aK}{f:ao}
theorem N4(W:Wd hs ts qs f)(hw:∀n∈qs.map (·.1),1<=hV qs n){gd a b:Str}(ha:a∈az hs)(hb:b∈az hs){m:Mv}(h:m∈gj hs ts qs f gd [] a b):m.2=(a,b)/\0<iB hs qs f a b:=by
 unfold gj at h;cases e:(eC qs f a).find? (qf hs ts qs f gd [] a b) with
 |none=>rw[e] at h;cases h
 |some n=>
  rw[e] at h;obtain rfl:m=(n,a,b):=⇑h
  apply#[Z,?_];let p:=List.find?_some e;unfold qf at p;let p:=(Bool.and_eq_true_iff.mp (Bool.and_eq_true_iff.mp p).2).1;let n1:=hw n (BH (List.mem_of_find?_eq_some e)).1;let h1:=yW W.Gd ha;let h2:=yW W.Gd hb;have j:1<=i9 hs a b:=by unfold i9;omega
  apply Tx p ?_;have:=Int.mul_le_mul n1 j (by decide) Z1;omega
theorem iG_(a b:Str):iB hs qs f b a=-(iB hs qs f a b):=by
 unfold iB;omega
theorem iT_(W:Wd hs ts qs f)(hw:∀n∈qs.map (·.1),1<=hV qs n){gd:Str}{u:Str × Str}(h1:u.1∈az hs)(h2:u.2∈az hs):pV hs ts qs f gd u=[]∨∃m:Mv,pV hs ts qs f gd u=[m]/\(m.2=u∨m.2=(u.2,u.1)):=by
 unfold pV;let l1:=qv hs ts qs f gd [] u.1 u.2;let l2:=qv hs ts qs f gd [] u.2 u.1;cases e1:gj hs ts qs f gd [] u.1 u.2 with
 |nil=>
  cases e2:gj hs ts qs f gd [] u.2 u.1 with
  |nil=>exact .inl Z
  |cons m r=>
   rw[e2,gB] at l2;obtain rfl:r=[]:=zi.mp Z1;exact .inr #[m,Z,.inr (N4 W hw h2 h1 (by rw[e2];exact d9)).1]
 |cons m r=>
  rw[e1,gB] at l1;obtain rfl:r=[]:=zi.mp Z1;let#[q1,q2]:=N4 W hw h1 h2 (show m∈gj hs ts qs f gd [] u.1 u.2 by rw[e1];exact d9);cases e2:gj hs ts qs f gd [] u.2 u.1 with
  |nil=>exact .inr #[m,Z,.inl q1]
  |cons m' r'=>
   let q3:=(N4 W hw h2 h1 (show m'∈gj hs ts qs f gd [] u.2 u.1 by rw[e2];exact d9)).2;rw[iG_] at q3;omega
def apart(m m':Mv):Prop:=m.2.1≠m'.2.1/\m.2.1≠m'.2.2/\m.2.2≠m'.2.1/\m.2.2≠m'.2.2
theorem V0(W:Wd hs ts qs f)(hw:∀n∈qs.map (·.1),1<=hV qs n){gd:Str}:∀{r:Xb},(∀u∈r,u.1∈az hs/\u.2∈az hs/\u.1≠u.2)->(r.Pairwise λu v=>hit v u=false)->(r.flatMap (pV hs ts qs f gd)).Pairwise apart/\∀m∈r.flatMap (pV hs ts qs f gd),m.2.1≠m.2.2/\∃u∈r,m.2=u∨m.2=(u.2,u.1)
 |[],_,_=>#[.nil,λm hm=>by cases hm]
 |u::r,qg,pw=>by
  let#[p1,p2]:=List.pairwise_cons.mp pw;let#[h1,h2,h3]:=qg u d9;let#[i1,i2]:=V0 W hw (gd:=gd) (λv hv=>qg v (eL _ hv)) p2;rw[List.flatMap_cons]
  have up:∀m∈r.flatMap (pV hs ts qs f gd),m.2.1≠m.2.2/\∃v∈u::r,m.2=v∨m.2=(v.2,v.1):=λm hm=>by
   let#[q1,v,hv,q2]:=i2 m hm;exact#[q1,v,eL _ hv,q2]
  rcases iT_ W hw (gd:=gd) h1 h2 with e|⟨m,e,hm⟩
  ·rw[e,List.nil_append];exact#[i1,up]
  rw[e,List.singleton_append,List.pairwise_cons];apply#[#[λm' hm'=>?_,i1],λm' hm'=>?_]
  ·let#[_,v,hv,q]:=i2 m' hm';let hh:=p1 v hv;unfold hit at hh;simp only[Bool.or_eq_false_iff,Bz] at hh;let#[#[a1,a2],a3,a4]:=hh;unfold apart;rcases hm with hm|hm<;>rcases q with q|q<;>rw[hm,q]
   ·exact#[a1,a3,a2,a4]
   ·exact#[a3,a1,a4,a2]
   ·exact#[a2,a4,a1,a3]
   exact#[a4,a2,a3,a1]
  rcases cw.mp hm' with rfl|hm'
  ·apply#[?_,u,d9,hm];rcases hm with hm|hm<;>rw[hm]
   ·exact h3
   exact λz=>h3 z.symm
  exact up m' hm'
theorem kR_{M:fg}(h:M.Pairwise apart)(hd:∀m∈M,m.2.1≠m.2.2):(M.map (·.2.1)++M.map (·.2.2)).Nodup:=by
 rw[ze];apply#[?_,?_,?_]
 ·rw[qE,pZ];exact h.imp λq=>q.1
 ·rw[qE,pZ];exact h.imp λq=>q.2.2.2
 intro x hx y hy;let#[m,hm,rfl]:=bH.mp hx;let#[m',hm',rfl]:=bH.mp hy
 have key:∀{L:fg},L.Pairwise apart->(∀m∈L,m.2.1≠m.2.2)->∀m∈L,∀m'∈L,m.2.1≠m'.2.2:=by
  intro L
  induction L with
  |nil=>intro _ _ m hm;cases hm
  |cons a l ih=>
   intro pw hd m hm m' hm';let#[p1,p2]:=List.pairwise_cons.mp pw;rcases cw.mp hm with e|hm1
   ·rcases cw.mp hm' with e'|hm1'
    ·rw[e,e'];exact hd _ d9
    rw[e];exact (p1 m' hm1').2.1
   rcases cw.mp hm' with e'|hm1'
   ·rw[e'];exact λz=>(p1 m hm1).2.2.1 z.symm
   exact ih p2 (λx hx=>hd x (eL _ hx)) m hm1 m' hm1'
 exact key h hd m hm m' hm'
theorem ZU(G:Good hs ts){u:Str × Str}(h:u∈aQ ts):u.1≠u.2:=by
 have k:kT u∈(aQ ts).map kT:=bH.mpr #[u,h,Z];rw[Hm,(kP _).mem_iff] at k;let#[t,ht,e]:=bH.mp k;let e:=C6 e;let ne:=(G.tok t ht).2.2;rw[<- e];unfold aR;split
 ·exact ne
 exact λz=>ne z.symm
theorem h2_(W:Wd hs ts qs f)(hw:∀n∈qs.map (·.1),1<=hV qs n)(gd:Str)(m:Int):((xf hs ts qs f gd m).map (·.2.1)++(xf hs ts qs f gd m).map (·.2.2)).Nodup:=by
 let#[h1,h2]:=V0 W hw (gd:=gd) (r:=jt ts m) (λu hu=>#[(GC W.Gd (Dr hu)).1,(GC W.Gd (Dr hu)).2,ZU W.Gd (Dr hu)]) (fM_ ts m);exact kR_ h1 λm hm=>(h2 m hm).1
end
end Ev
namespace Ev
open PySem L2
section
variable{hs:Xa}{ts:Xb}{qs:aK}{f:ao}
structure Km (hs:Xa) (ts:Xb) (qs:aK) (f:ao) (m:Mv):Prop where
 n:m.1∈qs.map (·.1)
 a:f m.1=m.2.1
 may:mj hs ts qs m.1 m.2.1 m.2.2=true
 ld:0<iB hs qs f m.2.1 m.2.2
theorem IB(W:Wd hs ts qs f)(hw:∀n∈qs.map (·.1),1<=hV qs n){gd a b:Str}{gv:ae}(ha:a∈az hs)(hb:b∈az hs){m:Mv}(h:m∈gj hs ts qs f gd gv a b):m.2=(a,b)/\m.1∉gv/\Km hs ts qs f m:=by
 unfold gj at h;split at h
 ·rename_i n e
  let hm:=List.mem_singleton.mp h;let hp:=List.find?_some e;let hn:=List.mem_of_find?_eq_some e;let#[n1,n2]:=BH hn;unfold qf at hp;simp only[xn,Bool.not_eq_true',Bz] at hp;let#[h1,h2,h3]:=hp;subst hm;apply#[Z,h1,#[n1,n2,h3,Tx h2 ?_]];let w1:=hw n n1;let s1:=(yW W.Gd ha).1;let s2:=(yW W.Gd hb).1;unfold i9;have:1 * 1<=hV qs n * (strOf hs a+strOf hs b):=Int.mul_le_mul w1 Z1 (by decide) Z1;omega
 cases h
theorem Se{α β:Type}{l:List α}(g:α->β)(h:(l.map g).Nodup):l.Nodup:=(pZ.mp h).imp λq e=>q (by rw[e])
theorem Iq{α:Type}{l:List α}(h:l.length<=1):l.Nodup:=by
 match l,h with
 |[],_=>simp
 |[a],_=>simp
structure gr (hs:Xa) (ts:Xb) (qs:aK) (f:ao) (h:Str) (ms:fg):Prop where
 fr:∀m∈ms,m.2.1=h/\Km hs ts qs f m
 nd:(ms.map (·.1)).Nodup
theorem jY_(W:Wd hs ts qs f)(a:Str):(eC qs f a).Nodup:=((Gx qs).nodup_iff.mpr W.nd).filter _
theorem Ts{h:Str}{ms ns:fg}(A:gr hs ts qs f h ms)(B:gr hs ts qs f h ns)(d:∀m∈ns,m.1∉ms.map (·.1)):gr hs ts qs f h (ms++ns):=#[λm hm=>(eZ.mp hm).elim (A.fr m) (B.fr m),by
 rw[cj];apply ze.mpr #[A.nd,B.nd,λx hx y hy e=>?_];let#[m,hm,rfl]:=bH.mp hy;exact d m hm (e▸hx)]
theorem Ta(W:Wd hs ts qs f)(hw:∀n∈qs.map (·.1),1<=hV qs n){gd a b:Str}{gv:ae}(ha:a∈az hs)(hb:b∈az hs):gr hs ts qs f a (gj hs ts qs f gd gv a b):=#[λm hm=>by
 let#[e,_,g]:=IB W hw ha hb hm;exact#[by rw[e],g],Iq (by rw[au];exact qv ..)]
theorem Nk(W:Wd hs ts qs f)(hw:∀n∈qs.map (·.1),1<=hV qs n){gd h:Str}(hh:h∈az hs):∀{l:ae} {ms:fg},(∀o∈l,o∈az hs)->l.Nodup->gr hs ts qs f h ms->(ms.map (·.2)).Nodup->(∀m∈ms,m.2.2∉l)->gr hs ts qs f h (oJ hs ts qs f gd h ms l)/\((oJ hs ts qs f gd h ms l).map (·.2)).Nodup
 |[],ms,_,_,R,nd,_=>#[R,nd]
 |o::l,ms,hl,nl,R,nd,dj=>by
  unfold oJ;let#[no,nl]:=mL.mp nl;split
  ·let ho:=hl o Z2;let g:=λm hm=>IB (gd:=gd) (gv:=ms.map (·.1)) W hw hh ho (m:=m) hm;apply Nk W hw hh (λx hx=>hl x (by simp[hx])) nl (Ts R (Ta W hw hh ho) λm hm=>(g m hm).2.1) ?_ λm hm=>?_
   ·rw[cj];apply ze.mpr #[nd,?_,λx hx y hy e=>?_]
    ·exact Iq (by rw[au];exact qv ..)
    let#[m,hm,rfl]:=bH.mp hy;let#[m',hm',rfl]:=bH.mp hx;apply dj m' hm' ?_;rw[e,(g m hm).1];simp
   rcases eZ.mp hm with z|z
   ·exact λq=>dj m z (by simp[q])
   rw[(g m z).1];exact no
  exact Nk W hw hh (λx hx=>hl x (by simp[hx])) nl R nd λm hm q=>dj m hm (by simp[q])
theorem M6(wt:Str->Int)(ok:Str->Bool):∀(l:Int) (ns:ae),∀n∈rJ wt ok l ns,ok n=true
 |_,[],n,h=>by cases h
 |l,x::ns,n,h=>by
  unfold rJ at h;split at h
  ·rename_i c
   rcases cw.mp h with z|z
   ·rw[z];simp only[xn] at c;exact c.1
   exact M6 wt ok _ ns n z
  exact M6 wt ok l ns n h
theorem Nq(W:Wd hs ts qs f){h:Str}:∀{l:ae} {ms:fg},gr hs ts qs f h ms->gr hs ts qs f h (pO hs ts qs f h ms l)
 |[],ms,R=>R
 |o::l,ms,R=>by
  unfold pO;split
  ·rename_i ld
   have key:∀m∈uS hs ts qs f (ms.map (·.1)) h o,∃n∈eC qs f h,m=(n,h,o)/\gg hs ts qs (ms.map (·.1)) h o n=true:=λm hm=>by
    let#[n,hn,rfl]:=bH.mp hm;exact#[n,(C8 _ _ _ _).subset hn,Z,M6 _ _ _ _ n hn]
   apply Nq W (Ts R #[λm hm=>?_,?_] λm hm=>?_)
   ·let#[n,hn,rfl,ok]:=key m hm;let#[n1,n2]:=BH hn;unfold gg at ok;simp only[xn] at ok;exact#[Z,n1,n2,ok.2,ld]
   ·unfold uS;rw[cg];show ((Ec hs ts qs f (ms.map (·.1)) h o).map λn=>n).Nodup;rw[List.map_id'];exact (jY_ W h).sublist (C8 _ _ _ _)
   let#[n,hn,rfl,ok]:=key m hm;unfold gg at ok;simp only[xn,Bool.not_eq_true',Bz] at ok;exact ok.1
  exact Nq W R
theorem hm_:∀r∈rl,r.2.1="turns"->¬r.2.2.1="one":=by decide +kernel
theorem JL{β γ:Type}{g:Str->List β}{k:β->γ}:∀{L:ae},L.Nodup->(∀h∈L,((g h).map k).Nodup)->(∀h∈L,∀h'∈L,h≠h'->∀x∈g h,∀y∈g h',k x≠k y)->((L.flatMap g).map k).Nodup
 |[],_,_,_=>by simp
 |h::L,nd,a,b=>by
  let#[n1,n2]:=mL.mp nd;rw[List.flatMap_cons,cj];apply ze.mpr #[a h Z2,JL n2 (λx hx=>a x (by simp[hx])) (λx hx y hy=>b x (by simp[hx]) y (by simp[hy])),λx hx y hy e=>?_];let#[m,hm,rfl]:=bH.mp hx;let#[m',hm',rfl]:=bH.mp hy;let#[h',t_,hm']:=List.mem_flatMap.mp hm';exact b h Z2 h' (by simp[t_]) (λz=>n1 (z▸t_)) m hm m' hm' e
structure CO (r:Rl) (hs:Xa) (ts:Xb) (qs:aK) (f:ao) (M:fg):Prop where
 all:∀m∈M,Km hs ts qs f m
 nd:(M.map (·.1)).Nodup
 pr:r.2.1≠"shares"->(M.map (·.2)).Nodup
 gv:r.2.1="least"->(M.map (·.2.1)).Nodup
theorem CO.sub{r:Rl}{M N:fg}(h:CO r hs ts qs f M)(s:N.Sublist M):CO r hs ts qs f N:=#[λm hm=>h.all m (s.subset hm),h.nd.sublist (s.map _),λe=>(h.pr e).sublist (s.map _),λe=>(h.gv e).sublist (s.map _)]
theorem Oa{r:Rl}(W:Wd hs ts qs f){g:Str->fg}(R:∀h∈az hs,gr hs ts qs f h (g h))(p:r.2.1≠"shares"->∀h∈az hs,((g h).map (·.2)).Nodup)(o:r.2.1="least"->∀h∈az hs,(g h).length<=1):CO r hs ts qs f ((az hs).flatMap g):=by
 let nn:=W.Gd.pB;apply#[λm hm=>?_,JL nn (λh hh=>(R h hh).nd) λh hh h' t_ ne x hx y hy e=>?_,λe=>JL nn (p e) λh hh h' t_ ne x hx y hy e=>?_,λe=>JL nn (λh hh=>Iq (by rw[au];exact o e h hh)) λh hh h' t_ ne x hx y hy e=>?_]
 ·let#[h,hh,hm]:=List.mem_flatMap.mp hm;exact ((R h hh).fr m hm).2
 ·let#[a1,a2]:=(R h hh).fr x hx;let#[b1,b2]:=(R h' t_).fr y hy;exact ne (by rw[<- a1,<- b1,<- a2.a,<- b2.a,e])
 ·exact ne (by rw[<- ((R h hh).fr x hx).1,<- ((R h' t_).fr y hy).1,e])
 exact ne (by rw[<- ((R h hh).fr x hx).1,<- ((R h' t_).fr y hy).1];exact e)
theorem Sd(W:Wd hs ts qs f)(hw:∀n∈qs.map (·.1),1<=hV qs n){gd:Str}{m:Int}{x:Mv}(h:x∈xf hs ts qs f gd m):Km hs ts qs f x:=by
 let#[t,ht,hx]:=List.mem_flatMap.mp h;let#[t1,t2]:=GC W.Gd (Dr ht);unfold pV at hx;rcases eZ.mp hx with z|z
 ·exact (IB W hw t1 t2 z).2.2
 exact (IB W hw t2 t1 z).2.2
theorem kT_{r:Rl}(hr:r∈rl)(W:Wd hs ts qs f)(hw:∀n∈qs.map (·.1),1<=hV qs n)(m:Int):CO r hs ts qs f (iq r hs ts qs f m)/\(r.2.2.1="one"->(iq r hs ts qs f m).length<2):=by
 have Cb:∀{h},h∈az hs->(∀o∈dh hs ts qs f h,o∈az hs)/\(dh hs ts qs f h).Nodup:=λ{h} hh=>#[λo ho=>Bn ((Dq hs ts qs f h).mem_iff.mp ho),(Dq hs ts qs f h).nodup_iff.mpr (W.Gd.pB.filter _)];unfold iq;by_cases c:r.2.1="turns"
 ·rw[aH c];let nd:=h2_ W hw (r.2.2.2.getD "") m;let n1:=(ze.mp nd).1;apply#[#[λx hx=>Sd W hw hx,?_,λ_=>?_,λ_=>n1],λz=>absurd z ?_]
  ·apply Se f ?_;rw[cg,show (xf hs ts qs f (r.2.2.2.getD "") m).map (f ∘ λx=>x.1)=(xf hs ts qs f (r.2.2.2.getD "") m).map (·.2.1) from uF λx hx=>(Sd W hw hx).a];exact n1
  ·apply Se (·.1) ?_;rw[cg];exact n1
  exact hm_ r hr c
 rw[aB c]
 have full:CO r hs ts qs f ((az hs).flatMap (kI r hs ts qs f)):=by
  by_cases c1:r.2.1="least"
  ·have key:∀h∈az hs,gr hs ts qs f h (kI r hs ts qs f h)/\(kI r hs ts qs f h).length<=1:=λh hh=>by
    rw[UV c1];show gr hs ts qs f h (vx hs ts qs f (r.2.2.2.getD "") h)/\(vx hs ts qs f (r.2.2.2.getD "") h).length<=1;unfold vx;have:=(Cb hh).1;split
    ·exact#[#[λm hm=>(by cases hm),by simp],by simp]
    rename_i o _ e
    rw[e] at this;exact#[Ta W hw hh (this o Z2),qv ..]
   exact Oa W (λh hh=>(key h hh).1) (λ_ h hh=>Iq (by rw[au];exact (key h hh).2)) λ_ h hh=>(key h hh).2
  by_cases c2:r.2.1="below"
  ·have key:∀h∈az hs,gr hs ts qs f h (kI r hs ts qs f h)/\((kI r hs ts qs f h).map (·.2)).Nodup:=λh hh=>by
    rw[Vy c2];exact Nk W hw hh (Cb hh).1 (Cb hh).2 #[λm hm=>(by cases hm),by simp] Z2 λm hm=>by cases hm
   exact Oa W (λh hh=>(key h hh).1) (λ_ h hh=>(key h hh).2) λz=>absurd z c1
  let c3:=TL r hr c c1 c2;apply Oa W (λh hh=>?_) (λz=>absurd c3 z) λz=>absurd z c1;rw[Vi c3];exact Nq W #[λm hm=>(by cases hm),by simp]
 unfold C1;by_cases c4:r.2.2.1="one"
 ·rw[aH c4];exact#[full.sub (List.take_sublist _ _),λ_=>by rw[cX];omega]
 rw[aB c4];exact#[full,λz=>absurd z c4]
end
end Ev
namespace Ev
open PySem L2
theorem Uh{n:Str}:∀{M:fg} {f:ao},n∉M.map (·.1)->eD f M n=f n
 |[],_,_=>rfl
 |m::M,f,h=>by
  have h:¬(n=m.1∨n∈M.map (·.1)):=⇑h
  show eD (h9 f m) M n=f n;rw[Uh (λz=>h (.inr z))];unfold h9;rw[aB (λz=>h (.inl z))]
theorem Sx{x:Mv}:∀{M:fg} {f:ao},(M.map (·.1)).Nodup->x∈M->eD f M x.1=x.2.2
 |m::M,f,nd,h=>by
  let#[n1,n2]:=mL.mp nd;show eD (h9 f m) M x.1=_;rcases cw.mp h with rfl|h
  ·rw[Uh n1];unfold h9;rw[aH Z]
  exact Sx n2 h
section
variable{hs:Xa}{ts:Xb}{qs:aK}{f:ao}
theorem _c(W:Wd hs ts qs f)(w1:∀q∈qs,1<=q.2.1):∀n∈qs.map (·.1),1<=hV qs n:=λn hn=>by
 let#[q,hq,rfl]:=bH.mp hn;rw[IA W.nd hq];exact w1 q hq
theorem _w{r:Rl}(hr:r∈rl)(W:Wd hs ts qs f)(w1:∀q∈qs,1<=q.2.1)(k:Nat):By r hs ts qs f k=!(iq r hs ts qs (runM r hs ts qs f k) k).isEmpty:=by
 let Wk:=W.run r k;let#[M,_]:=kT_ hr Wk (_c W w1) k;have e:runM r hs ts qs f (k+1)=eD (runM r hs ts qs f k) (iq r hs ts qs (runM r hs ts qs f k) k):=rfl;unfold By;rw[e];generalize iq r hs ts qs (runM r hs ts qs f k) k=ms at M;generalize runM r hs ts qs f k=g at M;cases ms with
 |nil=>
  rw[show ((qs.map (·.1)).all λn=>decide (eD g [] n=g n))=true from List.all_eq_true.mpr λn _=>b_ Z];rfl
 |cons m ms=>
  let g1:=M.all m d9;let e1:=Sx (f:=g) M.nd d9
  have ne:eD g (m::ms) m.1≠g m.1:=λz=>by
   rw[e1,g1.a] at z;let ld:=g1.ld;rw[z] at ld;unfold iB at ld;omega
  rw[show ((qs.map (·.1)).all λn=>decide (eD g (m::ms) n=g n))=false from List.all_eq_false.mpr #[m.1,g1.n,by simpa using ne]];rfl
end
def gT(r:Rl)(hs:Xa)(ts:Xb)(qs:aK)(f:ao)(ss:List Int)(k:Nat):Option (Option Str):=
 if ss[k]? = some (hY hs qs (runM r hs ts qs f k)) then
  if eX r hs ts qs (runM r hs ts qs f k)=true then (if k+1<ss.length then some (some "rests") else some none)
  else if k+1<ss.length then (if By r hs ts qs f k=true/\ss.getD k 0<=ss.getD (k+1) 0 then some (some "rise") else none)
  else some (some "goes")
 else some (some "sum")
def VM(v:V)(H:Hp)(w:Option Str)(k:Nat):Prop:=(w=none/\v=.non)∨∃(x:Str) (t:Addr),w\x/\v=.ref t/\H t\.tup [.str x,.int k]
theorem VM.same{v:V}{H H':Hp}{w:Option Str}{k:Nat}(h:VM v H w k)(s:NT H H'):VM v H' w k:=h.imp id λ⟨x,t,e,e2,ht⟩=>#[x,t,e,e2,s.tup ht]
def I0(r:Rl)(hs:Xa)(ts:Xb)(qs:aK)(f:ao)(ss:List Int)(v:V)(H:Hp):Prop:=∃(k:Nat) (w:Option Str),k<ss.length/\(∀j:Nat,j<k->gT r hs ts qs f ss j=none)/\gT r hs ts qs f ss k\w/\VM v H w k
section
variable{r:Rl}{hs:Xa}{ts:Xb}{qs:aK}{f:ao}{ss:List Int}{v v':V}{H H':Hp}
theorem vp{k:Nat}{x:Int}(h:ss[k]? = some x):ss.getD k 0=x:=by rw[List.getD_eq_getElem?_getD,h];rfl
theorem RM{k:Nat}(h:k+1<ss.length):(∃x y:Int,ss[k]? = some x/\ss[k+1]? = some y/\x<=y) ↔ ss.getD k 0<=ss.getD (k+1) 0:=by
 have e1:ss[k]? = some (ss[k]' Z1):=bO Z1;have e2:ss[k+1]? = some (ss[k+1]'h):=bO h;rw[vp e1,vp e2];constructor
 ·rintro⟨x,y,h1,h2,h3⟩;rw[e1] at h1;rw[e2] at h2;cases h1;cases h2;exact h3
 exact λh3=>#[_,_,e1,e2,h3]
theorem jE_{k:Nat}(hk:k+1<ss.length)(h:Cd r hs ts qs f ss k):gT r hs ts qs f ss k=none:=by
 let#[h1,h2,h3]:=h;unfold gT;rw[aH h1,aB (by rw[h2];decide),aH hk,aB λ⟨a,b⟩=>h3 #[a,(RM hk).mpr b]]
theorem Z5(h:Nh r hs ts qs f ss v H):I0 r hs ts qs f ss v H:=by
 let#[k,hk,al,h]:=h;have al:∀j,j<k->gT r hs ts qs f ss j=none:=λj hj=>jE_ Z1 (al j hj);rcases h with⟨t,h1,rfl,ht⟩|⟨h1,h2,h3,t,rfl,ht⟩|⟨h1,h2,h3,h4,h5,t,rfl,ht⟩|⟨h1,h2,⟨h3,rfl⟩|⟨h3,t,rfl,ht⟩⟩
 ·exact#[k,some "sum",hk,al,by unfold gT;rw[aB h1],.inr #[_,t,Z,Z,ht]]
 ·exact#[k,some "rests",hk,al,by unfold gT;rw[aH h1,aH h2,aH h3],.inr #[_,t,Z,Z,ht]]
 ·exact#[k,some "rise",hk,al,by unfold gT;rw[aH h1,aB (by rw[h2];decide),aH h3,aH #[h4,(RM h3).mp h5]],.inr #[_,t,Z,Z,ht]]
 ·exact#[k,none,hk,al,by unfold gT;rw[aH h2,aH h3,aB Z1],.inl #[Z,Z]]
 exact#[k,some "goes",hk,al,by unfold gT;rw[aH h2,aB (by rw[h3];decide),aB Z1],.inr #[_,t,Z,Z,ht]]
theorem ZP(a:I0 r hs ts qs f ss v H)(b:I0 r hs ts qs f ss v' H'):∃w k,VM v H w k/\VM v' H' w k:=by
 let#[k,w,_,al,e,m]:=a;let#[k',w',_,Kl,e',m']:=b
 have:k=k':=by
  rcases Nat.lt_trichotomy k k' with z|z|z
  ·rw[Kl k z] at e;cases e
  ·exact z
  rw[al k' z] at e';cases e'
 subst this;rw[e] at e';cases e';exact#[w,k,m,m']
theorem Z6{K:af}{Q:VK}{w:Option Str}{k:Nat}{neg:Bool}(a:VM v H w k)(b:VM v' H w k)(q:Q (.bl (!neg)) H):xW K neg v v' H Q:=by
 rcases a with⟨e,rfl⟩|⟨x,t,e,rfl,ht⟩
 ·rcases b with⟨_,rfl⟩|⟨x,t,e',_⟩
  ·exact .inr #[Z,Z,q]
  rw[e] at e';cases e'
 rcases b with⟨e',_⟩|⟨x',t',e',rfl,jk⟩
 ·rw[e] at e';cases e'
 rw[e] at e';cases e';exact .inl #[[.inr x,.inl k],[.inr x,.inl k],#[t,_,Z,.of ht,.cons Z (.cons Z .nil)],#[t',_,Z,.of jk,.cons Z (.cons Z .nil)],by cases neg<;>simpa using q]
end
end Ev
namespace Ev
open PySem L2
theorem TF(ss:List Int)(k:Nat)(y:Int):(ss.map V.int).take k++V.int y::(ss.map V.int).drop k=(ss.take k++y::ss.drop k).map V.int:=by rw[cj,fE,List.map_take,List.map_drop]
theorem TR(ss:List Int)(k:Nat):(ss.map V.int).eraseIdx k=(ss.eraseIdx k).map V.int:=by rw[List.eraseIdx_eq_take_drop_succ,List.eraseIdx_eq_take_drop_succ,cj,List.map_take,List.map_drop]
theorem Ku{F T:Prop}(h:F->T)(f:F):T:=h f
section v
theorem BR:bq [fo,"_law_numbers","_law_place","_law_way","_law_found"] oZ (aX OI):=bB
def Pn:Sp:=λvs H Q _=>∃(l ln:Addr) (ss:List Int),vs=[.ref l,.ref ln]/\bU H l/\H ln\.lst (ss.map V.int)/\ln≠l/\1<=ss.length/\ss.length<=1000/\∀(q:Addr) (iQ:List Int) (H':Hp),aM l H H'->bU H' l->H q=none->q≠l->H' q\.lst (iQ.map V.int)->1<=iQ.length->iQ.length<=ss.length+1->Q (.ref q) H'
theorem fE_{f0:Addr}{fd:Ae}(F:bf K "_law_changed" "_law_changed" OI f0 fd)(B:Bi mg)(cD:!aZ 1 qu uy vy):!aj a9 2 f0 fd oZ Pn:=by
 exists F.bF BR;let#[l,ln,ss,rfl,st,hn,nl,l1,l2,k]:=h;let sz:=bZ;refine' #[_,?c0,?kk]
 case' c0=>refine' ax ?s1 ?c1
 case' c1=>refine' ax ?s2 ?c2
 case' c2=>refine' ax ?s3 ?c3
 case' c3=>refine' ax ?s4 (aA (aU (pv 4)))
 case s1=>exact bh 2 BR.nd (aN cD hr %[0,cc gc (by rfl) B.len fP %[1|0]|0])
 case s2=>exact bh 3 BR.nd (aN cD hr %[0,ay|0])
 case s3=>exact bh 4 BR.nd (hG J_ (by rfl) B.list uA %[1|0])
 case' s4=>refine' bx (bY Iw (pv 3) ay) (aA ?b0) (aA ?e0)
 case' e0=>refine' bx (bY gU (pv 3) ay) (aA ?b1) (aA ?e1)
 case' e1=>refine' bx (PW.pt (pW (bY gU (pv 3) ay) (uB (bY yH (cc gc (by rfl) B.len fP %[4|0]) ay)))) (aA ?b2) (aA ?e2)
 case' e2=>refine' bx (bY gU (pv 3) ay) (aA ?b3) (aA ?e3)
 case' e3=>refine' bx (bY gU (pv 3) ay) (aA ?b4) (aA ?e4)
 case' e4=>refine' bx (bY gU (pv 3) ay) (aA ?b5) (aA ?b6)
 case b0=>exact Bx (bG fO (bp dY (pv 4) (pv 2)) (bp dY (dH %[ay,Bp BA ay,bG yV (aN cD hr %[0,ay|0]) ay|0]) (pv 3))) (Jg (pv 4) (pv 2) JW)
 case b1=>exact iE (iy ja PySem.F.slot_list_insert PySem.F.type_list_insert Vz (pv 4) %[2,bp dY (pv 4) (pv 2)|0])
 case b2=>exact iE (iy ja PySem.F.slot_list_pop PySem.F.type_list_pop TX (pv 4) %[2|0])
 case b3=>exact iE (iy ja PySem.F.slot_list_insert PySem.F.type_list_insert Vz (pv 4) %[aN cD hr %[0,cc gc (by rfl) B.len fP %[4|0]|0],iy ja PySem.F.slot_list_pop PySem.F.type_list_pop TX (pv 4) %[2|0]|0])
 case b4=>exact bh 4 BR.nd (bG yX (pv 4) (dH %[bG yV (bp dY (pv 4) (Bp BA ay)) (aN cD hr %[0,ay|0])|0]))
 case b5=>exact bh 4 BR.nd (qA qy (pv 4) qw (qx (bG fO (pv 2) ay)))
 case b6=>exact bh 4 BR.nd (jF_ (pv 4) (Bp BA ay))
 apply#[_,Z,_,Z,ln,_,Z,.inl (.of hn),l,_,Z,by rw[au];omega,by rw[au];omega,st,λp H1 p0 p1 b1 fb=>?_];let#[p,rfl]:=p5 p0;have hp:p<ss.length:=by rw[au] at p1;omega
 lk;apply#[_,Z,l,9,Z,by decide,by decide,fb,λy H2 y0 y1 b2 dE=>?_];let#[y,rfl]:=p5 y0;lk;let Dx:=b1.trans b2;apply#[_,Z,ln,_,Z,.inl (.of (Dx _ _ hn nl)),λq nq=>?_];let#[s3,e3]:=bg (o:=.lst (ss.map V.int)) nq;let f_:=Dx.trans (aM.of s3);let dR:=dE.same s3;let Rr:=Dx.free dE nq;have ql:q≠l:=dE.ne nq;generalize upd H2 q (.lst (ss.map V.int))=H3 at s3 e3 f_ dR ⊢;lk;apply iR (λσ H'=>∃(q:Addr) (iQ:List Int),aM l H H'/\bU H' l/\H q=none/\q≠l/\H' q\.lst (iQ.map V.int)/\1<=iQ.length/\iQ.length<=ss.length+1/\σ=[some (.ref l),some (.ref ln),some (.int p),some (.int y),some (.ref q)]) ?m2 (λN1 iw=>?m1)
 case m2=>
  rintro σ H' ⟨q,iQ,b,eV,n0,ne,e,h1,h2,rfl⟩;exact#[_,Z,k q iQ H' b eV n0 ne e h1 h2]
 have We:eJ (ss.map V.int) (p:Int)\.int (ss[p]'hp):=L2.fq (by rw[cY,bO hp];rfl);have Sg:tP (ss.map V.int).length (p:Int)\p:=by unfold tP;rw[au,aH Z1,aH Z1,mN]
 have fin:∀{H':Hp} (iQ:List Int),aM l H H'->bU H' l->1<=iQ.length->iQ.length<=ss.length+1->N1 [some (.ref l),some (.ref ln),some (.int p),some (.int y),some (.ref q)] (upd H' q (.lst (iQ.map V.int))):=λiQ b eV h1 h2=>iw _ _ #[q,iQ,b.snd Rr,NI eV ql,Rr,ql,aq,h1,h2,Z];apply#[_,Z,_,_,Z,Z,_,Z,aL (λc0=>?_) (λc0=>?_)]
 ·have c0:(y:Int)<3:=⇑c0
  apply#[_,Z,_,Z,q,_,_,_,Z,Z,.of e3,We,?_];apply#[_,Z,_,Z,l,1000,Z,by decide,by decide,dR,λz H4 z0 z1 b4 dS=>?_];apply#[_,_,Z,Z,zl,λa na=>?_];let e4:=b4 _ _ e3 ql
  obtain⟨x,hx⟩:∃x:Int,eJ [V.int 1,.int (-1),.int (z - 500)] (y:Int)\.int x:=by
   obtain rfl|rfl|rfl:y=0∨y=1∨y=2:=by omega
   ·exact#[_,Z]
   ·exact#[_,Z]
   exact#[_,Z]
  apply#[_,Z,a,_,_,_,Z,Z,.of aq,hx,_,_,Z,Z,?_];apply#[_,Z,_,Z,q,_,_,p,Z,Z,(aa.new na) _ _ e4,Sg,?_];have:=fin (H':=upd H4 a (.lst [V.int 1,.int (-1),.int (z - 500)])) (ss.set p (ss[p]'hp+x)) ((f_.trans b4).trans (aM.of (aa.new na))) (dS.same (aa.new na)) (by rw[List.length_set];omega) (by rw[List.length_set];omega);rw[List.map_set] at this;exact this
 apply#[_,Z,Z,_,Z,aL (λc1=>?_) (λc1=>?_)]
 ·apply#[_,Z,.inl #[Z,_,.of e3],_,Z,_,Z,_,Z,q,_,_,_,Z,Z,.of e3,We,q,p,_,_,Z,Z,e3,by rw[au];omega,by rw[au];omega,?_];rw[TF];exact fin _ f_ dR (by rw[dM,gB];omega) (by rw[dM,gB,cX,pY];omega)
 let sq:=(Nl Sg).1;have gp:(ss.map V.int)[p]? = some (.int (ss[p]'hp)):=by rw[cY,bO hp];rfl
 have le:(ss.eraseIdx p).length=ss.length - 1:=by rw[List.length_eraseIdx,aH hp]
 refine' Ku (λhF=>?mn) ?ee
 case mn=>
  apply#[_,Z,Z,_,Z,aL (λ_=>?_) (λ_=>?_)];rotate_left 1
  ·exact hF
  apply#[_,Z,q,_,Z,.inl (.of e3),_,_,Z,Z,_,Z,aL (λc=>?_) (λ_=>?_)];rotate_left 1
  ·exact hF
  have c:(1:Int)<((ss.map V.int).length:Int):=⇑c
  rw[au] at c;apply#[_,Z,.inl #[Z,_,.of e3],_,Z,q,_,p,p,_,Z,Z,e3,by omega,by omega,sq,gp,?_];rw[TR];exact fin _ f_ dR Z1 Z1
 case ee=>
  apply#[_,Z,Z,_,Z,aL (λ_=>?_) (λ_=>#[_,Z,Z,_,Z,aL (λ_=>?_) (λ_=>#[_,Z,Z,_,Z,aL (λ_=>?_) (λ_=>?_)])])]
  ·apply#[_,Z,.inl #[Z,_,.of e3],_,Z,_,Z,q,_,Z,.inl (.of e3),l,_,Z,by rw[au];omega,by rw[au];omega,dR,λz H4 z0 z1 b4 dS=>?_];let#[z,rfl]:=p5 z0;rw[au] at z1;let e4:=b4 _ _ e3 ql;apply#[_,Z,.inl #[Z,_,.of e4],_,Z,q,_,p,p,_,Z,Z,e4,by omega,by omega,sq,gp,?_];rw[TR];apply#[q,z,_,_,Z,Z,aq,by rw[au];omega,by rw[au];omega,?_];rw[TF,Tz];exact fin _ (f_.trans b4) dS (by rw[dM,gB];omega) (by rw[dM,gB,cX,pY];omega)
  ·have al:eJ (ss.map V.int) (-1)\.int (ss[ss.length - 1]' Z1):=by
    rw[Ux (by rw[au];omega),au,cY,bO Z1];rfl
   apply#[_,Z,_,Z,1,Z,q,_,_,_,Z,Z,.of e3,al,_,Z,l,3,Z,by decide,by decide,dR,λz H4 z0 z1 b4 dS=>#[_,_,Z,Z,zl,λa na=>?_]];let s5:=aa.new (o:=.lst [V.int (ss[ss.length - 1]' Z1 - z)]) na;let e5:=s5 _ _ (b4 _ _ e3 ql);apply#[q,a,_,_,Z,Z,e5,aq,by rw[au];show _+1<=_;omega,λq2 og=>?_];let xl:=(f_.trans b4).trans (aM.of s5);let gx:=dS.same s5;apply iw _ _ #[q2,ss++[ss[ss.length - 1]' Z1 - z],xl.trans (aM.of (aa.new og)),gx.same (aa.new og),xl.free gx og,gx.ne og,?_,by rw[dM];omega,by rw[dM];exact bj _,Z];rw[aq,cj];rfl
  ·apply#[_,Z,_,Z,_,_,Z,Z,_,Z,q,_,Z,.of e3,λq2 og=>?_];rw[show (p:Int)+1=((p+1:Nat):Int) by omega,Dv,<- List.map_take];exact iw _ _ #[q2,ss.take (p+1),f_.trans (aM.of (aa.new og)),dR.same (aa.new og),f_.free dR og,dR.ne og,aq,by rw[cX];omega,by rw[cX];omega,Z]
  apply#[_,Z,_,Z,Z,q,_,Z,.of e3,λq2 og=>?_];rw[<- List.map_reverse];exact iw _ _ #[q2,ss.reverse,f_.trans (aM.of (aa.new og)),dR.same (aa.new og),f_.free dR og,dR.ne og,aq,by rw[List.length_reverse];omega,by rw[List.length_reverse];omega,Z]
end
end Ev
namespace Ev
open PySem L2
theorem iR_{r:Rl}{hs:Xa}{ts:Xb}{qs:aK}{f:ao}(k:Nat):runM r hs ts qs f (k+1)=eD (runM r hs ts qs f k) (iq r hs ts qs (runM r hs ts qs f k) k):=rfl
section
variable{P:Ad}{w:Af}{K:af}{mg:Str->Option Aa}{base:Heap}{CG CW T1 T2:Addr}
abbrev duN:ae:=["_law_goods",wM,"_law_rule_here","_law_numbers","_law_now","_law_last","_law_k","_law_moves","_law_piece","_law_one","_law_other"]
theorem yL:bq duN Bq (aX zZ):=bB
inductive rE (K:af) (CG CW T1 T2:Addr) (vs:ag) (H:Hp) (Q:VK) (E:XK):Prop
 |mk:∀(g p d l:Addr) (ss:List Int) (hs:Xa) (ts:Xb) (qs:aK) (fp:ai) (ns:ae) (f:ao),∀r∈rl,vs=[.ref g,.ref d,.str r.1,.ref l]->Wo K CG CW H g p d hs ts qs fp ns f->Tb H T1 T2->H l\.lst (ss.map V.int)->0<ss.length->ss.length<=3001->(∀v H',BT T1 T2 H H'->Tb H' T1 T2->I0 r hs ts qs f ss v H'->Q v H')->rE K CG CW T1 T2 vs H Q E
theorem _F{f0:Addr}{fd:Ae}(F:bf K "_law_due" "_law_due" zZ f0 fd)(B:Bi mg)(GO:!aZ 6 "sum_of" vh (Dc K CG CW))(uu:!aZ 10 "at_rest" uo (JG K CG CW T1 T2))(Dm:!aZ 9 "moves_of" o5 (J2 K CG CW T1 T2)):!aj a9 11 f0 fd Bq (rE K CG CW T1 T2):=by
 apply F.ok yL (λvs H Q E h=>?_) (λaP A outer s H vs Q E hr h=>?_)
 ·let#[g,p,d,l,ss,hs,ts,qs,fp,ns,f,r,bX,rfl,_]:=h;rfl
 let#[g,p,d,l,ss,hs,ts,qs,fp,ns,f,r,bX,rfl,O,tb,hl,l0,l3,k]:=h;let sz:=bZ;let hu:=fV hr;refine' ⟨_,ax ?s1 (ax ?s2 (ax ?s3 (aA (aU BD)))),?kk⟩
 case s1=>exact bh 4 yL.nd (hG Hg (by rfl) B.dict pS %[1|0])
 case s2=>exact bh 5 yL.nd (bG yV (cc gc (by rfl) B.len fP %[3|0]) ay)
 case' s3=>refine' eR eE Z (xi (by rfl) B.range %[cc gc (by rfl) B.len fP %[3|0]|0]) (cm 6 yL.nd) ?bo
 case' bo=>refine' ax ?b1 ?r1
 case' r1=>refine' ax ?b2 ?r2
 case' r2=>refine' ax ?b3 ?r3
 case' r3=>refine' ax ?b4 ?r4
 case' r4=>refine' ax ?b5 (aA ?b6)
 case b1=>exact bx (bY qp (bp dY (pv 3) (pv 6)) (aN GO hr %[0,4|0])) (aA (aU (eM %[dc,6|0]))) bJ
 case b2=>exact bx (PW.pt (pW (di (aN uu hr %[0,4,2|0])) (uB (bY Iw (pv 6) (pv 5))))) (aA (aU (eM %[dc,6|0]))) bJ
 case b3=>exact bx (PW.pt (pW (bY gU (pv 6) (pv 5)) (uB (dZ (di (aN uu hr %[0,4,2|0])))))) (aA (aU (eM %[dc,6|0]))) bJ
 case b4=>exact bh 7 yL.nd (aN Dm hr %[0,4,2,6|0])
 case' b5=>refine' bx (PW.pt (pW ?t1 (pW ?t2 (uB ?t3)))) (aA (aU (eM %[dc,6|0]))) bJ
 case t1=>exact bY Iw (pv 6) (pv 5)
 case t2=>exact bY (OE (mK hr 0)) (pv 7) (dH ba)
 case t3=>exact bY Iu (bp dY (pv 3) (bG fO (pv 6) ay)) (bp dY (pv 3) (pv 6))
 case b6=>exact eR eE Z (dN (pv 7)) (mE Z (dB (cm 8 yL.nd) (dB (cm 9 yL.nd) (dB (cm 10 yL.nd) jd)))) (aA (vq hu (pv 4) (pv 8) (pv 10) Z))
 let S:=O.S;let pm:=S.so.perm;have at_:∀{i:Nat} {z:Int},ss[i]? = some z->eJ (ss.map V.int) (i:Int)\.int z:=λ{i z} e=>L2.fq (by rw[cY,e];rfl);obtain⟨n,en⟩:∃n:Nat,ss.length=n+1:=#[ss.length - 1,by omega];apply#[_,Z,d,_,Z,.inl S.hd,λdn pF=>?_];let#[s1,e1]:=bg (o:=.dK (bR ns f)) pF;show gz _ _ _ (upd H dn (.dK (bR ns f))) _;generalize upd H dn (.dK (bR ns f))=H1 at s1 e1 ⊢;lk;let fJ:=s1 _ _ hl;apply#[_,Z,l,_,Z,.inl (.of fJ),_,_,Z,Z,setG ?_];dsimp only;rw[show ((ss.map V.int).length:Int) - 1=(n:Int) by rw[au];omega]
 have SD:∀{G:Hp} {i:Nat},NT H G->G dn\.dK (bR ns (runM r hs ts qs f i))->o8 K CG CW G g p dn hs ts qs fp ns (runM r hs ts qs f i):=λ{G i} nt e=>by
  apply#[S.G.nt nt,λm=>?_,e,#[pm,λn hn=>(O.W.run r i).at_ n (pm.mem_iff.mp hn)],λb hb=>?_]
  ·let#[o,e',_]:=S.has _ m;rw[pF] at e';cases e'
  let#[o,e,q]:=S.has b hb;exact#[o,nt _ _ e q,q]
 have Zv:ns.length<64:=by
  have:=pm.length_eq;rw[au] at this;have:=O.W.bS;omega
 apply iR (λσ H'=>∃v6 v7 v8 v9 v10:aI,σ=[some (.ref g),some (.ref d),some (.str r.1),some (.ref l),some (.ref dn),some (.int n),v6,v7,v8,v9,v10]/\BT T1 T2 H H'/\Tb H' T1 T2/\(∀j:Nat,j<n->gT r hs ts qs f ss j=none)/\gT r hs ts qs f ss n\none) ?later (λN hN=>?loop)
 case later=>
  rintro σ H' ⟨v6,v7,v8,v9,v10,rfl,b,t,al,e⟩;exact k _ _ b t #[n,none,by omega,al,e,.inl #[Z,Z]]
 apply#[_,Z,l,_,Z,.inl (.of fJ),_,Z,by omega,by rw[au];omega,?_];apply yZ (λi σ H'=>∃v6 v7 v8 v9 v10:aI,σ=[some (.ref g),some (.ref d),some (.str r.1),some (.ref l),some (.ref dn),some (.int n),v6,v7,v8,v9,v10]/\BT T1 T2 H H'/\Tb H' T1 T2/\H' dn\.dK (bR ns (runM r hs ts qs f i))/\(∀j:Nat,j<i->j<n->gT r hs ts qs f ss j=none)/\(i=n+1->gT r hs ts qs f ss n\none)) #[none,none,none,none,none,Z,BT.of s1,tb.nt s1,e1,by omega,by omega] ?_ ?_;rotate_left 1
 ·rintro σ H' ⟨v6,v7,v8,v9,v10,rfl,b,t,_,al,e⟩;rw[au,mN,en] at al e;exact hN _ _ #[_,_,_,_,_,Z,b,t,λj hj=>al j Z1 hj,e Z]
 rintro i σ H2 hi ⟨v6,v7,v8,v9,v10,rfl,b2,d7,ed,al,_⟩;rw[au,mN] at hi;lk;rw[Int.zero_add];let kz:=b2.nt tb;obtain⟨z,ez⟩:∃z,ss[i]? = some z:=#[_,bO Z1];have Kl:∀j:Nat,j<i->gT r hs ts qs f ss j=none:=λj hj=>al j hj Z1;have out:∀{x:Str} {v:V} {G:Hp},gT r hs ts qs f ss i\some x->BT T1 T2 H G->Tb G T1 T2->(∃t,v=.ref t/\G t\.tup [.str x,.int i])->Q v G:=λ{x v G} e b t ⟨a,ea,ha⟩=>k _ _ b t #[i,some x,by omega,Kl,e,.inr #[x,a,Z,ea,ha]];apply#[_,Z,_,Z,l,_,_,.int z,Z,Z,.of (kz.lst hl),at_ ez,?_];apply#[_,Z,_,Z,g,p,dn,hs,ts,qs,fp,ns,_,Z,SD kz ed,O.W.run r i,λH3 s3=>?_];let b3:=b2.trans (BT.of s3);let c_:=d7.nt s3;let oI:=s3 _ _ ed;apply#[Z,_,Z,aL (λc=>?_) (λc=>?_)]
 ·have c:¬z=hY hs qs (runM r hs ts qs f i):=⇑c
  apply#[_,Z,zl,λt jO=>?_];let s4:=aa.new (o:=.tup [.str "sum",.int (i:Int)]) jO;exact out (by unfold gT;rw[aB (λq=>c (eF (ez.symm.trans q)))]) (b3.trans (BT.of s4)) (c_.nt s4) #[t,Z,aq]
 have c:z=hY hs qs (runM r hs ts qs f i):=⇑c
 subst c;apply EG ?_;dsimp only;apply iR (λσ H'=>BT T1 T2 H H'/\Tb H' T1 T2/\H' dn\.dK (bR ns (runM r hs ts qs f i))/\¬(eX r hs ts qs (runM r hs ts qs f i)=true/\i<n)/\σ=[some (.ref g),some (.ref d),some (.str r.1),some (.ref l),some (.ref dn),some (.int n),some (.int i),v7,v8,v9,v10]) ?l2 (λN1 iw=>?l1)
 case l1=>
  apply#[_,Z,_,Z,_,Z,g,p,dn,hs,ts,qs,fp,ns,_,r,bX,Z,SD (b3.nt tb) oI,O.W.run r i,c_,λH4 b4 dm=>?_];let fZ:=b3.trans b4;let jZ:=(b4.nt c_).dK oI;apply#[_,Z,aL (λc=>?_) (λc=>?_)]
  ·apply#[_,Z,_,Z,_,_,Z,Z,_,Z,aL (λc2=>?_) (λc2=>?_)]
   ·have c2:(i:Int)<n:=⇑c2
    apply#[_,Z,zl,λt jO=>?_];let s5:=aa.new (o:=.tup [.str "rests",.int (i:Int)]) jO;exact out (by unfold gT;rw[aH ez,aH c,aH Z1]) (fZ.trans (BT.of s5)) (dm.nt s5) #[t,Z,aq]
   have c2:¬(i:Int)<n:=⇑c2
   exact iw _ _ #[fZ,dm,jZ,λ⟨_,z⟩=>by omega,Z]
  have c:eX r hs ts qs (runM r hs ts qs f i)=false:=⇑c
  exact iw _ _ #[fZ,dm,jZ,(λ⟨z,_⟩=>by rw[c] at z;cases z),Z]
 clear b3 c_ oI s3;rintro σ H3 ⟨b3,c_,oI,nr,rfl⟩;apply iR (λσ H'=>BT T1 T2 H H'/\Tb H' T1 T2/\H' dn\.dK (bR ns (runM r hs ts qs f i))/\¬(eX r hs ts qs (runM r hs ts qs f i)=false/\i=n)/\σ=[some (.ref g),some (.ref d),some (.str r.1),some (.ref l),some (.ref dn),some (.int n),some (.int i),v7,v8,v9,v10]) ?l4 (λN1 iw=>?l3)
 case l3=>
  apply#[_,Z,_,Z,Z,_,Z,aL (λc=>?_) (λc=>?_)]
  ·have c:(i:Int)=n:=⇑c
   apply#[_,Z,_,Z,_,Z,g,p,dn,hs,ts,qs,fp,ns,_,r,bX,Z,SD (b3.nt tb) oI,O.W.run r i,c_,λH4 b4 dm=>?_];let fZ:=b3.trans b4;let jZ:=(b4.nt c_).dK oI;apply#[_,Z,aL (λc2=>?_) (λc2=>?_)]
   ·have c2:eX r hs ts qs (runM r hs ts qs f i)=false:=⇑c2
    apply#[_,Z,zl,λt jO=>?_];let s5:=aa.new (o:=.tup [.str "goes",.int (i:Int)]) jO;exact out (by unfold gT;rw[aH ez,aB (by rw[c2];decide),aB Z1]) (fZ.trans (BT.of s5)) (dm.nt s5) #[t,Z,aq]
   have c2:eX r hs ts qs (runM r hs ts qs f i)=true:=⇑c2
   exact iw _ _ #[fZ,dm,jZ,(λ⟨z,_⟩=>by rw[c2] at z;cases z),Z]
  have c:¬(i:Int)=n:=⇑c
  exact iw _ _ #[b3,c_,oI,λ⟨_,z⟩=>c Z1,Z]
 clear b3 c_ oI;rintro σ H3 ⟨b3,c_,oI,ng,rfl⟩;apply#[_,Z,_,Z,_,Z,_,Z,g,p,dn,(i:Int),hs,ts,qs,fp,ns,_,r,bX,Z,by omega,SD (b3.nt tb) oI,O.W.run r i,c_,λlm ys H4 b4 dm nlm mr tu=>?_];lk;let fZ:=b3.trans b4;let jZ:=(b4.nt c_).dK oI;let ly:=bK tu;rw[au] at ly;have _g:lm≠dn:=cb mr jZ nofun
 have VR:By r hs ts qs f i=!(ys.isEmpty):=by
  rw[_w bX O.W O.w1 i];congr 1;cases ys with
  |nil=>rw[zi.mp ly.symm];rfl
  |cons y ys=>
   cases z:iq r hs ts qs (runM r hs ts qs f i) i with
   |nil=>rw[z] at ly;cases ly
   |cons m ms=>rfl
 apply iR (λσ H'=>aa H4 H'/\(i<n->gT r hs ts qs f ss i=none)/\σ=[some (.ref g),some (.ref d),some (.str r.1),some (.ref l),some (.ref dn),some (.int n),some (.int i),some (.ref lm),v8,v9,v10]) ?l6 (λN1 iw=>?l5)
 case l5=>
  apply#[_,Z,_,Z,_,_,Z,Z,_,Z,aL (λc=>?_) (λc=>?_)];rotate_left 1
  ·have c:¬(i:Int)<n:=⇑c
   exact iw _ _ #[aa.refl _,λz=>absurd z Z1,Z]
  have c:(i:Int)<n:=⇑c
  have cr:eX r hs ts qs (runM r hs ts qs f i)=false:=by
   cases z:eX r hs ts qs (runM r hs ts qs f i) with
   |false=>rfl
   |true=>exact absurd #[z,by omega] nr
  obtain⟨y,ey⟩:∃y,ss[i+1]? = some y:=#[_,bO Z1]
  have fk:gT r hs ts qs f ss i=if By r hs ts qs f i=true/\hY hs qs (runM r hs ts qs f i)<=y then some (some ("rise":Str)) else none:=by
   unfold gT;rw[aH ez,aB (by rw[cr];decide),aH Z1,vp ez,vp ey]
  apply#[_,Z,zl,λle Zl=>?_];let s5:=aa.new (o:=.lst []) Zl;apply#[lm,le,ys,Z,Z,.of (s5 _ _ mr),.of aq,_,Z,aL (λc1=>?_) (λc1=>?_)];rotate_left 1
  ·exact iw _ _ #[s5,λ_=>by rw[fk,aB (λ⟨q,_⟩=>c1 (by rw[<- VR,q]))],Z]
  let wu:=s5 _ _ ((fZ.nt tb).lst hl);apply#[_,Z,_,Z,_,_,Z,Z,l,_,_,.int y,Z,Z,.of wu,L2.fq (j:=i+1) (by rw[cY,ey];rfl),?_];apply#[_,Z,_,Z,l,_,_,.int _,Z,Z,.of wu,at_ ez,?_];apply#[_,_,Z,Z,_,Z,aL (λc2=>?_) (λc2=>?_)]
  ·have c2:hY hs qs (runM r hs ts qs f i)<=y:=⇑c2
   apply#[_,Z,zl,λt jO=>?_];let s6:=s5.trans (aa.new (o:=.tup [.str "rise",.int (i:Int)]) jO);exact out (by rw[fk,aH #[by rw[VR];exact c1,c2]]) (fZ.trans (BT.of s6)) (dm.nt s6) #[t,Z,aq]
  have c2:¬hY hs qs (runM r hs ts qs f i)<=y:=⇑c2
  exact iw _ _ #[s5,λ_=>by rw[fk,aB (λ⟨_,q⟩=>c2 q)],Z]
 rintro σ H5 ⟨s5,fn,rfl⟩;clear out;let xl:=fZ.trans (BT.of s5);let iN:=dm.nt s5;let Jm:=s5 _ _ jZ;let Fy:=s5 _ _ mr;let XZ:=tu.same s5;apply#[_,Z,lm,Z,#[_,.of Fy],hU (K:=K) (a:=lm) (xs:=ys) (λj σ H'=>∃v8 v9 v10:aI,σ=[some (.ref g),some (.ref d),some (.str r.1),some (.ref l),some (.ref dn),some (.int n),some (.int i),some (.ref lm),v8,v9,v10]/\aM dn H5 H'/\H' dn\.dK (bR ns (eD (runM r hs ts qs f i) ((iq r hs ts qs (runM r hs ts qs f i) i).take j)))) #[v8,v9,v10,Z,aM.refl _ _,Jm] (λj σ H' _ ⟨_,_,_,_,b,_⟩=>.of (b _ _ Fy _g)) ?_ ?_]
 ·rintro j y σ H' hy ⟨w8,w9,Xd,rfl,b',e'⟩;let#[x,hx,xx,rfl,oq]:=kU XZ hy;let oq:=Ma oq;have DO:xx≠dn:=cb oq Jm nofun;apply#[xx,_,Z,.of (b' _ _ oq DO),Z,_,_,Z,_,_,Z,_,_,Z,Z,?_];dsimp only;apply#[_,Z,_,Z,_,Z,dn,_,Z,.k (k:=Sum.inr x.1) e' (by rw[je];omega),?_];apply#[_,_,_,Z,b'.trans aM.upd,?_];rw[aq,Og (pm.mem_iff.mpr (Ja (O.W.run r i) r i x (dC hx)).1),PP hx,OT]
 rintro σ H7 ⟨w8,w9,Xd,rfl,b',e'⟩;rw[ly,eK,<- iR_] at e';have kT:∀{T qn},cn H5 T qn->cn H7 T qn:=λ⟨es,a1,a2⟩=>#[es,b' _ _ a1 (λz=>by rw[z,Jm] at a1;cases a1),λx hx=>b' _ _ (a2 x hx) (λz=>by have:=a2 x hx;rw[z,Jm] at this;cases this)];have uR:Tb H7 T1 T2:=#[kT iN.a,kT iN.b,iN.ne];apply#[_,_,_,_,_,Z,λb o e y1 y2=>b' _ _ (xl b o e y1 y2) (bw e pF),uR,e',λj hj jn=>?_,λe=>?_]
 ·by_cases z:j<i
  ·exact Kl j z
  obtain rfl:j=i:=by omega
  exact fn jn
 obtain rfl:i=n:=by omega
 have cr:eX r hs ts qs (runM r hs ts qs f i)=true:=by
  cases z:eX r hs ts qs (runM r hs ts qs f i) with
  |true=>rfl
  |false=>exact absurd #[z,Z] ng
 unfold gT;rw[aH ez,aH cr,aB Z1]
end
end Ev
namespace Ev
open PySem L2
theorem o8.copy{K:af}{CG CW g p d dk:Addr}{H G:Hp}{hs:Xa}{ts:Xb}{qs:aK}{fp:ai}{ns:ae}{f:ao}(S:o8 K CG CW H g p d hs ts qs fp ns f)(s:NT H G)(n:H dk=none)(e:G dk\.dK (bR ns f)):o8 K CG CW G g p dk hs ts qs fp ns f:=#[S.G.nt s,λm=>(by
 let#[o,e',_]:=S.has _ m;rw[n] at e';cases e'),e,S.so,λb hb=>by
 let#[o,e,q]:=S.has b hb;exact#[o,s _ _ e q,q]]
theorem NM{H:Hp}:∀ss:List Int,Paired (rZ H) (ss.map V.int) ss
 |[]=>.nil
 |s::ss=>.cons Z (NM ss)
theorem k3_{ns:ae}{f:ao}:(ns.all λn=>decide (f n=f n))=true:=List.all_eq_true.mpr λn _=>b_ Z
section
variable{P:Ad}{w:Af}{K:af}{mg:Str->Option Aa}{base:Heap}{CG CW T1 T2:Addr}
theorem Jv:bq ["_law_goods",wM,"_law_rule_here","_law_numbers","_law_handed","_law_kept","_law_found"] Bq (aX lR):=bB
inductive JA (K:af) (CG CW T1 T2:Addr) (vs:ag) (H:Hp) (Q:VK) (E:XK):Prop
 |mk:∀(g p d l:Addr) (ss:List Int) (hs:Xa) (ts:Xb) (qs:aK) (fp:ai) (ns:ae) (f:ao),∀r∈rl,vs=[.ref g,.ref d,.str r.1,.ref l]->Wo K CG CW H g p d hs ts qs fp ns f->Tb H T1 T2->H l\.lst (ss.map V.int)->0<ss.length->ss.length<=3001->(∀H',BT T1 T2 H H'->Tb H' T1 T2->Q (.bl true) H')->JA K CG CW T1 T2 vs H Q E
theorem ig_{f0:Addr}{fd:Ae}(F:bf K "_law_right" "_law_right" lR f0 fd)(B:Bi mg)(PB:!aZ 11 "paper_fault" uH (OL K CG CW T1 T2))(PX:!aZ 11 "_law_due" Bq (rE K CG CW T1 T2)):!aj a9 12 f0 fd Bq (JA K CG CW T1 T2):=by
 apply F.ok Jv (λvs H Q E h=>?_) (λaP A outer s H vs Q E hr h=>?_)
 ·let#[g,p,d,l,ss,hs,ts,qs,fp,ns,f,r,bX,rfl,_]:=h;rfl
 let#[g,p,d,l,ss,hs,ts,qs,fp,ns,f,r,bX,rfl,O,tb,hl,l0,l3,k]:=h;let sz:=bZ;refine' ⟨_,?c0,?kk⟩
 case' c0=>refine' ax ?s1 ?c1
 case' c1=>refine' ax ?s2 ?c2
 case' c2=>refine' ax ?s3 ?c3
 case' c3=>refine' ax ?s4 (aA ?s5)
 case s1=>exact bh 4 Jv.nd (hG J_ (by rfl) B.list uA %[3|0])
 case s2=>exact bh 5 Jv.nd (hG Hg (by rfl) B.dict pS %[1|0])
 case s3=>exact bh 6 Jv.nd (aN PB hr %[0,5,2,eM %[dc,4|0]|0])
 case' s4=>refine' bx (PW.pt (qq ?t1 (qq ?t2 (uC (PW.pt (pW ?t3 (uB ?t4))))))) eI bJ
 case t1=>exact bY (R6 O9 (mK hr 0)) (pv 4) (pv 3)
 case t2=>exact bY (NJ (Nat.lt_of_succ_lt (mK hr 0))) (pv 5) (pv 1)
 case t3=>exact bY jL_ (pv 6) BD
 case t4=>exact dZ (di (cc iJ (by rfl) B.h_ ig %[6,iG (v:=.ty "tuple") (by rfl) B.tuple BO Z|0]))
 case s5=>exact aU (oM (jZ_ (mK hr 0)) (pv 6) (aN PX hr %[0,1,2,3|0]))
 apply#[_,Z,l,_,Z,.inl (.of hl),λlh Ao=>?_];let#[s1,e1]:=bg (o:=.lst (ss.map V.int)) Ao;generalize upd H lh (.lst (ss.map V.int))=H1 at s1 e1 ⊢;lk;let pM:=s1 _ _ O.S.hd;apply#[_,Z,d,_,Z,.inl pM,λdk mi=>?_];let s2:=s1.trans (aa.new (o:=.dK (bR ns f)) mi);have e2:upd H1 dk (.dK (bR ns f)) dk\.dK (bR ns f):=aq;let Bu:=(aa.new (o:=.dK (bR ns f)) mi) _ _ e1;let Ly:=s1.free mi;show gz _ _ _ (upd H1 dk (.dK (bR ns f))) _;generalize upd H1 dk (.dK (bR ns f))=H2 at s2 e2 Bu ⊢;lk;clear s1 e1 pM mi;apply#[_,Z,_,Z,_,Z,_,Z,zl,λq hq=>?_];let s3:=aa.new (o:=.tup [.str "rest",.ref lh]) hq;let nK:=s2.trans s3;apply#[g,p,dk,_,hs,ts,qs,fp,ns,f,r,bX,Z,O.S.copy (NT.of nK) Ly (s3 _ _ e2),O.W,tb.nt nK,.inr (.inl #[q,lh,ss,Z,aq,s3 _ _ Bu,l0,l3,λv H4 b4 dm fr=>?_])];let fk:=Z5 fr;lk;let g6:=(NT.of s3).trans (b4.nt (tb.nt nK));let fZ:=(BT.of nK).trans b4;let wc:=fZ.nt tb;let elh:=g6.lst Bu;let edk:=g6.dK e2;apply iR (λσ H'=>H4=H'/\σ=[some (.ref g),some (.ref d),some (.str r.1),some (.ref l),some (.ref lh),some (.ref dk),some v]) ?m2 (λN1 iw=>?m1)
 case m1=>
  apply#[_,Z,_,Z,_,_,#[lh,_,Z,.of elh,NM ss],#[l,_,Z,.of (wc.lst hl),NM ss],_,Z,aL (λc=>by simp at c) (λ_=>?_)];apply#[_,Z,_,Z,dk,d,ns,f,f,Z,Z,edk,wc.dK O.S.hd,_,Z,aL (λc=>?_) (λ_=>?_)]
  ·rw[k3_] at c;cases c
  let#[k',w',_,_,_,m]:=fk;rcases m with⟨_,rfl⟩|⟨x,t,_,rfl,ht⟩
  ·exact#[_,Z,Z,_,Z,aL (λc=>by simp at c) (λ_=>iw _ _ #[Z,Z])]
  apply#[_,Z,Z,_,Z,aL (λ_=>?_) (λc=>by simp at c)];exact#[_,Z,_,_,_,true,Z,.tup ht,Z,_,Z,aL (λc=>by simp at c) (λ_=>iw _ _ #[Z,Z])]
 rintro σ _ ⟨rfl,rfl⟩;apply#[_,Z,_,Z,_,Z,_,Z,_,Z,g,p,d,l,ss,hs,ts,qs,fp,ns,f,r,bX,Z,O.nt wc,dm,wc.lst hl,l0,l3,λv' H5 b5 iN fk'=>?_];let#[w1,k1,m1,m2]:=ZP fk fk';exact Z6 (neg:=false) (m1.same (b5.nt dm)) m2 (k _ (fZ.trans b5) iN)
end
end Ev
namespace L2
open PySem PySem.Spec PyProof.Rows PySem.W
theorem hJ_{K:af}{a:Addr}{xs:ag}{g:TG}{tc:TT}{te:TE}{own:Nat}{fv:List aI}{dec:V->Hp->List aI->Prop}{D:Addr}{H:Hp}{Q:VK}{iL:St}(pJ:iL=List.replicate own none++fv)(G:zp g own fv dec)(Pv:Nat->ag->Hp->Prop)
  (h0:Pv 0 [] (upd H D (.lst []))) (hl:∀i out H',i<=xs.length->Pv i out H'->dJ K H' a xs) (hd:∀out H',Pv xs.length out H'->Q (.ref D) H')
  (wz:∀i x out H',xs[i]? = some x->Pv i out H'->∀t,H' t=none->∃o3,dec (.ref t) (upd H' t (.tup [.int i,x])) o3/\o3.length=own/\∀Nx:Hp->Prop,(∀gL H2,Pv (i+1) gL H2->Nx H2)->
   tc (o3++fv) (upd H' t (.tup [.int i,x])) λb H4=>if b=true then te (o3++fv) H4 λy H5=>∃dF,H5 D\.lst dF/\dF.length<sizeLine/\Nx (upd H5 D (.lst (dF++[y]))) else Nx H4) :
  wR (DD K a) g tc te iL D H Q:=by
 apply De pJ G xs.length Pv h0 (λout H' p=>#[#[xs,hl _ _ _ (bj _) p,Z],hd out H' p]) λi out H' hi p=>?_;let q:=hl i out H' (Nat.le_of_lt hi) p;apply#[#[xs,xs[i],q,by simp[hi]],λx H2 y=>?_];let#[t,x,rfl,ht,y,rfl]:=y;exact wz i x out _ (y xs q) p t ht
theorem iC_{lo:Int}{n:Nat}{g:TG}{tc:TT}{te:TE}{own:Nat}{fv:List aI}{dec:V->Hp->List aI->Prop}{D:Addr}{H:Hp}{Q:VK}{iL:St}(pJ:iL=List.replicate own none++fv)(G:zp g own fv dec)(Pv:Nat->ag->Hp->Prop)
  (h0:Pv 0 [] (upd H D (.lst []))) (hd:∀out H',Pv n out H'->Q (.ref D) H')
  (wz:∀i out H',i<n->Pv i out H'->∃o3,dec (.int (lo+i)) H' o3/\o3.length=own/\∀Nx:Hp->Prop,(∀gL H2,Pv (i+1) gL H2->Nx H2)->
   tc (o3++fv) H' λb H4=>if b=true then te (o3++fv) H4 λy H5=>∃dF,H5 D\.lst dF/\dF.length<sizeLine/\Nx (upd H5 D (.lst (dF++[y]))) else Nx H4) :
  wR (B5 lo n) g tc te iL D H Q:=by
 apply De pJ G n Pv h0 (λout H' p=>#[bj _,hd out H' p]) λi out H' hi p=>?_;apply#[hi,λx H2 y=>?_];let#[e,y]:=y;subst e y;exact wz i out _ hi p
end L2
namespace Ev
open PySem L2
def PN(H:Hp)(y:V)(p:Pc):Prop:=p.2.2=none/\∃t,y=.ref t/\H t\.tup [.str p.1,.int p.2.1,.non]
theorem PN.keep{H H':Hp}{y:V}{p:Pc}(h:PN H y p)(k:∀t vs,H t\.tup vs->H' t\.tup vs):PN H' y p:=#[h.1,h.2.elim λt ⟨e,z⟩=>#[t,e,k _ _ z]]
section
variable{P:Ad}{w:Af}{K:af}{mg:Str->Option Aa}{base:Heap}{CG CW:Addr}
abbrev YE:ae:=[fo,"_law_many",Br,"_law_hands","_law_pieces_here","_law_goods"]
theorem Gn:bq YE yG (aX zX):=bB
def rA(K:af)(CG CW:Addr):Sp:=λvs H Q _=>∃(l:Addr) (m:Nat),vs=[.ref l,.int m]/\m<=30/\bU H l/\∀(t g p d:Addr) (r:Rl) (hs:Xa) (ts:Xb) (qs:aK) (fp:ai) (ns:ae) (f:ao) (H':Hp),aM l H H'->bU H' l->r∈rl->H' t\.tup [.ref g,.ref d,.str r.1]->Wo K CG CW H' g p d hs ts qs fp ns f->d≠l->l∉fp->Q (.ref t) H'
theorem jS_{f0:Addr}{fd:Ae}(F:bf K "_law_row" "_law_row" zX f0 fd)(B:Bi mg)(cD:!aZ 1 qu uy vy)(cN:!aZ 2 "_law_names" yG JJ)(cW:!gZ CW 5 "Web" oU (Ga K CW))(cG:!gZ CG 7 "Goods" oR (GT K CG CW)):!aj a9 9 f0 fd yG (rA K CG CW):=by
 exists F.bF Gn;let#[l,m,rfl,EL,st,k]:=h;let sz:=bZ;refine' #[_,ax ?s1 (ax ?s2 (ax ?s3 (ax ?s4 (aA ?s5)))),?kk]
 case s1=>exact bh 2 Gn.nd (aN cN hr %[0,ay|0])
 case' s2=>refine' bh 3 Gn.nd (bG yX (jy ["_law_k","_law_name"] 2 [] (N9 (by rfl) B.enum %[qA qy (pv 2) qw (qx ay)|0]) (λfp s H=>?g2) (λfp s H=>gX) (λfp s H=>?e2)) ?b2)
 case g2=>exact Gg (n:=2) (dB (eY (i:=0) (show (["_law_k","_law_name"]:ae).Nodup by decide +kernel) Z (Or.inl Z)) (dB (eY (i:=1) (show (["_law_k","_law_name"]:ae).Nodup by decide +kernel) Z (Or.inl Z)) jd))
 case e2=>exact eM %[1,bG fO ay (pv 0)|0]
 case b2=>exact dH %[eM %[bp dY (pv 2) ay,bG fO ay (aN cD hr %[0,ay|0])|0]|0]
 case' s3=>refine' BM (i:=4) oY 1 [0] Gn.nd Z (Or.inl Z) (dN (aN cN hr %[0,1|0])) (λfp s H=>eY (i:=0) (show (oY:ae).Nodup by decide +kernel) Z (Or.inl Z)) (λfp s H=>gX) (λfp s H=>?e3)
 case e3=>exact eM %[0,bG fO ay (aN cD hr %[1,ay|0]),BD|0]
 case' s4=>refine' bh 5 Gn.nd (Bs cG hr %[Bs cW hr %[3,?c4|0],4|0])
 case' c4=>refine' jy ["_law_k",Br] 1 [2] (xi (by rfl) B.range %[ay|0]) (λfp s H=>eY (i:=0) (show (["_law_k",Br]:ae).Nodup by decide +kernel) Z (Or.inl Z)) (λfp s H=>gX) (λfp s H=>?e4)
 case e4=>exact eM %[bp (tQ (K:=K) mh dY) (pv 1) (pv 0),bp (tQ (K:=K) mh dY) (pv 1) (bG fO (pv 0) ay)|0]
 case' s5=>refine' aU (eM %[5,hG (BS Z) (by rfl) B.dict pS %[?c5|0],dc|0])
 case' c5=>refine' jy ["_law_piece",Br] 1 [2] (dN (pv 4)) (λfp s H=>eY (i:=0) (show (["_law_piece",Br]:ae).Nodup by decide +kernel) Z (Or.inl Z)) (λfp s H=>gX) (λfp s H=>?e5)
 case e5=>exact eM %[bp (tQ (K:=K) jL c7) (pv 0) ay,bp (tQ (K:=K) mh dY) (pv 1) ay|0]
 apply#[_,Z,l,8,Z,by decide,st,λln ns H1 b1 fb fn Mj N=>?_];let n8:=N.len;have u_:ln≠l:=st.ne fn;lk;apply#[_,Z,_,Z,ln,_,Z,.of Mj,λp1 EB=>?_];rw[show cz (ns.map V.str) none (some 7)=(ns.take 7).map V.str by rw[List.map_take];exact Dv _ 7];let#[s2,e2]:=bg (o:=.lst ((ns.take 7).map V.str)) EB;generalize upd H1 p1 (.lst ((ns.take 7).map V.str))=H2 at s2 e2 ⊢;apply#[p1,Z,#[_,.of e2],λD hD=>?_];apply hJ_ (own:=2) (fv:=[]) (xs:=(ns.take 7).map V.str) Z A2 (λi out H'=>aa H2 H'/\H' D\.lst out/\∃hs:Xa,bD K H' out (hs.map kH)/\hs.map (·.1)=(ns.take 7).take i/\∀h∈hs,1<=h.2/\h.2<=1000) #[aa.new hD,aq,[],.nil,Z,by simp] (λi out H' _ ⟨sm,_⟩=>.of (sm _ _ e2)) (λyh H3 ⟨s3,A1,hs,th,en,gh⟩=>?_) (λi x out H' hx ⟨sm,dU,hs,th,en,gh⟩ t0 Zi=>?_);rotate_left 1
 ·let#[n,hn,rfl]:=jc hx
  have hi:i<7:=by
   have:=(cq.mp hn).1;rw[cX] at this;omega
  let lo:=bK th;let lh:=dX List.length en;rw[au] at lo;rw[au,cX,cX] at lh;let s4:=aa.new (o:=.tup [.int i,.str n]) Zi;apply#[_,#[t0,_,_,Z,.of aq,Z],Z,λNx hN=>dD ?_];apply#[_,Z,_,Z,_,_,Z,Z,zl,λt ht=>?_];let s5:=aa.new (o:=.tup [.str n,.int (1+(i:Int))]) ht;let sW:=s4.trans s5;let oE:=sW _ _ dU;apply#[out,oE,by omega,hN _ _ #[gY (sm.trans sW) hD,aq,hs++[(n,1+(i:Int))],?_,?_,λh hh=>?_]]
  ·rw[cj];exact iI (vA (th.same sW) aq) oE
  ·rw[cj,en,ij hn];rfl
  rcases eZ.mp hh with hh|hh
  ·exact gh h hh
  obtain rfl:h=(n,1+(i:Int)):=⇑hh
  exact#[by show 1<=1+(i:Int);omega,by show 1+(i:Int)<=1000;omega]
 rw[au,eK] at en;obtain⟨n7,e7⟩:∃x,ns[7]? = some x:=#[_,bO Z1];let md:=s2.trans s3;let dR:=fb.same md;let Cv:=md _ _ Mj;have Dl:D≠l:=(fb.same s2).ne hD;apply#[_,Z,ln,_,_,.str n7,Z,Z,.of Cv,L2.fq (j:=7) (by rw[cY,e7];rfl),_,Z,l,101,Z,by decide,by decide,dR,λr H4 r0 r1 b4 dS=>#[_,_,Z,Z,zl,λt ht=>#[zl,λq hq=>?_]]];let s5:=aa.new (o:=.tup [.str n7,.int (900+r)]) ht;let s6:=aa.new (o:=.lst [.ref t]) hq;let nJ:=s5.trans s6;let ly:=bK th;let lh:=dX List.length en;rw[au] at ly;rw[au,cX] at lh;apply#[D,q,_,_,Z,Z,nJ _ _ (b4 _ _ A1 Dl),aq,by show yh.length+1<=_;omega,λlh Ao=>?_];let s7:=aa.new (o:=.lst (yh++[.ref t])) Ao;let#[Qt,oz]:=dR.some;let nI:=nJ.trans s7
 have HP:bD K (upd (upd (upd H4 t (.tup [.str n7,.int (900+r)])) q (.lst [.ref t])) lh (.lst (yh++[.ref t]))) (yh++[.ref t]) ((hs++[(n7,900+r)]).map kH):=by
  rw[cj];exact vA ((iC th b4 oz).same nI) (s7 _ _ (s6 _ _ aq))
 have MC:upd (upd (upd H4 t (.tup [.str n7,.int (900+r)])) q (.lst [.ref t])) lh (.lst (yh++[.ref t])) lh\.lst (yh++[.ref t]):=aq;have yb:lh≠l:=(dS.same nJ).ne Ao;generalize upd (upd (upd H4 t (.tup [.str n7,.int (900+r)])) q (.lst [.ref t])) lh (.lst (yh++[.ref t]))=H5 at nI HP MC ⊢;lk;let gx:=dS.same nI;let hn5:=nI _ _ (b4 _ _ Cv u_);have xl:aM l H H5:=((b1.trans (aM.of md)).trans b4).trans (aM.of nI)
 have eH:(hs++[(n7,900+r)]).map (·.1)=ns:=by
  rw[cj,en];show ns.take 7++[n7]=ns;rw[<- ij e7];exact vC Z1
 have gH:∀h∈hs++[(n7,900+r)],1<=h.2/\h.2<=1000:=λh hh=>by
  rcases eZ.mp hh with hh|hh
  ·exact gh h hh
  obtain rfl:h=(n7,900+r):=⇑hh
  exact#[by show 1<=900+r;omega,by show 900+r<=1000;omega]
 have lH:(hs++[(n7,900+r)]).length=8:=by
  have:=dX List.length eH;rw[au] at this;omega
 generalize hs++[(n7,900+r)]=hs at eH gH lH HP;generalize yh++[.ref t]=yh at MC HP;clear th en gh e7 s2 e2 s3 A1 hD md Cv oz s5 s6 nJ ht hq ly s7 Ao dS b4 dR Mj EB Dl b1;apply#[_,Z,_,Z,l,m,Z,EL,gx,λlm ms H6 b6 gI nm SA N6=>#[lm,Z,#[_,.of SA],λlp Cj=>?_]];have Cm:lm≠l:=gx.ne nm;have As:lp≠l:=gI.ne Cj;let m6:=N6.len;apply jz (own:=1) (fv:=[some (.ref l)]) (xs:=ms.map V.str) Z dW (λi out H'=>∃ps:aK,aM l H6 H'/\bU H' l/\H' lp\.lst out/\Paired (PN H') out ps/\ps.map (·.1)=ms.take i/\∀q∈ps,1<=q.2.1/\q.2.1<=3/\q.2.2=none) #[[],aM.of (aa.new Cj),gI.same (aa.new Cj),aq,.nil,Z,by simp] (λi out H' _ ⟨_,b,_⟩=>.of (b _ _ SA Cm)) (λyp H7 ⟨ps,b7,k7,IH,pn,Jk,gp⟩=>?_) (λi x out H' hx ⟨ps,b,stx,IG,pn,UI,gp⟩=>?_);rotate_left 1
 ·let#[n,hn,rfl]:=jc hx;let hi:=(cq.mp hn).1;let lo:=bK pn;let Z7:=dX List.length UI;rw[au,cX] at Z7;apply#[_,Z,Z,λNx hN=>dD ?_];apply#[_,Z,_,Z,l,3,Z,by decide,by decide,stx,λr2 H8 q0 q1 b8 D8=>#[_,_,Z,Z,zl,λt ht=>?_]];let s9:=aa.new (o:=.tup [.str n,.int (1+r2),.non]) ht;let#[Ks,vd]:=stx.some;let Cr:=s9 _ _ (b8 _ _ IG As);have e9:upd H8 t (.tup [.str n,.int (1+r2),.non]) t\.tup [.str n,.int (1+r2),.non]:=aq;let zD:=D8.same s9;generalize upd H8 t (.tup [.str n,.int (1+r2),.non])=H9 at s9 Cr e9 zD ⊢
  have tp:∀{u:HO} {t:Addr} {vs:ag},H9 t\.tup vs->upd H9 lp u t\.tup vs:=λe=>by
   rw[aC (cb e Cr nofun)];exact e
  apply#[out,Cr,by omega,hN _ _ #[ps++[(n,1+r2,none)],λb' o e ne=>?_,NI zD As,aq,?_,?_,λq hq=>?_]]
  ·rw[aC (bw e Cj)];exact s9 _ _ (b8 _ _ (b _ _ e ne) ne)
  ·exact jx (Paired.bL pn λy q z=>z.keep λt vs e=>tp (s9 _ _ (b8 _ _ e (cb e vd nofun)))) (.cons #[Z,t,Z,tp e9] .nil)
  ·rw[cj,UI,ij hn];rfl
  rcases eZ.mp hq with hq|hq
  ·exact gp q hq
  obtain rfl:q=(n,1+r2,none):=⇑hq
  exact#[by show 1<=1+r2;omega,by show 1+r2<=3;omega,Z]
 rw[au,eK] at Jk;have LB:(ps.map (·.1)).Nodup:=by rw[Jk];exact N6.nd
 have l7:ps.length<=30:=by
  have:=dX List.length Jk;rw[au] at this;omega
 lk;let Kg:=b6.trans b7;let#[WK,AO]:=gx.some;let IP:=Kg _ _ MC yb;let Sy:=Kg _ _ hn5 u_;let HM:=iC HP Kg AO;let Qf:=xl.trans Kg;apply#[_,Z,7,Z,by decide,by decide,λlt Ci=>?_];apply iC_ (own:=1) (fv:=[some (.ref ln)]) Z dW (λi out H'=>aa H7 H'/\H' lt\.lst out/\∃ts:Xb,bD K H' out (ts.map kT)/\TJ ns i 0 ts) #[aa.new Ci,aq,[],.nil,#[by simp,.nil,by simp]] (λyt H8 ⟨s8,Az,ts,tt,tj⟩=>?_) (λi out H' hi ⟨sm,jk,ts,tt,tj⟩=>?_);rotate_left 1
 ·have hi:i<7:=hi;obtain⟨x,hx⟩:∃x,ns[i]? = some x:=#[_,bO Z1];obtain⟨y,hy⟩:∃y,ns[i+1]? = some y:=#[_,bO Z1];let vc:=sm _ _ Sy;let lo:=bK tt;let lt':=tj.len;rw[au] at lo;apply#[_,Z,Z,λNx hN=>dD ?_];apply#[_,Z,_,Z,ln,_,_,.str x,Z,Z,.of vc,by rw[Int.zero_add];exact L2.fq (by rw[cY,hx];rfl),_,Z,_,Z,_,_,Z,Z,ln,_,_,.str y,Z,Z,.of vc,by rw[show (0:Int)+(i:Int)+1=((i+1:Nat):Int) by omega];exact L2.fq (by rw[cY,hy];rfl),zl,λt ht=>?_];let s9:=aa.new (o:=.tup [.str x,.str y]) ht;let Sq:=s9 _ _ jk;apply#[out,Sq,by omega,hN _ _ #[gY (sm.trans s9) Ci,aq,ts++[(x,y)],?_,(tj.add N.nd hx hy (.inl Z)).next Z1]];rw[cj];exact iI (vA (tt.same s9) aq) Sq
 have tj:TJ ns 7 0 ts:=tj;let gt:=tj.good N.nd N.ok;have Gd:Good hs ts:=#[λh hh=>#[N.ok _ (by rw[<- eH];exact List.mem_map_of_mem hh),gH h hh],by rw[eH];exact N.nd,by omega,by omega,λt ht=>(gt t ht).1,tj.nd,by have:=tj.len;omega,λt ht=>#[by rw[eH];exact (gt t ht).2.1,by rw[eH];exact (gt t ht).2.2]];have Ri:Paired (PN H8) yp ps:=Paired.bL pn λ_ _ z=>z.keep λt vs e=>s8 _ _ e;apply RS Gd (s8 _ _ IP) (HM.same s8) Az tt (λp bP H9 s9 W fw=>#[_,Z,TV W Gd (s9 _ _ (s8 _ _ IH)) (Paired.bL Ri λ_ q ⟨z0,t,e,z⟩=>#[t,.non,e,s9 _ _ z,by rw[z0];rfl]) (λq hq=>?_) LB Z1 (λg qs fp HA sA GA Qq fr=>?_)])
 ·have hn:q.1∈ms:=by rw[<- Jk];exact List.mem_map_of_mem hq
  exact#[N6.ok _ hn,(gp q hq).1,by have:=(gp q hq).2.1;omega,λws e=>by rw[(gp q hq).2.2] at e;cases e]
 lk;let Q9:=s9.trans sA;let Ic:=s8.trans Q9;let D8:=k7.same s8;let B_:=k7.same Ic;have Rh:Paired (PN HA) yp ps:=Paired.bL Ri λ_ _ z=>z.keep λt vs e=>Q9 _ _ e;let Sw:=Ic _ _ IH;let hnA:=Ic _ _ Sy;let#[yF,G',sub,has]:=GA.wI
 have lfp:l∉yF:=λz=>by
  let#[xs8,SF]:=D8.some;rcases fr l (sub _ z) with z|z
  ·have:=fw l z;rw[SF] at this;cases this
  rw[s9 _ _ SF] at z;cases z
 obtain⟨n0,e0⟩:∃x,ns[0]? = some x:=#[_,bO Z1];apply#[_,Z,_,Z,lp,Z,#[_,.of Sw],λD nD=>?_];apply jz (own:=1) (fv:=[some (.ref ln)]) (xs:=yp) Z dW (λi out H'=>aa HA H'/\H' D\.lst out/\kE K H' out (bR ((ps.map (·.1)).take i) λ_=>n0)) #[aa.new nD,aq,.nil] (λi out H' _ ⟨sm,_⟩=>.of (sm _ _ Sw)) (λout HB ⟨sB,hDB,pa⟩=>?_) (λi y out H' hy ⟨sm,dU,pa⟩=>?_);rotate_left 1
 ·let#[q,hq,_,t,rfl,ht]:=kU (g:=id) (by rw[List.map_id];exact Rh) hy;let hi:=(cq.mp hq).1;let lo:=bK pa;rw[je,cX,au] at lo;apply#[_,Z,Z,λNx hN=>dD ?_];apply#[_,Z,t,_,_,.str q.1,Z,Z,.of (sm _ _ ht),Z,_,Z,ln,_,_,.str n0,Z,Z,.of (sm _ _ hnA),L2.fq (j:=0) (by rw[cY,e0];rfl),zl,λt2 AA=>?_];let xR:=aa.new (o:=.tup [.str q.1,.str n0]) AA;let F0:=xR _ _ dU;have Va:upd H' t2 (.tup [.str q.1,.str n0]) t2\.tup [.str q.1,.str n0]:=aq;apply#[out,F0,by omega,hN _ _ #[gY (sm.trans xR) nD,aq,?_]];have pD:∀{b:Addr} {ys:ag},upd H' t2 (.tup [.str q.1,.str n0]) b\.tup ys->b≠D:=λhb=>cb hb F0 nofun;rw[ij (show (ps.map (·.1))[i]? = some q.1 by rw[cY,hq];rfl)];show kE K _ _ (((ps.map (·.1)).take i++[q.1]).map _);rw[cj];exact jx (Paired.bL pa λy kv ⟨b,z,hb⟩=>#[b,z,by rw[aC (pD (xR _ _ hb))];exact xR _ _ hb]) (.cons #[t2,Z,by rw[aC (pD Va)];exact Va] .nil)
 let LH:=bK Rh;rw[LH,show ps.length=(ps.map (·.1)).length from (au ..).symm,eK] at pa;apply#[D,out,_,Z,hDB,pa,by rw[je,au];omega,λd nd=>?_]
 have mi:((bR (ps.map (·.1)) λ_=>n0).map (·.1)).Nodup:=by
  rw[GB,qE,pZ];exact LB.imp λn e=>n (g_ e)
 rw[BL mi];apply#[zl,λt nt=>?_];let sC:=aa.new (o:=.dK (bR (ps.map (·.1)) λ_=>n0)) nd;let sD:=aa.new (o:=.tup [.ref g,.ref d,.str "below one fall"]) nt;let Ib:=sB.trans (sC.trans sD);let#[r',bX,er]:=R4 "below one fall" Z0
 have pm:(ps.map (·.1)).Perm (qs.map (·.1)):=by
  rw[Qq.Cf];exact (xm _).symm
 let ql:=Qq.len
 have zr:∀q∈qs,1<=q.2.1/\q.2.1<=1000000000:=λq hq=>by
  let#[q',hq',rfl]:=Qq.mem q hq;exact#[(gp q' hq').1,by have:=(gp q' hq').2.1;show q'.2.1<=_;omega]
 have m0:n0∈hs.map (·.1):=by rw[eH];exact dC e0
 exact k t g p d r' hs ts qs yF (ps.map (·.1)) (λ_=>n0) _ (Qf.trans (aM.of (Ic.trans Ib))) (B_.same Ib) bX (by rw[er];exact aq) #[#[G'.same Ib,λm=>(by
  let#[o,e,_]:=has _ m;rw[sB _ _ e] at nd;cases nd),sD _ _ aq,#[pm,λ_ _=>m0],λb hb=>by
  let#[o,e,z]:=has b hb;exact#[o,Ib _ _ e,z]],#[Gd,Qq.nd LB,by omega,λ_ _=>m0,λq hq=>#[by have:=(zr q hq).1;omega,(zr q hq).2]],by omega,λq hq=>(zr q hq).1] ((B_.same sB).ne nd) lfp
end
end Ev
namespace Ev
open PySem L2
def NL(l:Addr)(H H':Hp):Prop:=∀b o,H b\o->(∀vs,o≠.tbl vs)->b≠l->H' b\o
theorem NL.trans{l:Addr}{H H1 H2:Hp}(a:NL l H H1)(b:NL l H1 H2):NL l H H2:=λc o e n m=>b c o (a c o e n m) n m
theorem NL.of{l:Addr}{H H':Hp}(s:NT H H'):NL l H H':=λb o e n _=>s b o e n
theorem NL.bt{l:Addr}{H H':Hp}(s:aM l H H'):NL l H H':=λb o e _ n=>s b o e n
theorem NL.nt{l:Addr}{H H1 H2:Hp}(b:NL l H1 H2)(nl:H l=none)(s:aa H H1):NT H H2:=λc o e n=>b _ _ (s _ _ e) n (bw e nl)
section
variable{K:af}{CG CW g p d l T1 T2:Addr}{H H':Hp}{hs:Xa}{ts:Xb}{qs:aK}{fp:ai}{ns:ae}{f:ao}
theorem Wo.but(O:Wo K CG CW H g p d hs ts qs fp ns f)(b:aM l H H')(st:bU H l)(dl:d≠l)(lfp:l∉fp):Wo K CG CW H' g p d hs ts qs fp ns f:=by
 let#[xs,hl]:=st.some
 exact#[#[O.S.G.keep (λc hc o e=>b _ _ e (λz=>lfp (z▸hc))) (λc zs e=>b _ _ e (cb e hl nofun)),O.S.i4,b _ _ O.S.hd dl,O.S.so,λc hc=>by
  let#[o,e,q]:=O.S.has c hc;exact#[o,b _ _ e (λz=>lfp (z▸hc)),q]],O.W,O.Rf,O.w1]
theorem Tb.but(t:Tb H T1 T2)(b:aM l H H')(st:bU H l):Tb H' T1 T2:=by
 let#[xs,hl]:=st.some;have kT:∀{T qn},cn H T qn->cn H' T qn:=λ⟨es,a1,a2⟩=>#[es,b _ _ a1 (λz=>by rw[z,hl] at a1;cases a1),λx hx=>b _ _ (a2 x hx) (λz=>by have:=a2 x hx;rw[z,hl] at this;cases this)];exact#[kT t.a,kT t.b,t.ne]
theorem T4{r:Rl}{te:TE}{E:XK}{H2 H3:Hp}{D ls:Addr}{ds:ai}{Q:VK}(hte:∀a H4 Q2,Dc K CG CW [.ref g,.ref a] H4 Q2 E->te [some (.ref a),some (.ref g)] H4 Q2)
  (O:Wo K CG CW H2 g p d hs ts qs fp ns f) (nt:NT H2 H3) (wL:H3 ls\.lst (ds.map V.ref)) (da:∀(j:Nat) (a:Addr),ds[j]? = some a->H2 a=none/\a≠ls/\H3 a\.dK (bR ns (runM r hs ts qs f j))) (l0:ds.length<=3001) (hD:H3 D=none)
  (k:∀(ss:List Int) (H':Hp),aa H3 H'->H' D\.lst (ss.map V.int)->ss.length=ds.length->Q (.ref D) H'):wR (zo K ls) (gz 0) qJ te [none,some (.ref g)] D H3 Q:=by
 let sz:=bZ;apply jz (own:=1) (fv:=[some (.ref g)]) (xs:=ds.map V.ref) Z dW (λi out H'=>aa H3 H'/\∃ss:List Int,ss.length=i/\H' D\.lst (ss.map V.int)/\out=ss.map V.int) #[aa.new hD,[],Z,aq,Z] (λi out H' _ ⟨sm,_⟩=>.of (sm _ _ wL)) (λout H' ⟨sm,ss,el,dU,eo⟩=>k ss H' sm dU (by rw[el,au])) (λi x out H' hx ⟨sm,ss,el,dU,eo⟩=>?_)
 obtain⟨a,ha,rfl⟩:∃a,ds[i]? = some a/\x=.ref a:=by
  rw[cY] at hx;cases z:ds[i]? with
  |none=>rw[z] at hx;cases hx
  |some a=>rw[z] at hx;cases hx;exact#[a,Z,Z]
 let#[na,Rz,ea]:=da i a ha
 have S3:o8 K CG CW H' g p a hs ts qs fp ns (runM r hs ts qs f i):=by
  apply#[(O.S.G.nt nt).same sm,λm=>?_,sm _ _ ea,#[O.S.so.perm,λn hn=>(O.W.run r i).at_ n (O.S.so.perm.mem_iff.mp hn)],λb hb=>?_]
  ·let#[o,e,_]:=O.S.has _ m;rw[na] at e;cases e
  let#[o,e,q]:=O.S.has b hb;exact#[o,sm _ _ (nt _ _ e q),q]
 apply#[_,Z,Z,λNx hN=>dD ?_];apply hte a _ _ #[g,p,a,hs,ts,qs,fp,ns,_,Z,S3,O.W.run r i,λH5 s5=>?_];let oE:=s5 _ _ dU;apply#[out,by rw[eo];exact oE,by rw[eo,au];have:=(cq.mp ha).1;omega,hN (out++[.int (hY hs qs (runM r hs ts qs f i))]) _ #[gY (sm.trans s5) hD,ss++[hY hs qs (runM r hs ts qs f i)],by rw[dM,el];rfl,?_,?_]]
 ·rw[aq,eo,cj];rfl
 rw[eo,cj];rfl
end
section
variable{P:Ad}{w:Af}{K:af}{mg:Str->Option Aa}{base:Heap}{CG CW T1 T2:Addr}
abbrev Z_:ae:=[fo,"_law_goods",wM,"_law_rule_here","_law_numbers","_law_k","_law_half","_law_spoilt"]
theorem yP:bq Z_ [fo] (aX sI):=bB
def rj(T1 T2:Addr):Sp:=λvs H Q _=>∃l:Addr,vs=[.ref l]/\bU H l/\Tb H T1 T2/\∀H',NL l H H'->Tb H' T1 T2->Q (.bl true) H'
theorem k0_{f0:Addr}{fd:Ae}(F:bf K "_law_long" "_law_long" sI f0 fd)(B:Bi mg)(w_:!aZ 9 "_law_row" yG (rA K CG CW))(Dk:!aZ 11 "_law_walked" o7 (JV K CG CW T1 T2))(GO:!aZ 6 "sum_of" vh (Dc K CG CW))(Do:!aZ 2 "_law_changed" oZ Pn)(yU:!aZ 12 "_law_right" Bq (JA K CG CW T1 T2)):!aj a9 13 f0 fd [fo] (rj T1 T2):=by
 exists F.bF yP;let#[l,rfl,st,tb,k]:=h;let sz:=bZ;refine' #[_,ax ?s1 (ax ?s2 (ax ?s3 (aA ?s4))),?kk]
 case s1=>exact Bx (aN w_ hr %[0,ay|0]) (mE Z (dB (cm 1 yP.nd) (dB (cm 2 yP.nd) (dB (cm 3 yP.nd) jd))))
 case' s2=>refine' BM (i:=4) oV 1 [1] yP.nd Z (Or.inl Z) (dN (aN Dk hr %[1,2,3,ay|0])) (λfp s H=>eY (i:=0) (show (oV:ae).Nodup by decide +kernel) Z (Or.inl Z)) (λfp s H=>gX) (λfp s H=>?te)
 case te=>exact aN GO hr %[1,0|0]
 case' s3=>refine' eR eE Z (xi (by rfl) B.range %[ay|0]) (cm 5 yP.nd) (ax ?b1 (ax ?b2 (aA ?b3)))
 case b1=>exact bh 6 yP.nd (bG xg (cc gc (by rfl) B.len fP %[4|0]) ay)
 case b2=>exact bh 7 yP.nd (bG yX (qA qy (pv 4) qw (qx (pv 6))) (aN Do hr %[0,qA qy (pv 4) (qx (pv 6)) qw|0]))
 case b3=>exact bx (dZ (di (aN yU hr %[1,2,3,7|0]))) eI bJ
 case s4=>exact aU (aN yU hr %[1,2,3,4|0])
 apply#[_,Z,l,5,Z,by decide,st,λt g p d r hs ts qs fp ns f H1 b1 fb AD ht O dl lfp=>?_];apply#[t,_,Z,.of ht,Z,_,_,Z,_,_,Z,_,_,Z,Z,?_];let vH:=tb.but b1 st;dsimp only;apply#[_,Z,_,Z,_,Z,g,p,d,60,hs,ts,qs,fp,ns,f,r,AD,Z,by decide,O,vH,λls ds n H2 b2 d7 uX wL ld n60 da _ _=>?_];let kz:=b2.nt vH;apply#[ls,Z,#[_,.of wL],λD hD=>?_];apply T4 (λa H4 Q2 h=>#[_,Z,_,Z,h]) O kz wL da Z1 hD λss H3 s3 A1 l3=>?_;let qc:=kz.trans (NT.of s3);let O3:=O.nt qc;let c_:=d7.nt s3;let dR:=fb.nt qc;have Dl:D≠l:=(fb.nt kz).ne hD;let Im:=(NL.bt b1).trans (NL.of qc);clear hD b1 fb ht O vH b2 d7 uX wL da kz s3 qc st tb;apply#[3,Z,by decide,by decide,yZ (lo:=0) (n:=3) (λi σ H'=>∃v5 v6 v7:aI,σ=[some (.ref l),some (.ref g),some (.ref d),some (.str r.1),some (.ref D),v5,v6,v7]/\NL l H H'/\Wo K CG CW H' g p d hs ts qs fp ns f/\Tb H' T1 T2/\bU H' l/\H' D\.lst (ss.map V.int)) #[_,_,_,Z,Im,O3,c_,dR,A1] ?_ ?_];rotate_left 1
 ·rintro σ H4 ⟨v5,v6,v7,rfl,uY,O4,dm,dS,iY⟩;exact#[_,Z,_,Z,_,Z,_,Z,g,p,d,D,ss,hs,ts,qs,fp,ns,f,r,AD,Z,O4,dm,iY,by omega,by omega,λH5 b5 iN=>k H5 (uY.trans (NL.of (b5.nt dm))) iN]
 clear Im O3 c_ dR A1;rintro i σ H4 hi ⟨v5,v6,v7,rfl,uY,O4,dm,dS,iY⟩;lk;apply#[_,Z,D,_,Z,.inl (.of iY),_,_,Z,Z,by unfold Hy;decide,?_];rw[show (((ss.map V.int).length:Int) / 2)=((ss.length / 2:Nat):Int) by rw[au];omega];obtain⟨h,eh⟩:∃h,h=ss.length / 2:=#[_,Z];rw[<- eh];lk;apply#[_,Z,_,Z,_,Z,D,_,Z,.of iY,λp1 EB=>?_];rw[Dv,<- List.map_take];let#[s5,e5]:=bg (o:=.lst ((ss.take h).map V.int)) EB;let Y1:=dS.ne EB;generalize upd H4 p1 (.lst ((ss.take h).map V.int))=H5 at s5 e5 ⊢;apply#[_,Z,_,Z,_,Z,_,Z,D,_,Z,.of (s5 _ _ iY),λp2 Lq=>?_];rw[Pz,<- List.map_drop];let s6:=aa.new (o:=.lst ((ss.drop h).map V.int)) Lq;let uT:=s5.trans s6;let gI:=dS.same uT;apply#[l,p2,ss.drop h,Z,gI,aq,(dS.same s5).ne Lq,by rw[pY];omega,by rw[pY];omega,λq iQ H7 b7 k7 nq ql hq l1 l2=>?_];rw[pY] at l2;let IH:=b7 _ _ (s6 _ _ e5) Y1;apply#[p1,q,_,_,Z,Z,IH,hq,by simp only[au,cX];omega,λz nz=>?_];rw[<- cj];let#[s8,e8]:=bg (o:=.lst ((ss.take h++iQ).map V.int)) nz;generalize upd H7 z (.lst ((ss.take h++iQ).map V.int))=H8 at s8 e8 ⊢;lk;let O8:=((O4.nt (NT.of uT)).but b7 gI dl lfp).nt (NT.of s8);let QW:=((dm.nt uT).but b7 gI).nt s8;let IY:=s8 _ _ (b7 _ _ (uT _ _ iY) Dl);let Zm:=((uY.trans (NL.of (NT.of uT))).trans (NL.bt b7)).trans (NL.of (NT.of s8));apply#[_,Z,_,Z,_,Z,_,Z,g,p,d,z,ss.take h++iQ,hs,ts,qs,fp,ns,f,r,AD,Z,O8,QW,e8,by rw[dM];omega,by rw[dM,cX];omega,λH9 b9 KG=>#[_,Z,aO ?_]];let uV:=b9.nt QW;exact#[_,_,_,Z,Zm.trans (NL.of uV),O8.nt uV,KG,(k7.same s8).nt uV,uV.lst IY]
end
end Ev
namespace Ev
open PySem L2
section
variable{P:Ad}{w:Af}{K:af}{mg:Str->Option Aa}{base:Heap}{CG CW T1 T2:Addr}
abbrev ZW:ae:=[wQ,"_law_deeds",fo,"_law_goods",wM,"_law_rule_here","_law_numbers","_law_cell","_law_spoilt","_law_k"]
theorem qt:bq ZW [wQ] (aX gJ):=bB
def nj(K:af)(T1 T2:Addr):Sp:=λvs H Q _=>∃(a:Addr) (ns:List Int),vs=[.ref a]/\Tb H T1 T2/\dJ K H a (ns.map V.int)/\ns.length<=63/\∀H',Q (.bl true) H'
theorem _h{f0:Addr}{fd:Ae}(F:bf K "law" "law" gJ f0 fd)(B:Bi mg)(cC:!aZ 1 "_law_cell_at" oS (rF K))(cD:!aZ 1 qu uy vy)(w4:!aZ 9 "_law_world" uM (ni K CG CW))(Dk:!aZ 11 "_law_walked" o7 (JV K CG CW T1 T2))(GO:!aZ 6 "sum_of" vh (Dc K CG CW))(Do:!aZ 2 "_law_changed" oZ Pn)(yU:!aZ 12 "_law_right" Bq (JA K CG CW T1 T2))(PL:!aZ 13 "_law_long" [fo] (rj T1 T2)):!aj a9 14 f0 fd [wQ] (nj K T1 T2):=by
 exists F.bF qt;let#[la,ns,rfl,tb,Fu,h63,k]:=h;let sz:=bZ;refine' #[_,?c0,?kk]
 case' c0=>refine' ax ?s1 ?c1
 case' c1=>refine' ax ?s2 ?c2
 case' c2=>refine' ax ?s3 ?c3
 case' c3=>refine' ax ?s4 ?c4
 case' c4=>refine' ax ?s5 ?c5
 case' c5=>refine' ax ?s6 ?c6
 case' c6=>refine' ax ?s7 (aA (aU qr))
 case s1=>exact bh 1 qt.nd (dH %[aN cC hr %[0,ay|0]|0])
 case s2=>exact bx (PW.pt (pW (bY gU (aN cD hr %[1,ay|0]) ay) (uB (dZ (di (aN PL hr %[1|0])))))) eI bJ
 case s3=>exact bh 2 qt.nd (dH %[aN cC hr %[0,ay|0]|0])
 case s4=>exact Bx (aN w4 hr %[2,ay,ay|0]) (mE Z (dB (cm 3 qt.nd) (dB (cm 4 qt.nd) (dB (cm 5 qt.nd) jd))))
 case' s5=>refine' BM (i:=6) oV 1 [3] qt.nd Z (Or.inl Z) (dN (aN Dk hr %[3,4,5,ay|0])) (λfp s H=>eY (i:=0) (show (oV:ae).Nodup by decide +kernel) Z (Or.inl Z)) (λfp s H=>gX) (λfp s H=>?te)
 case te=>exact aN GO hr %[1,0|0]
 case s6=>exact bx (dZ (di (aN yU hr %[3,4,5,6|0]))) eI bJ
 case' s7=>refine' eR eE Z ?i7 (cm 7 qt.nd) (ax ?b1 (ax ?b2 (ax ?b3 (aA ?b4))))
 case i7=>exact dN (qA qy (bG yX (qA qy (pv 0) (qx ay) qw) (dH %[ay,ay,ay,ay|0])) qw (qx ay))
 case b1=>exact bh 1 qt.nd (dH %[7|0])
 case b2=>exact bh 8 qt.nd (hG J_ (by rfl) B.list uA %[6|0])
 case b3=>exact eR eE Z (xi (by rfl) B.range %[bG fO ay (aN cD hr %[1,ay|0])|0]) (cm 9 qt.nd) (aA (bh 8 qt.nd (aN Do hr %[1,8|0])))
 case b4=>exact bx (dZ (di (aN yU hr %[3,4,5,8|0]))) eI bJ
 apply#[_,Z,la,ns,13,Z,by decide,Fu,λc=>#[zl,λl nl=>?_]];let s1:=aa.new (o:=.lst [.int c]) nl;have fb:bU (upd H l (.lst [.int c])) l:=.inl #[c,aq];generalize upd H l (.lst [.int c])=H1 at s1 fb ⊢;lk;apply iR (λσ H'=>NT H H'/\Tb H' T1 T2/\σ=[some (.ref la),some (.ref l),none,none,none,none,none,none,none,none]) ?m2 (λN1 iw=>?m1)
 case m1=>
  apply#[_,Z,l,8,Z,by decide,by decide,fb,λz H2 z0 z1 b2 dE=>#[Z,_,Z,?_]];have kz:NT H H2:=(NL.bt b2).nt nl s1;let d7:=(tb.nt s1).but b2 fb;apply aL (λc=>?_) (λc=>?_);rotate_left 1
  ·exact aO (iw _ _ #[kz,d7,Z])
  exact#[_,Z,l,Z,dE,d7,λH3 Im c_=>#[_,Z,aO (iw _ _ #[(((NL.bt b2).trans Im)).nt nl s1,c_,Z])]]
 rintro σ H2 ⟨kz,d7,rfl⟩;apply#[_,Z,la,ns,0,Z,by decide,Sf kz Fu,λc=>#[zl,λl2 Lw=>?_]];let s3:=aa.new (o:=.lst [.int c]) Lw;have dR:bU (upd H2 l2 (.lst [.int c])) l2:=.inl #[c,aq];generalize upd H2 l2 (.lst [.int c])=H3 at s3 dR ⊢;lk;apply#[_,Z,l2,5,Z,by decide,dR,λt g p d r hs ts qs fp Ez f H4 b4 dS AD ht O dl lfp nd=>?_];apply#[t,_,Z,.of ht,Z,_,_,Z,_,_,Z,_,_,Z,Z,?_];let xQ:=b4.same Lw s3;let g6:=kz.trans (NT.of xQ);let dm:=d7.nt xQ;clear s1 fb nl Lw s3 dR b4 dS ht dl lfp nd xQ kz d7;dsimp only;apply#[_,Z,_,Z,_,Z,g,p,d,15,hs,ts,qs,fp,Ez,f,r,AD,Z,by decide,O,dm,λls ds n H5 b5 iN uX wL ld RA da _ _=>?_];let x_:=b5.nt dm;apply#[ls,Z,#[_,.of wL],λD hD=>?_];apply T4 (λa H4 Q2 h=>#[_,Z,_,Z,h]) O x_ wL da Z1 hD λss H6 s6 yA l6=>?_;let pA:=x_.trans (NT.of s6);let O6:=O.nt pA;let zu:=iN.nt s6;let Ro:=g6.trans pA;clear hD O dm b5 iN uX wL da x_ s6 pA g6;apply#[_,Z,_,Z,_,Z,_,Z,g,p,d,D,ss,hs,ts,qs,fp,Ez,f,r,AD,Z,O6,zu,yA,by omega,by omega,λH7 b7 uR=>#[_,Z,aO ?_]];let Ak:=b7.nt zu;let O7:=O6.nt Ak;let hD7:=Ak.lst yA;let Lp:=Ro.trans Ak;clear O6 zu yA Ro b7 Ak;apply#[_,Z,_,Z,la,_,Z,Sf Lp Fu,λp1 n1=>#[zl,λp2 n2=>?_]];let lc:=VO (ns.map V.int) (some 1) none;rw[au] at lc;apply#[p1,p2,_,_,Z,Z,(aa.new n2) _ _ aq,aq,by show _+4<=_;omega,λp3 n3=>?_];apply#[_,Z,p3,_,Z,.of aq,λp4 n4=>?_];let s8:=(((aa.new (o:=.lst (cz (ns.map V.int) (some 1) none)) n1).trans (aa.new (o:=.lst [.int 0,.int 1,.int 2,.int 3]) n2)).trans (aa.new (o:=.lst (cz (ns.map V.int) (some 1) none++[.int 0,.int 1,.int 2,.int 3])) n3)).trans (aa.new (o:=.lst (cz (cz (ns.map V.int) (some 1) none++[.int 0,.int 1,.int 2,.int 3]) none (some 12))) n4)
 have E3:∀y∈cz (cz (ns.map V.int) (some 1) none++[.int 0,.int 1,.int 2,.int 3]) none (some 12),∃i,y=.int i:=λy hy=>by
  unfold cz at hy;rcases eZ.mp (List.mem_of_mem_drop (List.mem_of_mem_take hy)) with hy|hy
  ·let#[i,_,e]:=bH.mp (List.mem_of_mem_drop (List.mem_of_mem_take hy));exact#[i,e.symm]
  simp only[cw,List.not_mem_nil,or_false] at hy;rcases hy with rfl|rfl|rfl|rfl
  all_goals exact#[_,Z]
 generalize cz (cz (ns.map V.int) (some 1) none++[.int 0,.int 1,.int 2,.int 3]) none (some 12)=zs at E3 s8 ⊢;have e8:upd (upd (upd (upd H7 p1 (.lst (cz (ns.map V.int) (some 1) none))) p2 (.lst [.int 0,.int 1,.int 2,.int 3])) p3 (.lst (cz (ns.map V.int) (some 1) none++[.int 0,.int 1,.int 2,.int 3]))) p4 (.lst zs) p4\.lst zs:=aq;generalize upd (upd (upd (upd H7 p1 (.lst (cz (ns.map V.int) (some 1) none))) p2 (.lst [.int 0,.int 1,.int 2,.int 3])) p3 (.lst (cz (ns.map V.int) (some 1) none++[.int 0,.int 1,.int 2,.int 3]))) p4 (.lst zs)=H8 at s8 e8 ⊢;let O8:=O7.nt (NT.of s8);let IY:=s8 _ _ hD7;apply#[p4,Z,#[_,.of e8],hU (K:=K) (a:=p4) (xs:=zs) (λi σ H'=>∃v1 v7 v8 v9:aI,NT H8 H'/\Tb H' T1 T2/\σ=[some (.ref la),v1,some (.ref l2),some (.ref g),some (.ref d),some (.str r.1),some (.ref D),v7,v8,v9]) #[_,none,none,none,NT.refl _,uR.nt s8,Z] (λi σ H' _ ⟨_,_,_,_,nt,_⟩=>.of (nt.lst e8)) ?_ ?_];rotate_left 1
 ·exact λσ HX _=>k _
 rintro i y σ H9 hy ⟨v1,v7,v8,v9,uV,KG,rfl⟩;let#[c,rfl]:=E3 y (dC hy);lk;apply#[_,Z,zl,λlq nq=>?_];let sA:=aa.new (o:=.lst [.int c]) nq;have B_:bU (upd H9 lq (.lst [.int c])) lq:=.inl #[c,aq];generalize upd H9 lq (.lst [.int c])=HA at sA B_ ⊢;let Ew:=uV.trans (NT.of sA);let hDA:=Ew.lst IY;let OA:=O8.nt Ew;let X6:=KG.nt sA;have Dl:D≠lq:=bw (uV.lst IY) nq;have dl:d≠lq:=bw (O8.nt uV).S.hd nq
 have lfp:lq∉fp:=λz=>by
  let#[o,e,_]:=(O8.nt uV).S.has _ z;rw[nq] at e;cases e
 lk;apply#[_,Z,D,_,Z,.inl (.of hDA),λq1 Rq=>?_];let#[sB,eB]:=bg (o:=.lst (ss.map V.int)) Rq;show gz _ _ _ (upd HA q1 (.lst (ss.map V.int))) _;generalize upd HA q1 (.lst (ss.map V.int))=HB at sB eB ⊢;lk;let KZ:=B_.same sB;let Rg:=B_.ne Rq;apply#[_,Z,lq,2,Z,by decide,by decide,KZ,λz HC z0 z1 bC stC=>#[_,_,Z,Z,1+z,Z,by omega,by omega,yZ (lo:=0) (n:=(1+z).toNat) (λj σ H'=>∃(v9:aI) (q:Addr) (sp:List Int),σ=[some (.ref la),some (.ref lq),some (.ref l2),some (.ref g),some (.ref d),some (.str r.1),some (.ref D),some (.int c),some (.ref q),v9]/\NL lq HA H'/\bU H' lq/\Tb H' T1 T2/\Wo K CG CW H' g p d hs ts qs fp Ez f/\H' q\.lst (sp.map V.int)/\q≠lq/\1<=sp.length/\sp.length<=16+j) #[_,q1,ss,Z,(NL.of (NT.of sB)).trans (NL.bt bC),stC,(X6.nt sB).but bC KZ,(OA.nt (NT.of sB)).but bC KZ dl lfp,bC _ _ eB Rg,Rg,by omega,by omega] ?_ ?_]]
 ·rintro j σ HD hj ⟨w9,q,sp,rfl,Lv,HY,HQ,OD,hq,ql,m1,m2⟩;lk;apply#[_,Z,_,Z,lq,q,sp,Z,HY,hq,ql,m1,by omega,λq' Q6 HE bE Yc nq' YN hq' ZN m2'=>?_];exact#[_,q',Q6,Z,Lv.trans (NL.bt bE),Yc,HQ.but bE HY,OD.but bE HY dl lfp,hq',YN,ZN,by omega]
 rintro σ HD ⟨w9,q,sp,rfl,Lv,HY,HQ,OD,hq,ql,m1,m2⟩;apply#[_,Z,_,Z,_,Z,_,Z,g,p,d,q,sp,hs,ts,qs,fp,Ez,f,r,AD,Z,OD,HQ,hq,by omega,by omega,λHE bE X5=>#[_,Z,aO ?_]];exact#[_,_,_,_,uV.trans ((Lv.nt nq sA).trans (bE.nt HQ)),X5,Z]
end
end Ev
namespace Ev
open PySem L2
structure Fd (K:af) (mg:Str->Option Aa) (x:Str) (st:Stmt):Prop where
 ex:∃f fd,bf K x x st f fd/\mg x\.ref f/\PySem.W.keepIn K (.ref f)=true
theorem F8{K:af}{h:Heap}{mg:Str->Option Aa}{x:Str}{st:Stmt}(X:K.In h)(G:h.Ns mainGlobals mg){f:Addr}{oc:Aa}{od an:Option Addr}{jM:Array (Option Aa)}{kV doc pm aP ct:Aa}(a:PySem.W.nsIn K mainGlobals x\some (.ref f))
  (l:K.lookup f=some #[oc,od,.func (PySem.W.fnOf x x (jv st) (g9 st) (aX st) .none kV doc pm an aP ct),jM]) (c:PySem.W.codeIn K aP x=true) (k:PySem.W.keepIn K (.ref f)=true):Fd K mg x st:=#[_,_,Nb l c k,pQ X G a,k]
structure Md (K:af) (C:Addr) (m qual:Str) (st:Stmt):Prop where
 ex:∃f fd,bf K m qual st f fd/\Meth K C m f
theorem EI{K:af}{C:Addr}{m qual:Str}{st:Stmt}{f:Addr}{oc:Aa}{od an:Option Addr}{jM:Array (Option Aa)}{kV doc pm aP ct:Aa}(a:PySem.W.findIn K (.ref C) m\some (.ref f))(i:PySem.W.isFn K (.ref f)=true)
  (l:K.lookup f=some #[oc,od,.func (PySem.W.fnOf m qual (jv st) (g9 st) (aX st) .none kV doc pm an aP ct),jM]) (c:PySem.W.codeIn K aP qual=true) (k:PySem.W.keepIn K (.ref f)=true):Md K C m qual st:=#[_,_,Nb l c k,a,i,k]
theorem cal{P:Ad}{w:Af}{K:af}{mg:Str->Option Aa}{base:Heap}{x:Str}{st:Stmt}{k:Nat}{ps:ae}{sp:Sp}(d:Fd K mg x st)(ok:∀f fd,bf K x x st f fd->!aj a9 k f fd ps sp)
  (h:∀(kV doc pm:Aa) (an:Option Addr) (aP ct:Aa) (us:ak),us.length=ps.length->bindArgs (PySem.W.fnOf x x (jv st) (g9 st) (aX st) .none kV doc pm an aP ct) #[us,[]]=pure (ps.zip us)):!aZ k x ps sp:=by
 let#[f,fd,F,m,kp]:=d.ex;exact#[f,fd,ok f fd F,m,kp,F.binds h]
theorem Pi{P:Ad}{w:Af}{K:af}{mg:Str->Option Aa}{base:Heap}{C:Addr}{m qual:Str}{st:Stmt}{k:Nat}{ps:ae}{sp:Sp}(d:Md K C m qual st)(ok:∀f fd,bf K m qual st f fd->!aj a9 k f fd ps sp)
  (h:∀(kV doc pm:Aa) (an:Option Addr) (aP ct:Aa) (us:ak),us.length=ps.length->bindArgs (PySem.W.fnOf m qual (jv st) (g9 st) (aX st) .none kV doc pm an aP ct) #[us,[]]=pure (ps.zip us)):!br C k m ps sp:=by
 let#[f,fd,F,m]:=d.ex;exact#[f,fd,ok f fd F,m,F.binds h]
theorem Pj{P:Ad}{w:Af}{K:af}{mg:Str->Option Aa}{base:Heap}{C:Addr}{x qual:Str}{st:Stmt}{k:Nat}{ps:ae}{sp:Sp}(d:Md K C "__init__" qual st)(hx:mg x\.ref C)(mk:PySem.W.makesIn K C=true)(kc:PySem.W.keepIn K (.ref C)=true)(ok:∀f fd,bf K "__init__" qual st f fd->!aj a9 k f fd ps sp)
  (h:∀(kV doc pm:Aa) (an:Option Addr) (aP ct:Aa) (us:ak),us.length=ps.length->bindArgs (PySem.W.fnOf "__init__" qual (jv st) (g9 st) (aX st) .none kV doc pm an aP ct) #[us,[]]=pure (ps.zip us)):!gZ C k x ps sp:=by
 let#[f,fd,F,m]:=d.ex;exact#[f,fd,ok f fd F,#[mk,m.1,m.2,kc],hx,F.binds h]
theorem eP{K:af}{a:Addr}{od:Option Addr}{p q:Str}{x y:Tok}{z:Aa}{u:V}{n:Nat}{sl:Array (Option Aa)}(h:K.lookup a=some #[.type "tuple",od,.seq (List.toArray [.str p x,.str q y,z]) n,sl])(r:RelV u z):∀H,gE K H a [.str p,.str q,u]:=λH=>
 .inr #[_,_,_,h,Z,Z,(show 3<=sizeLine by decide),.cons #[x,Z] (.cons #[y,Z] (.cons r .nil))]
theorem rules_at{K:af}{w:Af}{mg:Str->Option Aa}{d:Addr}{es:Array DictEntry}{ep:Nat}{t0 t1 t2 t3 t4 t5 t6 t7 t8 t9 HV HU HS Q4 Q3 Q0 QZ:Tok}{b0 b1 b2 b3 b4 b5 b6 b7 b8 b9 oP Kk Kj xk qC Ki zc:Addr}
  {Ze Zd Zc Zb Za Y_ Y9 Y8 Y7 Y6 Ln Lm Ll Lk Lj Li Lh:Option Addr} {x0 y0 n0 v0 x1 y1 n1 v1 x2 y2 n2 v2 x3 y3 n3 v3 x4 y4 n4 v4 x5 y5 n5 v5 x6 y6 n6 v6 x7 y7 n7 v7 x8 y8 n8 v8 x9 y9 n9 v9 WX WH ZC v10 WW WG ZA v11 WV WE LD WU WD LC WT WC Zz Xj WS WB RA Xi WR WA Zy Xh:Nat} {Yx Yw HZ Yv Yu Yt Ys Yr Yq Yp K8 K7 K6 K5 K4 K3 K2:Array (Option Aa)}
  (m:mg "RULES"\.ref d) (hs:(d == sysModules)=false) (hl:K.lookup d=some #[.type "dict",none,.dict es ep,#[]]) (he:es.toList=Jp w [("least one high",t0,.ref b0),("least one fall",t1,.ref b1),("least one calm",t2,.ref b2),("least all high",t3,.ref b3),("least all fall",t4,.ref b4),("least all calm",t5,.ref b5),("below one high",t6,.ref b6),("below one fall",t7,.ref b7),("below one calm",t8,.ref b8),("below all high",t9,.ref b9),("below all fall",HV,.ref oP),("below all calm",HU,.ref Kk),("shares one",HS,.ref Kj),("shares all",Q4,.ref xk),("turns high",Q3,.ref qC),("turns fall",Q0,.ref Ki),("turns calm",QZ,.ref zc)])
  (u0:K.lookup b0=some #[.type "tuple",Ze,.seq (List.toArray [.str "least" x0,.str "one" y0,.str "high" v0]) n0,Yx])
  (u1:K.lookup b1=some #[.type "tuple",Zd,.seq (List.toArray [.str "least" x1,.str "one" y1,.str "fall" v1]) n1,Yw])
  (u2:K.lookup b2=some #[.type "tuple",Zc,.seq (List.toArray [.str "least" x2,.str "one" y2,.str "calm" v2]) n2,HZ])
  (u3:K.lookup b3=some #[.type "tuple",Zb,.seq (List.toArray [.str "least" x3,.str "all" y3,.str "high" v3]) n3,Yv])
  (u4:K.lookup b4=some #[.type "tuple",Za,.seq (List.toArray [.str "least" x4,.str "all" y4,.str "fall" v4]) n4,Yu])
  (u5:K.lookup b5=some #[.type "tuple",Y_,.seq (List.toArray [.str "least" x5,.str "all" y5,.str "calm" v5]) n5,Yt])
  (u6:K.lookup b6=some #[.type "tuple",Y9,.seq (List.toArray [.str "below" x6,.str "one" y6,.str "high" v6]) n6,Ys])
  (u7:K.lookup b7=some #[.type "tuple",Y8,.seq (List.toArray [.str "below" x7,.str "one" y7,.str "fall" v7]) n7,Yr])
  (u8:K.lookup b8=some #[.type "tuple",Y7,.seq (List.toArray [.str "below" x8,.str "one" y8,.str "calm" v8]) n8,Yq])
  (u9:K.lookup b9=some #[.type "tuple",Y6,.seq (List.toArray [.str "below" x9,.str "all" y9,.str "high" v9]) n9,Yp])
  (XW:K.lookup oP=some #[.type "tuple",Ln,.seq (List.toArray [.str "below" WX,.str "all" WH,.str "fall" v10]) ZC,K8])
  (XU:K.lookup Kk=some #[.type "tuple",Lm,.seq (List.toArray [.str "below" WW,.str "all" WG,.str "calm" v11]) ZA,K7])
  (XT:K.lookup Kj=some #[.type "tuple",Ll,.seq (List.toArray [.str "shares" WV,.str "one" WE,.none]) LD,K6])
  (XR:K.lookup xk=some #[.type "tuple",Lk,.seq (List.toArray [.str "shares" WU,.str "all" WD,.none]) LC,K5])
  (XQ:K.lookup qC=some #[.type "tuple",Lj,.seq (List.toArray [.str "turns" WT,.str "all" WC,.str "high" Xj]) Zz,K4])
  (XO:K.lookup Ki=some #[.type "tuple",Li,.seq (List.toArray [.str "turns" WS,.str "all" WB,.str "fall" Xi]) RA,K3])
  (XN:K.lookup zc=some #[.type "tuple",Lh,.seq (List.toArray [.str "turns" WR,.str "all" WA,.str "calm" Xh]) Zy,K2]) :
  Jx K w mg d [b0,b1,b2,b3,b4,b5,b6,b7,b8,b9,oP,Kk,Kj,xk,qC,Ki,zc]:=by
 apply#[m,Z,#[hs,?_,[("least one high",t0,.ref b0),("least one fall",t1,.ref b1),("least one calm",t2,.ref b2),("least all high",t3,.ref b3),("least all fall",t4,.ref b4),("least all calm",t5,.ref b5),("below one high",t6,.ref b6),("below one fall",t7,.ref b7),("below one calm",t8,.ref b8),("below all high",t9,.ref b9),("below all fall",HV,.ref oP),("below all calm",HU,.ref Kk),("shares one",HS,.ref Kj),("shares all",Q4,.ref xk),("turns high",Q3,.ref qC),("turns fall",Q0,.ref Ki),("turns calm",QZ,.ref zc)],_,es,ep,hl,#[Z,Z,Z],Z,he,?_],?_]
 ·rw[US Z];exact gW_
 ·exact .cons #[Z,Z] (.cons #[Z,Z] (.cons #[Z,Z] (.cons #[Z,Z] (.cons #[Z,Z] (.cons #[Z,Z] (.cons #[Z,Z] (.cons #[Z,Z] (.cons #[Z,Z] (.cons #[Z,Z] (.cons #[Z,Z] (.cons #[Z,Z] (.cons #[Z,Z] (.cons #[Z,Z] (.cons #[Z,Z] (.cons #[Z,Z] (.cons #[Z,Z] (.nil)))))))))))))))))
 exact .cons (eP u0 #[_,Z]) (.cons (eP u1 #[_,Z]) (.cons (eP u2 #[_,Z]) (.cons (eP u3 #[_,Z]) (.cons (eP u4 #[_,Z]) (.cons (eP u5 #[_,Z]) (.cons (eP u6 #[_,Z]) (.cons (eP u7 #[_,Z]) (.cons (eP u8 #[_,Z]) (.cons (eP u9 #[_,Z]) (.cons (eP XW #[_,Z]) (.cons (eP XU #[_,Z]) (.cons (eP XT Z) (.cons (eP XR Z) (.cons (eP XQ #[_,Z]) (.cons (eP XO #[_,Z]) (.cons (eP XN #[_,Z]) (.nil)))))))))))))))))
structure Tg (P:Ad) (w:Af) (b:Heap):Prop where
theorem bQ{P:Ad}{w:Af}{K:af}{mg:Str->Option Aa}{base:Heap}{x:Str}{st:Stmt}{k:Nat}{ps:ae}{sp:Sp}(q:Tg P w base)(d:Fd K mg x st)(ok:∀f fd,bf K x x st f fd->!aj a9 k f fd ps sp)(h:∀(kV doc pm:Aa) (an:Option Addr) (aP ct:Aa) (us:ak),us.length=ps.length->bindArgs (PySem.W.fnOf x x (jv st) (g9 st) (aX st) .none kV doc pm an aP ct) #[us,[]]=pure (ps.zip us):=by first|(exact λ_ _ _ _ _ _ us (hl:us.length=1)=>match us,hl with | [_],_=>rfl)|(exact λ_ _ _ _ _ _ us (hl:us.length=2)=>match us,hl with | [_,_],_=>rfl)|(exact λ_ _ _ _ _ _ us (hl:us.length=3)=>match us,hl with | [_,_,_],_=>rfl)|(exact λ_ _ _ _ _ _ us (hl:us.length=4)=>match us,hl with | [_,_,_,_],_=>rfl)|(exact λ_ _ _ _ _ _ us (hl:us.length=5)=>match us,hl with | [_,_,_,_,_],_=>rfl)|(exact λ_ _ _ _ _ _ us (hl:us.length=0)=>match us,hl with | [],_=>rfl)):!aZ k x ps sp:=cal d ok h
theorem mC{P:Ad}{w:Af}{K:af}{mg:Str->Option Aa}{base:Heap}{C:Addr}{m qual:Str}{st:Stmt}{k:Nat}{ps:ae}{sp:Sp}(q:Tg P w base)(d:Md K C m qual st)(ok:∀f fd,bf K m qual st f fd->!aj a9 k f fd ps sp)(h:∀(kV doc pm:Aa) (an:Option Addr) (aP ct:Aa) (us:ak),us.length=ps.length->bindArgs (PySem.W.fnOf m qual (jv st) (g9 st) (aX st) .none kV doc pm an aP ct) #[us,[]]=pure (ps.zip us):=by first|(exact λ_ _ _ _ _ _ us (hl:us.length=1)=>match us,hl with | [_],_=>rfl)|(exact λ_ _ _ _ _ _ us (hl:us.length=2)=>match us,hl with | [_,_],_=>rfl)|(exact λ_ _ _ _ _ _ us (hl:us.length=3)=>match us,hl with | [_,_,_],_=>rfl)|(exact λ_ _ _ _ _ _ us (hl:us.length=4)=>match us,hl with | [_,_,_,_],_=>rfl)|(exact λ_ _ _ _ _ _ us (hl:us.length=5)=>match us,hl with | [_,_,_,_,_],_=>rfl)|(exact λ_ _ _ _ _ _ us (hl:us.length=0)=>match us,hl with | [],_=>rfl)):!br C k m ps sp:=Pi d ok h
theorem Pk{P:Ad}{w:Af}{K:af}{mg:Str->Option Aa}{base:Heap}{C:Addr}{x qual:Str}{st:Stmt}{k:Nat}{ps:ae}{sp:Sp}(q:Tg P w base)(d:Md K C "__init__" qual st)(hx:mg x\.ref C)(mk:PySem.W.makesIn K C=true)(kc:PySem.W.keepIn K (.ref C)=true)(ok:∀f fd,bf K "__init__" qual st f fd->!aj a9 k f fd ps sp)(h:∀(kV doc pm:Aa) (an:Option Addr) (aP ct:Aa) (us:ak),us.length=ps.length->bindArgs (PySem.W.fnOf "__init__" qual (jv st) (g9 st) (aX st) .none kV doc pm an aP ct) #[us,[]]=pure (ps.zip us):=by first|(exact λ_ _ _ _ _ _ us (hl:us.length=1)=>match us,hl with | [_],_=>rfl)|(exact λ_ _ _ _ _ _ us (hl:us.length=2)=>match us,hl with | [_,_],_=>rfl)|(exact λ_ _ _ _ _ _ us (hl:us.length=3)=>match us,hl with | [_,_,_],_=>rfl)|(exact λ_ _ _ _ _ _ us (hl:us.length=4)=>match us,hl with | [_,_,_,_],_=>rfl)|(exact λ_ _ _ _ _ _ us (hl:us.length=5)=>match us,hl with | [_,_,_,_,_],_=>rfl)|(exact λ_ _ _ _ _ _ us (hl:us.length=0)=>match us,hl with | [],_=>rfl)):!gZ C k x ps sp:=Pj d hx mk kc ok h
theorem k5_(r:Rl)(hs:Xa)(ts:Xb)(qs:aK)(f:ao)(h:Str)(W:Wd hs ts qs f):(kI r hs ts qs f h).length<=1000:=by
 unfold kI;split
 ·exact pX (gt_ r hs ts qs f h) (by decide)
 split
 ·exact pX (gj_ r hs ts qs f h W) (by decide)
 exact g7_ r hs ts qs f h W
theorem all_mk{l:W.OpenLaw}{w:Af}{K:af}{h:Heap}{mg:Str->Option Aa}{fa CW CG CS d fl fh fr c1 c2 T1 T2:Addr}{Ph:Aa}{as:ai}(X:K.In h)(G:h.Ns mainGlobals mg)(hfa:mg "law"\.ref fa)
  (f0:Fd K mg "is_whole" vW)
  (f1:Fd K mg "is_whole_from" JK)
  (f2:Fd K mg "is_whole_within" lK)
  (f3:Fd K mg "is_name" sF)
  (f4:Fd K mg "lesser_first" N8)
  (f5:Fd K mg "is_pair_of_names" sy)
  (f6:Fd K mg "sorted_ties" N7)
  (f7:Fd K mg "greatest_divisor" Lb)
  (f8:Fd K mg "least_multiple" La)
  (f9:Fd K mg "is_hand_with_strength" sN)
  (f10:Fd K mg "checked_strengths" zV)
  (f11:Fd K mg "checked_ties" sk)
  (f12:Fd K mg "neighbours_of_all" sE)
  (f13:Fd K mg "checked_ways" ma)
  (f14:Fd K mg "checked_piece" NW)
  (f15:Fd K mg "checked_pieces" Oo)
  (f16:Fd K mg "checked_stand" Nu)
  (f17:Fd K mg "loads_at" OH)
  (f18:Fd K mg "multiple_of_strengths" sG)
  (f19:Fd K mg "levels_at" NC)
  (f20:Fd K mg "is_rule" Oc)
  (f21:Fd K mg Bm lJ)
  (f22:Fd K mg "fits" sQ)
  (f23:Fd K mg "heaviest_move" zY)
  (f24:Fd K mg "moves_by_least" Ow)
  (f25:Fd K mg "moves_by_below" Oh)
  (f26:Fd K mg "share_moves" zW)
  (f27:Fd K mg "moves_by_shares" Px)
  (f28:Fd K mg "moves_from" GK)
  (f29:Fd K mg "ties_anew" sT)
  (f30:Fd K mg "first_row_without" PJ)
  (f31:Fd K mg "moves_by_turns" OG)
  (f32:Fd K mg "moves_seen" jI)
  (f33:Fd K mg "checked_start" Ny)
  (f34:Fd K mg "checked_moments" P0)
  (f35:Fd K mg "moves_of" OQ)
  (f36:Fd K mg "rows_by" N0)
  (f37:Fd K mg "rests_at" Ot)
  (f38:Fd K mg "at_rest" N5)
  (f39:Fd K mg "sum_at" lO)
  (f40:Fd K mg "placed_after" lS)
  (f41:Fd K mg "begins_with" NO)
  (f42:Fd K mg "is_of_a_rest" NB)
  (f43:Fd K mg "is_of_a_ring" Ob)
  (f44:Fd K mg "fault_of_rest" l8)
  (f45:Fd K mg "fault_of_ring" lZ)
  (f46:Fd K mg "paper_fault" Nw)
  (f47:Fd K mg "sum_of" lN)
  (f48:Fd K mg "_law_cell_at" sS)
  (f49:Fd K mg qu l_)
  (f50:Fd K mg "_law_names" lV)
  (f51:Fd K mg "_law_web" sL)
  (f52:Fd K mg "_law_ways" sj)
  (f53:Fd K mg "_law_pieces" NP)
  (f54:Fd K mg "_law_stand" lP)
  (f55:Fd K mg "_law_rule" sx)
  (f56:Fd K mg "_law_world" lI)
  (f57:Fd K mg "_law_walked" NV)
  (f58:Fd K mg "_law_changed" OI)
  (f59:Fd K mg "_law_due" zZ)
  (f60:Fd K mg "_law_right" lR)
  (f61:Fd K mg "_law_row" zX)
  (f62:Fd K mg "_law_long" sI)
  (m0:Md K CW "__init__" "Web.__init__" sM)
  (m1:Md K CW "has_hand" "Web.has_hand" vX)
  (m2:Md K CW "hands" "Web.hands" lX)
  (m3:Md K CW "strength" "Web.strength" Pm)
  (m4:Md K CW "neighbours" "Web.neighbours" lU)
  (m5:Md K CW "are_tied" "Web.are_tied" sr)
  (m6:Md K CW "ties" "Web.ties" lM)
  (m7:Md K CW "most_neighbours" "Web.most_neighbours" sH)
  (m8:Md K CW "turns" "Web.turns" lL)
  (m9:Md K CG "__init__" "Goods.__init__" lY)
  (ZM:Md K CG "has_piece" "Goods.has_piece" sP)
  (ZL:Md K CG "names" "Goods.names" NU)
  (ZK:Md K CG "weight" "Goods.weight" Oj)
  (ZJ:Md K CG "may_go" "Goods.may_go" sO)
  (ZI:Md K CS "__init__" "Sight.__init__" lQ)
  (ZH:Md K CS "lead" "Sight.lead" sJ)
  (ZG:Md K CS "joint_strength" "Sight.joint_strength" lW)
  {Zg RL Vw Rj VP:Aa} {Y4 Wh:Option Addr} {Yn:Array (Option Aa)} {Zh kVh dch YW cth:Aa} {Y5 anh:Option Addr} {Yo:Array (Option Aa)} {Zf kVr dcr YV ctr:Aa} {Y3 anr:Option Addr} {Ym:Array (Option Aa)} {t8 t9 HV HU HS:Tok}
  (al:W.nsIn K mainGlobals "law"\some (.ref fl)) (ll:K.lookup fl=some #[Zg,Y4,.func (W.fnOf "law" "law" (jv gJ) (g9 gJ) (aX gJ) .none RL Vw Rj Wh Ph VP),Yn]) (cl:W.codeIn K Ph "law"=true) (kl:W.keepIn K (.ref fl)=true) (ah:W.nsIn K mainGlobals qk\some (.ref fh)) (lh:K.lookup fh=some #[Zh,Y5,.func (W.fnOf qk qk (jv hZ) (g9 hZ) (aX hZ) .none kVh dch YW anh (.ref c1) cth),Yo]) (gQ:W.codeIn K (.ref c1) qk=true) (kh:W.keepIn K (.ref fh)=true) (h1:W.codeHdIn K c1 T1=true) (aW:W.nsIn K mainGlobals "Web"\some (.ref CW)) (aG:W.nsIn K mainGlobals "Goods"\some (.ref CG)) (aS:W.nsIn K mainGlobals "Sight"\some (.ref CS)) (ar:W.findIn K (.ref CS) Bt\some (.ref fr)) (ir:W.isFn K (.ref fr)=true) (lr:K.lookup fr=some #[Zf,Y3,.func (W.fnOf Bt "Sight.rising_neighbours" (jv vj) (g9 vj) (aX vj) .none kVr dcr YV anr (.ref c2) ctr),Ym]) (YG:W.codeIn K (.ref c2) "Sight.rising_neighbours"=true) (kr:W.keepIn K (.ref fr)=true) (h2:W.codeHdIn K c2 T2=true) (c8_:W.nsIn K mainGlobals "MOST_LETTERS"\some (.int 8 t8)) (c9_:W.nsIn K mainGlobals "MOST_HANDS"\some (.int 8 t9)) (P4:W.nsIn K mainGlobals "MOST_STRENGTH"\some (.int 1000 HV)) (P3:W.nsIn K mainGlobals "MOST_WEIGHT"\some (.int 1000000000 HU)) (Hd:W.nsIn K mainGlobals "MOST_MOMENTS"\some (.int 3000 HS)) (W3:W.plainGet K CW Str.empty=true) (W_:W.hasDictIn K CW=true) (W2:W.plainOver K CW=true) (W0:W.findIn K (.ref CW) "__setattr__"\some (.builtin "object.__setattr__")) (W8:W.makesIn K CW=true) (W9:W.keepIn K (.ref CW)=true) (W7:W.findIn K (.ref CW) vk\none) (W6:W.findIn K (.ref CW) "sorted_pairs"\none) (W5:W.findIn K (.ref CW) Bc\none) (gpg:W.plainGet K CG Str.empty=true) (ghd:W.hasDictIn K CG=true) (gpo:W.plainOver K CG=true) (gsa:W.findIn K (.ref CG) "__setattr__"\some (.builtin "object.__setattr__")) (gmk:W.makesIn K CG=true) (gkc:W.keepIn K (.ref CG)=true) (gn0:W.findIn K (.ref CG) "web"\none) (gn1:W.findIn K (.ref CG) qm\none) (gn2:W.findIn K (.ref CG) A9\none) (Yf:W.plainGet K CS Str.empty=true) (YA:W.hasDictIn K CS=true) (Ye:W.plainOver K CS=true) (Yd:W.findIn K (.ref CS) "__setattr__"\some (.builtin "object.__setattr__")) (Yk:W.makesIn K CS=true) (Yz:W.keepIn K (.ref CS)=true) (Yj:W.findIn K (.ref CS) "wares"\none) (Yi:W.findIn K (.ref CS) iA\none) (Yh:W.findIn K (.ref CS) oN\none) (Yg:W.findIn K (.ref CS) Bo\none) (iha:W.findIn K (.ref CW) "__class__"\some (.builtin "object.__class__")) (ihn:W.specialIn K (.builtin "object.__class__") "__get__"\some (.builtin "getset_descriptor.__get__")) (itk:W.takesIn K (.builtin "object.__class__")\true) (imo:W.mroIn K CW (.type "object")\true) (DI:W.nsIn K mainGlobals "sum"\none) (z0:W.nsIn K mainGlobals "isinstance"\none) (z1:W.nsIn K mainGlobals "int"\none) (z2:W.nsIn K mainGlobals "bool"\none) (z3:W.nsIn K mainGlobals "str"\none) (z4:W.nsIn K mainGlobals "tuple"\none) (z5:W.nsIn K mainGlobals "list"\none) (z6:W.nsIn K mainGlobals "dict"\none) (z7:W.nsIn K mainGlobals "len"\none) (z8:W.nsIn K mainGlobals "all"\none) (z9:W.nsIn K mainGlobals "sorted"\none) (Wx:W.nsIn K mainGlobals "max"\none) (Ww:W.nsIn K mainGlobals "range"\none) (Wv:W.nsIn K mainGlobals "any"\none) (Wu:W.nsIn K mainGlobals "enumerate"\none) (Wt:W.nsIn K mainGlobals "min"\none) (Ws:W.nsIn K mainGlobals "abs"\none) (R:Jx K w mg d as) :
  ∃fd:Ae,(∀(s:Ab) (v:Aa),BindsTo s fd #[[v],[]] [(wQ,v)])/\(∀T'∈[T2,T1],isCodeTable h T')/\∀base:Heap,K.In base->base.Ns mainGlobals mg->(∀T'∈[T2,T1],base.BuiltinsAt mg T')->aj l.prog w K mg base a9 14 fa fd [wQ] (nj K T1 T2):=by
 let e:=hfa.symm.trans (pQ X G al);cases e;have B:Bi mg:=#[j6 X G z0,j6 X G z1,j6 X G z2,j6 X G z3,j6 X G z4,j6 X G z5,j6 X G z6,j6 X G z7,j6 X G z8,j6 X G z9,j6 X G Wx,j6 X G Ww,j6 X G Wv,j6 X G Wu,j6 X G Wt,j6 X G Ws];have TW:Txt K mg CW:=#[#[W3,W_,W2,W0],W7,W6,W5];have TG:dI K CG:=#[#[gpg,ghd,gpo,gsa],gn0,gn1,gn2];have TS:fW K CS:=#[#[Yf,YA,Ye,Yd],Yj,Yi,Yh,Yg];have IW:Hw K CW:=#[iha,ihn,itk,imo];let FL:=Nb (st:=gJ) ll cl kl;have FH:ko K qk qk hZ fh c1 _:=#[#[_,_,_,_,_,_,_,_,Z,lh,gQ],kh];have FR:ko K Bt "Sight.rising_neighbours" vj fr c2 _:=#[#[_,_,_,_,_,_,_,_,Z,lr,YG],kr];apply#[W.fnOf "law" "law" (jv gJ) (g9 gJ) (aX gJ) .none RL Vw Rj Wh Ph VP,λs v=>.of_eq Z,λT' CH=>?_,λbase KB _ ue=>?_]
 ·have cd:∀{c T0:Addr},W.codeHdIn K c T0=true->isCodeTable h T0:=λ{c _} z=>by
   let#[o,HF,file,tf,flags,tg,inF,text,tt,q1,q2,q3,q4,_]:=W.codeHd_of_K X z;exact#[c,o,HF,q1,q2,q3,q4]
  have CH:T'=T2∨T'=T1:=⇑CH
  rcases CH with rfl|rfl
  ·exact cd h2
  exact cd h1
 have q:Tg l.prog w base:=⟨⟩;let GZ:=bQ q f0 λ_ _ F=>kO_ F B;let um:=bQ q f2 λ_ _ F=>i8_ F GZ;let Po:=bQ q f1 λ_ _ F=>hP_ F GZ;let uv:=bQ q f3 λ_ _ F=>k7_ F B (pQ X G c8_);let BF:=bQ q f4 λ_ _ F=>gi_ F;let GU:=bQ q f5 λ_ _ F=>ke_ F B uv;let yT:=bQ q f6 λ_ _ F=>hK_ F B GU BF;let G4:=bQ q f9 λ_ _ F=>_W F B uv um (pQ X G P4);let cStr:=bQ q f10 λ_ _ F=>_r F B G4 (pQ X G c9_);let GL:=bQ q f11 λ_ _ F=>kI_ F B yT;let GW:=bQ q f12 λ_ _ F=>kb_ F BF;let GJ:=Pk q m0 (pQ X G aW) W8 W9 λ_ _ F=>kK_ F TW B cStr GL GW;let Ap:=mC q m1 λ_ _ F=>_p F TW B;let EK:=mC q m1 λ_ _ F=>_J F TW B;let iV:=mC q m2 λ_ _ F=>iU_ F TW B;let we:=mC q m3 λ_ _ F=>eE_ F TW Ap;let EJ:=mC q m4 λ_ _ F=>iv_ F TW B Ap;let ya:=mC q m5 λ_ _ F=>iI_ F TW EK;let PY:=bQ q f13 λ_ _ F=>im_ F TW yT ya;let cCP:=bQ q f14 λ_ _ F=>hn_ F B uv um PY (pQ X G P3);let PZ:=bQ q f15 λ_ _ F=>g6_ F B cCP;let uw:=Pk q m9 (pQ X G aG) gmk gkc λ_ _ F=>jd_ F TG TW IW B (pQ X G aW) PZ;let A4:=mC q ZM λ_ _ F=>kg_ (CW:=CW) F TG B;let A3:=mC q ZL λ_ _ F=>gh_ (CW:=CW) F TG B;let gy:=mC q ZK λ_ _ F=>fP_ (CP:=CW) F TG A4;let F3:=mC q ZJ λ_ _ F=>jN_ (CP:=CW) F TG TW A4 ya BF;let cGd:=bQ q f7 λ_ _ F=>Z9 F;let cLM:=bQ q f8 λ_ _ F=>ZT F cGd;let V5:=bQ q f16 λ_ _ F=>gI_ F B TG TW A4 Ap A3;let GY:=bQ q f17 λ_ _ F=>fZ_ F B TG TW iV gy;let cMu:=bQ q f18 λ_ _ F=>jI_ F TW cLM iV we;let JU:=bQ q f19 λ_ _ F=>gs_ F TG TW GY cMu we;have PR:aZ l.prog w K mg base 6 qk j7 (nA K CG CW T1):=#[_,_,_q FH B TG TW (W.codeHd_of_K KB h1) (ue T1 Z2) iV gy,pQ X G ah,kh,FH.fn.binds (λ_ _ _ _ _ _ us (hl:us.length=2)=>match us,hl with | [_,_],_=>rfl)];let mD:=Pk q ZI (pQ X G aS) Yk Yz λ_ _ F=>is_ F TS GY JU PR;let Ia:=mC q ZH λ_ _ F=>k9_ F TS TG TW we;let Q8:=mC q ZG λ_ _ F=>i9_ F TS TG TW we;have Q7:br l.prog w K mg base CS 4 Bt jw (Gk K CS CG CW T2):=#[_,_,jD_ FR B TS TG TW (W.codeHd_of_K KB h2) (ue T2 Z2) EJ,#[ar,ir,kr],FR.fn.binds (λ_ _ _ _ _ _ us (hl:us.length=2)=>match us,hl with | [_,_],_=>rfl)];let cIR:=bQ q f20 λ_ _ F=>gz_ F B R;let JT:=bQ q f21 λ_ _ F=>iV_ F R cIR;let cFi:=bQ q f22 λ_ _ F=>jV_ F;let PQ:=bQ q f23 λ_ _ F=>kQ_ F TS TG Ia Q8 cFi gy F3;let cBL:=bQ q f24 λ_ _ F=>fR_ F TS Q7 PQ;let cBB:=bQ q f25 λ_ _ F=>gb_ F TS Q7 Ia PQ;let ZF:=mC q m7 λ_ _ F=>jK_ F TW B;let Pr:=bQ q f26 λ_ _ F=>_v F TS TG TW Ia Q8 ZF gy F3;let cBS:=bQ q f27 λ_ _ F=>eM_ F TS TG TW EJ Ia Pr;let cMF:=bQ q f28 λ_ _ F=>fU_ (fO_ F cBL) (g1_ F cBB) (fS_ F cBS);let cAn:=bQ q f29 λ_ _ F=>_Z F;let ZE:=mC q m6 λ_ _ F=>i4_ F TW cAn;let w_:=bQ q f30 λ_ _ F=>_k F B;let RB:=mC q m8 λ_ _ F=>iL_ F B TW ZE w_;let cBT:=bQ q f31 λ_ _ F=>fY_ F B TS TG TW RB PQ;let w6:=bQ q f32 λ_ _ F=>iP_ (_L F TS TG TW (λr z=>z) k5_ JT iV cMF) (jb_ F JT cBT);let BB:=bQ q f33 λ_ _ F=>gc_ F JT V5;let PH:=bQ q f34 λ_ _ F=>eF_ F Po;let Dm:=bQ q f35 λ_ _ F=>gT_ F BB mD w6 PH;let GS:=bQ q f36 λ_ _ F=>hr_ F B TW JT RB;let BC:=bQ q f37 λ_ _ F=>j4_ F B TG mD w6 GS;let GR:=bQ q f38 λ_ _ F=>ip_ F BB BC;let GQ:=bQ q f39 λ_ _ F=>ik_ F (j6 X G DI) GY JU;let VY:=bQ q f40 λ_ _ F=>iN_ F B mD w6;let G0:=bQ q f0 λ_ _ F=>_I F B;let Pq:=bQ q f1 λ_ _ F=>fX_ F G0;let G6:=bQ q f41 λ_ _ F=>gG_ F B;let cOR:=bQ q f42 λ_ _ F=>gp_ F B (pQ X G Hd) G6 G0;let cOG:=bQ q f43 λ_ _ F=>gg_ F (pQ X G Hd) G6 Pq;let PU:=bQ q f44 λ_ _ F=>ib_ F B GQ BC VY;let PV:=bQ q f45 λ_ _ F=>j0_ F B TG GS BC VY;let PB:=bQ q f46 λ_ _ F=>h9_ F B BB cOR cOG PU PV;let G5:=bQ q f48 λ_ _ F=>kf_ F B;let i5:=bQ q f49 λ_ _ F=>i6_ F B;let BE:=bQ q f50 λ_ _ F=>iZ_ F B i5;let cLW:=bQ q f51 λ_ _ F=>_V F B i5 BE;let cLY:=bQ q f52 λ_ _ F=>kd_ F B i5;let cLP:=bQ q f53 λ_ _ F=>hW_ F B i5 BE cLY;let cLS:=bQ q f54 λ_ _ F=>ir_ F B i5;let cLR:=bQ q f55 λ_ _ F=>_U F i5;let w4:=bQ q f56 λ_ _ F=>ii_ F cLW cLP cLS cLR GJ uw;let Pt:=bQ q f47 λ_ _ F=>id_ F V5 GQ;let Dk:=bQ q f57 λ_ _ F=>hs_ F B GR Dm;let Do:=bQ q f58 λ_ _ F=>fE_ F B i5;let PX:=bQ q f59 λ_ _ F=>_F F B Pt GR Dm;let yU:=bQ q f60 λ_ _ F=>ig_ F B PB PX;let w_:=bQ q f61 λ_ _ F=>jS_ F B i5 BE GJ uw;let PL:=bQ q f62 λ_ _ F=>k0_ F B w_ Dk Pt Do yU;exact _h FL B G5 i5 w4 Dk Pt Do yU PL
theorem Tc{H:Hp}{T:Addr}{q:Str}(h:H T\.tbl #[]):cn H T q:=#[[],h,λe he=>by cases he]
theorem walk{l:PySem.W.OpenLaw}{q:Ad}{loose:ae}{XP:(Str->Option Aa)->Heap->Prop}{d:DefRec}{K:Params->af}{as:ai}{T1 T2:Addr}{Jn:∀P:Params,as=(K P).map (·.1)}(hn:l.most\63)(ub:d.params.defaults=[])(E8:([T2,T1].all λT=>!as.contains T)=true)(ne:T1≠T2)
  (F:∀(w:Af) (mg:Str->Option Aa) (fa:Addr) (h:Heap),(K w.params).In h->h.Ns mainGlobals mg->mg d.name\.ref fa->
   ∃fd:Ae,(∀(s:Ab) (u:Aa),BindsTo s fd #[[u],[]] [(wQ,u)])/\(∀T'∈[T2,T1],isCodeTable h T')/\∀base:Heap,(K w.params).In base->base.Ns mainGlobals mg->(∀T'∈[T2,T1],base.BuiltinsAt mg T')->aj l.prog w (K w.params) mg base a9 14 fa fd [wQ] (nj (K w.params) T1 T2)) :
  PySem.W.WalkO q loose XP (PySem.W.kmHook K as Jn [T2,T1]).says l.row.toRowW d [] (λf vs=>PySem.call f vs):=
 L2.qI (n:=63) (k:=14) (x:=wQ) (CX:=λ_=>a9) (sp:=λw=>nj (K w.params) T1 T2) hn (by decide) ub #[Z,by decide,by decide] E8 F (λ_ _ a ns hl hT hS=>#[a,ns,Z,#[Tc (hT T1 Z2),Tc (hT T2 Z2),ne],hS,hl,λ_=>rfl]) λ_ _ _ _ _ z=>z
end Ev
namespace PySem.W.Fast
universe tw17687640667751527072 tw9759022553273427971 tw10978722549310740995 tw984905782828978147 tw11340237773328692132 tw2621434172961015749 tw7277590598501343270 tw15298258794640784454 tw9226830029403361159 tw8057449623810489544 tw11621517019144324872 tw10162708750829995593 tw10683801077362853513 tw8024161442066147851 tw726478244063791019 tw727177813988152492 tw5667915530971063020 tw13467974336057672588 tw14466777478162812461 tw3332405423595569037 tw1673453916458591695 tw9091411304578463280 tw4815361063697325521 tw1277920099451535889 tw8151507185100468849 tw8187379573989216049 tw703115071344852082 tw1811618996969637298 tw626496984931281973 tw640801991077117077 tw13849363055663613525 tw14170074938312126646 tw16750548398713729623 tw14291676894675704475 tw10489433497004031643 tw7516212330805969116 tw13055198712947202269 tw5595800965105275709 tw3180630855264343965 tw1969479498520147038 tw15865689733096212991 tw162814998364859599 tw11794529517054481096 tw9811831047366757810 tw10821219267648829526 tw1668531815050666059 tw14721129660039389632 tw16425215449934941214 tw12995113524063639147 tw2692634108759144246 tw3806205212454618229 tw2170730165682551685 tw7201685226486456538 tw13801328428539441974 tw15656634376182826831 tw13084264661544527299 tw12622683983172171335 tw653214823627659461 tw15659836159134502078 tw4920047705316455035 tw6254763231310887942 tw4332958588602139798 tw12555527633145898596 tw1973002513563173638 tw16369401507766295408 tw11556847896400914326 tw919131082693544628 tw7513727632040952447 tw6599551693627709715 tw6581315177052340128 tw7996313957621008262 tw4815035633717985513 tw2197195564011843296 tw3862565771590883961 tw17553125804518056391 tw9987529162885945719 tw5888681213329532617 tw6205995602568713814 tw4015465166463688914 tw12195927571681889748 tw17920469838726793345 tw5605518295529828798 tw1966413113233959029 tw7238750212715395745 tw7745283357315134396 tw7921663670729732028 tw243005769631240663 tw669834124887947887 tw8190105499000300280 tw16629447162086580870 tw14632321317678585508 tw10935493205139512968 tw7512997359455362623 tw10740566715987245673 tw1860074511966113612 tw4892835830474835838 tw2358921830759848524 tw16876801136842889622 tw4421763394337016551 tw8667517516019442559 tw13733009105375135285 tw4574756064095915671 tw9785757145415779329 tw8319842457672498552 tw5270808793768792242 tw13261892027834707422 tw3054635522417541965 tw4774491829817834494 tw12740533014334899019 tw6910773032990981690 tw17578476073429829681 tw15948555875548507263 tw10148981776451329943 tw10282707029475681932 tw7100753095447460175 tw6461318719504439224 tw349215821485948331 tw2136201547832432068 tw17186542585742286683 tw14152875614400318183 tw12502794536565874406 tw12329527140432902104 tw15215284368073638788 tw16314674164357205927 tw14669007077316171533 tw2399963881812273191 tw17729989270600044537 tw3349357955459804720 tw18375918959544061891 tw12481404296499535916 tw7827102770725926973 tw10617052299891696782 tw15889646463042285418 tw9143893866528931246 tw3600164422127397616 tw17116730684689895644 tw9463287060186281262 tw10751793639422003526 tw3421497741123053706 tw11402592440917387172 tw11286419492610708578 tw12108647365425483103 tw8262430755107696983 tw16216192264022603914 tw4751506975012649806 tw1820744210814309267 tw5835432117238695389 tw13512179663585977683 tw2237635388696356056 tw1240687633702120801 tw9059418778143528254 tw15781292916167347480 tw17655122500383710043 tw14016268147546299444 tw16928336901744103853 tw5911882968969982555 tw8141731103971122484 tw6918138021293680729 tw5949764439444961175 tw4527479865438933680 tw8712388428961435550 tw13850577331722513823 tw9654239080257683076 tw13726951105989893509 tw12054788239425988296 tw17664378799900341735 tw275038288724274440 tw15952507576670573225 tw5462125797766211643 tw11369220958124412365 tw5963481907074065338 tw8484429340631020730 tw3161398422625060986 tw17737039472895117982 tw5682988542831943873 tw8975218093966234167 tw5123193882829526964 tw2581582059207665401 tw7933730818644193103 tw18338731534488940233 tw12149385125045750844 tw9534085899220693605 tw1626259609470811841 tw9540638086742201970 tw6352853263118811992 tw9328914611263502148 tw6136773905577794431 tw12581808525481075736 tw14287681923240638566 tw12207241578171888984 tw13824999453316589409 tw7204777812102477409 tw6563660206021476134 tw10279081618813696420 tw9714899087579871234 tw866379910665468395 tw10213912683539828019 tw3038269631505990483 tw11639960085950546228 tw11631532100907818157 tw12183998086758018439 tw12185189566825616513 tw11046552272386363620 tw11340499904995751748 tw10127822670083170056 tw2242601423045836885 tw17954631955582218163 tw5566989930081592434 tw18023593854883959851 tw12529671332200828511 tw1397482093355702374 tw15425680739724913823 tw10289753275469728035 tw1799688868365487819 tw4173580856588125005 tw17390054538847258621 tw1614103584994890248 tw7166743960060340299 tw11722965318602884692 tw297766908848725247 tw15499597156274333266 tw12618827751855210639 tw6529267788947341003 tw7810922682101965882 tw745512925569789216 tw3343857971309301947 tw373235201103429539 tw12624273604309597622 tw17672454763319948777 tw14714956091178928374 tw12277007512462585598 tw10455641778617429250 tw7172532765164773659 tw8900458706430702446 tw11779904139782700078 tw17756072574059749904 tw11296002839775526292 tw10997404770368463741 tw14431062572848923138 tw8439650794112448550 tw16164248471704777233 tw9533844931477077038 tw11516529328232514176 tw5905224971440593089 tw18171211084049354276 tw8782762398268001228 tw11546505106173762538 tw5284486681121346148 tw15332265904702377275 tw1477087202251632995 tw12455686162956696883 tw17045070844330388737 tw6606180419829287416 tw11199573169674123106 tw12297237445427402604 tw1436869837192979924 tw10011284411281371383 tw901749137484181204 tw4449130540151615684 tw8843731151728612594 tw13968416576701508375 tw1268301744716579717 tw9984182388007374232 tw13811292066624470903 tw18084710510604196379 tw5173363393866259077 tw3879721179713784431 tw15607828539997381457 tw9018706911500545834 tw5581776704081095130 tw1017085529155229677 tw12226066744935126266 tw9955877863496466849 tw5999575361478245001 tw9980012863163572422 tw5409240310868277756 tw7495187761178188192 tw15696686009535996646 tw3562804733937099816 tw7578499068651641734 tw6007818465809325280 tw11280706056193243855 tw17882814185611402699 tw6153514332209812885 tw858576177194323592 tw5161935972126057227 tw13243400365782013416 tw15474917303402116759 tw4856477606052610009 tw2685044123365437313 tw1954629981512044315 tw7030749408185106364 tw1808625503089014720 tw468947145560531720 tw16259024383265840221 tw2079832561282454692 tw9560552353861194216 tw9821764861545323726 tw11059125491493953704 tw6279425192739589762 tw16363249651200097586 tw3417395125842808246 tw17105762183694551215 tw9829952164339204338 tw10922385304667930450 tw8978481563570919709 tw9091621860535269079 tw13117557688916032334 tw2676442050788421135 tw8215247019209015062 tw10259742339350049436 tw2148614343363748957 tw9792117834325625537 tw15955813050668525899 tw4603156785971610149 tw16789210960117372698 tw7719894301234242158 tw11755067920150294047 tw15697943723464153893 tw1322555601137953511 tw16881855454645599078 tw16930640808106319903 tw10390916858699119756 tw11490838905332834122 tw6943823340041337765 tw8430346621840079592 tw14949546019592873742 tw16179608201769145175 tw6652243529383557605 tw10263482845677665325 tw5176465222502052669 tw10273093805451232189 tw2847696721505356418 tw8147945035151787480 tw12535767833226931585 tw3157660799214169993 tw2802023029881553421 tw1563631124341949807 tw14873407933922834500 tw3518594994273041771 tw5077407455653664988 tw5394225692212228090 tw17451739506314399470 tw16895889027406486449 tw15550543751951443332 tw9429793971506787433 tw5519519922226670697 tw13811916205809146161 tw15666495905207983545 tw7754561275241976698 tw2274246242376789864 tw16353060753534026305 tw6318121101293739079 tw3367331979671008549 tw8800996954275491642 tw7332452032302904646 tw9442948343350335804 tw3714622564157632134 tw3878173809105228040 tw4976193189463785462 tw9898481668976611081 tw8112998161042784944 tw18319414954092128963 tw14252342619043268414 tw9769088535374942956 tw16347501613794618659 tw5780303417722760808 tw11267154979905324743 tw9702699519407982748 tw16148332106002617670 tw4433581588773205130 tw941369099195123357 tw2306592880694843899 tw3502686041573185077 tw5653132151938526078 tw13948803873978137310 tw9410428651038254310 tw9610015085665623461 tw10114261495066215746 tw8339206786907756261 tw13522799438741195376 tw2826793991772549146 tw3140931821017032841 tw4818981680454570541 tw5209471572513880240 tw7528834162932987072 tw7351381128468341808 tw5459061270451899269 tw4074644348908122059 tw9932989354187521542 tw4211491718954917780 tw2177586428094077853 tw15565352429577775903 tw12366773638031311337 tw13622197065698243836 tw30279432456578011 tw12980188603611268550 tw16407352871647254256 tw15681594709018847496 tw18118818039927227087 tw7216798431351934343 tw7933073453507702905 tw13543197435463858879 tw682486805691316006 tw17185871558440612911 tw16999784093637076693 tw15184790150540580998 tw15092108502408060539 tw13352074209970779671 tw10960853968277656582 tw11771120542867266709 tw1045127571845782856 tw11041084238022654674 tw11156543014721633966 tw8997866568096755690 tw2597174680621234010 tw882725743227774441 tw4361272926557359286 tw17918630999809902313 tw10501030780922583607 tw1648548440405681099 tw13785649803532989344 tw101095660228118406 tw6966780075154140366 tw4981835871959542552 tw744796483562296011 tw1462471213916330735 tw181015332858892977 tw12065628365254118611 tw6794368110233210737 tw18021730377735582488 tw3775650281067892731 tw7225334000504635067 tw13900147118820331129 tw11300516632599341546 tw5016638529454591304
end PySem.W.Fast
open PySem PySem.W PyProof.Rows
set_option maxRecDepth 100000 in
local macro_rules|`(%[|$k:num])=>let i:=Lean.mkIdent;if k.getNat==1 then`(Ev.F8 $(i `KX) $(i `G) ?_ ?_ ?_ ?_)else`(Ev.EI ?_ ?_ ?_ ?_ ?_)
theorem PySem.Challenge.cw_evenpieces_k52_sums_spoilt_holds : PySem.Challenge.rw_evenpieces_k52_sums_spoilt.Holds := by
 w_on;o_law;k_head;(case hw=>w_witness2)
 k_fill
 apply Ev.walk (l:=PySem.Challenge.rw_evenpieces_k52_sums_spoilt) rfl rfl (by rfl) (by decide) ?F
 case F=>
  intro w mg fa h KX G hmg;refine' Ev.all_mk KX G hmg %[|1] %[|1] %[|1] %[|1] %[|1] %[|1] %[|1] %[|1] %[|1] %[|1] %[|1] %[|1] %[|1] %[|1] %[|1] %[|1] %[|1] %[|1] %[|1] %[|1] %[|1] %[|1] %[|1] %[|1] %[|1] %[|1] %[|1] %[|1] %[|1] %[|1] %[|1] %[|1] %[|1] %[|1] %[|1] %[|1] %[|1] %[|1] %[|1] %[|1] %[|1] %[|1] %[|1] %[|1] %[|1] %[|1] %[|1] %[|1] %[|1] %[|1] %[|1] %[|1] %[|1] %[|1] %[|1] %[|1] %[|1] %[|1] %[|1] %[|1] %[|1] %[|1] %[|1] %[|2] %[|2] %[|2] %[|2] %[|2] %[|2] %[|2] %[|2] %[|2] %[|2] %[|2] %[|2] %[|2] %[|2] %[|2] %[|2] %[|2] ?_ ?_ ?_ ?_ ?_ ?_ ?_ ?_ ?h1 ?aW ?aG ?aS ?_ ?_ ?_ ?_ ?_ ?h2 ?_ ?_ ?_ ?_ ?_ ?_ ?_ ?_ ?_ ?_ ?_ ?_ ?_ ?_ ?_ ?_ ?_ ?_ ?_ ?_ ?_ ?_ ?_ ?_ ?_ ?_ ?_ ?_ ?_ ?_ ?_ ?_ ?_ ?_ ?_ ?_ ?_ ?_ ?_ ?_ ?_ ?_ ?_ ?_ ?_ ?_ ?_ ?_ ?_ ?_ ?_ ?_ ?_ ?_ (Ev.rules_at ?rm ?rs ?rl ?re ?_ ?_ ?_ ?_ ?_ ?_ ?_ ?_ ?_ ?_ ?_ ?_ ?_ ?_ ?_ ?_ ?_)
  (case aW=>k_is);(case aG=>k_is);(case aS=>k_is)
  any_goals k_is
  (case h1=>kernel_rfl);(case h2=>kernel_rfl)
  case' rm=>refine' PySem.W.mg_of KX G ?rmn
  (first|(case rmn=>k_is)|(case rm=>k_is))
  (try (case rl=>k_is))
  (case rs=>rfl)
  (case re=>rfl)
  any_goals k_is

import PyProof.Rows.All
import Wide.All
import OpenK.AllK
import Wide.FinOn
import Lean
import PyProof.EqAt
import PyProof.EqKinds
import PyProof.TupleCall
import PyProof.FitsReplace
import KE.KLam
import KE.KSortTup
import PySem.Challenge.RW_evenpieces_k32_moves_can_be_made
set_option maxHeartbeats 0
set_option Elab.async false
set_option linter.all false
abbrev Xa:=List (PySem.Str × Int)
abbrev Xb:=List (PySem.Str × PySem.Str)
set_option maxRecDepth 100000
theorem aj:type_of% @PySem.wpAny_bind:=@PySem.wpAny_bind
abbrev Aa:=PySem.Value
theorem bH:type_of% @PySem.Heap.get?_push_of_some:=@PySem.Heap.get?_push_of_some
abbrev Ab:=PySem.Shared
theorem aQ:type_of% @PySem.wpAny_pure:=@PySem.wpAny_pure
theorem bE:type_of% @PySem.Paired.length:=@PySem.Paired.length
theorem dI:type_of% @PySem.Heap.get?_push_size:=@PySem.Heap.get?_push_size
theorem ao:type_of% @if_neg:=@if_neg
abbrev Ad:=PySem.Program
theorem bW:type_of% @decide_eq_true:=@decide_eq_true
abbrev Ae:=PySem.FuncData
theorem aC:type_of% @if_pos:=@if_pos
theorem bN:type_of% @PySem.Heap.lt_size:=@PySem.Heap.lt_size
theorem dA:type_of% @decide_eq_false:=@decide_eq_false
theorem dW:type_of% @Option.some.inj:=@Option.some.inj
theorem bU:type_of% @PySem.sizeLine_eq:=@PySem.sizeLine_eq
theorem eM:type_of% @PySem.PassesOwn.never:=@PySem.PassesOwn.never
abbrev Af:=PySem.World
theorem i8:type_of% @PySem.W.mg_none_of:=@PySem.W.mg_none_of
abbrev Ag:=PySem.Around
theorem o9:type_of% @PySem.F.plainAttrs_list:=@PySem.F.plainAttrs_list
theorem gP:type_of% @PySem.boot_len:=@PySem.boot_len
theorem jP:type_of% @decide_eq_true_eq:=@decide_eq_true_eq
theorem kj:type_of% @PySem.wpAny_loadPart':=@PySem.wpAny_loadPart'
theorem gO:type_of% @PySem.wpAny_holding:=@PySem.wpAny_holding
theorem i7:type_of% @PySem.wpAny_ite_false:=@PySem.wpAny_ite_false
theorem o8:type_of% @PySem.mem_of_lookup:=@PySem.mem_of_lookup
theorem By:type_of% @PyProof.Rows.F.plain_set_update_loop:=@PyProof.Rows.F.plain_set_update_loop
theorem dF:type_of% @congrArg:=@congrArg
theorem tP:type_of% @PySem.Heap.get?_update_other:=@PySem.Heap.get?_update_other
theorem hU:type_of% @Sum.inr.inj:=@Sum.inr.inj
theorem xt:type_of% @PySem.F.type_list_append:=@PySem.F.type_list_append
theorem xr:type_of% @PySem.F.slot_list_append:=@PySem.F.slot_list_append
theorem sP:type_of% @PySem.wpAny_truthy_bool:=@PySem.wpAny_truthy_bool
theorem tO:type_of% @PySem.wpAny_Call_Name_kw:=@PySem.wpAny_Call_Name_kw
theorem zX:type_of% @decide_eq_false_iff_not:=@decide_eq_false_iff_not
theorem xq:type_of% @PySem.Around.under_plainId:=@PySem.Around.under_plainId
theorem sO:type_of% @PySem.W.kia_one:=@PySem.W.kia_one
theorem Hh:type_of% @PyProof.Rows.F.entry_set_update_loop:=@PyProof.Rows.F.entry_set_update_loop
theorem Bg:type_of% @Classical.byContradiction:=@Classical.byContradiction
theorem vq:type_of% @of_decide_eq_true:=@of_decide_eq_true
theorem Z0{p:Prop}[Decidable p](h:decide p=true:=by decide +kernel):p:=of_decide_eq_true h
theorem Z1{p:Prop}(h:p:=by omega):p:=h
theorem Z2{p:Prop}(h:p:=by simp):p:=h
local macro_rules|`(#[$x,$xs,*])=>`(⟨$x,$xs,*⟩)
theorem Z{α:Sort _}{a:α}:a=a:=rfl
abbrev ag:=PySem.W.Frag
theorem aq:type_of% @List.length_map:=@List.length_map
theorem bP:type_of% @List.getElem?_eq_some_iff:=@List.getElem?_eq_some_iff
theorem di:type_of% @List.getElem?_eq_getElem:=@List.getElem?_eq_getElem
theorem a_:type_of% @List.mem_map:=@List.mem_map
theorem cn:type_of% @List.mem_of_getElem?:=@List.mem_of_getElem?
theorem aZ:type_of% @Nat.le_refl:=@Nat.le_refl
theorem dP:type_of% @List.mem_cons_of_mem:=@List.mem_cons_of_mem
theorem cE:type_of% @List.size_toArray:=@List.size_toArray
theorem cj:type_of% @List.length_take:=@List.length_take
theorem bX:type_of% @List.map_append:=@List.map_append
theorem dO:type_of% @List.mem_cons_self:=@List.mem_cons_self
theorem bO:type_of% @List.mem_cons:=@List.mem_cons
theorem bK:type_of% @List.map_map:=@List.map_map
theorem eF:type_of% @List.length_append:=@List.length_append
theorem dU:type_of% @List.getElem?_map:=@List.getElem?_map
theorem dG:type_of% @List.take_length:=@List.take_length
theorem eK:type_of% @List.mem_append:=@List.mem_append
theorem dc:type_of% @Nat.ne_of_lt:=@Nat.ne_of_lt
theorem dN:type_of% @List.map_cons:=@List.map_cons
theorem fZ:type_of% @Bool.false_ne_true:=@Bool.false_ne_true
theorem hV:type_of% @List.take_add_one:=@List.take_add_one
theorem iN:type_of% @Nat.lt_of_lt_of_le:=@Nat.lt_of_lt_of_le
theorem iM:type_of% @Bool.false_eq_true:=@Bool.false_eq_true
theorem pW:type_of% @List.nodup_iff_pairwise_ne:=@List.nodup_iff_pairwise_ne
theorem hX:type_of% @List.length_cons:=@List.length_cons
theorem mO:type_of% @List.mem_append_right:=@List.mem_append_right
theorem iR:type_of% @Bool.and_eq_true:=@Bool.and_eq_true
theorem mN:type_of% @Array.length_toList:=@Array.length_toList
theorem fB:type_of% @Nat.zero_le:=@Nat.zero_le
theorem sZ:type_of% @Int.eq_ofNat_of_zero_le:=@Int.eq_ofNat_of_zero_le
theorem mM:type_of% @List.pairwise_map:=@List.pairwise_map
theorem pA:type_of% @List.map_congr_left:=@List.map_congr_left
theorem ku:type_of% @List.getElem_mem:=@List.getElem_mem
theorem ph:type_of% @List.getElem_of_mem:=@List.getElem_of_mem
theorem sY:type_of% @List.length_replicate:=@List.length_replicate
theorem pf:type_of% @List.mem_singleton:=@List.mem_singleton
theorem mJ:type_of% @List.append_nil:=@List.append_nil
theorem vM:type_of% @List.take_of_length_le:=@List.take_of_length_le
theorem Aw:type_of% @List.getElem?_append_right:=@List.getElem?_append_right
theorem pe:type_of% @List.nodup_cons:=@List.nodup_cons
theorem ue:type_of% @List.mem_filterMap:=@List.mem_filterMap
theorem sX:type_of% @List.lookup_cons:=@List.lookup_cons
theorem BG:type_of% @List.getElem?_append_left:=@List.getElem?_append_left
theorem sW:type_of% @List.length_nil:=@List.length_nil
theorem oG:type_of% @Nat.le_trans:=@Nat.le_trans
theorem BF:type_of% @Option.isSome_iff_exists:=@Option.isSome_iff_exists
theorem vL:type_of% @List.flatMap_cons:=@List.flatMap_cons
theorem xA:type_of% @Int.emod_lt_of_pos:=@Int.emod_lt_of_pos
theorem vJ:type_of% @List.not_mem_nil:=@List.not_mem_nil
theorem xy:type_of% @List.nodup_append:=@List.nodup_append
theorem pY:type_of% @Nat.ne_of_gt:=@Nat.ne_of_gt
theorem vP:type_of% @Int.emod_nonneg:=@Int.emod_nonneg
theorem vO:type_of% @Bool.and_false:=@Bool.and_false
theorem vN:type_of% @Nat.lt_irrefl:=@Nat.lt_irrefl
namespace L2
open PySem PySem.Spec PyProof.Rows
abbrev Key:=Sum Int Str
def vx:Key->Aa->Bool
 |.inl k,v=>Value.isInt k v
 |.inr x,v=>Value.isStrOf x v
def JG(w:Af):Key->Int
 |.inl k=>hashInt k
 |.inr x=>hashStr w x
theorem pX:∀{k:Key} {v:Aa},vx k v=true->(∃i t,k=Sum.inl i/\v=Value.int i t)∨(∃x t,k=Sum.inr x/\v=Value.str x t)
 |.inl i,v,h=>by
  obtain⟨t,e⟩:=Value.isInt_shape (k:=i) (v:=v) h;exact .inl #[i,t,Z,e]
 |.inr x,v,h=>by
  obtain⟨t,e⟩:=Value.isStrOf_shape (x:=x) (v:=v) h;exact .inr #[x,t,Z,e]
theorem gH_(i:Int)(t:Tok):vx (.inl i) (.int i t)=true:=by simp[vx,Value.isInt]
theorem h6_(x:Str)(t:Tok):vx (.inr x) (.str x t)=true:=by simp[vx,Value.isStrOf]
theorem Xk(a b:Int):decide ((Sum.inl a:Key)=Sum.inl b)=(a == b):=by
 by_cases e:a=b
 ·subst e;simp
 ·have h:¬(Sum.inl a:Key)=Sum.inl b:=λq=>e (Sum.inl.inj q);rw[dA h];exact (beq_eq_false_iff_ne.mpr e).symm
theorem XG(a b:Str):decide ((Sum.inr a:Key)=Sum.inr b)=decide (a=b):=by
 by_cases e:a=b
 ·subst e;simp
 ·have h:¬(Sum.inr a:Key)=Sum.inr b:=λq=>e (hU q);rw[dA h,dA e]
theorem XJ(a:Int)(b:Str):decide ((Sum.inl a:Key)=Sum.inr b)=false:=dA (λq=>nomatch q)
theorem XO(a:Str)(b:Int):decide ((Sum.inr a:Key)=Sum.inl b)=false:=dA (λq=>nomatch q)
def dX(prog:Ad)(w:Af):PySem.KeyKind prog w Key where
 is:=vx
 hash:=JG w
 inj:=λv a b ha hb=>by
  rcases pX ha with⟨i,t,rfl,rfl⟩|⟨x,t,rfl,rfl⟩
  ·rcases pX hb with⟨j,u,rfl,e⟩|⟨y,u,rfl,e⟩
   ·injection e with e1 _;rw[e1]
   ·exact nomatch e
  ·rcases pX hb with⟨j,u,rfl,e⟩|⟨y,u,rfl,e⟩
   ·exact nomatch e
   ·injection e with e1 _;rw[e1]
 byValue:=λk v h=>by
  rcases pX h with⟨i,t,rfl,rfl⟩|⟨x,t,rfl,rfl⟩<;>rfl
 pyHash:=λhv h=>by
  rcases pX hv with⟨i,t,rfl,rfl⟩|⟨x,t,rfl,rfl⟩
  ·exact wpAny_pyHash_int h
  ·exact wpAny_pyHash_str h
 eqBool:=λhu hv h=>by
  rcases pX hu with⟨i,t,rfl,rfl⟩|⟨x,t,rfl,rfl⟩
  ·rcases pX hv with⟨j,u,rfl,rfl⟩|⟨y,u,rfl,rfl⟩
   ·rw[Xk] at h;exact wpAny_eqBool_int h
   ·rw[XJ] at h;exact SeqAt.EqAt.int_str i t y u _ _ _ _ h
  ·rcases pX hv with⟨j,u,rfl,rfl⟩|⟨y,u,rfl,rfl⟩
   ·rw[XO] at h;exact SeqAt.EqAt.str_int x t j u _ _ _ _ h
   ·rw[XG] at h;exact wpAny_eqBool_str h
 «strs»:=λk x t v h=>by
  rcases pX h with⟨i,u,rfl,e⟩|⟨y,u,rfl,e⟩
  ·exact nomatch e
  ·injection e with e1 _
   subst e1;cases v<;>rfl
theorem eD_(prog:Ad)(w:Af)(i:Int)(t:Tok):(dX prog w).is (.inl i) (.int i t)=true:=gH_ i t
theorem Nk(prog:Ad)(w:Af)(x:Str)(t:Tok):(dX prog w).is (.inr x) (.str x t)=true:=h6_ x t
inductive V where
 |non|bl (b:Bool)|int (i:Int)|str (x:Str)|byt (b:Array UInt8)|flt (b:UInt64)|ref (a:Addr)|ty (n:String)
 deriving DecidableEq
def RelV:V->Aa->Prop
 |.non,u=>u=Value.none
 |.bl b,u=>u=Value.bool b
 |.int i,u=>∃t,u=Value.int i t
 |.str x,u=>∃t,u=Value.str x t
 |.byt b,u=>∃t,u=Value.bytes b t
 |.flt b,u=>∃t,u=Value.float b t
 |.ref a,u=>u=Value.ref a
 |.ty n,u=>u=Value.type n
abbrev Vals:List V->List Aa->Prop:=Paired RelV
theorem Vals.length{xs:List V}{us:List Aa}(r:Vals xs us):xs.length=us.length:=bE r
theorem Vals.get:∀{xs:List V} {us:List Aa} {i:Nat} {x:V},Vals xs us->xs[i]? = some x->∃u,us[i]? = some u/\RelV x u
 |_,_,_,_,.nil,e=>by simp at e
 |_,_,0,_,.cons r _,e=>by simp at e;subst e;exact#[_,Z,r]
 |_,_,i+1,x,.cons _ t,e=>by
  obtain⟨u,h1,h2⟩:=Vals.get (i:=i) (x:=x) t (by simpa using e);exact#[u,by simpa using h1,h2]
theorem Vals.set{x:V}{u:Aa}(r:RelV x u):∀{xs:List V} {us:List Aa} (i:Nat),Vals xs us->Vals (xs.set i x) (us.set i u)
 |_,_,_,.nil=>.nil
 |_,_,0,.cons _ t=>.cons r t
 |_,_,i+1,.cons q t=>.cons q (Vals.set r i t)
theorem Vals.append:∀{xs ys:List V} {us ws:List Aa},Vals xs us->Vals ys ws->Vals (xs++ys) (us++ws)
 |_,_,_,_,.nil,s=>s
 |_,_,_,_,.cons r t,s=>.cons r (Vals.append t s)
theorem Vals.take:∀{xs:List V} {us:List Aa} (n:Nat),Vals xs us->Vals (xs.take n) (us.take n)
 |_,_,0,_=>.nil
 |_,_,_+1,.nil=>.nil
 |_,_,n+1,.cons r t=>.cons r (Vals.take n t)
theorem Vals.drop:∀{xs:List V} {us:List Aa} (n:Nat),Vals xs us->Vals (xs.drop n) (us.drop n)
 |_,_,0,r=>r
 |_,_,_+1,.nil=>.nil
 |_,_,n+1,.cons _ t=>Vals.drop n t
def dJ:Option V->Option Aa->Prop
 |some v,some u=>RelV v u
 |none,none=>True
 |_,_=>False
def KV{κ:Type}:List (κ × V)->List (κ × Aa)->Prop:=Paired λ(p:κ × V) (q:κ × Aa)=>p.1=q.1/\RelV p.2 q.2
def kV:Key->V
 |.inl i=>.int i
 |.inr x=>.str x
inductive HO where
  |lst (xs:List V)
  |tup (xs:List V)
  |dK (kvs:List (Key × V))|dT (kvs:List (List Key × V))
  |set (S:Int->Bool) (n:Nat)
  |ins (C dx:Addr) (fs:List (Str × V))
  |own (x:Addr)
  |xd (fs:List (Str × V))
  |met (f x:Addr)
  |rng (lo hi:Int)
  |frz (o:Obj) (u:HO)
  |tbl (ps:Array Aa)
  |ext (φ:Heap->Prop)
abbrev Hp:=Addr->Option HO
def upd(H:Hp)(a:Addr)(o:HO):Hp:=λb=>if b=a then some o else H b
variable{a:Addr}
theorem ay{H:Hp}{o:HO}:upd H a o a=some o:=by unfold upd;rw[aC Z]
variable{b:Addr}
theorem ax{H:Hp}{o:HO}(h:b≠a):upd H a o b=H b:=by unfold upd;rw[ao h]
theorem Y1{H:Hp}{o u:HO}:upd (upd H a o) a u=upd H a u:=by
 funext b;unfold upd;split<;>rfl
theorem bZ{H:Hp}{o u:HO}(h:H a=some o)(h':H b=some u)(d:o≠u):a≠b:=by
 intro e;subst e;rw[h] at h';exact d (dW h')
theorem bI{H:Hp}{o:HO}(h:H a=some o)(h':H b=none):a≠b:=by
 intro e;subst e;rw[h] at h';cases h'
section
variable(P:Ad)(w:Af)
def fb(H:Hp)(h:Heap)(a:Addr):HO->Prop
 |.lst xs=>xs.length<=sizeLine/\∃(its:List Aa) (n:Nat),Vals xs its/\h.get? a=some { cls:=.type "list",data:=.seq its.toArray n }
 |.tup xs=>xs.length<=sizeLine/\∃its:List Aa,Vals xs its/\IsTup h a its.toArray/\∃o,h.get? a=some o/\o.dict=none
 |.dK kvs=>kvs.length<=sizeLine/\(a == sysModules)=false/\∃vs,KV kvs vs/\h.DictOf (dX P w) a vs
 |.dT kvs=>kvs.length<=sizeLine/\(a == sysModules)=false/\∃xs:List (List Key × Addr × Aa),
   Paired (λ(p:List Key × V) (q:List Key × Addr × Aa)=>p.1=q.1/\H q.2.1=some (.tup (p.1.map kV))/\RelV p.2 q.2.2) kvs xs /\
   ∃o es ep,h.get? a=some o/\o.ExactDict/\o.data=.dict es ep/\es.toList=xs.map (entryOfKey (tupleKind (dX P w)))/\(xs.map (·.1)).Nodup
 |.set S n=>h.SetOf (intKind P w) a S n
 |.ins C dx fs=>H dx=some (.own a)/\fs.length<=1000/\dx≠a/\h.get? a=some (PySem.W.instObj C dx) /\
   ∃mA,h.Ns1 dx mA/\(∀f,dJ (fs.lookup f) (mA f))/\PySem.Within mA (fs.map (·.1))
 |.own _=>∃o,h.get? a=some o
 |.xd fs=>∃mA,h.Ns1 a mA/\∀f,dJ (fs.lookup f) (mA f)
 |.rng lo hi=>∃t u v,h.get? a=some { cls:=.type "range",data:=.fields (List.toArray [.int lo t,.int hi u,.int 1 v]) }
 |.frz o u=>h.get? a=some o/\fb H h a u
 |.tbl ps=>h.get? a=some { cls:=.none,data:=.fields ps }
 |.met f x=>h.get? a=some (PySem.W.methodObj (.ref f) (.ref x))
 |.ext φ=>φ h/\(∃o,h.get? a=some o)/\∀h1 h2:Heap,φ h1->(∀o,h1.get? a=some o->h2.get? a=some o)->φ h2
def eX(H:Hp)(h:Heap):Prop:=∀a o,H a=some o->fb P w H h a o
end
section
variable{P:Ad}{w:Af}{H H':Hp}{h h':Heap}{a:Addr}{o:HO}
theorem fb.lt(x:fb P w H h a o):a<h.objs.size:=by
 cases o with
 |lst xs=>obtain⟨_,_,_,_,e⟩:=x;exact bN e
 |tup xs=>obtain⟨_,_,_,p,_⟩:=x;exact p.lt
 |dK kvs=>obtain⟨_,_,_,_,o,_,_,e,_⟩:=x;exact bN e
 |dT kvs=>obtain⟨_,_,_,_,o,_,_,e,_⟩:=x;exact bN e
 |set S n=>obtain⟨o,_,_,_,e,_⟩:=x;exact bN e
 |ins C dx fs=>obtain⟨_,_,_,e,_⟩:=x;exact bN e
 |own y=>obtain⟨_,e⟩:=x;exact bN e
 |xd fs=>obtain⟨_,⟨_,_,_,e,_⟩,_⟩:=x;exact bN e
 |rng lo hi=>obtain⟨_,_,_,e⟩:=x;exact bN e
 |frz ob u=>obtain⟨e,_⟩:=x;exact bN e
 |tbl ps=>exact bN (show h.get? a=some _ from x)
 |met f y=>exact bN (show h.get? a=some _ from x)
 |ext φ=>obtain⟨_,⟨_,e⟩,_⟩:=x;exact bN e
theorem Paired.bo{α β:Type}{F G:α->β->Prop}:∀{C4:List α} {l₂:List β},Paired F C4 l₂->(∀a b,F a b->G a b)->Paired G C4 l₂
 |_,_,.nil,_=>.nil
 |_,_,.cons r t,f=>.cons (f _ _ r) (Paired.bo t f)
theorem fb.d9(x:fb P w H h a o)(k:∀b u,(b=a∨H b=some (.own a))->h.get? b=some u->h'.get? b=some u)
  (ho:∀b,H b=some (.own a)->H' b=some (.own a)) (ht:∀b xs,H b=some (.tup xs)->H' b=some (.tup xs)):fb P w H' h' a o:=by
 induction o with
 |lst xs=>obtain⟨z,its,n,r,e⟩:=x;exact#[z,its,n,r,k _ _ (.inl Z) e]
 |tup xs=>obtain⟨z,its,r,⟨ob,e,c⟩,o2,e2,c2⟩:=x;exact#[z,its,r,#[ob,k _ _ (.inl Z) e,c],o2,k _ _ (.inl Z) e2,c2]
 |dK kvs=>obtain⟨z,y,vs,r,ob,es,ep,e,c⟩:=x;exact#[z,y,vs,r,ob,es,ep,k _ _ (.inl Z) e,c]
 |dT kvs=>
  obtain⟨z,y,xs,r,ob,es,ep,e,c⟩:=x;exact#[z,y,xs,Paired.bo r λp q z=>#[z.1,ht _ _ z.2.1,z.2.2],ob,es,ep,k _ _ (.inl Z) e,c]
 |set S n=>obtain⟨ob,es,ep,t,e,c⟩:=x;exact#[ob,es,ep,t,k _ _ (.inl Z) e,c]
 |ins C dx fs=>
  obtain⟨d,z,ne,e,mA,⟨od,es,ep,e2,c⟩,r⟩:=x;exact#[ho _ d,z,ne,k _ _ (.inl Z) e,mA,#[od,es,ep,k _ _ (.inr d) e2,c],r]
 |own y=>obtain⟨ob,e⟩:=x;exact#[ob,k _ _ (.inl Z) e]
 |xd fs=>obtain⟨mA,⟨od,es,ep,e,c⟩,r⟩:=x;exact#[mA,#[od,es,ep,k _ _ (.inl Z) e,c],r]
 |rng lo hi=>obtain⟨t,u,v,e⟩:=x;exact#[t,u,v,k _ _ (.inl Z) e]
 |frz ob u ih=>obtain⟨e,q⟩:=x;exact#[k _ _ (.inl Z) e,ih q]
 |tbl ps=>
  have e:h.get? a=some { cls:=.none,data:=.fields ps }:=x;show h'.get? a=some { cls:=.none,data:=.fields ps };exact k a _ (.inl Z) e
 |met f y=>
  have e:h.get? a=some (PySem.W.methodObj (.ref f) (.ref y)):=x;show h'.get? a=some (PySem.W.methodObj (.ref f) (.ref y));exact k a _ (.inl Z) e
 |ext φ=>obtain⟨p,⟨o,e⟩,st⟩:=x;exact#[st _ _ p λo q=>k _ _ (.inl Z) q,#[o,k _ _ (.inl Z) e],st]
theorem eX.lt(x:eX P w H h)(e:H a=some o):a<h.objs.size:=(x a o e).lt
theorem eX.fresh(x:eX P w H h)(e:h.objs.size<=a):H a=none:=by
 cases q:H a with
 |none=>rfl
 |some u=>exact absurd (iN (x.lt q) e) (vN _)
theorem eX.kept(x:eX P w H h)(k:∀b u,h.get? b=some u->h'.get? b=some u):eX P w H h':=λa o e=>
 (x a o e).d9 (λb u _ q=>k b u q) (λ_ q=>q) λ_ _ q=>q
theorem eX.laid(x:eX P w H h)(k:∀b u,h.get? b=some u->h'.get? b=some u)(hp:h.objs.size<=a)(new:fb P w (upd H a o) h' a o):eX P w (upd H a o) h':=λb u e=>by
 have hn:=x.fresh hp;by_cases hb:b=a
 ·subst hb;rw[ay] at e;cases e;exact new
 ·rw[ax hb] at e;exact (x b u e).d9 (λc v _ q=>k c v q) (λc q=>by rw[ax (bI q hn)];exact q) λc xs q=>by rw[ax (bI q hn)];exact q
end
def Rd(H:Hp)(a:Addr)(u:HO):Prop:=H a=some u∨∃o,H a=some (.frz o u)
theorem Rd.of{H:Hp}{u:HO}(h:H a=some u):Rd H a u:=.inl h
variable{P:Ad}{h:Heap}
theorem Rd.ok{w:Af}{H:Hp}{u:HO}(r:Rd H a u)(x:eX P w H h):fb P w H h a u:=by
 rcases r with r|⟨o,r⟩
 ·exact x a u r
 ·obtain⟨_,q⟩:=x a _ r;exact q
def Fp:Option HO->Prop
 |some (.lst _)=>True
 |some (.dK _)=>True
 |some (.dT _)=>True
 |some (.set _ _)=>True
 |some (.ins _ _ _)=>True
 |some (.ext _)=>True
 |_=>False
section
variable{P:Ad}{w:Af}{H:Hp}{h h':Heap}{x e:Addr}{o':HO}
theorem eX.write(ok:eX P w H h)(mu:Fp (H x))(he:e=x∨H e=some (.own x))(k:∀b u,b≠e->h.get? b=some u->h'.get? b=some u)(A1:∃u,h'.get? e=some u)
  (new:fb P w (upd H x o') h' x o'):eX P w (upd H x o') h':=λb u q=>by
 have CU:∀c y,H c=some (.own y)->c≠x:=λc y r z=>by subst z;rw[r] at mu;exact mu
 have Jg:∀c xs,H c=some (.tup xs)->c≠x:=λc xs r z=>by subst z;rw[r] at mu;exact mu
 by_cases hb:b=x
 ·subst hb;rw[ay] at q;cases q;exact new
 ·rw[ax hb] at q;by_cases zu:b=e
  ·have q':H b=some (.own x):=by
    rcases he with z|z
    ·exact absurd (zu.trans z) hb
    ·rw[zu];exact z
   rw[q] at q';cases q';obtain⟨v,hv⟩:=A1;exact#[v,by rw[zu];exact hv]
  ·refine (ok b u q).d9 (λc v hc r=>k c v ?_ r) (λc r=>by rw[ax (CU c b r)];exact r) λc xs r=>by rw[ax (Jg c xs r)];exact r
   rcases hc with rfl|hc
   ·exact zu
   ·rintro rfl;rcases he with z|z
    ·exact CU c b hc z
    ·rw[hc] at z;cases z;exact hb Z
end
structure Un (fs ex:List Addr) (H H':Hp) (h h':Heap):Prop where
 keep:∀b o,h.get? b=some o->H b=none->b∉fs->b∉ex->h'.get? b=some o
 slot:∀b o,h.get? b=some o->H b=none->b∈fs->b∉ex->∃sl,h'.get? b=some { o with slots:=sl }
 free:∀b o,h.get? b=some o->H b=none->b∉ex->H' b=none
 there:∀b o,h.get? b=some o->b∉ex->∃o',h'.get? b=some o'
 iq:∀b xs,H b=some (.tup xs)->H' b=some (.tup xs)
 fX:∀b o u,H b=some (.frz o u)->H' b=some (.frz o u)
 gX:∀b ps,H b=some (.tbl ps)->∃more,H' b=some (.tbl (ps++more))
section
variable{fs fs' ex ex':List Addr}{H H1 H2:Hp}{h h1 h2 h':Heap}{a x e:Addr}{o:HO}
theorem Un.any(u:Un fs ex H H1 h h1){ob:Obj}(q:h.get? b=some ob)(n:H b=none)(hx:b∉ex):∃sl,h1.get? b=some { ob with slots:=sl }:=by
 by_cases hb:b∈fs
 ·exact u.slot b ob q n hb hx
 ·exact#[ob.slots,u.keep b ob q n hb hx]
theorem Un.kept(k:∀b u,h.get? b=some u->h'.get? b=some u):Un fs ex H H h h':=
 #[λb ob q _ _ _=>k b ob q,λb ob q _ _ _=>#[ob.slots,k b ob q],λ_ _ _ n _=>n,λb ob q _=>#[ob,k b ob q],λ_ _ q=>q,λ_ _ _ q=>q,λ_ ps q=>#[#[],by rw[q];simp]]
theorem Un.refl:Un fs ex H H h h:=Un.kept λ_ _ q=>q
theorem Un.laid(k:∀b u,h.get? b=some u->h'.get? b=some u)(hp:h.objs.size<=a)(hn:H a=none):Un fs ex H (upd H a o) h h' where
 keep:=λb u q _ _ _=>k b u q
 slot:=λb u q _ _ _=>#[u.slots,k b u q]
 free:=λb u q n _=>by rw[ax (dc (iN (bN q) hp))];exact n
 there:=λb u q _=>#[u,k b u q]
 iq:=λb xs q=>by rw[ax (bI q hn)];exact q
 fX:=λb u xs q=>by rw[ax (bI q hn)];exact q
 gX:=λb ps q=>#[#[],by rw[ax (bI q hn),q];simp]
theorem Un.write(mu:Fp (H x))(he:e=x∨H e=some (.own x))(k:∀b u,b≠e->h.get? b=some u->h'.get? b=some u)(A1:∃u,h'.get? e=some u):Un fs ex H (upd H x o) h h':=by
 have hx:∀b,H b=none->b≠x:=λb n z=>by subst z;rw[n] at mu;exact mu
 have hb:∀b,H b=none->b≠e:=λb n z=>by
  subst z;rcases he with r|r
  ·exact hx b n r
  ·rw[n] at r;cases r
 have hm:∀b u,H b=some u->¬Fp (some u)->b≠x:=λb u q nm z=>by subst z;rw[q] at mu;exact nm mu
 refine#[λb u q n _ _=>k b u (hb b n) q,λb u q n _ _=>#[u.slots,k b u (hb b n) q],λb u q n _=>by rw[ax (hx b n)];exact n,λb u q _=>?_,
  λb xs q=>by rw[ax (hm b _ q λz=>z)];exact q,λb u xs q=>by rw[ax (hm b _ q λz=>z)];exact q,λb ps q=>#[#[],by rw[ax (hm b _ q λz=>z),q];simp]]
 by_cases zu:b=e
 ·subst zu;exact A1
 ·exact#[u,k b u zu q]
end
def FA(h:Heap)(H:Hp):List Addr:=(List.range h.objs.size).filter λa=>(H a).isSome
def g8(h:Heap)(H:Hp):Heap:=PySem.W.hideAll h (FA h H)
theorem gD_(h:Heap)(H:Hp):(g8 h H).objs.size=h.objs.size:=PySem.W.hideAll_size _ _
variable{o:Obj}
theorem ZQ{H:Hp}(e:h.get? b=some o)(n:H b=none):(g8 h H).get? b=some o:=
 PySem.W.hideAll_get _ e λhm=>by
  have q:(H b).isSome=true:=(List.mem_filter.mp hm).2;rw[n] at q;simp at q
theorem Y9{H:Hp}(e:(g8 h H).get? b=some o):h.get? b=some o/\H b=none:=by
 have e':h.get? b=some o:=PySem.W.of_hideAll (FA h H) e;refine#[e',?_];cases q:H b with
 |none=>rfl
 |some x=>
  have hm:b∈FA h H:=List.mem_filter.mpr #[List.mem_range.mpr (bN e'),by simp[q]];have z:(g8 h H).get? b=none:=PySem.W.hideAll_none (FA h H) hm;rw[z] at e;cases e
structure Mod (K:ag) (mg:Str->Option Aa) (base:Heap):Prop where
 De:K.In base
 glob:base.Ns mainGlobals mg
 blt:∃mb,base.Ns builtinsNs mb/\∀x:Str,x≠"__name__"->mb x=bootBuiltins x
 nolimit:base.NoLimit
structure Cx where
 prog:Ad
 w:Af
 K:ag
 mg:Str->Option Aa
 base:Heap
 A:Ag
 N:List Str
 b_:Ab
 j1:Hp
 env:Env
 outer:List Env
 stack:List Env
 ex:List Addr
 fn:Str->Bool
 calm:Bool
 pn:List (Addr × Obj)
 xe:Aa->Ab->Prop
def oY(l:List Env):List Addr:=l.filterMap (·.frame)
abbrev Cx.fs(X:Cx):List Addr:=oY X.outer
def Nz(sc:Scope)(x:Str):Prop:=sc.names.lookup x=some .local∨sc.names.lookup x=some .cell∨sc.names.lookup x=some .free
def Loc(sc:Scope)(x:Str):Prop:=sc.names.lookup x=some .local∨sc.names.lookup x=some .cell
def Look(env:Env)(h:Heap)(m:Str->Option Aa)(x:Str)(u:Aa):Prop:=
 (env.kindOf x=some .local/\m x=some u)∨((env.kindOf x=some .cell∨env.kindOf x=some .free)/\∃c,env.cells.lookup x=some c/\h.IsCell c (some u))
structure Cx.Ok (X:Cx):Prop where
 mod:Mod X.K X.mg X.base
 kind:X.env.scope.kind=.function
 glob:X.env.globals=mainGlobals
 blt:X.env.builtins=builtinsNs
 above:X.b_.heap.objs.size<=X.env.locals
 inj:∀x y c,X.env.cells.lookup x=some c->X.env.cells.lookup y=some c->x=y
 has:∀x,(X.env.kindOf x=some .cell∨X.env.kindOf x=some .free)->∃c,X.env.cells.lookup x=some c
 Bo:∀x c,X.fn x=true->X.env.cells.lookup x=some c->X.b_.heap.objs.size<=c
 hd:X.calm=true->X.A.handled=none
 frames:X.A.frames=some X.stack
 FF:X.stack=X.outer∨(X.stack=X.env::X.outer/\X.env.frame=some X.env.locals)
 Gz:∀b∈X.ex,b≠X.env.locals/\∀x c,X.env.cells.lookup x=some c->c≠b
 bs:∀b o,X.base.get? b=some o->X.b_.heap.get? b=some o/\X.j1 b=none
 sS:X.base.objs.size<=X.b_.heap.objs.size
 rN:∀b o,X.base.get? b=some o->b∉X.ex
 sI:∀b∈X.ex,b∉X.fs
 fo:X.b_.heap.FunFrames X.base X.outer
 vi:∀b∈X.fs,X.j1 b=none
structure Inv (X:Cx) (pins:List (Addr × Obj)) (σ:List (Option V)) (H:Hp) (s:Ab):Prop where
 ok:X.Ok
 os:s.os=X.b_.os
 bare:AllBare s.gens
 base:Un X.fs X.ex X.j1 H X.b_.heap s.heap
 loc:∃m,s.heap.Ns X.env.locals m/\∀(i:Nat) (x:Str) (v:V),X.N[i]? = some x->σ[i]? = some (some v)->Nz X.env.scope x->∃u,RelV v u/\Look X.env s.heap m x u
 cell:∀x c,X.env.cells.lookup x=some c->∃v,s.heap.IsCell c v
 free:H X.env.locals=none
 dM:∀x c,X.env.cells.lookup x=some c->H c=none
 pin:∀p∈X.pn++pins,s.heap.get? p.1=some p.2/\H p.1=none/\p.1≠X.env.locals/\p.1∉X.fs/\∀v,p.2.data≠.cell v
 aF:eX X.prog X.w H s.heap
 len:σ.length=X.N.length
variable{g':Array GenState}{t':Nat}{d':Drawn}{ch:List Addr}
variable{it:Addr}
variable{N:List Str}{j:Nat}
variable{M:Model}
variable{s':Ab}
section
variable{X:Cx}{pins:List (Addr × Obj)}{σ:List (Option V)}{H H':Hp}{s:Ab}{h':Heap}
theorem Cx.Ok.Jj(ok:X.Ok)(e:X.base.get? b=some o):b∉X.fs:=λhb=>by
 have:=(ok.fo.mem hb).1;rw[e] at this;cases this
theorem Inv.bs(I:Inv X pins σ H s):∀b o,X.base.get? b=some o->s.heap.get? b=some o/\H b=none:=λb o e=>
 #[I.base.keep b o (I.ok.bs b o e).1 (I.ok.bs b o e).2 (I.ok.Jj e) (I.ok.rN b o e),I.base.free b o (I.ok.bs b o e).1 (I.ok.bs b o e).2 (I.ok.rN b o e)]
theorem Inv.bk(I:Inv X pins σ H s):∀b o,X.base.get? b=some o->s.heap.get? b=some o:=λb o e=>(I.bs b o e).1
theorem Inv.mod(I:Inv X pins σ H s):Mod X.K X.mg X.base:=I.ok.mod
theorem Inv.fw(I:Inv X pins σ H s):X.K.In s.heap:=I.ok.mod.De.keeps I.bk
theorem Inv.lt(I:Inv X pins σ H s):X.env.locals<s.heap.objs.size:=let #[_,hn,_]:=I.loc;hn.lt
theorem Inv.sz(I:Inv X pins σ H s):X.b_.heap.objs.size<=s.heap.objs.size:=oG I.ok.above (Nat.le_of_lt I.lt)
theorem Inv.Ji(I:Inv X pins σ H s)(h:s.heap.objs.size<=a):a∉X.fs:=λhb=>by
 obtain⟨_,o,ho,_⟩:=I.ok.fo.mem hb;exact absurd (iN (bN ho) (oG I.sz h)) (vN _)
theorem Inv.tN(I:Inv X pins σ H s):∀x c,X.env.cells.lookup x=some c->c≠X.env.locals:=λx c e z=>by
 obtain⟨v,o,ho,hd⟩:=I.cell x c e;obtain⟨m,⟨o',es,ep,eZ,fJ,_⟩,_⟩:=I.loc;rw[z,eZ] at ho;cases ho;rw[fJ] at hd;cases hd
theorem Inv.fo(I:Inv X pins σ H s):s.heap.FunFrames X.base X.outer:=by
 have all:∀(l:List Env),(∀b∈oY l,b∈X.fs)->X.b_.heap.FunFrames X.base l->s.heap.FunFrames X.base l:=by
  intro l
  induction l with
  |nil=>intro _ _;trivial
  |cons env r ih=>
   intro hs hl;obtain⟨hk,⟨L,o,hf,hn,ho,hd⟩,hr⟩:=hl;have hL:L∈X.fs:=hs L (by unfold oY;rw[List.filterMap_cons,hf];exact dO);obtain⟨sl,e⟩:=I.base.slot L o ho (I.ok.vi L hL) hL λz=>I.ok.sI L z hL;exact#[hk,#[L,_,hf,hn,e,hd],ih (λb hb=>hs b (by unfold oY;rw[List.filterMap_cons,hf];exact dP _ hb)) hr]
 exact all X.outer (λ_ hb=>hb) I.ok.fo
theorem Inv.stack(I:Inv X pins σ H s):s.heap.FunFrames X.base X.stack:=by
 rcases I.ok.FF with e|⟨e,hf⟩
 ·rw[e];exact I.fo
 ·rw[e];obtain⟨m,hn,_⟩:=I.loc;refine .cons (by rw[I.ok.kind];decide) hf hn ?_ I.fo;exact Heap.get?_none_of_le (oG I.ok.sS I.ok.above)
theorem Inv.kF(I:Inv X pins σ H s):∀b∈oY X.stack,b∈X.env.locals::X.fs:=λb hb=>by
 rcases I.ok.FF with e|⟨e,hf⟩
 ·rw[e] at hb;exact dP _ hb
 ·rw[e] at hb;unfold oY at hb;rw[List.filterMap_cons,hf] at hb;exact hb
theorem Inv.nj(I:Inv X pins σ H s):∀b∈oY X.stack,H b=none:=λb hb=>by
 rcases bO.mp (I.kF b hb) with e|hb
 ·rw[e];exact I.free
 ·obtain⟨_,o,ho,_⟩:=I.ok.fo.mem hb;exact I.base.free b o ho (I.ok.vi b hb) λz=>I.ok.sI b z hb
theorem Inv.step(I:Inv X pins σ H s)(tI:∀b∈ch,(b∈X.ex∨X.b_.heap.objs.size<=b)/\b≠X.env.locals/\(∀x c,X.env.cells.lookup x=some c->c≠b)/\∀p∈X.pn++pins,p.1≠b)(keep:∀b o,b≠X.env.locals->b∉X.fs->b∉ch->s.heap.get? b=some o->H b=none->h'.get? b=some o)(slot:∀b o,b≠X.env.locals->b∈X.fs->b∉ch->s.heap.get? b=some o->H b=none->∃sl,h'.get? b=some { o with slots:=sl })(free:∀b o,b∉ch->s.heap.get? b=some o->H b=none->H' b=none)(there:∀b o,b∉ch->s.heap.get? b=some o->∃o',h'.get? b=some o')(iq:∀b xs,H b=some (.tup xs)->H' b=some (.tup xs))(fX:∀b o u,H b=some (.frz o u)->H' b=some (.frz o u))(gX:∀b ps,H b=some (.tbl ps)->∃more,H' b=some (.tbl (ps++more)))(ns:∀m,s.heap.Ns X.env.locals m->h'.Ns X.env.locals m)(aF:eX X.prog X.w H' h')(hg:AllBare g') :
  Inv X pins σ H' { s with heap:=h',gens:=g',drawn:=d',toks:=t' }:=by
 have Ot:∀b o,X.b_.heap.get? b=some o->b≠X.env.locals:=λb o e=>dc (iN (bN e) I.ok.above)
 have F0:∀b o,X.b_.heap.get? b=some o->b∉X.ex->b∉ch:=λb o e hx hb=>by
  rcases (tI b hb).1 with z|z
  ·exact hx z
  ·exact absurd (iN (bN e) z) (vN _)
 have cellK:∀x c,X.env.cells.lookup x=some c->∀v,s.heap.IsCell c v->h'.IsCell c v:=λx c e v ⟨o,ho,hd⟩=>by
  have C0:c∉ch:=λz=>(tI c z).2.2.1 x c e Z;by_cases hc:c∈X.fs
  ·obtain⟨sl,q⟩:=slot c o (I.tN x c e) hc C0 ho (I.dM x c e);exact#[_,q,hd]
  ·exact#[o,keep c o (I.tN x c e) hc C0 ho (I.dM x c e),hd]
 refine#[I.ok,I.os,hg,#[λb o e n hb hx=>?_,λb o e n hb hx=>?_,λb o e n hx=>?_,λb o e hx=>?_,λb xs e=>iq b xs (I.base.iq b xs e),λb o xs e=>fX b o xs (I.base.fX b o xs e),λb ps e=>?_],?_,λx c e=>?_,?_,λx c e=>?_,λp hp=>?_,aF,I.len]
 ·exact keep b o (Ot b o e) hb (F0 b o e hx) (I.base.keep b o e n hb hx) (I.base.free b o e n hx)
 ·obtain⟨sl,e1⟩:=I.base.slot b o e n hb hx;obtain⟨Vh,e2⟩:=slot b _ (Ot b o e) hb (F0 b o e hx) e1 (I.base.free b o e n hx);exact#[Vh,e2]
 ·obtain⟨o',e1⟩:=I.base.there b o e hx;exact free b o' (F0 b o e hx) e1 (I.base.free b o e n hx)
 ·obtain⟨o',e1⟩:=I.base.there b o e hx;exact there b o' (F0 b o e hx) e1
 ·obtain⟨m1,e1⟩:=I.base.gX b ps e;obtain⟨m2,e2⟩:=gX b _ e1;exact#[m1++m2,by rw[e2,Array.append_assoc]]
 ·obtain⟨m,hn,hl⟩:=I.loc;refine#[m,ns m hn,λi x v e1 e2 e3=>?_];obtain⟨u,r,l⟩:=hl i x v e1 e2 e3;refine#[u,r,?_];rcases l with l|⟨k,c,e,z⟩
  ·exact .inl l
  ·exact .inr #[k,c,e,cellK x c e _ z]
 ·obtain⟨v,z⟩:=I.cell x c e;exact#[v,cellK x c e v z]
 ·obtain⟨m,⟨o,_,_,ho,_⟩,_⟩:=I.loc;exact free _ o (λz=>(tI _ z).2.1 Z) ho I.free
 ·obtain⟨v,o,ho,hd⟩:=I.cell x c e;exact free c o (λz=>(tI c z).2.2.1 x c e Z) ho (I.dM x c e)
 ·obtain⟨e,n,ne,nf,d⟩:=I.pin p hp;have C0:p.1∉ch:=λz=>(tI p.1 z).2.2.2 p hp Z;exact#[keep p.1 p.2 ne nf C0 e n,free p.1 p.2 C0 e n,ne,nf,d]
theorem Inv.un(I:Inv X pins σ H s)(u:Un X.fs [] H H' s.heap h')(aF:eX X.prog X.w H' h'):Inv X pins σ H' { s with heap:=h',toks:=t' }:=by
 obtain⟨m,⟨o,es,ep,ho,r⟩,_⟩:=id I.loc;obtain⟨sl,hL⟩:=u.any ho I.free Z2
 exact I.step (g':=s.gens) (d':=s.drawn) (ch:=[]) (λ_ z=>nomatch z) (λb o _ hb _ e n=>u.keep b o e n hb Z2) (λb o _ hb _ e n=>u.slot b o e n hb Z2) (λb o _ e n=>u.free b o e n Z2) (λb o _ e=>u.there b o e Z2) u.iq u.fX u.gX (λm' hm=>by
  obtain⟨o',mm,GB,eZ,r'⟩:=hm;rw[ho] at eZ;cases eZ;exact#[_,mm,GB,hL,r']) aF I.bare
theorem Inv.call(I:Inv X pins σ H s)(u:Un (oY X.stack) ch H H' s.heap h')(aF:eX X.prog X.w H' h')(hg:AllBare g')(tI:∀b∈ch,(b∈X.ex∨X.b_.heap.objs.size<=b)/\b≠X.env.locals/\(∀x c,X.env.cells.lookup x=some c->c≠b)/\∀p∈X.pn++pins,p.1≠b) :
  Inv X pins σ H' { s with heap:=h',gens:=g',drawn:=d',toks:=t' }:=by
 obtain⟨m,⟨o,es,ep,ho,r⟩,_⟩:=id I.loc;obtain⟨sl,hL⟩:=u.any ho I.free λz=>(tI _ z).2.1 Z
 exact I.step (ch:=ch) tI (λb o hL hb hc e n=>u.keep b o e n (λz=>(bO.mp (I.kF b z)).elim hL hb) hc) (λb o _ _ hc e n=>u.any e n hc) (λb o hc e n=>u.free b o e n hc) (λb o hc e=>u.there b o e hc) u.iq u.fX u.gX (λm' hm=>by
  obtain⟨o',mm,GB,eZ,r'⟩:=hm;rw[ho] at eZ;cases eZ;exact#[_,mm,GB,hL,r']) aF hg
theorem Inv.turned(I:Inv X pins σ H s)(k:∀b o,b≠it->s.heap.get? b=some o->h'.get? b=some o)(hn:H it=none)(hL:it≠X.env.locals)(h1:it∈X.ex∨X.b_.heap.objs.size<=it)(h2:∀x c,X.env.cells.lookup x=some c->c≠it)(h3:∀p∈X.pn++pins,p.1≠it):Inv X pins σ H { s with heap:=h',toks:=t' }:=by
 have Os:∀b u,H b=some u->b≠it:=λb u e z=>by rw[z,hn] at e;cases e
 refine I.step (g':=s.gens) (d':=s.drawn) (ch:=[it]) (λb hb=>?_) (λb o _ _ hc e _=>k b o (λz=>hc (by simp[z])) e) (λb o _ _ hc e _=>#[o.slots,k b o (λz=>hc (by simp[z])) e]) (λ_ _ _ _ n=>n)
  (λb o hc e=>#[o,k b o (λz=>hc (by simp[z])) e]) (λ_ _ e=>e) (λ_ _ _ e=>e) (λb ps e=>#[#[],by rw[e];simp]) (λm hm=>?_) (λb u e=>?_) I.bare
 ·have e:b=it:=by simpa using hb
  subst e;exact#[h1,hL,h2,h3]
 ·obtain⟨o,es,ep,ho,r⟩:=hm;exact#[o,es,ep,k _ o (Ne.symm hL) ho,r]
 ·refine (I.aF b u e).d9 (λc v hc q=>k c v ?_ q) (λ_ q=>q) λ_ _ q=>q;rcases hc with z|z
  ·rw[z];exact Os b u e
  ·exact Os c _ z
theorem Inv.tok(I:Inv X pins σ H s)(t:Nat):Inv X pins σ H { s with toks:=t }:=I.un (h':=s.heap) (t':=t) Un.refl I.aF
theorem Inv.kept(I:Inv X pins σ H s)(k:∀b u,s.heap.get? b=some u->h'.get? b=some u):Inv X pins σ H { s with heap:=h',toks:=t' }:=I.un (Un.kept k) (I.aF.kept k)
theorem Inv.laid{o:HO}(I:Inv X pins σ H s)(k:∀b u,s.heap.get? b=some u->h'.get? b=some u)(hp:s.heap.objs.size<=a)(new:fb X.prog X.w (upd H a o) h' a o) :
  Inv X pins σ (upd H a o) { s with heap:=h',toks:=t' }:=I.un (Un.laid k hp (I.aF.fresh hp)) (I.aF.laid k hp new)
theorem Inv.write{x e:Addr}{o:HO}(I:Inv X pins σ H s)(mu:Fp (H x))(he:e=x∨H e=some (.own x))(k:∀b u,b≠e->s.heap.get? b=some u->h'.get? b=some u)(A1:∃u,h'.get? e=some u)(new:fb X.prog X.w (upd H x o) h' x o):Inv X pins σ (upd H x o) { s with heap:=h',toks:=t' }:=I.un (Un.write mu he k A1) (I.aF.write mu he k A1 new)
theorem Inv.oe{wH:List (Addr × Obj)}(I:Inv X pins σ H s)(h:∀p∈wH,s.heap.get? p.1=some p.2/\H p.1=none/\p.1≠X.env.locals/\p.1∉X.fs/\∀v,p.2.data≠.cell v):Inv X wH σ H s:=
 #[I.ok,I.os,I.bare,I.base,I.loc,I.cell,I.free,I.dM,λp hp=>(eK.mp hp).elim (λz=>I.pin p (List.mem_append_left _ z)) (h p),I.aF,I.len]
theorem Ri(hN:N.Nodup){i:Nat}{x:Str}(a:N[i]? = some x)(b:N[j]? = some x):i=j:=by
 obtain⟨h1,e1⟩:=bP.mp a;obtain⟨h2,e2⟩:=bP.mp b;exact (List.getElem_inj hN).mp (e1.trans e2.symm)
theorem Sn{A:Ag}{E:Aa->Ab->Prop}{i:Nat}{x:Str}{v:V}{u:Aa}{Q:Unit->Ab->Prop}(I:Inv X pins σ H s)(hN:X.N.Nodup)(hi:X.N[i]? = some x)(hx:Loc X.env.scope x)(r:RelV v u)(h:∀s',Inv X pins (σ.set i (some v)) H s'->(∃a,Heap.SameBut a s.heap s'.heap/\(a=X.env.locals∨X.env.cells.lookup x=some a))->Q () s')(hf:X.fn x=true∨X.env.scope.names.lookup x=some .local:=by first|exact .inl Z|exact .inr Z|assumption):wpAny M A (storeName X.env x u) Q E s:=by
 obtain⟨m,hn,hl⟩:=id I.loc;have KA:(X.env.scope.kind == .class || (X.env.scope.kind == .module&&X.env.locals != X.env.globals))=false:=by rw[I.ok.kind];rfl
 have DW:i<σ.length:=by rw[I.len];exact (bP.mp hi).1
 have tN:=I.tN
 have tracked:∀{a:Addr} {h':Heap},(∃o,s.heap.get? a=some o/\H a=none)->Heap.SameBut a s.heap h'->eX X.prog X.w H h':=λ{a h'} ha hs b ob e=>by
  obtain⟨_,_,wZ⟩:=ha;refine (I.aF b ob e).d9 (λc w' hc q=>(hs.2 c ?_).trans q) (λ_ q=>q) λ_ _ q=>q;rintro rfl;rcases hc with rfl|hc
  ·rw[wZ] at e;cases e
  ·rw[wZ] at hc;cases hc
 rcases hx with hk|hk
 ·refine wpAny_storeName_local hk hn (λh' ze hs=>?_) KA;obtain⟨oL,_,_,Gi,_⟩:=id hn;refine h _ #[I.ok,I.os,I.bare,#[λb o e n hb hx=>?_,λb o e n hb hx=>?_,I.base.free,λb o e hx=>?_,I.base.iq,I.base.fX,I.base.gX],#[_,ze,λj y v' e1 e2 e3=>?_],λy c e=>?_,I.free,I.dM,λp hp=>?_,tracked #[oL,Gi,I.free] hs,by simpa using I.len] #[_,hs,.inl Z]
  ·exact (hs.2 b (dc (iN (bN e) I.ok.above))).trans (I.base.keep b o e n hb hx)
  ·obtain⟨sl,e1⟩:=I.base.slot b o e n hb hx;exact#[sl,(hs.2 b (dc (iN (bN e) I.ok.above))).trans e1]
  ·obtain⟨o',e1⟩:=I.base.there b o e hx;exact#[o',(hs.2 b (dc (iN (bN e) I.ok.above))).trans e1]
  ·by_cases hj:j=i
   ·subst hj;rw[hi] at e1;cases e1;rw[List.getElem?_set_self DW] at e2;cases e2;exact#[u,r,.inl #[hk,by simp]]
   ·rw[List.getElem?_set_ne (Ne.symm hj)] at e2;obtain⟨u',r',q⟩:=hl j y v' e1 e2 e3;refine#[u',r',?_];rcases q with⟨k,e⟩|⟨k,c,e,z⟩
    ·refine .inl #[k,?_];have:y≠x:=λe=>hj (Ri hN e1 (e▸hi));simp[this,e]
    ·exact .inr #[k,c,e,z.sameBut hs (tN y c e)]
  ·obtain⟨w',z⟩:=I.cell y c e;exact#[w',z.sameBut hs (tN y c e)]
  ·obtain⟨e,n,ne,nf,d⟩:=I.pin p hp;exact#[(hs.2 p.1 ne).trans e,n,ne,nf,d]
 ·have Kn:X.fn x=true:=by
   rcases hf with z|z
   ·exact z
   ·rw[z] at hk;cases hk
  obtain⟨c,hc⟩:=I.ok.has x (.inl hk);obtain⟨w',z⟩:=I.cell x c hc;refine wpAny_storeName_cell I.ok.kind hk hc z (λh' vf hs=>?_);obtain⟨oc,DJ,J7⟩:=id z;refine h { s with heap:=h' } #[I.ok,I.os,I.bare,#[λb o e n hb hx=>?_,λb o e n hb hx=>?_,I.base.free,λb o e hx=>?_,I.base.iq,I.base.fX,I.base.gX],#[m,hn.sameBut hs (Ne.symm (tN x c hc)),λj y v' e1 e2 e3=>?_],λy c' e=>?_,I.free,I.dM,λp hp=>?_,tracked #[oc,DJ,I.dM x c hc] hs,by simpa using I.len] #[c,hs,.inr hc]
  ·exact (hs.2 b (dc (iN (bN e) (I.ok.Bo x c Kn hc)))).trans (I.base.keep b o e n hb hx)
  ·obtain⟨sl,e1⟩:=I.base.slot b o e n hb hx;exact#[sl,(hs.2 b (dc (iN (bN e) (I.ok.Bo x c Kn hc)))).trans e1]
  ·obtain⟨o',e1⟩:=I.base.there b o e hx;exact#[o',(hs.2 b (dc (iN (bN e) (I.ok.Bo x c Kn hc)))).trans e1]
  ·by_cases hj:j=i
   ·subst hj;rw[hi] at e1;cases e1;rw[List.getElem?_set_self DW] at e2;cases e2;exact#[u,r,.inr #[.inl hk,c,hc,vf]]
   ·rw[List.getElem?_set_ne (Ne.symm hj)] at e2;obtain⟨u',r',q⟩:=hl j y v' e1 e2 e3;refine#[u',r',?_];rcases q with q|⟨k,c',e,z'⟩
    ·exact .inl q
    ·refine .inr #[k,c',e,z'.sameBut hs ?_];rintro rfl;exact hj (Ri hN e1 (I.ok.inj _ _ _ e hc▸hi))
  ·by_cases P9:c'=c
   ·subst P9;exact#[_,vf]
   ·obtain⟨w2,z2⟩:=I.cell y c' e;exact#[w2,z2.sameBut hs P9]
  ·obtain⟨e,n,ne,nf,d⟩:=I.pin p hp;refine#[(hs.2 p.1 ?_).trans e,n,ne,nf,d];intro q;rw[q,DJ] at e;have q':oc=p.2:=dW e;exact d w' (by rw[<- q'];exact J7)
theorem QQ{A:Ag}{E:Aa->Ab->Prop}{i:Nat}{x:Str}{v:V}{u:Aa}{Q:Unit->Ab->Prop}(I:Inv X pins σ H s)(hN:X.N.Nodup)(hi:X.N[i]? = some x)(hx:Loc X.env.scope x)(r:RelV v u)(h:∀s',Inv X pins (σ.set i (some v)) H s'->Q () s')(hf:X.fn x=true∨X.env.scope.names.lookup x=some .local:=by first|exact .inl Z|exact .inr Z|assumption):wpAny M A (storeName X.env x u) Q E s:=
 Sn I hN hi hx r (λs' I' _=>h s' I') hf
theorem Inv.EG(I:Inv X pins σ H s)(ho:s'.os=s.os)(u:Un (oY X.stack) ch H H' s.heap s'.heap)(aF:eX X.prog X.w H' s'.heap)(hg:AllBare s'.gens)(tI:∀b∈ch,(b∈X.ex∨X.b_.heap.objs.size<=b)/\b≠X.env.locals/\(∀x c,X.env.cells.lookup x=some c->c≠b)/\∀p∈X.pn++pins,p.1≠b):Inv X pins σ H' s':=by
 obtain⟨h',g',d',t',o'⟩:=s';have e:o'=s.os:=ho;subst e;exact I.call (g':=g') (t':=t') (d':=d') u aF hg tI
end
abbrev XK:=Aa->Option Addr->Hp->Prop
abbrev St:=List (Option V)
abbrev VK:=V->Hp->Prop
abbrev TE:=St->Hp->VK->Prop
abbrev TT:=St->Hp->(Bool->Hp->Prop)->Prop
abbrev TA:=St->Hp->(List V->Hp->Prop)->Prop
structure Ends where
 nx:St->Hp->Prop
 rt:VK
 bk:St->Hp->Prop:=λ_ _=>False
 ct:St->Hp->Prop:=λ_ _=>False
abbrev TS:=Ends->St->Hp->Prop
def EP(X:Cx)(pins:List (Addr × Obj))(σ:St)(Q:VK)(u:Aa)(s':Ab):Prop:=∃v H',Inv X pins σ H' s'/\RelV v u/\Q v H'
def TP(X:Cx)(pins:List (Addr × Obj))(σ:St)(Q:Bool->Hp->Prop)(b:Bool)(s':Ab):Prop:=∃H',Inv X pins σ H' s'/\Q b H'
def AP(X:Cx)(pins:List (Addr × Obj))(σ:St)(Q:List V->Hp->Prop)(us:List Aa)(s':Ab):Prop:=∃vs H',Inv X pins σ H' s'/\Vals vs us/\Q vs H'
def SP(X:Cx)(pins:List (Addr × Obj))(D:Ends)(f:Flow)(s':Ab):Prop:=
 match f with
 |.next=>∃bf H',Inv X pins bf H' s'/\D.nx bf H'
 |.brk=>∃bf H',Inv X pins bf H' s'/\D.bk bf H'
 |.cont=>∃bf H',Inv X pins bf H' s'/\D.ct bf H'
 |.ret u=>∃v bf H',Inv X pins bf H' s'/\RelV v u/\D.rt v H'
def PE(X:Cx)(e:Expr)(t:TE):Prop:=
 ∀(pins:List (Addr × Obj)) (s:Ab) (σ:St) (H:Hp) (Q:VK),Inv X pins σ H s->t σ H Q->wpAny (model X.prog X.w) X.A (eval e X.env) (EP X pins σ Q) X.xe s
def PT(X:Cx)(e:Expr)(t:TT):Prop:=
 ∀(pins:List (Addr × Obj)) (s:Ab) (σ:St) (H:Hp) (Q:Bool->Hp->Prop),Inv X pins σ H s->t σ H Q->wpAny (model X.prog X.w) X.A (isTrue e X.env (eval e X.env)) (TP X pins σ Q) X.xe s
def PW(X:Cx)(e:Expr)(t:TT):Prop:=
 ∀(whole:Sem Aa) (pins:List (Addr × Obj)) (s:Ab) (σ:St) (H:Hp) (Q:Bool->Hp->Prop),Inv X pins σ H s->t σ H Q->wpAny (model X.prog X.w) X.A (isTrue e X.env whole) (TP X pins σ Q) X.xe s
theorem PW.pt{X:Cx}{e:Expr}{t:TT}(h:PW X e t):PT X e t:=h _
def PA(X:Cx)(es:List Expr)(t:TA):Prop:=
 ∀(pos:Pos) (pins:List (Addr × Obj)) (s:Ab) (σ:St) (H:Hp) (Q:List V->Hp->Prop),Inv X pins σ H s->t σ H Q->wpAny (model X.prog X.w) X.A (spliced (backTo pos (starEach es X.env))) (AP X pins σ Q) X.xe s
def PS(X:Cx)(st:Stmt)(t:TS):Prop:=
 ∀(pins:List (Addr × Obj)) (s:Ab) (σ:St) (H:Hp) (D:Ends),Inv X pins σ H s->t D σ H->wpAny (model X.prog X.w) X.A (exec st X.env) (SP X pins D) X.xe s
def kz(X:Cx)(st:List Stmt)(t:TS):Prop:=
 ∀(pins:List (Addr × Obj)) (s:Ab) (σ:St) (H:Hp) (D:Ends),Inv X pins σ H s->t D σ H->wpAny (model X.prog X.w) X.A (execs st X.env) (SP X pins D) X.xe s
theorem aJ{α:Type}{t:Sem α}{Q Q':α->Ab->Prop}{A:Ag}{E:Aa->Ab->Prop}{s:Ab}(h:wpAny M A t Q E s)(hQ:∀a s,Q a s->Q' a s):wpAny M A t Q' E s:=wpAny_mono h hQ λ_ _ x=>x
variable{pos:Pos}
variable{σ:St}
variable{op:CmpOp}
variable{c:Expr}
section
variable{X:Cx}
inductive p_ (i:Nat) (σ:St) (H:Hp) (Q:VK):Prop
 |mk:∀v,σ[i]? = some (some v)->Q v H->p_ i σ H Q
def tC(v:V):TE:=λ_ H Q=>Q v H
theorem XR{i:Nat}{x:Str}(hN:X.N[i]? = some x)(hv:Nz X.env.scope x)(hd:(x == ("__debug__":Str))=false:=by decide)(gC:(x == ("__classdict__":Str))=false:=by decide):PE X (.Name x pos) (p_ i):=by
 intro pins s σ H Q I h;obtain⟨v,e,h⟩:=h;obtain⟨m,hn,hl⟩:=I.loc;obtain⟨u,r,l⟩:=hl i x v hN e hv;have fin:EP X pins σ Q u s:=#[v,H,I,r,h];rcases l with⟨hk,hm⟩|⟨hk,c,hc,oo⟩
 ·exact wpAny_Name (wpAny_loadName_local I.ok.kind hk hn hm fin) hd
 ·rcases hk with hk|hk
  ·exact wpAny_Name (wpAny_loadName_cell I.ok.kind hk hc oo fin) hd
  ·exact wpAny_Name (wpAny_loadName_free I.ok.kind hk hc oo fin gC) hd
theorem aE{i j pos}:PE X (.Constant (.int i) j pos) (tC (.int i)):=λ_ _ _ H _ I h=>wpAny_Constant_int #[.int i,H,I.tok _,#[_,Z],h]
theorem xf{b j pos}:PE X (.Constant (.bool b) j pos) (tC (.bl b)):=λ_ _ _ H _ I h=>Constant_bool #[.bl b,H,I,Z,h]
theorem Gw{j pos}:PE X (.Constant .none j pos) (tC .non):=λ_ _ _ H _ I h=>Constant_none #[.non,H,I,Z,h]
theorem dg{x j pos}:PE X (.Constant (.str x) j pos) (tC (.str x)):=λ_ _ _ H _ I h=>Calls.Constant_str #[.str x,H,I.tok _,#[_,Z],h]
def Gl(X:Cx)(x:Str):Prop:=X.env.kindOf x=some .globalImplicit
theorem GR{E:Aa->Ab->Prop}{pins:List (Addr × Obj)}{s:Ab}{H:Hp}{x:Str}{u:Aa}{Q:Aa->Ab->Prop}(I:Inv X pins σ H s)(hg:Gl X x)(hm:X.mg x=some u)(h:Q u s)(hd:(x == ("__debug__":Str))=false:=by decide):wpAny (model X.prog X.w) X.A (eval (.Name x pos) X.env) Q E s:=
 Calls.Name_function_global I.ok.kind hg (Calls.loadGlobal_global (by rw[I.ok.glob];exact I.mod.glob.keeps I.bk) hm h) hd
theorem tZ{E:Aa->Ab->Prop}{pins:List (Addr × Obj)}{s:Ab}{H:Hp}{x:Str}{u:Aa}{Q:Aa->Ab->Prop}(I:Inv X pins σ H s)(hg:Gl X x)(hm:X.mg x=none)(hv:bootBuiltins x=some u)(h:Q u s)(hn:x≠"__name__":=by decide)(hd:(x == ("__debug__":Str))=false:=by decide):wpAny (model X.prog X.w) X.A (eval (.Name x pos) X.env) Q E s:=by
 obtain⟨mb,h1,h2⟩:=I.mod.blt;exact Calls.Name_function_global I.ok.kind hg (Calls.loadGlobal_builtin (by rw[I.ok.glob];exact I.mod.glob.keeps I.bk) hm (by rw[I.ok.blt];exact h1.keeps I.bk) ((h2 x hn).trans hv) h) hd
theorem Ap{x:Str}{v:V}{u:Aa}(hg:Gl X x)(hm:X.mg x=some u)(r:RelV v u)(hd:(x == ("__debug__":Str))=false:=by decide):PE X (.Name x pos) (tC v):=
 λ_ _ _ H _ I h=>GR I hg hm #[v,H,I,r,h] hd
theorem jV{x:Str}{v:V}{u:Aa}(hg:Gl X x)(hm:X.mg x=none)(hv:bootBuiltins x=some u)(r:RelV v u)(hn:x≠"__name__":=by decide)(hd:(x == ("__debug__":Str))=false:=by decide):PE X (.Name x pos) (tC v):=
 λ_ _ _ H _ I h=>tZ I hg hm hv #[v,H,I,r,h] hn hd
variable{a b:Expr}{ta tb:TE}{pos:Pos}
def PC(X:Cx)(op:CmpOp)(a b:Expr)(t:TE):Prop:=
 ∀(pins:List (Addr × Obj)) (s:Ab) (σ:St) (H:Hp) (Q:VK),Inv X pins σ H s->t σ H Q->
  wpAny (model X.prog X.w) X.A (eval a X.env) (λv aN=>wpAny (model X.prog X.w) X.A (eval b X.env) (λu jf=>wpAny (model X.prog X.w) X.A (compareOp op v u) (EP X pins σ Q) X.xe jf) X.xe aN) X.xe s
theorem jv(b:Expr)(h:op≠.In)(h2:op≠.NotIn):behindInMarks op b=false:=by
 have e1:(op == CmpOp.In)=false:=by cases op<;>first|rfl|exact absurd Z h
 have e2:(op == CmpOp.NotIn)=false:=by cases op<;>first|rfl|exact absurd Z h2
 cases b<;>simp[behindInMarks,e1,e2]
def Ik(ta:TE):TE:=λσ H Q=>ta σ H λx H1=>Q (.bl (decide (x=.non))) H1
def B1(ta:TE):TE:=λσ H Q=>ta σ H λx H1=>Q (.bl (!decide (x=.non))) H1
theorem RelV.ju{x:V}{v:Aa}(r:RelV x v):(v == Value.none)=decide (x=.non):=by
 cases x with
 |non=>cases r;rfl
 |bl _=>cases r;rfl
 |int _=>obtain⟨t,rfl⟩:=r;rfl
 |str _=>obtain⟨t,rfl⟩:=r;rfl
 |byt _=>obtain⟨t,rfl⟩:=r;rfl
 |flt _=>obtain⟨t,rfl⟩:=r;rfl
 |ref _=>cases r;rfl
 |ty _=>cases r;rfl
theorem Gv{j pos'}(ha:PE X a ta):PC X .Is a (.Constant .none j pos') (Ik ta):=by
 intro pins s σ H Q I h;refine aJ (ha pins s σ H _ I h) λv s1 ⟨x,H1,I1,r1,q1⟩=>?_;exact Constant_none (is_none_gen #[.bl _,H1,I1,by rw[r1.ju];rfl,q1])
theorem Yi{j pos'}(ha:PE X a ta):PC X .IsNot a (.Constant .none j pos') (B1 ta):=by
 intro pins s σ H Q I h;refine aJ (ha pins s σ H _ I h) λv s1 ⟨x,H1,I1,r1,q1⟩=>?_;exact Constant_none (isnot_none_gen #[.bl _,H1,I1,by rw[r1.ju];rfl,q1])
inductive NX (Q:Bool->Hp->Prop) (x:V) (H1:Hp):Prop
 |mk:∀c,x=.bl c->Q c H1->NX Q x H1
def tB(t:TE):TT:=λσ H Q=>t σ H λx H1=>NX Q x H1
theorem Ek{t:TE}(h:PC X op a b t)(h1:behindInMarks op b=false:=by first|exact jv _ (by decide) (by decide)|rfl):PE X (.Compare a [op] [b] pos) t:=λpins s σ H Q I hw=>wpAny_Compare1 (h pins s σ H Q I hw) h1
theorem vw{t:TE}(h:PC X op a b t)(h1:behindInMarks op b=false:=by first|exact jv _ (by decide) (by decide)|rfl):PT X (.Compare a [op] [b] pos) (tB t):=by
 intro pins s σ H Q I hw;refine wpAny_isTrue_Compare1 (aJ (h pins s σ H _ I hw) λv s1 h1=>aJ h1 λu s2 h2=>aJ h2 λc s3 ⟨x,H1,I1,r1,q1⟩=>?_) h1;obtain⟨d,rfl,q⟩:=q1;cases r1;exact sP #[H1,I1,q]
theorem dZ{e:Expr}{t:TE}(h:PE X e t)(he:∀whole,isTrue e X.env whole=(do let v <- whole;standAt e.pos;holding [v] (truthy v)):=by intro _;rfl):PT X e (tB t):=by
 intro pins s σ H Q I hw;refine isTrue_plain (aJ (h pins s σ H _ I hw) λv s1 ⟨x,H1,I1,r1,q1⟩=>?_) (he _);obtain⟨d,rfl,q⟩:=q1;cases r1;exact sP #[H1,I1,q]
variable{tA FE:TT}{rest:List Expr}
def Iq(t u:TT):TT:=λσ H Q=>t σ H λc H1=>if c=true then u σ H1 Q else Q false H1
def UR(t u:TT):TT:=λσ H Q=>t σ H λc H1=>if c=true then Q true H1 else u σ H1 Q
def Ih(t:TT):TT:=λσ H Q=>t σ H λc H1=>Q (!c) H1
theorem Aq(ha:PT X a tA):PW X (.BoolOp .And [a] pos) tA:=by
 intro wh pins s σ H Q I h;refine isTrue_and (aJ (ha pins s σ H Q I h) λc s1 e=>?_);cases c with
 |true=>exact isTrue_and_nil e
 |false=>exact e
theorem tW(ha:PT X a tA):PW X (.BoolOp .Or [a] pos) tA:=by
 intro wh pins s σ H Q I h;refine isTrue_or (aJ (ha pins s σ H Q I h) λc s1 e=>?_);cases c with
 |false=>exact isTrue_or_nil e
 |true=>exact e
theorem xo(ha:PT X a tA)(hb:PW X (.BoolOp .And (b::rest) pos) FE):PW X (.BoolOp .And (a::b::rest) pos) (Iq tA FE):=by
 intro wh pins s σ H Q I h;refine isTrue_and (aJ (ha pins s σ H _ I h) λc s1 ⟨H1,I1,q1⟩=>?_);cases c with
 |true=>exact hb wh pins s1 σ H1 Q I1 q1
 |false=>exact#[H1,I1,q1]
theorem tL(ha:PT X a tA)(hb:PW X (.BoolOp .Or (b::rest) pos) FE):PW X (.BoolOp .Or (a::b::rest) pos) (UR tA FE):=by
 intro wh pins s σ H Q I h;refine isTrue_or (aJ (ha pins s σ H _ I h) λc s1 ⟨H1,I1,q1⟩=>?_);cases c with
 |true=>exact#[H1,I1,q1]
 |false=>exact hb wh pins s1 σ H1 Q I1 q1
theorem eI(ha:PT X a tA):PT X (.UnaryOp .Not a pos) (Ih tA):=by
 intro pins s σ H Q I h;exact isTrue_not (ha pins s σ H (λc H1=>Q (!c) H1) I h)
inductive ql (tb:TE) (σ:St) (Q:VK) (x:V) (H1:Hp):Prop
 |mk:∀c,x=.bl c->(if c=true then tb σ H1 Q else Q (.bl false) H1)->ql tb σ Q x H1
def B_(ta tb:TE):TE:=λσ H Q=>ta σ H λx H1=>ql tb σ Q x H1
inductive vY (tb:TE) (σ:St) (Q:VK) (x:V) (H1:Hp):Prop
 |mk:∀c,x=.bl c->(if c=true then Q (.bl true) H1 else tb σ H1 Q)->vY tb σ Q x H1
def Ig(ta tb:TE):TE:=λσ H Q=>ta σ H λx H1=>vY tb σ Q x H1
inductive qe (Q:VK) (x:V) (H1:Hp):Prop
 |mk:∀c,x=.bl c->Q (.bl (!c)) H1->qe Q x H1
def B0(ta:TE):TE:=λσ H Q=>ta σ H λx H1=>qe Q x H1
theorem mw{op}{t:TE}(h:PE X a t):PE X (.BoolOp op [a] pos) t:=λpins s σ H Q I hw=>BoolOp_one (h pins s σ H Q I hw)
theorem pU(ha:PE X a ta)(hb:PE X (.BoolOp .And (b::rest) pos) tb):PE X (.BoolOp .And (a::b::rest) pos) (B_ ta tb):=by
 intro pins s σ H Q I h;refine BoolOp_and (aJ (ha pins s σ H _ I h) λv s1 ⟨x,H1,I1,r1,q1⟩=>?_);obtain⟨c,rfl,q1⟩:=q1;cases r1;refine sP ?_;cases c with
 |true=>exact hb pins s1 σ H1 Q I1 q1
 |false=>exact#[.bl false,H1,I1,Z,q1]
theorem A9(ha:PE X a ta)(hb:PE X (.BoolOp .Or (b::rest) pos) tb):PE X (.BoolOp .Or (a::b::rest) pos) (Ig ta tb):=by
 intro pins s σ H Q I h;refine BoolOp_or (aJ (ha pins s σ H _ I h) λv s1 ⟨x,H1,I1,r1,q1⟩=>?_);obtain⟨c,rfl,q1⟩:=q1;cases r1;refine sP ?_;cases c with
 |false=>exact hb pins s1 σ H1 Q I1 q1
 |true=>exact#[.bl true,H1,I1,Z,q1]
theorem WN(ha:PE X a ta):PE X (.UnaryOp .Not a pos) (B0 ta):=by
 intro pins s σ H Q I h;refine UnaryOp_ (aJ (ha pins s σ H _ I h) λv s1 ⟨x,H1,I1,r1,q1⟩=>?_);obtain⟨c,rfl,q1⟩:=q1;cases r1;exact not_of (sP #[.bl (!c),H1,I1,Z,q1])
def US(t:TT)(ta tb:TE):TE:=λσ H Q=>t σ H λc H1=>if c=true then ta σ H1 Q else tb σ H1 Q
theorem _p(hc:PT X c tA)(ha:PE X a ta)(hb:PE X b tb):PE X (.IfExp c a b pos) (US tA ta tb):=by
 intro pins s σ H Q I h;refine wpAny_IfExp (aJ (hc pins s σ H _ I h) λd s1 ⟨H1,I1,q1⟩=>?_);cases d with
 |true=>exact ha pins s1 σ H1 Q I1 q1
 |false=>exact hb pins s1 σ H1 Q I1 q1
end
def dB(K:ag)(H:Hp)(a:Addr)(xs:List V):Prop:=
 Rd H a (.lst xs) ∨
  ∃(o:Obj) (its:Array Aa) (n:Nat),K.lookup a=some o/\o.cls=.type "list"/\o.dict=none/\o.data=.seq its n/\its.size<=sizeLine/\Vals xs its.toList
def fe(K:ag)(H:Hp)(a:Addr)(xs:List V):Prop:=
 Rd H a (.tup xs) ∨
  ∃(o:Obj) (its:Array Aa) (n:Nat),K.lookup a=some o/\o.cls=.type "tuple"/\o.data=.seq its n/\its.size<=sizeLine/\Vals xs its.toList
def Ny:Aa->Option V
 |.none=>some .non
 |.bool b=>some (.bl b)
 |.int i _=>some (.int i)
 |.str x _=>some (.str x)
 |.bytes b _=>some (.byt b)
 |.float b _=>some (.flt b)
 |.ref a=>some (.ref a)
 |.type n=>some (.ty n)
 |_=>none
theorem RelV.abs{x:V}{u:Aa}(r:RelV x u):Ny u=some x:=by
 cases x with
 |non=>cases r;rfl
 |bl _=>cases r;rfl
 |int _=>obtain⟨t,rfl⟩:=r;rfl
 |str _=>obtain⟨t,rfl⟩:=r;rfl
 |byt _=>obtain⟨t,rfl⟩:=r;rfl
 |flt _=>obtain⟨t,rfl⟩:=r;rfl
 |ref _=>cases r;rfl
 |ty _=>cases r;rfl
theorem RelV.inj{x y:V}{u:Aa}(r:RelV x u)(q:RelV y u):x=y:=dW (r.abs.symm.trans q.abs)
theorem Vals.inj:∀{xs ys:List V} {us:List Aa},Vals xs us->Vals ys us->xs=ys
 |_,_,_,.nil,.nil=>rfl
 |_,_,_,.cons r t,.cons r' t'=>by rw[r.inj r',Vals.inj t t']
section
variable{X:Cx}{pins:List (Addr × Obj)}{σ:St}{H:Hp}{s:Ab}{a:Addr}{xs ys:List V}
theorem dB.of{K:ag}(h:H a=some (.lst xs)):dB K H a xs:=.inl (.inl h)
theorem fe.of{K:ag}(h:H a=some (.tup xs)):fe K H a xs:=.inl (.inl h)
theorem Inv.list(I:Inv X pins σ H s)(h:dB X.K H a xs):∃its:List Aa,Vals xs its/\PlainL s.heap a its.toArray/\xs.length<=sizeLine:=by
 rcases h with h|⟨o,its,n,hk,hc,hd,hs,hz,r⟩
 ·obtain⟨z,its,n,r,e⟩:=h.ok I.aF;exact#[its,r,#[_,n,e,Z,Z,Z],z]
 ·refine#[its.toList,r,#[o,n,I.fw a o hk,hc,hd,by simpa using hs],?_];have e:=r.length;simp only[mN] at e;omega
theorem Inv.tuple(I:Inv X pins σ H s)(h:fe X.K H a xs):∃its:List Aa,Vals xs its/\IsTup s.heap a its.toArray/\xs.length<=sizeLine:=by
 rcases h with h|⟨o,its,n,hk,hc,hs,hz,r⟩
 ·obtain⟨z,its,r,p,_⟩:=h.ok I.aF;exact#[its,r,p,z]
 ·refine#[its.toList,r,#[o,I.fw a o hk,hc,n,by simpa using hs],?_];have e:=r.length;simp only[mN] at e;omega
theorem Inv.jy(I:Inv X pins σ H s)(h:dB X.K H a xs)(h':dB X.K H a ys):xs=ys:=by
 obtain⟨its,r,⟨o,n,e,_,_,d⟩,_⟩:=I.list h;obtain⟨its',r',⟨o',n',e',_,_,d'⟩,_⟩:=I.list h';rw[e] at e';cases e';rw[d] at d'
 injection d' with d1 _
 have:its=its':=by simpa using dF Array.toList d1
 subst this;exact r.inj r'
theorem Inv.fE(I:Inv X pins σ H s)(h:fe X.K H a xs)(h':fe X.K H a ys):xs=ys:=by
 obtain⟨its,r,⟨o,e,_,n,d⟩,_⟩:=I.tuple h;obtain⟨its',r',⟨o',e',_,n',d'⟩,_⟩:=I.tuple h';rw[e] at e';cases e';rw[d] at d'
 injection d' with d1 _
 have:its=its':=by simpa using dF Array.toList d1
 subst this;exact r.inj r'
end
abbrev Cx.gU(X:Cx)(E:Aa->Ab->Prop):Cx:={ X with xe:=E }
abbrev Cx.yF(X:Cx):Cx:=X.gU λ_ _=>False
theorem Cx.Ok.gU{X:Cx}(ok:X.Ok)(E:Aa->Ab->Prop):(X.gU E).Ok:=
 #[ok.mod,ok.kind,ok.glob,ok.blt,ok.above,ok.inj,ok.has,ok.Bo,ok.hd,ok.frames,ok.FF,ok.Gz,ok.bs,ok.sS,ok.rN,ok.sI,ok.fo,ok.vi]
theorem Cx.Ok.d6{X:Cx}{E:Aa->Ab->Prop}(ok:(X.gU E).Ok):X.Ok:=
 #[ok.mod,ok.kind,ok.glob,ok.blt,ok.above,ok.inj,ok.has,ok.Bo,ok.hd,ok.frames,ok.FF,ok.Gz,ok.bs,ok.sS,ok.rN,ok.sI,ok.fo,ok.vi]
section
variable{X:Cx}{pins:List (Addr × Obj)}{σ:St}{H:Hp}{s:Ab}{E:Aa->Ab->Prop}
theorem Inv.gU(I:Inv X pins σ H s)(E:Aa->Ab->Prop):Inv (X.gU E) pins σ H s:=#[I.ok.gU E,I.os,I.bare,I.base,I.loc,I.cell,I.free,I.dM,I.pin,I.aF,I.len]
theorem Inv.d6(I:Inv (X.gU E) pins σ H s):Inv X pins σ H s:=#[I.ok.d6,I.os,I.bare,I.base,I.loc,I.cell,I.free,I.dM,I.pin,I.aF,I.len]
theorem SP.d6{D:Ends}{f:Flow}(h:SP (X.gU E) pins D f s'):SP X pins D f s':=by
 cases f with
 |next=>obtain⟨bf,H',I,q⟩:=h;exact#[bf,H',I.d6,q]
 |brk=>obtain⟨bf,H',I,q⟩:=h;exact#[bf,H',I.d6,q]
 |cont=>obtain⟨bf,H',I,q⟩:=h;exact#[bf,H',I.d6,q]
 |ret u=>obtain⟨v,bf,H',I,r,q⟩:=h;exact#[v,bf,H',I.d6,r,q]
theorem kz.yF{st:List Stmt}{t:TS}(h:kz X.yF st t):kz X st t:=λpins s σ H D I hw=>
 wpAny_mono (h pins s σ H D (I.gU _) hw) (λ_ _ q=>q.d6) λ_ _ z=>False.elim z
end
section
variable{X:Cx}{st:Stmt}{rest:List Stmt}{t u:TS}{e:Expr}{te:TE}{pos:Pos}
def vZ:TS:=λD σ H=>D.nx σ H
def qc(t u:TS):TS:=λD σ H=>t { D with nx:=u D } σ H
theorem bD:kz X [] vZ:=λ_ _ σ H _ I h=>wpAny_execs_nil #[σ,H,I,h]
theorem au(h1:PS X st t)(h2:kz X rest u):kz X (st::rest) (qc t u):=by
 intro pins s σ H D I h;refine wpAny_execs_cons (aJ (h1 pins s σ H { D with nx:=u D } I h) λf s1 q=>?_);cases f with
 |next=>
  obtain⟨bf,H',I',q⟩:=q;exact h2 pins s1 bf H' D I' q
 |ret v=>exact q
 |brk=>exact q
 |cont=>exact q
theorem aI(h1:PS X st t):kz X [st] t:=by
 intro pins s σ H D I h;refine wpAny_execs_cons (aJ (h1 pins s σ H D I h) λf s1 q=>?_);cases f with
 |next=>exact wpAny_execs_nil q
 |ret v=>exact q
 |brk=>exact q
 |cont=>exact q
theorem Inv.quiet{pins:List (Addr × Obj)}{H:Hp}{s:Ab}(I:Inv X pins σ H s):interactive X.env=false:=by simp[interactive,I.ok.kind]
def B6(te:TE):TS:=λD σ H=>te σ H λ_ H1=>D.nx σ H1
theorem oE(he:PE X e te)(hs:swapsWith e none pos.line X.env=pure false:=by rfl):PS X (.Expr e pos) (B6 te):=by
 intro pins s σ H D I h;exact wpAny_Expr_any (aJ (he pins s σ H _ I h) λv s1 ⟨x,H1,I1,r1,q1⟩=>#[σ,H1,I1,q1]) I.quiet hs
def Ie(te:TE):TS:=λD σ H=>te σ H D.rt
theorem ba(he:PE X e te):PS X (.Return (some e) pos) (Ie te):=by
 intro pins s σ H D I h;exact wpAny_Return_some (aJ (he pins s σ H _ I h) λv s1 ⟨x,H1,I1,r1,q1⟩=>#[x,σ,H1,I1,r1,q1])
def Il(c:TT)(t u:TS):TS:=λD σ H=>c σ H λb H1=>if b=true then t D σ H1 else u D σ H1
theorem bC{a b:List Stmt}{tc:TT}(hc:PT X c tc)(ha:kz X a t)(hb:kz X b u):PS X (.If c a b pos) (Il tc t u):=by
 intro pins s σ H D I h;refine wpAny_If (aJ (hc pins s σ H _ I h) λd s1 ⟨H1,I1,q1⟩=>?_);cases d with
 |true=>exact ha pins s1 σ H1 D I1 q1
 |false=>exact hb pins s1 σ H1 D I1 q1
def qf:TS:=λ_ _ _=>False
theorem _r:PS X st qf:=λ_ _ _ _ _ _ h=>h.elim
theorem cq{UU:List Stmt}:kz X UU qf:=λ_ _ _ _ _ _ h=>h.elim
end
abbrev TG:=V->St->Hp->(St->Hp->Prop)->Prop
abbrev Az:=List V->St->Hp->(St->Hp->Prop)->Prop
def PG(X:Cx)(target:Expr)(t:TG):Prop:=
 ∀(pins:List (Addr × Obj)) (s:Ab) (σ:St) (H:Hp) (v:V) (u:Aa) (Q:St->Hp->Prop),Inv X pins σ H s->RelV v u->t v σ H Q->
  wpAny (model X.prog X.w) X.A (assign target X.env u) (λ_ s'=>∃bf H',Inv X pins bf H' s'/\Q bf H') X.xe s
def Fo(X:Cx)(ts:List Expr)(t:Az):Prop:=
 ∀(pins:List (Addr × Obj)) (s:Ab) (σ:St) (H:Hp) (vs:List V) (us:List Aa) (Q:St->Hp->Prop),Inv X pins σ H s->Vals vs us->t vs σ H Q->
  wpAny (model X.prog X.w) X.A (assignInOrder ((assignEach ts X.env).map (·.2)) us) (λ_ s'=>∃bf H',Inv X pins bf H' s'/\Q bf H') X.xe s
abbrev Ay:=V->V->V->Hp->(Hp->Prop)->Prop
def Fn(X:Cx)(t:Ay):Prop:=
 ∀(pins:List (Addr × Obj)) (s:Ab) (σ:St) (H:Hp) (o i v:V) (ov iv u:Aa) (Q:Hp->Prop),Inv X pins σ H s->RelV o ov->RelV i iv->RelV v u->t o i v H Q->
  wpAny (model X.prog X.w) X.A (setItem ov iv u) (λ_ s'=>∃H',Inv X pins σ H' s'/\Q H') X.xe s
variable{es:List Expr}
variable{k n:Nat}
variable{tg:Expr}{te:TE}
variable{pos':Pos}
section
variable{X:Cx}{pos:Pos}
def mE(i:Nat):TG:=λv σ H Q=>Q (σ.set i (some v)) H
theorem EM{i:Nat}{x:Str}(hN:X.N.Nodup)(hi:X.N[i]? = some x)(hx:Loc X.env.scope x)(hf:X.fn x=true∨X.env.scope.names.lookup x=some .local:=by first|exact .inl Z|exact .inr Z|assumption):PG X (.Name x pos) (mE i):=by
 intro pins s σ H v u Q I r h;exact wpAny_assign_Name (QQ I hN hi hx r (λs' I'=>#[_,H,I',h]) hf)
theorem ja:type_of% PyProof.Rows.Boot.«isinstance»:=PyProof.Rows.Boot.«isinstance»
theorem Ej:type_of% PyProof.Rows.Boot.«int»:=PyProof.Rows.Boot.«int»
theorem Bh:type_of% PyProof.Rows.Boot.«str»:=PyProof.Rows.Boot.«str»
theorem G4:type_of% PyProof.Rows.Boot.«tuple»:=PyProof.Rows.Boot.«tuple»
theorem xv:type_of% PyProof.Rows.Boot.«list»:=PyProof.Rows.Boot.«list»
theorem He:type_of% PyProof.Rows.Boot.«sorted»:=PyProof.Rows.Boot.«sorted»
theorem sU:type_of% PyProof.Rows.Boot.«dict»:=PyProof.Rows.Boot.«dict»
theorem fq(i:Nat){x:Str}(hN:X.N.Nodup:=by first|(show ([_]:List Str).Nodup;decide +kernel)|(show ([_,_]:List Str).Nodup;decide +kernel)|(show ([_,_,_]:List Str).Nodup;decide +kernel)|(show ([_,_,_,_]:List Str).Nodup;decide +kernel))(hi:X.N[i]? = some x:=by rfl)(hx:Loc X.env.scope x:=by first|exact Or.inl Z|exact Or.inr Z)(hf:X.fn x=true∨X.env.scope.names.lookup x=some .local:=by first|exact .inl Z|exact .inr Z|assumption):PG X (.Name x pos) (mE i):=EM hN hi hx hf
theorem bV(i:Nat){x:Str}(hN:X.N.Nodup)(hi:X.N[i]? = some x:=by rfl)(hx:Loc X.env.scope x:=by first|exact Or.inl Z|exact Or.inr Z)(hf:X.fn x=true∨X.env.scope.names.lookup x=some .local:=by first|exact .inl Z|exact .inr Z|assumption):PG X (.Name x pos) (mE i):=EM hN hi hx hf
def vg:Az:=λvs σ H Q=>vs=[]/\Q σ H
inductive tT (t:TG) (u:Az) (vs:List V) (σ:St) (H:Hp) (Q:St->Hp->Prop):Prop
 |mk:∀v r,vs=v::r->(t v σ H λbf H'=>u r bf H' Q)->tT t u vs σ H Q
theorem gR:Fo X [] vg:=by
 intro pins s σ H vs us Q I r h;obtain⟨e,h⟩:=h;subst e;cases r;exact assignInOrder_nil ⟨σ,H,I,h⟩
theorem bY{e:Expr}{t:TG}{u:Az}(h1:PG X e t)(h2:Fo X es u)(hs:(assignEach (e::es) X.env).map (·.2)=assign e X.env::(assignEach es X.env).map (·.2):=by rfl):Fo X (e::es) (tT t u):=by
 intro pins s σ H vs us Q I r h;obtain⟨v,vr,e1,h⟩:=h;subst e1;cases r with
 |cons r rr=>
  rw[hs];refine assignInOrder_cons (aJ (h1 pins s σ H _ _ _ I r h) λ_ s1 ⟨mU,H1,I1,q1⟩=>?_);exact h2 pins s1 mU H1 _ _ Q I1 rr q1
inductive hE (K:ag) (n:Nat) (t:Az) (v:V) (σ:St) (H:Hp) (Q:St->Hp->Prop):Prop
 |mk:∀a xs,v=.ref a->fe K H a xs->xs.length=n->t xs σ H Q->hE K n t v σ H Q
theorem jO{t:Az}(hc:X.calm=true)(h:Fo X es t)(hn:(assignEach es X.env).length=n:=by rfl)(uT:(assignEach es X.env).findIdx? (·.1)=none:=by rfl):PG X (.Tuple es k pos) (hE X.K n t):=by
 intro pins s σ H v u Q I r hw;obtain⟨a,xs,e1,hq,hl,hw⟩:=hw;subst e1;cases r;obtain⟨its,rv,ht,hz⟩:=I.tuple hq;refine assign_Tuple_tuple (I.ok.hd hc) ht (by simp[hn,<- hl,rv.length]) uT λh' hx=>?_;have I1:Inv X pins σ H { s with heap:=h' }:=I.kept (t':=s.toks) λb o e=>hx b o (dc (bN e)) e;exact h pins _ σ H xs _ Q I1 (by simpa using rv) hw
def KS(to ti:TE)(t:Ay):TG:=λv σ H Q=>to σ H λo H1=>ti σ H1 λi H2=>t o i v H2 λH3=>Q σ H3
theorem Pb{o i:Expr}{to ti:TE}{t:Ay}(ho:PE X o to)(hi:PE X i ti)(hs:Fn X t)
  (ha:∀v,assign (.Subscript o i pos) X.env v=(do
   let ov <- holding [v] (eval o X.env)
   let iv <- holding [v,ov] (eval i X.env)
   standAt pos
   holding [v,ov,iv] (setItem ov iv v)
   release [v,ov,iv] []):=by intro _;rfl):PG X (.Subscript o i pos) (KS to ti t):=by
 intro pins s σ H v u Q I r h;rw[ha];refine aj (gO (aJ (ho pins s σ H _ I h) λov s1 ⟨x,H1,I1,r1,q1⟩=>?_));refine aj (gO (aJ (hi pins s1 σ H1 _ I1 q1) λiv s2 ⟨y,H2,I2,r2,q2⟩=>?_));refine aj (wpAny_standAt (aj (gO (aJ (hs pins s2 σ H2 x y v ov iv u _ I2 r1 r2 r q2) λ_ s3 ⟨H3,I3,q3⟩=>?_))));exact wpAny_release #[σ,H3,I3,q3]
def xQ(te:TE)(g:TG):TS:=λD σ H=>te σ H λx H1=>g x σ H1 D.nx
theorem Gy{e:Expr}{g:TG}(he:PE X e te)(hg:PG X tg g)(hs:swapsWithSole [tg] e pos.line X.env=pure false:=by rfl)(hw:swappedStores [tg] e X.env=pure none:=by rfl)(h1:(assignEach [tg] X.env).map (·.2)=[assign tg X.env]:=by rfl):PS X (.Assign [tg] e pos) (xQ te g):=by
 intro pins s σ H D I h;refine wpAny_Assign_stores (aJ (he pins s σ H _ I h) λv s1 ⟨x,H1,I1,r1,q1⟩=>?_) hs hw;rw[h1];exact aJ (hg pins s1 σ H1 x v _ I1 r1 q1) λ_ s2 q=>q
theorem OS{i:Nat}{x:Str}{e:Expr}(hN:X.N.Nodup)(hi:X.N[i]? = some x)(hx:Loc X.env.scope x)(he:PE X e te)(hs:swapsWith e (some (.Name x pos')) pos.line X.env=pure false:=by rfl)(hf:X.fn x=true∨X.env.scope.names.lookup x=some .local:=by first|exact .inl Z|exact .inr Z|assumption) :
  PS X (.Assign [.Name x pos'] e pos) (xQ te (mE i)):=by
 intro pins s σ H D I h;refine wpAny_Assign_Name (aJ (he pins s σ H _ I h) λv s1 ⟨y,H1,I1,r1,q1⟩=>?_) hs;exact QQ I1 hN hi hx r1 (λs2 I2=>#[_,H1,I2,q1]) hf
theorem bg(i:Nat){x:Str}{e:Expr}(hN:X.N.Nodup)(he:PE X e te)(hi:X.N[i]? = some x:=by rfl)(hx:Loc X.env.scope x:=by first|exact Or.inl Z|exact Or.inr Z)(hs:swapsWith e (some (.Name x pos')) pos.line X.env=pure false:=by rfl)(hf:X.fn x=true∨X.env.scope.names.lookup x=some .local:=by first|exact .inl Z|exact .inr Z|assumption):PS X (.Assign [.Name x pos'] e pos) (xQ te (mE i)):=OS hN hi hx he hs hf
end
variable{body:List Stmt}{tb:TS}
section
variable{X:Cx}{pos:Pos}
def p8(c:TT)(tb:TS):TS:=λD σ H=>∃W:Nat->St->Hp->Prop,(∃m,W m σ H)/\∀m σ H,W m σ H->
 c σ H λb H1=>if b=true then ∃N:St->Hp->Prop,(∀bf H',N bf H'->∃m',m'<m/\W m' bf H')/\tb { D with nx:=N,ct:=N,bk:=D.nx } σ H1 else D.nx σ H1
theorem ZK{tc:TT}(hp:PassesOwn (model X.prog X.w) X.A X.env X.xe)(hc:PT X c tc)(hb:kz X body tb):PS X (.While c body [] pos) (p8 tc tb):=by
 intro pins s σ H D I h;obtain⟨W,⟨m0,w0⟩,turn⟩:=h;refine wpAny_While (codeAny_whileLoop (λn s'=>∃bf H',Inv X pins bf H' s'/\W n bf H') ?_ m0 #[σ,H,I,w0]);rintro n s1 ⟨mU,H1,I1,w1⟩;refine wpAny_passesOwn hp (aJ (hc pins s1 mU H1 _ I1 (turn n mU H1 w1)) λb s2 ⟨H2,I2,q2⟩=>?_);cases b with
 |true=>
  obtain⟨N,hN,q2⟩:=q2;rw[aC Z];refine wpAny_passesOwn hp (aJ (hb pins s2 mU H2 _ I2 q2) λf s3 q3=>?_);cases f with
  |next=>
   obtain⟨j3,H3,I3,n3⟩:=q3;obtain⟨m',hm,w3⟩:=hN j3 H3 n3;exact#[m',hm,j3,H3,I3,w3]
  |cont=>
   obtain⟨j3,H3,I3,n3⟩:=q3;obtain⟨m',hm,w3⟩:=hN j3 H3 n3;exact#[m',hm,j3,H3,I3,w3]
  |brk=>exact q3
  |ret v=>exact q3
 |false=>
  rw[ao fZ];exact wpAny_execs_nil #[mU,H2,I2,q2]
end
structure It where
 go:Nat->Hp->Prop
 ui:Nat->Hp->V->Hp->Prop
 stop:Nat->Hp->Prop
def ck(X:Cx)(pins:List (Addr × Obj))(H:Hp)(b:Addr):Prop:=
 H b=none/\b≠X.env.locals/\b∉X.fs/\(b∈X.ex∨X.b_.heap.objs.size<=b)/\(∀x c,X.env.cells.lookup x=some c->c≠b)/\∀p∈X.pn++pins,p.1≠b
theorem Inv.hJ{X:Cx}{pins:List (Addr × Obj)}{H H':Hp}{s:Ab}(I:Inv X pins σ H s)(hb:s.heap.objs.size<=b)(hn:H' b=none):ck X pins H' b:=by
 refine#[hn,pY (iN I.lt hb),I.Ji hb,.inr (oG I.sz hb),λx c e z=>?_,λp hp z=>?_]
 ·obtain⟨v,q⟩:=I.cell x c e;exact absurd (iN q.lt (by rw[z];exact hb)) (vN _)
 ·exact absurd (iN (bN (I.pin p hp).1) (by rw[z];exact hb)) (vN _)
structure Turn (P:Ad) (w:Af) (K:ag) (tg:Expr) (J:It) (fp:List Addr) (it:Addr) (tn:Nat->Heap->Prop):Prop where
 mem:it∈fp
 obj:∀i h,tn i h->∀b∈fp,∃o,h.get? b=some o/\∀v,o.data≠.cell v
 keep:∀i h h',tn i h->(∀b∈fp,∀o,h.get? b=some o->h'.get? b=some o)->tn i h'
 item:∀(X:Cx),X.prog=P->X.w=w->X.K=K->X.calm=true->∀(i:Nat) (pins:List (Addr × Obj)) (s:Ab) (σ:St) (H:Hp) (E:Aa->Ab->Prop),Inv X pins σ H s->(∀b∈fp,ck X pins H b)->tn i s.heap->J.go i H->
  wpAny (model P w) X.A (pyNext (.ref it)) (λr s1=>∃u,r=some u /\
   wpAny (model P w) X.A (letOwnedTupleGo tg (.ref it) u) (λ_ s2=>∃x H',Inv X pins σ H' s2/\RelV x u/\J.ui i H x H'/\tn (i+1) s2.heap/\∀b∈fp,H' b=none) E s1) E s
 done:∀(X:Cx),X.prog=P->X.w=w->X.K=K->X.calm=true->∀(i:Nat) (pins:List (Addr × Obj)) (s:Ab) (σ:St) (H:Hp) (E:Aa->Ab->Prop),Inv X pins σ H s->(∀b∈fp,ck X pins H b)->tn i s.heap->J.stop i H->
  wpAny (model P w) X.A (pyNext (.ref it)) (λr s1=>r=none/\Inv X pins σ H s1) E s
 self:∀(A:Ag) (i:Nat) (s:Ab) (Q:Aa->Ab->Prop) (E:Aa->Ab->Prop),tn i s.heap->Q (.ref it) s->wpAny (model P w) A (pyIter (.ref it)) Q E s
abbrev TI:=St->Hp->(It->Hp->Prop)->Prop
def TB(X:Cx)(pins:List (Addr × Obj))(σ:St)(tg:Expr)(R:It->Hp->Prop)(F9:Aa)(s2:Ab):Prop:=
 ∃(it:Addr) (fp:List Addr) (tn:Nat->Heap->Prop) (J:It) (H':Hp),F9=.ref it/\Inv X pins σ H' s2/\Turn X.prog X.w X.K tg J fp it tn/\tn 0 s2.heap/\(∀b∈fp,ck X pins H' b)/\R J H'
def PI(X:Cx)(tg iter:Expr)(wi:TI):Prop:=
 ∀(pins:List (Addr × Obj)) (s:Ab) (σ:St) (H:Hp) (R:It->Hp->Prop),Inv X pins σ H s->wi σ H R->
  wpAny (model X.prog X.w) X.A (eval iter X.env) (λv s1=>wpAny (model X.prog X.w) X.A (pyIter v) (TB X pins σ tg R) X.xe s1) X.xe s
variable{u:Aa}
theorem zI{A:Ag}{E:Aa->Ab->Prop}{s:Ab}{n:String}{vs:Array Aa}{Q:Unit->Ab->Prop}(ho:s.heap.get? it=some o)(hc:o.cls=.type n)(hd:o.data=.fields vs)(hn:["enumerate","zip","dict_itemiterator","dict_reverseitemiterator","odict_iterator","itertools.zip_longest","itertools.pairwise"].contains n=false)(hQ:Q () s):wpAny M A (letOwnedTupleGo tg (.ref it) u) Q E s:=by
 unfold letOwnedTupleGo
 cases tg<;>first
  |exact aQ hQ
  |(cases u<;>first
    |exact aQ hQ
    |(refine aj (wpAny_load ho ?_)
      rw[hc,hd];show wpAny M A (if (["enumerate","zip","dict_itemiterator","dict_reverseitemiterator","odict_iterator","itertools.zip_longest","itertools.pairwise"].contains n&&vs[0]? == some (rawInt _))=true then _ else _) Q E s;rw[ao (by intro h;rw[hn,Bool.false_and] at h;cases h)];exact aQ hQ))
def AC(K:ag)(a:Addr):It:=
 ⟨λi H=>∃xs x,dB K H a xs/\xs[i]? = some x,λi H x H'=>H'=H/\∀xs,dB K H a xs->xs[i]? = some x,λi H=>∃xs,dB K H a xs/\xs.length<=i⟩
def NF(K:ag)(a:Addr):It:=
 ⟨λi H=>∃xs x,fe K H a xs/\xs[i]? = some x,λi H x H'=>H'=H/\∀xs,fe K H a xs->xs[i]? = some x,λi H=>∃xs,fe K H a xs/\xs.length<=i⟩
def BK(lo:Int)(n:Nat):It:=⟨λi _=>i<n,λi H x H'=>H'=H/\x=.int (lo+i),λi _=>n<=i⟩
variable{w:Af}
theorem he_{K:ag}(a it:Addr):Turn P w K tg (AC K a) [it] it (λi h=>h.IsListIter it a i) where
 mem:=by simp
 obj:=λi h st b hb=>by
  have e:b=it:=by simpa using hb
  subst e;obtain⟨o,e,c,d⟩:=st;exact#[o,e,λv z=>by rw[d] at z;cases z]
 keep:=λi h h' st k=>st.at λo e=>k it Z2 o e
 item:=by
  intro X hP hw hK hc i pins s σ H E I hf st hg;subst hP hw hK;obtain⟨xs,x,hq,hx⟩:=hg;obtain⟨its,rv,p,hz⟩:=I.list hq;obtain⟨u,hu,ru⟩:=rv.get hx;obtain⟨f0,f1,f2,f3,f4,f5⟩:=hf it Z2;refine wpAny_pyNext_list_item st p.isList (x:=u) (by simpa using hu) λh' dY sb=>?_;have I1:Inv X pins σ H { s with heap:=h' }:=I.turned (t':=s.toks) (λb o hb e=>(sb.2 b hb).trans e) f0 f1 f3 f4 f5;obtain⟨o,e,c,d⟩:=id dY;exact#[u,Z,zI (s:={ s with heap:=h' }) e c d (by decide) #[x,H,I1,ru,#[Z,λys hy=>by rw[I.jy hy hq];exact hx],dY,λb hb=>(hf b hb).1]]
 done:=by
  intro X hP hw hK hc i pins s σ H E I hf st hg;subst hP hw hK;obtain⟨xs,hq,hx⟩:=hg;obtain⟨its,rv,p,hz⟩:=I.list hq;obtain⟨f0,f1,f2,f3,f4,f5⟩:=hf it Z2;have hl:=rv.length;exact wpAny_pyNext_list_end (I.ok.hd hc) st p.isList (by simp;omega) λh' eb=>#[Z,I.turned (t':=s.toks) (λb o hb e=>eb b o hb e) f0 f1 f3 f4 f5]
 self:=λ_ _ _ _ _ st h=>wpAny_pyIter_listiter st h
theorem g7_{K:ag}(a it:Addr):Turn P w K tg (NF K a) [it] it (λi h=>h.IsTupleIter it a i) where
 mem:=by simp
 obj:=λi h st b hb=>by
  have e:b=it:=by simpa using hb
  subst e;obtain⟨o,e,c,d⟩:=st;exact#[o,e,λv z=>by rw[d] at z;cases z]
 keep:=λi h h' st k=>st.at λo e=>k it Z2 o e
 item:=by
  intro X hP hw hK hc i pins s σ H E I hf st hg;subst hP hw hK;obtain⟨xs,x,hq,hx⟩:=hg;obtain⟨its,rv,p,hz⟩:=I.tuple hq;obtain⟨u,hu,ru⟩:=rv.get hx;obtain⟨f0,f1,f2,f3,f4,f5⟩:=hf it Z2;refine wpAny_pyNext_tuple_item st (show s.heap.IsTuple a its.toArray from p) (x:=u) (by simpa using hu) λh' dY sb=>?_;have I1:Inv X pins σ H { s with heap:=h' }:=I.turned (t':=s.toks) (λb o hb e=>(sb.2 b hb).trans e) f0 f1 f3 f4 f5;obtain⟨o,e,c,d⟩:=id dY;exact#[u,Z,zI (s:={ s with heap:=h' }) e c d (by decide) #[x,H,I1,ru,#[Z,λys hy=>by rw[I.fE hy hq];exact hx],dY,λb hb=>(hf b hb).1]]
 done:=by
  intro X hP hw hK hc i pins s σ H E I hf st hg;subst hP hw hK;obtain⟨xs,hq,hx⟩:=hg;obtain⟨its,rv,p,hz⟩:=I.tuple hq;obtain⟨f0,f1,f2,f3,f4,f5⟩:=hf it Z2;have hl:=rv.length;exact wpAny_pyNext_tuple_end (I.ok.hd hc) st (show s.heap.IsTuple a its.toArray from p) (by simp;omega) λh' eb=>#[Z,I.turned (t':=s.toks) (λb o hb e=>eb b o hb e) f0 f1 f3 f4 f5]
 self:=λ_ _ _ _ _ st h=>wpAny_pyIter_tupleiter st h
theorem fK_{K:ag}(it:Addr)(lo:Int)(n:Nat):Turn P w K tg (BK lo n) [it] it (λi h=>IsRangeIter h it (lo+(i:Nat) * 1) ((n:Int) - (i:Nat)) 1) where
 mem:=by simp
 obj:=λi h st b hb=>by
  have e:b=it:=by simpa using hb
  subst e
  exact#[_,st,λv z=>by
   have z':Data.fields _=Data.cell v:=z;cases z']
 keep:=λi h h' st k=>k it Z2 _ st
 item:=by
  intro X hP hw hK hc i pins s σ H E I hf st hg;subst hP hw hK;obtain⟨f0,f1,f2,f3,f4,f5⟩:=hf it Z2;have W:=Walks.range (prog:=X.prog) (w:=X.w) (I.ok.hd hc) it lo 1 n;refine W.item i s _ _ hg st λv h' tk hv dY kk=>?_;obtain⟨t,rfl⟩:=hv;have I1:Inv X pins σ H { s with heap:=h',toks:=tk }:=I.turned (λb o hb e=>kk b o (by simpa using hb) e) f0 f1 f3 f4 f5;refine#[_,Z,zI (s:={ s with heap:=h',toks:=tk }) (n:="range_iterator") dY Z Z (by decide) #[.int (lo+i),H,I1,#[t,?_],#[Z,Z],dY,λb hb=>(hf b hb).1]];rw[Int.mul_one]
 done:=by
  intro X hP hw hK hc i pins s σ H E I hf st hg;subst hP hw hK;obtain⟨f0,f1,f2,f3,f4,f5⟩:=hf it Z2;exact wpAny_pyNext_range_end (I.ok.hd hc) st (by have:n<=i:=hg;omega) λh' eb=>#[Z,I.turned (t':=s.toks) (λb o hb e=>eb b o hb e) f0 f1 f3 f4 f5]
 self:=λ_ _ _ _ _ st h=>wpAny_pyIter_rangeiter st h
inductive rZ (K:ag) (R:It->Hp->Prop) (x:V) (H1:Hp):Prop
 |mk:∀a,x=.ref a->(∃xs,dB K H1 a xs)->R (AC K a) H1->rZ K R x H1
def Dp(K:ag)(tl:TE):TI:=λσ H R=>tl σ H λx H1=>rZ K R x H1
inductive wU (K:ag) (R:It->Hp->Prop) (x:V) (H1:Hp):Prop
 |mk:∀a,x=.ref a->(∃xs,fe K H1 a xs)->R (NF K a) H1->wU K R x H1
def JM(K:ag)(tl:TE):TI:=λσ H R=>tl σ H λx H1=>wU K R x H1
variable{X:Cx}{l:Expr}{tl:TE}
theorem dH(hl:PE X l tl):PI X tg l (Dp X.K tl):=by
 intro pins s σ H R I h;refine aJ (hl pins s σ H _ I h) λv s1 ⟨x,H1,I1,r1,q1⟩=>?_;obtain⟨a,e,⟨xs,hq⟩,q⟩:=q1;subst e;cases r1;obtain⟨its,rv,p,hz⟩:=I1.list hq;refine wpAny_pyIter_list p.isList ?_;refine#[s1.heap.objs.size,[s1.heap.objs.size],_,_,H1,Z,I1.kept (t':=s1.toks) λb o e=>bH _ e,he_ a _,#[_,dI _ Z,Z,Z],λb hb=>?_,q];have e:b=s1.heap.objs.size:=by simpa using hb
 subst e;exact I1.hJ (aZ _) (I1.aF.fresh (aZ _))
theorem XN(hl:PE X l tl):PI X tg l (JM X.K tl):=by
 intro pins s σ H R I h;refine aJ (hl pins s σ H _ I h) λv s1 ⟨x,H1,I1,r1,q1⟩=>?_;obtain⟨a,e,⟨xs,hq⟩,q⟩:=q1;subst e;cases r1;obtain⟨its,rv,p,hz⟩:=I1.tuple hq;refine wpAny_pyIter_tuple (show s1.heap.IsTuple a its.toArray from p) ?_;refine#[s1.heap.objs.size,[s1.heap.objs.size],_,_,H1,Z,I1.kept (t':=s1.toks) λb o e=>bH _ e,g7_ a _,#[_,dI _ Z,Z,Z],λb hb=>?_,q];have e:b=s1.heap.objs.size:=by simpa using hb
 subst e;exact I1.hJ (aZ _) (I1.aF.fresh (aZ _))
variable{pins:List (Addr × Obj)}
theorem ZY{H:Hp}{s:Ab}{R:It->Hp->Prop}{E:Aa->Ab->Prop}{lo hi:Int}{t u v:Tok}{tk:Nat}(I:Inv X pins σ H s)(h1:-(2 ^ 62)<=lo)(h2:lo<2 ^ 62)(h3:-(2 ^ 62)<=hi)(h4:hi<2 ^ 62)(q:R (BK lo (hi - lo).toNat) H):wpAny (model X.prog X.w) X.A (pyIter (.ref s.heap.objs.size)) (TB X pins σ tg R) E { s with heap:=s.heap.push { cls:=.type "range",data:=.fields (List.toArray [.int lo t,.int hi u,.int 1 v]) },toks:=tk }:=by
 refine wpAny_pyIter_range (IsRange.new ..) (small_one h1 h2 h3 h4) ?_;have I1:Inv X pins σ H { s with heap:=s.heap.push { cls:=.type "range",data:=.fields (List.toArray [.int lo t,.int hi u,.int 1 v]) },toks:=tk }:=I.kept λb o e=>bH _ e
 refine#[(s.heap.push { cls:=.type "range",data:=.fields (List.toArray [.int lo t,.int hi u,.int 1 v]) }).objs.size,[(s.heap.push { cls:=.type "range",data:=.fields (List.toArray [.int lo t,.int hi u,.int 1 v]) }).objs.size],_,_,H,Z,
  I1.kept (t':=tk) λb o e=>bH _ e,fK_ _ lo (hi - lo).toNat,?_,λb hb=>?_,q]
 ·have e1:lo+((0:Nat):Int) * 1=lo:=by simp
  have e2:(((hi - lo).toNat:Nat):Int) - ((0:Nat):Int)=Builtin.Range.rangeSize lo hi 1:=by rw[rangeSize_one];split<;>omega
  show IsRangeIter _ _ (lo+((0:Nat):Int) * 1) ((((hi - lo).toNat:Nat):Int) - ((0:Nat):Int)) 1;rw[e1,e2];exact dI _ Z
 ·have e:b=(s.heap.push { cls:=.type "range",data:=.fields (List.toArray [.int lo t,.int hi u,.int 1 v]) }).objs.size:=by simpa using hb
  subst e;exact I1.hJ (aZ _) (I1.aF.fresh (aZ _))
inductive rY (R:It->Hp->Prop) (vs:List V) (H1:Hp):Prop
 |mk:∀j:Int,vs=[.int j]->-(2 ^ 62)<=j->j<2 ^ 62->R (BK 0 j.toNat) H1->rY R vs H1
def Do(ta:TA):TI:=λσ H R=>ta σ H λvs H1=>rY R vs H1
variable{p:Pos}
theorem Hm{a:Expr}{ta:TA}(hg:Gl X "range")(hm:X.mg "range"=none)(ha:PA X [a] ta)(hs:starEach [a] X.env=[(false,eval a X.env)]:=by rfl):PI X tg (.Call (.Name "range" p) [a] [] pos) (Do ta):=by
 intro pins s σ H R I h;refine Call_ (tZ I hg hm boot_range (PyProof.Rows.callWith_type1 (aJ (ha pos pins s σ H _ I h) λus s1 ⟨vs,H1,I1,r1,q1⟩=>?_) hs Z));obtain⟨j,e,q1,q2,q⟩:=q1;subst e;cases r1 with
 |cons r rr=>
  cases rr;obtain⟨t,rfl⟩:=r;exact call_range_1 (ZY I1 Z1 Z1 q1 q2 (by simpa using q))
def Im(wi:TI)(g:TG)(tb:TS):TS:=λD σ H=>wi σ H λJ H1=>∃W:Nat->Nat->St->Hp->Prop,(∃m,W 0 m σ H1)/\∀i m σ H,W i m σ H->
 (J.stop i H/\D.nx σ H)∨(J.go i H/\∃N:St->Hp->Prop,(∀bf H',N bf H'->∃m',m'<m/\W (i+1) m' bf H')/\∀x H',J.ui i H x H'->g x σ H' λfC H2=>tb { D with nx:=N,ct:=N,bk:=D.nx } fC H2)
def vB(fp:List Addr)(h:Heap):List (Addr × Obj):=fp.filterMap λb=>(h.get? b).map λo=>(b,o)
variable{fp:List Addr}
theorem Hw(hb:b∈fp)(e:h.get? b=some o):(b,o)∈vB fp h:=ue.mpr #[b,hb,by rw[e];rfl]
theorem gw_{p:Addr × Obj}(hp:p∈vB fp h):p.1∈fp/\h.get? p.1=some p.2:=by
 obtain⟨b,hb,e⟩:=ue.mp hp;cases q:h.get? b with
 |none=>rw[q] at e;cases e
 |some o=>
  rw[q] at e;have e':(b,o)=p:=dW e;subst e';exact#[hb,q]
theorem Inv.pinned{H:Hp}{s:Ab}(I:Inv X pins σ H s)(hf:∀b∈fp,ck X pins H b)(ho:∀b∈fp,∃o,s.heap.get? b=some o/\∀v,o.data≠.cell v):Inv X (pins++vB fp s.heap) σ H s:=
 I.oe λp hp=>(eK.mp hp).elim (λz=>I.pin p (mO _ z)) λz=>by
  obtain⟨hb,e⟩:=gw_ z;obtain⟨f0,f1,f2,_⟩:=hf p.1 hb;obtain⟨o,e',d⟩:=ho p.1 hb;rw[e] at e';cases e';exact#[e,f0,f1,f2,d]
theorem Inv.d7{pl:List (Addr × Obj)}{H:Hp}{s:Ab}(I:Inv X (pins++pl) σ H s):Inv X pins σ H s:=I.oe λp hp=>I.pin p (mO _ (List.mem_append_left _ hp))
theorem eV{iter:Expr}{wi:TI}{g:TG}(hp:PassesOwn (model X.prog X.w) X.A X.env X.xe)(hc:X.calm=true)(hi:PI X tg iter wi)(hg:PG X tg g)(hb:kz X body tb)(hs:∀x,foldedSetIterable iter X.env x=pure x:=by intro _;rfl):PS X (.For tg iter body [] pos) (Im wi g tb):=by
 intro pins s σ H D I h;refine wpAny_For (aJ (hi pins s σ H _ I h) λv s1 h1=>aJ h1 λF9 s2 h2=>?_) hs;obtain⟨it,fp,tn,J,H2,e,I2,T,d_,f2,W,⟨m0,w0⟩,turn⟩:=h2;subst e;have xS:∀{H':Hp},(∀b∈fp,H' b=none)->∀b∈fp,ck X pins H' b:=λhn b hb=>#[hn b hb,(f2 b hb).2];refine codeAny_forLoop_any (λn s'=>∃i bf H',Inv X pins bf H' s'/\tn i s'.heap/\(∀b∈fp,H' b=none)/\W i n bf H') ?_ m0 #[0,σ,H2,I2,d_,λb hb=>(f2 b hb).1,w0];rintro n s3 ⟨i,j3,H3,I3,iU,Eh,w3⟩;rcases turn i n j3 H3 w3 with⟨stop,qn⟩|⟨go,N,hN,step⟩
 ·refine wpAny_passesOwn hp (aJ (T.done X Z Z Z hc i pins s3 j3 H3 X.xe I3 (xS Eh) iU stop) λr s4 ⟨hr,I4⟩=>?_);subst hr;exact wpAny_execs_nil #[j3,H3,I4,qn]
 ·refine wpAny_passesOwn hp (aJ (T.item X Z Z Z hc i pins s3 j3 H3 X.xe I3 (xS Eh) iU go) λr s4 ⟨u,hr,h4⟩=>?_);subst hr;refine wpAny_passesOwn hp (aJ h4 λ_ s5 ⟨x,H5,I5,r5,y5,gc,oy⟩=>?_);have I5':=I5.pinned (xS oy) (T.obj _ _ gc);refine wpAny_passesOwn hp (aJ (hg _ s5 j3 H5 x u _ I5' r5 (step x H5 y5)) λ_ s6 ⟨TL,H6,I6,q6⟩=>?_);refine wpAny_passesOwn hp (aJ (hb _ s6 TL H6 _ I6 q6) λf s7 q7=>?_)
  have again:∀{p6:St} {H7:Hp},Inv X (pins++vB fp s5.heap) p6 H7 s7->N p6 H7->∃m,m<n/\∃i bf H',Inv X pins bf H' s7/\tn i s7.heap/\(∀b∈fp,H' b=none)/\W i m bf H':=λ{p6 H7} I7 n7=>by
   obtain⟨m',hm,w7⟩:=hN p6 H7 n7;refine#[m',hm,i+1,p6,H7,I7.d7,T.keep _ _ _ gc λb hb o e=>(I7.pin (b,o) (mO _ (mO _ (Hw hb e)))).1,λb hb=>?_,w7];obtain⟨o,e,d⟩:=T.obj _ _ gc b hb;exact (I7.pin (b,o) (mO _ (mO _ (Hw hb e)))).2.1
  cases f with
  |next=>obtain⟨p6,H7,I7,n7⟩:=q7;exact again I7 n7
  |cont=>obtain⟨p6,H7,I7,n7⟩:=q7;exact again I7 n7
  |brk=>obtain⟨p6,H7,I7,q7⟩:=q7;exact#[p6,H7,I7.d7,q7]
  |ret v=>obtain⟨x7,p6,H7,I7,r7,q7⟩:=q7;exact#[x7,p6,H7,I7.d7,r7,q7]
theorem gF{K:ag}{xs:List V}{g:TG}{D:Ends}{H:Hp}(Pv:Nat->St->Hp->Prop)(h0:Pv 0 σ H)(hl:∀i σ H,i<=xs.length->Pv i σ H->dB K H a xs)(hs:∀i x σ H,xs[i]? = some x->Pv i σ H->g x σ H λfC H2=>tb { D with nx:=Pv (i+1),ct:=Pv (i+1),bk:=D.nx } fC H2)(hd:∀σ H,Pv xs.length σ H->D.nx σ H) :
  ∃W:Nat->Nat->St->Hp->Prop,(∃m,W 0 m σ H)/\∀i m σ H,W i m σ H->
   ((AC K a).stop i H/\D.nx σ H)∨((AC K a).go i H/\∃N:St->Hp->Prop,(∀bf H',N bf H'->∃m',m'<m/\W (i+1) m' bf H')/\∀x H',(AC K a).ui i H x H'->g x σ H' λfC H2=>tb { D with nx:=N,ct:=N,bk:=D.nx } fC H2):=by
 refine#[λi m σ H=>m=xs.length - i/\i<=xs.length/\Pv i σ H,#[xs.length,by simp,fB _,h0],?_];rintro i m σ H ⟨rfl,hi,p⟩;have q:=hl i σ H hi p;by_cases cb:i<xs.length
 ·refine .inr #[#[xs,xs[i],q,by simp[cb]],Pv (i+1),λbf H' p'=>#[xs.length - (i+1),by omega,Z,cb,p'],λx H' y=>?_];obtain⟨e,y⟩:=y;subst e;exact hs i x σ _ (y xs q) p
 ·have e:i=xs.length:=by omega
  subst e;exact .inl #[#[xs,q,aZ _],hd σ H p]
theorem gp_{lo:Int}{g:TG}{D:Ends}{H:Hp}(Pv:Nat->St->Hp->Prop)(h0:Pv 0 σ H)(hs:∀i σ H,i<n->Pv i σ H->g (.int (lo+i)) σ H λfC H2=>tb { D with nx:=Pv (i+1),ct:=Pv (i+1),bk:=D.nx } fC H2)(hd:∀σ H,Pv n σ H->D.nx σ H) :
  ∃W:Nat->Nat->St->Hp->Prop,(∃m,W 0 m σ H)/\∀i m σ H,W i m σ H->
   ((BK lo n).stop i H/\D.nx σ H)∨((BK lo n).go i H/\∃N:St->Hp->Prop,(∀bf H',N bf H'->∃m',m'<m/\W (i+1) m' bf H')/\∀x H',(BK lo n).ui i H x H'->g x σ H' λfC H2=>tb { D with nx:=N,ct:=N,bk:=D.nx } fC H2):=by
 refine#[λi m σ H=>m=n - i/\i<=n/\Pv i σ H,#[n,by simp,fB _,h0],?_];rintro i m σ H ⟨rfl,hi,p⟩;by_cases cb:i<n
 ·refine .inr #[cb,Pv (i+1),λbf H' p'=>#[n - (i+1),by omega,Z,cb,p'],λx H' y=>?_];obtain⟨e,y⟩:=y;subst e y;exact hs i σ _ cb p
 ·have e:i=n:=by omega
  subst e;exact .inl #[aZ _,hd σ H p]
theorem _I{c:TT}{D:Ends}{H:Hp}(Pv:St->Hp->Prop)(μ:St->Hp->Nat)(h0:Pv σ H)(hs:∀σ H,Pv σ H->c σ H λb H1=>if b=true then tb { D with nx:=λbf H'=>Pv bf H'/\μ bf H'<μ σ H,ct:=λbf H'=>Pv bf H'/\μ bf H'<μ σ H,bk:=D.nx } σ H1 else D.nx σ H1)(mono:∀σ H Q Q',(∀b H1,Q b H1->Q' b H1)->c σ H Q->c σ H Q'):p8 c tb D σ H:=by
 refine#[λm σ H=>m=μ σ H/\Pv σ H,#[_,Z,h0],?_];rintro m σ H ⟨rfl,p⟩;refine mono σ H _ _ (λb H1 q=>?_) (hs σ H p);cases b with
 |true=>exact#[_,λbf H' ⟨p',l⟩=>#[_,l,Z,p'],q]
 |false=>exact q
abbrev R2:=V->V->Hp->VK->Prop
def dC(X:Cx)(f:Aa->Aa->Sem Aa)(r:R2):Prop:=
 ∀(pins:List (Addr × Obj)) (s:Ab) (σ:St) (H:Hp) (x y:V) (v u:Aa) (Q:VK),Inv X pins σ H s->RelV x v->RelV y u->r x y H Q->
  wpAny (model X.prog X.w) X.A (f v u) (EP X pins σ Q) X.xe s
def NA(X:Cx)(f:Aa->Sem Aa)(r:V->Hp->VK->Prop):Prop:=
 ∀(pins:List (Addr × Obj)) (s:Ab) (σ:St) (H:Hp) (x:V) (v:Aa) (Q:VK),Inv X pins σ H s->RelV x v->r x H Q->
  wpAny (model X.prog X.w) X.A (f v) (EP X pins σ Q) X.xe s
def gJ(X:Cx)(f:Aa)(r:List V->Hp->VK->Prop):Prop:=
 ∀(pins:List (Addr × Obj)) (s:Ab) (σ:St) (H:Hp) (xs:List V) (us:List Aa) (Q:VK),Inv X pins σ H s->Vals xs us->r xs H Q->
  wpAny (model X.prog X.w) X.A (call f us) (EP X pins σ Q) X.xe s
def FD(r:R2)(ta tb:TE):TE:=λσ H Q=>ta σ H λx H1=>tb σ H1 λy H2=>r x y H2 Q
def UP(r:V->Hp->VK->Prop)(ta:TE):TE:=λσ H Q=>ta σ H λx H1=>r x H1 Q
inductive rI (C:Int->Int->Prop) (g:Int->Int->V) (x:V) (y:V) (H:Hp) (Q:VK):Prop
 |mk:∀i j,x=.int i->y=.int j->C i j->Q (g i j) H->rI C g x y H Q
inductive uK (g:Int->Int->V) (x:V) (y:V) (H:Hp) (Q:VK):Prop
 |mk:∀i j,x=.int i->y=.int j->Q (g i j) H->uK g x y H Q
inductive rU (g:Int->V) (x:V) (H:Hp) (Q:VK):Prop
 |mk:∀i,x=.int i->Q (g i) H->rU g x H Q
variable{r:R2}
variable{g:Int->Int->Int}
section
variable{X:Cx}{a b c:Expr}{ta tb tc:TE}{pos:Pos}
theorem Ao(ha:PE X a ta)(hb:PE X b tb){s:Ab}{H:Hp}{R:V->V->Hp->Prop}(I:Inv X pins σ H s)(h:ta σ H λx H1=>tb σ H1 λy H2=>R x y H2){Q:Aa->Ab->Prop}{f:Aa->Aa->Sem Aa}(hf:∀v u s2 x y H2,Inv X pins σ H2 s2->RelV x v->RelV y u->R x y H2->wpAny (model X.prog X.w) X.A (f v u) Q X.xe s2) :
  wpAny (model X.prog X.w) X.A (eval a X.env) (λv aN=>wpAny (model X.prog X.w) X.A (eval b X.env) (λu jf=>wpAny (model X.prog X.w) X.A (f v u) Q X.xe jf) X.xe aN) X.xe s:=by
 refine aJ (ha pins s σ H _ I h) λv s1 ⟨x,H1,I1,r1,q1⟩=>?_;refine aJ (hb pins s1 σ H1 _ I1 q1) λu s2 ⟨y,H2,I2,r2,q2⟩=>?_;exact hf v u s2 x y H2 I2 r1 r2 q2
theorem bw{op:Operator}(ho:dC X (binaryOp op) r)(ha:PE X a ta)(hb:PE X b tb):PE X (.BinOp a op b pos) (FD r ta tb):=by
 intro pins s σ H Q I h;exact wpAny_BinOp (Ao ha hb I h λv u s2 x y H2 I2 rx ry q=>ho pins s2 σ H2 x y v u Q I2 rx ry q)
theorem Wr{op:UnaryOp}{r:V->Hp->VK->Prop}(ho:NA X (unaryOp op) r)(ha:PE X a ta):PE X (.UnaryOp op a pos) (UP r ta):=by
 intro pins s σ H Q I h;exact UnaryOp_ (aJ (ha pins s σ H _ I h) λv s1 ⟨x,H1,I1,r1,q1⟩=>ho pins s1 σ H1 x v Q I1 r1 q1)
theorem FW{f:Aa->Aa->Sem Aa}{C:Int->Int->Prop}(rule:∀(i j:Int) (t u:Tok) (s:Ab) (Q:Aa->Ab->Prop) (E:Aa->Ab->Prop),C i j->Q (.int (g i j) s.toks) { s with toks:=s.toks+1 }->wpAny (model X.prog X.w) X.A (f (.int i t) (.int j u)) Q E s) :
  dC X f (rI C λi j=>.int (g i j)):=by
 intro pins s σ H x y v u Q I rx ry h;obtain⟨i,j,rfl,rfl,hc,q⟩:=h;obtain⟨t,rfl⟩:=rx;obtain⟨t',rfl⟩:=ry;exact rule i j t t' s _ _ hc #[.int (g i j),H,I.tok _,#[_,Z],q]
theorem CM{f:Aa->Aa->Sem Aa}(rule:∀(i j:Int) (t u:Tok) (s:Ab) (Q:Aa->Ab->Prop) (E:Aa->Ab->Prop),Q (.int (g i j) s.toks) { s with toks:=s.toks+1 }->wpAny (model X.prog X.w) X.A (f (.int i t) (.int j u)) Q E s) :
  dC X f (uK λi j=>.int (g i j)):=by
 intro pins s σ H x y v u Q I rx ry h;obtain⟨i,j,rfl,rfl,q⟩:=h;obtain⟨t,rfl⟩:=rx;obtain⟨t',rfl⟩:=ry;exact rule i j t t' s _ _ #[.int (g i j),H,I.tok _,#[_,Z],q]
theorem uO{f:Aa->Aa->Sem Aa}{g:Int->Int->Bool}
  (rule:∀(i j:Int) (t u:Tok) (s:Ab) (Q:Aa->Ab->Prop) (E:Aa->Ab->Prop),Q (.bool (g i j)) s->wpAny (model X.prog X.w) X.A (f (.int i t) (.int j u)) Q E s) :
  dC X f (uK λi j=>.bl (g i j)):=by
 intro pins s σ H x y v u Q I rx ry h;obtain⟨i,j,rfl,rfl,q⟩:=h;obtain⟨t,rfl⟩:=rx;obtain⟨t',rfl⟩:=ry;exact rule i j t t' s _ _ #[.bl (g i j),H,I,Z,q]
def NK(i j:Int):Prop:=0<j/\j<1073741824
def NJ(i j:Int):Prop:=0<=j/\j<=1000000/\i.natAbs<2 ^ 64
def AE(i j:Int):Prop:=(-(2 ^ 64)<i/\i<2 ^ 64)∨(-(2 ^ 64)<j/\j<2 ^ 64)
theorem AE.ok{i j:Int}(h:AE i j):IntMulOk i j:=by
 rcases h with⟨h1,h2⟩|⟨h1,h2⟩
 ·exact .of_left (intBits_le_64 h1 h2)
 ·exact .of_right (intBits_le_64 h1 h2)
theorem i4:dC X (binaryOp .Add) (uK λi j=>.int (i+j)):=CM λ_ _ _ _ _ _ _ q=>add_int q
theorem Kl:dC X (binaryOp .Sub) (uK λi j=>.int (i - j)):=CM λ_ _ _ _ _ _ _ q=>sub_int q
theorem ki:dC X (binaryOp .Mult) (rI AE λi j=>.int (i * j)):=FW λ_ _ _ _ _ _ _ hc q=>mul_int q hc.ok
theorem vz:dC X (binaryOp .FloorDiv) (rI NK λi j=>.int (i / j)):=FW λi j _ _ _ _ _ hc q=>by
 have h1:(0:Int)<j:=hc.1;have h2:j<1073741824:=hc.2;exact floordiv_int Z1 (by rw[Int.fdiv_eq_ediv_of_nonneg i Z1];exact q) (.inl (PyProof.noPylong_small Z1))
theorem tY:dC X (binaryOp .Mod) (rI (λ_ j=>0<j) λi j=>.int (i % j)):=FW λi j _ _ _ _ _ hc q=>by
 have h1:(0:Int)<j:=hc;exact mod_int' Z1 (by rw[Int.fmod_eq_emod_of_nonneg i Z1];exact q)
theorem OT:dC X (binaryOp .Pow) (rI NJ λi j=>.int (i ^ j.toNat)):=FW λ_ _ _ _ _ _ _ hc q=>pow_int_small hc.1 hc.2.1 hc.2.2 q
theorem UA{f:Aa->Sem Aa}{g:Int->Int}
  (rule:∀(i:Int) (t:Tok) (s:Ab) (Q:Aa->Ab->Prop) (E:Aa->Ab->Prop),Q (.int (g i) s.toks) { s with toks:=s.toks+1 }->wpAny (model X.prog X.w) X.A (f (.int i t)) Q E s) :
  NA X f (rU λi=>.int (g i)):=by
 intro pins s σ H x v Q I rx h;obtain⟨i,rfl,q⟩:=h;obtain⟨t,rfl⟩:=rx;exact rule i t s _ _ #[.int (g i),H,I.tok _,#[_,Z],q]
theorem WD:NA X (unaryOp .USub) (rU λi=>.int (-i)):=UA λ_ _ _ _ _ q=>neg_int q
end
def Cm:V->V->Bool
 |.non,.non=>true | .non,.int _=>true | .int _,.non=>true | .non,.bl _=>true | .bl _,.non=>true | .non,.str _=>true | .str _,.non=>true
 |.int _,.int _=>true | .bl _,.bl _=>true | .str _,.str _=>true | .byt _,.byt _=>true
 |.int _,.str _=>true | .str _,.int _=>true | .bl _,.str _=>true | .str _,.bl _=>true
 |_,_=>false
def Vp:R2:=λx y H Q=>Cm x y=true/\Q (.bl (decide (x=y))) H
def Vo:R2:=λx y H Q=>Cm x y=true/\Q (.bl (!decide (x=y))) H
theorem PX{i j:Int}:decide (V.int i=V.int j)=(i == j):=by
 rw[Bool.eq_iff_iff];simp
theorem O8{i j:Bool}:decide (V.bl i=V.bl j)=(i == j):=by
 rw[Bool.eq_iff_iff];simp
theorem Qz{i j:Str}:decide (V.str i=V.str j)=(i == j):=by
 rw[Bool.eq_iff_iff];simp
theorem QB{i j:Array UInt8}:decide (V.byt i=V.byt j)=(i.toList == j.toList):=by
 rw[Bool.eq_iff_iff];cases i;cases j;simp
variable{AH:CmpOp}{r':R2}
section
variable{X:Cx}{a b c:Expr}{ta tb tc:TE}{pos:Pos}
theorem eN{H:Hp}{s:Ab}{Q:VK}{k k':Bool}(I:Inv X pins σ H s)(q:Q (.bl k) H)(e:k=k'):EP X pins σ Q (.bool k') s:=by
 subst e;exact#[.bl k,H,I,Z,q]
theorem i9:dC X (compareOp .Eq) Vp:=by
 intro pins s σ H x y v u Q I rx ry h;obtain⟨hs,q⟩:=h;cases x with
 |non=>
  cases rx;cases y with
  |non=>cases ry;exact PySem.EqNone.eq_none_none (eN I q Z2)
  |bl j=>cases ry;exact PySem.EqNone.eq_none_bool (eN I q Z2)
  |int j=>obtain⟨t',rfl⟩:=ry;exact PySem.EqNone.eq_none_int (eN I q Z2)
  |str j=>obtain⟨t',rfl⟩:=ry;exact PySem.EqNone.eq_none_str (eN I q Z2)
  |_=>exact absurd (show false=true from hs) fZ
 |bl i=>
  cases rx;cases y with
  |non=>cases ry;exact PySem.EqNone.eq_bool_none (eN I q Z2)
  |bl j=>cases ry;exact eq_bool (eN I q O8)
  |str j=>obtain⟨t',rfl⟩:=ry;exact PySem.EqMixed.eq_bool_str (eN I q Z2)
  |_=>exact absurd (show false=true from hs) fZ
 |int i=>
  obtain⟨t,rfl⟩:=rx;cases y with
  |non=>cases ry;exact PySem.EqNone.eq_int_none (eN I q Z2)
  |int j=>obtain⟨t',rfl⟩:=ry;exact eq_int (eN I q PX)
  |str j=>obtain⟨t',rfl⟩:=ry;exact PySem.EqMixed.eq_int_str (eN I q Z2)
  |_=>exact absurd (show false=true from hs) fZ
 |str i=>
  obtain⟨t,rfl⟩:=rx;cases y with
  |non=>cases ry;exact PySem.EqNone.eq_str_none (eN I q Z2)
  |bl j=>cases ry;exact PySem.EqMixed.eq_str_bool (eN I q Z2)
  |int j=>obtain⟨t',rfl⟩:=ry;exact PySem.EqMixed.eq_str_int (eN I q Z2)
  |str j=>obtain⟨t',rfl⟩:=ry;exact eq_str (eN I q Qz)
  |_=>exact absurd (show false=true from hs) fZ
 |byt i=>
  obtain⟨t,rfl⟩:=rx;cases y with
  |byt j=>obtain⟨t',rfl⟩:=ry;exact PySem.W.eq_bytes (eN I q QB)
  |_=>exact absurd (show false=true from hs) fZ
 |_=>cases y<;>exact absurd (show false=true from hs) fZ
theorem oA:dC X (compareOp .NotEq) Vo:=by
 intro pins s σ H x y v u Q I rx ry h;obtain⟨hs,q⟩:=h;cases x with
 |non=>
  cases rx;cases y with
  |non=>cases ry;exact PySem.EqNone.ne_none_none (eN I q Z2)
  |bl j=>cases ry;exact PySem.EqNone.ne_none_bool (eN I q Z2)
  |int j=>obtain⟨t',rfl⟩:=ry;exact PySem.EqNone.ne_none_int (eN I q Z2)
  |str j=>obtain⟨t',rfl⟩:=ry;exact PySem.EqNone.ne_none_str (eN I q Z2)
  |_=>exact absurd (show false=true from hs) fZ
 |bl i=>
  cases rx;cases y with
  |non=>cases ry;exact PySem.EqNone.ne_bool_none (eN I q Z2)
  |bl j=>cases ry;exact ne_bool (eN I q (dF not O8))
  |str j=>obtain⟨t',rfl⟩:=ry;exact PySem.EqMixed.ne_bool_str (eN I q Z2)
  |_=>exact absurd (show false=true from hs) fZ
 |int i=>
  obtain⟨t,rfl⟩:=rx;cases y with
  |non=>cases ry;exact PySem.EqNone.ne_int_none (eN I q Z2)
  |int j=>obtain⟨t',rfl⟩:=ry;exact ne_int (eN I q (dF not PX))
  |str j=>obtain⟨t',rfl⟩:=ry;exact PySem.EqMixed.ne_int_str (eN I q Z2)
  |_=>exact absurd (show false=true from hs) fZ
 |str i=>
  obtain⟨t,rfl⟩:=rx;cases y with
  |non=>cases ry;exact PySem.EqNone.ne_str_none (eN I q Z2)
  |bl j=>cases ry;exact PySem.EqMixed.ne_str_bool (eN I q Z2)
  |int j=>obtain⟨t',rfl⟩:=ry;exact PySem.EqMixed.ne_str_int (eN I q Z2)
  |str j=>obtain⟨t',rfl⟩:=ry;exact ne_str (eN I q (dF not Qz))
  |_=>exact absurd (show false=true from hs) fZ
 |byt i=>
  obtain⟨t,rfl⟩:=rx;cases y with
  |byt j=>obtain⟨t',rfl⟩:=ry;exact PySem.W.ne_bytes (eN I q (dF not QB))
  |_=>exact absurd (show false=true from hs) fZ
 |_=>cases y<;>exact absurd (show false=true from hs) fZ
theorem JI:dC X (compareOp .Lt) (uK λi j=>.bl (decide (i<j))):=uO λ_ _ _ _ _ _ _ q=>lt_int q
theorem vt:dC X (compareOp .LtE) (uK λi j=>.bl (decide (i<=j))):=uO λ_ _ _ _ _ _ _ q=>le_int q
theorem xh:dC X (compareOp .Gt) (uK λi j=>.bl (decide (j<i))):=uO λ_ _ _ _ _ _ _ q=>gt_int q
theorem Wu:dC X (compareOp .GtE) (uK λi j=>.bl (decide (j<=i))):=uO λ_ _ _ _ _ _ _ q=>ge_int q
inductive SX (x:V) (y:V) (H:Hp) (Q:VK):Prop
 |mk:∀i j,x=.str i->y=.str j->Q (.bl (decide (i.cps.toList<j.cps.toList))) H->SX x y H Q
theorem hS_:dC X (compareOp .Lt) SX:=by
 intro pins s σ H x y v u Q I rx ry h;obtain⟨i,j,rfl,rfl,q⟩:=h;obtain⟨t,rfl⟩:=rx;obtain⟨t',rfl⟩:=ry;exact lt_str (eN I q rfl)
theorem Wx:dC X (compareOp .Is) (λx y H Q=>y=.non/\Q (.bl (decide (x=.non))) H):=by
 intro pins s σ H x y v u Q I rx ry h;obtain⟨rfl,q⟩:=h;cases ry;refine is_none_gen (eN I q ?_)
 cases x<;>first
  |(cases rx;rfl)
  |(obtain⟨t,rfl⟩:=rx;rfl)
theorem ak(b:Expr)(h:op≠.In:=by decide)(h2:op≠.NotIn:=by decide):behindInMarks op b=false:=by
 have e1:(op == CmpOp.In)=false:=by cases op<;>first|rfl|exact absurd rfl h
 have e2:(op == CmpOp.NotIn)=false:=by cases op<;>first|rfl|exact absurd rfl h2
 cases b<;>simp[behindInMarks,e1,e2]
theorem iQ(ho:dC X (compareOp op) r)(ha:PE X a ta)(hb:PE X b tb)(hm:behindInMarks op b=false):PE X (.Compare a [op] [b] pos) (FD r ta tb):=by
 intro pins s σ H Q I h;exact wpAny_Compare1 (Ao ha hb I h λv u s2 x y H2 I2 rx ry q=>ho pins s2 σ H2 x y v u Q I2 rx ry q) hm
inductive qb (Q:Bool->Hp->Prop) (x:V) (H':Hp):Prop
 |mk:∀k,x=.bl k->Q k H'->qb Q x H'
def vX(t:TE):TT:=λσ H Q=>t σ H λx H'=>qb Q x H'
theorem cU(ho:dC X (compareOp op) r)(ha:PE X a ta)(hb:PE X b tb)(hm:behindInMarks op b=false):PT X (.Compare a [op] [b] pos) (vX (FD r ta tb)):=by
 intro pins s σ H Q I h
 refine wpAny_isTrue_Compare1 (aJ (ha pins s σ H _ I h) λv s1 ⟨x,H1,I1,r1,q1⟩=>aJ (hb pins s1 σ H1 _ I1 q1) λu s2 ⟨y,H2,I2,r2,q2⟩=>
  aJ (ho pins s2 σ H2 x y v u _ I2 r1 r2 q2) λc s3 ⟨z,H3,I3,r3,k,e,q3⟩=>?_) hm
 subst e;cases r3;exact sP #[H3,I3,q3]
inductive m_ (r':R2) (tc:TE) (σ:St) (Q:VK) (y:V) (z:V) (H3:Hp):Prop
 |mk:∀k,z=.bl k->(if k=true then tc σ H3 λw' H4=>r' y w' H4 Q else Q (.bl false) H3)->m_ r' tc σ Q y z H3
def qk(r r':R2)(ta tb tc:TE):TE:=λσ H Q=>ta σ H λx H1=>tb σ H1 λy H2=>r x y H2 λz H3=>m_ r' tc σ Q y z H3
theorem Rg(ho:dC X (compareOp op) r)(eZ:dC X (compareOp AH) r')(ha:PE X a ta)(hb:PE X b tb)(hc:PE X c tc)(hm:lastMarks [op,AH] [b,c]=false:=by with_unfolding_all rfl):PE X (.Compare a [op,AH] [b,c] pos) (qk r r' ta tb tc):=by
 intro pins s σ H Q I h
 refine Compare_chain (aJ (ha pins s σ H _ I h) λv s1 ⟨x,H1,I1,r1,q1⟩=>chain_link (aJ (hb pins s1 σ H1 _ I1 q1) λu s2 ⟨y,H2,I2,r2,q2⟩=>
  aJ (ho pins s2 σ H2 x y v u _ I2 r1 r2 q2) λd s3 ⟨z,H3,I3,r3,k,e,q3⟩=>?_)) hm
 subst e;cases r3;refine sP ?_;cases k with
 |false=>exact ite_ff #[.bl false,H3,I3,Z,q3]
 |true=>exact ite_tt (chain_last (aJ (hc pins s3 σ H3 _ I3 q3) λw' s4 ⟨z',H4,I4,r4,q4⟩=>eZ pins s4 σ H4 y z' u w' Q I4 r2 r4 q4))
theorem Rf(ho:dC X (compareOp op) r)(eZ:dC X (compareOp AH) r')(ha:PE X a ta)(hb:PE X b tb)(hc:PE X c tc)(hm:lastMarks [op,AH] [b,c]=false:=by with_unfolding_all rfl):PT X (.Compare a [op,AH] [b,c] pos) (vX (qk r r' ta tb tc)):=by
 intro pins s σ H Q I h
 refine isTrue_chain (aJ (ha pins s σ H _ I h) λv s1 ⟨x,H1,I1,r1,q1⟩=>test_link (aJ (hb pins s1 σ H1 _ I1 q1) λu s2 ⟨y,H2,I2,r2,q2⟩=>
  aJ (ho pins s2 σ H2 x y v u _ I2 r1 r2 q2) λd s3 ⟨z,H3,I3,r3,k,e,q3⟩=>?_)) hm
 subst e;cases r3;refine sP ?_;cases k with
 |false=>
  obtain⟨k',e',q'⟩:=q3;cases e';exact ite_ff #[H3,I3,q']
 |true=>
  refine ite_tt (test_last (aJ (hc pins s3 σ H3 _ I3 q3) λw' s4 ⟨z',H4,I4,r4,q4⟩=>aJ (eZ pins s4 σ H4 y z' u w' _ I4 r2 r4 q4) λd' s5 ⟨z2,H5,I5,r5,k2,e2,q5⟩=>?_));subst e2;cases r5;exact sP #[H5,I5,q5]
theorem fH:(sizeLine:Nat)<2 ^ 63:=by rw[bU];decide
inductive SN (x:V) (y:V) (H:Hp) (Q:VK):Prop
 |mk:∀i j,x=.str i->y=.str j->i.length+j.length<=sizeLine->Q (.str (i++j)) H->SN x y H Q
theorem xx:dC X (binaryOp .Add) SN:=by
 intro pins s σ H x y v u Q I rx ry h;obtain⟨i,j,rfl,rfl,hz,q⟩:=h;obtain⟨t,rfl⟩:=rx;obtain⟨t',rfl⟩:=ry;exact add_str (λt' tk=>⟨.str (i++j),H,I.tok _,⟨_,rfl⟩,q⟩) hz
theorem vals1{x:V}{us:List Aa}(r:Vals [x] us):∃u,us=[u]/\RelV x u:=by
 cases r with
 |cons r1 r2=>cases r2;exact#[_,Z,r1]
theorem vals2{x y:V}{us:List Aa}(r:Vals [x,y] us):∃u w',us=[u,w']/\RelV x u/\RelV y w':=by
 cases r with
 |cons r1 r2=>
  cases r2 with
  |cons r3 r4=>cases r4;exact#[_,_,Z,r1,r3]
inductive S7 (xs:List V) (H:Hp) (Q:VK):Prop
 |mk:∀i j,xs=[.int i,.int j]->Q (.int (if j<i then j else i)) H->S7 xs H Q
theorem hO_(hc:X.calm=true):gJ X (.builtin "min") S7:=by
 intro pins s σ H xs us Q I r h;obtain⟨i,j,rfl,q⟩:=h;obtain⟨u,w',rfl,⟨t,rfl⟩,⟨t',rfl⟩⟩:=vals2 r;refine min_two_ints (I.ok.hd hc) λh' tk k=>#[_,H,I.kept k,?_,q];by_cases hj:j<i
 ·rw[aC hj,aC hj];exact#[_,Z]
 ·rw[ao hj,ao hj];exact#[_,Z]
theorem Hf:gJ X (.type "int") (λxs H Q=>(∃i,xs=[.int i]/\Q (.int i) H)∨∃k,xs=[.bl k]/\Q (.int (if k then 1 else 0)) H):=by
 intro pins s σ H xs us Q I r h;rcases h with⟨i,rfl,q⟩|⟨k,rfl,q⟩
 ·obtain⟨u,rfl,t,rfl⟩:=vals1 r;exact call_int_int #[.int i,H,I,#[_,Z],q]
 ·obtain⟨u,rfl,r1⟩:=vals1 r;cases r1;exact call_int_bool #[.int (if k then 1 else 0),H,I.tok _,#[_,Z],q]
end
structure mP (h:Heap) (x dx C:Addr) (mA:Str->Option Aa):Prop where
 obj:h.get? x=some (PySem.W.instObj C dx)
 ns:h.Ns1 dx mA
 ne:dx≠x
variable{mA:Str->Option Aa}
theorem hd_{dx:Addr}(n:h.Ns1 dx mA):∃od,h.get? dx=some od/\∀name,PySem.W.lookIn name od=some (mA name):=by
 obtain⟨o,es,ep,ho,hd,hk,_,hm⟩:=n;refine#[o,ho,λname=>?_];have e:=hm name;unfold nsFind findBy at e;rw[<- Array.find?_toList] at e;unfold PySem.W.lookIn;rw[hd];dsimp only;split
 ·rename_i y q
  rw[q] at e;exact dF some e
 ·rename_i q
  rw[q] at e
  have a:es.toList.any (·.refKey)=false:=by
   rw[List.any_eq_false];intro y hy;obtain⟨z,t,Kh⟩:=hk y (Array.mem_toList_iff.mp hy);simp[DictEntry.refKey,Kh]
  have a':¬es.toList.any (·.refKey)=true:=by rw[a];exact fZ
  rw[ao a'];exact dF some e
theorem mP.look{x dx C:Addr}(I:mP h x dx C mA):∃od,PySem.W.InstAt h x (PySem.W.instObj C dx) C (some od)/\∀name,PySem.W.lookIn name od=some (mA name):=
 let #[od,ho,hl]:=hd_ I.ns
 #[od,#[I.obj,Z,Z,ho],hl]
variable{pl:Sem Bool}
variable{kw:List (Str × Aa)}
section
variable{prog:Ad}{w:Af}{A:Ag}{E:Aa->Ab->Prop}{s:Ab}{K:ag}{x dx C f:Addr}{mA:Str->Option Aa}{name:Str}{v:Aa}
theorem YS{expr:Bool}{Q:Aa->Ab->Prop}(X:K.In s.heap)(I:mP s.heap x dx C mA)(hg:PySem.W.plainGet K C name=true)(hh:PySem.W.hasDictIn K C=true)
  (ha:PySem.W.findIn K (.ref C) name=some none) (hv:mA name=some v) (_U:PySem.W.handedIn v=true) (h:Q v { s with toks:=s.toks+1 }) :
  wpAny (model prog w) A (getAttr (.ref x) name expr) Q E s:=by
 obtain⟨od,J,hl⟩:=I.look;exact PySem.W.get_value X J (PySem.W.plainGet_of hg).1 (PySem.W.findObj_own hh ha Z (by rw[hl,hv])) _U h
theorem Zo{Q:Aa × List Aa->Ab->Prop}(X:K.In s.heap)(I:mP s.heap x dx C mA)(hg:PySem.W.plainGet K C name=true)(hf:PySem.W.findIn K (.ref C) name=some (some (.ref f)))(ht:PySem.W.isFn K (.ref f)=true)(hv:mA name=none)(h:Q (.ref f,[.ref x]) s) :
  wpAny (model prog w) A (getMethod (.ref x) name pl) Q E s:=by
 obtain⟨od,J,hl⟩:=I.look;exact PySem.W.method_fn X J (PySem.W.plainGet_of hg).1 (PySem.W.plainGet_of hg).2 hf (beq_iff_eq.mp ht) (by show (PySem.W.lookIn name od).map (·.isSome)=some false;rw[hl,hv];rfl) h
theorem YC{ns:List Str}{Q:Unit->Ab->Prop}(X:K.In s.heap)(I:mP s.heap x dx C mA)
  (hs:PySem.W.findIn K (.ref C) "__setattr__"=some (some (.builtin "object.__setattr__"))) (hp:PySem.W.plainOver K C=true) (ht:PySem.W.takerIn K C name=some none) (hh:PySem.W.hasDictIn K C=true)
  (hw:PySem.Within mA ns) (hsz:ns.length<=sizeLine)
  (h:∀h',mP h' x dx C (λy=>if y=name then some v else mA y)->Heap.SameBut dx s.heap h'->Q () { s with heap:=h',toks:=s.toks+2 }) :
  wpAny (model prog w) A (setAttr (.ref x) name v) Q E s:=by
 obtain⟨od,J,hl⟩:=I.look;refine PySem.W.set_plain X J hs (PySem.W.osa_open (s:={ s with toks:=s.toks+1 }) (r:=none) X J hp ht λb=>?_);obtain⟨cd,hc,fJ⟩:=PySem.W.any_some hh;have hx:s.heap.get? x=some #[.ref C,some dx,.plain,#[]]:=I.obj;refine aj (aQ (aj (aj (wpAny_loadPart hx (aj (PySem.W.Looks.here (s:={ s with toks:=s.toks+1 }) (PySem.W.looks_clsIn X hc) ?_))))));rw[fJ];refine aQ (a:=some dx) (aj (aQ (aj ?_)));refine wpAny_nsSet1 (s:={ s with toks:=s.toks+1 }) I.ns λh' zd pI=>?_;obtain⟨oD,esD,epD,hoD,hdD,hcD⟩:=zd.count (PySem.Within.cons name v hw);refine aj (wpAny_lookBehind hoD (by rw[hdD];exact pastItsLine_dict (oG hcD (by rw[hX];omega))) ?_);exact aQ (h _ #[(pI.2 _ (Ne.symm I.ne)).trans I.obj,zd,I.ne] pI)
theorem _m{R:Result->Ab->Prop}{vs:List Aa}(X:K.In s.heap)(hm:PySem.W.makesIn K C=true)(hi:PySem.W.findIn K (.ref C) "__init__"=some (some (.ref f)))(hf:PySem.W.typeIn K (.ref f)=some (.type "function"))(h:codeAny (model prog w) (A.under (.builtin "type.__call__" #[.ref C::vs,kw])) (.call (.ref f) #[.ref (s.heap.objs.size+1)::vs,kw]) (PySem.W.InitBack (s.heap.objs.size+1) R)
   { s with heap:=(s.heap.push PySem.W.emptyDict).push (PySem.W.instObj C s.heap.objs.size) }) :
  codeAny (model prog w) A (.call (.ref C) #[vs,kw]) R s:=by
 obtain⟨hh,g,d,t,os⟩:=s;exact PySem.W.make_core (PySem.W.makes_of X hm) (PySem.W.looks_findIn X hi) (λself=>PySem.W.bind_fn X self hf) (.inl Z) h
end
def aB(f:Str)(v:V):List (Str × V)->List (Str × V)
 |[]=>[(f,v)]
 |(g,x)::r=>if g=f then (g,v)::r else (g,x)::aB f v r
theorem eJ(f g:Str)(v:V):∀fs:List (Str × V),(aB f v fs).lookup g=if g=f then some v else fs.lookup g
 |[]=>by
  show List.lookup g [(f,v)]=_;by_cases h:g=f
  ·have hb:(g == f)=true:=beq_iff_eq.mpr h;simp only[List.lookup,hb,aC h]
  ·have hb:(g == f)=false:=beq_eq_false_iff_ne.mpr h;simp only[List.lookup,hb,ao h]
 |(k,x)::r=>by
  have ih:=eJ f g v r;rw[show aB f v ((k,x)::r)=(if k=f then (k,v)::r else (k,x)::aB f v r) from Z];by_cases hk:k=f
  ·rw[aC hk];by_cases h:g=k
   ·have hb:(g == k)=true:=beq_iff_eq.mpr h;simp only[List.lookup,hb,aC (h.trans hk)]
   ·have hb:(g == k)=false:=beq_eq_false_iff_ne.mpr h;simp only[List.lookup,hb,ao (λe:g=f=>h (e.trans hk.symm))]
  ·rw[ao hk];by_cases h:g=k
   ·have hb:(g == k)=true:=beq_iff_eq.mpr h;simp only[List.lookup,hb,ao (λe:g=f=>hk (h.symm.trans e))]
   ·have hb:(g == k)=false:=beq_eq_false_iff_ne.mpr h;simp only[List.lookup,hb];exact ih
theorem MQ(f:Str)(v:V):∀fs:List (Str × V),f∈(aB f v fs).map (·.1)/\∀g,g∈fs.map (·.1)->g∈(aB f v fs).map (·.1)
 |[]=>#[by simp[aB],λg h=>by simp at h]
 |(k,x)::r=>by
  obtain⟨i1,i2⟩:=MQ f v r;rw[show aB f v ((k,x)::r)=(if k=f then (k,v)::r else (k,x)::aB f v r) from Z];by_cases hk:k=f
  ·rw[aC hk];subst hk;exact#[by simp,λg h=>by simpa using h]
  ·rw[ao hk];refine#[?_,λg h=>?_]
   ·rw[dN];exact dP _ i1
   ·rw[dN] at h ⊢;rcases bO.mp h with e|e
    ·exact bO.mpr (.inl e)
    ·exact dP _ (i2 g e)
theorem SS(f:Str)(v:V):∀fs:List (Str × V),(aB f v fs).length<=fs.length+1
 |[]=>by simp[aB]
 |(k,x)::r=>by
  have ih:=SS f v r;rw[show aB f v ((k,x)::r)=(if k=f then (k,v)::r else (k,x)::aB f v r) from Z];by_cases hk:k=f
  ·rw[aC hk,hX,hX];omega
  ·rw[ao hk,hX,hX];omega
variable{o:Option Aa}{v:V}
theorem dJ.some_of(r:dJ (some v) o):∃u,o=some u/\RelV v u:=by
 cases o with
 |none=>exact (show False from r).elim
 |some u=>exact#[u,Z,r]
theorem dJ.none_of(r:dJ none o):o=none:=by
 cases o with
 |none=>rfl
 |some u=>exact (show False from r).elim
theorem gU_(r:RelV v u):PySem.W.handedIn u=true:=by
 cases v with
 |non=>cases (show u=Value.none from r);rfl
 |bl b=>cases (show u=Value.bool b from r);rfl
 |int i=>obtain⟨t,e⟩:=(show ∃t,u=Value.int i t from r);cases e;rfl
 |str x=>obtain⟨t,e⟩:=(show ∃t,u=Value.str x t from r);cases e;rfl
 |byt b=>obtain⟨t,e⟩:=(show ∃t,u=Value.bytes b t from r);cases e;rfl
 |flt b=>obtain⟨t,e⟩:=(show ∃t,u=Value.float b t from r);cases e;rfl
 |ref a=>cases (show u=Value.ref a from r);rfl
 |ty n=>cases (show u=Value.type n from r);rfl
section
variable{P:Ad}{w:Af}{H H':Hp}{h h':Heap}{a C dx:Addr}{fs fs':List (Str × V)}
theorem GH(aF:eX P w H h)(e:H a=some (.ins C dx fs)):∃mA,mP h a dx C mA/\(∀f,dJ (fs.lookup f) (mA f))/\PySem.Within mA (fs.map (·.1))/\fs.length<=1000/\H dx=some (.own a):=by
 obtain⟨d,z,ne,ob,mA,n,r,q⟩:=(show fb P w H h a (.ins C dx fs) from aF a _ e);exact#[mA,#[ob,n,ne],r,q,z,d]
end
structure mT (K:ag) (C:Addr):Prop where
 pg:PySem.W.plainGet K C Str.empty=true
 hd:PySem.W.hasDictIn K C=true
 po:PySem.W.plainOver K C=true
 sa:PySem.W.findIn K (.ref C) "__setattr__"=some (some (.builtin "object.__setattr__"))
theorem mT.get{K:ag}{C:Addr}(c:mT K C)(f:Str):PySem.W.plainGet K C f=true:=c.pg
def ke(K:ag)(C:Addr)(f:Str):Prop:=PySem.W.findIn K (.ref C) f=some none
theorem ke.BW{K:ag}{C:Addr}{f:Str}(n:ke K C f):PySem.W.takerIn K C f=some none:=by
 unfold PySem.W.takerIn;rw[show PySem.W.findIn K (.ref C) f=some none from n];rfl
structure Con (K:ag) (C:Addr) (f:Str) (v:V) (u:Aa):Prop where
 at_:PySem.W.findIn K (.ref C) f=some (some u)
 rel:RelV v u
 get:PySem.W.specialIn K u "__get__"=some none
 cp:PySem.W.copiedNames.contains f=false
structure Meth (K:ag) (C:Addr) (m:Str) (f:Addr):Prop where
 at_:PySem.W.findIn K (.ref C) m=some (some (.ref f))
 fn:PySem.W.isFn K (.ref f)=true
 kp:PySem.W.keepIn K (.ref f)=true
section
variable{X:Cx}{pins:List (Addr × Obj)}{σ:St}{H:Hp}{s:Ab}{a C dx:Addr}{fs:List (Str × V)}{f:Str}{v:V}{A:Ag}{E:Aa->Ab->Prop}
theorem g1_{b:Bool}{Q:Aa->Ab->Prop}(I:Inv X pins σ H s)(e:H a=some (.ins C dx fs))(c:mT X.K C)(n:ke X.K C f)(l:fs.lookup f=some v)
  (h:∀u s',Inv X pins σ H s'->RelV v u->Q u s'):wpAny (model X.prog X.w) A (getAttr (.ref a) f b) Q E s:=by
 obtain⟨mA,O,r,_,_,_⟩:=GH I.aF e;obtain⟨u,hu,ru⟩:=dJ.some_of (v:=v) (o:=mA f) (by rw[<- l];exact r f);exact YS I.fw O (c.get f) c.hd n hu (gU_ ru) (h u _ (I.tok _) ru)
theorem Sd{m:Str}{g:Addr}{Q:Aa × List Aa->Ab->Prop}(I:Inv X pins σ H s)(e:H a=some (.ins C dx fs))(c:mT X.K C)(k:Meth X.K C m g)(l:fs.lookup m=none)(h:Q (.ref g,[.ref a]) s):wpAny (model X.prog X.w) A (getMethod (.ref a) m pl) Q E s:=by
 obtain⟨mA,O,r,_,_,_⟩:=GH I.aF e;have hn:mA m=none:=dJ.none_of (by rw[<- l];exact r m);exact Zo I.fw O (c.get m) k.at_ k.fn hn h
theorem g4_{y:V}{Q:Unit->Ab->Prop}(I:Inv X pins σ H s)(e:H a=some (.ins C dx fs))(c:mT X.K C)(n:ke X.K C f)(hl:fs.length<1000)(ry:RelV y u)(h:∀s',Inv X pins σ (upd H a (.ins C dx (aB f y fs))) s'->Q () s'):wpAny (model X.prog X.w) A (setAttr (.ref a) f u) Q E s:=by
 obtain⟨mA,O,r,wi,_,ho⟩:=GH I.aF e;have hz:(fs.map (·.1)).length<=sizeLine:=by rw[aq,bU];omega
 refine YC I.fw O c.sa c.po n.BW c.hd wi hz λh' O' sb=>h _ ?_;have hd:∃o,h'.get? dx=some o:=let #[o,_,_,e',_]:=O'.ns;#[o,e'];refine I.write (x:=a) (e:=dx) (by rw[e];exact True.intro) (.inr ho) (λb q hb z=>(sb.2 b hb).trans z) hd ?_;refine#[by rw[ax O.ne];exact ho,?_,O.ne,O'.obj,_,O'.ns,λg=>?_,λg hg=>?_]
 ·have:=SS f y fs;omega
 ·show dJ ((aB f y fs).lookup g) (if g=f then some u else mA g);rw[eJ];by_cases q:g=f
  ·rw[aC q,aC q];exact ry
  ·rw[ao q,ao q];exact r g
 ·by_cases q:g=f
  ·rw[q];exact (MQ f y fs).1
  ·refine (MQ f y fs).2 g (wi g λz=>hg ?_);show (if g=f then some u else mA g)=none;rw[ao q];exact z
theorem Inv.made(I:Inv X pins σ H s):Inv X pins σ (upd (upd H s.heap.objs.size (.own (s.heap.objs.size+1))) (s.heap.objs.size+1) (.ins C s.heap.objs.size []))
  { s with heap:=(s.heap.push PySem.W.emptyDict).push (PySem.W.instObj C s.heap.objs.size) }:=by
 have e1:(s.heap.push PySem.W.emptyDict).get? s.heap.objs.size=some PySem.W.emptyDict:=dI s.heap Z
 have e2:((s.heap.push PySem.W.emptyDict).push (PySem.W.instObj C s.heap.objs.size)).get? (s.heap.objs.size+1)=some (PySem.W.instObj C s.heap.objs.size):=by
  have:=dI (s.heap.push PySem.W.emptyDict) (o:=PySem.W.instObj C s.heap.objs.size) Z;rwa [Heap.size_push] at this
 have e3:(s.heap.push PySem.W.emptyDict).Ns s.heap.objs.size (λ_=>none):=#[PySem.W.emptyDict,#[],_,e1,Z,(λe he=>absurd he Z2),λ_=>rfl];have I1:=I.laid (a:=s.heap.objs.size) (o:=.own (s.heap.objs.size+1)) (h':=s.heap.push PySem.W.emptyDict) (t':=s.toks) (λb u q=>bH _ q) (aZ _) #[_,e1];refine I1.laid (a:=s.heap.objs.size+1) (o:=.ins C s.heap.objs.size []) (t':=s.toks) (λb u q=>bH _ q) (Nat.le_of_eq (Heap.size_push _ _)) ?_;have ne:s.heap.objs.size≠s.heap.objs.size+1:=dc (Nat.lt_succ_self _);refine#[by rw[ax ne,ay],fB _,ne,e2,λ_=>none,(Heap.Ns1.of_empty e3).at λo q=>bH _ q,λ_=>True.intro,λy hy=>absurd Z hy]
theorem X3{prog:Ad}{env:Env}{e:Expr}{f:Str}{s:Ab}{Q:Aa->Ab->Prop}(hb:attributeBase e f env (eval e env)=eval e env)(h:wpAny (model prog w) A (eval e env) (λo aN=>wpAny (model prog w) A (getAttr o f true) Q E aN) E s):wpAny (model prog w) A (eval (.Attribute e f pos) env) Q E s:=
 Attribute_any_ h (by rw[arm_eval_Attribute,hb])
end
inductive we (K:ag) (f:Str) (Q:VK) (x:V) (H1:Hp):Prop
 |mk:∀a C dx fs v,x=.ref a->H1 a=some (.ins C dx fs)->mT K C->ke K C f->fs.lookup f=some v->Q v H1->we K f Q x H1
def Io(K:ag)(ta:TE)(f:Str):TE:=λσ H Q=>ta σ H λx H1=>we K f Q x H1
inductive wz (K:ag) (f:Str) (D:Ends) (σ:St) (y:V) (x:V) (H2:Hp):Prop
 |mk:∀a C dx fs,x=.ref a->H2 a=some (.ins C dx fs)->mT K C->ke K C f->fs.length<1000->D.nx σ (upd H2 a (.ins C dx (aB f y fs)))->wz K f D σ y x H2
def IP(K:ag)(ta tv:TE)(f:Str):TS:=λD σ H=>tv σ H λy H1=>ta σ H1 λx H2=>wz K f D σ y x H2
def Ft(X:Cx)(op:Operator)(rd:V->V->Hp->VK->Prop):Prop:=
 ∀(pins:List (Addr × Obj)) (s:Ab) (σ:St) (H:Hp) (x y:V) (u v:Aa) (Q:VK),Inv X pins σ H s->RelV x u->RelV y v->rd x y H Q->wpAny (model X.prog X.w) X.A (inplaceOp op u v) (EP X pins σ Q) X.xe s
section
variable{X:Cx}{o e value:Expr}{f:Str}{pos pos' BV:Pos}{ta tv:TE}
theorem cX(he:PE X e ta)(hb:attributeBase e f X.env (eval e X.env)=eval e X.env):PE X (.Attribute e f pos) (Io X.K ta f):=by
 intro pins s σ H Q I h;refine X3 hb (aJ (he pins s σ H _ I h) λu s1 ⟨x,H1,I1,rx,a,C,dx,fs,v,ex,ea,c,n,l,q⟩=>?_);subst ex;obtain rfl:u=Value.ref a:=rx;exact g1_ I1 ea c n l λu' s2 I2 ru=>#[v,H1,I2,ru,q]
theorem tX(ha:PE X o ta)(hv:PE X value tv)(hs:swapsWith value (some (.Attribute o f pos')) pos.line X.env=pure false):PS X (.Assign [.Attribute o f pos'] value pos) (IP X.K ta tv f):=by
 intro pins s σ H D I h;refine plainObj_wpAny_Assign_Attribute (aJ (hv pins s σ H _ I h) λu s1 ⟨y,H1,I1,ry,q⟩=>aJ (ha pins s1 σ H1 _ I1 q) λov s2 ⟨x,H2,I2,rx,a,C,dx,fs,ex,ea,c,n,l,q2⟩=>?_) hs;subst ex;obtain rfl:ov=Value.ref a:=rx;exact g4_ I2 ea c n l ry λs3 I3=>#[σ,_,I3,q2]
inductive CC (x:V) (y:V) (H:Hp) (Q:VK):Prop
 |mk:∀i j,x=.int i->y=.int j->Q (.int (i+j)) H->CC x y H Q
theorem Xe:Ft X .Add CC:=by
 rintro pins s σ H x y u v Q I rx ry ⟨i,j,rfl,rfl,q⟩;obtain⟨t,rfl⟩:=(show ∃t,u=Value.int i t from rx);obtain⟨t',rfl⟩:=(show ∃t',v=Value.int j t' from ry);exact PyProof.Rows.iadd_int ⟨.int (i+j),H,I.tok _,⟨_,rfl⟩,q⟩
end
section
variable{X:Cx}{pins:List (Addr × Obj)}{σ:St}{H:Hp}{s:Ab}{A:Ag}{E:Aa->Ab->Prop}{Q:Aa->Ab->Prop}{c:Aa}{b:Bool}
inductive eW (K:ag) (H:Hp):V->Aa->Prop where
 |non:eW K H .non (.type "NoneType")
 |bl (x:Bool):eW K H (.bl x) (.type "bool")
 |int (i:Int):eW K H (.int i) (.type "int")
 |str (x:Str):eW K H (.str x) (.type "str")
 |flt (x:UInt64):eW K H (.flt x) (.type "float")
 |lst {a:Addr} {xs:List V} (e:H a=some (.lst xs)):eW K H (.ref a) (.type "list")
 |frz {a:Addr} {o:Obj} {xs:List V} (e:H a=some (.frz o (.lst xs))):eW K H (.ref a) (.type "list")
 |tup {a:Addr} {xs:List V} (e:H a=some (.tup xs)):eW K H (.ref a) (.type "tuple")
 |dK {a:Addr} {kvs:List (Key × V)} (e:H a=some (.dK kvs)):eW K H (.ref a) (.type "dict")
 |dT {a:Addr} {kvs:List (List Key × V)} (e:H a=some (.dT kvs)):eW K H (.ref a) (.type "dict")
 |ins {a C dx:Addr} {fs:List (Str × V)} (e:H a=some (.ins C dx fs)) (cl:mT K C) (ha:PySem.W.findIn K (.ref C) "__class__"=some (some (.builtin "object.__class__")))
   (hn:PySem.W.specialIn K (.builtin "object.__class__") "__get__"=some (some (.builtin "getset_descriptor.__get__"))) (Gc:PySem.W.takesIn K (.builtin "object.__class__")=some true)
   (hm:PySem.W.mroIn K C (.type "object")=some true):eW K H (.ref a) (.ref C)
theorem RD{x:V}{t:Aa}(I:Inv X pins σ H s)(rx:RelV x u)(ty:eW X.K H x t)(e:PySem.W.kitOne X.K t c=some b)(h:∀tk,Q (.bool b) { s with toks:=tk }) :
  wpAny (model X.prog X.w) A (call (.builtin "isinstance") [u,c]) Q E s:=by
 cases ty with
 |non=>cases (show u=Value.none from rx);exact sO PySem.W.kitx_none I.fw True.intro e nofun h
 |bl y=>cases (show u=Value.bool y from rx);exact sO PySem.W.kitx_bool I.fw True.intro e nofun h
 |int i=>obtain⟨t,q⟩:=(show ∃t,u=Value.int i t from rx);cases q;exact sO PySem.W.kitx_int I.fw True.intro e nofun h
 |str y=>obtain⟨t,q⟩:=(show ∃t,u=Value.str y t from rx);cases q;exact sO PySem.W.kitx_str I.fw True.intro e nofun h
 |flt y=>obtain⟨t,q⟩:=(show ∃t,u=Value.float y t from rx);cases q;exact sO PySem.W.kitx_float I.fw True.intro e nofun h
 |@lst a xs ea=>
  cases (show u=Value.ref a from rx);obtain⟨_,_,n,_,h1⟩:=(show fb X.prog X.w H s.heap a (.lst xs) from I.aF a _ ea);exact sO PySem.W.kitx_list I.fw #[_,h1,Z] e nofun h
 |@frz a ob xs ea=>
  cases (show u=Value.ref a from rx);obtain⟨_,_,_,n,_,h1⟩:=(show fb X.prog X.w H s.heap a (.frz ob (.lst xs)) from I.aF a _ ea);exact sO PySem.W.kitx_list I.fw #[_,h1,Z] e nofun h
 |@tup a xs ea=>
  cases (show u=Value.ref a from rx);obtain⟨_,_,_,p,_⟩:=(show fb X.prog X.w H s.heap a (.tup xs) from I.aF a _ ea);obtain⟨o,h1,h2,_⟩:=p;exact sO PySem.W.kitx_tuple I.fw #[o,h1,h2] e nofun h
 |@dK a kvs ea=>
  cases (show u=Value.ref a from rx);obtain⟨_,_,vs,_,p⟩:=(show fb X.prog X.w H s.heap a (.dK kvs) from I.aF a _ ea);obtain⟨o,es,ep,h1,h2,_⟩:=p;exact sO PySem.W.kitx_dict I.fw #[o,h1,h2.1] e nofun h
 |@dT a kvs ea=>
  cases (show u=Value.ref a from rx);obtain⟨_,_,xs,_,o,es,ep,h1,h2,_⟩:=(show fb X.prog X.w H s.heap a (.dT kvs) from I.aF a _ ea);exact sO PySem.W.kitx_dict I.fw #[o,h1,h2.1] e nofun h
 |@ins a C dx fs ea cl ha hn Gc hm=>
  cases (show u=Value.ref a from rx);obtain⟨mA,O,_⟩:=GH I.aF ea;obtain⟨od,J,_⟩:=O.look;exact sO (PySem.W.kitx_own (cl.get _) cl.hd ha hn Gc hm) I.fw J e nofun h
end
structure aD (k:Nat) (A:Ag):Prop where
 hd:A.handled=none
 dp:A.depth+3 * k+5<recursionLimit
 un:A.units+16 * k+200<cLine
theorem aD.mono{A:Ag}(r:aD k A)(h:j<=k):aD j A:=#[r.hd,by have:=r.dp;omega,by have:=r.un;omega]
theorem aD.deeper{A:Ag}(r:aD (k+1) A)(env:Env):aD k (A.deeper env):=
 #[r.hd,by have:=r.dp;show A.depth+1+3 * k+5<_;omega,by have:=r.un;show A.units+3+16 * k+200<_;omega]
theorem aD.in1{A:Ag}(r:aD (k+1) A):aD k A.in1:=
 #[r.hd,by have:=r.dp;show A.depth+3 * k+5<_;omega,by have:=r.un;show A.units+1+16 * k+200<_;omega]
theorem g9_{A:Ag}{C:Addr}{us:List Aa}:(A.under (.builtin "type.__call__" #[.ref C::us,kw])).depth=A.depth+1:=by
 first|rfl|simp[Around.under,Code.weight,Code.isCreation,Code.isGuard,Code.isCaller,Code.frames,Code.isFrame,guardIds]
theorem fI_{A:Ag}{C:Addr}{us:List Aa}:(A.under (.builtin "type.__call__" #[.ref C::us,kw])).units=A.units+1:=by
 first|rfl|simp[Around.under,Code.cUnits,Code.frames,Code.isFrame]
theorem aD.make{A:Ag}(r:aD (k+1) A)(C:Addr)(us:List Aa)(kw:List (Str × Aa)):aD k (A.under (.builtin "type.__call__" #[.ref C::us,kw])):=
 #[r.hd,by have:=r.dp;rw[g9_];omega,by have:=r.un;rw[fI_];omega]
theorem aD.depth{A:Ag}(r:aD k A):A.depth<recursionLimit:=by have:=r.dp;omega
theorem aD.units{A:Ag}(r:aD k A):A.units+64<cLine:=by have:=r.un;omega
theorem aD.xI{A:Ag}(r:aD k A):A.units<cLine:=by have:=r.un;omega
def iw:TA:=λ_ H Q=>Q [] H
def je(ta:TE)(tr:TA):TA:=λσ H Q=>ta σ H λx H1=>tr σ H1 λxs H2=>Q (x::xs) H2
section
variable{X:Cx}{e:Expr}{es:List Expr}{te:TE}{t:TA}{pos:Pos}
theorem af:PA X [] iw:=λ_ _ _ _ H Q I h=>Calls.spliced_nil #[[],H,I,.nil,h]
theorem ae(ha:PE X e te)(hr:PA X es t)(hs:starEach (e::es) X.env=(false,eval e X.env)::starEach es X.env:=by rfl):PA X (e::es) (je te t):=by
 intro pos pins s σ H Q I h;rw[hs];show wpAny _ _ (spliced ((false,eval e X.env)::backTo pos (starEach es X.env))) _ _ s;refine Calls.spliced_cons (aJ (ha pins s σ H _ I h) λu s1 ⟨x,H1,I1,r1,q1⟩=>?_);exact aJ (hr pos pins s1 σ H1 _ I1 q1) λus s2 ⟨xs,H2,I2,r2,q2⟩=>#[x::xs,H2,I2,.cons r1 r2,q2]
def BX(t:TA):TE:=λσ H Q=>t σ H λxs H1=>xs.length<=sizeLine/\∀p,H1 p=none->Q (.ref p) (upd H1 p (.tup xs))
def Ii(t:TA):TE:=λσ H Q=>t σ H λxs H1=>xs.length<=sizeLine/\∀p,H1 p=none->Q (.ref p) (upd H1 p (.lst xs))
theorem fA{x1}(h:PA X es t):PE X (.Tuple es x1 pos) (BX t):=by
 intro pins s σ H Q I hq;refine wpAny_Tuple_spliced (aJ (h pos pins s σ H _ I hq) λus s1 ⟨xs,H1,I1,r,z,q⟩=>#[by rw[<- r.length];exact z,?_]);have hf:H1 s1.heap.objs.size=none:=I1.aF.fresh (aZ _);refine#[.ref s1.heap.objs.size,upd H1 s1.heap.objs.size (.tup xs),I1.laid (t':=s1.toks) (λb u e=>bH _ e) (aZ _) ?_,Z,q _ hf];exact#[z,us,r,#[_,dI _ Z,Z,_,Z],_,dI _ Z,Z]
theorem d5(h:PA X es t):PE X (.List es pos) (Ii t):=by
 intro pins s σ H Q I hq;refine wpAny_List_spliced (aJ (h pos pins s σ H _ I hq) λus s1 ⟨xs,H1,I1,r,z,q⟩=>#[by rw[<- r.length];exact z,?_]);have hf:H1 s1.heap.objs.size=none:=I1.aF.fresh (aZ _);refine#[.ref s1.heap.objs.size,upd H1 s1.heap.objs.size (.lst xs),I1.laid (t':=s1.toks) (λb u e=>bH _ e) (aZ _) ?_,Z,q _ hf];exact#[z,us,0,r,dI _ Z]
end
abbrev Sp:=List V->Hp->VK->XK->Prop
abbrev uh:=List Env->Hp->Ab->XK->Aa->Ab->Prop
structure hY (P:Ad) (w:Af) (K:ag) (mg:Str->Option Aa) (base:Heap) (A:Ag) (outer:List Env) (s:Ab) (H:Hp):Prop where
 frames:A.frames=some outer
 mod:Mod K mg base
 bs:∀b o,base.get? b=some o->s.heap.get? b=some o/\H b=none
 sS:base.objs.size<=s.heap.objs.size
 fo:s.heap.FunFrames base outer
 vi:∀b∈oY outer,H b=none
 aF:eX P w H s.heap
 bare:AllBare s.gens
def CE(outer:List Env)(P:Ad)(w:Af)(H:Hp)(s:Ab)(Q:VK)(u:Aa)(s':Ab):Prop:=
 ∃v H',s'.os=s.os/\AllBare s'.gens/\Un (oY outer) [] H H' s.heap s'.heap/\eX P w H' s'.heap/\RelV v u/\Q v H'
def CR(CX:uh)(outer:List Env)(P:Ad)(w:Af)(H:Hp)(s:Ab)(Q:VK)(E:XK)(r:Result)(s':Ab):Prop:=
 match r with
 |.ok (.ret u)=>CE outer P w H s Q u s'
 |.ok _=>False
 |.error e=>CX outer H s E e s'
structure ai (P:Ad) (w:Af) (K:ag) (mg:Str->Option Aa) (base:Heap) (CX:uh) (k:Nat) (f:Addr) (fd:Ae) (ps:List Str) (sp:Sp):Prop where
 len:∀vs H Q E,sp vs H Q E->vs.length=ps.length
 run:∀(A:Ag) (outer:List Env) (s:Ab) (H:Hp) (args:Args) (us:List Aa) (vs:List V) (Q:VK) (E:XK),aD k A->hY P w K mg base A outer s H->BindsTo s fd args (ps.zip us)->Vals vs us->sp vs H Q E->
  codeAny (model P w) A (.call (.ref f) args) (CR CX outer P w H s Q E) s
variable{K:ag}{f:Addr}{mg:Str->Option Aa}{base:Heap}{CX:uh}{fd:Ae}{ps:List Str}
theorem ai.mono{sp:Sp}(F:ai P w K mg base CX j f fd ps sp)(h:j<=k) :
  ai P w K mg base CX k f fd ps sp:=#[F.len,λA outer s H args us vs Q E hr=>F.run A outer s H args us vs Q E (hr.mono h)]
variable{H:Hp}{A:Ag}{outer:List Env}
theorem hY.make{s:Ab}(e:hY P w K mg base A outer s H)(C:Addr)(us:List Aa)(kw:List (Str × Aa)) :
  hY P w K mg base (A.under (.builtin "type.__call__" #[.ref C::us,kw])) outer s H:=#[by first|exact e.frames|(simpa [Around.under,Code.envs,Code.isFrame,pushEnvs] using e.frames),e.mod,e.bs,e.sS,e.fo,e.vi,e.aF,e.bare]
section
variable{X:Cx}{pins:List (Addr × Obj)}{σ:St}{H:Hp}{s s':Ab}
theorem Inv.zH(I:Inv X pins σ H s):hY X.prog X.w X.K X.mg X.base X.A X.stack s H:=
 #[I.ok.frames,I.ok.mod,I.bs,oG I.ok.sS I.sz,I.stack,I.nj,I.aF,I.bare]
theorem Inv.after{Q:VK}(I:Inv X pins σ H s)(h:CE X.stack X.prog X.w H s Q u s'):EP X pins σ Q u s':=by
 obtain⟨v,H',os,bare,un,aF,r,q⟩:=h;obtain⟨hh,g,d,t,VC⟩:=s';obtain rfl:VC=s.os:=os;exact#[v,H',I.call (h':=hh) (g':=g) (d':=d) (t':=t) (ch:=[]) un aF bare (λb z=>absurd z Z2),r,q]
end
def ni(sp:Sp)(fO:List V)(E:XK)(t:TA):TE:=λσ H Q=>t σ H λvs H1=>sp (vs++fO) H1 Q E
inductive qg (C:Addr) (m:Str) (sp:Sp) (fO:List V) (E:XK) (t:TA) (σ:St) (Q:VK) (x:V) (H1:Hp):Prop
 |mk:∀a dx fs,x=.ref a->H1 a=some (.ins C dx fs)->fs.lookup m=none->(t σ H1 λvs H2=>sp (x::(vs++fO)) H2 Q E)->qg C m sp fO E t σ Q x H1
def mZ(C:Addr)(m:Str)(sp:Sp)(fO:List V)(E:XK)(ta:TE)(t:TA):TE:=λσ H Q=>ta σ H λx H1=>qg C m sp fO E t σ Q x H1
def v_(C:Addr)(sp:Sp)(fO:List V)(E:XK)(t:TA):TE:=λσ H Q=>t σ H λvs H1=>∀x dx,H1 x=none->H1 dx=none->dx≠x->
 sp (.ref x::(vs++fO)) (upd (upd H1 dx (.own x)) x (.ins C dx [])) (λv H2=>v=.non/\Q (.ref x) H2) E
def o5(K:ag)(fd:Ae)(ps:List Str)(ds:List Aa):Prop:=
 ∀(s:Ab) (us:List Aa),K.In s.heap->(us++ds).length=ps.length->BindsTo s fd #[us,[]] (ps.zip (us++ds))
theorem o5.all(h:∀us:List Aa,us.length=ps.length->bindArgs fd #[us,[]]=pure (ps.zip us)):o5 K fd ps []:=λs us _ hl=>by
 rw[mJ] at hl ⊢;exact .of_eq (h us hl)
def ua(CX:uh)(X:Cx)(E:XK):Prop:=∀(pins:List (Addr × Obj)) (σ:St) (H:Hp) (s:Ab) (e:Aa) (s':Ab),Inv X pins σ H s->CX X.stack H s E e s'->X.xe e s'
variable{E:XK}{Q:VK}{fO vs:List V}{sp:Sp}{ds:List Aa}
theorem Gx{s:Ab}{us:List Aa}(F:ai X.prog X.w X.K X.mg X.base CX k f fd ps sp)(hr:aD k X.A)(hb:o5 X.K fd ps ds)(hd:Vals fO ds)(hx:ua CX X E)(I:Inv X pins σ H s)(r:Vals vs us)(h:sp (vs++fO) H Q E):wpAny (model X.prog X.w) X.A (call (.ref f) us) (EP X pins σ Q) X.xe s:=by
 have r2:Vals (vs++fO) (us++ds):=r.append hd;have hl:(us++ds).length=ps.length:=by rw[<- r2.length];exact F.len _ _ _ _ h
 refine wpAny_call (codeAny_mono (F.run X.A X.stack s H #[us,[]] (us++ds) (vs++fO) Q E hr I.zH (hb s us I.fw hl) r2 h) λr s' hq=>?_);cases r with
 |error e=>exact hx pins σ H s e s' I hq
 |ok fl=>
  cases fl with
  |ret u=>exact I.after hq
  |next=>exact False.elim hq
  |brk=>exact False.elim hq
  |cont=>exact False.elim hq
variable{x:Str}{e:Expr}{t:TA}
theorem YT(F:ai X.prog X.w X.K X.mg X.base CX k f fd ps sp)(hr:aD k X.A)(hg:Gl X x)(hm:X.mg x=some (.ref f))(hk:PySem.W.keepIn X.K (.ref f)=true)(hb:o5 X.K fd ps ds)(hd:Vals fO ds)(hx:ua CX X E)
  (ha:PA X (e::es) t) (me:(x == ("__debug__":Str))=false:=by decide) (he:starEach (e::es) X.env=(false,eval e X.env)::starEach es X.env:=by rfl) (j9:(backTo pos (starEach es X.env)).any (·.1)=false:=by rfl) :
  PE X (.Call (.Name x p) (e::es) [] pos) (ni sp fO E t):=by
 intro pins s σ H Q I h;refine tO (GR I hg hm ?_ me);refine PySem.W.callWith_K (h₀:=X.base) I.ok.mod.De hk (aJ (ha pos pins s σ H _ I h) λus s1 ⟨vs,H1,I1,r,q⟩=>#[I1.fw,?_]) he j9;exact Gx F hr hb hd hx I1 r q
theorem Zh(F:ai X.prog X.w X.K X.mg X.base CX k f fd ps sp)(hr:aD k X.A)(hg:Gl X x)(hm:X.mg x=some (.ref f))(hk:PySem.W.keepIn X.K (.ref f)=true)(hb:o5 X.K fd ps ds)(hd:Vals fO ds)(hx:ua CX X E)
  (me:(x == ("__debug__":Str))=false:=by decide):PE X (.Call (.Name x p) [] [] pos) (ni sp fO E iw):=by
 intro pins s σ H Q I h;refine tO (GR I hg hm ?_ me);exact PySem.W.callWith_K0 I.fw hk (Gx (us:=[]) F hr hb hd hx I .nil h)
variable{o:Expr}{ta:TE}{C:Addr}{m:Str}{apos:Pos}
theorem Y3(he:PE X o ta)(c:mT X.K C)(hm:Meth X.K C m f)(F:ai X.prog X.w X.K X.mg X.base CX k f fd ps sp)(hr:aD k X.A)(hb:o5 X.K fd ps ds)(hd:Vals fO ds)(hx:ua CX X E)(ha:PA X (e::es) t)(uT:starEach (e::es) X.env=(false,eval e X.env)::starEach es X.env:=by rfl)(j9:(backTo pos (starEach es X.env)).any (·.1)=false:=by rfl)(ht:eval (.Call (.Attribute o m apos) (e::es) [] pos) X.env=(do
   let ov <- eval o X.env
   standAt apos.atName
   let (f,first) <- holding [ov] (getMethod ov m pl)
   callWith pos f first (backTo pos (starEach (e::es) X.env)) (backToKw pos (keywordEach [] X.env))):=by rfl) :
  PE X (.Call (.Attribute o m apos) (e::es) [] pos) (mZ C m sp fO E ta t):=by
 intro pins s σ H Q I h;refine PySem.W.methodCall_KW (pl:=pl) (aJ (he pins s σ H _ I h) λu s1 ⟨x,H1,I1,rx,a,dx,fs,ex,ea,l,q⟩=>?_) ht;subst ex;obtain rfl:u=Value.ref a:=rx;refine Sd I1 ea c hm l ?_;refine PySem.W.callWith_K (first:=[.ref a]) (h₀:=X.base) I.ok.mod.De hm.kp (aJ (ha pos pins s1 σ H1 _ I1 q) λus s2 ⟨vs,H2,I2,r,q2⟩=>#[I2.fw,?_]) uT j9;exact Gx (us:=.ref a::us) (vs:=.ref a::vs) F hr hb hd hx I2 (.cons Z r) q2
theorem _z(he:PE X o ta)(c:mT X.K C)(hm:Meth X.K C m f)(F:ai X.prog X.w X.K X.mg X.base CX k f fd ps sp)(hr:aD k X.A)(hb:o5 X.K fd ps ds)(hd:Vals fO ds)(hx:ua CX X E)(ht:eval (.Call (.Attribute o m apos) [] [] pos) X.env=(do
   let ov <- eval o X.env
   standAt apos.atName
   let (f,first) <- holding [ov] (getMethod ov m pl)
   callWith pos f first (backTo pos (starEach [] X.env)) (backToKw pos (keywordEach [] X.env))):=by rfl) :
  PE X (.Call (.Attribute o m apos) [] [] pos) (mZ C m sp fO E ta iw):=by
 intro pins s σ H Q I h;refine PySem.W.methodCall_KW (pl:=pl) (aJ (he pins s σ H _ I h) λu s1 ⟨x,H1,I1,rx,a,dx,fs,ex,ea,l,q⟩=>?_) ht;subst ex;obtain rfl:u=Value.ref a:=rx;refine Sd I1 ea c hm l ?_;exact PySem.W.callWith_K0 (first:=[.ref a]) I1.fw hm.kp (Gx (us:=[.ref a]) (vs:=[.ref a]) F hr hb hd hx I1 (.cons Z .nil) q)
structure Mk (K:ag) (C f:Addr):Prop where
 makes:PySem.W.makesIn K C=true
 init:PySem.W.findIn K (.ref C) "__init__"=some (some (.ref f))
 fn:PySem.W.isFn K (.ref f)=true
 kp:PySem.W.keepIn K (.ref C)=true
theorem _e{s:Ab}{us:List Aa}(M:Mk X.K C f)(F:ai X.prog X.w X.K X.mg X.base CX k f fd ps sp)(hr:aD (k+1) X.A)(hb:o5 X.K fd ps ds)(hd:Vals fO ds)(hx:ua CX X E)(I:Inv X pins σ H s)(r:Vals vs us)(h:∀x dx,H x=none->H dx=none->dx≠x->sp (.ref x::(vs++fO)) (upd (upd H dx (.own x)) x (.ins C dx [])) (λv H2=>v=.non/\Q (.ref x) H2) E) :
  wpAny (model X.prog X.w) X.A (call (.ref C) us) (EP X pins σ Q) X.xe s:=by
 have hq:=h (s.heap.objs.size+1) s.heap.objs.size (I.aF.fresh (Nat.le_succ _)) (I.aF.fresh (aZ _)) (dc (Nat.lt_succ_self _));have I2:=Inv.made (C:=C) I;have r2:Vals (V.ref (s.heap.objs.size+1)::(vs++fO)) (Value.ref (s.heap.objs.size+1)::(us++ds)):=.cons Z (r.append hd)
 have hl:(Value.ref (s.heap.objs.size+1)::us++ds).length=ps.length:=by
  have e:=r2.length;rw[F.len _ _ _ _ hq] at e;exact e.symm
 refine wpAny_call (_m (f:=f) I.fw M.makes M.init (beq_iff_eq.mp M.fn) (codeAny_mono (F.run _ X.stack _ _ #[Value.ref (s.heap.objs.size+1)::us,[]] (Value.ref (s.heap.objs.size+1)::(us++ds)) _ _ E (hr.make C us [])
  (I2.zH.make C us []) (hb _ (Value.ref (s.heap.objs.size+1)::us) I2.fw hl) r2 hq) λr s' hq'=>?_))
 cases r with
 |error e=>exact hx pins σ _ _ e s' I2 hq'
 |ok fl=>
  cases fl with
  |ret u=>
   obtain⟨v,H',I3,rv,ev,q3⟩:=I2.after hq';subst ev;exact#[rv,#[V.ref (s.heap.objs.size+1),H',I3,Z,q3]]
  |next=>exact False.elim hq'
  |brk=>exact False.elim hq'
  |cont=>exact False.elim hq'
theorem Xu(M:Mk X.K C f)(F:ai X.prog X.w X.K X.mg X.base CX k f fd ps sp)(hr:aD (k+1) X.A)(hg:Gl X x)(hm:X.mg x=some (.ref C))(hb:o5 X.K fd ps ds)(hd:Vals fO ds)(hx:ua CX X E)
  (ha:PA X (e::es) t) (me:(x == ("__debug__":Str))=false:=by decide) (he:starEach (e::es) X.env=(false,eval e X.env)::starEach es X.env:=by rfl) (j9:(backTo pos (starEach es X.env)).any (·.1)=false:=by rfl) :
  PE X (.Call (.Name x p) (e::es) [] pos) (v_ C sp fO E t):=by
 intro pins s σ H Q I h;refine tO (GR I hg hm ?_ me);refine PySem.W.callWith_K (h₀:=X.base) I.ok.mod.De M.kp (aJ (ha pos pins s σ H _ I h) λus s1 ⟨vs,H1,I1,r,q⟩=>#[I1.fw,?_]) he j9;exact _e M F hr hb hd hx I1 r q
def PK(X:Cx)(Dc:List Keyword)(t:TA):Prop:=
 ∀(pos:Pos) (pins:List (Addr × Obj)) (s:Ab) (σ:St) (H:Hp) (Q:List V->Hp->Prop),Inv X pins σ H s->t σ H Q->wpAny (model X.prog X.w) X.A (evalAll ((backToKw pos (keywordEach Dc X.env)).map (·.2))) (AP X pins σ Q) X.xe s
theorem OV:PK X [] iw:=λ_ _ _ _ H Q I h=>wpAny_evalAll_nil #[[],H,I,.nil,h]
variable{JE:Pos}{Dc:List Keyword}{nm:Option Str}
theorem QD(ha:PE X e te)(hr:PK X Dc t):PK X (#[nm,e,JE]::Dc) (je te t):=by
 intro pos pins s σ H Q I h;show wpAny _ _ (evalAll ((do let v <- eval e X.env;standAt pos;pure v)::(backToKw pos (keywordEach Dc X.env)).map (·.2))) _ _ s;refine wpAny_evalAll_cons (aj (aJ (ha pins s σ H _ I h) λu s1 ⟨x,H1,I1,r1,q1⟩=>aj (wpAny_standAt (aQ ?_))));exact aJ (hr pos pins s1 σ H1 _ I1 q1) λus s2 ⟨xs,H2,I2,r2,q2⟩=>#[x::xs,H2,I2,.cons r1 r2,q2]
structure ND (K:ag) (fd:Ae) (ps ks:List Str) (g:List Aa->List Aa->List Aa) (gV:List V->List V->List V):Prop where
 to:∀(s:Ab) (us ws:List Aa),K.In s.heap->(g us ws).length=ps.length->BindsTo s fd #[us,ks.zip ws] (ps.zip (g us ws))
 rel:∀{vs:List V} {us:List Aa} {zs:List V} {ws:List Aa},Vals vs us->Vals zs ws->Vals (gV vs zs) (g us ws)
structure bh (N P:List Str) (sc:Scope):Prop where
 kind:sc.kind=.function
 co:sc.isCoroutine=false
 gen:sc.isGenerator=false
 nd:N.Nodup
 pre:N.take P.length=P
 par:∀x∈P,sc.names.lookup x=some .local∨sc.names.lookup x=some .cell
 yG:∀y∈sc.names,y.2≠.free
theorem Rz{kindOf:Str->Option NameKind}{x:Str}:∀{binds:List (Str × Aa)} {m:Str->Option Aa},(∀v,(x,v)∉binds)->bindL kindOf binds m x=m x
 |[],_,_=>rfl
 |(n,v)::r,m,h=>by
  unfold bindL;rw[Rz λw hw=>h w (dP _ hw)];split
  ·have:x≠n:=by rintro rfl;exact h v dO
   simp[this]
  ·rfl
theorem Sx{kindOf:Str->Option NameKind}{x:Str}:∀{binds:List (Str × Aa)} {m:Str->Option Aa},(∀v,(x,v)∉binds)->bindC kindOf binds m x=m x
 |[],_,_=>rfl
 |(n,v)::r,m,h=>by
  unfold bindC;rw[Sx λw hw=>h w (dP _ hw)];split
  ·rfl
  ·have:x≠n:=by rintro rfl;exact h v dO
   simp[this]
theorem RP{kindOf:Str->Option NameKind}{x:Str}{v:Aa}:∀{P:List Str} {vs:List Aa} {i:Nat} {m:Str->Option Aa},P.Nodup->P[i]? = some x->vs[i]? = some v->kindOf x=some .local->
  bindL kindOf (P.zip vs) m x=some v
 |[],_,_,_,_,h,_,_=>by simp at h
 |_::_,[],_,_,_,_,h,_=>by simp at h
 |p::P,w::vs,0,m,nd,h1,h2,hk=>by
  simp at h1 h2;subst h1;subst h2;show bindL kindOf ((p,w)::P.zip vs) m p=_;unfold bindL;rw[Rz λv hv=>(pe.mp nd).1 (List.of_mem_zip hv).1,aC hk];simp
 |p::P,w::vs,i+1,m,nd,h1,h2,hk=>by
  show bindL kindOf ((p,w)::P.zip vs) m x=_;unfold bindL;exact RP (i:=i) (pe.mp nd).2 (by simpa using h1) (by simpa using h2) hk
theorem RS{kindOf:Str->Option NameKind}{x:Str}{v:Aa}:∀{P:List Str} {vs:List Aa} {i:Nat} {m:Str->Option Aa},P.Nodup->P[i]? = some x->vs[i]? = some v->kindOf x≠some .local->
  bindC kindOf (P.zip vs) m x=some v
 |[],_,_,_,_,h,_,_=>by simp at h
 |_::_,[],_,_,_,_,h,_=>by simp at h
 |p::P,w::vs,0,m,nd,h1,h2,hk=>by
  simp at h1 h2;subst h1;subst h2;show bindC kindOf ((p,w)::P.zip vs) m p=_;unfold bindC;rw[Sx λv hv=>(pe.mp nd).1 (List.of_mem_zip hv).1,ao hk];simp
 |p::P,w::vs,i+1,m,nd,h1,h2,hk=>by
  show bindC kindOf ((p,w)::P.zip vs) m x=_;unfold bindC;exact RS (i:=i) (pe.mp nd).2 (by simpa using h1) (by simpa using h2) hk
def start(N:List Str)(vs:List V):St:=vs.map some++List.replicate (N.length - vs.length) none
def jJ(CX:uh)(P:Ad)(w:Af)(K:ag)(mg:Str->Option Aa)(base:Heap)(N:List Str)(qual:Str)(scope:Scope)(f:Addr)(cd:Aa)(A:Ag)(outer:List Env)(s:Ab)(H:Hp)(E:XK):Cx where
 prog:=P
 w:=w
 K:=K
 mg:=mg
 base:=base
 A:=A.deeper (envOfC qual scope s.heap.objs.size f cd)
 N:=N
 b_:=s
 j1:=H
 env:=envOfC qual scope s.heap.objs.size f cd
 outer:=outer
 stack:=envOfC qual scope s.heap.objs.size f cd::outer
 ex:=[]
 calm:=true
 fn:=λ_=>true
 pn:=[]
 xe:=λe s'=>wpAny (model P w) (A.deeper (envOfC qual scope s.heap.objs.size f cd)) (leaving (envOfC qual scope s.heap.objs.size f cd) e) (λ_ pE=>CX outer H s E e pE) (λe' pE=>CX outer H s E e' pE) s'
theorem QP{sc:Scope}(h:sc.names.lookup x=some .cell):∃c,(cellsFrom n sc.names []).lookup x=some c:=by
 have q:=PySem.W.cellsFrom_some sc.names n [] (.inl h);exact BF.mp q
variable{qual:Str}{scope:Scope}
theorem _S{cd:Aa}{s s1:Ab}{us:List Aa}(S:bh N ps scope)(hd:A.handled=none)(e0:hY P w K mg base A outer s H)(hl:vs.length=ps.length)(r:Vals vs us)(x:InCallC s s.heap.objs.size (bindL (envOfC qual scope s.heap.objs.size f cd).kindOf (ps.zip us) λ_=>none) (cellsFrom (s.heap.objs.size+1) scope.names []) (bindC (envOfC qual scope s.heap.objs.size f cd).kindOf (ps.zip us) λ_=>none) s1) :
  Inv (jJ CX P w K mg base N qual scope f cd A outer s H E) [] (start N vs) H s1:=by
 have j9:ps.length<=N.length:=by have:=dF List.length S.pre;rw[cj] at this;omega
 obtain⟨h1,tk,rfl,hk⟩:=x.done;have uP:∀b:Addr,b∉(jJ CX P w K mg base N qual scope f cd A outer s H E).ex:=λb z=>absurd (show b∈([]:List Addr) from z) Z2
 refine#[#[e0.mod,S.kind,Z,Z,aZ _,λy z c h1 h2=>?_,λy hy=>?_,λy c _ h=>?_,λ_=>hd,Around.frames_deeper e0.frames,.inr #[Z,Z],λb z=>absurd z (uP b),e0.bs,e0.sS,λb _ _=>uP b,λb z=>absurd z (uP b),e0.fo,e0.vi],
  rfl,e0.bare,Un.kept hk,#[_,x.toInCall.ns,λi y v h1 h2 h3=>?_],λy c h=>#[_,x.cell y c h],e0.aF.fresh (aZ _),λy c h=>?_,λp hp=>absurd (show p∈([]:List (Addr × Obj)) from hp) Z2,e0.aF.kept hk,?_]
 ·exact name_of_addr x.apart (o8 h1) (o8 h2)
 ·have hy:scope.names.lookup y=some .cell∨scope.names.lookup y=some .free:=hy;rcases hy with hy|hy
  ·exact QP hy
  ·exact absurd Z (S.yG _ (o8 hy))
 ·exact Nat.le_of_lt (x.above y c (o8 h))
 ·have hi:i<vs.length:=by
   unfold start at h2;by_cases hi:i<vs.length
   ·exact hi
   ·rw[Aw (by simpa using hi)] at h2;rw[List.getElem?_replicate] at h2;split at h2<;>cases h2
  have ha:vs[i]? = some v:=by
   unfold start at h2;rw[BG (by simpa using hi),dU] at h2;cases e:vs[i]? with
   |none=>rw[e] at h2;cases h2
   |some a=>rw[e] at h2;cases h2;rfl
  obtain⟨u,hu,rv⟩:=r.get ha
  have hp:ps[i]? = some y:=by
   rw[<- S.pre,List.getElem?_take_of_lt Z1];exact h1
  have F1:ps.Nodup:=by rw[<- S.pre];exact S.nd.sublist (List.take_sublist _ _)
  refine#[u,rv,?_];rcases S.par y (cn hp) with k|k
  ·exact .inl #[k,RP F1 hp hu k]
  ·obtain⟨c,e⟩:=QP (n:=s.heap.objs.size+1) k;refine .inr #[.inl k,c,e,?_];have q:=x.cell y c e;rw[RS F1 hp hu (by show scope.names.lookup y≠_;rw[k];decide)] at q;exact q
 ·exact e0.aF.fresh (Nat.le_of_lt (x.above y c (o8 h)))
 ·unfold start;show _=N.length;rw[eF,aq,sY];omega
theorem OM{name:Str}{params:Arguments}{dV kV doc pm aL ct oc:Aa}{an od:Option Addr}{j6:Array (Option Aa)}(lk:K.lookup f=some #[oc,od,.func (PySem.W.fnOf name qual params body scope dV kV doc pm an aL ct),j6])(gC:PySem.W.codeIn K aL qual=true)(S:bh N ps scope)(len:∀vs H Q E,sp vs H Q E->vs.length=ps.length)(ff:∀(A:Ag) (outer:List Env) (s:Ab) (H:Hp) (vs:List V) (Q:VK) (E:XK),aD k (A.deeper (envOfC qual scope s.heap.objs.size f aL))->sp vs H Q E->
   ∃t,kz (jJ CX P w K mg base N qual scope f aL A outer s H E) body t/\t { nx:=λ_ H'=>Q .non H',rt:=Q } (start N vs) H) :
  ai P w K mg base CX (k+1) f (PySem.W.fnOf name qual params body scope dV kV doc pm an aL ct) ps sp:=by
 refine#[len,λA outer s H args us vs Q E hr e0 hb r j7=>?_];have hl:=len _ _ _ _ j7;have KX:K.In s.heap:=e0.mod.De.keeps λb o e=>(e0.bs b o e).1;have lim:s.heap.NoLimit:=e0.mod.nolimit.keeps λb o e=>(e0.bs b o e).1
 have DU:∀y∈ps.zip us,scope.names.lookup y.1=some .local∨(scope.names.lookup y.1=some .cell/\((cellsFrom (s.heap.objs.size+1) scope.names []).lookup y.1).isSome=true):=λ⟨n,v⟩ hy=>by
  rcases S.par n (List.of_mem_zip hy).1 with q|q
  ·exact .inl q
  ·exact .inr #[q,PySem.W.cellsFrom_some _ _ _ (.inl q)]
 refine codeAny_call_function hr.depth (KX _ _ lk) Z S.co S.gen Z (PySem.W.codeRec_of KX gC) (hb _ _ _ _ ?_);refine wpAny_newFunctionEnv_cells S.kind DU λenv he s1 x=>?_;subst he;refine#[lim.keeps x.toInCall.keep,codeAny_func ?_];obtain⟨t,ht,hq⟩:=ff A outer s H vs Q E (hr.deeper _) j7;have I:Inv (jJ CX P w K mg base N qual scope f aL A outer s H E) [] (start N vs) H s1:=_S S hr.hd e0 hl r x;refine wpAny_mono (ht [] s1 (start N vs) H _ I hq) (λfl s' hs=>?_) λe s' hs=>hs
 have fin:∀{bf:St} {H':Hp} {v:V} {u:Aa},Inv (jJ CX P w K mg base N qual scope f aL A outer s H E) [] bf H' s'->RelV v u->Q v H'->CE outer P w H s Q u s':=
  λ{bf H' v u} J rv q=>#[v,H',J.os,J.bare,J.base,J.aF,rv,q]
 cases fl with
 |ret u=>
  obtain⟨v,bf,H',J,rv,q⟩:=hs;exact fin J rv q
 |next=>
  obtain⟨bf,H',J,q⟩:=hs;exact fin (v:=V.non) (u:=Value.none) J Z q
 |brk=>
  obtain⟨_,_,_,q⟩:=hs;exact False.elim q
 |cont=>
  obtain⟨_,_,_,q⟩:=hs;exact False.elim q
def NW(r:List V->Hp->VK->Prop)(t:TA):TE:=λσ H Q=>t σ H λvs H1=>r vs H1 Q
variable{r:List V->Hp->VK->Prop}{id:String}
theorem cK(hc:gJ X (.builtin id) r)(hg:Gl X x)(hm:X.mg x=none)(hv:bootBuiltins x=some (.builtin id))(ha:PA X (e::es) t)(hn:x≠"__name__":=by decide)(me:(x == ("__debug__":Str))=false:=by decide)
  (he:starEach (e::es) X.env=(false,eval e X.env)::starEach es X.env:=by rfl) (j9:(backTo pos (starEach es X.env)).any (·.1)=false:=by rfl):PE X (.Call (.Name x p) (e::es) [] pos) (NW r t):=by
 intro pins s σ H Q I h;refine tO (tZ I hg hm hv ?_ hn me);exact PyProof.Rows.callWith_builtin1 (aJ (ha pos pins s σ H _ I h) λus s1 ⟨vs,H1,I1,r1,q1⟩=>hc pins s1 σ H1 vs us Q I1 r1 q1) he j9
variable{T:String}
theorem i_(hc:gJ X (.type T) r)(hg:Gl X x)(hm:X.mg x=none)(hv:bootBuiltins x=some (.type T))(ha:PA X (e::es) t)(hn:x≠"__name__":=by decide)(me:(x == ("__debug__":Str))=false:=by decide)
  (he:starEach (e::es) X.env=(false,eval e X.env)::starEach es X.env:=by rfl) (j9:(backTo pos (starEach es X.env)).any (·.1)=false:=by rfl):PE X (.Call (.Name x p) (e::es) [] pos) (NW r t):=by
 intro pins s σ H Q I h;refine tO (tZ I hg hm hv ?_ hn me);exact PyProof.Rows.callWith_type1 (aJ (ha pos pins s σ H _ I h) λus s1 ⟨vs,H1,I1,r1,q1⟩=>hc pins s1 σ H1 vs us Q I1 r1 q1) he j9
end L2
namespace HT
open PySem PyProof.Rows
section
open PySem.SeqAt
open PySem.AutoSeq1 (wpAny_loadPart')
open PySem.MeetsSeq PySem.MeetsSeq2 PySem.MeetsSeq3
end
def jr(n d:Nat):Option Int->Nat
 |none=>d
 |some v=>if v<0 then (v+(n:Int)).toNat else min v.toNat n
theorem jq(n d:Nat):jr n d none=d:=rfl
theorem nO(n d k:Nat):jr n d (some (k:Int))=min k n:=by
 show (if (k:Int)<0 then ((k:Int)+(n:Int)).toNat else min (k:Int).toNat n)=min k n;rw[ao Z1,Int.toNat_natCast]
end HT
namespace L2
open PySem PySem.Spec PyProof.Rows
abbrev TO:=St->Hp->(Option Int->Hp->Prop)->Prop
def PO(X:Cx)(e:Option Expr)(t:TO):Prop:=
 ∀(pins:List (Addr × Obj)) (s:Ab) (σ:St) (H:Hp) (Q:Option Int->Hp->Prop),Inv X pins σ H s->t σ H Q->
  wpAny (model X.prog X.w) X.A (evalPart e X.env) (λu s'=>∃o H',Inv X pins σ H' s'/\IsPart u o/\Q o H') X.xe s
def uu:TO:=λ_ H Q=>Q none H
inductive qd (Q:Option Int->Hp->Prop) (x:V) (H1:Hp):Prop
 |mk:∀i,x=.int i->Q (some i) H1->qd Q x H1
def BZ(t:TE):TO:=λσ H Q=>t σ H λx H1=>qd Q x H1
section
variable{X:Cx}{e:Expr}{te:TE}{lo hi:Option Expr}{tl th:TO}{pos p2:Pos}
theorem GK:PO X none uu:=by
 intro pins s σ H Q I h;rw[evalPart_none];exact aQ #[none,H,I,.none,h]
theorem GQ(h:PE X e te):PO X (some e) (BZ te):=by
 intro pins s σ H Q I hw;rw[evalPart_some];refine aJ (h pins s σ H _ I hw) λu s1 ⟨x,H1,I1,r1,q1⟩=>?_;obtain⟨i,rfl,q⟩:=q1;obtain⟨t,rfl⟩:=r1;exact#[some i,H1,I1,.int i t,q]
def NC(X:Cx)(r:V->Option Int->Option Int->Hp->VK->Prop):Prop:=
 ∀(pins:List (Addr × Obj)) (s:Ab) (σ:St) (H:Hp) (x:V) (v vl vu:Aa) (lo hi:Option Int) (sl:Addr) (Q:VK),Inv X pins σ H s->RelV x v->s.heap.IsSliceOf sl vl vu .none->IsPart vl lo->IsPart vu hi->r x lo hi H Q->
  ∃T id,typeLookup (.type T) "__getitem__"=pure (some (.builtin id))/\s.TypeIs v T/\wpAny (model X.prog X.w) X.A (getItem v (.ref sl)) (EP X pins σ Q) X.xe s
def UQ(r:V->Option Int->Option Int->Hp->VK->Prop)(te:TE)(tl th:TO):TE:=λσ H Q=>te σ H λx H1=>tl σ H1 λl H2=>th σ H2 λu H3=>r x l u H3 Q
theorem GX{r:V->Option Int->Option Int->Hp->VK->Prop}(hr:NC X r)(he:PE X e te)(hl:PO X lo tl)(hu:PO X hi th):PE X (.Subscript e (.Slice lo hi none p2) pos) (UQ r te tl th):=by
 intro pins s σ H Q I h;refine Subscript_ (aJ (he pins s σ H _ I h) λv s1 ⟨x,H1,I1,r1,q1⟩=>?_);refine wpAny_Slice (aJ (hl pins s1 σ H1 _ I1 q1) λvl s2 ⟨l,H2,I2,pl,q2⟩=>aJ (hu pins s2 σ H2 _ I2 q2) λvu s3 ⟨u,H3,I3,pu,q3⟩=>?_);rw[evalPart_none];refine aQ ?_;have I4:Inv X pins σ H3 { s3 with heap:=s3.heap.push { cls:=.type "slice",data:=.fields (List.toArray [vl,vu,.none]) } }:=I3.kept (t':=s3.toks) λb ob q=>bH _ q;obtain⟨T,id,hT,ht,hg⟩:=hr pins { s3 with heap:=s3.heap.push { cls:=.type "slice",data:=.fields (List.toArray [vl,vu,.none]) } } σ H3 x v vl vu l u s3.heap.objs.size Q I4 r1 (Heap.IsSliceOf.new ..) pl pu q3;show wpAny (model X.prog X.w) X.A (subscriptTail e (.Slice lo hi none p2) v (.ref s3.heap.objs.size)) (EP X pins σ Q) X.xe { s3 with heap:=s3.heap.push { cls:=.type "slice",data:=.fields (List.toArray [vl,vu,.none]) } };exact tail_any (ops:=[.ref s3.heap.objs.size,v]) ht hT hg (by with_unfolding_all rfl)
def iG(xs:List V)(lo hi:Option Int):List V:=(xs.drop (HT.jr xs.length 0 lo)).take (HT.jr xs.length xs.length hi - HT.jr xs.length 0 lo)
theorem eL_(xs:List V)(lo hi:Option Int):(iG xs lo hi).length<=xs.length:=by
 unfold iG;rw[cj,List.length_drop];omega
end
def wQ(n:Nat)(i:Int):Option Nat:=if 0<=i then (if i<n then some i.toNat else none) else if -(n:Int)<=i then some (i+n).toNat else none
def gG{α:Type}(xs:List α)(i:Int):Option α:=(wQ xs.length i).bind λj=>xs[j]?
variable{j n:Nat}
theorem Ph{i:Int}(h:wQ n i=some j):seqIndex? i n=some j/\j<n/\-(n:Int)<=i/\i<n:=by
 unfold wQ at h;by_cases h0:0<=i
 ·rw[aC h0] at h;by_cases h1:i<n
  ·rw[aC h1] at h;have e:i.toNat=j:=dW h;exact#[by rw[seqIndex_of h0 h1,e],by omega,by omega,h1]
  ·rw[ao h1] at h;cases h
 ·rw[ao h0] at h;by_cases h1:-(n:Int)<=i
  ·rw[aC h1] at h;have e:(i+n).toNat=j:=dW h;exact#[by rw[seqIndex_neg Z1 h1,e],by omega,h1,by omega]
  ·rw[ao h1] at h;cases h
theorem K3{α:Type}{xs:List α}{i:Int}{v:α}(h:gG xs i=some v):∃j,seqIndex? i xs.length=some j/\xs[j]? = some v/\j<xs.length/\-(xs.length:Int)<=i/\i<xs.length:=by
 unfold gG at h;cases e:wQ xs.length i with
 |none=>rw[e] at h;cases h
 |some j=>
  rw[e] at h;obtain⟨h1,h2,h3,h4⟩:=Ph e;exact#[j,h1,h,h2,h3,h4]
theorem oC{α:Type}{xs:List α}{v:α}(h:xs[j]? = some v):gG xs (j:Int)=some v:=by
 have hj:j<xs.length:=(bP.mp h).1
 have e:wQ xs.length (j:Int)=some j:=by
  unfold wQ;rw[aC Z1,aC Z1];simp
 unfold gG;rw[e];exact h
def vQ(b:Expr):Prop:=∀o i,subscripted b false o i=operate [o,i] (getItem o i)
def BJ(X:Cx)(r:R2):Prop:=
 ∀(value slice:Expr) (pins:List (Addr × Obj)) (s:Ab) (σ:St) (H:Hp) (x y:V) (v u:Aa) (Q:VK),Inv X pins σ H s->RelV x v->RelV y u->r x y H Q->
  subscripted slice false v u=operate [v,u] (getItem v u)->wpAny (model X.prog X.w) X.A (subscriptTail value slice v u) (EP X pins σ Q) X.xe s
def MtR(X:Cx)(id:String)(r:V->List V->Hp->VK->Prop):Prop:=
 ∀(pins:List (Addr × Obj)) (s:Ab) (σ:St) (H:Hp) (x:V) (xs:List V) (v:Aa) (us:List Aa) (Q:VK),Inv X pins σ H s->RelV x v->Vals xs us->r x xs H Q->
  wpAny (model X.prog X.w) X.A (call (.builtin id) (v::us)) (EP X pins σ Q) X.xe s
variable{pins:List (Addr × Obj)}{σ:St}{s:Ab}{its its':List Aa}
variable{A:Ag}{u:Aa}
variable{T:String}
section
variable{X:Cx}{a b:Expr}{ta tb:TE}{pos:Pos}
theorem bB{r:R2}(hr:BJ X r)(ha:PE X a ta)(hb:PE X b tb)(hs:vQ b):PE X (.Subscript a b pos) (FD r ta tb):=by
 intro pins s σ H Q I h;exact Subscript_ (Ao ha hb I h λv u s2 x y H2 I2 rx ry q=>hr a b pins s2 σ H2 x y v u Q I2 rx ry q (hs _ _))
inductive yz (K:ag) (x:V) (y:V) (H:Hp) (Q:VK):Prop
 |mk:∀p xs i v,x=.ref p->y=.int i->dB K H p xs->gG xs i=some v->Q v H->yz K x y H Q
inductive lV (K:ag) (x:V) (y:V) (H:Hp) (Q:VK):Prop
 |mk:∀p xs i v,x=.ref p->y=.int i->fe K H p xs->gG xs i=some v->Q v H->lV K x y H Q
inductive Cz (x:V) (y:V) (H:Hp) (Q:VK):Prop
 |mk:∀z i c,x=.str z->y=.int i->z.length<=sizeLine->gG z.cps.toList i=some c->Q (.str ⟨(List.toArray [c])⟩) H->Cz x y H Q
theorem gQ:BJ X (yz X.K):=by
 intro value slice pins s σ H x y v u Q I rx ry h hs;obtain⟨p,xs,i,z,rfl,rfl,hq,he,q⟩:=h;cases rx;obtain⟨t,rfl⟩:=ry;obtain⟨its,r,pl,hz⟩:=I.list hq;obtain⟨j,h1,h2,h3,h4,h5⟩:=K3 he;obtain⟨w,ew,iz⟩:=r.get h2;have hl:=r.length;have hn:=fH;have fin:EP X pins σ Q w s:=⟨z,H,I,iz,q⟩;by_cases h0:0<=i
 ·have hj:i.toNat=j:=by
   rw[seqIndex_of h0 h5] at h1;exact dW h1
  exact item_listR pl.isList h0 Z1 (by rw[hj];simpa using ew) fin hs
 ·have hj:(i+(its.toArray.size:Int)).toNat=j:=by
   rw[seqIndex_neg Z1 h4] at h1;rw[cE,<- hl];exact dW h1
  exact subscriptTail_builtinR (x:=w) pl.isList.typeIs slot_list_getitem.lookup
   (wpAny_getItem_list_neg (Q:=λr s'=>r=w/\EP X pins σ Q r s') pl.isList Z1 (by rw[cE]<;>omega) Z1 (by rw[hj];simpa using ew) ⟨rfl,fin⟩) hs
theorem cy:BJ X (lV X.K):=by
 intro value slice pins s σ H x y v u Q I rx ry h hs;obtain⟨p,xs,i,z,rfl,rfl,hq,he,q⟩:=h;cases rx;obtain⟨t,rfl⟩:=ry;obtain⟨its,r,pl,hz⟩:=I.tuple hq;obtain⟨j,h1,h2,h3,h4,h5⟩:=K3 he;obtain⟨w,ew,iz⟩:=r.get h2;have hl:=r.length;have hn:=fH;have fin:EP X pins σ Q w s:=⟨z,H,I,iz,q⟩
 exact subscriptTail_builtinR (x:=w) pl.typeIs slot_tuple_getitem.lookup
  (getItem_tuple (j:=j) (Q:=λr s'=>r=w/\EP X pins σ Q r s') pl Z1 Z1 (by rw[cE,<- hl];exact h1) (by simpa using ew) ⟨rfl,fin⟩) hs
theorem O0:BJ X Cz:=by
 intro value slice pins s σ H x y v u Q I rx ry h hs;obtain⟨z,i,c,rfl,rfl,hz,he,q⟩:=h;obtain⟨t,rfl⟩:=rx;obtain⟨t',rfl⟩:=ry;obtain⟨j,h1,h2,h3,h4,h5⟩:=K3 he;have hl:z.cps.toList.length=z.length:=by simp[Str.length]
 rw[hl] at h1 h4 h5;have hn:=fH
 exact tail_any (typeIs_str s z t) slot_str_getitem.lookup (getItem_str (c:=c) (by
  have e1:decide (i < -(2 ^ 63:Int))=false:=dA Z1;have e2:decide (i ≥ 2 ^ 63)=false:=dA Z1;rw[e1,e2,Bool.or_false]) (by rw[h1];simpa using h2) ⟨.str ⟨(List.toArray [c])⟩,H,I.tok _,⟨_,rfl⟩,q⟩) hs
theorem gh_(its:List Aa)(n j:Nat)(u:Aa):Obj.mapSeq (·.setIfInBounds j u) { cls:=.type "list",data:=.seq its.toArray n }={ cls:=.type "list",data:=.seq (its.set j u).toArray n }:=by
 simp[Obj.mapSeq]
theorem Inv.lst{pins:List (Addr × Obj)}{σ:St}{H:Hp}{s:Ab}{p:Addr}{xs:List V}(I:Inv X pins σ H s)(h:H p=some (.lst xs)) :
  ∃(its:List Aa) (n:Nat),Vals xs its/\s.heap.get? p=some { cls:=.type "list",data:=.seq its.toArray n }/\xs.length<=sizeLine:=by
 obtain⟨z,its,n,r,e⟩:=I.aF p _ h;exact⟨its,n,r,e,z⟩
theorem Inv.yQ{H:Hp}{p:Addr}{xs ys:List V}{n':Nat}{f:Obj->Obj}(I:Inv X pins σ H s)(h:H p=some (.lst xs))(ho:s.heap.get? p=some { cls:=.type "list",data:=.seq its.toArray n })(hf:f { cls:=.type "list",data:=.seq its.toArray n }={ cls:=.type "list",data:=.seq its'.toArray n' })(r:Vals ys its')(hz:ys.length<=sizeLine)(t:Nat) :
  Inv X pins σ (upd H p (.lst ys)) { s with heap:=s.heap.update p f,toks:=t }:=by
 have e:(s.heap.update p f).get? p=some { cls:=.type "list",data:=.seq its'.toArray n' }:=by
  rw[Heap.get?_update_self f ho (by rw[hf]<;>rfl),hf]
 refine I.write (x:=p) (e:=p) (by rw[h];trivial) (.inl rfl) (λb u hb q=>(tP _ _ (Ne.symm hb)).trans q) ⟨_,e⟩ ?_;exact⟨hz,its',n',r,e⟩
inductive wB (o:V) (i:V) (v:V) (H:Hp) (Q:Hp->Prop):Prop
 |mk:∀p xs k j,o=.ref p->i=.int k->H p=some (.lst xs)->wQ xs.length k=some j->Q (upd H p (.lst (xs.set j v)))->wB o i v H Q
theorem Rm:Fn X wB:=by
 intro pins s σ H o i v ov iv u Q I ro ri rv h;obtain⟨p,xs,k,j,rfl,rfl,hp,hj,q⟩:=h;cases ro;obtain⟨t,rfl⟩:=ri;obtain⟨its,n,r,ho,hz⟩:=I.lst hp;obtain⟨h1,h2,h3,h4⟩:=Ph hj;have hl:=r.length;have hn:=fH
 have I':Inv X pins σ (upd H p (.lst (xs.set j v))) { s with heap:=s.heap.update p (Obj.mapSeq (·.setIfInBounds j u)) }:=
  I.yQ hp ho (gh_ its n j u) (r.set rv j) (by rw[List.length_set];exact hz) s.toks
 by_cases h0:0<=k
 ·have hk:k.toNat=j:=by
   rw[seqIndex_of h0 h4] at h1;exact dW h1
  exact PySem.W.ki_setAt ho h0 Z1 (by rw[cE,<- hl];exact h4) (by rw[hk];exact⟨_,I',q⟩)
 ·have hk:(k+(its.toArray.size:Int)).toNat=j:=by
   rw[seqIndex_neg Z1 h3] at h1;rw[cE,<- hl];exact dW h1
  exact PySem.W.ki_setBack ho Z1 (by rw[cE,<- hl];exact h3) Z1 (by rw[hk];exact⟨_,I',q⟩)
theorem ec_(lo hi:Option Int)(n:Nat):(sliceBounds lo hi none n).1=((HT.jr n 0 lo:Nat):Int)/\(sliceBounds lo hi none n).2.1=((HT.jr n n hi:Nat):Int)/\(sliceBounds lo hi none n).2.2=1:=by
 refine⟨?_,?_,rfl⟩
 ·cases lo with
  |none=>simp[sliceBounds,HT.jr]
  |some i=>
   simp only[sliceBounds,HT.jr,Option.getD_none,show (1:Int) > 0 by decide,if_true];by_cases h:i<0
   ·simp only[h,if_true]<;>omega
   ·simp only[h,if_false]<;>omega
 ·cases hi with
  |none=>simp[sliceBounds,HT.jr]
  |some i=>
   simp only[sliceBounds,HT.jr,Option.getD_none,show (1:Int) > 0 by decide,if_true];by_cases h:i<0
   ·simp only[h,if_true]<;>omega
   ·simp only[h,if_false]<;>omega
theorem dy_(its:List Aa)(lo hi:Option Int):slicePick its.toArray lo hi none=((its.drop (HT.jr its.length 0 lo)).take (HT.jr its.length its.length hi - HT.jr its.length 0 lo)).toArray:=by
 obtain⟨h1,h2,h3⟩:=ec_ lo hi its.toArray.size;unfold slicePick;rw[h1,h2,h3];simp only[sliceRange_one,pick_run,cE]<;>rfl
inductive Ct (K:ag) (x:V) (lo:Option Int) (hi:Option Int) (H:Hp) (Q:VK):Prop
 |mk:∀a xs,x=.ref a->dB K H a xs->(∀p,H p=none->Q (.ref p) (upd H p (.lst (iG xs lo hi))))->Ct K x lo hi H Q
theorem QI:NC X (Ct X.K):=by
 intro pins s σ H x v vl vu lo hi sl Q I rx hs pl pu h;obtain⟨a,xs,rfl,hx,q⟩:=h;cases rx;obtain⟨its,r,ht,hz⟩:=I.list hx;have hlen:=r.length;refine⟨"list",_,slot_list_getitem.lookup,ht.isList.typeIs,?_⟩;refine wpAny_getItem_list_slice ht.isList hs pl pu .none Z2 ?_ (by rw[cE]<;>omega)
 rw[dy_,<- hlen];refine⟨.ref s.heap.objs.size,_,I.laid (t':=s.toks) (o:=.lst (iG xs lo hi)) (λb ob q=>bH _ q) (aZ _) ?_,rfl,q _ (I.aF.fresh (aZ _))⟩;exact⟨oG (eL_ xs lo hi) hz,_,0,(r.drop (HT.jr xs.length 0 lo)).take (HT.jr xs.length xs.length hi - HT.jr xs.length 0 lo),dI _ rfl⟩
def vp:V->Bool
 |.non=>true
 |.bl _=>true
 |.int _=>true
 |.str _=>true
 |_=>false
def o4:V->V->Bool
 |.non,.non=>true
 |.bl a,.bl b=>a == b
 |.bl a,.int b=>(if a then 1 else 0) == b
 |.int a,.bl b=>a == (if b then 1 else 0)
 |.int a,.int b=>a == b
 |.str a,.str b=>a == b
 |_,_=>false
theorem KI{y x:V}{v:Aa}(ry:RelV y u)(rx:RelV x v)(fy:vp y=true)(fx:vp x=true):SeqAt.EqAt A s u v (o4 y x):=by
 cases y with
 |non=>
  cases ry;cases x with
  |non=>cases rx;exact SeqAt.EqAt.same _
  |bl b=>cases rx;exact SeqAt.EqAt.none_bool b
  |int b=>obtain⟨t,rfl⟩:=rx;exact SeqAt.EqAt.none_int b t
  |str b=>obtain⟨t,rfl⟩:=rx;exact SeqAt.EqAt.none_str b t
  |_=>exact absurd (show false=true from fx) fZ
 |bl a=>
  cases ry;cases x with
  |non=>cases rx;exact SeqAt.EqAt.bool_none a
  |bl b=>cases rx;exact SeqAt.EqAt.bool_bool a b
  |int b=>obtain⟨t,rfl⟩:=rx;exact SeqAt.EqAt.bool_int a b t
  |str b=>obtain⟨t,rfl⟩:=rx;exact SeqAt.EqAt.bool_str a b t
  |_=>exact absurd (show false=true from fx) fZ
 |int a=>
  obtain⟨t',rfl⟩:=ry;cases x with
  |non=>cases rx;exact SeqAt.EqAt.int_none a t'
  |bl b=>cases rx;exact SeqAt.EqAt.int_bool a t' b
  |int b=>obtain⟨t,rfl⟩:=rx;exact SeqAt.EqAt.int_int a t' b t
  |str b=>obtain⟨t,rfl⟩:=rx;exact SeqAt.EqAt.int_str a t' b t
  |_=>exact absurd (show false=true from fx) fZ
 |str a=>
  obtain⟨t',rfl⟩:=ry;cases x with
  |non=>cases rx;exact SeqAt.EqAt.str_none a t'
  |bl b=>cases rx;exact SeqAt.EqAt.str_bool a t' b
  |int b=>obtain⟨t,rfl⟩:=rx;exact SeqAt.EqAt.str_int a t' b t
  |str b=>obtain⟨t,rfl⟩:=rx;exact SeqAt.EqAt.str_str a t' b t
  |_=>exact absurd (show false=true from fx) fZ
 |_=>exact absurd (show false=true from fy) fZ
def vk(x:V)(u:Aa):Bool:=match u with
 |.none=>o4 .non x
 |.bool b=>o4 (.bl b) x
 |.int i _=>o4 (.int i) x
 |.str z _=>o4 (.str z) x
 |_=>false
theorem O2{x y:V}(r:RelV y u)(f:vp y=true):vk x u=o4 y x:=by
 cases y with
 |non=>cases r;rfl
 |bl b=>cases r;rfl
 |int i=>obtain⟨t,rfl⟩:=r;rfl
 |str z=>obtain⟨t,rfl⟩:=r;rfl
 |_=>exact absurd (show false=true from f) fZ
theorem K0{x:V}:∀{xs:List V} {us:List Aa},Vals xs us->xs.all vp=true->us.any (vk x)=xs.any λy=>o4 y x
 |_,_,.nil,_=>rfl
 |y::xs,u::us,.cons r t,f=>by
  rw[List.all_cons,iR] at f;rw[List.any_cons,List.any_cons,O2 r f.1,K0 t f.2]
theorem Le{A:Ag}{s:Ab}{x:V}{v:Aa}(rx:RelV x v)(fx:vp x=true):∀{xs:List V} {us:List Aa},Vals xs us->xs.all vp=true->∀u∈us,SeqAt.EqAt A s u v (vk x u)
 |_,_,.nil,_=>λu hu=>by cases hu
 |y::xs,u::us,.cons r t,f=>λu' hu=>by
  rw[List.all_cons,iR] at f;rcases bO.mp hu with rfl|hu
  ·rw[O2 r f.1];exact KI r rx f.1 fx
  ·exact Le rx fx t f.2 u' hu
def Dm(x:V)(xs:List V):Bool:=xs.any λy=>o4 y x
inductive FS (K:ag) (neg:Bool) (x:V) (y:V) (H:Hp) (Q:VK):Prop
 |mk:∀p xs,y=.ref p->(dB K H p xs∨fe K H p xs)->vp x=true->xs.all vp=true->Q (.bl (if neg then !Dm x xs else Dm x xs)) H->FS K neg x y H Q
theorem Rx:dC X (compareOp .In) (FS X.K false):=by
 intro pins s σ H x y v u Q I rx ry h;obtain⟨p,xs,rfl,hq,fx,fs,q⟩:=h;cases ry;rcases hq with hq|hq
 ·obtain⟨its,r,pl,hz⟩:=I.list hq;refine SeqAt.in_listAt (vk x) pl.isList (λw hw=>Le rx fx r fs w (by simpa using hw)) ⟨.bl _,H,I,rfl,?_⟩;rw[show its.toArray.any (vk x)=its.any (vk x) by simp,K0 r fs];exact q
 ·obtain⟨its,r,pl,hz⟩:=I.tuple hq;refine SeqAt.in_tupleAt (vk x) pl (λw hw=>Le rx fx r fs w (by simpa using hw)) ⟨.bl _,H,I,rfl,?_⟩;rw[show its.toArray.any (vk x)=its.any (vk x) by simp,K0 r fs];exact q
inductive Np (K:ag) (xs:List V) (H:Hp) (Q:VK):Prop
 |mk:∀p ys,xs=[.ref p]->(dB K H p ys∨fe K H p ys)->Q (.int ys.length) H->Np K xs H Q
theorem jU:gJ X (.builtin "len") (Np X.K):=by
 intro pins s σ H xs us Q I r h;obtain⟨p,ys,rfl,hq,q⟩:=h;obtain⟨u,rfl,rx⟩:=vals1 r;cases rx;have hn:=fH;rcases hq with hq|hq
 ·obtain⟨its,r',pl,hz⟩:=I.list hq;have hlen:=r'.length;exact Calls.call_len_list pl.isList (by simp only[cE]<;>omega) ⟨.int ys.length,H,I.tok _,⟨s.toks+1,by rw[cE,hlen]⟩,q⟩
 ·obtain⟨its,r',pl,hz⟩:=I.tuple hq;have hlen:=r'.length;exact len_tuple pl (by simp only[cE]<;>omega) ⟨.int ys.length,H,I.tok _,⟨s.toks+1,by rw[cE,hlen]⟩,q⟩
inductive Tr (xs:List V) (H:Hp) (Q:VK):Prop
 |mk:∀z,xs=[.str z]->z.length<=sizeLine->Q (.int z.length) H->Tr xs H Q
theorem SK:gJ X (.builtin "len") Tr:=by
 intro pins s σ H xs us Q I r h;obtain⟨z,rfl,hz,q⟩:=h;obtain⟨u,rfl,t,rfl⟩:=vals1 r;have hn:=fH;exact len_str Z1 ⟨.int z.length,H,I.tok _,⟨_,rfl⟩,q⟩
inductive Ti (K:ag) (xs:List V) (H:Hp) (Q:VK):Prop
 |mk:∀p ys,xs=[.ref p]->(dB K H p ys∨fe K H p ys)->(∀l,H l=none->Q (.ref l) (upd H l (.lst ys)))->Ti K xs H Q
theorem e7_:gJ X (.type "list") (Ti X.K):=by
 intro pins s σ H xs us Q I r h;obtain⟨p,ys,rfl,hq,q⟩:=h;obtain⟨u,rfl,rx⟩:=vals1 r;cases rx
 have fin:∀(its:List Aa),Vals ys its->ys.length<=sizeLine->∀(h':Heap) (c':Nat),(∀b o',s.heap.get? b=some o'->h'.get? b=some o')->
   h'.get? s.heap.objs.size=some { cls:=.type "list",dict:=none,data:=.seq its.toArray c',slots:=#[] }->EP X pins σ Q (.ref s.heap.objs.size) { s with heap:=h' }:=λits r' hz h' c' kp e=>
  #[.ref s.heap.objs.size,_,I.laid (t':=s.toks) kp (aZ _) (show fb X.prog X.w _ h' _ (.lst ys) from #[hz,its,c',r',e]),Z,q _ (I.aF.fresh (aZ _))]
 rcases hq with hq|hq
 ·obtain⟨its,r',pl,hz⟩:=I.list hq;have hlen:=r'.length;obtain⟨o,ho,hc,n,hd⟩:=pl.isList;exact call_list_seq p (.inl Z) ho hc hd (λh' c' kp e=>fin its r' hz h' c' kp e) (by simp only[cE]<;>omega)
 ·obtain⟨its,r',pl,hz⟩:=I.tuple hq;have hlen:=r'.length;obtain⟨o,ho,hc,n,hd⟩:=pl;exact call_list_seq p (.inr Z) ho hc hd (λh' c' kp e=>fin its r' hz h' c' kp e) (by simp only[cE]<;>omega)
def NP(K:ag)(T:String)(x:V)(H:Hp):Prop:=match x with
 |.str _=>T="str"
 |.int _=>T="int"
 |.ref p=>(T="list"/\∃xs,dB K H p xs)∨(T="tuple"/\∃o,K.lookup p=some o/\o.cls=.type "tuple"/\o.dict=none) ∨
   (T="dict"/\((∃kvs,H p=some (.dK kvs))∨∃kvs,H p=some (.dT kvs)))∨(T="set"/\∃S n,H p=some (.set S n))
 |_=>False
theorem Xq{H:Hp}{x:V}{v:Aa}(I:Inv X pins σ H s)(r:RelV x v)(ty:NP X.K T x H) :
  s.TypeIs v T/\∀a,v=.ref a->∃ob,s.heap.get? a=some ob/\ob.dict=none:=by
 cases x with
 |str z=>
  obtain⟨t,rfl⟩:=r;cases (show T="str" from ty);exact#[typeIs_str s z t,λ_ e=>nomatch e]
 |int i=>
  obtain⟨t,rfl⟩:=r;cases (show T="int" from ty);exact#[typeIs_int s i t,λ_ e=>nomatch e]
 |ref p=>
  cases r;rcases ty with⟨rfl,xs,hq⟩|⟨rfl,o,hk,hc,hd⟩|⟨rfl,hk⟩|⟨rfl,S,n,hk⟩
  ·obtain⟨its,_,pl,_⟩:=I.list hq;refine#[pl.isList.typeIs,λa e=>?_];cases e;obtain⟨o,n,e,c,hd,_⟩:=pl;exact#[o,e,hd]
  ·refine#[#[o,I.fw p o hk,hc],λa e=>?_];cases e;exact#[o,I.fw _ o hk,hd]
  ·have z:∃o,s.heap.get? p=some o/\o.ExactDict:=by
    rcases hk with⟨kvs,hk⟩|⟨kvs,hk⟩
    ·obtain⟨_,_,_,_,o,_,_,e,ex,_⟩:=I.aF p _ hk;exact#[o,e,ex]
    ·obtain⟨_,_,_,_,o,_,_,e,ex,_⟩:=I.aF p _ hk;exact#[o,e,ex]
   obtain⟨o,e,ex⟩:=z;refine#[#[o,e,ex.1],λa e2=>?_];cases e2;exact#[o,e,ex.2.1]
  ·obtain⟨o,_,_,_,e,ex,_⟩:=I.aF p _ hk;refine#[#[o,e,ex.1],λa e2=>?_];cases e2;exact#[o,e,ex.2.1]
 |_=>exact False.elim ty
def UT(K:ag)(T:String)(r:V->List V->Hp->VK->Prop)(to:TE)(t:TA):TE:=λσ H Q=>to σ H λx H1=>NP K T x H1/\t σ H1 λxs H2=>r x xs H2 Q
variable{o e:Expr}{es:List Expr}{to:TE}{t:TA}{name:Str}{apos bR:Pos}{T id:String}{r:V->List V->Hp->VK->Prop}
theorem mz(pa:PlainAttrs T)(slot:Slot T name id)(_W:typeOf (.builtin id)=pure (.type "method_descriptor"))(hm:MtR X id r)(ho:PE X o to)(ha:PA X (e::es) t)
  (jG:attributeBase o name X.env (eval o X.env)=eval o X.env:=by rfl)
  (Kp:((backTo bR (starEach (e::es) X.env)).all (λx=>!x.1)&&(backToKw bR (keywordEach [] X.env)).all (λx=>x.1.isSome)
   && decide ((e::es).length+([]:List Keyword).length+(if ([]:List Keyword).isEmpty then 0 else 1)<30))=true:=by rfl)
  (jD:(apos.endLine == bR.line)=true:=by rfl) (hs:starEach (e::es) X.env=(false,eval e X.env)::starEach es X.env:=by rfl) (yV:(backTo bR (starEach es X.env)).any (·.1)=false:=by rfl) :
  PE X (.Call (.Attribute o name apos) (e::es) [] bR) (UT X.K T r to t):=by
 intro pins s σ H Q I h;refine wpAny_Call_method_late jG Kp jD Z (aJ (ho pins s σ H _ I h) λv s1 ⟨x,H1,I1,r1,ty,q1⟩=>?_);obtain⟨h1,h2⟩:=Xq I1 r1 ty;refine#[T,id,pa,slot,_W,h1,h2,?_];have hA:=ha bR pins s1 σ H1 _ I1 q1;rw[hs] at hA ⊢;refine Calls.callWith_builtin (by show (false || (backTo bR (starEach es X.env)).any (·.1))=false;rw[yV]<;>rfl) (Calls.evalArgs_plain ?_)
 exact aJ hA λus s2 ⟨vs,H2,I2,r2,q2⟩=>hm pins s2 σ H2 x vs v us Q I2 r1 r2 q2
end
def HM(X:Cx)(id:String)(r:V->List V->Hp->VK->Prop):Prop:=
 ∀(pins:List (Addr × Obj)) (s:Ab) (σ:St) (H:Hp) (x:V) (xs:List V) (v:Aa) (us:List Aa) (Q:VK),Inv X pins σ H s->RelV x v->Vals xs us->r x xs H Q->
  wpAny (model X.prog X.w) X.A (call (.builtin id) (v::us)) (EP X pins σ Q) X.xe s
theorem Vals.one:∀{x:V} {us:List Aa},Vals [x] us->∃u,us=[u]/\RelV x u
 |_,_,.cons r .nil=>#[_,Z,r]
theorem Vals.rep{xs:List V}{us:List Aa}(h:Vals xs us):∀k:Nat,Vals (List.replicate k xs).flatten (List.replicate k us).flatten
 |0=>.nil
 |k+1=>by
  rw[List.replicate_succ,List.replicate_succ,List.flatten_cons,List.flatten_cons];exact Vals.append h (Vals.rep h k)
theorem Sv(its:List Aa):∀(k:Nat) (acc:List Aa),
  List.foldl (λx1 x2=>x1++x2) acc.toArray (List.replicate k its.toArray)=(acc++(List.replicate k its).flatten).toArray
 |0,acc=>by simp
 |k+1,acc=>by
  have e:acc.toArray++its.toArray=(acc++its).toArray:=by simp
  have e2:(acc++its)++(List.replicate k its).flatten=acc++(List.replicate (k+1) its).flatten:=by
   rw[List.replicate_succ,List.flatten_cons,List.append_assoc]
  rw[<- e2,<- Sv its k (acc++its),<- e,List.replicate_succ,List.foldl_cons]
variable{t':Nat}
section
variable{X:Cx}{pins:List (Addr × Obj)}{σ:St}{H:Hp}{s:Ab}{l b:Addr}{xs ys zs:List V}
theorem Inv.C5{f:Array Aa->Array Aa}(I:Inv X pins σ H s)(hH:H l=some (.lst xs))(e:s.heap.get? l=some { cls:=.type "list",data:=.seq its.toArray n })(hf:f its.toArray=its'.toArray)(hv:Vals ys its')(hz:ys.length<=sizeLine) :
  Inv X pins σ (upd H l (.lst ys)) { s with heap:=s.heap.update l (Obj.mapSeq f),toks:=t' }:=by
 have q:=PySem.IsL.update e f;rw[hf] at q;refine I.write (x:=l) (e:=l) (by rw[hH];exact trivial) (.inl Z) (λb' u hb hu=>(tP s.heap (Obj.mapSeq f) (Ne.symm hb)).trans hu) #[_,q] ?_;exact#[hz,its',_,hv,q]
theorem Inv.uS(I:Inv X pins σ H s)(hv:Vals ys its)(hz:ys.length<=sizeLine) :
  Inv X pins σ (upd H s.heap.objs.size (.lst ys)) { s with heap:=s.heap.push { cls:=.type "list",data:=.seq its.toArray },toks:=t' }:=
 I.laid (λ_ _ q=>bH _ q) (aZ _) #[hz,its,0,hv,dI _ Z]
theorem Inv.fresh(I:Inv X pins σ H s):H s.heap.objs.size=none:=I.aF.fresh (aZ _)
theorem Inv.iD(I:Inv X pins σ H s)(hH:H l=some (.lst xs)):xs.length<=sizeLine/\∃(its:List Aa) (n:Nat),Vals xs its/\xs.length=its.length/\s.heap.get? l=some { cls:=.type "list",data:=.seq its.toArray n }:=by
 obtain⟨z,its,n,r,e⟩:=I.aF l _ hH;exact#[z,its,n,r,r.length,e]
theorem RN(h:n<=sizeLine):Builtin.List.listTooLong n=false:=by
 unfold Builtin.List.listTooLong;exact dA Z1
end
inductive n_ (x:V) (vs:List V) (H:Hp) (Q:VK):Prop
 |mk:∀l xs y,x=.ref l->vs=[y]->H l=some (.lst xs)->xs.length<sizeLine->Q .non (upd H l (.lst (xs++[y])))->n_ x vs H Q
variable{X:Cx}
theorem vA:HM X "list.append" n_:=by
 intro pins s σ H x vs v us Q I rx rv h;obtain⟨l,xs,y,rfl,rfl,hH,hz,q⟩:=h;cases rx;obtain⟨u,rfl,ru⟩:=rv.one;obtain⟨z,its,n,r,hl,e⟩:=I.iD hH;refine call_meets F.slot_list_append ⟨_,e,rfl⟩ F.entry_list_append (F.args_list_append_2 _ _) (PySem.list_append l its.toArray n u (by rw[cE];omega)) ⟨e,?_⟩;refine⟨.non,_,I.C5 (its':=its++[u]) hH e Z2 (r.append (.cons ru .nil)) ?_,rfl,q⟩;rw[eF,List.length_singleton];omega
inductive nX (x:V) (vs:List V) (H:Hp) (Q:VK):Prop
 |mk:∀l b xs zs,x=.ref l->vs=[.ref b]->H l=some (.lst xs)->H b=some (.lst zs)->xs.length+zs.length<=sizeLine->Q .non (upd H l (.lst (xs++zs)))->nX x vs H Q
theorem E_:HM X "list.extend" nX:=by
 intro pins s σ H x vs v us Q I rx rv h;obtain⟨l,b,xs,zs,rfl,rfl,hH,hB,hz,q⟩:=h;cases rx;obtain⟨u,rfl,ru⟩:=rv.one;cases ru;obtain⟨z,its,n,r,hl,e⟩:=I.iD hH;obtain⟨z2,iE,n2,r2,oX,e2⟩:=I.iD hB;have hsz:its.toArray.size+iE.toArray.size<=sizeLine:=by rw[cE,cE];omega
 have sr:¬(!its.toArray.isEmpty&&Builtin.List.listTooLong (its.toArray.size+iE.toArray.size))=true:=by
  rw[RN hsz,vO];exact fZ
 refine call_meets F.slot_list_extend ⟨_,e,rfl⟩ F.entry_list_extend (F.args_list_extend_2 _ _)
  (AutoSeq1.list_extend_list_list_0 l its.toArray n b iE.toArray n2 sr (by rw[cE];omega) Z1) ⟨e,e2,?_⟩
 refine⟨.non,_,I.C5 (its':=its++iE) hH e Z2 (r.append r2) ?_,rfl,q⟩;rw[eF];omega
inductive CB (x:V) (y:V) (H:Hp) (Q:VK):Prop
 |mk:∀l b xs zs,x=.ref l->y=.ref b->H l=some (.lst xs)->H b=some (.lst zs)->xs.length+zs.length<=sizeLine->(∀p,H p=none->Q (.ref p) (upd H p (.lst (xs++zs))))->CB x y H Q
theorem Gu:dC X (binaryOp .Add) CB:=by
 intro pins s σ H x y v u Q I rx ry h;obtain⟨l,b,xs,zs,rfl,rfl,hH,hB,hz,q⟩:=h;cases rx;cases ry;obtain⟨z,its,n,r,hl,e⟩:=I.iD hH;obtain⟨z2,iE,n2,r2,oX,e2⟩:=I.iD hB;refine PySem.P.add_list e e2 ?_ (by rw[cE,cE];omega);have ea:its.toArray++iE.toArray=(its++iE).toArray:=by simp
 rw[ea];exact⟨.ref _,_,I.uS (t':=s.toks) (r.append r2) (by rw[eF];omega),rfl,q _ I.fresh⟩
inductive Cu (x:V) (y:V) (H:Hp) (Q:VK):Prop
 |mk:∀l k xs,x=.ref l->y=.int k->H l=some (.lst xs)->-(2 ^ 63)<=k->k<2 ^ 63->xs.length * k.toNat<=sizeLine->(∀p,H p=none->Q (.ref p) (upd H p (.lst (List.replicate k.toNat xs).flatten)))->Cu x y H Q
theorem Yf{α:Type}(xs:List α)(k:Nat):(List.replicate k xs).flatten.length=k * xs.length:=by
 induction k with
 |zero=>simp
 |succ k ih=>rw[List.replicate_succ,List.flatten_cons,eF,ih,Nat.succ_mul,Nat.add_comm]
theorem O3:dC X (binaryOp .Mult) Cu:=by
 intro pins s σ H x y v u Q I rx ry h;obtain⟨l,k,xs,rfl,rfl,hH,h1,h2,hz,q⟩:=h;cases rx;obtain⟨t,rfl⟩:=ry;obtain⟨z,its,n,r,hl,e⟩:=I.iD hH;have hlen:its.toArray.size * k.toNat<=sizeLine:=by rw[cE,<- hl];exact hz
 have KC:¬its.toArray.size * k.toNat > (2 ^ 63 - 1) / 8:=by
  have:(sizeLine:Nat)<=(2 ^ 63 - 1) / 8:=by decide
  omega
 have Ko:¬(!Builtin.List.listFitsIndex k)=true:=by
  rw[fitsIndex_both h1 h2];exact fZ
 have sr:¬Builtin.List.listTooLong (its.toArray.size * k.toNat)=true:=by
  rw[RN hlen];exact fZ
 have gA:List.foldl (λx1 x2=>x1++x2) #[] (List.replicate (if its.toArray.isEmpty=true then 0 else k.toNat) its.toArray)=(List.replicate k.toNat its).flatten.toArray:=by
  have f0:∀m:Nat,List.foldl (λx1 x2=>x1++x2) #[] (List.replicate m its.toArray)=(List.replicate m its).flatten.toArray:=λm=>by
   have:=Sv its m [];rw[List.nil_append] at this;exact this
  rw[f0];cases its with
  |nil=>simp
  |cons a r'=>rw[ao Z2]
 refine wpAny_binaryOp_repeat_ref (T:="list") (U:="int") (by decide) #[_,e,Z] (λs'=>typeIs_int s' k t) noFill_list_mul F.fills_int_mul F.slot_int_rmul repeat_list F.slot_int_index.lookup
  (call_meets F.slot_int_rmul (typeIs_int s k t) F.entry_int_rmul (F.args_int_rmul_2 _ _) (int___rmul___int_list k t l its.toArray n)
   #[e,Z,#[_,e,Z],call_meets F.slot_list_mul #[_,e,Z] F.entry_list_mul (F.args_list_mul_2 _ _) (AutoListH.list___mul___list_int_3 l its.toArray n k t Ko KC sr) #[e,?_]])
 rw[gA];exact#[.ref _,_,I.uS (t':=s.toks) (r.rep k.toNat) (by rw[Yf,Nat.mul_comm];exact hz),Z,q _ I.fresh]
variable{o:Option V}
section
variable{κ:Type}[DecidableEq κ]
def br(kvs:List (κ × V))(k:κ):Option V:=(kvs.find? λkv=>decide (kv.1=k)).map (·.2)
def putK(kvs:List (κ × V))(k:κ)(v:V):List (κ × V):=
 if (kvs.any λkv=>decide (kv.1=k))=true then kvs.map (λkv=>if kv.1=k then (kv.1,v) else kv) else kvs++[(k,v)]
theorem Ak{p:κ × V}{r:List (κ × V)}{k:κ}(e:p.1=k):br (p::r) k=some p.2:=by simp[br,List.find?_cons,e]
theorem Aj{p:κ × V}{r:List (κ × V)}{k:κ}(e:¬p.1=k):br (p::r) k=br r k:=by simp[br,List.find?_cons,e]
theorem EY(k:κ):∀kvs:List (κ × V),(kvs.any λkv=>decide (kv.1=k))=(br kvs k).isSome
 |[]=>rfl
 |p::r=>by
  rw[List.any_cons];by_cases e:p.1=k
  ·simp only[Ak e,bW e,Bool.true_or,Option.isSome_some]
  ·rw[Aj e,dA e,Bool.false_or];exact EY k r
theorem Nl(kvs:List (κ × V))(k:κ)(v:V):(putK kvs k v).length<=kvs.length+1:=by
 unfold putK;split
 ·rw[aq];omega
 ·rw[eF,hX,sW];omega
theorem BA{kvs:List (κ × V)}{k:κ}(v:V)(h:br kvs k=none):putK kvs k v=kvs++[(k,v)]:=by
 unfold putK;rw[EY,h];exact ao (by decide)
theorem dJ.du{u:Option Aa}(r:dJ o u):o.isSome=u.isSome:=by
 cases o with
 |none=>cases u with
  |none=>rfl
  |some _=>exact (show False from r).elim
 |some _=>cases u with
  |none=>exact (show False from r).elim
  |some _=>rfl
theorem dJ.getD{u:Option Aa}{d:V}{d':Aa}(r:dJ o u)(rd:RelV d d'):RelV (o.getD d) (u.getD d'):=by
 cases o with
 |none=>cases u with
  |none=>exact rd
  |some _=>exact (show False from r).elim
 |some _=>cases u with
  |none=>exact (show False from r).elim
  |some _=>exact r
theorem KV.val{kvs:List (κ × V)}{vs:List (κ × Aa)}(r:KV kvs vs)(k:κ):dJ (br kvs k) (valueAt vs k):=by
 unfold KV at r
 induction r with
 |nil=>exact True.intro
 |@cons p q ps qs h t ih=>
  obtain⟨h1,h2⟩:=h;by_cases e:p.1=k
  ·have e':q.1=k:=h1.symm.trans e;have b:valueAt (q::qs) k=some q.2:=by simp[valueAt,List.find?_cons,e']
   rw[Ak e,b];exact h2
  ·have e':¬q.1=k:=λz=>e (h1.trans z);have b:valueAt (q::qs) k=valueAt qs k:=by simp[valueAt,List.find?_cons,e']
   rw[Aj e,b];exact ih
theorem KV.any{kvs:List (κ × V)}{vs:List (κ × Aa)}(r:KV kvs vs)(k:κ):(kvs.any λkv=>decide (kv.1=k))=vs.any λkv=>decide (kv.1=k):=by
 unfold KV at r
 induction r with
 |nil=>rfl
 |cons h t ih=>rw[List.any_cons,List.any_cons,ih,h.1]
theorem KV.yy{kvs:List (κ × V)}{vs:List (κ × Aa)}(r:KV kvs vs)(k:κ){y:V}(ry:RelV y u) :
  KV (kvs.map λkv=>if kv.1=k then (kv.1,y) else kv) (vs.map λkv=>if kv.1=k then (kv.1,u) else kv):=by
 unfold KV at r ⊢
 induction r with
 |nil=>exact .nil
 |@cons p q ps qs h t ih=>
  rw[dN,dN];refine .cons ?_ ih;obtain⟨h1,h2⟩:=h;by_cases e:p.1=k
  ·rw[aC e,aC (h1.symm.trans e)];exact#[h1,ry]
  ·rw[ao e,ao (λz=>e (h1.trans z))];exact#[h1,h2]
theorem KV.put{kvs:List (κ × V)}{vs:List (κ × Aa)}(r:KV kvs vs)(k:κ){y:V}(ry:RelV y u):KV (putK kvs k y) (stored vs k u):=by
 unfold putK stored;rw[r.any k];by_cases e:(vs.any λkv=>decide (kv.1=k))=true
 ·rw[aC e,aC e];exact r.yy k ry
 ·rw[ao e,ao e];exact Paired.snoc r #[Z,ry]
theorem KV.keys{kvs:List (κ × V)}{vs:List (κ × Aa)}(r:KV kvs vs):kvs.map (·.1)=vs.map (·.1):=by
 unfold KV at r
 induction r with
 |nil=>rfl
 |cons h t ih=>rw[dN,dN,ih,h.1]
theorem KV.length{kvs:List (κ × V)}{vs:List (κ × Aa)}(r:KV kvs vs):kvs.length=vs.length:=bE r
end
variable{P:Ad}{w:Af}
theorem tM{k:Key}(r:RelV (kV k) u):(dX P w).is k u=true:=by
 cases k with
 |inl i=>obtain⟨t,e⟩:=(show ∃t,u=Value.int i t from r);subst e;exact eD_ P w i t
 |inr x=>obtain⟨t,e⟩:=(show ∃t,u=Value.str x t from r);subst e;exact Nk P w x t
theorem RV{P:Ad}{w:Af}:∀{ks:List Key} {us:List Aa},Vals (ks.map kV) us->ItemsAre (dX P w) ks us
 |[],_,r=>by rw[List.map_nil] at r;cases r;exact .nil
 |k::ks,_,r=>by
  rw[dN] at r;cases r with
  |cons h t=>exact .cons (tM h) (RV t)
abbrev KT(H:Hp):List (List Key × V)->List (List Key × Addr × Aa)->Prop:=Paired λp q=>p.1=q.1/\H q.2.1=some (.tup (p.1.map kV))/\RelV p.2 q.2.2
variable{H:Hp}{xs:List (List Key × Addr × Aa)}{kvs:List (List Key × V)}
theorem KT.val(r:KT H kvs xs)(k:List Key):dJ (br kvs k) ((atKey xs k).map (·.2)):=by
 induction r with
 |nil=>exact True.intro
 |@cons p q ps qs h t ih=>
  obtain⟨h1,_,h2⟩:=h;by_cases e:p.1=k
  ·have e':q.1=k:=h1.symm.trans e;have b:atKey (q::qs) k=some q.2:=by simp[atKey,List.find?_cons,e']
   rw[Ak e,b];exact h2
  ·have e':¬q.1=k:=λz=>e (h1.trans z);have b:atKey (q::qs) k=atKey qs k:=by simp[atKey,List.find?_cons,e']
   rw[Aj e,b];exact ih
theorem KT.yy(r:KT H kvs xs)(k:List Key){y:V}(ry:RelV y u) :
  KT H (kvs.map λkv=>if kv.1=k then (kv.1,y) else kv) (xs.map (putAt k u)):=by
 induction r with
 |nil=>exact .nil
 |@cons p q ps qs h t ih=>
  rw[dN,dN];refine .cons ?_ ih;obtain⟨h1,h2,h3⟩:=h;unfold putAt;by_cases e:p.1=k
  ·rw[aC e,aC (h1.symm.trans e)];exact#[h1,h2,ry]
  ·rw[ao e,ao (λz=>e (h1.trans z))];exact#[h1,h2,h3]
variable{b:Addr}
theorem KT.put(r:KT H kvs xs)(k:List Key){y:V}(hb:H b=some (.tup (k.map kV)))(ry:RelV y u) :
  KT H (putK kvs k y) (storedH xs k b u):=by
 have e:(kvs.any λkv=>decide (kv.1=k))=(atKey xs k).isSome:=by
  rw[EY,(r.val k).du,Option.isSome_map]
 unfold putK storedH;rw[e];by_cases q:(atKey xs k).isSome=true
 ·rw[aC q,aC q];exact r.yy k ry
 ·rw[ao q,ao q];exact Paired.snoc r #[Z,hb,ry]
variable{H':Hp}
theorem KT.keeps(r:KT H kvs xs)(ht:∀b ys,H b=some (.tup ys)->H' b=some (.tup ys)):KT H' kvs xs:=
 Paired.bo r λ_ _ z=>#[z.1,ht _ _ z.2.1,z.2.2]
variable{h:Heap}{a:Addr}
theorem OD{u:HO}(ok:eX P w H h)(e:Rd H a u):fb P w H h a u:=e.ok ok
theorem jQ{kvs:List (Key × V)}(ok:eX P w H h)(e:Rd H a (.dK kvs)):kvs.length<=sizeLine/\(a == sysModules)=false/\∃vs,KV kvs vs/\h.DictOf (dX P w) a vs:=
 show fb P w H h a (.dK kvs) from OD ok e
theorem xi{kvs:List (Key × V)}(ok:eX P w H h)(e:H a=some (.dK kvs)):kvs.length<=sizeLine/\(a == sysModules)=false/\∃vs,KV kvs vs/\h.DictOf (dX P w) a vs:=jQ ok (.inl e)
theorem zY{ks:List Key}(ok:eX P w H h)(e:H a=some (.tup (ks.map kV))):(tupleKind (dX P w)).is h ks a:=by
 obtain⟨_,its,r,⟨o,h1,h2,n,h3⟩,_⟩:=(show fb P w H h a (.tup (ks.map kV)) from ok a _ e);exact#[o,its.toArray,n,h1,h2,h3,by simpa using RV r]
theorem zJ(ok:eX P w H h)(e:Rd H a (.dT kvs)):kvs.length<=sizeLine/\(a == sysModules)=false /\
  ∃xs,KT H kvs xs/\h.DictOfH (tupleKind (dX P w)) a xs:=by
 obtain⟨z,y,xs,r,o,es,ep,h1,h2,h3,h4,h5⟩:=(show fb P w H h a (.dT kvs) from OD ok e);refine#[z,y,xs,r,o,es,ep,h1,h2,h3,h4,λx hx=>?_,h5]
 have all:∀{l:List (List Key × V)} {m:List (List Key × Addr × Aa)},KT H l m->∀x∈m,(tupleKind (dX P w)).is h x.1 x.2.1:=by
  intro l m q
  induction q with
  |nil=>intro x hx;exact nomatch hx
  |@cons p q ps qs hq t ih=>
   intro x hx;rcases bO.mp hx with e|hx
   ·subst e;exact zY ok (by rw[<- hq.1];exact hq.2.1)
   ·exact ih x hx
 exact all r x hx
theorem Ww(ok:eX P w H h)(e:H a=some (.dT kvs)):kvs.length<=sizeLine/\(a == sysModules)=false /\
  ∃xs,KT H kvs xs/\h.DictOfH (tupleKind (dX P w)) a xs:=zJ ok (.inl e)
def cm(H:Hp)(a:Addr)(y:V)(r:Option V):Prop:=
 (∃kvs k,Rd H a (.dK kvs)/\y=kV k/\r=br kvs k)∨∃kvs k b,Rd H a (.dT kvs)/\y=.ref b/\H b=some (.tup (k.map kV))/\r=br kvs k
def mQ(H:Hp)(a:Addr)(y v:V)(H':Hp):Prop:=
 (∃kvs k,H a=some (.dK kvs)/\y=kV k/\kvs.length<sizeLine/\H'=upd H a (.dK (putK kvs k v))) ∨
 ∃kvs k b,H a=some (.dT kvs)/\y=.ref b/\H b=some (.tup (k.map kV))/\kvs.length<sizeLine/\H'=upd H a (.dT (putK kvs k v))
theorem cm.k{kvs:List (Key × V)}{k:Key}(e:H a=some (.dK kvs)):cm H a (kV k) (br kvs k):=.inl #[kvs,k,.inl e,Z,Z]
theorem cm.t{k:List Key}(e:H a=some (.dT kvs))(eb:H b=some (.tup (k.map kV))):cm H a (.ref b) (br kvs k):=.inr #[kvs,k,b,.inl e,Z,eb,Z]
theorem mQ.k{kvs:List (Key × V)}{k:Key}{v:V}(e:H a=some (.dK kvs))(hl:kvs.length<sizeLine):mQ H a (kV k) v (upd H a (.dK (putK kvs k v))):=.inl #[kvs,k,e,Z,hl,Z]
theorem mQ.t{k:List Key}{v:V}(e:H a=some (.dT kvs))(eb:H b=some (.tup (k.map kV)))(hl:kvs.length<sizeLine) :
  mQ H a (.ref b) v (upd H a (.dT (putK kvs k v))):=.inr #[kvs,k,b,e,Z,eb,hl,Z]
variable{h':Heap}
variable{kvs:List (Key × V)}
section
variable{X:Cx}{pins:List (Addr × Obj)}{σ:St}{H:Hp}{s:Ab}{a:Addr}{y v:V}{u r:Aa}{o:Option V}{A:Ag}{E:Aa->Ab->Prop}
theorem Inv.big(I:Inv X pins σ H s):sysModules<s.heap.objs.size:=by
 have h:mainGlobals<s.heap.objs.size:=(I.mod.glob.keeps I.bk).lt;exact Nat.lt_trans (by decide) h
theorem Sm{Q:Aa->Ab->Prop}(hu:A.units+1<cLine)(I:Inv X pins σ H s)(g:cm H a y (some v))(ry:RelV y u)(h:∀w' s',Inv X pins σ H s'->RelV v w'->Q w' s') :
  wpAny (model X.prog X.w) A (getItem (.ref a) u) Q E s:=by
 rcases g with⟨kvs,k,e,ey,l⟩|⟨kvs,k,b,e,ey,eb,l⟩
 ·subst ey;obtain⟨z,hd,vs,rel,dd⟩:=jQ I.aF e;obtain⟨w',hw,iz⟩:=dJ.some_of (v:=v) (o:=valueAt vs k) (by rw[l];exact rel.val k);exact wpAny_getItem_of (tM ry) dd.mapOf hw (h w' _ (I.tok _) iz)
 ·subst ey;cases (show u=Value.ref b from ry);obtain⟨z,hd,xs,rel,dd⟩:=zJ I.aF e;obtain⟨w',hw,iz⟩:=dJ.some_of (v:=v) (o:=(atKey xs k).map (·.2)) (by rw[l];exact rel.val k);obtain⟨p,hp,oh⟩:=Option.map_eq_some_iff.mp hw;refine wpAny_getItem_heap (tupleKind_room_in1 hu) (zY I.aF eb) dd hp ?_;rw[oh];exact h w' _ (I.tok _) iz
theorem Lw{Q:Aa->Ab->Prop}(hu:A.units+1<cLine)(I:Inv X pins σ H s)(g:cm H a y o)(ry:RelV y u)(h:∀s',Inv X pins σ H s'->Q (.bool o.isSome) s') :
  wpAny (model X.prog X.w) A (compareOp .In u (.ref a)) Q E s:=by
 rcases g with⟨kvs,k,e,ey,l⟩|⟨kvs,k,b,e,ey,eb,l⟩
 ·subst ey;obtain⟨z,hd,vs,rel,dd⟩:=jQ I.aF e;refine wpAny_in_of (tM ry) hd dd.mapOf ?_;rw[<- (rel.val k).du,<- l];exact h _ (I.tok _)
 ·subst ey;cases (show u=Value.ref b from ry);obtain⟨z,hd,xs,rel,dd⟩:=zJ I.aF e;refine wpAny_in_heap (tupleKind_room_in1 hu) (zY I.aF eb) hd dd ?_;have q:=(rel.val k).du;rw[Option.isSome_map] at q;rw[<- q,<- l];exact h _ (I.tok _)
theorem Yn{Q:Aa->Ab->Prop}(hu:A.units+1<cLine)(I:Inv X pins σ H s)(g:cm H a y o)(ry:RelV y u)(h:∀s',Inv X pins σ H s'->Q (.bool (!o.isSome)) s') :
  wpAny (model X.prog X.w) A (compareOp .NotIn u (.ref a)) Q E s:=by
 rcases g with⟨kvs,k,e,ey,l⟩|⟨kvs,k,b,e,ey,eb,l⟩
 ·subst ey;obtain⟨z,hd,vs,rel,dd⟩:=jQ I.aF e;refine wpAny_notIn_of (tM ry) hd dd.mapOf ?_;rw[<- (rel.val k).du,<- l];exact h _ (I.tok _)
 ·subst ey;cases (show u=Value.ref b from ry);obtain⟨z,hd,xs,rel,dd⟩:=zJ I.aF e;refine wpAny_notIn_heap (tupleKind_room_in1 hu) (zY I.aF eb) hd dd ?_;have q:=(rel.val k).du;rw[Option.isSome_map] at q;rw[<- q,<- l];exact h _ (I.tok _)
theorem K5{ob:HO}(I:Inv X pins σ H s)(mu:Fp (H a))(hs:Heap.SameBut a s.heap h')(he:∃q,h'.get? a=some q)(new:fb X.prog X.w (upd H a ob) h' a ob) :
  Inv X pins σ (upd H a ob) { s with heap:=h',toks:=t' }:=
 I.write (x:=a) (e:=a) mu (.inl Z) (λb q hb z=>(hs.2 b hb).trans z) he new
theorem Gq{vs:List (Key × Aa)}(z:kvs.length<=sizeLine)(hd:(a == sysModules)=false)(rel:KV kvs vs)(dd:h'.DictOf (dX P w) a vs) :
  fb P w H' h' a (.dK kvs):=#[z,hd,vs,rel,dd]
theorem RU{Q:Unit->Ab->Prop}(hu:A.units+1<cLine)(I:Inv X pins σ H s)(g:mQ H a y v H')(ry:RelV y u)(rv:RelV v r)(h:∀s',Inv X pins σ H' s'->Q () s') :
  wpAny (model X.prog X.w) A (setItem (.ref a) u r) Q E s:=by
 rcases g with⟨kvs,k,e,ey,l,eH⟩|⟨kvs,k,b,e,ey,eb,l,eH⟩
 ·subst ey eH;obtain⟨z,hd,vs,rel,dd⟩:=xi I.aF e;have hz:vs.length<=sizeLine:=by rw[<- rel.length];exact z
  have hl:(putK kvs k v).length<=sizeLine:=by have:=Nl kvs k v;omega
  refine wpAny_setItem_pairs (hsz:=hz) (tM ry) dd λh' vo hs=>h _ ?_;have he:∃q,h'.get? a=some q:=let #[q,_,_,hq,_]:=vo;#[q,hq];exact K5 I (by rw[e];exact True.intro) hs he (Gq hl hd (rel.put k rv) vo)
 ·subst ey eH;cases (show u=Value.ref b from ry);obtain⟨z,hd,xs,rel,dd⟩:=Ww I.aF e;have hz:xs.length<=sizeLine:=by rw[<- bE rel];exact z
  have hl:(putK kvs k v).length<=sizeLine:=by have:=Nl kvs k v;omega
  refine wpAny_setItem_heap (hsz:=hz) (tupleKind_room_in1 hu) (zY I.aF eb) dd λh' vo hs=>h _ ?_;obtain⟨q,es,ep,hq,h2,h3,h4,_,h5⟩:=vo;refine K5 I (by rw[e];exact True.intro) hs #[q,hq] #[hl,hd,_,(rel.put k eb rv).keeps λc ys ec=>?_,q,es,ep,hq,h2,h3,h4,h5];rw[ax (bZ ec e nofun)];exact ec
end
variable{E:Aa->Ab->Prop}
theorem Wj{Q:Aa->Ab->Prop}(I:Inv X pins σ H s)(e:Rd H a (.dK kvs))(h:∀t s',Inv X pins σ H s'->Q (.int kvs.length t) s'):wpAny (model X.prog X.w) A (call (.builtin "len") [.ref a]) Q E s:=by
 obtain⟨z,hd,vs,rel,dd⟩:=jQ I.aF e;refine call_len_dict hd dd (by rw[<- rel.length];rw[bU] at z;omega) ?_;rw[<- rel.length];exact h _ _ (I.tok _)
def AB(i:Expr):Prop:=∀ov iv,subscripted i false ov iv=operate [ov,iv] (getItem ov iv)
variable{value:Expr}{pos:Pos}
theorem Pe{prog:Ad}{env:Env}{slice:Expr}{id:String}{Q:Aa->Ab->Prop}(hl:typeLookup (.type T) "__getitem__"=pure (some (.builtin id)))(hs:AB slice)(h:wpAny (model prog w) A (eval value env) (λo aN=>wpAny (model prog w) A (eval slice env) (λi jf=>jf.TypeIs o T/\wpAny (model prog w) A (getItem o i) Q E jf) E aN) E s) :
  wpAny (model prog w) A (eval (.Subscript value slice pos) env) Q E s:=by
 refine Subscript_ (wpAny_mono h (λo aN JQ=>wpAny_mono JQ (λi jf yT=>?_) λ_ _ x=>x) λ_ _ x=>x);obtain⟨hT,yT⟩:=yT;unfold subscriptTail;refine aj ?_;rw[getitemInPython_of_ne hT.not_modules];refine aj (wpAny_specialOf hT hl ?_)
 have fin:wpAny (model prog w) A (subscripted slice false o i) (λr Ca=>wpAny (model prog w) A (letTemporaryGo value o r >>= λ_=>pure r) Q E Ca) E jf:=by
  rw[hs o i];exact wpAny_operating (wpAny_mono yT (λr Ca JP=>aj (wpAny_letTemporaryGo (aQ JP))) λ_ _ x=>x)
 first
  |exact aQ (aj fin)
  |exact aj (aQ (aj fin))
  |exact aj fin
theorem f4_{y:V}(I:Inv X pins σ H s)(g:cm H a y o):s.TypeIs (.ref a) "dict":=by
 rcases g with⟨kvs,k,e,_,_⟩|⟨kvs,k,b,e,_,_,_⟩
 ·obtain⟨_,_,vs,_,dd⟩:=jQ I.aF e;exact dd.typeIs
 ·obtain⟨_,_,xs,_,dd⟩:=zJ I.aF e;exact dd.typeIs
inductive qj (Q:VK) (x:V) (y:V) (H2:Hp):Prop
 |mk:∀a v,x=.ref a->cm H2 a y (some v)->Q v H2->qj Q x y H2
def B8(td ty:TE):TE:=λσ H Q=>td σ H λx H1=>ty σ H1 λy H2=>qj Q x y H2
inductive wg (Q:VK) (y:V) (x:V) (H2:Hp):Prop
 |mk:∀a o,x=.ref a->cm H2 a y o->Q (.bl o.isSome) H2->wg Q y x H2
def Ip(ty td:TE):TE:=λσ H Q=>ty σ H λy H1=>td σ H1 λx H2=>wg Q y x H2
inductive RK (Q:VK) (y:V) (x:V) (H2:Hp):Prop
 |mk:∀a o,x=.ref a->cm H2 a y o->Q (.bl (!o.isSome)) H2->RK Q y x H2
def uw(ty td:TE):TE:=λσ H Q=>ty σ H λy H1=>td σ H1 λx H2=>RK Q y x H2
inductive rB (D:Ends) (σ:St) (v:V) (x:V) (y:V) (H3:Hp):Prop
 |mk:∀a H4,x=.ref a->mQ H3 a y v H4->D.nx σ H4->rB D σ v x y H3
def Co(td ty tv:TE):TS:=λD σ H=>tv σ H λv H1=>td σ H1 λx H2=>ty σ H2 λy H3=>rB D σ v x y H3
def Cp(td ty tv:TE)(rd:V->V->Hp->VK->Prop):TS:=λD σ H=>td σ H λx H1=>ty σ H1 λy H2=>∃a v,x=.ref a/\cm H2 a y (some v) /\
 tv σ H2 λy2 H3=>rd v y2 H3 λz H4=>∃H5,mQ H4 a y z H5/\D.nx σ H5
variable{i o:Expr}{td ty:TE}
theorem eU(hu:X.A.units+1<cLine)(ho:PE X o td)(hi:PE X i ty)(hs:AB i):PE X (.Subscript o i pos) (B8 td ty):=by
 intro pins s σ H Q I h;refine Pe PySem.F.slot_dict_getitem.lookup hs (aJ (ho pins s σ H _ I h) λu s1 ⟨x,H1,I1,rx,q1⟩=>aJ (hi pins s1 σ H1 _ I1 q1) λiv s2 ⟨y,H2,I2,ry,a,v,ex,g,q2⟩=>?_);subst ex;obtain rfl:u=Value.ref a:=rx;exact#[f4_ I2 g,Sm hu I2 g ry λw' s3 I3 iz=>#[v,H2,I3,iz,q2]]
theorem Be(hu:X.A.units+1<cLine)(hi:PE X i ty)(ho:PE X o td):PC X .In i o (Ip ty td):=by
 intro pins s σ H Q I h;refine aJ (hi pins s σ H _ I h) λiv s1 ⟨y,H1,I1,ry,q1⟩=>aJ (ho pins s1 σ H1 _ I1 q1) λu s2 ⟨x,H2,I2,rx,a,ov,ex,g,q2⟩=>?_;subst ex;obtain rfl:u=Value.ref a:=rx;exact Lw hu I2 g ry λs3 I3=>#[.bl ov.isSome,H2,I3,Z,q2]
theorem RH(hu:X.A.units+1<cLine)(hi:PE X i ty)(ho:PE X o td):PC X .NotIn i o (uw ty td):=by
 intro pins s σ H Q I h;refine aJ (hi pins s σ H _ I h) λiv s1 ⟨y,H1,I1,ry,q1⟩=>aJ (ho pins s1 σ H1 _ I1 q1) λu s2 ⟨x,H2,I2,rx,a,ov,ex,g,q2⟩=>?_;subst ex;obtain rfl:u=Value.ref a:=rx;exact Yn hu I2 g ry λs3 I3=>#[.bl (!ov.isSome),H2,I3,Z,q2]
variable{pos':Pos}{tv:TE}
theorem o7(hu:X.A.units+1<cLine)(ho:PE X o td)(hi:PE X i ty)(hv:PE X value tv)(hs:swapsWith value (some (.Subscript o i pos')) pos.line X.env=pure false) :
  PS X (.Assign [.Subscript o i pos'] value pos) (Co td ty tv):=by
 intro pins s σ H D I h;refine wpAny_Assign_Subscript (aJ (hv pins s σ H _ I h) λr s1 ⟨v,H1,I1,rv,q1⟩=>aJ (ho pins s1 σ H1 _ I1 q1) λu s2 ⟨x,H2,I2,rx,q2⟩=>aJ (hi pins s2 σ H2 _ I2 q2) λiv s3 ⟨y,H3,I3,ry,a,H4,ex,g,q3⟩=>?_) hs;subst ex;obtain rfl:u=Value.ref a:=rx;exact RU hu I3 g ry rv λs4 I4=>#[σ,H4,I4,q3]
variable{BV:Pos}
theorem Yw{op:Operator}{rd:V->V->Hp->VK->Prop}(hu:X.A.units+1<cLine)(ho:PE X o td)(hi:PE X i ty)(hv:PE X value tv)(hop:Ft X op rd)
  (ha:∀ov iv new,augStore i ov iv new=(do holding [new,ov,iv] (setItem ov iv new);release [new,ov,iv] [];pure .next)):PS X (.AugAssign (.Subscript o i BV) op value pos) (Cp td ty tv rd):=by
 intro pins s σ H D I h;refine wpAny_AugAssign_SubscriptAny (aJ (ho pins s σ H _ I h) λu s1 ⟨x,H1,I1,rx,q1⟩=>aJ (hi pins s1 σ H1 _ I1 q1) λiv s2 ⟨y,H2,I2,ry,a,v,ex,g,q2⟩=>?_) ha;subst ex;obtain rfl:u=Value.ref a:=rx;refine Sm hu I2 g ry λw' s3 I3 iz=>aJ (hv pins s3 σ H2 _ I3 q2) λw2 s4 ⟨y2,H3,I4,Vl,q3⟩=>aJ (hop pins s4 σ H3 v y2 w' w2 _ I4 iz Vl q3) λw3 s5 ⟨z,H4,I5,rz,H5,g5,q4⟩=>?_;exact RU hu I5 g5 ry rz λs6 I6=>#[σ,H5,I6,q4]
theorem Q8(h:Heap)(hb:sysModules<h.objs.size):fb P w H (h.push { cls:=.type "dict",data:=.dict #[] }) h.objs.size (.dK []):=
 #[fB _,beq_eq_false_iff_ne.mpr (Ne.symm (dc hb)),[],.nil,Heap.DictOf.new h]
theorem Zm(h:Heap)(hb:sysModules<h.objs.size):fb P w H (h.push { cls:=.type "dict",data:=.dict #[] }) h.objs.size (.dT []):=
 #[fB _,beq_eq_false_iff_ne.mpr (Ne.symm (dc hb)),[],.nil,_,#[],0,dI _ Z,#[Z,Z,Z],Z,Z,List.nodup_nil]
def xO:TE:=λ_ H Q=>∀p,H p=none->Q (.ref p) (upd H p (.dK []))
def xN:TE:=λ_ H Q=>∀p,H p=none->Q (.ref p) (upd H p (.dT []))
theorem Al:PE X (.Dict [] [] pos) xO:=λpins s σ H Q I h=>
 wpAny_Dict_empty #[.ref s.heap.objs.size,_,I.laid (a:=s.heap.objs.size) (o:=.dK []) (t':=s.toks) (λ_ _ q=>bH _ q) (aZ _) (Q8 s.heap I.big),Z,h _ (I.aF.fresh (aZ _))]
theorem Zt:PE X (.Dict [] [] pos) xN:=λpins s σ H Q I h=>
 wpAny_Dict_empty #[.ref s.heap.objs.size,_,I.laid (a:=s.heap.objs.size) (o:=.dT []) (t':=s.toks) (λ_ _ q=>bH _ q) (aZ _) (Zm s.heap I.big),Z,h _ (I.aF.fresh (aZ _))]
def kE:List (TE × TE)->St->Hp->(List (V × V)->Hp->Prop)->Prop
 |[],_,H,Q=>Q [] H
 |(tk,tv)::r,σ,H,Q=>tk σ H λx H1=>tv σ H1 λy H2=>kE r σ H2 λps H3=>Q ((x,y)::ps) H3
abbrev VV:List (V × V)->List (Aa × Aa)->Prop:=Paired λp q=>RelV p.1 q.1/\RelV p.2 q.2
def HL(X:Cx)(pos:Pos)(keys:List (Option Expr))(values:List Expr)(vV:List (TE × TE)):Prop:=
 ∀(pins:List (Addr × Obj)) (s:Ab) (σ:St) (H:Hp) (Q:List (V × V)->Hp->Prop),Inv X pins σ H s->kE vV σ H Q->
  wpAny (model X.prog X.w) X.A (evalPairs (pairTrees keys values X.env pos)) (λvs s'=>∃ps H',Inv X pins σ H' s'/\VV ps vs/\Q ps H') X.xe s
theorem Yc:HL X pos [] [] []:=λpins s σ H Q I h=>pairTrees_nil_walk #[[],H,I,.nil,h]
variable{vV:List (TE × TE)}
theorem L0{k v:Expr}{ks:List (Option Expr)}{vs:List Expr}{tk:TE}(hk:PE X k tk)(hv:PE X v tv)(hr:HL X pos ks vs vV) :
  HL X pos (some k::ks) (v::vs) ((tk,tv)::vV):=λpins s σ H Q I h=>
 pairTrees_cons_walk (aJ (hk pins s σ H _ I h) λu s1 ⟨x,H1,I1,rx,q1⟩=>aJ (hv pins s1 σ H1 _ I1 q1) λw2 s2 ⟨y,H2,I2,ry,q2⟩=>
  aJ (hr pins s2 σ H2 _ I2 q2) λws s3 ⟨ps,H3,I3,rel,q3⟩=>#[(x,y)::ps,H3,I3,.cons #[rx,ry] rel,q3])
def oB(kvs more:List (Key × V)):List (Key × V):=more.foldl (λacc kv=>putK acc kv.1 kv.2) kvs
theorem KV.merge:∀{more:List (Key × V)} {rs:List (Key × Aa)} {kvs:List (Key × V)} {vs:List (Key × Aa)},KV more rs->KV kvs vs->KV (oB kvs more) (merged vs rs):=by
 intro more rs kvs vs r;unfold KV at r
 induction r generalizing kvs vs with
 |nil=>intro q;exact q
 |@cons p q ps qs h t ih=>
  intro r0
  have e:KV (putK kvs p.1 p.2) (stored vs q.1 q.2):=by
   have:=r0.put p.1 h.2;rw[<- h.1];exact this
  exact ih e
theorem Nj:∀(more kvs:List (Key × V)),(oB kvs more).length<=kvs.length+more.length
 |[],kvs=>by show kvs.length<=kvs.length+0;omega
 |p::r,kvs=>by
  have h1:=Nj r (putK kvs p.1 p.2);have h2:=Nl kvs p.1 p.2;show (oB (putK kvs p.1 p.2) r).length<=_;rw[hX];omega
theorem Sl{P:Ad}{w:Af}:∀{kvs:List (Key × V)} {ws:List (Aa × Aa)},VV (kvs.map λkv=>(kV kv.1,kv.2)) ws->∃rs,Carries (dX P w) ws rs/\KV kvs rs
 |[],_,r=>by rw[List.map_nil] at r;cases r;exact#[[],True.intro,.nil]
 |p::kvs,_,r=>by
  rw[dN] at r;cases r with
  |@cons a b as bs h t=>
   obtain⟨rs,c,q⟩:=Sl (P:=P) (w:=w) t;obtain⟨b1,b2⟩:=b;exact#[(p.1,b2)::rs,#[tM h.1,Z,c],.cons #[Z,h.2] q]
def B7(vV:List (TE × TE)):TE:=λσ H Q=>∀p,H p=none->kE vV σ (upd H p (.dK [])) λps H2=>H2 p=some (.dK [])/\∃kvs:List (Key × V),ps=kvs.map (λkv=>(kV kv.1,kv.2))/\kvs.length<=15/\Q (.ref p) (upd H2 p (.dK (oB [] kvs)))
theorem Ym{keys:List (Option Expr)}{values:List Expr}(h:HL X pos keys values vV)(fj:keys.all (·.isSome)=true)(hl:keys.length=values.length)(h0:keys≠[])(h15:keys.length<=15):PE X (.Dict keys values pos) (B7 vV):=by
 intro pins s σ H Q I q;have hn:=I.aF.fresh (aZ s.heap.objs.size);have I1:=I.laid (a:=s.heap.objs.size) (o:=.dK []) (h':=s.heap.push { cls:=.type "dict",data:=.dict #[] }) (t':=s.toks) (λ_ _ q=>bH _ q) (aZ _) (Q8 s.heap I.big);refine wpAny_Dict_walk (knd:=dX X.prog X.w) fj hl h0 h15 (aJ (h pins _ σ _ _ I1 (q _ hn)) λws s2 ⟨ps,H2,I2,rel,e,kvs,ep,lk,q2⟩=>?_);subst ep;obtain⟨rs,c,rk⟩:=Sl (P:=X.prog) (w:=X.w) rel;obtain⟨z,hd,vs0,r0,dd⟩:=xi I2.aF e;cases r0;refine#[rs,c,dd,λh' vo hs=>#[.ref s.heap.objs.size,_,?_,Z,q2]]
 have hz:(oB [] kvs).length<=sizeLine:=by
  have h1:=Nj kvs [];rw[sW] at h1;rw[bU];omega
 have he:∃q,h'.get? s.heap.objs.size=some q:=let #[q,_,_,hq,_]:=vo;#[q,hq];exact K5 I2 (by rw[e];exact True.intro) hs he (Gq hz hd (rk.merge .nil) vo)
structure M1 (X:Cx) (o:Expr) (m:Str) (apos:Pos) (e:Expr) (bR:Pos):Prop where
 base:attributeBase o m X.env (eval o X.env)=eval o X.env
 Q5:((backTo bR (starEach [e] X.env)).all (λx=>!x.1)&&(backToKw bR (keywordEach [] X.env)).all (λx=>x.1.isSome)
  && decide (([e]:List Expr).length+([]:List Keyword).length+(if ([]:List Keyword).isEmpty then 0 else 1)<30))=true
 line:(apos.endLine == bR.line)=true
 trees:backTo bR (starEach [e] X.env)=[(false,eval e X.env)]
structure M2 (X:Cx) (o:Expr) (m:Str) (apos:Pos) (e f:Expr) (bR:Pos):Prop where
 base:attributeBase o m X.env (eval o X.env)=eval o X.env
 Q5:((backTo bR (starEach [e,f] X.env)).all (λx=>!x.1)&&(backToKw bR (keywordEach [] X.env)).all (λx=>x.1.isSome)
  && decide (([e,f]:List Expr).length+([]:List Keyword).length+(if ([]:List Keyword).isEmpty then 0 else 1)<30))=true
 line:(apos.endLine == bR.line)=true
 trees:backTo bR (starEach [e,f] X.env)=[(false,eval e X.env),(false,eval f X.env)]
def TF(H:Hp)(a:Addr):Prop:=(∃kvs,Rd H a (.dK kvs))∨∃kvs,Rd H a (.dT kvs)
theorem JO(I:Inv X pins σ H s)(d:TF H a) :
  s.TypeIs (.ref a) "dict"/\(∀b,Value.ref a=.ref b->∃ob,s.heap.get? b=some ob/\ob.dict=none)/\(a == sysModules)=false:=by
 rcases d with⟨kvs,e⟩|⟨kvs,e⟩
 ·obtain⟨_,hd,vs,_,dd⟩:=jQ I.aF e;refine#[dd.typeIs,λb q=>?_,hd];cases q;obtain⟨ob,_,_,h1,h2,_⟩:=dd;exact#[ob,h1,h2.2.1]
 ·obtain⟨_,hd,xs,_,dd⟩:=zJ I.aF e;refine#[dd.typeIs,λb q=>?_,hd];cases q;obtain⟨ob,_,_,h1,h2,_⟩:=dd;exact#[ob,h1,h2.2.1]
variable{y:V}{o:Option V}{Q:Aa->Ab->Prop}
theorem WG(hu:A.units+1<cLine)(I:Inv X pins σ H s)(g:cm H a y o)(ry:RelV y u)(h:∀w' s',Inv X pins σ H s'->RelV (o.getD .non) w'->Q w' s') :
  wpAny (model X.prog X.w) A (call (.builtin "dict.get") [.ref a,u]) Q E s:=by
 rcases g with⟨kvs,k,e,ey,l⟩|⟨kvs,k,b,e,ey,eb,l⟩
 ·subst ey;obtain⟨z,hd,vs,rel,dd⟩:=jQ I.aF e;refine call_meetsIn PySem.F.slot_dict_get dd.typeIs PySem.F.entry_dict_get (PySem.F.args_dict_get_2 _ _) (meets_dict_get (dX X.prog X.w) a (tM ry) hd) #[_,dd.mapOf,h _ _ (I.tok _) ?_];rw[l];exact (rel.val k).getD Z
 ·subst ey;cases (show u=Value.ref b from ry);obtain⟨z,hd,xs,rel,dd⟩:=zJ I.aF e;refine call_meetsIn PySem.F.slot_dict_get dd.typeIs PySem.F.entry_dict_get (PySem.F.args_dict_get_2 _ _) (meetsH_dict_get (tupleKind (dX X.prog X.w)) a b hd) #[tupleKind_room_in1 hu,k,xs,zY I.aF eb,dd,h _ _ (I.tok _) ?_];rw[l];exact (rel.val k).getD Z
def xP(td ty:TE):TE:=λσ H Q=>td σ H λx H1=>∃a,x=.ref a/\TF H1 a/\ty σ H1 λy H2=>∃o,cm H2 a y o/\Q (o.getD .non) H2
variable{e o:Expr}{apos bR:Pos}
theorem Zq(hu:X.A.units+1<cLine)(ho:PE X o td)(he:PE X e ty)(m:M1 X o "get" apos e bR):PE X (.Call (.Attribute o "get" apos) [e] [] bR) (xP td ty):=by
 intro pins s σ H Q I h;refine wpAny_Call_method m.base m.Q5 m.line PySem.F.plainAttrs_dict PySem.F.slot_dict_get PySem.F.type_dict_get (aJ (ho pins s σ H _ I h) λu s1 ⟨x,H1,I1,rx,a,ex,d,q1⟩=>?_);subst ex;obtain rfl:u=Value.ref a:=rx;obtain⟨t1,t2,_⟩:=JO I1 d;refine#[t1,t2,?_];rw[m.trees];refine Calls.callWith_builtin Z (Calls.evalArgs_plain (Calls.spliced_cons (aJ (he pins s1 σ H1 _ I1 q1) λiv s2 ⟨y,H2,I2,ry,ov,g,q2⟩=>Calls.spliced_nil ?_)));exact WG hu I2 g ry λw' s3 I3 iz=>#[_,H2,I3,iz,q2]
theorem Zd(I:Inv X pins σ H s)(e:Rd H a (.dK kvs))(h:∀p s',H p=none->Inv X pins σ (upd H p (.dK kvs)) s'->Q (.ref p) s'):wpAny (model X.prog X.w) A (call (.type "dict") [.ref a]) Q E s:=by
 obtain⟨z,hd,vs,rel,dd⟩:=jQ I.aF e;refine kt_call_dict hd dd (by rw[<- rel.length];exact z) λh' vo hs=>?_;refine h _ _ (I.aF.fresh (aZ _)) (I.laid (a:=s.heap.objs.size) (o:=.dK kvs) (t':=s.toks) (λb q hq=>?_) (aZ _) (Gq z (beq_eq_false_iff_ne.mpr (Ne.symm (dc I.big))) rel vo));exact (hs.2 b (dc (bN hq))).trans (bH _ hq)
end L2
namespace TK
open PySem PySem.W PySem.Calls PyProof.Rows
variable{P:Params}{h:Heap}
theorem cU_:∀(ns:List Int) (vs:List Aa),WellAll P h vs (ns.map WData.int)->IntsAre vs ns:=by
 intro ns
 induction ns with
 |nil=>
  intro vs w;rw[List.map_nil] at w;cases w;exact .nil
 |cons n ns ih=>
  intro vs w;rw[dN] at w;cases w with
  |cons a b=>
   cases a;exact .cons _ _ (ih _ b)
variable{l:OpenLaw}{n:Nat}
theorem gZ_(hn:l.most=some n){args:List WData}{vals:List Aa}(uV:l.row.toRowW.claim.pre args=true)(JT:WellAll P h vals args) :
  ∃a vs ns,vals=[Value.ref a]/\args=[WData.list (ns.map WData.int)]/\h.get? a=some { cls:=.type "list",data:=.seq vs.toArray }/\IntsAre vs ns/\ns.length<=n:=by
 have hsh:WShape.hasAll [] args [.list .int]=true:=(pre_splitW uV).1;have hc:l.pre.holds [] { args:=args }=true:=(pre_splitW uV).2;obtain⟨d,r,rfl,h1,h2⟩:=hasAllW_cons hsh;obtain rfl:=hasAllW_nil h2;obtain⟨xs,rfl,h3⟩:=hasW_list h1;obtain⟨ns,rfl⟩:=items_int h3
 have hlen:ns.length<=n:=by
  unfold OpenLaw.pre at hc
  have h4:(WTm.not (.lt (.lit (.int (n:Int))) (.len (.arg 0)))).holds [] { args:=[.list (ns.map .int)] }=true:=by
   have h4:=(holds_andW hc).1;rw[hn] at h4;exact h4
  have h5:=condW_of h4 (w_not (w_lt w_lit (w_len_list (w_arg Z))));rw[aq] at h5;refine Nat.le_of_not_lt λq=>?_;have q':(n:Int)<((ns.length:Nat):Int):=by omega
  first
   |(rw[bW q'] at h5;exact absurd h5 (by decide))
   |(simp at h5;omega)
 cases JT with
 |cons w1 w2=>
  cases w2;cases w1 with
  |list ho fj=>exact#[_,_,ns,Z,Z,ho,cU_ ns _ fj,hlen]
theorem hl_(l:OpenLaw)(args:List WData):l.row.toRowW.claim.post args (.bool true) args=true:=
 postW_of (r:=l.row.toRowW) (X:=(true == true))
  (show WShape.has [] (.bool true) .bool=true by first|rfl|decide|simp[WShape.has,WShape.arms,WShape.armsAll])
  (show (WTm.eq .res (.lit (.bool true))).value [] { args:=args,res:=some (.bool true),after:=args }=some (.bool (true == true)) from w_eq_bool (w_res Z) w_lit) Z
theorem jS{q:Ad}{loose:List Str}{XP:(Str->Option Aa)->Heap->Prop}{YP:Af->Heap->Prop}{d:DefRec}(hn:l.most=some n)(jF:d.params.defaults=[])(call:∀(w:Af) (b_ aN:Ab) (mg mb:Str->Option Aa) (fa:Addr) (o:Obj) (pm cd doc:Aa) (a:Addr) (vs:List Aa) (ns:List Int),
   Ground q loose [] XP w b_ mg mb aN.heap->YP w aN.heap->
   aN.heap.get? fa=some o->o.data=.func (docDef d.name d.params d.body d.scope pm cd doc)->aN.heap.CodeRec cd d.name->mg d.name=some (.ref fa)->
   aN.heap.get? a=some { cls:=.type "list",data:=.seq vs.toArray }->IntsAre vs ns->ns.length<=n->aN.gens=#[]->
   codeAny (model l.prog w) callerA (.call (.ref fa) #[[.ref a],[]]) (λr s'=>r=.ok (.ret (.bool true))/\OldK aN.heap s'.heap/\s'.os=aN.os/\AllBare s'.gens) aN) :
  WalkO q loose XP YP l.row.toRowW d [] (λf vs=>PySem.call f vs):=by
 intro w b_ aN mg mb G Y fa o pm cd doc dV kV ho hd gC hD hmg hg args vals as uV hlay hrd JT hlo;obtain rfl:dV=.none:=Dflts.none hD jF;obtain rfl:kV=.none:=Dflts.noKw hD;obtain⟨a,vs,ns,rfl,rfl,yZ,hints,hlen⟩:=gZ_ hn uV JT;refine enter_call (codeAny_mono (call w b_ aN mg mb fa o pm cd doc a vs ns G Y ho (fd_plain hd) gC hmg yZ hints hlen hg) λr s' hq=>?_);obtain⟨rfl,h2,h3,h4⟩:=hq;exact#[.inl #[.bool true,.bool true,[],Z,λ_=>rfl,.bool true,hl_ l _,λ_=>#[List.Pairwise.nil,λ_ hm=>(nomatch hm)]],h2,h3,h4]
end TK
namespace L2
open PySem PySem.Spec PyProof.Rows
theorem Sr:∀{vs:List Aa} {ns:List Int},IntsAre vs ns->Vals (ns.map V.int) vs
 |_,_,.nil=>.nil
 |_,_,.cons n t h=>.cons #[t,Z] (Sr h)
def i0(s:Stmt)(j:Nat):Stmt:=match s with
 |.ClassDef _ _ _ body _ _ _ _ _ _ _=>body.getD j (.Pass #[0,0,0,0])
 |_=>.Pass #[0,0,0,0]
def iZ(s:Stmt):Arguments:=match s with
 |.FunctionDef _ a _ _ _ _ _ _ _ _=>a
 |_=>{ posonlyargs:=[],args:=[],vararg:=none,kwonlyargs:=[],kw_defaults:=[],kwarg:=none,defaults:=[] }
def gM(s:Stmt):List Stmt:=match s with
 |.FunctionDef _ _ b _ _ _ _ _ _ _=>b
 |_=>[]
def aU(s:Stmt):Scope:=match s with
 |.FunctionDef _ _ _ _ _ _ sc _ _ _=>sc
 |_=>{ kind:=.function,names:=[],isGenerator:=false,isCoroutine:=false }
abbrev aR:uh:=λ_ _ _ _ _ _=>False
abbrev E0:XK:=λ_ _ _=>False
variable{X:Cx}
theorem js:ua aR X E0:=λ_ _ _ _ _ _ _ h=>h.elim
structure a9 (K:ag) (x qual:Str) (st:Stmt) (f:Addr) (fd:Ae):Prop where
 ex:∃(oc:Aa) (od:Option Addr) (kV doc pm:Aa) (an:Option Addr) (aL ct:Aa) (j6:Array (Option Aa)),
  fd=PySem.W.fnOf x qual (iZ st) (gM st) (aU st) .none kV doc pm an aL ct/\K.lookup f=some #[oc,od,.func fd,j6]/\PySem.W.codeIn K aL qual=true
 kp:PySem.W.keepIn K (.ref f)=true
variable{qual:Str}{st:Stmt}{f:Addr}{fd:Ae}{N ps:List Str}{k:Nat}{sp:Sp}
section
variable{P:Ad}{w:Af}{K:ag}{mg:Str->Option Aa}{base:Heap}
theorem a9.ok{x:Str}(F:a9 K x qual st f fd)(S:bh N ps (aU st))(len:∀vs H Q E,sp vs H Q E->vs.length=ps.length)(ff:∀(aL:Aa) (A:Ag) (outer:List Env) (s:Ab) (H:Hp) (vs:List V) (Q:VK) (E:XK),aD k (A.deeper (envOfC qual (aU st) s.heap.objs.size f aL))->sp vs H Q E->
   ∃t,kz (jJ aR P w K mg base N qual (aU st) f aL A outer s H E).yF (gM st) t/\t { nx:=λ_ H'=>Q .non H',rt:=Q } (start N vs) H):ai P w K mg base aR (k+1) f fd ps sp:=by
 obtain⟨oc,od,kV,doc,pm,an,aL,ct,j6,rfl,lk,gC⟩:=F.ex;refine OM lk gC S len λA outer s H vs Q E hr j7=>?_;obtain⟨t,h,q⟩:=ff aL A outer s H vs Q E hr j7;exact#[t,h.yF,q]
theorem a9.bt{x:Str}(F:a9 K x qual st f fd)(S:bh N ps (aU st))(ff:∀(aL:Aa) (A:Ag) (outer:List Env) (s:Ab) (H:Hp) (vs:List V) (Q:VK) (E:XK),aD k (A.deeper (envOfC qual (aU st) s.heap.objs.size f aL))->sp vs H Q E->
   ∃t,kz (jJ aR P w K mg base N qual (aU st) f aL A outer s H E).yF (gM st) t/\t { nx:=λ_ H'=>Q .non H',rt:=Q } (start N vs) H)(len:∀vs H Q E,sp vs H Q E->vs.length=ps.length:=by intro vs H Q E h;first|(cases h;subst_vars;rfl)|(obtain⟨rfl,_⟩:=h;rfl)|(obtain⟨_,rfl,_⟩:=h;rfl)|(obtain⟨_,_,rfl,_⟩:=h;rfl)|(obtain⟨_,_,_,rfl,_⟩:=h;rfl)|(obtain⟨_,_,_,_,rfl,_⟩:=h;rfl)):ai P w K mg base aR (k+1) f fd ps sp:=F.ok S len ff
theorem a9.binds{x:Str}(F:a9 K x qual st f fd)(h:∀(kV doc pm:Aa) (an:Option Addr) (aL ct:Aa) (us:List Aa),us.length=ps.length->bindArgs (PySem.W.fnOf x qual (iZ st) (gM st) (aU st) .none kV doc pm an aL ct) #[us,[]]=pure (ps.zip us)):o5 K fd ps []:=by
 obtain⟨oc,od,kV,doc,pm,an,aL,ct,j6,rfl,lk,gC⟩:=F.ex;exact .all (h kV doc pm an aL ct)
theorem KM{x:Str}{oc:Aa}{od an:Option Addr}{j6:Array (Option Aa)}{kV doc pm aL ct:Aa}(l:K.lookup f=some #[oc,od,.func (PySem.W.fnOf x qual (iZ st) (gM st) (aU st) .none kV doc pm an aL ct),j6])(c:PySem.W.codeIn K aL qual=true)(k:PySem.W.keepIn K (.ref f)=true):a9 K x qual st f (PySem.W.fnOf x qual (iZ st) (gM st) (aU st) .none kV doc pm an aL ct):=#[#[oc,od,kV,doc,pm,an,aL,ct,j6,Z,l,c],k]
end
theorem eS{A:Ag}(hr:aD k A):A.units+1<cLine:=Nat.lt_of_le_of_lt (Nat.add_le_add_left (by decide:1<=64) _) hr.units
variable{pos:Pos}
theorem pv(i:Nat){x:Str}(hN:X.N[i]? = some x:=by rfl)(hv:Nz X.env.scope x:=by first|exact Or.inl Z|exact Or.inr (Or.inl Z)|exact Or.inr (Or.inr Z))(hd:(x == ("__debug__":Str))=false:=by decide)(gC:(x == ("__classdict__":Str))=false:=by decide):PE X (.Name x pos) (p_ i):=XR hN hv hd gC
inductive S_ (xs:List V) (H:Hp) (Q:VK):Prop
 |mk:∀a kvs,xs=[V.ref a]->H a=some (.dK kvs)->Q (.int kvs.length) H->S_ xs H Q
theorem _O:gJ X (.builtin "len") S_:=by
 intro pins s σ H xs us Q I r h;obtain⟨a,kvs,rfl,ha,q⟩:=h;obtain⟨u,rfl,ru⟩:=vals1 r;cases ru;exact Wj I (.inl ha) λt s' I'=>#[.int kvs.length,H,I',#[t,Z],q]
variable{A B:Prop}
theorem aM(h:B):if false=true then A else B:=by
 rw[ao fZ];exact h
theorem dQ(h:A):if true=true then A else B:=by
 rw[aC Z];exact h
variable{c:Prop}
theorem bp[Decidable c](h1:c->A)(h2:¬c->B):if c then A else B:=by
 by_cases h:c
 ·rw[aC h];exact h1 h
 ·rw[ao h];exact h2 h
theorem tQ[Decidable c](hc:c)(h:B):if (!decide c)=true then A else B:=by
 rw[bW hc];exact aM h
def aa(H H':Hp):Prop:=∀b o,H b=some o->H' b=some o
theorem aa.refl(H:Hp):aa H H:=λ_ _ h=>h
variable{H1:Hp}
theorem aa.trans{H H2:Hp}(a:aa H H1)(b:aa H1 H2):aa H H2:=λc o h=>b c o (a c o h)
theorem aa.free{H H':Hp}(e:aa H H'){l:Addr}(h:H' l=Option.none):H l=Option.none:=by
 cases q:H l with
 |none=>rfl
 |some o=>
  rw[e l o q] at h;cases h
section
variable{κ:Type}[DecidableEq κ]
theorem Ya{kvs:List (κ × V)}{k:κ}{v:V}(h:br kvs k=some v):k∈kvs.map (·.1):=by
 have q:(kvs.any λkv=>decide (kv.1=k))=true:=by
  rw[EY,h]
  all_goals rfl
 obtain⟨p,hp,e⟩:=List.any_eq_true.mp q;exact a_.mpr #[p,hp,vq e]
end
def iH(env:Env):List (Str × NameKind)->List (Str × Addr)->List (Str × Addr)
 |[],cs=>cs
 |(n,k)::r,cs=>iH env r (if k == .free then (n,(env.cells.lookup n).getD 0)::cs else cs)
theorem Nq{env:Env}(f:Str × NameKind->List (Str × Addr)->Sem (ForInStep (List (Str × Addr))))
  (hf:∀n k cs,f (n,k) cs=if (k == .free)=true then (do let a <- cellOf env n;pure (.yield ((n,a)::cs))) else pure (.yield cs)) :
  ∀(names:List (Str × NameKind)) (cs:List (Str × Addr)),(∀x∈names,x.2=.free->∃c,env.cells.lookup x.1=some c)->forIn names cs f=(pure (iH env names cs):Sem _)
 |[],cs,_=>by rw[List.forIn_nil];rfl
 |(n,k)::r,cs,h=>by
  rw[List.forIn_cons,hf];have hr:∀x∈r,x.2=.free->∃c,env.cells.lookup x.1=some c:=λx hx=>h x (dP _ hx);unfold iH;by_cases hk:(k == NameKind.free)=true
  ·obtain⟨c,hc⟩:=h (n,k) dO (by simpa using hk);have hc:env.cells.lookup n=some c:=hc;rw[aC hk,aC hk];have e:cellOf env n=pure c:=by unfold cellOf;rw[hc]
   rw[e];simp only[pure_bind];rw[Nq f hf r _ hr,hc];rfl
  ·rw[ao hk,ao hk];simp only[pure_bind];exact Nq f hf r _ hr
variable{scope:Scope}{env:Env}
theorem Tf(h:∀x∈scope.names,x.2=.free->∃c,env.cells.lookup x.1=some c):closureFor scope env=pure (iH env scope.names []):=by
 simp only[closureFor];rw[Nq (env:=env) _ (λn k cs=>by by_cases hk:(k == NameKind.free)=true<;>simp[hk]) scope.names [] h]
 simp only[pure_bind]
theorem SC{env:Env}:∀{names:List (Str × NameKind)} {cs:List (Str × Addr)} {x:Str} {c:Addr},(x,c)∈iH env names cs->(x,c)∈cs∨((x,NameKind.free)∈names/\c=(env.cells.lookup x).getD 0)
 |[],cs,x,c,h=>.inl h
 |(n,k)::r,cs,x,c,h=>by
  unfold iH at h;rcases SC h with h|⟨h,e⟩
  ·by_cases hk:(k == NameKind.free)=true
   ·rw[aC hk] at h;rcases bO.mp h with q|q
    ·cases q;have:k=.free:=by simpa using hk
     subst this;exact .inr #[dO,Z]
    ·exact .inl q
   ·rw[ao hk] at h;exact .inl h
  ·exact .inr #[dP _ h,e]
theorem Mh{env:Env}:∀{names:List (Str × NameKind)} {cs:List (Str × Addr)} {x:Str},(x,NameKind.free)∈names∨(∃c,(x,c)∈cs)->∃c,(x,c)∈iH env names cs
 |[],cs,x,h=>by
  rcases h with h|h
  ·cases h
  ·exact h
 |(n,k)::r,cs,x,h=>by
  unfold iH;refine Mh ?_;rcases h with h|⟨c,h⟩
  ·rcases bO.mp h with e|h
   ·cases e;exact .inr #[(env.cells.lookup n).getD 0,by rw[aC (by decide)];exact dO]
   ·exact .inl h
  ·refine .inr #[c,?_];split
   ·exact dP _ h
   ·exact h
theorem Nr:∀(names:List (Str × NameKind)) (n:Nat) (acc cl:List (Str × Addr)),cellsFrom n names (acc++cl)=cellsFrom n names acc++cl
 |[],_,_,_=>rfl
 |(x,k)::r,n,acc,cl=>by
  unfold cellsFrom;split
  ·exact Nr r (n+1) ((x,n)::acc) cl
  ·exact Nr r n acc cl
theorem Nh:∀{names:List (Str × NameKind)} {n:Nat} {acc:List (Str × Addr)} {x:Str} {c:Addr},(x,c)∈cellsFrom n names acc->(x,c)∈acc∨(x,NameKind.cell)∈names
 |[],_,_,_,_,h=>.inl h
 |(y,k)::r,n,acc,x,c,h=>by
  unfold cellsFrom at h;by_cases hk:(k == NameKind.cell)=true
  ·rw[aC hk] at h;rcases Nh h with h|h
   ·rcases bO.mp h with e|h
    ·cases e;have:k=.cell:=by simpa using hk
     subst this;exact .inr dO
    ·exact .inl h
   ·exact .inr (dP _ h)
  ·rw[ao hk] at h;rcases Nh h with h|h
   ·exact .inl h
   ·exact .inr (dP _ h)
theorem Ni{α:Type}:∀{l:List (Str × α)} {x:Str} {c:α},(x,c)∈l->∃c',l.lookup x=some c'
 |(k,v)::r,x,c,h=>by
  rw[sX];cases hb:x == k with
  |true=>exact#[v,Z]
  |false=>
   rcases bO.mp h with e|h
   ·cases e;simp at hb
   ·exact Ni h
def jL(scope:Scope)(C:Addr)(env:Env):Env:=
 { scope:=relabel scope env,locals:=C,globals:=env.globals,cells:=cellsFrom (C+1) scope.names (iH env scope.names []),qual:=env.qual,func:=none,code:=env.code,frame:=env.frame,builtins:=env.builtins }
theorem Te{M:Model}{A:Ag}{E:Aa->Ab->Prop}{s:Ab}{cl:List (Str × Addr)}{Q:Env->Ab->Prop}(h:Q { scope:=scope,locals:=s.heap.objs.size,globals:=env.globals,cells:=cellsFrom (s.heap.objs.size+1) scope.names cl,qual:=env.qual,func:=none,code:=env.code,frame:=env.frame,builtins:=env.builtins }
   { s with heap:=pushCells (s.heap.push { cls:=.type "dict",data:=.dict #[] }) scope.names }) :
  wpAny M A (newFunctionEnv scope env.globals cl [] env.qual none .none (some env)) Q E s:=by
 simp only[newFunctionEnv,Option.isSome_some,if_true];refine aj (wpAny_alloc ?_);refine aj (wpAny_layCells _ (λname kind cells=>by cases hkc:kind == NameKind.cell<;>simp[hkc]) _ _ _ _ ?_)
 rw[show ({ s with heap:=s.heap.push { cls:=.type "dict",data:=.dict #[] } }:Ab).heap.objs.size=s.heap.objs.size+1 from Heap.size_push ..];rw[List.forIn_nil];exact aj (aQ (aQ h))
def Hk(PN:List Str)(ps:Scope)(N:List Str)(own:Nat)(fr:List Nat)(scope:Scope):Bool:=
 decide (scope.kind=.function)&&decide N.Nodup&&decide (own+fr.length=N.length)
 && (scope.names.all λy=>decide (scope.names.lookup y.1=some y.2))
 && (scope.names.all λy=>if y.2=.free then decide (ps.names.lookup y.1=some .cell) || decide (ps.names.lookup y.1=some .free) else true)
 && ((fr.map λj=>PN[j]?) == (N.drop own).map some)
 && ((N.drop own).all λx=>decide (scope.names.lookup x=some .free))
structure mR (PN:List Str) (ps:Scope) (N:List Str) (own:Nat) (fr:List Nat) (scope:Scope):Prop where
 kind:scope.kind=.function
 nd:N.Nodup
 len:own+fr.length=N.length
 look:∀y∈scope.names,scope.names.lookup y.1=some y.2
 par:∀y∈scope.names,y.2=.free->ps.names.lookup y.1=some .cell∨ps.names.lookup y.1=some .free
 oY:(fr.map λj=>PN[j]?)=(N.drop own).map some
 frk:∀x∈N.drop own,scope.names.lookup x=some .free
variable{own:Nat}{fr:List Nat}
theorem mR.of{PN:List Str}{ps:Scope}(h:Hk PN ps N own fr scope=true):mR PN ps N own fr scope:=by
 unfold Hk at h;simp only[iR,jP,List.all_eq_true,beq_iff_eq] at h;obtain⟨⟨⟨⟨⟨⟨h1,h2⟩,h3⟩,h4⟩,h5⟩,h6⟩,h7⟩:=h;refine#[h1,h2,h3,h4,λy hy e=>?_,h6,h7];have q:=h5 y hy;rw[aC e] at q;simpa using q
def Au(own:Nat)(fr:List Nat)(σ:St):St:=List.replicate own none++fr.map λj=>(σ[j]?).join
def gK(X:Cx)(N:List Str)(scope:Scope)(fp:List Addr)(s:Ab)(H:Hp):Cx where
 prog:=X.prog
 w:=X.w
 K:=X.K
 mg:=X.mg
 base:=X.base
 A:=X.A
 N:=N
 b_:=s
 j1:=H
 env:=jL scope s.heap.objs.size X.env
 outer:=X.stack
 stack:=X.stack
 ex:=fp
 fn:=λx=>decide (scope.names.lookup x=some .local) || decide (scope.names.lookup x=some .cell)
 calm:=X.calm
 pn:=[]
 xe:=λ_ _=>False
theorem SJ{ps:Scope}{env:Env}(he:env.scope=ps){x:Str}:∀{names:List (Str × NameKind)} {k:NameKind},names.lookup x=some k->
  (names.map λ(n,k)=>if (k == NameKind.free&&env.scope.kind == .function&&env.kindOf n == some .cell) then (n,NameKind.cell) else (n,k)).lookup x =
   some (if (k == NameKind.free&&env.scope.kind == .function&&env.kindOf x == some .cell) then .cell else k)
 |(n,k')::r,k,h=>by
  rw[sX] at h;rw[dN];cases hb:x == n with
  |true=>
   rw[hb] at h;cases h;have e:x=n:=by simpa using hb
   subst e;dsimp only;split<;>simp[sX]
  |false=>
   rw[hb] at h;have ih:=SJ he (env:=env) h;dsimp only;split<;>(rw[sX,hb];exact ih)
theorem Mj{env:Env}{x:Str}:∀{names:List (Str × NameKind)} {k:NameKind},(names.map λ(n,k)=>if (k == NameKind.free&&env.scope.kind == .function&&env.kindOf n == some .cell) then (n,NameKind.cell) else (n,k)).lookup x=some k->∃k',names.lookup x=some k'/\(k'=k∨(k'=.free/\k=.cell))
 |(n,k')::r,k,h=>by
  rw[dN] at h;rw[sX];dsimp only at h;cases hb:x == n with
  |true=>
   refine#[k',Z,?_];by_cases hc:(k' == NameKind.free&&env.scope.kind == .function&&env.kindOf n == some .cell)=true
   ·rw[aC hc,sX,hb] at h;cases h;simp only[iR,beq_iff_eq] at hc;exact .inr #[hc.1.1,Z]
   ·rw[ao hc,sX,hb] at h;cases h;exact .inl Z
  |false=>
   have h':(r.map λ(n,k)=>if (k == NameKind.free&&env.scope.kind == .function&&env.kindOf n == some .cell) then (n,NameKind.cell) else (n,k)).lookup x=some k:=by
    split at h<;>(rw[sX,hb] at h;exact h)
   exact Mj h'
theorem dI_{α:Type}{x:Str}{c:α}:∀{l r:List (Str × α)},(l++r).lookup x=some c->(x,c)∈l∨(x,c)∈r:=λh=>eK.mp (o8 h)
section
variable{X:Cx}{pins:List (Addr × Obj)}{σ:St}{H:Hp}{s:Ab}{N:List Str}{own:Nat}{fr:List Nat}{scope:Scope}{fp:List Addr}
theorem Sz(I:Inv X pins σ H s)(S:mR X.N X.env.scope N own fr scope){x:Str}{c:Addr}(h:(x,c)∈iH X.env scope.names []):X.env.cells.lookup x=some c/\(x,NameKind.free)∈scope.names:=by
 rcases SC h with h|⟨h,e⟩
 ·cases h
 ·obtain⟨c',hc⟩:=I.ok.has x (S.par _ h Z);refine#[?_,h];rw[e,hc];rfl
theorem Inv.block(I:Inv X pins σ H s)(S:mR X.N X.env.scope N own fr scope)(Gm:∀b∈fp,ck X pins H b)(hfo:∀b∈fp,∃o,s.heap.get? b=some o) :
  Inv (gK X N scope fp s H) [] (Au own fr σ) H { s with heap:=pushCells (s.heap.push { cls:=.type "dict",data:=.dict #[] }) scope.names }:=by
 have kept:∀b o,s.heap.get? b=some o->(pushCells (s.heap.push { cls:=.type "dict",data:=.dict #[] }) scope.names).get? b=some o:=λb o e=>pushCells_keeps _ _ b o (bH _ e);have G5:=cellsFrom_ok scope.names (s.heap.push { cls:=.type "dict",data:=.dict #[] }) (s.heap.objs.size+1) [] #[λ_ _ hm=>(nomatch hm),List.Pairwise.nil] (by rw[Heap.size_push];exact aZ _);rw[Heap.size_push] at G5;have ecs:cellsFrom (s.heap.objs.size+1) scope.names (iH X.env scope.names [])=cellsFrom (s.heap.objs.size+1) scope.names []++iH X.env scope.names []:=Nr _ _ [] _
 have gz:∀{x c},(cellsFrom (s.heap.objs.size+1) scope.names (iH X.env scope.names [])).lookup x=some c->((x,c)∈cellsFrom (s.heap.objs.size+1) scope.names []/\(x,NameKind.cell)∈scope.names/\s.heap.objs.size+1<=c)∨(X.env.cells.lookup x=some c/\(x,NameKind.free)∈scope.names):=λ{x c} h=>by
  rw[ecs] at h;rcases dI_ h with h|h
  ·refine .inl #[h,?_,(G5.empty _ _ h).2];rcases Nh h with q|q
   ·cases q
   ·exact q
  ·exact .inr (Sz I S h)
 have CN:∀{x c},X.env.cells.lookup x=some c->c<s.heap.objs.size:=λ{x c} h=>by
  obtain⟨v,hv⟩:=I.cell x c h;exact hv.lt
 have hb:∀b∈fp,b<s.heap.objs.size:=λb hb=>let #[o,e]:=hfo b hb;bN e
 refine#[#[I.ok.mod,S.kind,I.ok.glob,I.ok.blt,aZ _,λx y c h1 h2=>?_,λx hx=>?_,λx c hf h=>?_,I.ok.hd,I.ok.frames,.inl Z,λb w9=>#[dc (hb b w9),λx c h=>?_],I.bs,?_,λb o e w9=>?_,λb w9 hs=>?_,I.stack,I.nj],
  rfl,I.bare,Un.kept kept,#[_,(Heap.Ns.new s.heap (.type "dict")).keeps (pushCells_keeps _ _),λi x v h1 h2 h3=>?_],λx c h=>?_,I.aF.fresh (aZ _),λx c h=>?_,λp hp=>absurd (show p∈([]:List (Addr × Obj)) from hp) Z2,I.aF.kept kept,?_]
 ·-- inj
  rcases gz h1 with⟨m1,k1,l1⟩|⟨m1,k1⟩<;>rcases gz h2 with⟨m2,k2,l2⟩|⟨m2,k2⟩
  ·exact name_of_addr G5.apart m1 m2
  ·exact absurd (CN m2) (Nat.not_lt.mpr (Nat.le_of_succ_le l1))
  ·exact absurd (CN m1) (Nat.not_lt.mpr (Nat.le_of_succ_le l2))
  ·exact I.ok.inj x y c m1 m2
 ·-- has
  have key:(x,NameKind.cell)∈scope.names∨(x,NameKind.free)∈scope.names:=by
   rcases hx with hx|hx
   ·obtain⟨k',e,q⟩:=Mj (env:=X.env) (show _=some NameKind.cell from hx);have m:=o8 e;rcases q with q|⟨q,_⟩
    ·exact .inl (q▸m)
    ·exact .inr (q▸m)
   ·obtain⟨k',e,q⟩:=Mj (env:=X.env) (show _=some NameKind.free from hx);have m:=o8 e;rcases q with q|⟨_,q⟩
    ·exact .inr (q▸m)
    ·cases q
  show ∃c,(cellsFrom (s.heap.objs.size+1) scope.names (iH X.env scope.names [])).lookup x=some c
  have:((cellsFrom (s.heap.objs.size+1) scope.names (iH X.env scope.names [])).lookup x).isSome=true:=by
   refine PySem.W.cellsFrom_some _ _ _ ?_;rcases key with q|q
   ·exact .inl (S.look _ q)
   ·obtain⟨c,m⟩:=Mh (env:=X.env) (names:=scope.names) (cs:=[]) (x:=x) (.inl q);obtain⟨c',e⟩:=Ni m;exact .inr (by rw[e];rfl)
  exact BF.mp this
 ·-- Bo
  rcases gz h with⟨_,_,l⟩|⟨_,k⟩
  ·exact Nat.le_of_succ_le l
  ·have e:=S.look _ k;have hf:(decide (scope.names.lookup x=some .local) || decide (scope.names.lookup x=some .cell))=true:=hf;rw[show scope.names.lookup x=some .free from e] at hf;exact absurd hf (by decide)
 ·rcases gz h with⟨_,_,l⟩|⟨q,_⟩
  ·exact pY (iN (hb b w9) (Nat.le_of_succ_le l))
  ·exact (Gm b w9).2.2.2.2.1 x c q
 ·exact oG I.ok.sS I.sz
 ·rcases (Gm b w9).2.2.2.1 with q|q
  ·exact I.ok.rN b o e q
  ·exact absurd (iN (bN e) I.ok.sS) Z1
 ·rcases bO.mp (I.kF b hs) with q|q
  ·exact (Gm b w9).2.1 q
  ·exact (Gm b w9).2.2.1 q
 ·-- names
  have hi:own<=i:=by
   refine Nat.le_of_not_lt λcb=>?_;unfold Au at h2;rw[BG (by rw[sY];exact cb),List.getElem?_replicate,aC cb] at h2;cases h2
  have iY:(fr.map λj=>(σ[j]?).join)[i - own]? = some (some v):=by
   unfold Au at h2;rw[Aw (by rw[sY];exact hi),sY] at h2;exact h2
  have h1:N[i]? = some x:=h1;have hx:(N.drop own)[i - own]? = some x:=by rw[List.getElem?_drop,show own+(i - own)=i by omega];exact h1
  rw[dU] at iY;cases ej:fr[i - own]? with
  |none=>rw[ej] at iY;cases iY
  |some j=>
   rw[ej] at iY;have iY:(σ[j]?).join=some v:=dW iY
   have se:σ[j]? = some (some v):=by
    cases q:σ[j]? with
    |none=>rw[q] at iY;cases iY
    |some o=>rw[q] at iY;exact dF some iY
   have hN:X.N[j]? = some x:=by
    have q:=dF (λl=>l[i - own]?) S.oY;simp only[dU,ej,hx,Option.map_some] at q;exact dW q
   have kf:=S.frk x (cn hx);have mf:=o8 kf;obtain⟨m,hm,hv⟩:=I.loc;have pk:=S.par _ mf Z;obtain⟨u,ru,lk⟩:=hv j x v hN se (pk.elim (λq=>.inr (.inl q)) λq=>.inr (.inr q));refine#[u,ru,?_];have Om:X.env.kindOf x=some .cell∨X.env.kindOf x=some .free:=pk;rcases lk with⟨k,_⟩|⟨_,c,hc,oo⟩
   ·rw[k] at Om;rcases Om with q|q<;>cases q
   ·obtain⟨c',m1⟩:=Mh (env:=X.env) (names:=scope.names) (cs:=[]) (x:=x) (.inl mf);have e1:=(Sz I S m1).1;rw[hc] at e1;cases e1;refine .inr #[?_,c,?_,oo.keeps kept]
    ·have q:=SJ (env:=X.env) Z kf;show (relabel scope X.env).names.lookup x=some .cell∨(relabel scope X.env).names.lookup x=some .free;unfold relabel;rw[q];split
     ·exact .inl Z
     ·exact .inr Z
    ·obtain⟨c2,e2⟩:=BF.mp (PySem.W.cellsFrom_some (x:=x) scope.names (s.heap.objs.size+1) (iH X.env scope.names []) (.inr (by obtain⟨c',e⟩:=Ni m1;rw[e];rfl)));show (cellsFrom (s.heap.objs.size+1) scope.names (iH X.env scope.names [])).lookup x=some c;rcases gz e2 with⟨_,q,_⟩|⟨q,_⟩
     ·have:=S.look _ q;rw[show scope.names.lookup x=some .free from kf] at this;cases this
     ·rw[hc] at q;cases q;exact e2
 ·-- cells
  rcases gz h with⟨q,_,_⟩|⟨q,_⟩
  ·exact#[_,(G5.empty _ _ q).1]
  ·obtain⟨v,hv⟩:=I.cell x c q;exact#[v,hv.keeps kept]
 ·rcases gz h with⟨q,_,l⟩|⟨q,_⟩
  ·exact I.aF.fresh Z1
  ·exact I.dM x c q
 ·show (Au own fr σ).length=N.length;unfold Au;rw[eF,sY,aq];exact S.len
end
def Fm(X:Cx)(ifs:List Expr)(t:TT):Prop:=
 ∀(pins:List (Addr × Obj)) (s:Ab) (σ:St) (H:Hp) (Q:Bool->Hp->Prop),Inv X pins σ H s->t σ H Q->
  wpAny (model X.prog X.w) X.A (forIn ifs true λc r=>if r=true then do let ok <- isTrue c X.env (eval c X.env);pure (ForInStep.yield ok) else pure (ForInStep.yield r)) (TP X pins σ Q) X.xe s
def ur:TT:=λ_ H Q=>Q true H
variable{σ:St}
theorem cZ{H:Hp}{A B:Hp->Prop}(h:A H):ur σ H λb H4=>if b=true then A H4 else B H4:=by
 unfold ur;exact dQ h
theorem gT:Fm X [] ur:=λ_ _ _ H _ I h=>wpAny_tests_nil #[H,I,h]
theorem Y7{c:Expr}{t:TT}(h:PT X c t):Fm X [c] t:=λpins s σ H Q I q=>wpAny_tests_one (h pins s σ H Q I q)
def zU(J:It)(g:TG)(tc:TT)(te:TE)(kA:St)(D:Addr)(H1:Hp)(Q:VK):Prop:=∃W:Nat->Nat->St->Hp->Prop,
 (∃m,W 0 m kA (upd H1 D (.lst [])))/\∀i m bf H',W i m bf H'->(J.stop i H'/\Q (.ref D) H') ∨
  (J.go i H'/\∃Nx:St->Hp->Prop,(∀fC H2,Nx fC H2->∃m',m'<m/\W (i+1) m' fC H2) /\
   ∀x H2,J.ui i H' x H2->g x bf H2 λj3 H3=>tc j3 H3 λb H4=>if b=true then te j3 H4 λy H5=>∃out,H5 D=some (.lst out)/\out.length<sizeLine/\Nx j3 (upd H5 D (.lst (out++[y]))) else Nx j3 H4)
def wj(wi:TI)(own:Nat)(fr:List Nat)(g:TG)(tc:TT)(te:TE):TE:=λσ H Q=>wi σ H λJ H1=>∀D,H1 D=none->zU J g tc te (Au own fr σ) D H1 Q
variable{Q:VK}{J:It}{D:Addr}{elt iter tg:Expr}{ifs:List Expr}{g:TG}{tc:TT}{te:TE}
theorem QC{R:Result->Ab->Prop}{pins:List (Addr × Obj)}{s2:Ab}{it:Addr}{fp:List Addr}{tn:Nat->Heap->Prop}(S:mR X.N X.env.scope N own fr scope)(hc:X.calm=true)(hg:∀fp s H,PG (gK X N scope fp s H) tg g)(ht:∀fp s H,Fm (gK X N scope fp s H) ifs tc)(he:∀fp s H,PE (gK X N scope fp s H) elt te)(I3:Inv X pins σ (upd H1 D (.lst [])) s2)(T:Turn X.prog X.w X.K tg J fp it tn)(st:tn 0 s2.heap)(f2:∀b∈fp,ck X pins (upd H1 D (.lst [])) b)(k:zU J g tc te (Au own fr σ) D H1 Q)(hR:∀H' s',Inv X pins σ H' s'->(∃m,s'.heap.Ns s2.heap.objs.size m)->H' s2.heap.objs.size=none->Q (.ref D) H'->R (.ok .next) s') :
  codeAny (model X.prog X.w) X.A (.compStart (.ListComp elt [#[tg,iter,ifs,0]] scope pos) 0 (.ref it) (.ref D) (jL scope s2.heap.objs.size X.env)) R
   { s2 with heap:=pushCells (s2.heap.push { cls:=.type "dict",data:=.dict #[] }) scope.names }:=by
 obtain⟨W,⟨m0,w0⟩,turn⟩:=k;have I4:=I3.block (N:=N) S f2 (λb hb=>let #[o,e,_]:=T.obj _ _ st b hb;#[o,e]);have kept:∀b o,s2.heap.get? b=some o->(pushCells (s2.heap.push { cls:=.type "dict",data:=.dict #[] }) scope.names).get? b=some o:=λb o e=>pushCells_keeps _ _ b o (bH _ e);have gH:tn 0 (pushCells (s2.heap.push { cls:=.type "dict",data:=.dict #[] }) scope.names):=T.keep _ _ _ st λb hb o e=>kept b o e
 have fx:∀{H':Hp},(∀b∈fp,H' b=none)->∀b∈fp,ck (gK X N scope fp s2 (upd H1 D (.lst []))) [] H' b:=λhn b hb=>
  #[hn b hb,(I4.ok.Gz b hb).1,I4.ok.sI b hb,.inl hb,(I4.ok.Gz b hb).2,λp hp=>absurd (show p∈([]:List (Addr × Obj)) from hp) Z2]
 have loop:codeAny (model X.prog X.w) X.A (.compLoop (.ListComp elt [#[tg,iter,ifs,0]] scope pos) 0 (.ref it) (.ref D) (jL scope s2.heap.objs.size X.env)) R
   { s2 with heap:=pushCells (s2.heap.push { cls:=.type "dict",data:=.dict #[] }) scope.names }:=by
  refine codeAny_loop Z (λn s'=>∃i bf H',Inv (gK X N scope fp s2 (upd H1 D (.lst []))) [] bf H' s'/\tn i s'.heap/\(∀b∈fp,H' b=none)/\W i n bf H') (λn s' hI=>?_) m0 #[0,_,_,I4,gH,λb hb=>(f2 b hb).1,w0];obtain⟨i,bf,H',I5,gc,oy,w5⟩:=hI;show wpAny _ X.A ((compTurn (.ListComp elt [#[tg,iter,ifs,0]] scope pos) 0 (.ref it) (.ref D) (jL scope s2.heap.objs.size X.env)).onRaise (λx=>do noteFrame x (jL scope s2.heap.objs.size X.env);theTreesLotGoes x)) _ _ s';refine wpAny_noted (wpAny_mono (E:=λ_ _=>False) ?_ (λ_ _ q=>q) λ_ _ q=>q.elim);rw[compTurn_list];refine aj (wpAny_standAt (aj ?_));rcases turn i n bf H' w5 with⟨stop,q⟩|⟨go,Nx,hN,step⟩
  ·refine aJ (T.done (gK X N scope fp s2 (upd H1 D (.lst []))) Z Z Z hc i [] s' bf H' _ I5 (fx oy) gc stop) λr s6 ⟨hr,I6⟩=>?_;subst hr;refine aQ (hR H' s6 (I3.EG I6.os I6.base I6.aF I6.bare λb hb=>?_) ?_ I6.free q)
   ·exact#[(f2 b hb).2.2.2.1,(f2 b hb).2.1,(f2 b hb).2.2.2.2.1,(f2 b hb).2.2.2.2.2]
   ·obtain⟨m,hm,_⟩:=I6.loc;exact#[m,hm]
  ·refine aJ (T.item (gK X N scope fp s2 (upd H1 D (.lst []))) Z Z Z hc i [] s' bf H' _ I5 (fx oy) gc go) λr s6 ⟨u,hr,h6⟩=>?_;subst hr;refine aj (aJ h6 λ_ s7 ⟨x,H7,I7,r7,y7,qm,fr7⟩=>?_);have I7':=I7.pinned (fx fr7) (T.obj _ _ qm)
   have back:∀{tx:St} {H8:Hp} {s8:Ab},Inv (gK X N scope fp s2 (upd H1 D (.lst []))) ([]++vB fp s7.heap) tx H8 s8->Nx tx H8->∃m,m<n/\∃i bf H',Inv (gK X N scope fp s2 (upd H1 D (.lst []))) [] bf H' s8/\tn i s8.heap/\(∀b∈fp,H' b=none)/\W i m bf H':=λ{tx H8 s8} I8 n8=>by
    obtain⟨m',hm,w8⟩:=hN tx H8 n8;refine#[m',hm,i+1,tx,H8,I8.d7,T.keep _ _ _ qm λb hb o e=>(I8.pin (b,o) (mO _ (mO _ (Hw hb e)))).1,λb hb=>?_,w8];obtain⟨o,e,d⟩:=T.obj _ _ qm b hb;exact (I8.pin (b,o) (mO _ (mO _ (Hw hb e)))).2.1
   refine aj (aJ (hg fp s2 (upd H1 D (.lst [])) _ s7 bf H7 x u _ I7' r7 (step x H7 y7)) λ_ s8 ⟨tx,H8,I8,q8⟩=>?_);refine aj (aJ (ht fp s2 (upd H1 D (.lst [])) _ s8 tx H8 _ I8 q8) λb s9 ⟨H9,I9,q9⟩=>?_);cases b with
   |false=>
    simp only[iM,if_false] at q9 ⊢;exact aQ #[Z,back I9 q9]
   |true=>
    simp only[if_true] at q9 ⊢;refine aj (aj (aJ (he fp s2 (upd H1 D (.lst [])) _ s9 tx H9 _ I9 q9) λy IV ⟨yv,xF,I10,Vr,out,hD,hz,Vu⟩=>?_));refine aj (aJ (vA (X:=gK X N scope fp s2 (upd H1 D (.lst []))) _ IV tx xF (.ref D) [yv] (.ref D) [y] (λ_ H'=>Nx tx H') I10 Z (.cons Vr .nil) #[D,out,yv,Z,Z,hD,hz,Vu]) λ_ wA ⟨_,H11,I11,_,Vt⟩=>?_);exact aQ (aQ #[Z,back I11 Vt])
 exact codeAny_compStart_list loop (T.self _ 0 _ _ _ gH loop)
variable{wi:TI}
theorem iP(N:List Str)(own:Nat)(fr:List Nat)(hi:PI X tg iter wi)(hg:∀fp s H,PG (gK X N scope fp s H) tg g)(ht:∀fp s H,Fm (gK X N scope fp s H) ifs tc)(he:∀fp s H,PE (gK X N scope fp s H) elt te)
  (S:Hk X.N X.env.scope N own fr scope=true:=by kernel_rfl) (hc:X.calm=true:=by rfl) (hs:∀x,foldedSetIterable iter X.env x=pure x:=by intro _;rfl) :
  PE X (.ListComp elt [#[tg,iter,ifs,0]] scope pos) (wj wi own fr g tc te):=by
 intro pins s σ H Q I h;have S':=mR.of S;rw[eval_ListComp];have sF:closureFor scope X.env=pure (iH X.env scope.names []):=Tf λx hx e=>I.ok.has x.1 (S'.par x hx e);refine wpAny_comprehension_free (use:=none) Z hs sF S'.kind (λx hx e=>by rw[S'.look x hx,e]) (aJ (hi pins s σ H _ I h) λv s1 h1=>aJ h1 λF9 s2 h2=>?_);obtain⟨it,fp,tn,J,H1,rfl,I2,T,d_,f2,k⟩:=h2;refine wpAny_newObj_type (Te ?_);have hD:H1 s2.heap.objs.size=none:=I2.fresh;have I3:=I2.uS (ys:=[]) (its:=[]) (t':=s2.toks) .nil (fB _);have kept:∀b o,s2.heap.get? b=some o->(s2.heap.push { cls:=.type "list",data:=.seq ([]:List Aa).toArray }).get? b=some o:=λb o e=>bH _ e;refine QC (own:=own) (fr:=fr) (Q:=Q) S' hc hg ht he I3 T (T.keep _ _ _ d_ λb hb o e=>kept b o e) (λb hb=>?_) (k _ hD) ?_
 ·refine#[?_,(f2 b hb).2];obtain⟨o,e,_⟩:=T.obj _ _ d_ b hb;rw[ax (dc (bN e))];exact (f2 b hb).1
 ·rintro H' s' I' ⟨m,hm⟩ hn q;refine#[m,hm,λh' j8=>#[.ref s2.heap.objs.size,H',?_,Z,q]]
  exact I'.turned (t':=s'.toks) (λb o hb e=>j8.extBut b o hb e) hn (pY I3.lt) (.inr I3.sz) (λx c Kz e=>by
   obtain⟨v,hv⟩:=I3.cell x c Kz
   exact absurd hv.lt (by rw[e];exact vN _)) λp hp e=>by
    have:=(I3.pin p hp).1;rw[e] at this;exact absurd (bN this) (vN _)
def B9(i:Nat)(te:TE):TS:=λD σ H=>te σ H λx H1=>D.nx (σ.set i (some x)) H1
theorem GP{i:Nat}{x:Str}{px:Pos}(N:List Str)(own:Nat)(fr:List Nat)(hN:X.N.Nodup)(hi':X.N[i]? = some x)(hx:Loc X.env.scope x)
  (hi:PI X tg iter wi) (hg:∀fp s H,PG (gK X N scope fp s H) tg g) (ht:∀fp s H,Fm (gK X N scope fp s H) ifs tc) (he:∀fp s H,PE (gK X N scope fp s H) elt te) {pos':Pos}
  (S:Hk X.N X.env.scope N own fr scope=true:=by kernel_rfl) (hc:X.calm=true:=by rfl) (hs:∀x,foldedSetIterable iter X.env x=pure x:=by intro _;rfl)
  (hf:X.fn x=true∨X.env.scope.names.lookup x=some .local:=by first|exact .inl Z|exact .inr Z|assumption)
  (_Z:swapsWith (.ListComp elt [#[tg,iter,ifs,0]] scope pos) (some (.Name x px)) pos'.line X.env=pure true:=by rfl) :
  PS X (.Assign [.Name x px] (.ListComp elt [#[tg,iter,ifs,0]] scope pos) pos') (B9 i (wj wi own fr g tc te)):=by
 intro pins s σ H E I h;have S':=mR.of S;rw[exec_Assign_Name_used _ _ _ _ _Z];refine aj (wpAny_standAt (aj ?_));show wpAny _ X.A (do let _ <- comprehension (.ListComp elt [#[tg,iter,ifs,0]] scope pos) scope X.env _ (newList []) false (eval iter X.env) (some (assign (.Name x px) X.env))) _ _ s;have sF:closureFor scope X.env=pure (iH X.env scope.names []):=Tf λx hx e=>I.ok.has x.1 (S'.par x hx e)
 refine aj (wpAny_mono (wpAny_comprehension_free (use:=some (assign (.Name x px) X.env)) (Q:=λ_ s'=>SP X pins E .next s') Z hs sF S'.kind (λx hx e=>by rw[S'.look x hx,e]) (aJ (hi pins s σ H _ I h) λv s1 h1=>aJ h1 λF9 s2 h2=>?_))
  (λ_ s' hq=>aQ (aQ hq)) λ_ _ e=>e)
 obtain⟨it,fp,tn,J,H1,rfl,I2,T,d_,f2,k⟩:=h2;refine wpAny_newObj_type (Te ?_);have hD:H1 s2.heap.objs.size=none:=I2.fresh;have I3:=I2.uS (ys:=[]) (its:=[]) (t':=s2.toks) .nil (fB _);have kept:∀b o,s2.heap.get? b=some o->(s2.heap.push { cls:=.type "list",data:=.seq ([]:List Aa).toArray }).get? b=some o:=λb o e=>bH _ e;refine QC (own:=own) (fr:=fr) (Q:=λx H1=>E.nx (σ.set i (some x)) H1) S' hc hg ht he I3 T (T.keep _ _ _ d_ λb hb o e=>kept b o e) (λb hb=>?_) (k _ hD) ?_
 ·refine#[?_,(f2 b hb).2];obtain⟨o,e,_⟩:=T.obj _ _ d_ b hb;rw[ax (dc (bN e))];exact (f2 b hb).1
 ·rintro H' s' I' ⟨m,hm⟩ hn q
  have tN:∀y c,X.env.cells.lookup y=some c->c≠(s2.heap.push { cls:=.type "list",data:=.seq ([]:List Aa).toArray }).objs.size:=λy c Kz e=>by
   obtain⟨v,hv⟩:=I3.cell y c Kz;exact absurd hv.lt (by rw[e];exact vN _)
  show wpAny _ X.A (assign (.Name x px) X.env (.ref s2.heap.objs.size)) _ _ s';refine wpAny_assign_Name (Sn (v:=V.ref s2.heap.objs.size) I' hN hi' hx Z (λpE I'' ⟨a,pI,ha⟩=>?_) hf)
  have hCa:(s2.heap.push { cls:=.type "list",data:=.seq ([]:List Aa).toArray }).objs.size≠a:=by
   rcases ha with e|e
   ·rw[e];exact pY I3.lt
   ·exact (tN x a e).symm
  refine#[m,hm.sameBut pI hCa,λh' j8=>#[_,H',?_,q]]
  exact I''.turned (t':=pE.toks) (λb o hb e=>j8.extBut b o hb e) hn (pY I3.lt) (.inr I3.sz) tN λp hp e=>by
    have:=(I3.pin p hp).1;rw[e] at this;exact absurd (bN this) (vN _)
def AD(g:TG)(own:Nat)(fv:List (Option V))(dec:V->Hp->List (Option V)->Prop):Prop:=
 ∀(x:V) (o:List (Option V)) (H:Hp) (k:St->Hp->Prop) (o3:List (Option V)),o.length=own->dec x H o3->k (o3++fv) H->g x (o++fv) H k
variable{fv:List (Option V)}
theorem eD:AD (mE 0) 1 fv (λx _ o3=>o3=[some x]):=λx o H k o3 hl e h=>by
 subst e
 match o,hl with
 |[a],_=>exact h
inductive Ex (K:ag) (x:V) (H:Hp) (o3:List (Option V)):Prop
 |mk:∀p u v,x=.ref p->fe K H p [u,v]->o3=[some u,some v]->Ex K x H o3
inductive Ew (K:ag) (x:V) (H:Hp) (o3:List (Option V)):Prop
 |mk:∀p u v w,x=.ref p->fe K H p [u,v,w]->o3=[some u,some v,some w]->Ew K x H o3
variable{K:ag}
theorem zw:AD (hE K 2 (tT (mE 0) (tT (mE 1) vg))) 2 fv (Ex K):=λx o H k o3 hl e h=>by
 obtain⟨p,u,v,rfl,hp,rfl⟩:=e
 match o,hl with
 |[a,b],_=>exact#[p,[u,v],Z,hp,Z,u,[v],Z,v,[],Z,Z,h]
theorem Ec:AD (hE K 3 (tT (mE 0) (tT (mE 1) (tT (mE 2) vg)))) 3 fv (Ew K):=λx o H k o3 hl e h=>by
 obtain⟨p,u,v,w,rfl,hp,rfl⟩:=e
 match o,hl with
 |[a,b,c],_=>exact#[p,[u,v,w],Z,hp,Z,u,[v,w],Z,v,[w],Z,w,[],Z,Z,h]
variable{H:Hp}{dec:V->Hp->List (Option V)->Prop}{kA:St}
theorem xw(se:kA=List.replicate own none++fv)(G:AD g own fv dec)(n:Nat)(Pv:Nat->List V->Hp->Prop)(h0:Pv 0 [] (upd H D (.lst [])))(DC:∀out H',Pv n out H'->J.stop n H'/\Q (.ref D) H')(zo:∀i out H',i<n->Pv i out H'->J.go i H'/\∀x H2,J.ui i H' x H2->∃o3,dec x H2 o3/\o3.length=own/\∀Nx:Hp->Prop,(∀iA H2,Pv (i+1) iA H2->Nx H2)->
   tc (o3++fv) H2 λb H4=>if b=true then te (o3++fv) H4 λy H5=>∃eh,H5 D=some (.lst eh)/\eh.length<sizeLine/\Nx (upd H5 D (.lst (eh++[y]))) else Nx H4) :
  zU J g tc te kA D H Q:=by
 subst se;refine#[λi m bf H'=>m=n - i/\i<=n/\(∃o:List (Option V),bf=o++fv/\o.length=own)/\∃out,Pv i out H',#[n,by simp,fB _,#[_,Z,sY],_,h0],?_];rintro i m bf H' ⟨rfl,hi,⟨o,rfl,ho⟩,out,p⟩;by_cases cb:i<n
 ·obtain⟨go,k⟩:=zo i out H' cb p;refine .inr #[go,λfC H2=>(∃o:List (Option V),fC=o++fv/\o.length=own)/\∃out,Pv (i+1) out H2,λfC H2 q=>#[n - (i+1),by omega,Z,cb,q],λx H2 y=>?_];obtain⟨o3,d,l3,q⟩:=k x H2 y;exact G x o H2 _ o3 ho d (q (λH2=>(∃o:List (Option V),o3++fv=o++fv/\o.length=own)/\∃out,Pv (i+1) out H2) λiA H2 z=>#[#[o3,Z,l3],iA,z])
 ·have e:i=n:=by omega
  subst e;exact .inl (DC out H' p)
theorem mK{a:Addr}{xs:List V}(se:kA=List.replicate own none++fv)(G:AD g own fv dec)(Pv:Nat->List V->Hp->Prop)(h0:Pv 0 [] (upd H D (.lst [])))(hl:∀i out H',i<=xs.length->Pv i out H'->dB K H' a xs)(hd:∀out H',Pv xs.length out H'->Q (.ref D) H')(zo:∀i x out H',xs[i]? = some x->Pv i out H'->∃o3,dec x H' o3/\o3.length=own/\∀Nx:Hp->Prop,(∀iA H2,Pv (i+1) iA H2->Nx H2)->
   tc (o3++fv) H' λb H4=>if b=true then te (o3++fv) H4 λy H5=>∃eh,H5 D=some (.lst eh)/\eh.length<sizeLine/\Nx (upd H5 D (.lst (eh++[y]))) else Nx H4) :
  zU (AC K a) g tc te kA D H Q:=by
 refine xw se G xs.length Pv h0 (λout H' p=>#[#[xs,hl _ _ _ (aZ _) p,aZ _],hd out H' p]) λi out H' hi p=>?_;have q:=hl i out H' (Nat.le_of_lt hi) p;refine#[#[xs,xs[i],q,by simp[hi]],λx H2 y=>?_];obtain⟨e,y⟩:=y;subst e;exact zo i x out _ (y xs q) p
end L2
namespace Fu
open PySem PySem.W PyProof.Rows
def Ok{α:Type}(f:Nat->Nat->Bool)(n:Nat):KasT α->(α->Prop)->Prop
 |.ret a,Q=>Q a
 |.ask i j k,Q=>i<n/\j<n/\Ok f n (k (f i j)) Q
theorem Ok.bind{α β:Type}{f:Nat->Nat->Bool}{n:Nat}{g:α->KasT β}{Q:β->Prop}:∀{t:KasT α} {R:α->Prop},Ok f n t R->(∀a,R a->Ok f n (g a) Q)->Ok f n (t.bind g) Q
 |.ret a,R,h,k=>k a h
 |.ask i j t,R,h,k=>#[h.1,h.2.1,Ok.bind h.2.2 k]
theorem Ok.imp{α:Type}{f:Nat->Nat->Bool}{n:Nat}{Q R:α->Prop}(k:∀a,Q a->R a):∀{t:KasT α},Ok f n t Q->Ok f n t R
 |.ret a,h=>k a h
 |.ask i j t,h=>#[h.1,h.2.1,Ok.imp k h.2.2]
theorem Ok.wp{α:Type}{f:Nat->Nat->Bool}{n:Nat}{cmp:Nat->Nat->(Bool->Ab->Prop)->Ab->Prop}{s:Ab}(hc:∀i j C,i<n->j<n->C (f i j) s->cmp i j C s){Q:α->Prop}{G:α->Ab->Prop}(k:∀a,Q a->G a s) :
  ∀{t:KasT α},Ok f n t Q->t.kasWp cmp G s
 |.ret a,h=>k a h
 |.ask i j t,h=>hc i j _ h.1 h.2.1 (Ok.wp hc k h.2.2)
structure Ord (f:Nat->Nat->Bool):Prop where
 eO:∀i,f i i=false
 trans:∀{i j k},f j i=false->f k j=false->f k i=false
 FB:∀{i j},f i j=true->f j i=false
variable{p:Array Nat}
variable{i j:Nat}
variable{k:Nat}
variable{n:Nat}
variable{cQ:Nat}
section
variable{f:Nat->Nat->Bool}(O:Ord f){N:Nat}
abbrev at'(p:Array Nat)(i:Nat):Nat:=p.getD i 0
def Up(f:Nat->Nat->Bool)(p:Array Nat)(k:Nat):Prop:=∀i j,i<=j->j<k->f (at' p j) (at' p i)=false
def Down(f:Nat->Nat->Bool)(p:Array Nat)(k:Nat):Prop:=∀i j,i<=j->j<k->f (at' p i) (at' p j)=false
def pB(f:Nat->Nat->Bool)(p:Array Nat)(lo k:Nat):Prop:=∀i,lo<=i->i<k->f (at' p i) (at' p (k - 1))=false/\f (at' p (k - 1)) (at' p i)=false
def Good(N:Nat)(p:Array Nat):Prop:=p.Perm (List.range N).toArray
theorem Good.size(h:Good N p):p.size=N:=by
 have:=h.size_eq;simpa using this
theorem Good.lt(h:Good N p)(hN:0<N)(i:Nat):at' p i<N:=by
 unfold at';by_cases hi:i<p.size
 ·have e:p.getD i 0=p[i]:=by simp[Array.getD,hi]
  rw[e];have m:p[i]∈(List.range N).toArray:=h.mem_iff.mp (Array.getElem_mem hi);simpa using m
 ·have e:p.getD i 0=0:=by simp[Array.getD,hi]
  rw[e];exact hN
theorem Good.rev(h:Good N p)(i j:Nat):Good N (kas_rev p i j):=(mirror_perm _ _ _ _).trans h
theorem Good.bub(h:Good N p)(i j:Nat):Good N (bubble p i j):=(bubble_perm _ _ _).trans h
theorem EU{q:Array Nat}(h:p[i]? = q[j]?):at' p i=at' q j:=by
 unfold at';rw[Array.getD_eq_getD_getElem?,Array.getD_eq_getD_getElem?,h]
theorem z_(hj:j<=p.size)(k:Nat):at' (kas_rev p i j) k=if i<=k/\k<j then at' p (i+j - 1 - k) else at' p k:=by
 have e:=getElem?_mirror_all (i:=i) hj k;unfold kas_rev;split
 ·rename_i c
  rw[aC c] at e;exact EU e
 ·rename_i c
  rw[ao c] at e;exact EU e
theorem O9{l:Nat}(hk:k<p.size)(hl:l<=k)(i:Nat):at' (bubble p k (k - l)) i=if i=l then at' p k else if l<i/\i<=k then at' p (i - 1) else at' p i:=by
 have e:=getElem?_bubble hk (k - l) Z1 i;rw[show k - (k - l)=l by omega] at e;by_cases c:i=l
 ·rw[aC c] at e ⊢;exact EU e
 ·rw[ao c] at e ⊢;split
  ·rename_i d
   rw[aC d] at e;exact EU e
  ·rename_i d
   rw[ao d] at e;exact EU e
include O
theorem Up.more(h:Up f p n)(h1:1<=n)(c:f (at' p n) (at' p (n - 1))=false):Up f p (n+1):=λi j ma hj=>by
 by_cases e:j<n
 ·exact h i j ma e
 ·have e:j=n:=by omega
  subst e;by_cases e2:i=j
  ·subst e2;exact O.eO _
  ·exact O.trans (h i (j - 1) Z1 Z1) c
theorem Down.more(h:Down f p n)(h1:1<=n)(c:f (at' p (n - 1)) (at' p n)=false):Down f p (n+1):=λi j ma hj=>by
 by_cases e:j<n
 ·exact h i j ma e
 ·have e:j=n:=by omega
  subst e;by_cases e2:i=j
  ·subst e2;exact O.eO _
  ·exact O.trans c (h i (j - 1) Z1 Z1)
theorem J9{p:Array Nat}(g:Good N p)(hN:0<N):∀(m n:Nat),1<=n->Up f p n->Ok f N (kas_asc p m n) λr=>n<=r/\r<=n+m/\Up f p r/\(r<n+m->f (at' p r) (at' p (r - 1))=true)
 |0,n,_,h=>#[aZ _,aZ _,h,λq=>absurd q Z1]
 |m+1,n,h1,h=>by
  refine#[g.lt hN _,g.lt hN _,?_];dsimp only;by_cases c:f (at' p n) (at' p (n - 1))=true
  ·rw[aC c];exact#[aZ _,by omega,h,λ_=>c]
  ·rw[ao c];refine (J9 g hN m (n+1) Z1 (h.more O h1 (by simpa using c))).imp λr ⟨a,b,u,z⟩=>#[by omega,by omega,u,λq=>z Z1]
theorem pB.rev{lo:Nat}(h:pB f p lo k)(hk:k<=p.size)(i:Nat):f (at' (kas_rev p lo k) i) (at' p i)=false/\f (at' p i) (at' (kas_rev p lo k) i)=false:=by
 rw[z_ hk];split
 ·rename_i c
  obtain⟨a1,a2⟩:=h i c.1 c.2;obtain⟨b1,b2⟩:=h (lo+k - 1 - i) Z1 Z1;exact#[O.trans a2 b1,O.trans b2 a1]
 ·exact#[O.eO _,O.eO _]
theorem Down.rev{lo:Nat}(h:Down f p n)(l:pB f p lo k)(hk:k<=p.size):Down f (kas_rev p lo k) n:=λi j ma hj=>by
 obtain⟨a1,_⟩:=l.rev O hk i;obtain⟨_,b2⟩:=l.rev O hk j;exact O.trans (O.trans b2 (h i j ma hj)) a1
theorem GG(hN:0<N):∀(m:Nat) (p:Array Nat) (n q:Nat),Good N p->1<=n->q+1<=n->n+m<=N->Down f p n->pB f p (n - (q+1)) n->
  Ok f N (kas_desc m p n q) λr=>Good N r.1/\n<=r.2.1/\r.2.1<=n+m/\Down f r.1 r.2.1/\r.2.2+1<=r.2.1/\pB f r.1 (r.2.1 - (r.2.2+1)) r.2.1
 |0,p,n,q,g,h1,hq,hn,d,l=>#[g,aZ _,aZ _,d,hq,l]
 |m+1,p,n,q,g,h1,hq,hn,d,l=>by
  refine#[g.lt hN _,g.lt hN _,?_];dsimp only;by_cases c:f (at' p n) (at' p (n - 1))=true
  ·rw[aC c];have d2:Down f p (n+1):=d.more O h1 (O.FB c)
   have one:∀p':Array Nat,pB f p' (n+1 - (0+1)) (n+1):=λp' i h2 h3=>by
    have e:i=n+1 - 1:=by omega
    subst e;exact#[O.eO _,O.eO _]
   by_cases PD:q > 0
   ·rw[aC PD];have hk:n<=p.size:=by rw[g.size];omega
    exact (GG hN m _ (n+1) 0 (g.rev _ _) Z1 Z1 Z1 (d2.rev O l hk) (one _)).imp λr ⟨a,b,b2,z⟩=>#[a,by omega,by omega,z]
   ·rw[ao PD];exact (GG hN m _ (n+1) 0 g Z1 Z1 Z1 d2 (one _)).imp λr ⟨a,b,b2,z⟩=>#[a,by omega,by omega,z]
  ·rw[ao c];refine#[g.lt hN _,g.lt hN _,?_];dsimp only;have c:f (at' p n) (at' p (n - 1))=false:=by simpa using c
   by_cases e:f (at' p (n - 1)) (at' p n)=true
   ·rw[aC e];exact#[g,aZ _,by show n<=n+(m+1);omega,d,hq,l]
   ·rw[ao e];have e:f (at' p (n - 1)) (at' p n)=false:=by simpa using e
    refine (GG hN m p (n+1) (q+1) g Z1 Z1 Z1 (d.more O h1 e) λi h2 h3=>?_).imp λr ⟨a,b,b2,z⟩=>#[a,by omega,by omega,z];show f (at' p i) (at' p n)=false/\f (at' p n) (at' p i)=false;by_cases ei:i=n
    ·subst ei;exact#[O.eO _,O.eO _]
    ·obtain⟨a1,a2⟩:=l i Z1 Z1;exact#[O.trans e a1,O.trans a2 c]
def LG(f:Nat->Nat->Bool)(N cQ:Nat)(r:Nat × Array Nat):Prop:=Good N r.2/\1<=r.1/\r.1<=cQ/\Up f r.2 r.1
theorem Qu(hN:0<N)(g:Good N p)(h1:1<=n)(hn:n<=cQ)(hr:cQ<=N)(d:Down f p n):Ok f N (kas_tail3 n cQ p) (LG f N cQ):=by
 unfold kas_tail3
 have u:Up f (kas_rev p 0 n) n:=λi j ma hj=>by
  rw[z_ (by rw[g.size];omega),z_ (by rw[g.size];omega),aC Z1,aC Z1];exact d _ _ Z1 Z1
 exact (J9 O (g.rev _ _) hN (cQ - n) n h1 u).bind λm ⟨a,b,u,_⟩=>#[g.rev _ _,by show 1<=m;omega,by show m<=cQ;omega,u]
theorem S8(hN:0<N)(g:Good N p)(hn:n+1<=cQ)(hr:cQ<=N)(d:Down f p (n+1)):Ok f N (kas_descPart n cQ p) (LG f N cQ):=by
 unfold kas_descPart;refine (GG O hN (cQ - (n+1)) p (n+1) 0 g Z1 Z1 Z1 d λi h2 h3=>?_).bind λr ⟨g',a,b,d',hq,l⟩=>?_
 ·have e:i=n+1 - 1:=by omega
  subst e;exact#[O.eO _,O.eO _]
 ·split
  ·exact Qu O hN (g'.rev _ _) Z1 Z1 hr (d'.rev O l (by rw[g'.size];omega))
  ·exact Qu O hN g' Z1 Z1 hr d'
theorem ZV(hN:0<N)(g:Good N p)(h1:1<=cQ)(hr:cQ<=N):Ok f N (kas_count cQ p) (LG f N cQ):=by
 unfold kas_count;refine (J9 O g hN (cQ - 1) 1 (aZ _) λi j ma hj=>?_).bind λn ⟨a,b,u,st⟩=>?_
 ·have e:i=j:=by omega
  subst e;exact O.eO _
 ·by_cases e:(n == cQ)=true
  ·rw[aC e];exact#[g,a,by show n<=cQ;omega,u]
  ·rw[ao e];have e:n≠cQ:=by simpa using e
   have c:=st Z1;by_cases h2:n > 1
   ·rw[aC h2];refine#[g.lt hN _,g.lt hN _,?_];dsimp only;by_cases c2:f (at' p 0) (at' p (n - 1))=true
    ·rw[aC c2];exact#[g,a,by show n<=cQ;omega,u]
    ·rw[ao c2];have c2:f (at' p 0) (at' p (n - 1))=false:=by simpa using c2
     refine S8 O hN (g.rev _ _) Z1 hr λi j ma hj=>?_;by_cases ej:j<n
     ·rw[z_ (by rw[g.size];omega),z_ (by rw[g.size];omega),aC Z1,aC Z1];exact u _ _ Z1 Z1
     ·have ej:j=n:=by omega
      subst ej;by_cases ei:i=j
      ·subst ei;exact O.eO _
      ·rw[z_ (by rw[g.size];omega),z_ (by rw[g.size];omega),aC Z1,ao Z1];exact O.trans (O.trans (O.FB c) c2) (u 0 _ Z1 Z1)
   ·rw[ao h2];have e1:n=1:=by omega
    subst e1;refine S8 O hN g Z1 hr λi j ma hj=>?_;by_cases ei:i=j
    ·subst ei;exact O.eO _
    ·have q1:i=0:=by omega
     have q2:j=1:=by omega
     subst q1;subst q2;exact O.FB c
theorem Lr(hN:0<N){p:Array Nat}{k:Nat}(g:Good N p)(u:Up f p k):∀(m l r:Nat),r - l<=m->l<=r->r<=k->(∀i,i<l->f (at' p k) (at' p i)=false)->(∀i,r<=i->i<k->f (at' p k) (at' p i)=true)->
  Ok f N (kas_place p k m l r) λx=>x<=k/\(∀i,i<x->f (at' p k) (at' p i)=false)/\∀i,x<=i->i<k->f (at' p k) (at' p i)=true
 |0,l,r,hm,hl,hr,h1,h2=>by
  have e:l=r:=by omega
  subst e;exact#[hr,h1,h2]
 |m+1,l,r,hm,hl,hr,h1,h2=>by
  unfold kas_place;by_cases e:l ≥ r
  ·rw[aC e];have e:l=r:=by omega
   subst e;exact#[hr,h1,h2]
  ·rw[ao e];refine#[g.lt hN _,g.lt hN _,?_];dsimp only;by_cases c:f (at' p k) (at' p ((l+r) / 2))=true
   ·rw[aC c];refine Lr hN g u m l _ Z1 Z1 Z1 h1 λi h3 h4=>?_;by_cases ei:f (at' p k) (at' p i)=true
    ·exact ei
    ·have ei:f (at' p k) (at' p i)=false:=by simpa using ei
     have:=O.trans (u _ i h3 h4) ei;rw[c] at this;cases this
   ·rw[ao c];have c:f (at' p k) (at' p ((l+r) / 2))=false:=by simpa using c
    exact Lr hN g u m _ r Z1 Z1 hr (λi h3=>O.trans (u i _ Z1 Z1) c) h2
theorem O_(hN:0<N):∀(m:Nat) (p:Array Nat) (k:Nat),Good N p->k+m=N->Up f p k->Ok f N (kas_bin m p k) λr=>Good N r/\Up f r N
 |0,p,k,g,e,u=>by
  have e:k=N:=by omega
  subst e;exact#[g,u]
 |m+1,p,k,g,e,u=>by
  unfold kas_bin;refine (Lr O hN g u k 0 k Z1 Z1 (aZ _) (λi h=>absurd h Z1) λi h1 h2=>absurd h2 Z1).bind λl ⟨hl,h1,h2⟩=>?_;have hk:k<p.size:=by rw[g.size];omega
  refine O_ hN m _ (k+1) (g.bub _ _) Z1 λi j ma hj=>?_;rw[O9 hk hl,O9 hk hl];by_cases ej:j=l
  ·rw[aC ej];by_cases ei:i=l
   ·rw[aC ei];exact O.eO _
   ·rw[ao ei,ao Z1];exact h1 i Z1
  ·rw[ao ej];by_cases RC:l<j/\j<=k
   ·rw[aC RC];by_cases ei:i=l
    ·rw[aC ei];exact O.FB (h2 (j - 1) Z1 Z1)
    ·rw[ao ei];by_cases RE:l<i/\i<=k
     ·rw[aC RE];exact u _ _ Z1 Z1
     ·rw[ao RE];exact u _ _ Z1 Z1
   ·rw[ao RC];rw[ao (show ¬i=l by omega),ao (show ¬(l<i/\i<=k) by omega)];exact u _ _ Z1 Z1
theorem QJ(hN:0<N):Ok f N (kas_sort N) λp=>Good N p/\Up f p N:=by
 unfold kas_sort;refine (ZV O hN (p:=(List.range N).toArray) (Array.Perm.refl _) hN (aZ _)).bind λr ⟨g,h1,h2,u⟩=>?_;split
 ·rename_i c
  rw[show max r.1 1=r.1 by omega];exact O_ O hN _ _ _ g Z1 u
 ·rename_i c
  have e:r.1=N:=by omega
  exact#[g,e▸u]
end
def vT(prog:Ad)(w:Af)(A:Ag)(f:Nat->Nat->Bool)(vs:List Aa)(s:Ab):Prop:=
 ∃κ,(∀Q:SortKind->Ab->Prop,Q κ s->wpAny (model prog w) A (keyKind' vs.toArray) Q (λ_ _=>False) s)/\∀i j C,i<vs.length->j<vs.length->C (f i j) s->kas_ask prog w A κ vs i j C s
def EA(a:Addr)(h h':Heap):Prop:=∀b o,b≠a->h.get? b=some o->h'.get? b=some o
def mC(p:Array Nat)(vs:List Aa):List Aa:=p.toList.map λi=>vs.getD i Value.none
theorem SH(vs:List Aa):mC (List.range vs.length).toArray vs=vs:=by
 unfold mC;apply List.ext_getElem?;intro i;simp only[dU];by_cases h:i<vs.length
 ·simp[h]
 ·simp[Nat.le_of_not_lt h]
variable{f:Nat->Nat->Bool}{prog:Ad}{w:Af}{A:Ag}{E:Aa->Ab->Prop}{s:Ab}
theorem _u{a:Addr}{vs:List Aa}{P:Fin->Ab->Prop}(O:Ord f)(ho:s.heap.get? a=some (seqObj "list" vs.toArray n))(cg:vs.length<64)(zv:2<=vs.length->∀h',EA a s.heap h'->vT prog w A f vs { s with heap:=h' })(h:∀(p:Array Nat) (h':Heap) (e:Nat),Good vs.length p->Up f p vs.length->h'.get? a=some (seqObj "list" (mC p vs).toArray e)->EA a s.heap h'->P (.done (.ret .none)) { s with heap:=h' }) :
  wpAny (model prog w) A (Builtin.«list.sort» #[[.ref a],[]]) P E s:=by
 have haz:a<s.heap.objs.size:=bN ho;obtain⟨e1,AY⟩:∃e1,(s.heap.update a (Obj.mapSeq λ_=>(#[]:Array Aa))).get? a=some (seqObj "list" #[] e1):=#[_,get?_update_seq ho (λ_=>#[])]
 have F6:vs.length<=sizeLine:=by
  have:=bU;omega
 rw[list_sort_plain];refine aj (listItems_at ho Z (aj (listUpdate_at ho Z (aj (seqEpoch_at AY Z (aj (wpAny_newTuple (aj (wpAny_newList (gO ?_) (fB _))) F6)))) (by simpa using F6) (fB _))))
 have keep:∀g:Array Aa->Array Aa,EA a s.heap ((((s.heap.update a (Obj.mapSeq λ_=>(#[]:Array Aa))).push (seqObj "tuple" vs.toArray 0)).push (seqObj "list" #[] 0)).update a (Obj.mapSeq g)):=λg b o hb e=>by
  refine (tP _ _ (Ne.symm hb)).trans (bH _ (bH _ ?_));exact (tP _ _ (Ne.symm hb)).trans e
 have Di:EA a s.heap (((s.heap.update a (Obj.mapSeq λ_=>(#[]:Array Aa))).push (seqObj "tuple" vs.toArray 0)).push (seqObj "list" #[] 0)):=λb o hb e=>
  bH _ (bH _ ((tP _ _ (Ne.symm hb)).trans e))
 have AX:(((s.heap.update a (Obj.mapSeq λ_=>(#[]:Array Aa))).push (seqObj "tuple" vs.toArray 0)).push (seqObj "list" #[] 0)).get? a=some (seqObj "list" #[] e1):=bH _ (bH _ AY);show wpAny (model prog w) A _ P E { s with heap:=((s.heap.update a (Obj.mapSeq λ_=>(#[]:Array Aa))).push (seqObj "tuple" vs.toArray 0)).push (seqObj "list" #[] 0) };dsimp only;by_cases h2:vs.toArray.size<2
 ·rw[aC h2,aC h2];refine aj (aQ ?_);rw[StateT.run_pure]
  have vm:((vs.toArray.zip vs.toArray).map λx:Keyed=>x.2)=(mC (List.range vs.length).toArray vs).toArray:=by
   rw[SH];apply Array.ext';simp[List.map_snd_zip]
  refine aj (aQ (aj (seqEpoch_at AX Z (aj (listUpdate_at AX Z ?_ (fB _) ?_)))))
  ·simp only[bne_self_eq_false,iM,if_false];refine aQ (h (List.range vs.length).toArray _ _ (Array.Perm.refl _) (λi j ma hj=>?_) ((get?_update_seq AX _).trans (dF (λz=>some (seqObj "list" z _)) vm)) (keep _))
   ·have e:i=j:=by
     simp only[cE] at h2;omega
    subst e;exact O.eO _
  ·have e:((vs.toArray.zip vs.toArray).map λx:Keyed=>x.2).size<=sizeLine+1:=by
    simp only[Array.size_map,Array.size_zip,cE];omega
   exact e
 ·rw[ao h2,ao h2]
  have iY:2<=vs.length:=by
   simp only[cE] at h2;omega
  obtain⟨κ,hk,hc⟩:=zv iY _ Di;refine aj (wpAny_mono (hk (λk s'=>k=κ/\s'=_) #[Z,Z]) (λk s' DT=>?_) λ_ _ x=>x.elim);obtain⟨rfl,rfl⟩:=DT
  refine aj (wpAny_mono (kat_run (ks:=vs) (vs:=vs) (G:=λp s'=>s'={ s with heap:=((s.heap.update a (Obj.mapSeq λ_=>(#[]:Array Aa))).push (seqObj "tuple" vs.toArray 0)).push (seqObj "list" #[] 0) }/\Good vs.length p/\Up f p vs.length)
   (Q:=λdY s'=>∃p:Array Nat,arrOf dY=p.map (kas_item (vs.toArray.zip vs.toArray))/\failedOf dY=none/\s'={ s with heap:=((s.heap.update a (Obj.mapSeq λ_=>(#[]:Array Aa))).push (seqObj "tuple" vs.toArray 0)).push (seqObj "list" #[] 0) }/\Good vs.length p/\Up f p vs.length)
   rfl iY cg (λp dY s' _ q1 q2 q3=>#[p,q1,q2,q3]) (Ok.wp hc (λp q=>#[Z,q]) (QJ O Z1))) ?_ λ_ _ x=>x)
  rintro⟨⟨⟩,dY⟩ s' ⟨p,KD,hf,j8,g,u⟩;have j8:s'={ s with heap:=((s.heap.update a (Obj.mapSeq λ_=>(#[]:Array Aa))).push (seqObj "tuple" vs.toArray 0)).push (seqObj "list" #[] 0) }:=j8;subst j8
  have vm:((arrOf dY).map λx:Keyed=>x.2)=(mC p vs).toArray:=by
   rw[KD];apply Array.ext';unfold mC;simp only[Array.map_map,Array.toList_map,List.toList_toArray];refine pA λi _=>?_;show (kas_item (vs.toArray.zip vs.toArray) i).2=_;unfold kas_item;by_cases hi:i<vs.length
   ·simp[Array.getD,hi]
   ·simp[Array.getD,hi,Nat.le_of_not_lt hi]
  have esz:((arrOf dY).map λx:Keyed=>x.2).size=vs.length:=by
   rw[vm];unfold mC;simp only[cE,aq,mN];exact g.size
  refine aj (seqEpoch_at AX Z (aj (listUpdate_at AX Z ?_ (fB _) (by rw[esz];omega))));rw[hf];simp only[bne_self_eq_false,iM,if_false];exact aQ (h p _ _ g u ((get?_update_seq AX _).trans (dF (λz=>some (seqObj "list" z _)) vm)) (keep _))
theorem SD{x:Aa}{Q:Aa->Ab->Prop}(O:Ord f)(mh:wpAny (model prog w) A.in1 (collect x) (λvs s1=>vs.length<64/\(2<=vs.length->∀h':Heap,(∀b o,s1.heap.get? b=some o->h'.get? b=some o)->vT prog w A.in1.in1 f vs { s1 with heap:=h' }) /\
   ∀(p:Array Nat) (h':Heap) (e:Nat),Good vs.length p->Up f p vs.length->h'.get? s1.heap.objs.size=some (seqObj "list" (mC p vs).toArray e)->(∀b o,s1.heap.get? b=some o->h'.get? b=some o)->Q (.ref s1.heap.objs.size) { s1 with heap:=h' }) E s) :
  wpAny (model prog w) A (call (.builtin "sorted") [x]) Q E s:=by
 refine Calls.call_function_entry kind_sorted plain_sorted entry_sorted (args_sorted1 _) ?_;unfold Builtin.«sorted»;refine aj (m:=checkCount "sorted" 1 1 _) (aQ (aj (wpAny_mono mh (λvs s1 q=>?_) λ_ _ z=>z)));obtain⟨cg,zv,hQ⟩:=q;refine aj (wpAny_newList ?_ (by have:=bU;omega));have hn:(s1.heap.push (seqObj "list" vs.toArray 0)).get? s1.heap.objs.size=some (seqObj "list" vs.toArray 0):=dI _ Z
 have old:∀h',EA s1.heap.objs.size (s1.heap.push (seqObj "list" vs.toArray 0)) h'->∀b o,s1.heap.get? b=some o->h'.get? b=some o:=λh' k b o e=>
  k b o (dc (bN e)) (bH _ e)
 refine aj (gO (wpAny_call_entry slot_list_sort #[_,hn,Z] entry_list_sort (_u O hn cg (λh2 h' k=>zv h2 h' (old h' k)) λp h' e g u q k=>#[_,Z,?_]) (args_list_sort _)));exact aQ #[_,Z,hQ p h' e g u q (old h' k)]
end Fu
namespace L2
open PySem PySem.Spec PyProof.Rows PySem.W Fu
def iV:Key->Key->Bool
 |.inl i,.inl j=>decide (i<j)
 |.inl _,.inr _=>true
 |.inr _,.inl _=>false
 |.inr x,.inr y=>decide (x.cps.toList<y.cps.toList)
def bx:List Key->List Key->Bool
 |[],[]=>false
 |[],_::_=>true
 |_::_,[]=>false
 |a::r,b::q=>if a=b then bx r q else iV a b
theorem Yy:∀a:Key,iV a a=false
 |.inl i=>by simp[iV]
 |.inr x=>by simp[iV,List.lt_irrefl]
theorem RR:∀{a b:Key},iV a b=true->iV b a=false
 |.inl i,.inl j,h=>by
  simp only[iV,jP,zX] at *;omega
 |.inl _,.inr _,_=>rfl
 |.inr _,.inl _,h=>by cases h
 |.inr x,.inr y,h=>by
  simp only[iV,jP,zX] at *;exact λq=>List.lt_irrefl _ (List.lt_trans h q)
theorem Qa:∀{a b:Key},iV a b=false->iV b a=false->a=b
 |.inl i,.inl j,h,h2=>by
  simp only[iV,zX] at *;rw[show i=j by omega]
 |.inl _,.inr _,h,_=>by cases h
 |.inr _,.inl _,_,h=>by cases h
 |.inr x,.inr y,h,h2=>by
  simp only[iV,zX] at *;rw[ext_toList (List.le_antisymm (List.not_lt.mp h2) (List.not_lt.mp h))]
theorem gL_:∀{a b c:Key},iV a b=true->iV b c=true->iV a c=true
 |.inl i,.inl j,.inl k,h,h2=>by
  simp only[iV,jP] at *;omega
 |.inl _,.inl _,.inr _,_,_=>rfl
 |.inl _,.inr _,.inr _,_,_=>rfl
 |.inl _,.inr _,.inl _,_,h=>by cases h
 |.inr _,.inl _,_,h,_=>by cases h
 |.inr _,.inr _,.inl _,_,h=>by cases h
 |.inr x,.inr y,.inr z,h,h2=>by
  simp only[iV,jP] at *;exact List.lt_trans h h2
theorem Lh:∀a:List Key,bx a a=false
 |[]=>rfl
 |a::r=>by
  unfold bx;rw[aC Z];exact Lh r
theorem Ml:∀{a b:List Key},bx a b=true->bx b a=false
 |[],[],h=>by cases h
 |[],_::_,_=>rfl
 |_::_,[],h=>by cases h
 |a::r,b::q,h=>by
  unfold bx at h ⊢;by_cases e:a=b
  ·rw[aC e] at h;rw[aC e.symm];exact Ml h
  ·rw[ao e] at h;rw[ao (Ne.symm e)];exact RR h
theorem Lp:∀{a b:List Key},bx a b=false->bx b a=false->a=b
 |[],[],_,_=>rfl
 |[],_::_,h,_=>by cases h
 |_::_,[],_,h=>by cases h
 |a::r,b::q,h,h2=>by
  unfold bx at h h2;by_cases e:a=b
  ·rw[aC e] at h;rw[aC e.symm] at h2;rw[e,Lp h h2]
  ·rw[ao e] at h;rw[ao (Ne.symm e)] at h2;exact absurd (Qa h h2) e
theorem SO:∀{a b c:List Key},bx a b=true->bx b c=true->bx a c=true
 |[],_,[],h,h2=>by
  rename_i b
  cases b with
  |nil=>cases h
  |cons _ _=>cases h2
 |[],_,_::_,_,_=>rfl
 |_::_,[],_,h,_=>by cases h
 |_::_,_::_,[],_,h=>by cases h
 |a::r,b::q,c::t,h,h2=>by
  unfold bx at h h2 ⊢;by_cases e:a=b
  ·subst e;rw[aC Z] at h;by_cases e2:a=c
   ·rw[aC e2] at h2 ⊢;exact SO h h2
   ·rw[ao e2] at h2 ⊢;exact h2
  ·rw[ao e] at h;by_cases e2:b=c
   ·subst e2;rw[ao e];exact h
   ·rw[ao e2] at h2;have h3:=gL_ h h2;rw[ao (λq=>by rw[q,Yy] at h3;cases h3)];exact h3
theorem Sy{a b c:List Key}(h:bx b a=false)(h2:bx c b=false):bx c a=false:=by
 cases e:bx c a with
 |false=>rfl
 |true=>
  by_cases e1:bx a b=true
  ·have:=SO e e1;rw[h2] at this;cases this
  ·have e1:bx a b=false:=by simpa using e1
   have:=Lp e1 h;subst this;rw[h2] at e;cases e
def BM(ks:List (List Key)):Prop:=ks.Pairwise λa b=>bx b a=false
theorem Sa:∀{a b:List (List Key)},a.Perm b->BM a->BM b->a=b
 |[],b,p,_,_=>by
  have:=p.length_eq;cases b with
  |nil=>rfl
  |cons _ _=>cases this
 |x::r,[],p,_,_=>by
  have:=p.length_eq;cases this
 |x::r,y::q,p,h1,h2=>by
  obtain⟨a1,a2⟩:=List.pairwise_cons.mp h1;obtain⟨b1,b2⟩:=List.pairwise_cons.mp h2
  have e:x=y:=by
   rcases bO.mp (p.mem_iff.mp dO) with m|m
   ·exact m
   ·rcases bO.mp (p.mem_iff.mpr dO) with m2|m2
    ·exact m2.symm
    ·exact Lp (b1 _ m) (a1 _ m2)
  subst e;rw[Sa ((List.perm_cons _).mp p) a2 b2]
def aP(ks:List (List Key)):List (List Key):=ks.mergeSort λa b=>!bx b a
theorem ko(ks:List (List Key)):(aP ks).Perm ks:=List.mergeSort_perm _ _
theorem ge_(ks:List (List Key)):BM (aP ks):=by
 have:=List.pairwise_mergeSort (le:=λa b=>!bx b a) (λa b c h1 h2=>by
  simp only[Bool.not_eq_true'] at *;exact Sy h1 h2) (λa b=>by
  simp only[Bool.or_eq_true,Bool.not_eq_true'];by_cases e:bx b a=true
  ·exact .inr (Ml e)
  ·exact .inl (by simpa using e)) ks
 exact this.imp λh=>by simpa using h
variable{ks:List (List Key)}
theorem M0{rT:List (List Key)}(p:rT.Perm ks)(h:BM rT):rT=aP ks:=Sa (p.trans (ko ks).symm) h (ge_ ks)
variable{p:Array Nat}
theorem E3{α:Type}{n:Nat}(g:Good n p)(F:Nat->α):(p.toList.map F).Perm ((List.range n).map F):=by
 have e:p.toList.Perm (List.range n):=by
  have:=Array.perm_iff_toList_perm.mp g;simpa using this
 exact e.map F
theorem K1{f:Nat->Nat->Bool}(hf:∀i j,i<ks.length->j<ks.length->f i j=bx (ks.getD i []) (ks.getD j []))(g:Good ks.length p)(u:Up f p ks.length):BM (p.toList.map λi=>ks.getD i []):=by
 unfold BM;rw[mM,List.pairwise_iff_getElem];intro i j hi hj ma;have hs:=g.size;rw[mN] at hi hj;have hj':j<ks.length:=by omega
 have q:=u i j (Nat.le_of_lt ma) hj';have hN:0<ks.length:=by omega
 rw[hf _ _ (g.lt hN _) (g.lt hN _)] at q;have e1:at' p i=p.toList[i]:=by simp[at',Array.getD,hi]
 have e2:at' p j=p.toList[j]:=by simp[at',Array.getD,hj]
 rw[e1,e2] at q;exact q
theorem LL(ks:List (List Key)):Ord λi j=>bx (ks.getD i []) (ks.getD j []):=#[λ_=>Lh _,λh h2=>Sy h h2,λh=>Ml h]
theorem Fh{α:Type}(d:α)(l:List α):((List.range l.length).map λi=>l.getD i d)=l:=by
 apply List.ext_getElem?;intro i;simp only[dU];by_cases h:i<l.length
 ·simp[h]
 ·simp[Nat.le_of_not_lt h]
variable{ys:List V}{vs:List Aa}
theorem Ll(r:Vals ys vs)(g:Good vs.length p):Vals (p.toList.map λi=>ys.getD i .non) (mC p vs):=by
 unfold mC
 have key:∀l:List Nat,(∀i∈l,i<vs.length)->Vals (l.map λi=>ys.getD i .non) (l.map λi=>vs.getD i Value.none):=λl=>by
  induction l with
  |nil=>exact λ_=>.nil
  |cons i l ih=>
   intro h;refine .cons ?_ (ih λj hj=>h j (dP _ hj));have hi:=h i dO;have hy:i<ys.length:=by rw[r.length];exact hi
   obtain⟨u,hu,ru⟩:=r.get (di hy);have e1:ys.getD i .non=ys[i]:=by simp[hy]
   have e2:vs.getD i Value.none=u:=by simp[hu]
   show RelV (ys.getD i .non) (vs.getD i Value.none);rw[e1,e2];exact ru
 refine key p.toList λi hi=>?_;have m:i∈(List.range vs.length).toArray:=g.mem_iff.mp (by simpa using hi);simpa using m
theorem PL:∀{ss:List Str} {vs:List Aa},Vals (ss.map V.str) vs->StrsAre vs ss
 |[],_,.nil=>.nil
 |x::r,_,.cons h t=>by
  obtain⟨tk,rfl⟩:=h;exact .cons x tk (PL t)
def mF(ss:List Str):List Str:=(aP (ss.map λx=>[Sum.inr x])).map λk=>match k with
 |[.inr x]=>x
 |_=>⟨#[]⟩
def c_(x:Str):List Key:=[Sum.inr x]
variable{prog:Ad}{w:Af}{A:Ag}{s:Ab}
theorem _J{ss:List Str}(r:StrsAre vs ss)(h2:2<=vs.length):vT prog w A (λi j=>bx ((ss.map c_).getD i []) ((ss.map c_).getD j [])) vs s:=by
 refine#[oneType',λQ q=>?_,λi j C hi hj hC=>?_]
 ·match vs,h2 with
  |v₁::Uv::t,_=>
   rw[keyKind_strs r];exact aQ q
 ·unfold kas_ask;rw[keyLt'_oneType]
  have look:∀k,k<vs.length->∃x t,vs.getD k Value.none=.str x t/\(ss.map c_).getD k []=[Sum.inr x]:=λk hk=>by
   have e:=r.strs;obtain⟨x,t,q⟩:=r.all vs[k] (ku hk);refine#[x,t,by simp[hk,q],?_]
   have PU:k<ss.length:=by
    rw[<- e,aq];exact hk
   have e2:ss[k]=x:=by
    have e3:(vs.map strOf)[k]? = ss[k]?:=by rw[e]
    rw[dU,di hk,di PU,q] at e3;exact (dW e3).symm
   simp[PU,e2,c_]
  obtain⟨x,t,e1,e2⟩:=look i hi;obtain⟨y,u,e3,e4⟩:=look j hj;rw[e1,e3];dsimp only at hC;rw[e2,e4] at hC;refine oneLt_str ?_;unfold bx at hC;by_cases e:x=y
  ·subst e;rw[aC Z] at hC;have:decide (x.cps.toList<x.cps.toList)=false:=by simp[List.lt_irrefl]
   rw[this];exact hC
  ·rw[ao (λq=>e (hU q))] at hC;exact hC
def wR:Key->Bool
 |.inl _=>false
 |.inr _=>true
variable{a b:Key}
theorem _M{E:Aa->Ab->Prop}{c:Bool}{p q:Aa}{Q:Bool->Ab->Prop}(ra:RelV (kV a) p)(rb:RelV (kV b) q)(hk:wR a=wR b)(h:Q (iV a b) s) :
  wpAny (model prog w) A (oneLt' c p q) Q E s:=by
 cases a with
 |inl i=>
  cases b with
  |inr y=>cases hk
  |inl j=>
   obtain⟨t,rfl⟩:=ra;obtain⟨u,rfl⟩:=rb;cases c with
   |true=>exact oneLt_int h
   |false=>exact kat_one _ _ (lt_int (show PySem.W.BoolBack Q (.bool _) s from h))
 |inr x=>
  cases b with
  |inl j=>cases hk
  |inr y=>
   obtain⟨t,rfl⟩:=ra;obtain⟨u,rfl⟩:=rb;cases c with
   |true=>exact oneLt_str h
   |false=>exact kat_one _ _ (PyProof.Rows.lt_str (show PySem.W.BoolBack Q (.bool _) s from h))
theorem Pk(hk:wR a=wR b):o4 (kV a) (kV b)=decide (a=b):=by
 cases a with
 |inl i=>
  cases b with
  |inr y=>cases hk
  |inl j=>
   show (i == j)=_;by_cases e:i=j
   ·subst e;simp
   ·rw[dA (λq=>e (Sum.inl.inj q))];simpa using e
 |inr x=>
  cases b with
  |inl j=>cases hk
  |inr y=>
   show (x == y)=_;by_cases e:x=y
   ·subst e;simp
   ·rw[dA (λq=>e (hU q))];simpa using e
theorem QS(a:Key):vp (kV a)=true:=by cases a<;>rfl
theorem Ta{prog:Ad}{w:Af}{A:Ag}{s:Ab}{Q:Bool->Ab->Prop}:∀{k1 k2:List Key} {us vs:List Aa} (i:Nat),Vals (k1.map kV) us->Vals (k2.map kV) vs->k1.map wR=k2.map wR->Q (bx k1 k2) s->KatLex prog w A true false Q (us.zip vs) i s
 |[],[],_,_,i,.nil,.nil,_,h=>h
 |[],_::_,_,_,_,_,_,h,_=>by cases h
 |_::_,[],_,_,_,_,_,h,_=>by cases h
 |a::k1,b::k2,u::us,v::vs,i,.cons ra r1,.cons rb r2,hk,h=>by
  obtain⟨e1,e2⟩:=List.cons.inj hk;refine kat_cons ?_;refine KI ra rb (QS a) (QS b) prog w _ _ ?_;rw[Pk e1];unfold bx at h;by_cases e:a=b
  ·rw[aC e] at h;rw[bW e];exact kat_yes (Ta (i+1) r1 r2 e2 h)
  ·rw[ao e] at h;rw[dA e];exact kat_no (_M ra rb e1 h)
def aY(K:ag)(H:Hp):List V->List (List Key)->Prop:=Paired λy k=>∃a,y=V.ref a/\H a=some (.tup (k.map kV))
def zR(ks:List (List Key))(sh:List Bool):Prop:=sh≠[]/\∀k∈ks,k.map wR=sh
theorem RQ{X:Cx}{pins:List (Addr × Obj)}{σ:St}{H:Hp}{s':Ab}{sh:List Bool}(I:Inv X pins σ H s)(r:Vals ys vs)(t:aY X.K H ys ks)(al:zR ks sh)(h2:2<=vs.length)(kp:∀b o,s.heap.get? b=some o->s'.heap.get? b=some o):vT X.prog X.w A (λi j=>bx (ks.getD i []) (ks.getD j [])) vs s':=by
 have look:∀k,k<vs.length->∃a its,vs.getD k Value.none=.ref a/\Vals ((ks.getD k []).map kV) its/\IsTup s'.heap a its.toArray/\ks.getD k []∈ks:=λk hk=>by
  have hy:k<ys.length:=by rw[r.length];exact hk
  have AZ:k<ks.length:=by rw[<- bE t];exact hy
  obtain⟨u,hu,ru⟩:=r.get (di hy)
  have gen:∀{ys:List V} {ks:List (List Key)} (k:Nat) (hy:k<ys.length) (AZ:k<ks.length),aY X.K H ys ks->∃a,ys[k]=V.ref a/\H a=some (.tup (ks[k].map kV)):=λ{ys ks} k hy AZ t=>by
   induction t generalizing k with
   |nil=>exact absurd hy Z2
   |cons h t ih=>
    cases k with
    |zero=>exact h
    |succ k=>exact ih k (by simpa using hy) (by simpa using AZ)
  obtain⟨a,e,sq⟩:=gen k hy AZ t;obtain⟨its,ri,ti,_⟩:=I.tuple (fe.of sq);rw[e] at ru;cases ru;have e2:ks.getD k []=ks[k]:=by simp[AZ]
  refine#[a,its,by simp[hu],by rw[e2];exact ri,ti.keeps kp,?_];rw[e2];exact ku AZ
 obtain⟨jC,D_⟩:=al
 obtain⟨c,Ci,rfl⟩:∃c Ci,sh=c::Ci:=by
  cases sh with
  |nil=>exact absurd Z jC
  |cons c Ci=>exact#[c,Ci,Z]
 refine#[tuples' true,λQ q=>?_,λi j C hi hj hC=>?_]
 ·have zD:∀l:List Aa,(∀v∈l,∃(a:Addr) (its:List Aa) (k:List Key),v=.ref a/\Vals (k.map kV) its/\IsTup s'.heap a its.toArray/\k.map wR=c::Ci)->∃fs,KatTups s'.heap l fs/\fs.length=l.length/\∀v∈fs,Looks (model X.prog X.w) s'.heap (typeOf v) (.type (if c then "str" else "int")):=λl=>by
   induction l with
   |nil=>exact λ_=>#[[],.nil,Z,λ_ h=>nomatch h]
   |cons v l ih=>
    intro h;obtain⟨fs,h1,h2,h3⟩:=ih λv hv=>h v (dP _ hv);obtain⟨a,its,k,rfl,rv,⟨o,ho,hc,n,hd⟩,hk⟩:=h v dO
    match k,its,rv,hk with
    |k0::k,u::its,.cons r0 _,hk=>
     refine#[u::fs,.cons ho hc hd Z2 h1,by simp[h2],λv hv=>?_];rcases bO.mp hv with e|hv
     ·subst e;have e0:=(List.cons.inj hk).1;cases k0 with
      |inl i=>
       obtain⟨t,rfl⟩:=r0;rw[<- e0];exact .now
      |inr x=>
       obtain⟨t,rfl⟩:=r0;rw[<- e0];exact .now
     ·exact h3 v hv
  obtain⟨fs,h1,h3,h4⟩:=zD vs λv hv=>by
   obtain⟨k,hk,rfl⟩:=ph hv;obtain⟨a,its,e,rv,ti,m⟩:=look k hk;refine#[a,its,_,?_,rv,ti,D_ _ m];rw[<- e];simp[hk]
  refine kat_kind h1 Z1 h4 (by cases c<;>decide) ?_
  have e:((Value.type (if c then "str" else "int")) != Value.type "tuple")=true:=by cases c<;>decide
  rw[e];exact q
 ·unfold kas_ask;obtain⟨a,its,e1,r1,⟨o,ho,_,n,hd⟩,m1⟩:=look i hi;obtain⟨b,iE,e2,r2,⟨o2,y_,_,n2,hd2⟩,m2⟩:=look j hj;rw[e1,e2];refine kat_lt ho hd y_ hd2 ?_;have l1:=r1.length;have l2:=r2.length;have l3:=dF List.length ((D_ _ m1).trans (D_ _ m2).symm);simp only[aq] at l1 l2 l3;rw[show decide (its.toArray.size<iE.toArray.size)=false by simp;omega];exact Ta 0 r1 r2 ((D_ _ m1).trans (D_ _ m2).symm) hC
end L2
namespace vR
open PySem PySem.W PyProof.Rows
def Raw(h:Heap)(d:Addr)(es:Array DictEntry)(ep:Nat):Prop:=∃o,h.get? d=some o/\o.ExactDict/\o.data=.dict es ep
variable{h h':Heap}{d:Addr}{es:Array DictEntry}{ep:Nat}
theorem Raw.d9(x:Raw h d es ep)(k:∀o,h.get? d=some o->h'.get? d=some o):Raw h' d es ep:=let #[o,e,r]:=x;#[o,k o e,r]
variable{s:Ab}
theorem Raw.ty(x:Raw s.heap d es ep):s.TypeIs (.ref d) "dict":=let #[o,e,c,_]:=x;#[o,e,c.1]
variable{prog:Ad}{w:Af}{A:Ag}{E:Aa->Ab->Prop}
theorem _t{Q:Aa->Ab->Prop}(hd:(d == sysModules)=false)(x:Raw s.heap d es ep)(q:Q (.ref s.heap.objs.size) { s with heap:=s.heap.push { cls:=.type "dict_keyiterator",data:=.fields (List.toArray [.ref d,.int 0 0,.int es.size 0,.int ep 0]) } }) :
  wpAny (model prog w) A (pyIter (.ref d)) Q E s:=by
 obtain⟨o,ho,hc,vd⟩:=id x;refine wpAny_pyIter_slot x.ty F.slot_dict_iter (wpAny_call_entry F.slot_dict_iter x.ty F.entry_dict_iter ?_ (F.args_dict_iter_1 _));unfold Builtin.«dict.__iter__» Builtin.Dict.dictSlotNone;refine aj (aj (wpAny_notOrdered_dict x.ty (show wpAny _ _ (pure (Value.ref d)) _ _ s from aQ (show wpAny _ _ (Builtin.Dict.showsAll d >>= _) _ _ s from ?_))));unfold Builtin.Dict.showsAll;rw[ao (by rw[hd];decide)];refine aj (aQ (aj (wpAny_dictEntries ho vd (aj (wpAny_dictEpoch ho vd (aj (wpAny_newObj_type (aQ #[_,Z,"dict_keyiterator",_,#[_,dI _ Z,Z],F.slot_dict_keyiterator_next.lookup,?_]))))))));exact q
variable{Q:Option Aa->Ab->Prop}{it:Addr}{i:Nat}
theorem Ze(hit:s.heap.IsKeyIter it d i es.size ep)(x:Raw s.heap d es ep)(hi:i<es.size)(q:∀h',h'.IsKeyIter it d (i+1) es.size ep->Heap.SameBut it s.heap h'->Q (some es[i].key) { s with heap:=h' }):wpAny (model prog w) A (pyNext (.ref it)) Q E s:=by
 obtain⟨o,ho,hc,hd⟩:=id hit;obtain⟨od,DI,gC,D7⟩:=id x;unfold pyNext;refine aj (wpAny_attempt (wpAny_callSpecial?_slot (name:=Str.ofString "__next__") hit.typeIs F.slot_dict_keyiterator_next (wpAny_call_entry F.slot_dict_keyiterator_next hit.typeIs F.entry_dict_keyiterator_next ?_ (F.args_dict_keyiterator_next_1 _))));refine aj (aQ (aj (aj ?_)))
 first|refine aj (wpAny_typeNameOfWhole_keyiter hit.typeIs (aQ (aj (wpAny_fieldsOf ho hd ?_))))|refine aj (wpAny_typeNameOf_keyiter hit.typeIs (aQ (aj (wpAny_fieldsOf ho hd ?_))))
 simp only[show Builtin.Dict_items.ownsTuple "dict_keyiterator"=false by decide,iM,if_false];refine (show wpAny _ _ (if (Value.ref d == Value.none)=true then _ else _) _ _ s from ?_);rw[ao (λz=>by cases z)];refine aj (aQ (aj (wpAny_dictEntries DI D7 ?_)));rw[ao Z2];refine aj (aQ (aj (wpAny_dictEpoch DI D7 ?_)));rw[ao Z2];refine aQ ?_;simp only[show ¬((i:Int)<0) from by omega,if_false,Int.toNat_natCast,Array.getElem?_eq_getElem hi];refine aj ?_
 first|refine aj (wpAny_typeNameOfWhole_keyiter hit.typeIs (aQ (aj (wpAny_isOneOf_keyiter hit.typeIs ?_))))|refine aj (wpAny_typeNameOf_keyiter hit.typeIs (aQ (aj (wpAny_isOneOf_keyiter hit.typeIs ?_))))
 refine (show wpAny _ _ (setField (.ref it) 1 (rawInt ((i:Int)+1)) >>= _) _ _ s from aj (wpAny_setField ho hd Z2 ?_))
 have turned:(s.heap.update it (Obj.mapFields (·.setIfInBounds 1 (rawInt ((i:Int)+1))))).IsKeyIter it d (i+1) es.size ep:=
  #[_,Heap.get?_update_self _ ho (Obj.isFreed_of_fields (Obj.data_mapFields hd _)),(Obj.cls_mapFields ..).trans hc,by rw[Obj.data_mapFields hd];simp[rawInt]]
 refine aj (gO (aj (wpAny_isOneOf_keyiter (s:={ s with heap:=s.heap.update it (Obj.mapFields (·.setIfInBounds 1 (rawInt ((i:Int)+1)))) }) turned.typeIs ?_)));exact (show wpAny _ _ (pure es[i].key) _ _ _ from aQ (aQ #[_,Z,aQ (q _ turned (Heap.SameBut.update ..))]))
theorem _A(hh:A.handled=none)(hit:s.heap.IsKeyIter it d es.size es.size ep)(x:Raw s.heap d es ep)(q:∀h',Heap.ExtBut it s.heap h'->Q none { s with heap:=h' }):wpAny (model prog w) A (pyNext (.ref it)) Q E s:=by
 obtain⟨o,ho,hc,hd⟩:=id hit;obtain⟨od,DI,gC,D7⟩:=id x;unfold pyNext;refine aj (wpAny_attempt (wpAny_callSpecial?_slot (name:=Str.ofString "__next__") hit.typeIs F.slot_dict_keyiterator_next (wpAny_call_entry F.slot_dict_keyiterator_next hit.typeIs F.entry_dict_keyiterator_next ?_ (F.args_dict_keyiterator_next_1 _))));refine aj (aQ (aj (aj ?_)))
 first|refine aj (wpAny_typeNameOfWhole_keyiter hit.typeIs (aQ (aj (wpAny_fieldsOf ho hd ?_))))|refine aj (wpAny_typeNameOf_keyiter hit.typeIs (aQ (aj (wpAny_fieldsOf ho hd ?_))))
 simp only[show Builtin.Dict_items.ownsTuple "dict_keyiterator"=false by decide,iM,if_false];refine (show wpAny _ _ (if (Value.ref d == Value.none)=true then _ else _) _ _ s from ?_);rw[ao (λz=>by cases z)];refine aj (aQ (aj (wpAny_dictEntries DI D7 ?_)));rw[ao Z2];refine aj (aQ (aj (wpAny_dictEpoch DI D7 ?_)));rw[ao Z2];refine aQ ?_;simp only[show ¬((es.size:Int)<0) from by omega,if_false,Int.toNat_natCast,Array.getElem?_eq_none (aZ _)];refine aj ?_
 first|refine aj (wpAny_typeNameOfWhole_keyiter hit.typeIs (aQ ?g))|refine aj (wpAny_typeNameOf_keyiter hit.typeIs (aQ ?g))
 refine (show wpAny _ _ (setField (.ref it) 0 .none >>= _) _ _ s from aj (wpAny_setField ho hd Z2 (show wpAny _ _ (newExc (.type "StopIteration") [] >>= _) _ _ _ from aj ?_)));simp only[newExc,newTuple];refine aj (wpAny_newObj_type (aj (m:=firstArgMember _ _) (wpAny_of_eq (a:=Value.none) (by first|rfl|(simp only[firstArgMember];rfl)) (wpAny_newObj_type ?_ (by size_fits)))) (by size_fits));simp only[raiseNew];refine aj (wpAny_handled ?_);rw[show A.in1.handled=none from hh];refine aj (aQ (wpAny_throw ?_));exact aj (wpAny_isInstance (T:="StopIteration") (b:=true) #[_,dI _ Z,Z] isSubtype_stop (aQ (q _ (((Heap.SameBut.update ..).extBut.push _).push _))))
theorem _K(hh:A.handled=none)(I d:Addr)(jC:d≠I)(es:Array DictEntry)(ep:Nat) :
  Walks prog w A I [I,d] [I] es.size (λi v=>∃h:i<es.size,v=es[i].key) (λi h=>h.IsKeyIter I d i es.size ep/\Raw h d es ep) where
 sub:=λb hb=>by simp only[pf] at hb;simp[hb]
 frame:=λ_ _ _ st k=>#[st.1.at λo e=>k I Z2 o e,st.2.d9 λo e=>k d Z2 o e]
 item:=λi s Q E hi st hQ=>Ze st.1 st.2 hi λh' zm j8=>hQ _ h' s.toks #[hi,Z] #[zm,st.2.d9 λo e=>j8.extBut d o jC e] λb o hb e=>j8.extBut b o (λh=>hb (by simp[h])) e
 done:=λs Q E st hQ=>_A hh st.1 st.2 λh' he'=>hQ h' s.toks λb o hb e=>he' b o (λh=>hb (by simp[h])) e
 self:=λ_ _ _ _ st hQ=>wpAny_pyIter_keyiter st.1 hQ
theorem Yq(lo:(d == sysModules)=false):KdlSrc prog w "dict" d d es.size (λi v=>∃h:i<es.size,v=es[i].key) (λh=>Raw h d es ep) where
 type:=λs x=>x.ty
 there:=λh x=>let #[o,e,_]:=x;#[bN e,bN e]
 keep:=λh h' x k=>x.d9 λo e=>k d (.inl Z) o e
 notList:=by decide
 notTuple:=by decide
 hint:=λ_ _ s _ x q=>kdl_hint_dict x.ty q
 iter:=λA s hh x=>#[_,_,λE Q q=>_t lo x q,_K hh _ d (let #[o,e,_]:=x;dc (bN e)) es ep,#[#[_,dI _ Z,Z,Z],x.d9 λo e=>bH _ e]]
theorem d3_:typeLookup (.type "list") "keys"=pure none:=by rw[typeLookup_type,builtinLookup_eq_fast];kernel_rfl
variable{a:Addr}{xs:Array Aa}{k:Nat}{tk:Tok}{R:Result->Ab->Prop}
theorem h1_(hx:s.heap.get? a=some (seqObj "list" xs k))(h:raisesAttr (.ref a) "keys" A R s) :
  codeAny (model prog w) A (.call (.builtin "list.__getattribute__") #[[.ref a,.str "keys" tk],[]]) R s:=by
 refine codeAny_call_builtin F.slot_list_getattribute.plain am_entry_list_getattribute (F.slot_list_getattribute.check _ _ _ _ _ _ _ _ #[_,hx,Z] (F.args_list_getattribute_2 _ _) ?_);exact meets_getattribute_miss_list a xs k #[] "keys" tk d3_ (by decide) (by size_fits) prog w A R s #[hx,h]
theorem yH(hx:s.heap.get? a=some (seqObj "list" xs k))(hA:A.handled=none)(h:∀h' tk,(∀b o,s.heap.get? b=some o->h'.get? b=some o)->Q none { s with heap:=h',toks:=tk }):wpAny (model prog w) A (getAttr? (.ref a) "keys") Q E s:=by
 obtain⟨hp,g,d,tk,os⟩:=s;have ty:∀eY,(#[hp,g,d,eY,os]:Ab).TypeIs (.ref a) "list":=λ_=>#[_,hx,Z];have f1:=sub_AttributeError;have f2:=F.slot_list_getattribute.lookup;have f3:=F.slot_list_getattribute.bind (.ref a);have f4:=am_list_getattr_none;unfold getAttr? getAttrBy? getAttrBy
 repeat (any_goals (first|assumption|exact ty _|wp_step))
 refine h1_ hx #[hA,λh' eY e JR=>?_];obtain⟨t',u',he⟩:=JR.there;show wpAny _ _ (getattributeRaised _ _ _ _ _ _ _) _ _ _;unfold getattributeRaised
 repeat (any_goals (first|assumption|wp_step))
 exact h _ _ JR.keeps
theorem Ru:entryFor table "dict.update.loop"=some Builtin.«dict.update.loop»:=entryFor_of_tree (by kernel_rfl)
theorem Hg:plainId "dict.update.loop"=true:=by decide +kernel
theorem O4(d it:Addr)(i:Int)(tk:Tok):Builtin.«dict.update.loop» #[[.ref d,.ref it,.int i tk,.none],[]]=(do
  let r <- pyNext (.ref it)
  match r with
  |none=>do Builtin.Dict.addKeywords d [];ret .none
  |some item=>do
   holding [item] (do
    let pair <- (Builtin.Dict.pairItems item).tryCatch λe=>do
     if !(<- isInstance e (.type "TypeError")) then throw e
     rule "dict.update.element-no-sequence"
     raiseError "TypeError" s!"cannot convert dictionary update sequence element #{i} to a sequence"
    match pair with
    |[k,v]=>holding [k,v] (dictSet d k v)
    |l=>do
     rule "dict.update.element-length"
     raiseError "ValueError" s!"dictionary update sequence element #{i} has length {l.length}; 2 is required")
   again (.builtin "dict.update.loop" #[[.ref d,.ref it,rawInt (i+1),.none],[]])):=by
 unfold Builtin.«dict.update.loop»;refine dF (λf=>pyNext (.ref it) >>= f) (funext λr=>?_);cases r<;>rfl
variable{b l:Addr}{ys:Array Aa}
variable{its:List Aa}
section
variable{prog:Ad}{w:Af}{K:Type}[DecidableEq K]{knd:PySem.KeyKind prog w K}{A:Ag}
def Lx(knd:PySem.KeyKind prog w K)(h:Heap):List Aa->List (K × Aa)->Prop:=Paired λv p=>∃a key,v=.ref a/\IsTup h a (List.toArray [key,p.2])/\knd.is p.1 key=true
def gx(kvs:List (K × Aa))(ps:List (K × Aa)):List (K × Aa):=ps.foldl (λacc p=>stored acc p.1 p.2) kvs
theorem gd_(kvs:List (K × Aa))(k:K)(v:Aa):(stored kvs k v).length<=kvs.length+1:=by
 unfold stored;split
 ·simp
 ·simp
theorem SQ(t:IsTup h b ys)(q:h.IsListIter it l i):b≠it:=λz=>by
 obtain⟨o,ho,hc,_⟩:=t;obtain⟨o2,y_,A3,_⟩:=q;subst z;rw[ho] at y_;cases y_;rw[hc] at A3;exact absurd A3 (by decide)
theorem eO_{kvs:List (K × Aa)}(t:IsTup h b ys)(q:h.DictOf knd d kvs):b≠d:=λz=>by
 obtain⟨o,ho,hc,_⟩:=t;obtain⟨o2,es,ep,y_,A3,_⟩:=q;subst z;rw[ho] at y_;cases y_;have P_:=A3.1;rw[hc] at P_;exact absurd P_ (by decide)
theorem RW{kvs:List (K × Aa)}(q:h.DictOf knd d kvs)(k:∀o,h.get? d=some o->h'.get? d=some o):h'.DictOf knd d kvs:=by
 obtain⟨o,es,ep,ho,r⟩:=q;exact#[o,es,ep,k _ ho,r]
theorem Zl{key x:Aa}{k:K}{kvs:List (K × Aa)}(md:d≠it)(hi:its.toArray[i]? = some (.ref a))(ht:IsTup s.heap a (List.toArray [key,x]))(hk:knd.is k key=true)(hit:s.heap.IsListIter it l i)(hl:s.heap.IsList l its.toArray)(hd:s.heap.DictOf knd d kvs)(hz:kvs.length<=1000)(hR:∀h2,h2.DictOf knd d (stored kvs k x)->(∀b o,b≠d->b≠it->s.heap.get? b=some o->h2.get? b=some o)->h2.IsListIter it l (i+1)->codeAny (model prog w) A (.builtin "dict.update.loop" #[[.ref d,.ref it,rawInt ((i:Int)+1),.none],[]]) R { s with heap:=h2,toks:=s.toks+1 }) :
  codeAny (model prog w) A (.builtin "dict.update.loop" #[[.ref d,.ref it,.int i tk,.none],[]]) R s:=by
 refine codeAny_builtin Ru ?_;rw[xq Hg _,O4];refine aj (wpAny_pyNext_list_item hit hl hi λh1 sE ib=>?_);obtain⟨ot,hot,D8,nt,hdt⟩:=id ht;have DG:h1.get? a=some ot:=ib.extBut _ _ (SQ ht hit) hot;refine aj (gO (aj (wpAny_tryCatch ?_)));unfold Builtin.Dict.pairItems;refine aj (wpAny_typeOf (T:="tuple") #[ot,DG,D8] ?_);rw[aC (by decide)];unfold seqItems?;refine aj (aj (wpAny_load DG ?_));rw[hdt];refine aQ (aQ ?_);refine (show wpAny _ _ (holding [key,x] (dictSet d key x)) _ _ _ from gO (wpAny_dictSet_pairs hk (RW hd λo q=>ib.extBut _ _ md q) (λh2 hd2 pI=>?_) (by have:=bU;omega)));exact aQ #[plainId_quiet Hg _,hR h2 hd2 (λb o h3 h4 q=>pI.extBut _ _ h3 (ib.extBut _ _ h4 q)) (sE.extBut pI.extBut (Ne.symm md))]
theorem X6{kvs:List (K × Aa)}(md:d≠it)(hh:A.handled=none)(hi:its.toArray[i]? = none)(hit:s.heap.IsListIter it l i)(hl:s.heap.IsList l its.toArray)(hd:s.heap.DictOf knd d kvs)(hR:∀h',h'.DictOf knd d kvs->(∀b o,b≠it->s.heap.get? b=some o->h'.get? b=some o)->R (.ok (.ret .none)) { s with heap:=h' }) :
  codeAny (model prog w) A (.builtin "dict.update.loop" #[[.ref d,.ref it,.int i tk,.none],[]]) R s:=by
 refine codeAny_builtin Ru ?_;rw[xq Hg _,O4];refine aj (wpAny_pyNext_list_end hh hit hl hi λh' he=>?_);exact aj (m:=Builtin.Dict.addKeywords d []) (aQ (aQ (hR h' (RW hd λo q=>he _ _ md q) λb o hb q=>he b o hb q)))
theorem W_(DX:l≠it)(md:d≠it)(w4:d≠l)(hh:A.handled=none)(rest:List Aa):∀(ps:List (K × Aa)) (i:Nat) (kvs:List (K × Aa)) (s:Ab) (R:Result->Ab->Prop) (tk:Tok),its.drop i=rest->Lx knd s.heap rest ps->
  s.heap.IsListIter it l i->s.heap.IsList l its.toArray->s.heap.DictOf knd d kvs->kvs.length+ps.length<=1000->
  (∀h' eY,h'.DictOf knd d (gx kvs ps)->(∀b o,b≠d->b≠it->s.heap.get? b=some o->h'.get? b=some o)->R (.ok (.ret .none)) { s with heap:=h',toks:=eY })->
  codeAny (model prog w) A (.builtin "dict.update.loop" #[[.ref d,.ref it,.int i tk,.none],[]]) R s:=by
 induction rest with
 |nil=>
  intro ps i kvs s R tk e hp hit hl hd hz hR;cases hp
  have hi:its.toArray[i]? = none:=by
   have:=dF List.length e;simp only[List.length_drop,sW] at this;simp;omega
  exact X6 md hh hi hit hl hd λh' fJ kp=>hR h' s.toks fJ λb o _ hb q=>kp b o hb q
 |cons v rest ih=>
  intro ps i kvs s R tk e hp hit hl hd hz hR;cases hp with
  |@cons _ p _ ps h0 hr=>
  obtain⟨a,key,hv,ht,hk⟩:=h0;obtain⟨k,x⟩:=p;subst hv
  have hi:its.toArray[i]? = some (.ref a):=by
   have q:(its.drop i)[0]? = some (.ref a):=by rw[e];rfl
   rw[List.getElem?_drop] at q;simpa using q
  have e':its.drop (i+1)=rest:=by
   rw[<- List.drop_drop,e];rfl
  simp only[hX] at hz;refine Zl md hi ht hk hit hl hd Z1 λh2 hd2 kp u_=>?_;have c1:((i:Int)+1)=((i+1:Nat):Int):=by omega
  rw[c1];refine ih ps (i+1) (stored kvs k x) _ R 0 e' (L2.Paired.bo hr λv p ⟨b,ky,e1,t1,k1⟩=>#[b,ky,e1,?_,k1]) u_ (hl.at λo q=>kp _ _ (Ne.symm w4) DX q) hd2 (by have:=gd_ kvs k x;omega) λh' eY fJ Yl=>hR h' eY fJ λb o h3 h4 q=>Yl b o h3 h4 (kp b o h3 h4 q);obtain⟨o,ho,r⟩:=id t1;exact#[o,kp _ _ (eO_ t1 hd) (SQ t1 hit) ho,r]
theorem e4_{n:Nat}{ps:List (K × Aa)}{Q:Aa->Ab->Prop}(hh:A.handled=none)(ho:s.heap.get? l=some (seqObj "list" its.toArray n))(hp:Lx knd s.heap its ps)(hz:ps.length<=1000)(h:∀h' eY,h'.DictOf knd s.heap.objs.size (gx [] ps)->(∀b o,s.heap.get? b=some o->h'.get? b=some o)->Q (.ref s.heap.objs.size) { s with heap:=h',toks:=eY }) :
  wpAny (model prog w) A (call (.type "dict") [.ref l]) Q E s:=by
 refine callType_codes (Q₁:=λobj aN=>obj=.ref s.heap.objs.size/\aN={ s with heap:=s.heap.push { cls:=.type "dict",data:=.dict #[] } }) F.kt_called_dict (F.kt_typeCall_dict_1 _) F.entry_dict_init (kt_code_dict_new _ #[Z,Z]) ?_;rintro obj aN ⟨rfl,rfl⟩;have gA:(s.heap.push { cls:=.type "dict",data:=.dict #[] }).DictOf knd s.heap.objs.size []:=Heap.DictOf.new s.heap;have eB:(s.heap.push { cls:=.type "dict",data:=.dict #[] }).get? l=some (seqObj "list" its.toArray n):=bH _ ho;refine#[gA.typeIs,F.args_dict_init_2 _ _,?_];unfold Builtin.«dict.__init__» Builtin.Dict.selfAndRest;refine aj (aj (wpAny_notOrdered_dict gA.typeIs ?_));refine (show wpAny _ _ (pure (s.heap.objs.size,[Value.ref l])) _ _ _ from aQ ?_);refine (show wpAny _ _ (Builtin.Dict.updateFrom "dict.__init__" s.heap.objs.size (.ref l) [] .none) _ _ _ from ?_);unfold Builtin.Dict.updateFrom;refine aj (wpAny_typeOf (T:="list") #[_,eB,Z] ?_);rw[aC (by decide)];refine aj (yH eB hh λh2 tk2 k2=>?_);simp only[Option.isNone_none,if_true];have oX:h2.get? l=some (seqObj "list" its.toArray n):=k2 _ _ eB;refine aj (wpAny_rule (aj (wpAny_pyIter_list #[_,oX,Z,_,Z] ?_)));refine aQ #[plainId_quiet Hg _,?_];have all:∀{b o},s.heap.get? b=some o->(h2.push { cls:=.type "list_iterator",data:=.fields (List.toArray [.ref l,.int 0 0]) }).get? b=some o:=λq=>bH _ (k2 _ _ (bH _ q))
 have hd2:h2.DictOf knd s.heap.objs.size []:=by
  obtain⟨o,es,ep,ho,r⟩:=gA;exact#[o,es,ep,k2 _ _ ho,r]
 have Iv:s.heap.objs.size<h2.objs.size:=by
  obtain⟨o,es,ep,ho,r⟩:=hd2;exact bN ho
 have lz:l<s.heap.objs.size:=bN ho
 refine W_ (A:=A.in1) (knd:=knd) (its:=its) (it:=h2.objs.size) (l:=l) (d:=s.heap.objs.size) (dc (Nat.lt_trans lz Iv)) (dc Iv) (pY lz) hh its ps 0 [] _ _ 0 Z (L2.Paired.bo hp λv p ⟨b,ky,e1,t1,k1⟩=>#[b,ky,e1,t1.keeps λb o q=>all q,k1])
  #[_,dI _ Z,Z,Z] #[_,bH _ oX,Z,_,Z] (by
   obtain⟨o,es,ep,ho,r⟩:=hd2;exact#[o,es,ep,bH _ ho,r]) (by simpa using hz) λh' eY fJ kp=>#[Z,h h' eY fJ λb o q=>?_]
 have bl:b<s.heap.objs.size:=bN q;exact kp b o (dc bl) (dc (Nat.lt_trans bl Iv)) (all q)
end
end vR
namespace L2
open PySem PySem.Spec PyProof.Rows PySem.W Fu vR
variable{ys:List V}
theorem aY.same{K:ag}{H H':Hp}{ks:List (List Key)}(t:aY K H ys ks)(e:aa H H'):aY K H' ys ks:=Paired.bo t λy k ⟨a,z,q⟩=>#[a,z,e _ _ q]
theorem aa.new{H:Hp}{l:Addr}{o:HO}(h:H l=none):aa H (upd H l o):=λb u e=>by rw[ax (bI e h)];exact e
section
variable{X:Cx}{pins:List (Addr × Obj)}{σ:St}{H H':Hp}{s:Ab}{h':Heap}{t':Nat}
theorem Inv.many(I:Inv X pins σ H s)(k:∀b o,s.heap.get? b=some o->h'.get? b=some o)(hold:aa H H')(gA:∀b,H b=none->b<s.heap.objs.size->H' b=none)
  (hob:∀b o,H' b=some o->H b=none->∃xs its,o=.tup xs/\xs.length<=sizeLine/\Vals xs its/\IsTup h' b its.toArray/\∃o,h'.get? b=some o/\o.dict=none):Inv X pins σ H' { s with heap:=h',toks:=t' }:=by
 refine I.un #[λb o q _ _ _=>k b o q,λb o q _ _ _=>#[o.slots,k b o q],λb o q n _=>gA b n (bN q),λb o q _=>#[o,k b o q],λb xs q=>hold b _ q,λb o u q=>hold b _ q,λb ps q=>#[#[],by rw[Array.append_empty];exact hold b _ q]] λb o q=>?_;cases e:H b with
 |some u=>
  have e2:=hold b u e;rw[q] at e2;cases e2;exact (I.aF b o e).d9 (λc v _ z=>k c v z) (λc z=>hold c _ z) λc xs z=>hold c _ z
 |none=>
  obtain⟨xs,its,rfl,z,r,t⟩:=hob b o q e;exact#[z,its,r,t]
end
variable{R:List Aa->Ab->Prop}
section
variable{X:Cx}{pins:List (Addr × Obj)}{σ:St}{H:Hp}{s:Ab}{A:Ag}{E:Aa->Ab->Prop}
theorem Zg{p:Addr}(I:Inv X pins σ H s)(h:dB X.K H p ys)(hz:ys.length<=100000)(q:∀vs s1,Inv X pins σ H s1->Vals ys vs->R vs s1):wpAny (model X.prog X.w) A (collect (.ref p)) R E s:=by
 obtain⟨its,r,pl,_⟩:=I.list h;have hl:=r.length;refine collect_list pl.isList (q its _ ?_ r) (by have:=bU;omega);refine I.kept (t':=s.toks) λb u e=>?_;have lt:b<s.heap.objs.size:=bN e;rw[Heap.get?_update_ne _ _ _ _ (dc lt)];exact bH _ e
theorem Mf{P:Nat->Aa->Prop}{acc:Array Aa}(h:ItemsOf P acc ys.length)(hp:∀(j:Nat) v,P j v->∀y,ys[j]? = some y->RelV y v):Vals ys acc.toList:=by
 have gen:∀(ys:List V) (vs:List Aa),ys.length=vs.length->(∀(j:Nat) y v,ys[j]? = some y->vs[j]? = some v->RelV y v)->Vals ys vs:=λys=>by
  induction ys with
  |nil=>
   intro vs hl _;cases vs with
   |nil=>exact .nil
   |cons _ _=>cases hl
  |cons y ys ih=>
   intro vs hl h;cases vs with
   |nil=>cases hl
   |cons v vs=>exact .cons (h 0 y v Z Z) (ih vs (by simpa using hl) λj y v a b=>h (j+1) y v (by simpa using a) (by simpa using b))
 refine gen ys acc.toList (by rw[mN];exact h.1.symm) λj y v a b=>hp j v (h.2 j v ?_) y a;rw[<- Array.getElem?_toList];exact b
theorem Pa{d:Addr}{kvs:List (Key × V)}(I:Inv X pins σ H s)(h:Rd H d (.dK kvs)):∃(P:Nat->Aa->Prop) (OK:Heap->Prop),KdlSrc X.prog X.w "dict" d d (kvs.map λkv=>kV kv.1).length P OK/\OK s.heap/\∀(j:Nat) v,P j v->∀y,(kvs.map λkv=>kV kv.1)[j]? = some y->RelV y v:=by
 obtain⟨z,hd,vs,rel,dd⟩:=jQ I.aF h;obtain⟨ep,dat⟩:=dd.dictAt;have hl:=rel.length;refine#[λi v=>∃k x,vs[i]? = some (k,x)/\(dX X.prog X.w).is k v=true,λh=>h.DictAt (dX X.prog X.w) d vs ep,(by rw[aq,hl];exact kdl_dict (knd:=dX X.prog X.w) (kvs:=vs) (ep:=ep) hd),dat,λj v ⟨k,x,e,hk⟩ y hy=>?_];rw[dU] at hy;have ek:kvs.map (·.1)=vs.map (·.1):=rel.keys;have e2:(kvs.map (·.1))[j]? = (vs.map (·.1))[j]?:=by rw[ek]
 rw[dU,dU,e] at e2;cases e3:kvs[j]? with
 |none=>rw[e3] at e2;cases e2
 |some kv=>
  rw[e3] at e2 hy;have e4:kv.1=k:=dW e2;have e5:kV kv.1=y:=dW hy;rw[<- e5,e4];have hk:vx k v=true:=hk;rcases pX hk with⟨i,t,rfl,rfl⟩|⟨x,t,rfl,rfl⟩
  ·exact#[t,Z]
  ·exact#[t,Z]
theorem OW{d:Addr}{kvs:List (Key × V)}(hh:A.handled=none)(I:Inv X pins σ H s)(h:Rd H d (.dK kvs))(q:∀vs s1,Inv X pins σ H s1->Vals (kvs.map λkv=>kV kv.1) vs->R vs s1):wpAny (model X.prog X.w) A (collect (.ref d)) R E s:=by
 obtain⟨P,OK,S,ok,hp⟩:=Pa I h;refine kdu_collect S hh ok ?_ λh' tk acc k a=>q _ _ (I.kept k) (Mf a hp);rw[aq];exact (jQ I.aF h).1
theorem WY{d:Addr}{kvs:List (List Key × V)}(I:Inv X pins σ H s)(h:Rd H d (.dT kvs)):∃(ys:List V) (P:Nat->Aa->Prop) (OK:Heap->Prop),aY X.K H ys (kvs.map (·.1))/\ys.length<=sizeLine/\KdlSrc X.prog X.w "dict" d d ys.length P OK/\OK s.heap/\∀(j:Nat) v,P j v->∀y,ys[j]? = some y->RelV y v:=by
 obtain⟨z,hd,xs,rel,o,es,ep,ho,hc,vd,iX,nd⟩:=h.ok I.aF
 have l1:es.size=xs.length:=by
  have:=dF List.length iX;simpa using this
 have l2:=bE rel;refine#[xs.map λx=>V.ref x.2.1,λi v=>∃h:i<es.size,v=es[i].key,λh=>Raw h d es ep,?_,by rw[aq];omega,(by rw[aq,<- l1];exact Yq (es:=es) (ep:=ep) hd),#[o,ho,hc,vd],λj v ⟨hj,e⟩ y hy=>?_]
 ·have gen:∀{kvs:List (List Key × V)} {xs:List (List Key × Addr × Aa)},KT H kvs xs->aY X.K H (xs.map λx=>V.ref x.2.1) (kvs.map (·.1)):=λ{kvs xs} r=>by
   induction r with
   |nil=>exact .nil
   |cons h _ ih=>exact .cons #[_,Z,h.2.1] ih
  exact gen rel
 ·rw[dU] at hy;have hx:j<xs.length:=by omega
  rw[di hx] at hy;have e1:V.ref xs[j].2.1=y:=dW hy
  have e2:es[j]=entryOfKey (tupleKind (dX X.prog X.w)) xs[j]:=by
   have e3:es.toList[j]? = (xs.map (entryOfKey (tupleKind (dX X.prog X.w))))[j]?:=by rw[iX]
   rw[dU,di hx,Array.getElem?_toList,Array.getElem?_eq_getElem hj] at e3;exact dW e3
  rw[<- e1,e,e2];rfl
theorem XC{d:Addr}{kvs:List (List Key × V)}(hh:A.handled=none)(I:Inv X pins σ H s)(h:Rd H d (.dT kvs))(q:∀ys vs s1,Inv X pins σ H s1->Vals ys vs->aY X.K H ys (kvs.map (·.1))->R vs s1):wpAny (model X.prog X.w) A (collect (.ref d)) R E s:=by
 obtain⟨ys,P,OK,t,z,S,ok,hp⟩:=WY I h;exact kdu_collect S hh ok z λh' tk acc k a=>q ys _ _ (I.kept k) (Mf a hp) t
def sT(v d:Addr):HO:=.ext λh=>h.IsItemsView v d
def Av(v d:Addr):HO:=.ext λh=>h.IsValuesView v d
def i5(K:ag)(H:Hp):List V->List (Key × V)->Prop:=Paired λy p=>∃a,y=V.ref a/\H a=some (.tup [kV p.1,p.2])
theorem hU_{v d:Addr}{kvs:List (Key × V)}(hh:A.handled=none)(I:Inv X pins σ H s)(hv:H v=some (sT v d))(h:Rd H d (.dK kvs))(q:∀H1 ys vs s1,Inv X pins σ H1 s1->aa H H1->Vals ys vs->i5 X.K H1 ys kvs->R vs s1) :
  wpAny (model X.prog X.w) A (collect (.ref v)) R E s:=by
 obtain⟨z,hd,vs,rel,dd⟩:=jQ I.aF h;obtain⟨ep,dat⟩:=dd.dictAt;obtain⟨iv,_,_⟩:=I.aF v _ hv;have hl:=rel.length;refine kdx_collect (knd:=dX X.prog X.w) (kvs:=vs) (ep:=ep) hh iv dat Z1 λh' tk as k la G=>?_;have up:∀b,b∈as->s.heap.objs.size<b:=G.above
 have Nv:∀(j:Nat) b p,as[j]? = some b->kvs[j]? = some p->∃its,Vals [kV p.1,p.2] its/\IsTup h' b its.toArray/\∃o,h'.get? b=some o/\o.dict=none:=λj b p hj hp=>by
  obtain⟨key,kk,x,e1,e2,e3⟩:=G.pairs j b hj
  have gen:∀{kvs:List (Key × V)} {vs:List (Key × Aa)},KV kvs vs->∀(j:Nat),vs[j]? = some (kk,x)->kvs[j]? = some p->p.1=kk/\RelV p.2 x:=λ{kvs vs} r=>by
   induction r with
   |nil=>intro j e;simp at e
   |@cons p' q _ _ h _ ih=>
    intro j e e';cases j with
    |zero=>
     have e:q=(kk,x):=by simpa using e
     have e':p'=p:=by simpa using e'
     subst e';rw[e] at h;exact h
    |succ j=>exact ih j (by simpa using e) (by simpa using e')
  obtain⟨g1,g2⟩:=gen rel j e1 hp;refine#[[key,x],.cons ?_ (.cons g2 .nil),#[_,e3,Z,_,Z],_,e3,Z];rw[g1];have e2:vx kk key=true:=e2;rcases pX e2 with⟨i,t,rfl,rfl⟩|⟨x,t,rfl,rfl⟩
  ·exact#[t,Z]
  ·exact#[t,Z]
 have look:∀{as:List Addr} {kvs:List (Key × V)},as.Pairwise (· < ·)->∀(j:Nat) b p,as[j]? = some b->kvs[j]? = some p->(as.zip kvs).lookup b=some p:=λ{as}=>by
  induction as with
  |nil=>intro kvs _ j b p e;simp at e
  |cons a as ih=>
   intro kvs pw j b p e e';cases kvs with
   |nil=>simp at e'
   |cons q kvs=>
    obtain⟨p1,p2⟩:=List.pairwise_cons.mp pw;show ((a,q)::as.zip kvs).lookup b=some p;cases j with
    |zero=>
     have e:a=b:=by simpa using e
     have e':q=p:=by simpa using e'
     subst e;subst e';rw[List.lookup_cons_self]
    |succ j=>
     have e:as[j]? = some b:=by simpa using e
     have e':kvs[j]? = some p:=by simpa using e'
     have lt:=p1 b (cn e);rw[sX,show (b == a)=false by simp only[beq_eq_false_iff_ne];exact pY lt];exact ih p2 j b p e e'
 have lk:as.length=kvs.length:=by omega
 let H1:Hp:=λb=>if b∈as then ((as.zip kvs).lookup b).map λp=>HO.tup [kV p.1,p.2] else H b
 have Eb:∀(j:Nat) b p,as[j]? = some b->kvs[j]? = some p->H1 b=some (.tup [kV p.1,p.2]):=λj b p e e'=>by
  show (if b∈as then _ else _)=_;rw[aC (cn e),look G.rise j b p e e'];rfl
 have ou:∀b,b∉as->H1 b=H b:=λb hb=>ao hb;have old:∀b,b<s.heap.objs.size->b∉as:=λb hb m=>absurd (up b m) Z1;refine q H1 (as.map V.ref) _ _ (I.many (t':=tk) k (λb o e=>by rw[ou b (old b (I.aF.lt e))];exact e) (λb e hb=>by rw[ou b (old b hb)];exact e) λb o e e0=>?_) (λb o e=>by rw[ou b (old b (I.aF.lt e))];exact e) ?_ ?_
 ·by_cases m:b∈as
  ·obtain⟨j,hj⟩:=List.mem_iff_getElem?.mp m
   have jl:j<kvs.length:=by
    have:=(bP.mp hj).1;omega
   have e':=Eb j b kvs[j] hj (di jl);rw[e] at e';cases e';obtain⟨its,r,t⟩:=Nv j b _ hj (di jl);exact#[_,its,Z,by show 2<=sizeLine;decide,r,t]
  ·rw[ou b m,e0] at e;cases e
 ·have gen:∀as:List Addr,Vals (as.map V.ref) (as.map Value.ref):=λas=>by
   induction as with
   |nil=>exact .nil
   |cons a as ih=>exact .cons Z ih
  exact gen as
 ·have gen:∀(BD:List Addr) (eP:List (Key × V)),BD.length=eP.length->(∀(j:Nat) b p,BD[j]? = some b->eP[j]? = some p->H1 b=some (.tup [kV p.1,p.2]))->i5 X.K H1 (BD.map V.ref) eP:=λBD=>by
   induction BD with
   |nil=>
    intro eP hl _;cases eP with
    |nil=>exact .nil
    |cons _ _=>cases hl
   |cons a BD ih=>
    intro eP hl h;cases eP with
    |nil=>cases hl
    |cons p eP=>exact .cons #[a,Z,h 0 a p Z Z] (ih eP (by simpa using hl) λj b p e e'=>h (j+1) b p (by simpa using e) (by simpa using e'))
  exact gen as kvs lk Eb
end
theorem Z3{a b:List Str}(h:a.map c_=b.map c_):a=b:=by
 induction a generalizing b with
 |nil=>
  cases b with
  |nil=>rfl
  |cons _ _=>cases h
 |cons x a ih=>
  cases b with
  |nil=>cases h
  |cons y b=>
   obtain⟨h1,h2⟩:=List.cons.inj h;have h1:[(Sum.inr x:Key)]=[Sum.inr y]:=h1;cases h1;rw[ih h2]
theorem Sg(ss:List Str):(mF ss).map c_=aP (ss.map c_):=by
 have all:∀k∈aP (ss.map c_),∃x,k=c_ x:=λk hk=>by
  obtain⟨x,_,e⟩:=a_.mp ((ko _).mem_iff.mp hk);exact#[x,e.symm]
 have gen:∀l:List (List Key),(∀k∈l,∃x,k=c_ x)->(l.map λk=>match k with | [.inr x]=>x|_=>(⟨#[]⟩:Str)).map c_=l:=λl=>by
  induction l with
  |nil=>exact λ_=>rfl
  |cons k l ih=>
   intro h;obtain⟨x,rfl⟩:=h k dO;rw[dN,dN,ih λk hk=>h k (dP _ hk)];rfl
 exact gen _ all
theorem mI(ss:List Str):(mF ss).Perm ss:=by
 have p:((mF ss).map c_).Perm (ss.map c_):=by rw[Sg];exact ko _
 have back:∀l:List Str,(l.map c_).map (λk=>match k with | [.inr x]=>x|_=>(⟨#[]⟩:Str))=l:=λl=>by
  rw[bK]
  induction l with
  |nil=>rfl
  |cons x l ih=>rw[dN,ih];rfl
 have q:=p.map (λk=>match k with | [.inr x]=>x|_=>(⟨#[]⟩:Str));rwa [back,back] at q
variable{u:Aa}
section
variable{X:Cx}{pins:List (Addr × Obj)}{σ:St}{H:Hp}{s:Ab}
theorem ed_{ss:List Str}{Q:VK}(cg:ss.length<64)(mh:wpAny (model X.prog X.w) X.A.in1 (collect u) (λvs s1=>∃H1,Inv X pins σ H1 s1/\Vals (ss.map V.str) vs/\∀l,H1 l=none->Q (.ref l) (upd H1 l (.lst ((mF ss).map V.str)))) X.xe s) :
  wpAny (model X.prog X.w) X.A (call (.builtin "sorted") [u]) (EP X pins σ Q) X.xe s:=by
 refine SD (LL (ss.map c_)) (aJ mh λvs s1 ⟨H1,I1,r,q⟩=>?_);have hl:vs.length=ss.length:=by rw[<- r.length,aq]
 refine#[by omega,λh2 h' _=>_J (PL r) h2,λp h' e g up hD kp=>?_];have g':Good (ss.map c_).length p:=by rw[aq,<- hl];exact g
 have asc:=K1 (ks:=ss.map c_) (λi j _ _=>rfl) g' (by rw[aq,<- hl];exact up)
 have perm:(p.toList.map λi=>(ss.map c_).getD i []).Perm (ss.map c_):=by
  have:=E3 g' λi=>(ss.map c_).getD i [];rwa [Fh] at this
 have es:=M0 perm asc
 have inr:∀i∈p.toList,i<ss.length:=λi hi=>by
  have m:i∈(List.range vs.length).toArray:=g.mem_iff.mp (by simpa using hi);rw[hl] at m;simpa using m
 have e1:(p.toList.map λi=>ss.getD i ⟨#[]⟩)=mF ss:=by
  refine Z3 ?_;rw[Sg,<- es,bK];refine pA λi hi=>?_;have:=inr i hi;simp[this]
 have rv:=Ll r g
 have e2:(p.toList.map λi=>(ss.map V.str).getD i .non)=(mF ss).map V.str:=by
  rw[<- e1,bK];refine pA λi hi=>?_;have:=inr i hi;simp[this]
 rw[e2] at rv;refine#[.ref s1.heap.objs.size,_,I1.laid (t':=s1.toks) kp (aZ _) (show fb X.prog X.w _ h' _ (.lst ((mF ss).map V.str)) from #[?_,mC p vs,e,rv,hD]),Z,q _ (I1.aF.fresh (aZ _))];rw[aq,(mI ss).length_eq];have:=bU;omega
theorem _x{K:ag}{H:Hp}{ks:List (List Key)}(t:aY K H ys ks):∀l:List Nat,(∀i∈l,i<ys.length)->aY K H (l.map λi=>ys.getD i .non) (l.map λi=>ks.getD i []):=λl=>by
 induction l with
 |nil=>exact λ_=>.nil
 |cons i l ih=>
  intro h;refine .cons ?_ (ih λj hj=>h j (dP _ hj));have hi:=h i dO
  have gen:∀{ys:List V} {ks:List (List Key)} (i:Nat),i<ys.length->aY K H ys ks->∃a,ys.getD i .non=V.ref a/\H a=some (.tup ((ks.getD i []).map kV)):=λ{ys ks} i hy t=>by
   induction t generalizing i with
   |nil=>exact absurd hy Z2
   |cons h t ih=>
    cases i with
    |zero=>exact h
    |succ i=>exact ih i (by simpa using hy)
  exact gen i hi t
theorem SM{ks:List (List Key)}{sh:List Bool}{Q:VK}(cg:ks.length<64)(al:zR ks sh)(mh:wpAny (model X.prog X.w) X.A.in1 (collect u) (λvs s1=>∃H1 ys,Inv X pins σ H1 s1/\Vals ys vs/\aY X.K H1 ys ks/\∀l zs,H1 l=none->aY X.K H1 zs (aP ks)->zs.Perm ys->Q (.ref l) (upd H1 l (.lst zs))) X.xe s) :
  wpAny (model X.prog X.w) X.A (call (.builtin "sorted") [u]) (EP X pins σ Q) X.xe s:=by
 refine SD (LL ks) (aJ mh λvs s1 ⟨H1,ys,I1,r,t,q⟩=>?_);have l1:=r.length;have l2:=bE t;have hl:vs.length=ks.length:=by omega
 refine#[by omega,λh2 h' k=>RQ I1 r t al h2 k,λp h' e g up hD kp=>?_];have g':Good ks.length p:=by rw[<- hl];exact g
 have asc:=K1 (ks:=ks) (λi j _ _=>rfl) g' (by rw[<- hl];exact up)
 have perm:(p.toList.map λi=>ks.getD i []).Perm ks:=by
  have:=E3 g' λi=>ks.getD i [];rwa [Fh] at this
 have es:=M0 perm asc
 have inr:∀i∈p.toList,i<ys.length:=λi hi=>by
  have m:i∈(List.range vs.length).toArray:=g.mem_iff.mp (by simpa using hi);rw[<- l1] at m;simpa using m
 have tz:=_x t p.toList inr;rw[es] at tz;have rv:=Ll r g
 have pz:(p.toList.map λi=>ys.getD i .non).Perm ys:=by
  have:=E3 (n:=ys.length) (by rw[l1];exact g) λi=>ys.getD i .non;rwa [Fh] at this
 refine#[.ref s1.heap.objs.size,_,I1.laid (t':=s1.toks) kp (aZ _) (show fb X.prog X.w _ h' _ (.lst (p.toList.map λi=>ys.getD i .non)) from #[?_,mC p vs,e,rv,hD]),Z,q _ _ (I1.aF.fresh (aZ _)) tz pz];rw[pz.length_eq];have:=bU;omega
end
inductive nR (K:ag) (xs:List V) (H:Hp) (Q:VK):Prop
 |mk:∀d kvs sh,xs=[.ref d]->H d=some (.dT kvs)->zR (kvs.map (·.1)) sh->kvs.length<64->(∀l zs,H l=none->aY K H zs (aP (kvs.map (·.1)))->Q (.ref l) (upd H l (.lst zs)))->nR K xs H Q
variable{X:Cx}
theorem eC_(hc:X.calm=true):gJ X (.builtin "sorted") (nR X.K):=by
 intro pins s σ H xs us Q I r h;obtain⟨d,kvs,sh,rfl,hd,al,cg,q⟩:=h;obtain⟨u,rfl,ru⟩:=vals1 r;cases ru;exact SM (by rw[aq];exact cg) al (XC (I.ok.hd hc) I (.inl hd) λys vs s1 I1 r1 t=>⟨H,ys,I1,r1,t,λl zs n t' _=>q l zs n t'⟩)
inductive nU (xs:List V) (H:Hp) (Q:VK):Prop
 |mk:∀d kvs ss,xs=[.ref d]->H d=some (.dK kvs)->kvs.map (·.1)=ss.map Sum.inr->ss.length<64->(∀l,H l=none->Q (.ref l) (upd H l (.lst ((mF ss).map V.str))))->nU xs H Q
theorem f3_(hc:X.calm=true):gJ X (.builtin "sorted") nU:=by
 intro pins s σ H xs us Q I r h;obtain⟨d,kvs,ss,rfl,hd,ek,cg,q⟩:=h;obtain⟨u,rfl,ru⟩:=vals1 r;cases ru;refine ed_ cg (OW (I.ok.hd hc) I (.inl hd) λvs s1 I1 r1=>⟨H,I1,?_,q⟩)
 have e:(kvs.map λkv=>kV kv.1)=ss.map V.str:=by
  rw[show (kvs.map λkv=>kV kv.1)=(kvs.map (·.1)).map kV by rw[bK];rfl,ek,bK];rfl
 rwa [e] at r1
inductive rE (K:ag) (xs:List V) (H:Hp) (Q:VK):Prop
 |mk:∀(v d:Addr) (kvs:List (Key × V)) (ks:List (Key × Key)) (sh:List Bool),xs=[.ref v]->H v=some (sT v d)->H d=some (.dK kvs)->kvs=ks.map (λk:Key × Key=>(k.1,kV k.2))->zR (ks.map λk=>[k.1,k.2]) sh->ks.length<64->(∀l H1 zs,aa H H1->H1 l=none->aY K H1 zs (aP (ks.map λk=>[k.1,k.2]))->Q (.ref l) (upd H1 l (.lst zs)))->rE K xs H Q
theorem g8_(hc:X.calm=true):gJ X (.builtin "sorted") (rE X.K):=by
 intro pins s σ H xs us Q I r h;obtain⟨v,d,kvs,ks,sh,rfl,hv,hd,ek,al,cg,q⟩:=h;obtain⟨u,rfl,ru⟩:=vals1 r;cases ru;refine SM (by rw[aq];exact cg) al (hU_ (I.ok.hd hc) I hv (.inl hd) λH1 ys vs s1 I1 sm r1 t=>⟨H1,ys,I1,r1,?_,λl zs n t' _=>q l H1 zs sm n t'⟩);subst ek
 have gen:∀(ks:List (Key × Key)) (ys:List V),i5 X.K H1 ys (ks.map (λk:Key × Key=>(k.1,kV k.2)))->aY X.K H1 ys (ks.map λk=>[k.1,k.2]):=λks=>by
  induction ks with
  |nil=>
   intro ys t;cases t;exact .nil
  |cons k ks ih=>
   intro ys t;cases t with
   |cons h t=>exact .cons h (ih _ t)
 exact gen ks ys t
inductive rG (xs:List V) (H:Hp) (Q:VK):Prop
 |mk:∀d kvs,xs=[.ref d]->Rd H d (.dK kvs)->(∀l,H l=none->Q (.ref l) (upd H l (.lst (kvs.map λkv=>kV kv.1))))->rG xs H Q
theorem Ma(hc:X.calm=true):gJ X (.type "list") rG:=by
 intro pins s σ H xs us Q I r h;obtain⟨d,kvs,rfl,hd,q⟩:=h;obtain⟨u,rfl,ru⟩:=vals1 r;cases ru;obtain⟨P,OK,S,ok,hp⟩:=Pa I hd;have z:=(jQ I.aF hd).1;refine kdl_call S (I.ok.hd hc) ok (by rw[aq];exact z) λh' tk acc c k hD a=>?_;refine#[.ref s.heap.objs.size,_,I.laid (t':=tk) k (aZ _) (show fb X.prog X.w _ h' _ (.lst (kvs.map λkv=>kV kv.1)) from #[by rw[aq];exact z,acc.toList,c,Mf a hp,by rw[Array.toArray_toList];exact hD]),Z,q _ I.fresh]
theorem KV.gx{κ:Type}[DecidableEq κ]:∀{more:List (κ × V)} {rs:List (κ × Aa)} {kvs:List (κ × V)} {vs:List (κ × Aa)},KV more rs->KV kvs vs->KV (more.foldl (λacc kv=>putK acc kv.1 kv.2) kvs) (vR.gx vs rs):=λ{more rs kvs vs} h=>by
 induction h generalizing kvs vs with
 |nil=>exact λh=>h
 |@cons p q _ _ h _ ih=>
  intro h2;obtain⟨k,y⟩:=p;obtain⟨k',u⟩:=q;obtain⟨h1,h3⟩:=h;have h1:k=k':=h1;subst h1;exact ih (h2.put k h3)
inductive nZ (K:ag) (xs:List V) (H:Hp) (Q:VK):Prop
 |mk:∀p ys kvs,xs=[.ref p]->H p=some (.lst ys)->i5 K H ys kvs->kvs.length<=1000->(∀l,H l=none->Q (.ref l) (upd H l (.dK (oB [] kvs))))->nZ K xs H Q
theorem vK(hc:X.calm=true):gJ X (.type "dict") (nZ X.K):=by
 intro pins s σ H xs us Q I r h;obtain⟨p,ys,kvs,rfl,hp,t,hz,q⟩:=h;obtain⟨u,rfl,ru⟩:=vals1 r;cases ru;obtain⟨z,its,n,rv,hl,ho⟩:=I.iD hp
 have gen:∀{ys:List V} {its:List Aa} {kvs:List (Key × V)},Vals ys its->i5 X.K H ys kvs->∃ps,KV kvs ps/\Lx (dX X.prog X.w) s.heap its ps:=λ{ys its kvs} rv t=>by
  induction t generalizing its with
  |nil=>
   cases rv;exact#[[],.nil,.nil]
  |@cons y p ys kvs h t ih=>
   cases rv with
   |cons r0 rv=>
    obtain⟨ps,h1,h2⟩:=ih rv;obtain⟨a,e,sq⟩:=h;subst e;cases r0;obtain⟨tv,rt,it,_⟩:=I.tuple (fe.of sq);obtain⟨key,x,e2,rk,rx⟩:=vals2 rt;subst e2;refine#[(p.1,x)::ps,Paired.cons (show p.1=p.1/\RelV p.2 x from #[Z,rx]) h1,Paired.cons (show ∃a' Dh,Value.ref a=.ref a'/\IsTup s.heap a' (List.toArray [Dh,x])/\(dX X.prog X.w).is p.1 Dh=true from #[a,key,Z,it,tM rk]) h2]
 obtain⟨ps,h1,h2⟩:=gen rv t;have lp:=KV.length h1;refine e4_ (knd:=dX X.prog X.w) (I.ok.hd hc) ho h2 Z1 λh' tk hd kp=>?_;refine#[.ref s.heap.objs.size,_,I.laid (t':=tk) kp (aZ _) (Gq ?_ (beq_eq_false_iff_ne.mpr (Ne.symm (dc I.big))) (KV.gx h1 .nil) hd),Z,q _ I.fresh];have:=Nj kvs [];have:=bU;simp only[sW] at *;show (oB [] kvs).length<=sizeLine;omega
theorem LM:∀{bs:List Bool} {vs:List Aa},Vals (bs.map V.bl) vs->vs=bs.map Value.bool
 |[],_,.nil=>rfl
 |b::bs,_,.cons h t=>by
  cases h;rw[LM t];rfl
inductive yC (K:ag) (g:List Bool->Bool) (xs:List V) (H:Hp) (Q:VK):Prop
 |mk:∀p bs,xs=[.ref p]->dB K H p (bs.map V.bl)->Q (.bl (g bs)) H->yC K g xs H Q
theorem Q4(hc:X.calm=true):gJ X (.builtin "all") (yC X.K λbs=>bs.all id):=by
 intro pins s σ H xs us Q I r h;obtain⟨p,bs,rfl,hp,q⟩:=h;obtain⟨u,rfl,ru⟩:=vals1 r;cases ru;obtain⟨its,rv,pl,z⟩:=I.list hp;obtain rfl:=LM rv;have hl:=pl.isList;have lt:p<s.heap.objs.size:=by obtain⟨_,e,_⟩:=hl;exact bN e
 refine call_all_walk (wpAny_pyIter_list hl ⟨s.heap.objs.size,[s.heap.objs.size,p],[s.heap.objs.size],(bs.map Value.bool).toArray.size,_,_,λi=>(bs[i]?).getD true,rfl,Walks.list (A:=X.A.in1) (I.ok.hd hc) _ p (dc lt) _,⟨⟨_,dI _ rfl,rfl,rfl⟩,hl.push _⟩,λi v s' Q' E' hP hQ=>?_,λh' tk hk=>?_⟩)
 ·have hP:(bs.map Value.bool).toArray[i]? = some v:=hP;simp only[List.getElem?_toArray,dU] at hP;cases e:bs[i]? with
  |none=>rw[e] at hP;cases hP
  |some b=>
   have hQ:Q' ((bs[i]?).getD true) s':=hQ;rw[e] at hP hQ;cases hP;exact sP hQ
 ·have e:((List.range (bs.map Value.bool).toArray.size).all λi=>(bs[i]?).getD true)=bs.all id:=by
   rw[cE,aq];exact LSm.range_all bs
  rw[e];exact#[.bl _,H,I.kept (LSm.kept_iter hk),Z,q]
theorem ZG(hc:X.calm=true):gJ X (.builtin "any") (yC X.K λbs=>bs.any id):=by
 intro pins s σ H xs us Q I r h;obtain⟨p,bs,rfl,hp,q⟩:=h;obtain⟨u,rfl,ru⟩:=vals1 r;cases ru;obtain⟨its,rv,pl,z⟩:=I.list hp;obtain rfl:=LM rv;have hl:=pl.isList;have lt:p<s.heap.objs.size:=by obtain⟨_,e,_⟩:=hl;exact bN e
 refine call_any_walk (wpAny_pyIter_list hl #[s.heap.objs.size,[s.heap.objs.size,p],[s.heap.objs.size],(bs.map Value.bool).toArray.size,_,_,λi=>(bs[i]?).getD false,Z,Walks.list (A:=X.A.in1) (I.ok.hd hc) _ p (dc lt) _,#[#[_,dI _ Z,Z,Z],hl.push _],λi v s' Q' E' hP hQ=>?_,λh' tk hk=>?_])
 ·have hP:(bs.map Value.bool).toArray[i]? = some v:=hP;simp only[List.getElem?_toArray,dU] at hP;cases e:bs[i]? with
  |none=>rw[e] at hP;cases hP
  |some b=>
   have hQ:Q' ((bs[i]?).getD false) s':=hQ;rw[e] at hP hQ;cases hP;exact sP hQ
 ·have e:((List.range (bs.map Value.bool).toArray.size).any λi=>(bs[i]?).getD false)=bs.any id:=by
   rw[cE,aq];exact LSm.range_any bs
  rw[e];exact#[.bl _,H,I.kept (LSm.kept_iter hk),Z,q]
theorem Qr:∀{ns:List Int} {vs:List Aa},Vals (ns.map V.int) vs->IntsAre vs ns
 |[],_,.nil=>.nil
 |n::ns,_,.cons h t=>by
  obtain⟨tk,rfl⟩:=h;exact .cons _ _ (Qr t)
inductive Cw (K:ag) (xs:List V) (H:Hp) (Q:VK):Prop
 |mk:∀(p:Addr) (ns:List Int),xs=[.ref p]->dB K H p (ns.map V.int)->0<ns.length->(∀m,m∈ns->(∀a∈ns,a<=m)->Q (.int m) H)->Cw K xs H Q
theorem _s(hc:X.calm=true):gJ X (.builtin "max") (Cw X.K):=by
 intro pins s σ H xs us Q I r h;obtain⟨p,ns,rfl,hp,hn,q⟩:=h;obtain⟨u,rfl,ru⟩:=vals1 r;cases ru;obtain⟨its,rv,pl,z⟩:=I.list hp;have hi:=Qr rv;obtain⟨xs,e⟩:=hi.allInts.items;have hl:=pl.isList;have zc:ns=xs.toList.map (·.1):=by rw[<- hi.numsOf,<- nums_intItems,<- e]
 have hsz:0<xs.size:=by
  have h3:=hn;rw[zc] at h3;simpa using h3
 rw[e] at hl;refine max_intList (I.ok.hd hc) hl hsz λv h' tk hv hk=>?_;obtain⟨t,rfl⟩:=intItems_at hv;obtain⟨h1,h2⟩:=argBest_gt (numAt xs) (xs.size - 1);refine#[.int _,H,I.kept hk,#[t,Z],q _ ?_ λa ha=>?_]
 ·rw[zc,numAt_eq];exact getD_mem (by rw[aq,mN];omega)
 ·rw[zc] at ha;obtain⟨j,hj,rfl⟩:=mem_getD ha;rw[aq,mN] at hj;rw[<- numAt_eq];exact h2 j Z1
end L2
namespace HQ
open PySem PySem.SeqAt PyProof.Rows
open AutoSeq1 (wpAny_loadPart')
open MeetsSeq MeetsSeq2 MeetsSeq3 SeqRoads2
theorem Ws(l b:Addr)(xs ys:Array Aa)(n m:Nat)(dl db:Option Addr)(sl sb:Array (Option Aa))(hs:xs.size=ys.size)(e:Nat->Bool)(k:Nat) :
  ∀i:Nat,xs.size - i=k->Meets (Builtin.«list.__eq__.loop» #[[.ref l,.ref b,rawInt i,rawInt 3],[]])
   (λA R s=>(s.heap.get? l=some { cls:=.type "list",dict:=dl,data:=.seq xs n,slots:=sl }/\s.heap.get? b=some { cls:=.type "list",dict:=db,data:=.seq ys m,slots:=sb }) /\
    (∀j (h1:j<xs.size) (h2:j<ys.size),EqAt A.in1 s xs[j] ys[j] (e j))/\R (.ok (.ret (.bool (!((List.range xs.size).drop i).all e)))) s):=by
 induction k with
 |zero=>
  intro i hk prog w A R s ⟨⟨gl,gb⟩,he,h⟩;obtain⟨hp,g,d,tk,os⟩:=s
  wp_walk using kj gl,kj gb
  rw[show xs[((i:Nat):Int).toNat]? = none by simp;omega,show ys[((i:Nat):Int).toNat]? = none by simp;omega];rw[show (List.range xs.size).drop i=[] by simp;omega] at h
  wp_walk using kj gl,kj gb
  refine (show R (.ok (.ret (.bool (xs.size != ys.size)))) _ from ?_);rw[show (xs.size != ys.size)=false by simp[hs]];exact h
 |succ k ih=>
  intro i hk prog w A R s ⟨⟨gl,gb⟩,he,h⟩;obtain⟨hp,g,d,tk,os⟩:=s
  wp_walk using kj gl,kj gb
  have z1:i<xs.size:=by omega
  have z2:i<ys.size:=by omega
  have q1:xs[((i:Nat):Int).toNat]? = some xs[i]:=by simp[z1]
  have q2:ys[((i:Nat):Int).toNat]? = some ys[i]:=by simp[z2]
  rw[show (List.range xs.size).drop i=i::(List.range xs.size).drop (i+1) by simp[List.drop_eq_getElem_cons,z1],List.all_cons] at h;rw[q1,q2];refine aj (he i z1 z2 prog w _ _ ?_);cases c:e i with
  |true=>
   rw[c] at h
   wp_walk
   rw[show ((i:Int)+1)=((i+1:Nat):Int) by omega];refine#[plainId_quiet plain_eq_loop _,codeAny_builtin entry_eq_loop ?_];rw[xq plain_eq_loop _];exact ih (i+1) Z1 prog w A R _ #[#[gl,gb],he,by simpa using h]
  |false=>
   rw[c] at h
   wp_walk using kj gl,kj gb
   rw[q1,q2]
   wp_walk
   simpa using h
theorem _l(l b:Addr)(xs ys:Array Aa)(n m:Nat)(dl db:Option Addr)(sl sb:Array (Option Aa))(hs:xs.size=ys.size)(e:Nat->Bool) :
  Meets (Builtin.«list.__ne__» #[[.ref l,.ref b],[]])
   (λA R s=>(s.heap.get? l=some { cls:=.type "list",dict:=dl,data:=.seq xs n,slots:=sl }/\s.heap.get? b=some { cls:=.type "list",dict:=db,data:=.seq ys m,slots:=sb }) /\
    (∀j (h1:j<xs.size) (h2:j<ys.size),EqAt A.in1 s xs[j] ys[j] (e j))/\R (.ok (.ret (.bool (!(List.range xs.size).all e)))) s):=by
 intro prog w A R s ⟨⟨gl,gb⟩,he,h⟩;obtain⟨hp,g,d,tk,os⟩:=s;have f3:=AutoSeq1.sub_list_list;have no:¬(xs.size != ys.size)=true:=by simp[hs]
 wp_walk using kj gl,kj gb
 refine#[plainId_quiet plain_eq_loop _,codeAny_builtin entry_eq_loop ?_];rw[xq plain_eq_loop _];exact Ws l b xs ys n m dl db sl sb hs e _ 0 Z prog w A R _ #[#[gl,gb],he,by simpa using h]
theorem Zs(l b:Addr)(xs ys:Array Aa)(n m:Nat)(dl db:Option Addr)(sl sb:Array (Option Aa))(hs:(xs.size != ys.size)=true) :
  Meets (Builtin.«list.__ne__» #[[.ref l,.ref b],[]])
   (λA R s=>(s.heap.get? l=some { cls:=.type "list",dict:=dl,data:=.seq xs n,slots:=sl }/\s.heap.get? b=some { cls:=.type "list",dict:=db,data:=.seq ys m,slots:=sb })/\R (.ok (.ret (.bool true))) s):=
 .of_wp λprog w A R s ⟨⟨gl,gb⟩,h⟩=>by
  obtain⟨hp,g,d,tk,os⟩:=s;have f3:=AutoSeq1.sub_list_list
  wp_walk using kj gl,kj gb
  exact#[_,Z,h]
variable{b l:Addr}{xs ys:Array Aa}{E Q:Aa->Ab->Prop}{prog:Ad}{w:Af}{A:Ag}{s:Ab}
theorem oU{e:Nat->Bool}(hl:s.heap.IsList l xs)(hb:s.heap.IsList b ys)(hs:xs.size=ys.size)(hu:A.units<cLine)(he:∀j (h1:j<xs.size) (h2:j<ys.size),EqAt A.in1 s xs[j] ys[j] (e j))(h:Q (.bool (!(List.range xs.size).all e)) s):wpAny (model prog w) A (compareOp .NotEq (.ref l) (.ref b)) Q E s:=by
 obtain⟨⟨c1,d1,t1,l1⟩,o1,k1,n1,z1⟩:=id hl;obtain⟨⟨c2,d2,t2,l2⟩,o2,k2,n2,z2⟩:=id hb;simp only at k1 z1 k2 z2;subst k1 z1 k2 z2;exact richCompare_meets_room (op:=.NotEq) #[_,o1,Z] #[_,o2,Z] F.slot_list_ne F.entry_list_ne (F.args_list_ne_2 _ _) (_l l b xs ys n1 n2 d1 d2 l1 l2 hs e) #[#[o1,o2],he,show Value.bool (!(List.range xs.size).all e)≠Value.notImplemented/\Q (.bool (!(List.range xs.size).all e)) s from #[(λx=>nomatch x),h]] hu
theorem gq(hl:s.heap.IsList l xs)(hb:s.heap.IsList b ys)(hs:(xs.size != ys.size)=true)(hu:A.units<cLine)(h:Q (.bool true) s):wpAny (model prog w) A (compareOp .NotEq (.ref l) (.ref b)) Q E s:=by
 obtain⟨⟨c1,d1,t1,l1⟩,o1,k1,n1,z1⟩:=id hl;obtain⟨⟨c2,d2,t2,l2⟩,o2,k2,n2,z2⟩:=id hb;simp only at k1 z1 k2 z2;subst k1 z1 k2 z2;exact richCompare_meets_room (op:=.NotEq) #[_,o1,Z] #[_,o2,Z] F.slot_list_ne F.entry_list_ne (F.args_list_ne_2 _ _) (Zs l b xs ys n1 n2 d1 d2 l1 l2 hs) #[#[o1,o2],show Value.bool true≠Value.notImplemented/\Q (.bool true) s from #[(λx=>nomatch x),h]] hu
end HQ
namespace L2
open PySem PySem.Spec PyProof.Rows PySem.W Fu vR
abbrev Rp(D:Type):=Hp->V->D->Prop
structure ug (X:Cx) (n:Nat) {D:Type} [DecidableEq D] (R:Rp D):Prop where
 eq:∀{pins:List (Addr × Obj)} {σ:St} {H:Hp} {s:Ab} {A:Ag} {x y:V} {u v:Aa} {d e:D},Inv X pins σ H s->RelV x u->RelV y v->R H x d->R H y e->A.units+n<cLine->SeqAt.EqAt A s u v (decide (d=e))
 one:∀{pins:List (Addr × Obj)} {σ:St} {H:Hp} {s:Ab} {x:V} {d e:D},Inv X pins σ H s->R H x d->R H x e->d=e
def rS:Rp Str:=λ_ x d=>x=.str d
def r2(K:ag){D1 D2:Type}(R1:Rp D1)(R2:Rp D2):Rp (D1 × D2):=λH x d=>∃a u v,x=.ref a/\fe K H a [u,v]/\R1 H u d.1/\R2 H v d.2
def rL(K:ag){D:Type}(R:Rp D):Rp (List D):=λH x ds=>∃a xs,x=.ref a/\dB K H a xs/\Paired (R H) xs ds
variable{X:Cx}
theorem eQ:ug X 0 rS where
 eq:=λ{pins σ H s A x y u v d e} I ru rv hx hy hu=>by
  have hx:x=.str d:=hx;have hy:y=.str e:=hy;subst hx;subst hy;have q:=KI (A:=A) (s:=s) ru rv Z Z
  have e2:o4 (.str d) (.str e)=decide (d=e):=by
   show (d == e)=_;by_cases h:d=e
   ·subst h;simp
   ·simp[h]
  rwa [e2] at q
 one:=λ{pins σ H s x d e} I hx hy=>by
  have hx:x=.str d:=hx;have hy:x=.str e:=hy;rw[hx] at hy;exact V.str.inj hy
theorem Bv{h:Heap}{a:Addr}{its:Array Aa}(t:IsTup h a its):h.IsTuple a its:=t
variable{n:Nat}
theorem vv{m:Nat}{D1 D2:Type}[DecidableEq D1][DecidableEq D2]{R1:Rp D1}{R2:Rp D2}(c1:ug X n R1)(c2:ug X m R2):ug X (max n m+1) (r2 X.K R1 R2) where
 one:=λ{pins σ H s x d e} I hx hy=>by
  obtain⟨a,u,v,rfl,t,q1,q2⟩:=hx;obtain⟨b,u',v',e0,t',FU,FT⟩:=hy;cases e0;have e1:=I.fE t t';cases e1;exact Prod.ext (c1.one I q1 FU) (c2.one I q2 FT)
 eq:=λ{pins σ H s A x y u v d e} I ru rv hx hy hu=>by
  have JR:=hx;have hy':=hy;obtain⟨a,x1,x2,rfl,t,q1,q2⟩:=hx;obtain⟨b,y1,y2,rfl,t',FU,FT⟩:=hy;cases ru;cases rv;by_cases KF:a=b
  ·subst KF;have e1:=I.fE t t';cases e1;have:d=e:=Prod.ext (c1.one I q1 FU) (c2.one I q2 FT);rw[bW this];exact SeqAt.EqAt.same _
  ·obtain⟨its,r,it,_⟩:=I.tuple t;obtain⟨its',r',Dj,_⟩:=I.tuple t';obtain⟨u1,u2,rfl,r1,r2⟩:=vals2 r;obtain⟨w1,w2,rfl,CF,CD⟩:=vals2 r'
   have key:=SeqAt.EqAt.of_refs KF (SeqAt.RcAt.tuples (A:=A) (s:=s) (e:=λj=>if j=0 then decide (d.1=e.1) else decide (d.2=e.2)) (Bv it) (Bv Dj) Z1 λj h1 h2=>by
    match j,h1,h2 with
    |0,_,_=>exact c1.eq I r1 CF q1 FU (by show A.units+1+n<cLine;omega)
    |1,_,_=>exact c2.eq I r2 CD q2 FT (by show A.units+1+m<cLine;omega))
   have e3:((List.range (min [u1,u2].toArray.size [w1,w2].toArray.size)).all (λj=>if j=0 then decide (d.1=e.1) else decide (d.2=e.2))&&[u1,u2].toArray.size == [w1,w2].toArray.size)=decide (d=e):=by
    show (decide (d.1=e.1)&&(decide (d.2=e.2)&&true)&&true)=_;by_cases h1:d.1=e.1
    ·by_cases h2:d.2=e.2
     ·have:d=e:=Prod.ext h1 h2;simp[this]
     ·have:¬d=e:=λz=>h2 (by rw[z]);simp[h1,h2,this]
    ·have:¬d=e:=λz=>h1 (by rw[z]);simp[h1,this]
   rw[e3] at key;exact key
theorem az{α β:Type}{F:α->β->Prop}:∀{l:List α} {m:List β},Paired F l m->∀(i:Nat) (h1:i<l.length) (h2:i<m.length),F l[i] m[i]
 |_,_,.cons h t,0,_,_=>h
 |_,_,.cons h t,i+1,h1,h2=>az t i (by simpa using h1) (by simpa using h2)
theorem SL{D:Type}[DecidableEq D]:∀{ds es:List D},ds.length=es.length->((List.range ds.length).all λj=>decide (ds[j]? = es[j]?))=decide (ds=es):=λ{ds es} hl=>by
 by_cases h:ds=es
 ·subst h;simp
 ·rw[dA h]
  have:∃i,i<ds.length/\ds[i]?≠es[i]?:=by
   refine Bg λhn=>h ?_;apply List.ext_getElem?;intro i;by_cases hi:i<ds.length
   ·exact Bg λq=>hn #[i,hi,q]
   ·rw[List.getElem?_eq_none Z1,List.getElem?_eq_none Z1]
  obtain⟨i,hi,q⟩:=this;rw[List.all_eq_false];exact#[i,by simpa using hi,by simpa using q]
variable{pins:List (Addr × Obj)}{σ:St}{s:Ab}{A:Ag}
theorem Rk{D:Type}[DecidableEq D]{R:Rp D}(c:ug X n R){H:Hp}(I:Inv X pins σ H s){xs ys:List V}{us vs:List Aa}{ds es:List D}(ru:Vals xs us)(rv:Vals ys vs)(hx:Paired (R H) xs ds)(hy:Paired (R H) ys es)(hu:A.units+n<cLine) :
  ∀j (h1:j<us.toArray.size) (h2:j<vs.toArray.size),SeqAt.EqAt A s us.toArray[j] vs.toArray[j] (decide (ds[j]? = es[j]?)):=λj h1 h2=>by
 have l1:=ru.length;have l2:=rv.length;have l3:=bE hx;have l4:=bE hy;simp only[cE] at h1 h2;have q:=c.eq (A:=A) I (az ru j Z1 h1) (az rv j Z1 h2) (az hx j Z1 Z1) (az hy j Z1 Z1) hu
 have e:decide (ds[j]? = es[j]?)=decide (ds[j]' Z1=es[j]' Z1):=by
  rw[di Z1,di Z1];by_cases z:ds[j]' Z1=es[j]' Z1
  ·simp[z]
  ·simp[z]
 rw[e];exact q
def CA{D:Type}[DecidableEq D](R:Rp D)(neg:Bool):V->V->Hp->VK->Prop:=λx y H Q=>∃d e,R H x d/\R H y e/\Q (.bl (if neg then !decide (d=e) else decide (d=e))) H
theorem OZ{D:Type}[DecidableEq D]{R:Rp D}(c:ug X n R)(hu:X.A.units+n+1<cLine):dC X (compareOp .Eq) (CA (rL X.K R) false):=by
 intro pins s σ H x y v u Q I rx ry h;obtain⟨d,e,⟨a,xs,rfl,t,q⟩,⟨b,ys,rfl,t',q'⟩,hq⟩:=h;cases rx;cases ry;obtain⟨us,r,pl,_⟩:=I.list t;obtain⟨vs,r',uM,_⟩:=I.list t';have l1:=r.length;have l2:=r'.length;have l3:=bE q;have l4:=bE q';by_cases hl:d.length=e.length
 ·refine SeqAt.eq_listAt pl.isList uM.isList (by simp only[cE];omega) Z1 (Rk c I r r' q q' (A:=X.A.in1) (by show X.A.units+1+n<cLine;omega)) #[.bl _,H,I,Z,?_];rw[show us.toArray.size=d.length by simp only[cE];omega,SL hl];exact hq
 ·refine SeqAt.eq_list_lengthsAt pl.isList uM.isList (by simp only[cE,bne_iff_ne];omega) Z1 #[.bl _,H,I,Z,?_];have hq:Q (.bl (decide (d=e))) H:=hq;rwa [dA (λz=>hl (by rw[z]))] at hq
theorem WO{D:Type}[DecidableEq D]{R:Rp D}(c:ug X n R)(hu:X.A.units+n+1<cLine):dC X (compareOp .NotEq) (CA (rL X.K R) true):=by
 intro pins s σ H x y v u Q I rx ry h;obtain⟨d,e,⟨a,xs,rfl,t,q⟩,⟨b,ys,rfl,t',q'⟩,hq⟩:=h;cases rx;cases ry;obtain⟨us,r,pl,_⟩:=I.list t;obtain⟨vs,r',uM,_⟩:=I.list t';have l1:=r.length;have l2:=r'.length;have l3:=bE q;have l4:=bE q';have hq:Q (.bl (!decide (d=e))) H:=hq;by_cases hl:d.length=e.length
 ·refine HQ.oU pl.isList uM.isList (by simp only[cE];omega) Z1 (Rk c I r r' q q' (A:=X.A.in1) (by show X.A.units+1+n<cLine;omega)) #[.bl _,H,I,Z,?_];rw[show us.toArray.size=d.length by simp only[cE];omega,SL hl];exact hq
 ·refine HQ.gq pl.isList uM.isList (by simp only[cE,bne_iff_ne];omega) Z1 #[.bl _,H,I,Z,?_];rwa [dA (λz=>hl (by rw[z]))] at hq
def yB(K:ag){D:Type}[DecidableEq D](R:Rp D)(neg:Bool):V->V->Hp->VK->Prop:=λx y H Q=>∃d es,R H x d/\rL K R H y es/\Q (.bl (if neg then !decide (d∈es) else decide (d∈es))) H
theorem OU{D:Type}[DecidableEq D]{R:Rp D}(c:ug X n R){H:Hp}(I:Inv X pins σ H s){x:V}{u:Aa}{d:D}(ru:RelV x u)(hx:R H x d)(hu:A.units+n<cLine):∀{ys:List V} {vs:List Aa} {es:List D},Vals ys vs->Paired (R H) ys es->
  ∃f:Aa->Bool,(∀w∈vs,SeqAt.EqAt A s w u (f w))/\vs.any f=decide (d∈es):=λ{ys vs es} rv hy=>by
 let f:Aa->Bool:=λw=>@decide (∃y e,RelV y w/\R H y e/\e=d) (Classical.propDecidable _)
 have sound:∀y w e,RelV y w->R H y e->f w=decide (e=d):=λy w e h1 h2=>by
  by_cases z:e=d
  ·rw[bW z];exact @bW _ (Classical.propDecidable _) #[y,e,h1,h2,z]
  ·rw[dA z];refine @dA _ (Classical.propDecidable _) λ⟨y',e',g1,g2,g3⟩=>z ?_;have:y'=y:=RelV.inj g1 h1;subst this;rw[<- g3];exact c.one I h2 g2
 refine#[f,?_,?_]
 ·induction rv generalizing es with
  |nil=>exact λw hw=>nomatch hw
  |cons h t ih=>
   cases hy with
   |cons g t'=>
    intro w hw;rcases bO.mp hw with rfl|hw
    ·rw[sound _ _ _ h g];exact c.eq I h ru g hx hu
    ·exact ih t' w hw
 ·induction rv generalizing es with
  |nil=>
   cases hy;simp
  |cons h t ih=>
   cases hy with
   |@cons _ e _ es g t'=>
    rw[List.any_cons,ih t',sound _ _ _ h g];by_cases z:e=d
    ·subst z;simp
    ·by_cases z2:d∈es
     ·simp[z2]
     ·have:¬d∈e::es:=λq=>by
       rcases bO.mp q with q|q
       ·exact z q.symm
       ·exact z2 q
      rw[dA z,dA z2,dA this];rfl
theorem El{D:Type}[DecidableEq D]{R:Rp D}(c:ug X n R)(hu:X.A.units+n+1<cLine):dC X (compareOp .In) (yB X.K R false):=by
 intro pins s σ H x y v u Q I rx ry h;obtain⟨d,es,hx,⟨a,ys,rfl,t,q⟩,hq⟩:=h;cases ry;obtain⟨us,r,pl,_⟩:=I.list t;obtain⟨f,h1,h2⟩:=OU c I (A:=X.A.in1) rx hx (by show X.A.units+1+n<cLine;omega) r q;refine SeqAt.in_listAt f pl.isList (λw hw=>h1 w (by simpa using hw)) #[.bl _,H,I,Z,?_];rw[show us.toArray.any f=us.any f by simp,h2];exact hq
theorem M5{D:Type}[DecidableEq D]{R:Rp D}(c:ug X n R)(hu:X.A.units+n+1<cLine):dC X (compareOp .NotIn) (yB X.K R true):=by
 intro pins s σ H x y v u Q I rx ry h;obtain⟨d,es,hx,⟨a,ys,rfl,t,q⟩,hq⟩:=h;cases ry;obtain⟨us,r,pl,_⟩:=I.list t;obtain⟨f,h1,h2⟩:=OU c I (A:=X.A.in1) rx hx (by show X.A.units+1+n<cLine;omega) r q;refine SeqAt.notIn_listAt f pl.isList (λw hw=>h1 w (by simpa using hw)) #[.bl _,H,I,Z,?_];rw[show us.toArray.any f=us.any f by simp,h2];exact hq
inductive yA (K:ag) (xs:List V) (H:Hp) (Q:VK):Prop
 |mk:∀x T t b,xs=[x,.ty T]->eW K H x t->PySem.W.kitOne K t (.type T)=some b->Q (.bl b) H->yA K xs H Q
theorem jW:gJ X (.builtin "isinstance") (yA X.K):=by
 intro pins s σ H xs us Q I r h;obtain⟨x,T,t,b,rfl,ty,e,q⟩:=h;obtain⟨u,w',rfl,ru,iz⟩:=vals2 r;cases (show w'=Value.type T from iz);exact RD I ru ty e λtk=>#[.bl b,H,I.tok tk,Z,q]
inductive SY (x:V) (y:V) (H:Hp) (Q:VK):Prop
 |mk:∀i j,x=.str i->y=.str j->Q (.bl (!decide (j.cps.toList<i.cps.toList))) H->SY x y H Q
theorem RO:dC X (compareOp .LtE) SY:=by
 intro pins s σ H x y v u Q I rx ry h;obtain⟨i,j,rfl,rfl,q⟩:=h;obtain⟨t,rfl⟩:=rx;obtain⟨t',rfl⟩:=ry;exact PySem.P.le_str ⟨.bl _,H,I,rfl,q⟩
inductive p9 (mk:Addr->Addr->HO) (Q:VK) (x:V) (H1:Hp):Prop
 |mk:∀d kvs,x=.ref d->H1 d=some (.dK kvs)->(∀v,H1 v=none->Q (.ref v) (upd H1 v (mk v d)))->p9 mk Q x H1
def vW(mk:Addr->Addr->HO)(td:TE):TE:=λσ H Q=>td σ H λx H1=>p9 mk Q x H1
variable{H:Hp}{d:Addr}
theorem QK{cls:String}(I:Inv X pins σ H s)(φ:Heap->Prop)(_P:φ (s.heap.push { cls:=.type cls,data:=.fields (List.toArray [.ref d]) }))(hs:∀h1 h2:Heap,φ h1->(∀o,h1.get? s.heap.objs.size=some o->h2.get? s.heap.objs.size=some o)->φ h2) :
  Inv X pins σ (upd H s.heap.objs.size (.ext φ)) { s with heap:=s.heap.push { cls:=.type cls,data:=.fields (List.toArray [.ref d]) } }:=
 I.laid (t':=s.toks) (λ_ _ q=>bH _ q) (aZ _) #[_P,#[_,dI _ Z],hs]
variable{o:Expr}{td:TE}{apos bR:Pos}
theorem GZ(ho:PE X o td)(jG:attributeBase o "items" X.env (eval o X.env)=eval o X.env:=by rfl)(jD:(apos.endLine == bR.line)=true:=by rfl):PE X (.Call (.Attribute o "items" apos) [] [] bR) (vW sT td):=by
 intro pins s σ H Q I h;refine wpAny_Call_method0_late jG jD (aJ (ho pins s σ H _ I h) λv s1 ⟨x,H1,I1,r1,d,kvs,e,hd,q⟩=>?_);subst e;cases r1;obtain⟨t1,t2,t3⟩:=JO I1 (.inl #[kvs,.inl hd]);obtain⟨_,_,vs,rel,dd⟩:=xi I1.aF hd;refine#["dict","dict.items",PySem.F.plainAttrs_dict,PySem.F.slot_dict_items,PySem.F.type_dict_items,t1,t2,Calls.callWith_builtin Z (PySem.evalArgs_none ?_)];refine call_meetsIn PySem.F.slot_dict_items t1 PySem.F.entry_dict_items (PySem.F.args_dict_items_1 _) (meets_dict_items (dX X.prog X.w) d t3) #[#[vs,dd],?_];exact#[.ref _,_,QK I1 _ #[_,dI _ Z,Z,Z] λh1 h2 ⟨o,e,r⟩ k=>#[o,k o e,r],Z,q _ I1.fresh]
theorem gC_(ho:PE X o td)(jG:attributeBase o "values" X.env (eval o X.env)=eval o X.env:=by rfl)(jD:(apos.endLine == bR.line)=true:=by rfl):PE X (.Call (.Attribute o "values" apos) [] [] bR) (vW Av td):=by
 intro pins s σ H Q I h;refine wpAny_Call_method0_late jG jD (aJ (ho pins s σ H _ I h) λv s1 ⟨x,H1,I1,r1,d,kvs,e,hd,q⟩=>?_);subst e;cases r1;obtain⟨t1,t2,t3⟩:=JO I1 (.inl #[kvs,.inl hd]);obtain⟨_,_,vs,rel,dd⟩:=xi I1.aF hd;refine#["dict","dict.values",PySem.F.plainAttrs_dict,PySem.F.slot_dict_values,PySem.F.type_dict_values,t1,t2,Calls.callWith_builtin Z (PySem.evalArgs_none ?_)];refine call_meetsIn PySem.F.slot_dict_values t1 PySem.F.entry_dict_values (PySem.F.args_dict_values_1 _) (meets_dict_values (dX X.prog X.w) d t3) #[#[vs,dd],?_];exact#[.ref _,_,QK I1 _ #[_,dI _ Z,Z,Z] λh1 h2 ⟨o,e,r⟩ k=>#[o,k o e,r],Z,q _ I1.fresh]
variable{kvs:List (Key × V)}
theorem Inv.freeze(I:Inv X pins σ H s)(h:H d=some (.dK kvs)):∃o,s.heap.get? d=some o/\Inv X pins σ (upd H d (.frz o (.dK kvs))) s:=by
 obtain⟨z,hd,vs,rel,dd⟩:=xi I.aF h;obtain⟨o,es,ep,ho,r⟩:=id dd;have other:∀{b u},H b=some u->u≠.dK kvs->upd H d (.frz o (.dK kvs)) b=some u:=λ{b u} e ne=>by rw[ax (bZ e h ne)];exact e
 refine#[o,ho,I.un (h':=s.heap) (t':=s.toks) #[λb u q _ _ _=>q,λb u q _ _ _=>#[u.slots,q],λb u q n _=>?_,λb u q _=>#[u,q],λb xs q=>other q Z2,λb u v q=>other q Z2,λb ps q=>#[#[],by rw[Array.append_empty];exact other q Z2]] λb u q=>?_]
 ·by_cases e:b=d
  ·subst e;rw[h] at n;cases n
  ·rw[ax e];exact n
 ·by_cases e:b=d
  ·subst e;rw[ay] at q;cases q;exact#[ho,z,hd,vs,rel,dd]
  ·rw[ax e] at q;exact (I.aF b u q).d9 (λc v _ z=>z) (λc z=>other z Z2) λc xs z=>other z Z2
variable{o:Obj}
theorem Inv.kC(I:Inv X pins σ H s)(h:H d=some (.frz o (.dK kvs)))(h0:∀o u,X.j1 d≠some (.frz o u)):Inv X pins σ (upd H d (.dK kvs)) s:=by
 have other:∀{b u},H b=some u->(∀o v,u≠.frz o v)->upd H d (.dK kvs) b=some u:=λ{b u} e ne=>by rw[ax (bZ e h (ne _ _))];exact e
 have gn:∀{b},H b=none->upd H d (.dK kvs) b=none:=λ{b} e=>by
  rw[ax (λz=>by subst z;rw[h] at e;cases e)];exact e
 refine#[I.ok,I.os,I.bare,#[I.base.keep,I.base.slot,λb u q n hx=>gn (I.base.free b u q n hx),I.base.there,λb xs q=>other (I.base.iq b xs q) Z2,λb u v q=>?_,λb ps q=>?_],I.loc,I.cell,gn I.free,λx c e=>gn (I.dM x c e),λp hp=>?_,λb u q=>?_,I.len]
 ·have:=I.base.fX b u v q;rw[ax (λz=>by subst z;exact h0 _ _ q)];exact this
 ·obtain⟨more,e⟩:=I.base.gX b ps q;exact#[more,other e Z2]
 ·obtain⟨a1,a2,a3⟩:=I.pin p hp;exact#[a1,gn a2,a3]
 ·by_cases e:b=d
  ·subst e;rw[ay] at q;cases q;obtain⟨ho,z,hd,vs,rel,dd⟩:=I.aF b _ h;exact#[z,hd,vs,rel,dd]
  ·rw[ax e] at q;exact (I.aF b u q).d9 (λc v _ z=>z) (λc z=>other z Z2) λc xs z=>other z Z2
def BY(t:TE):TE:=λσ H Q=>∃d kvs,H d=some (.dK kvs)/\t σ H λv H1=>∃o,H1 d=some (.frz o (.dK kvs))/\Q v (upd H1 d (.dK kvs))
variable{e:Expr}
theorem Yo{t:TE}(h:PE X e t):PE X e (BY t):=by
 intro pins s σ H Q I q;obtain⟨d,kvs,hd,q⟩:=q;refine aJ (h pins s σ H _ I q) λu s' ⟨v,H1,I1,r,o,hf,q1⟩=>#[v,_,I1.kC hf (λo u z=>?_),r,q1];have:=I.base.fX _ _ _ z;rw[hd] at this;cases this
def TC(d:Addr)(o:Obj)(kvs:List (Key × V)):It:=#[λi H=>H d=some (.frz o (.dK kvs))/\i<kvs.length,λi H x H'=>H'=H/\∃k,kvs[i]? = some (k,x),λi H=>H d=some (.frz o (.dK kvs))/\kvs.length<=i]
variable{es:Array DictEntry}{ep:Nat}
theorem Bw(I:Inv X pins σ H s)(h:H d=some (.frz o (.dK kvs)))(ho:o.data=.dict es ep):∃vs,KV kvs vs/\s.heap.DictAt (dX X.prog X.w) d vs ep:=by
 obtain⟨e,z,hd,vs,rel,o',mm,GB,e',c',d',r⟩:=I.aF d _ h;rw[e] at e';cases e';rw[ho] at d';cases d';exact#[vs,rel,o,es,e,c',ho,r]
theorem JY{κ:Type}{kvs:List (κ × V)}{vs:List (κ × Aa)}(r:KV kvs vs):∀(i:Nat) {k:κ} {x:V},kvs[i]? = some (k,x)->∃u,vs[i]? = some (k,u)/\RelV x u:=by
 induction r with
 |nil=>intro i k x e;simp at e
 |@cons p q _ _ h _ ih=>
  intro i k x e;cases i with
  |zero=>
   have e:p=(k,x):=by simpa using e
   subst e;refine#[q.2,?_,h.2];rw[List.getElem?_cons_zero];have h1:k=q.1:=h.1;rw[h1]
  |succ i=>exact ih i (by simpa using e)
variable{P:Ad}{w:Af}{K:ag}{tg:Expr}
theorem hP_(d it:Addr)(o:Obj)(kvs:List (Key × V))(ho:o.data=.dict es ep):Turn P w K tg (TC d o kvs) [it] it (λi h=>h.IsValIter it d i kvs.length ep) where
 mem:=by simp
 obj:=λi h st b hb=>by
  obtain rfl:b=it:=by simpa using hb
  obtain⟨o,e,c,d⟩:=st;exact#[o,e,λv z=>by rw[d] at z;cases z]
 keep:=λi h h' st k=>st.at λo e=>k it Z2 o e
 item:=by
  intro X hP hw hK hc i pins s σ H E I hf st hg;subst hP hw hK;obtain⟨hd,hi⟩:=hg;obtain⟨vs,rel,dat⟩:=Bw I hd ho;obtain⟨⟨k,x⟩,hx⟩:∃p,kvs[i]? = some p:=#[kvs[i],by simp[hi]];obtain⟨u,hu,ru⟩:=JY rel i hx;obtain⟨f0,f1,f2,f3,f4,f5⟩:=hf it Z2;rw[rel.length] at st;refine wpAny_pyNext_values_item st dat hu λh' dY sb=>?_;have I1:Inv X pins σ H { s with heap:=h' }:=I.turned (t':=s.toks) (λb o hb e=>(sb.2 b hb).trans e) f0 f1 f3 f4 f5;obtain⟨o',e,c,dd⟩:=id dY;refine#[u,Z,zI (s:={ s with heap:=h' }) e c dd (by decide) #[x,H,I1,ru,#[Z,k,hx],?_,λb hb=>(hf b hb).1]];show h'.IsValIter it d (i+1) kvs.length ep;rw[rel.length];exact dY
 done:=by
  intro X hP hw hK hc i pins s σ H E I hf st hg;subst hP hw hK;obtain⟨hd,hi⟩:=hg;obtain⟨vs,rel,dat⟩:=Bw I hd ho;obtain⟨f0,f1,f2,f3,f4,f5⟩:=hf it Z2;rw[rel.length] at st hi;exact wpAny_pyNext_values_end (I.ok.hd hc) st dat (by simp;omega) λh' eb=>#[Z,I.turned (t':=s.toks) (λb o hb e=>eb b o hb e) f0 f1 f3 f4 f5]
 self:=λ_ _ _ _ _ st h=>wpAny_pyIter_valiter st h
inductive rX (R:It->Hp->Prop) (x:V) (H1:Hp):Prop
 |mk:∀v d kvs,x=.ref v->H1 v=some (Av v d)->H1 d=some (.dK kvs)->(∀o,R (TC d o kvs) (upd H1 d (.frz o (.dK kvs))))->rX R x H1
def Dn(tv:TE):TI:=λσ H R=>tv σ H λx H1=>rX R x H1
theorem Yg{tv:TE}(he:PE X e tv):PI X tg e (Dn tv):=by
 intro pins s σ H R I h;refine aJ (he pins s σ H _ I h) λu s1 ⟨x,H1,I1,r1,v,d,kvs,ex,hv,hd,q⟩=>?_;subst ex;cases r1;obtain⟨iv,_,_⟩:=I1.aF v _ hv;obtain⟨o,ho,I2⟩:=I1.freeze hd;obtain⟨z,_,vs,rel,o',es,ep,eZ,c',dt,r⟩:=xi I1.aF hd;rw[ho] at eZ;cases eZ;have jC:v≠d:=bZ hv hd nofun;refine wpAny_pyIter_values (knd:=dX X.prog X.w) (kvs:=vs) (ep:=ep) iv #[o,es,ho,c',dt,r] ?_;refine#[s1.heap.objs.size,[s1.heap.objs.size],_,_,_,Z,I2.kept (t':=s1.toks) λb o e=>bH _ e,hP_ d _ o kvs dt,?_,λb hb=>?_,q o]
 ·rw[rel.length];exact#[_,dI _ Z,Z,Z]
 ·obtain rfl:b=s1.heap.objs.size:=by simpa using hb
  exact I2.hJ (aZ _) (I2.aF.fresh (aZ _))
def NG(x:Str):It:=#[λi _=>i<x.cps.size,λi H v H'=>H'=H/\∃c,x.cps[i]? = some c/\v=.str ⟨(List.toArray [c])⟩,λi _=>x.cps.size<=i]
theorem fR_(it:Addr)(x:Str)(t:Tok):Turn P w K tg (NG x) [it] it (λi h=>i<=x.cps.size/\h.IsStrIter it "str_ascii_iterator" x t i) where
 mem:=by simp
 obj:=λi h st b hb=>by
  obtain rfl:b=it:=by simpa using hb
  obtain⟨o,e,c,d⟩:=st.2;exact#[o,e,λv z=>by rw[d] at z;cases z]
 keep:=λi h h' st k=>#[st.1,let #[o,ho,r]:=st.2;#[o,k it Z2 o ho,r]]
 item:=by
  intro X hP hw hK hc i pins s σ H E I hf st hg;subst hP hw hK;have hg:i<x.cps.size:=hg;obtain⟨f0,f1,f2,f3,f4,f5⟩:=hf it Z2;refine wpAny_pyNext_ascii_item st.2 (c:=x.cps[i]) (by simp[hg]) λh' dY sb=>?_;have I1:Inv X pins σ H { s with heap:=h',toks:=s.toks+1 }:=I.turned (t':=s.toks+1) (λb o hb e=>(sb.2 b hb).trans e) f0 f1 f3 f4 f5;obtain⟨o',e,c,dd⟩:=id dY;exact#[_,Z,zI (s:={ s with heap:=h',toks:=s.toks+1 }) e c dd (by decide) #[.str ⟨#[x.cps[i]]⟩,H,I1,#[_,Z],#[Z,_,by simp[hg],Z],#[hg,dY],λb hb=>(hf b hb).1]]
 done:=by
  intro X hP hw hK hc i pins s σ H E I hf st hg;subst hP hw hK;have hg:x.cps.size<=i:=hg;obtain⟨f0,f1,f2,f3,f4,f5⟩:=hf it Z2;exact wpAny_pyNext_ascii_end (I.ok.hd hc) st.2 (by simp[hg]) λh' eb=>#[Z,I.turned (t':=s.toks) (λb o hb e=>eb b o hb e) f0 f1 f3 f4 f5]
 self:=λ_ _ _ _ _ st h=>wpAny_pyIter_striter_ascii st.2 h
theorem hL_(it:Addr)(x:Str)(t:Tok):Turn P w K tg (NG x) [it] it (λi h=>i<=x.cps.size/\h.IsStrIter it "str_iterator" x t i) where
 mem:=by simp
 obj:=λi h st b hb=>by
  obtain rfl:b=it:=by simpa using hb
  obtain⟨o,e,c,d⟩:=st.2;exact#[o,e,λv z=>by rw[d] at z;cases z]
 keep:=λi h h' st k=>#[st.1,let #[o,ho,r]:=st.2;#[o,k it Z2 o ho,r]]
 item:=by
  intro X hP hw hK hc i pins s σ H E I hf st hg;subst hP hw hK;have hg:i<x.cps.size:=hg;obtain⟨f0,f1,f2,f3,f4,f5⟩:=hf it Z2;refine wpAny_pyNext_wide_item st.2 (c:=x.cps[i]) (by simp[hg]) λh' dY sb=>?_;have I1:Inv X pins σ H { s with heap:=h',toks:=s.toks+1 }:=I.turned (t':=s.toks+1) (λb o hb e=>(sb.2 b hb).trans e) f0 f1 f3 f4 f5;obtain⟨o',e,c,dd⟩:=id dY;exact#[_,Z,zI (s:={ s with heap:=h',toks:=s.toks+1 }) e c dd (by decide) #[.str ⟨#[x.cps[i]]⟩,H,I1,#[_,Z],#[Z,_,by simp[hg],Z],#[hg,dY],λb hb=>(hf b hb).1]]
 done:=by
  intro X hP hw hK hc i pins s σ H E I hf st hg;subst hP hw hK;have hg:x.cps.size<=i:=hg;obtain⟨f0,f1,f2,f3,f4,f5⟩:=hf it Z2;exact wpAny_pyNext_wide_end (I.ok.hd hc) st.2 (by simp[hg]) λh' eb=>#[Z,I.turned (t':=s.toks) (λb o hb e=>eb b o hb e) f0 f1 f3 f4 f5]
 self:=λ_ _ _ _ _ st h=>wpAny_pyIter_striter_wide st.2 h
inductive wV (R:It->Hp->Prop) (v:V) (H1:Hp):Prop
 |mk:∀x,v=.str x->R (NG x) H1->wV R v H1
def JN(tl:TE):TI:=λσ H R=>tl σ H λv H1=>wV R v H1
theorem Xd{l:Expr}{tl:TE}(hl:PE X l tl):PI X tg l (JN tl):=by
 intro pins s σ H R I h;refine aJ (hl pins s σ H _ I h) λv s1 ⟨y,H1,I1,r1,x,e,q⟩=>?_;subst e;obtain⟨t,rfl⟩:=r1
 have fp:∀b∈[s1.heap.objs.size],ck X pins H1 b:=λb hb=>by
  obtain rfl:b=s1.heap.objs.size:=by simpa using hb
  exact I1.hJ (aZ _) (I1.aF.fresh (aZ _))
 cases ha:x.cps.all (· < 128)
 ·refine wpAny_pyIter_wide ha ?_;exact#[s1.heap.objs.size,[s1.heap.objs.size],_,_,H1,Z,I1.kept (t':=s1.toks) λb o e=>bH _ e,hL_ _ x t,#[fB _,_,dI _ Z,Z,Z],fp,q]
 ·refine wpAny_pyIter_ascii ha ?_;exact#[s1.heap.objs.size,[s1.heap.objs.size],_,_,H1,Z,I1.kept (t':=s1.toks) λb o e=>bH _ e,fR_ _ x t,#[fB _,_,dI _ Z,Z,Z],fp,q]
theorem I0{f:Aa->Aa->Sem Aa}(r:ag->R2)(h:dC X f (r X.K))(hK:X.K=K:=by rfl):dC X f (r K):=by
 subst hK;exact h
theorem xp{f:Aa}(r:ag->List V->Hp->VK->Prop)(h:gJ X f (r X.K))(hK:X.K=K:=by rfl):gJ X f (r K):=by
 subst hK;exact h
theorem AQ(r:ag->R2)(h:BJ X (r X.K))(hK:X.K=K:=by rfl):BJ X (r K):=by
 subst hK;exact h
abbrev Cy(K:ag):=Np K
theorem MS(hK:X.K=K:=by rfl):gJ X (.builtin "len") (Cy K):=xp Cy jU hK
theorem Bj{N:List Str}{scope:Scope}{fp:List Addr}{es:List Expr}{k:Nat}{pos:Pos}{t:Az}(h:Fo (gK X N scope fp s H) es t)(hc:X.calm=true:=by rfl)(hn:(assignEach es (gK X N scope fp s H).env).length=n:=by rfl)(uT:(assignEach es (gK X N scope fp s H).env).findIdx? (·.1)=none:=by rfl):PG (gK X N scope fp s H) (.Tuple es k pos) (hE X.K n t):=jO (X:=gK X N scope fp s H) hc h hn uT
end L2
namespace Ev
open PySem L2
def top(i:Nat):Stmt:=PySem.Challenge.pw_evenpieces_k32_moves_can_be_made.main.body.getD i (.Pass #[0,0,0,0])
abbrev yo:Stmt:=top 13
abbrev lj:Stmt:=top 15
abbrev qT:Stmt:=top 16
abbrev L6:Stmt:=top 17
abbrev qR:Stmt:=top 18
abbrev LN:Stmt:=top 19
abbrev rD:Stmt:=top 20
abbrev rh:Stmt:=top 49
abbrev yl:Stmt:=top 50
abbrev qP:Stmt:=top 51
abbrev qS:Stmt:=top 52
abbrev iy:Stmt:=top 54
def yP(a b:Str):Bool:=decide (a.cps.toList<b.cps.toList)
def aH(a b:Str):Str × Str:=if yP a b=true then (a,b) else (b,a)
variable{f:Addr}{fd:Ae}
variable{X:Cx}{k:Nat}{ps:List Str}{sp:Sp}{pos:Pos}{e:Expr}{es:List Expr}{t:TA}
section
variable{P:Ad}{w:Af}{K:ag}{mg:Str->Option Aa}{base:Heap}
theorem bu{N p:List Str}{c:Scope}(h:bh N p c:=by exact#[Z,Z,Z,by decide +kernel,Z,by decide +kernel,by decide +kernel]):bh N p c:=h
theorem qG:bh ["one","other"] ["one","other"] (aU L6):=bu
def G6:Sp:=λvs H Q _=>∃a b,vs=[.str a,.str b]/\∀t,H t=none->Q (.ref t) (upd H t (.tup [.str (aH a b).1,.str (aH a b).2]))
theorem hI_(F:a9 K "lesser_first" "lesser_first" L6 f fd):ai P w K mg base aR 1 f fd ["one","other"] G6:=by
 refine F.bt qG λaL A outer s H vs Q E hr h=>?_
 ·obtain⟨a,b,rfl,k⟩:=h;refine#[_,aI (ba (_p (cU hS_ (pv 0) (pv 1) (ak _)) (fA (ae (pv 0) (ae (pv 1) af))) (fA (ae (pv 1) (ae (pv 0) af))))),?_];refine#[_,Z,_,Z,a,b,Z,Z,_,Z,?_];refine bp (λc=>?_) (λc=>?_)
  ·refine#[_,Z,_,Z,by show 2<=sizeLine;decide,λt ht=>?_];have:=k t ht;rwa [show aH a b=(a,b) from aC c] at this
  ·refine#[_,Z,_,Z,by show 2<=sizeLine;decide,λt ht=>?_];have:=k t ht;rwa [show aH a b=(b,a) from ao c] at this
theorem uy:bh ["thing","least","most"] ["thing","least","most"] (aU lj):=bu
def LQ:Sp:=λvs H Q _=>∃i a b:Int,vs=[.int i,.int a,.int b]/\Q (.bl (decide (a<=i)&&decide (i<=b))) H
structure Bi (mg:Str->Option Aa):Prop where
 iW:mg "isinstance"=none
 int:mg "int"=none
 bool:mg "bool"=none
 str:mg "str"=none
 tuple:mg "tuple"=none
 list:mg "list"=none
 dict:mg "dict"=none
 len:mg "len"=none
 all:mg "all"=none
 sorted:mg "sorted"=none
 max:mg "max"=none
 range:mg "range"=none
 any:mg "any"=none
 enum:mg "enumerate"=none
 min:mg "min"=none
 abs:mg "abs"=none
structure bj (P:Ad) (w:Af) (K:ag) (mg:Str->Option Aa) (base:Heap) (k:Nat) (x:Str) (ps:List Str) (sp:Sp):Prop where
 ex:∃f fd,ai P w K mg base aR k f fd ps sp/\mg x=some (.ref f)/\PySem.W.keepIn K (.ref f)=true/\o5 K fd ps []
theorem aX{x:Str}{p:Pos}(c:bj X.prog X.w X.K X.mg X.base k x ps sp)(hr:aD k X.A)(ha:PA X (e::es) t)(hg:Gl X x:=by rfl)(me:(x == ("__debug__":Str))=false:=by decide)(he:starEach (e::es) X.env=(false,eval e X.env)::starEach es X.env:=by rfl)(j9:(backTo pos (starEach es X.env)).any (·.1)=false:=by rfl):PE X (.Call (.Name x p) (e::es) [] pos) (ni sp [] E0 t):=by
 obtain⟨f,fd,F,m,kp,b⟩:=c.ex;exact YT F hr hg m kp b .nil js ha me he j9
theorem Cn:bh ["thing"] ["thing"] (aU yo):=bu
def qu:Sp:=λvs H Q _=>∃i:Int,vs=[.int i]/\Q (.bl true) H
theorem XI(F:a9 K "is_whole" "is_whole" yo f fd)(B:Bi mg):ai P w K mg base aR 1 f fd ["thing"] qu:=by
 refine F.bt Cn λaL A outer s H vs Q E hr h=>?_
 ·obtain⟨i,rfl,k⟩:=h;refine#[_,aI (ba (pU (cK jW (by rfl) B.iW ja (ae (pv 0) (ae (jV (v:=.ty "int") (by rfl) B.int Ej Z) af))) (mw (WN (cK jW (by rfl) B.iW ja (ae (pv 0) (ae (jV (v:=.ty "bool") (by rfl) B.bool PyProof.Rows.Boot.«bool» rfl) af))))))),?_];exact#[_,Z,_,_,_,_,Z,.int i,Z,_,Z,dQ #[_,Z,_,_,_,_,Z,.int i,Z,_,Z,k]]
theorem ZE(F:a9 K "is_whole_within" "is_whole_within" lj f fd)(cI:bj P w K mg base 1 "is_whole" ["thing"] qu):ai P w K mg base aR 2 f fd ["thing","least","most"] LQ:=by
 refine F.bt uy λaL A outer s H vs Q E hr h=>?_
 ·obtain⟨i,a,b,rfl,k⟩:=h;refine#[_,aI (ba (pU (aX cI hr (ae (pv 0) af)) (mw (Rg vt vt (pv 1) (pv 0) (pv 2))))),?_];refine#[_,Z,i,Z,_,Z,dQ ?_];refine#[_,Z,_,Z,_,_,Z,Z,_,Z,?_];refine bp (λc=>?_) (λc=>?_)
  ·refine#[_,Z,_,_,Z,Z,?_];rw[c] at k;exact k
  ·rw[show decide (a<=i)=false by simpa using c] at k;exact k
def jt(c:Nat):Bool:=decide (97<=c)&&decide (c<=122)
def ig(x:Str):Bool:=decide (1<=x.length)&&decide (x.length<=8)&&x.cps.toList.all jt
theorem x_:bh ["thing"] ["thing"] (aU qT):=bu
def GC:Sp:=λvs H Q _=>∃x:Str,vs=[.str x]/\x.length<=100000/\∀H',aa H H'->Q (.bl (ig x)) H'
theorem Zz{c:Nat}:(!decide ((⟨(List.toArray [c])⟩:Str).cps.toList<("a":Str).cps.toList))=decide (97<=c):=by
 have e:("a":Str).cps.toList=[97]:=by decide +kernel
 rw[e];show (!decide ([c] < [97]))=decide (97<=c);by_cases h:97<=c
 ·have:¬[c] < [97]:=by simp[List.cons_lt_cons_iff];omega
  simp[this,h]
 ·have:[c] < [97]:=by simp[List.cons_lt_cons_iff];omega
  simp[this,h]
theorem Y6{c:Nat}:(!decide (("z":Str).cps.toList<(⟨(List.toArray [c])⟩:Str).cps.toList))=decide (c<=122):=by
 have e:("z":Str).cps.toList=[122]:=by decide +kernel
 rw[e];show (!decide ([122] < [c]))=decide (c<=122);by_cases h:c<=122
 ·have:¬[122] < [c]:=by simp[List.cons_lt_cons_iff];omega
  simp[this,h]
 ·have:[122] < [c]:=by simp[List.cons_lt_cons_iff];omega
  simp[this,h]
theorem YX(F:a9 K "is_name" "is_name" qT f fd)(B:Bi mg){t8:Tok}(m8:mg "MOST_LETTERS"=some (.int 8 t8)):ai P w K mg base aR 1 f fd ["thing"] GC:=by
 refine F.bt x_ λaL A outer s H vs Q E hr h=>?_
 ·obtain⟨x,rfl,hz,k⟩:=h;have sz:=bU
  refine#[_,au (bC (tL (eI (dZ (cK jW (by rfl) B.iW ja (ae (pv 0) (ae (jV (v:=.ty "str") (by rfl) B.str Bh Z) af)))))
    (tW (eI (Rf vt vt aE (cK SK (by rfl) B.len gP (ae (pv 0) af)) (Ap (v:=.int 8) (by rfl) m8 #[t8,Z]))))).pt (aI (ba xf)) bD)
   (aI (ba (cK (Q4 Z) (by rfl) B.all PyProof.Rows.Boot.«all» (ae
    (iP ["letter"] 1 [] (Xd (pv 0)) (λfp s H=>fq 0) (λfp s H=>gT) (λfp s H=>Rg RO RO dg (pv 0) dg)) af)))),?_]
  refine#[_,Z,_,_,_,_,Z,.str x,Z,_,Z,?_];refine aM ?_;refine#[_,Z,x,Z,by omega,_,_,Z,Z,_,Z,?_]
  have fin:(decide (1<=x.length)&&decide (x.length<=8))=false->∀H',aa H H'->Q (.bl false) H':=λe H' sm=>by
   have:=k H' sm;rwa [show ig x=false by unfold ig;rw[e];rfl] at this
  refine bp (λc=>?_) (λc=>?_)
  ·have c1:1<=x.length:=by
    have:(1:Int)<=(x.length:Int):=by simpa using c
    omega
   refine#[_,_,Z,Z,_,Z,?_];refine bp (λc2=>?_) (λc2=>?_)
   ·-- too long
    have c3:¬x.length<=8:=by
     have:¬((x.length:Int)<=8):=by simpa using c2
     omega
    exact fin (by rw[dA c3,vO]) H (aa.refl H)
   ·have c3:x.length<=8:=by
     have:(x.length:Int)<=8:=by simpa using c2
     omega
    refine#[_,Z,x,Z,λD hD=>?_];refine xw (own:=1) (fv:=[]) Z eD x.cps.size (λi out H'=>H'=upd H D (.lst out)/\out=((x.cps.toList.take i).map jt).map V.bl) #[Z,by simp] (λout H' ⟨e1,e2⟩=>?_) (λi out H' hi ⟨e1,e2⟩=>?_)
    ·refine#[aZ _,D,x.cps.toList.map jt,Z,.of ?_,?_]
     ·rw[e1,ay,e2,vM Z2]
     ·have:=k H' (by rw[e1];exact aa.new hD);rwa [show ig x=(x.cps.toList.map jt).all id by unfold ig;rw[bW c1,bW c3,List.all_map];rfl] at this
    ·refine#[hi,λv H2 y=>?_];obtain⟨eH,c,hc,rfl⟩:=y;subst eH;refine#[_,Z,Z,λNx hN=>cZ ?_]
     have lo:out.length<sizeLine:=by
      rw[e2];have hs:x.length=x.cps.size:=rfl;simp only[aq,cj,mN];omega
     have nx:Nx (upd H2 D (.lst (out++[V.bl (jt c)]))):=hN (out++[V.bl (jt c)]) _ #[by rw[e1,Y1],by
      rw[e2,hV];simp[hc]]
     have Ts:H2 D=some (.lst out):=by rw[e1,ay]
     refine#[_,Z,_,_,Z,Z,_,Z,?_];rw[Zz];refine bp (λc2=>?_) (λc2=>?_)
     ·refine#[_,_,Z,Z,out,Ts,lo,?_];rw[Y6];rwa [show jt c=decide (c<=122) by unfold jt;rw[c2];rfl] at nx
     ·refine#[out,Ts,lo,?_];rwa [show jt c=false by unfold jt;rw[show decide (97<=c)=false by simpa using c2];rfl] at nx
  ·have c1:¬1<=x.length:=by
    have:¬((1:Int)<=(x.length:Int)):=by simpa using c
    omega
   exact#[_,Z,dQ (fin (by rw[dA c1];rfl) H (aa.refl H))]
end
def kT(t:Str × Str):List Key:=[.inr t.1,.inr t.2]
def zK(t:Str × Str):Prop:=ig t.1=true/\ig t.2=true/\t.1≠t.2
theorem Hq{x:Str}(h:ig x=true):x.length<=8:=by
 unfold ig at h;simp only[iR,jP] at h;exact h.1.2
theorem sk{H:Hp}{p:Addr}{t:Str × Str}(h:H p=some (.tup ((kT t).map kV))):H p=some (.tup [.str t.1,.str t.2]):=h
variable{ks:List (List Key)}
variable{D:Addr}{o:HO}
section
variable{P:Ad}{w:Af}{K:ag}{mg:Str->Option Aa}{base:Heap}
theorem xZ:bh ["thing"] ["thing"] (aU qR):=bu
def qr:Sp:=λvs H Q _=>∃(p:Addr) (a b:Str),vs=[.ref p]/\H p=some (.tup [.str a,.str b])/\a.length<=100000/\b.length<=100000/\∀H',aa H H'->Q (.bl (ig a&&ig b&&!decide (a=b))) H'
theorem Yk(F:a9 K "is_pair_of_names" "is_pair_of_names" qR f fd)(B:Bi mg)(cN:bj P w K mg base 1 "is_name" ["thing"] GC):ai P w K mg base aR 2 f fd ["thing"] qr:=by
 refine F.bt xZ λaL A outer s H vs Q E hr h=>?_
 ·obtain⟨p,a,b,rfl,hp,la,lb,k⟩:=h
  refine#[_,au (bC (tL (eI (dZ (cK jW (by rfl) B.iW ja (ae (pv 0) (ae (jV (v:=.ty "tuple") (by rfl) B.tuple G4 Z) af)))))
    (tW (cU oA (cK jU (by rfl) B.len gP (ae (pv 0) af)) aE (ak _)))).pt (aI (ba xf)) bD)
   (aI (ba (pU (aX cN hr (ae (bB cy (pv 0) aE (λ_ _=>rfl)) af)) (pU (aX cN hr (ae (bB cy (pv 0) aE (λ_ _=>rfl)) af))
    (mw (iQ oA (bB cy (pv 0) aE (λ_ _=>rfl)) (bB cy (pv 0) aE (λ_ _=>rfl)) (ak _))))))),?_]
  refine#[_,Z,_,_,_,_,Z,.tup hp,Z,_,Z,aM ?_];refine#[_,Z,p,_,Z,.inr (.of hp),Z,_,Z,?_];refine tQ (show V.int ((2:Nat):Int)=V.int 2 from Z) ?_;refine#[_,Z,p,_,_,_,Z,Z,.of hp,Z,a,Z,la,λH1 s1=>#[_,Z,?_]];have wX:=s1 _ _ hp;refine bp (λc=>?_) (λc=>?_)
  ·refine#[_,Z,p,_,_,_,Z,Z,.of wX,Z,b,Z,lb,λH2 s2=>#[_,Z,?_]];have oh:=s2 _ _ wX;have kk:=k H2 (s1.trans s2);refine bp (λc2=>?_) (λc2=>?_)
   ·refine#[_,Z,p,_,_,_,Z,Z,.of oh,Z,_,Z,p,_,_,_,Z,Z,.of oh,Z,Z,?_];rw[c,c2] at kk
    have e:decide (V.str a=V.str b)=decide (a=b):=by
     by_cases z:a=b
     ·simp[z]
     ·simp[z]
    show Q (.bl (!decide (V.str a=V.str b))) H2;rw[e];exact kk
   ·rw[c,show ig b=false by simpa using c2] at kk;exact kk
  ·have kk:=k H1 s1;rw[show ig a=false by simpa using c] at kk;exact kk
theorem G8:bh ["ties","found","pair","tie"] ["ties"] (aU LN):=bu
def MA(K:ag):Sp:=λvs H Q _=>∃(l:Addr) (ys:List V) (ts:Xb),vs=[.ref l]/\H l=some (.lst ys)/\aY K H ys (ts.map kT)/\(∀t∈ts,zK t)/\(ts.map λt=>kT (aH t.1 t.2)).Nodup/\ts.length<64 /\
 ∀l' zs H',aa H H'->H l'=none->H' l'=some (.lst zs)->aY K H' zs (aP (ts.map λt=>kT (aH t.1 t.2)))->Q (.ref l') H'
theorem ij{α β γ:Type}{F:α->γ->Prop}{g:β->γ}{ys:List α}{ts:List β}(t:Paired F ys (ts.map g)){i:Nat}{y:α}(h:ys[i]? = some y):∃x,ts[i]? = some x/\F y (g x):=by
 have hi:i<ys.length:=(bP.mp h).1;have hl:=bE t;rw[aq] at hl;have:=az t i hi (by rw[aq];omega);rw[List.getElem_map] at this;refine#[ts[i],di Z1,?_];rw[(bP.mp h).2] at this;exact this
theorem xB{κ:Type}[DecidableEq κ]{kvs:List (κ × V)}{k:κ}(h:k∉kvs.map (·.1)):br kvs k=none:=by
 cases e:br kvs k with
 |none=>rfl
 |some v=>exact absurd (Ya e) h
theorem BE{α β:Type}(g:α->β){ts:List α}{i:Nat}{x:α}(h:ts[i]? = some x):(ts.take (i+1)).map g=(ts.take i).map g++[g x]:=by
 rw[hV,h,bX];rfl
theorem Bx{α β:Type}{g:α->β}{ts:List α}{i:Nat}{x:α}(h:(ts.map g).Nodup)(hx:ts[i]? = some x):g x∉(ts.take i).map g:=by
 intro m;have hi:i<ts.length:=(bP.mp hx).1;obtain⟨y,hy,e⟩:=a_.mp m;obtain⟨j,hj,e2⟩:=ph hy;rw[cj] at hj;rw[List.getElem_take] at e2;rw[pW,mM,List.pairwise_iff_getElem] at h;refine h j i Z1 hi Z1 ?_;rw[e2,e,(bP.mp hx).2]
theorem gP_(F:a9 K "sorted_ties" "sorted_ties" LN f fd)(B:Bi mg)(cP:bj P w K mg base 2 "is_pair_of_names" ["thing"] qr)(cL:bj P w K mg base 1 "lesser_first" ["one","other"] G6):ai P w K mg base aR 3 f fd ["ties"] (MA K):=by
 refine F.bt G8 λaL A outer s H vs Q E hr h=>?_
 ·obtain⟨l,ys,ts,rfl,hl,tu,good,nd,cg,k⟩:=h;have hu:=eS hr;have dS:aD 1 _:=hr.mono (by decide);have sz:=bU
  refine#[_,au (bC (eI (dZ (cK jW (by rfl) B.iW ja (ae (pv 0) (ae (jV (v:=.ty "list") (by rfl) B.list xv Z) af))))) cq bD)
   (au (bg 1 G8.nd Zt)
   (au (eV eM Z (dH (pv 0)) (bV 2 G8.nd)
    (au (bC (eI (dZ (aX cP hr (ae (pv 2) af)))) cq bD)
    (au (bg 3 G8.nd (aX cL dS (ae (bB cy (pv 2) aE (λ_ _=>rfl)) (ae (bB cy (pv 2) aE (λ_ _=>rfl)) af))))
    (au (bC (vw (Be hu (pv 3) (pv 1))) cq bD)
    (aI (o7 hu (pv 1) (pv 3) xf Z))))))
   (aI (ba (cK (eC_ Z) (by rfl) B.sorted He (ae (pv 1) af)))))),?_]
  refine#[_,Z,_,_,_,_,Z,.lst hl,Z,_,Z,aM ?_];intro d hd;have s0:aa H (upd H d (.dT [])):=aa.new hd;refine#[_,Z,l,Z,#[_,.of (s0 _ _ hl)],gF (K:=K) (a:=l) (xs:=ys) (λi σ H2=>∃(v3 v4:Option V),σ=[some (.ref l),some (.ref d),v3,v4]/\aa H H2/\H2 d=some (.dT ((ts.take i).map λt=>(kT (aH t.1 t.2),V.bl true)))) #[none,none,Z,s0,ay] (λi σ H2 _ ⟨_,_,_,s2,_⟩=>.of (s2 _ _ hl)) ?_ ?_]
  ·rintro i y σ H2 hy ⟨v3,v4,rfl,s2,hd2⟩;obtain⟨t,ht,a,rfl,ha⟩:=ij tu hy;obtain⟨g1,g2,g3⟩:=good t (cn ht);have tJ:=s2 _ _ (sk ha);refine#[_,Z,a,t.1,t.2,Z,tJ,by have:=Hq g1;omega,by have:=Hq g2;omega,λH3 s3=>#[_,Z,?_]];have pN:=s3 _ _ tJ;have g9:=s3 _ _ hd2;rw[g1,g2,dA g3];refine aM ?_;refine#[_,Z,a,_,_,_,Z,Z,.of pN,Z,_,Z,a,_,_,_,Z,Z,.of pN,Z,t.1,t.2,Z,λb hb=>?_];have s4:aa H3 (upd H3 b (.tup [.str (aH t.1 t.2).1,.str (aH t.1 t.2).2])):=aa.new hb;have zq:=s4 _ _ g9;have Qc:upd H3 b (.tup [.str (aH t.1 t.2).1,.str (aH t.1 t.2).2]) b=some (.tup ((kT (aH t.1 t.2)).map kV)):=ay
   have tG:br ((ts.take i).map λt=>(kT (aH t.1 t.2),V.bl true)) (kT (aH t.1 t.2))=none:=xB (by
    rw[bK];exact Bx (g:=λt=>kT (aH t.1 t.2)) nd ht)
   refine#[_,Z,_,Z,d,_,Z,.t (k:=kT (aH t.1 t.2)) zq Qc,_,Z,?_];rw[tG];refine aM ?_;refine#[_,Z,_,Z,d,_,Z,.t (k:=kT (aH t.1 t.2)) zq Qc (by rw[aq,cj];omega),?_];refine#[_,_,Z,λc o e=>?_,?_]
   ·rw[ax (bI e hd)];exact s4 _ _ (s3 _ _ (s2 _ _ e))
   ·rw[ay,BA _ tG,BE _ ht]
  ·rintro σ H2 ⟨v3,v4,rfl,s2,hd2⟩;have le:=bE tu;rw[aq] at le;rw[le,dG] at hd2;refine#[_,Z,d,_,[true,true],Z,hd2,#[by decide,λk hk=>?_],by rw[aq];exact cg,λl' zs hn tz=>?_]
   ·rw[bK] at hk;obtain⟨t,_,rfl⟩:=a_.mp hk;rfl
   ·rw[bK] at tz;exact k l' zs _ (s2.trans (aa.new hn)) (s2.free hn) ay (tz.same (aa.new hn))
theorem yk:bh ["ties"] ["ties"] (aU rD):=bu
def qy(K:ag):Sp:=λvs H Q _=>∃(l:Addr) (ys:List V) (ts:Xb),vs=[.ref l]/\H l=some (.lst ys)/\aY K H ys (ts.map kT)/\ts.length<=1000 /\
 ∀l' zs H',aa H H'->H l'=none->H' l'=some (.lst zs)->aY K H' zs (ts.map kT)->Q (.ref l') H'
theorem An{K:ag}{H:Hp}{ys:List V}{a:Addr}{k:List Key}(t:aY K H ys ks)(h:H a=some (.tup (k.map kV))):aY K H (ys++[.ref a]) (ks++[k]):=Paired.snoc t #[a,Z,h]
theorem gh{H H1:Hp}(h:aa H H1)(hD:H D=none):aa H (upd H1 D o):=λb u e=>by rw[ax (bI e hD)];exact h b u e
theorem kq{K:ag}{H:Hp}{ys:List V}{xs:List V}(t:aY K H ys ks)(hD:H D=some (.lst xs)):aY K (upd H D o) ys ks:=Paired.bo t λy k ⟨a,z,q⟩=>#[a,z,by rw[ax (bZ q hD nofun)];exact q]
theorem Yr(F:a9 K "ties_anew" "ties_anew" rD f fd):ai P w K mg base aR 1 f fd ["ties"] (qy K):=by
 refine F.bt yk λaL A outer s H vs Q E hr h=>?_
 ·obtain⟨l,ys,ts,rfl,hl,tu,hz,k⟩:=h;have sz:=bU
  refine#[_,aI (ba (iP ["one","other"] 2 [] (dH (pv 0)) (λfp s H=>Bj (n:=2) (bY (fq 0) (bY (fq 1) gR)))
   (λfp s H=>gT) (λfp s H=>fA (ae (pv 0) (ae (pv 1) af))))),?_]
  refine#[_,Z,l,Z,#[_,.of hl],λD hD=>?_];have le:=bE tu;rw[aq] at le;refine mK (own:=2) (fv:=[]) (xs:=ys) Z zw (λi out H'=>aa H H'/\H' D=some (.lst out)/\aY K H' out ((ts.take i).map kT)) #[aa.new hD,ay,.nil] (λi out H' _ ⟨sm,_,_⟩=>.of (sm _ _ hl)) (λout H' ⟨sm,hd,tz⟩=>?_) (λi x out H' hx ⟨sm,hd,tz⟩=>?_)
  ·rw[le,dG] at tz;exact k D out H' sm hD hd tz
  ·obtain⟨t,ht,a,rfl,ha⟩:=ij tu hx;refine#[_,#[a,_,_,Z,.of (sm _ _ (sk ha)),Z],Z,λNx hN=>cZ ?_];refine#[_,Z,_,Z,by show 2<=sizeLine;decide,λp hp=>#[out,(aa.new hp) _ _ hd,?_,?_]]
   ·have:=bE tz;rw[aq,cj] at this;omega
   ·have oh:upd H' p (.tup [.str t.1,.str t.2]) p=some (.tup ((kT t).map kV)):=ay;refine hN (out++[.ref p]) _ #[gh (sm.trans (aa.new hp)) hD,ay,?_];rw[BE _ ht];exact kq (An (tz.same (aa.new hp)) oh) ((aa.new hp) _ _ hd)
end
def kH(h:Str × Int):List Key:=[.inr h.1,.inl h.2]
def xc(h:Str × Int):Prop:=ig h.1=true/\1<=h.2/\h.2<=1000
def yR:List Key->Key × V
 |[k,v]=>(k,kV v)
 |_=>(.inl 0,.non)
def cw(hs:Xa):List (Key × V):=(aP (hs.map kH)).map yR
theorem J3{H:Hp}{p:Addr}{t:Str × Int}(h:H p=some (.tup ((kH t).map kV))):H p=some (.tup [.str t.1,.int t.2]):=h
theorem Si:∀(more kvs:List (Key × V)),(kvs.map (·.1)++more.map (·.1)).Nodup->oB kvs more=kvs++more
 |[],kvs,_=>by
  show kvs=kvs++[];rw[mJ]
 |p::more,kvs,h=>by
  show oB (putK kvs p.1 p.2) more=kvs++p::more
  have hn:br kvs p.1=none:=xB λm=>by
   rw[dN,xy] at h;exact h.2.2 p.1 m p.1 dO Z
  rw[BA _ hn,Si more (kvs++[(p.1,p.2)])]
  ·simp
  ·simpa using h
theorem vI{more:List (Key × V)}(h:(more.map (·.1)).Nodup):oB [] more=more:=by
 rw[Si more [] (by simpa using h)];rfl
theorem Sh(hs:Xa):((cw hs).map (·.1)).Perm (hs.map λh=>Sum.inr h.1):=by
 unfold cw;rw[bK];have p:=(ko (hs.map kH)).map λk=>(yR k).1;rw[bK] at p;exact p
theorem SU{hs:Xa}(h:(hs.map (·.1)).Nodup):((cw hs).map (·.1)).Nodup:=by
 refine (Sh hs).nodup_iff.mpr ?_;have:(hs.map λh=>(Sum.inr h.1:Key))=(hs.map (·.1)).map Sum.inr:=by rw[bK];rfl
 rw[this,pW,mM];exact h.imp λn e=>n (hU e)
theorem pP{A:Ag}(hr:aD k A)(n:Nat)(h:n+1<=64:=by decide):A.units+n+1<cLine:=by
 have:=hr.units;omega
variable{tk:Tok}
variable{ns:List Str}
section
variable{P:Ad}{w:Af}{K:ag}{mg:Str->Option Aa}{base:Heap}
theorem yf:bh ["thing"] ["thing"] (aU rh):=bu
def qv:Sp:=λvs H Q _=>∃(p:Addr) (a:Str) (n:Int),vs=[.ref p]/\H p=some (.tup [.str a,.int n])/\a.length<=100000/\∀H',aa H H'->Q (.bl (ig a&&(decide (1<=n)&&decide (n<=1000)))) H'
theorem YJ(F:a9 K "is_hand_with_strength" "is_hand_with_strength" rh f fd)(B:Bi mg)(cN:bj P w K mg base 1 "is_name" ["thing"] GC)(cW:bj P w K mg base 2 "is_whole_within" ["thing","least","most"] LQ)(mS:mg "MOST_STRENGTH"=some (.int 1000 tk)) :
  ai P w K mg base aR 3 f fd ["thing"] qv:=by
 refine F.bt yf λaL A outer s H vs Q E hr h=>?_
 ·obtain⟨p,a,n,rfl,hp,la,k⟩:=h;have dS:aD 1 _:=hr.mono (by decide)
  refine#[_,au (bC (tL (eI (dZ (cK jW (by rfl) B.iW ja (ae (pv 0) (ae (jV (v:=.ty "tuple") (by rfl) B.tuple G4 Z) af)))))
    (tW (cU oA (cK jU (by rfl) B.len gP (ae (pv 0) af)) aE (ak _)))).pt (aI (ba xf)) bD)
   (aI (ba (pU (aX cN dS (ae (bB cy (pv 0) aE (λ_ _=>rfl)) af)) (mw (aX cW hr (ae (bB cy (pv 0) aE (λ_ _=>rfl)) (ae aE (ae (Ap (v:=.int 1000) (by rfl) mS #[tk,Z]) af)))))))),?_]
  refine#[_,Z,_,_,_,_,Z,.tup hp,Z,_,Z,aM ?_];refine#[_,Z,p,_,Z,.inr (.of hp),Z,_,Z,?_];refine tQ (show V.int ((2:Nat):Int)=V.int 2 from Z) ?_;refine#[_,Z,p,_,_,_,Z,Z,.of hp,Z,a,Z,la,λH1 s1=>#[_,Z,?_]];have wX:=s1 _ _ hp;have kk:=k H1 s1;refine bp (λc=>?_) (λc=>?_)
  ·refine#[_,Z,p,_,_,_,Z,Z,.of wX,Z,n,1,1000,Z,?_];rw[c] at kk;exact kk
  ·rw[show ig a=false by simpa using c] at kk;exact kk
theorem qD:bh ["hands","found","hand"] ["hands"] (aU yl):=bu
def wu(K:ag):Sp:=λvs H Q _=>∃(l:Addr) (ys:List V) (hs:Xa),vs=[.ref l]/\H l=some (.lst ys)/\aY K H ys (hs.map kH)/\(∀h∈hs,xc h)/\(hs.map (·.1)).Nodup/\1<=hs.length/\hs.length<=8 /\
 ∀d H',aa H H'->H d=none->H' d=some (.dK (cw hs))->Q (.ref d) H'
theorem WZ(F:a9 K "checked_strengths" "checked_strengths" yl f fd)(B:Bi mg)(cH:bj P w K mg base 3 "is_hand_with_strength" ["thing"] qv)(mH:mg "MOST_HANDS"=some (.int 8 tk)):ai P w K mg base aR 4 f fd ["hands"] (wu K):=by
 refine F.bt qD λaL A outer s H vs Q E hr h=>?_
 ·obtain⟨l,ys,hs,rfl,hl,tu,good,nd,h1,h8,k⟩:=h;have hu:=eS hr;have sz:=bU;have le:=bE tu;rw[aq] at le
  refine#[_,au (bC (tL (eI (dZ (cK jW (by rfl) B.iW ja (ae (pv 0) (ae (jV (v:=.ty "list") (by rfl) B.list xv Z) af)))))
    (tW (eI (Rf vt vt aE (cK jU (by rfl) B.len gP (ae (pv 0) af)) (Ap (v:=.int 8) (by rfl) mH #[tk,Z]))))).pt cq bD)
   (au (bg 1 qD.nd Al)
   (au (eV eM Z (dH (pv 0)) (bV 2 qD.nd)
    (au (bC (eI (dZ (aX cH hr (ae (pv 2) af)))) cq bD)
    (au (bC (vw (Be hu (bB cy (pv 2) aE (λ_ _=>rfl)) (pv 1))) cq bD)
    (aI (o7 hu (pv 1) (bB cy (pv 2) aE (λ_ _=>rfl)) (bB cy (pv 2) aE (λ_ _=>rfl)) Z)))))
   (aI (ba (i_ (vK Z) (by rfl) B.dict sU (ae (cK (g8_ Z) (by rfl) B.sorted He (ae (GZ (pv 1)) af)) af)))))),?_]
  refine#[_,Z,_,_,_,_,Z,.lst hl,Z,_,Z,aM ?_];refine#[_,Z,l,_,Z,.inl (.of hl),_,_,Z,Z,_,Z,?_];rw[bW (show (1:Int)<=(ys.length:Int) by omega)];refine dQ #[_,_,Z,Z,_,Z,?_];rw[bW (show (ys.length:Int)<=8 by omega)];refine aM ?_;intro d hd;have s0:aa H (upd H d (.dK [])):=aa.new hd;refine#[_,Z,l,Z,#[_,.of (s0 _ _ hl)],gF (K:=K) (a:=l) (xs:=ys) (λi σ H2=>∃(v2:Option V),σ=[some (.ref l),some (.ref d),v2]/\aa H H2/\H2 d=some (.dK ((hs.take i).map λh=>(Sum.inr h.1,V.int h.2)))) #[none,Z,s0,ay] (λi σ H2 _ ⟨_,_,s2,_⟩=>.of (s2 _ _ hl)) ?_ ?_]
  ·rintro i y σ H2 hy ⟨v2,rfl,s2,hd2⟩;obtain⟨t,ht,a,rfl,ha⟩:=ij tu hy;obtain⟨g1,g2,g3⟩:=good t (cn ht);have tJ:=s2 _ _ (J3 ha);refine#[_,Z,a,t.1,t.2,Z,tJ,by have:=Hq g1;omega,λH3 s3=>#[_,Z,?_]];have pN:=s3 _ _ tJ;have g9:=s3 _ _ hd2;rw[g1,bW g2,bW g3];refine aM ?_
   have tG:br ((hs.take i).map λh=>((Sum.inr h.1:Key),V.int h.2)) (Sum.inr t.1)=none:=xB (by
    rw[bK];have q:=Bx (g:=λh:Str × Int=>h.1) nd ht;intro m;obtain⟨h,hh,e⟩:=a_.mp m;exact q (a_.mpr #[h,hh,hU e]))
   refine#[_,Z,a,_,_,_,Z,Z,.of pN,Z,_,Z,d,_,Z,.k (k:=Sum.inr t.1) g9,_,Z,?_];rw[tG];refine aM ?_;refine#[_,Z,a,_,_,_,Z,Z,.of pN,Z,_,Z,_,Z,a,_,_,_,Z,Z,.of pN,Z,d,_,Z,.k (k:=Sum.inr t.1) g9 (by rw[aq,cj];omega),?_];refine#[_,Z,λc o e=>?_,?_]
   ·rw[ax (bI e hd)];exact s3 _ _ (s2 _ _ e)
   ·rw[ay,BA _ tG,BE _ ht]
  ·rintro σ H2 ⟨v2,rfl,s2,hd2⟩;rw[le,dG] at hd2;refine#[_,Z,d,_,Z,hd2,λv hv=>?_];have s3:aa H2 (upd H2 v (sT v d)):=aa.new hv;refine#[v,d,_,hs.map λh=>(Sum.inr h.1,Sum.inl h.2),[true,false],Z,ay,s3 _ _ hd2,by rw[bK];rfl,#[by decide,λq hq=>?_],by rw[aq];omega,λl' H4 zs s4 hn tz=>?_]
   ·rw[bK] at hq;obtain⟨h,_,rfl⟩:=a_.mp hq;rfl
   ·have ez:((hs.map λh=>((Sum.inr h.1:Key),(Sum.inl h.2:Key))).map λk=>[k.1,k.2])=hs.map kH:=by rw[bK];rfl
    rw[ez] at tz
    have pz:i5 K (upd H4 l' (.lst zs)) zs (cw hs):=by
     have shape:∀k∈aP (hs.map kH),∃a b,k=[a,b]:=λk hk=>by
      obtain⟨h,_,e⟩:=a_.mp ((ko _).mem_iff.mp hk);exact#[_,_,e.symm]
     have gen:∀(ks:List (List Key)) (zs:List V),(∀k∈ks,∃a b,k=[a,b])->aY K (upd H4 l' (.lst zs)) zs ks->i5 K (upd H4 l' (.lst zs)) zs (ks.map yR):=λks=>by
      intro zs;generalize upd H4 l' (.lst zs)=HH;intro sh t
      induction t with
      |nil=>exact .nil
      |cons h t ih=>
       obtain⟨a,b,rfl⟩:=sh _ dO;exact .cons h (ih λk hk=>sh k (dP _ hk))
     exact gen _ _ shape (tz.same (aa.new hn))
    refine#[l',zs,_,Z,ay,pz,?_,λd' fJ=>?_]
    ·have:=(Sh hs).length_eq;simp only[aq] at this;omega
    ·rw[vI (SU nd)];have Cq:aa H (upd H4 l' (.lst zs)):=(s2.trans (s3.trans s4)).trans (aa.new hn);exact k d' _ (Cq.trans (aa.new fJ)) (Cq.free fJ) ay
theorem GE:bh ["ties","strengths","found","one","other"] ["ties","strengths"] (aU qP):=bu
inductive kG (K:ag) (vs:List V) (H:Hp) (Q:VK) (E:XK):Prop
 |mk:∀(l d:Addr) (ys:List V) (ts:Xb) (kvs:List (Key × V)),vs=[.ref l,.ref d]->H l=some (.lst ys)->aY K H ys (ts.map kT)->(∀t∈ts,zK t)->(ts.map λt=>kT (aH t.1 t.2)).Nodup->ts.length<64->H d=some (.dK kvs)->(∀t∈ts,(br kvs (Sum.inr t.1)).isSome=true/\(br kvs (Sum.inr t.2)).isSome=true)->(∀l' zs H',aa H H'->H l'=none->H' l'=some (.lst zs)->aY K H' zs (aP (ts.map λt=>kT (aH t.1 t.2)))->Q (.ref l') H')->kG K vs H Q E
theorem GO(a b:Str):aH a b=(a,b)∨aH a b=(b,a):=by
 unfold aH;split
 ·exact .inl rfl
 ·exact .inr rfl
theorem Yx(F:a9 K "checked_ties" "checked_ties" qP f fd)(B:Bi mg)(cS:bj P w K mg base 3 "sorted_ties" ["ties"] (MA K)):ai P w K mg base aR 4 f fd ["ties","strengths"] (kG K):=by
 refine F.bt GE λaL A outer s H vs Q E hr h=>?_
 ·obtain⟨l,d,ys,ts,kvs,rfl,hl,tu,good,nd,cg,hd,there,k⟩:=h;have hu:=eS hr
  refine#[_,au (bg 2 GE.nd (aX cS hr (ae (pv 0) af)))
   (au (bC (vw (Gv (pv 2))) cq bD)
   (au (eV eM Z (dH (pv 2)) (jO Z (bY (bV 3 GE.nd) (bY (bV 4 GE.nd) gR)))
    (aI (bC (tL (vw (RH hu (pv 3) (pv 1))) (tW (vw (RH hu (pv 4) (pv 1))))).pt cq bD)))
   (aI (ba (pv 2))))),?_]
  refine#[_,Z,l,ys,ts,Z,hl,tu,good,nd,cg,λl' zs H1 s1 hf eB tz=>?_];refine#[_,Z,_,Z,aM ?_];refine#[_,Z,l',Z,#[_,.of eB],gF (K:=K) (a:=l') (xs:=zs) (λi σ H2=>∃(v3 v4:Option V),σ=[some (.ref l),some (.ref d),some (.ref l'),v3,v4]/\H2=H1) #[none,none,Z,Z] (λi σ H2 _ ⟨_,_,_,e⟩=>by subst e;exact .of eB) ?_ ?_]
  ·rintro i y σ H2 hy ⟨v3,v4,rfl,rfl⟩;have ez:=bE tz;have hi:i<zs.length:=(bP.mp hy).1;obtain⟨a,e,ha⟩:=az tz i hi Z1;rw[(bP.mp hy).2] at e;subst e;obtain⟨t,ht,e⟩:=a_.mp ((ko _).mem_iff.mp (ku (show i<(aP (ts.map λt=>kT (aH t.1 t.2))).length by omega)));rw[<- e] at ha;obtain⟨t1,t2⟩:=there t ht
   have both:(br kvs (Sum.inr (aH t.1 t.2).1)).isSome=true/\(br kvs (Sum.inr (aH t.1 t.2).2)).isSome=true:=by
    rcases GO t.1 t.2 with q|q
    ·rw[q];exact#[t1,t2]
    ·rw[q];exact#[t2,t1]
   have g_:=s1 _ _ hd;refine#[a,_,Z,.of (sk ha),Z,_,_,Z,_,_,Z,Z,?_];refine#[_,Z,_,Z,d,_,Z,.k (k:=Sum.inr (aH t.1 t.2).1) g_,_,Z,?_];rw[both.1];refine aM ?_;refine#[_,Z,_,Z,d,_,Z,.k (k:=Sum.inr (aH t.1 t.2).2) g_,_,Z,?_];rw[both.2];refine aM ?_;exact#[_,_,Z,Z]
  ·rintro σ H2 ⟨v3,v4,rfl,rfl⟩;exact#[_,Z,k l' zs _ s1 hf eB tz]
def near(ns:List Str)(ts:Xb)(n:Str):List Str:=ns.filter λo=>decide (aH n o∈ts)
theorem k4:bh ["names","ties","found","hand"] ["names","ties"] (aU qS):=bu
def iJ(ns:List Str)(as:List Addr):List (Key × V):=(ns.zip as).map λp=>(Sum.inr p.1,V.ref p.2)
inductive kJ (K:ag) (vs:List V) (H:Hp) (Q:VK) (E:XK):Prop
 |mk:∀(l1 l2:Addr) (ns:List Str) (zs:List V) (ts:Xb),vs=[.ref l1,.ref l2]->H l1=some (.lst (ns.map V.str))->H l2=some (.lst zs)->aY K H zs (ts.map kT)->ns.Nodup->ns.length<=1000->l1≠l2->(∀d as H',aa H H'->H d=none->as.length=ns.length->H' d=some (.dK (iJ ns as))->(∀(i:Nat) n a,ns[i]? = some n->as[i]? = some a->H a=none/\H' a=some (.lst ((near ns ts n).map V.str)))->Q (.ref d) H')->kJ K vs H Q E
theorem ES{K:ag}{H:Hp}:∀{ts:Xb} {zs:List V},aY K H zs (ts.map kT)->Paired (r2 K rS rS H) zs ts
 |[],_,.nil=>.nil
 |t::ts,_,.cons ⟨a,e,h⟩ r=>.cons #[a,_,_,e,.of (sk h),Z,Z] (ES r)
theorem jT{i:Nat}{x:V}(h:(ns.map V.str)[i]? = some x):∃n,ns[i]? = some n/\x=.str n:=by
 rw[dU] at h;cases e:ns[i]? with
 |none=>rw[e] at h;cases h
 |some n=>rw[e] at h;exact#[n,Z,(dW h).symm]
theorem SV{α:Type}(p:α->Bool){l:List α}{i:Nat}{x:α}(h:l[i]? = some x):(l.take (i+1)).filter p=(l.take i).filter p++(if p x then [x] else []):=PySem.take_succ_filter p l i x h
theorem Xt(F:a9 K "neighbours_of_all" "neighbours_of_all" qS f fd)(cL:bj P w K mg base 1 "lesser_first" ["one","other"] G6):ai P w K mg base aR 2 f fd ["names","ties"] (kJ K):=by
 refine F.bt k4 λaL A outer s H vs Q E hr h=>?_
 ·obtain⟨l1,l2,ns,zs,ts,rfl,eB,oX,tz,nd,h8,jC,k⟩:=h;have hu:=eS hr;have Ds:=hr.units;have sz:=bU
  refine#[_,au (bg 2 k4.nd Al)
   (au (eV eM Z (dH (pv 0)) (bV 3 k4.nd)
    (aI (o7 hu (pv 2) (pv 3) (iP ["other","hand","ties"] 1 [3,1] (dH (pv 0)) (λfp s H=>fq 0)
     (λfp s H=>Y7 (cU (I0 (K:=K) (λK=>yB K (r2 K rS rS) false) (El (vv eQ eQ) (pP hr _))) (aX cL hr (ae (pv 1) (ae (pv 0) af))) (pv 2) (by with_unfolding_all rfl))) (λfp s H=>pv 0)) Z)))
   (aI (ba (pv 2)))),?_]
  intro d hd;have s0:aa H (upd H d (.dK [])):=aa.new hd
  refine#[_,Z,l1,Z,#[_,.of (s0 _ _ eB)],gF (K:=K) (a:=l1) (xs:=ns.map V.str) (λi σ H2=>∃(v3:Option V) (as:List Addr),σ=[some (.ref l1),some (.ref l2),some (.ref d),v3]/\aa H H2/\as.length=i/\H2 d=some (.dK (iJ (ns.take i) as)) /\
   ∀(j:Nat) n a,ns[j]? = some n->as[j]? = some a->H a=none/\a≠d/\H2 a=some (.lst ((near ns ts n).map V.str))) #[none,[],Z,s0,Z,ay,λj n a _ e=>by simp at e] (λi σ H2 _ ⟨_,_,_,s2,_⟩=>.of (s2 _ _ eB)) ?_ ?_]
  ·rintro i y σ H2 hy ⟨v3,as,rfl,s2,la,hd2,lists⟩;obtain⟨n,hn,rfl⟩:=jT hy;have hi:i<ns.length:=(bP.mp hn).1
   have lk:(iJ (ns.take i) as).length=i:=by
    unfold iJ;rw[aq,List.length_zip,cj];omega
   refine#[_,Z,l1,Z,#[_,.of (s2 _ _ eB)],λD hD=>?_];refine mK (own:=1) (fv:=[some (.str n),some (.ref l2)]) (xs:=ns.map V.str) Z eD (λj out H'=>aa H2 H'/\H' D=some (.lst out)/\out=((ns.take j).filter λo=>decide (aH n o∈ts)).map V.str) #[aa.new hD,ay,Z] (λj out H' _ ⟨sm,_,_⟩=>.of (sm _ _ (s2 _ _ eB))) (λout H' ⟨sm,e_,eo⟩=>?_) (λj x out H' hx ⟨sm,e_,eo⟩=>?_)
   ·rw[aq,dG] at eo
    have tG:br (iJ (ns.take i) as) (Sum.inr n)=none:=xB λm=>by
     unfold iJ at m;rw[bK] at m;obtain⟨p,hp,e⟩:=a_.mp m;have e:p.1=n:=hU e;have q:=Bx (g:=id) (by rw[List.map_id];exact nd) hn;rw[List.map_id] at q;exact q (e▸(List.of_mem_zip hp).1)
    have Ou:D≠d:=λz=>by subst z;rw[hD] at hd2;cases hd2
    refine#[_,Z,_,Z,d,_,Z,.k (k:=Sum.inr n) (sm _ _ hd2) Z1,?_];refine#[_,as++[D],Z,λc o e=>?_,by rw[eF,la];rfl,?_,λj n' a ze ha=>?_]
    ·rw[ax (bI e hd)];exact sm _ _ (s2 _ _ e)
    ·rw[ay,BA _ tG];congr 2;unfold iJ;rw[hV,hn,List.zip_append (by rw[cj];omega),bX];rfl
    ·by_cases hj:j<as.length
     ·rw[BG hj] at ha;obtain⟨q1,q2,q3⟩:=lists j n' a ze ha;refine#[q1,q2,?_];rw[ax q2];exact sm _ _ q3
     ·have hj2:j=i:=by
       have:=(bP.mp ha).1;rw[eF] at this;simp only[List.length_singleton] at this;omega
      subst hj2;rw[Aw Z1,la,Nat.sub_self] at ha;have ha:D=a:=by simpa using ha
      subst ha;rw[hn] at ze;cases ze;refine#[s2.free hD,Ou,?_];rw[ax Ou,e_,eo];rfl
   ·obtain⟨o,ho,rfl⟩:=jT hx;refine#[_,Z,Z,λNx hN=>?_];refine#[_,Z,_,Z,n,o,Z,λt ht=>?_];have s3:aa H' (upd H' t (.tup [.str (aH n o).1,.str (aH n o).2])):=aa.new ht;have UI:=((tz.same s2).same sm).same s3
    have lo:out.length<sizeLine:=by
     rw[eo,aq];have:=List.length_filter_le (λo=>decide (aH n o∈ts)) (ns.take j);rw[cj] at this;omega
    refine#[_,Z,aH n o,ts,#[t,_,_,Z,.of ay,Z,Z],#[l2,zs,Z,.of (s3 _ _ (sm _ _ (s2 _ _ oX))),ES UI],_,Z,?_];refine bp (λc=>?_) (λc=>?_)
    ·refine#[_,Z,out,s3 _ _ e_,lo,hN _ _ #[gh (sm.trans s3) hD,ay,?_]];have c:decide (aH n o∈ts)=true:=by simpa using c
     rw[SV _ ho,aC c,bX,eo];rfl
    ·refine hN _ _ #[sm.trans s3,s3 _ _ e_,?_];have c:¬decide (aH n o∈ts)=true:=by simpa using c
     rw[SV _ ho,ao c,mJ,eo]
  ·rintro σ H2 ⟨v3,as,rfl,s2,la,hd2,lists⟩;rw[aq] at la hd2;rw[dG] at hd2;exact#[_,Z,k d as _ s2 hd la hd2 λj n a h1 h2=>#[(lists j n a h1 h2).1,(lists j n a h1 h2).2.2]]
end
abbrev q_:Stmt:=i0 iy 0
abbrev uI:Stmt:=i0 iy 1
abbrev lM:Stmt:=i0 iy 2
abbrev M7:Stmt:=i0 iy 3
abbrev lH:Stmt:=i0 iy 4
abbrev qQ:Stmt:=i0 iy 5
abbrev lC:Stmt:=i0 iy 6
abbrev qV:Stmt:=i0 iy 7
def Ee:List Key->Str
 |.inr a::_=>a
 |_=>⟨#[]⟩
def HX:List Key->Str × Str
 |[.inr a,.inr b]=>(a,b)
 |_=>(⟨#[]⟩,⟨#[]⟩)
def aA(hs:Xa):List Str:=(aP (hs.map kH)).map Ee
def aK(ts:Xb):Xb:=(aP (ts.map λt=>kT (aH t.1 t.2))).map HX
theorem E7(ts:Xb):(aK ts).map kT=aP (ts.map λt=>kT (aH t.1 t.2)):=by
 unfold aK;rw[bK]
 have all:∀k∈aP (ts.map λt=>kT (aH t.1 t.2)),∃t:Str × Str,k=kT t:=λk hk=>by
  obtain⟨t,_,e⟩:=a_.mp ((ko _).mem_iff.mp hk);exact#[_,e.symm]
 generalize aP (ts.map λt=>kT (aH t.1 t.2))=l at all
 induction l with
 |nil=>rfl
 |cons k l ih=>
  obtain⟨t,rfl⟩:=all k dO;rw[dN,ih λk hk=>all k (dP _ hk)];rfl
theorem Se(hs:Xa):∀k∈aP (hs.map kH),∃h:Str × Int,h∈hs/\k=kH h:=λk hk=>by
 obtain⟨t,ht,e⟩:=a_.mp ((ko _).mem_iff.mp hk);exact#[t,ht,e.symm]
theorem Q7(hs:Xa):((cw hs).map λkv=>kV kv.1)=(aA hs).map V.str:=by
 unfold cw aA;rw[bK,bK];refine pA λk hk=>?_;obtain⟨h,_,rfl⟩:=Se hs k hk;rfl
theorem Rc(hs:Xa):(cw hs).map (·.1)=(aA hs).map Sum.inr:=by
 unfold cw aA;rw[bK,bK];refine pA λk hk=>?_;obtain⟨h,_,rfl⟩:=Se hs k hk;rfl
theorem hW(hs:Xa):(aA hs).Perm (hs.map (·.1)):=by
 unfold aA;have p:=(ko (hs.map kH)).map Ee;rw[bK] at p;exact p
theorem Rr{κ:Type}[DecidableEq κ]{kvs:List (κ × V)}{k:κ}(h:k∈kvs.map (·.1)):(br kvs k).isSome=true:=by
 rw[<- EY];obtain⟨p,hp,e⟩:=a_.mp h;exact List.any_eq_true.mpr #[p,hp,bW e]
theorem GS{hs:Xa}{n:Str}:(br (cw hs) (Sum.inr n)).isSome=decide (n∈hs.map (·.1)):=by
 by_cases h:n∈hs.map (·.1)
 ·rw[bW h];refine Rr ?_;rw[Rc];exact a_.mpr #[n,(hW hs).mem_iff.mpr h,Z]
 ·rw[dA h,xB]
  ·rfl
  ·rw[Rc];intro m;obtain⟨x,hx,e⟩:=a_.mp m;cases e;exact h ((hW hs).mem_iff.mp hx)
theorem Jp:¬(("strength_by_hand":Str)="sorted_pairs"):=by decide +kernel
theorem Jo:¬(("strength_by_hand":Str)="neighbours_by_hand"):=by decide +kernel
theorem Wb:¬(("sorted_pairs":Str)="neighbours_by_hand"):=by decide +kernel
def bQ(d1 l2 d3:Addr):List (Str × V):=aB "neighbours_by_hand" (.ref d3) (aB "sorted_pairs" (.ref l2) (aB "strength_by_hand" (.ref d1) []))
theorem Gs(d1 l2 d3:Addr):(bQ d1 l2 d3).lookup ("strength_by_hand":Str)=some (.ref d1):=by
 unfold bQ;rw[eJ,ao Jo,eJ,ao Jp,eJ,aC Z]
theorem Xh(d1 l2 d3:Addr):(bQ d1 l2 d3).lookup ("sorted_pairs":Str)=some (.ref l2):=by
 unfold bQ;rw[eJ,ao Wb,eJ,aC Z]
theorem KU(d1 l2 d3:Addr):(bQ d1 l2 d3).lookup ("neighbours_by_hand":Str)=some (.ref d3):=by
 unfold bQ;rw[eJ,aC Z]
variable{m:Str}
theorem ik(d1 l2 d3:Addr)(h1:¬m="strength_by_hand")(h2:¬m="sorted_pairs")(h3:¬m="neighbours_by_hand"):(bQ d1 l2 d3).lookup m=none:=by
 unfold bQ;rw[eJ,ao h3,eJ,ao h2,eJ,ao h1]
 all_goals rfl
structure fK (K:ag) (C:Addr) (H:Hp) (p:Addr) (hs:Xa) (ts:Xb) (fp:List Addr):Prop where
 ex:∃(dx d1 l2 d3:Addr) (zs:List V) (as:List Addr),fp=p::d1::l2::d3::as/\H p=some (.ins C dx (bQ d1 l2 d3))/\H d1=some (.dK (cw hs))/\H l2=some (.lst zs)/\aY K H zs ((aK ts).map kT)/\H d3=some (.dK (iJ (aA hs) as))/\as.length=(aA hs).length /\
  ∀(i:Nat) n a,(aA hs)[i]? = some n->as[i]? = some a->H a=some (.lst ((near (aA hs) (aK ts) n).map V.str))
variable{H':Hp}
theorem fK.keep{K:ag}{C:Addr}{H:Hp}{p:Addr}{hs:Xa}{ts:Xb}{fp:List Addr}(W:fK K C H p hs ts fp)(k:∀b∈fp,∀o,H b=some o->H' b=some o)(kt:∀b xs,H b=some (.tup xs)->H' b=some (.tup xs)):fK K C H' p hs ts fp:=by
 obtain⟨dx,d1,l2,d3,zs,as,rfl,h1,h2,h3,h4,h5,h6,h7⟩:=W.ex;refine#[dx,d1,l2,d3,zs,as,Z,k _ Z2 _ h1,k _ Z2 _ h2,k _ Z2 _ h3,Paired.bo h4 λy q ⟨a,e,z⟩=>#[a,e,kt _ _ z],k _ Z2 _ h5,h6,λi n a e1 e2=>k _ ?_ _ (h7 i n a e1 e2)];have:=cn e2;simp[this]
theorem fK.same{K:ag}{C:Addr}{H:Hp}{p:Addr}{hs:Xa}{ts:Xb}{fp:List Addr}(W:fK K C H p hs ts fp)(s:aa H H'):fK K C H' p hs ts fp:=W.keep (λb _ o e=>s b o e) λb xs e=>s b _ e
structure Good (hs:Xa) (ts:Xb):Prop where
 aF:∀h∈hs,xc h
 pJ:(hs.map (·.1)).Nodup
 h1:1<=hs.length
 h8:hs.length<=8
 tok:∀t∈ts,zK t
 NR:(ts.map λt=>kT (aH t.1 t.2)).Nodup
 xR:ts.length<64
 xK:∀t∈ts,t.1∈hs.map (·.1)/\t.2∈hs.map (·.1)
theorem Good.iB{hs:Xa}{ts:Xb}(G:Good hs ts):(aA hs).Nodup:=(hW hs).nodup_iff.mpr G.pJ
theorem Good.fG{hs:Xa}{ts:Xb}(G:Good hs ts):(aA hs).length=hs.length:=by
 rw[(hW hs).length_eq,aq]
theorem G2(ts:Xb):(aK ts).length=ts.length:=by
 unfold aK;rw[aq,(ko _).length_eq,aq]
structure Txt (K:ag) (mg:Str->Option Aa) (C:Addr):Prop where
 cl:mT K C
 nS:ke K C "strength_by_hand"
 nP:ke K C "sorted_pairs"
 nN:ke K C "neighbours_by_hand"
section
variable{P:Ad}{w:Af}{K:ag}{mg:Str->Option Aa}{base:Heap}
theorem k7:bh ["self","hands","ties","strengths","checked"] ["self","hands","ties"] (aU q_):=bu
inductive kU (K:ag) (C:Addr) (vs:List V) (H:Hp) (Q:VK) (E:XK):Prop
 |mk:∀(p dx lh lt:Addr) (ys zs:List V) (hs:Xa) (ts:Xb),vs=[.ref p,.ref lh,.ref lt]->H p=some (.ins C dx [])->H lh=some (.lst ys)->aY K H ys (hs.map kH)->H lt=some (.lst zs)->aY K H zs (ts.map kT)->Good hs ts->(∀fp H',(∀b o,H b=some o->b≠p->H' b=some o)->fK K C H' p hs ts fp->(∀b∈fp,b=p∨H b=none)->Q .non H')->kU K C vs H Q E
theorem ZC{C:Addr}(F:a9 K "__init__" "Web.__init__" q_ f fd)(T:Txt K mg C)(B:Bi mg)(cS:bj P w K mg base 4 "checked_strengths" ["hands"] (wu K))(cT:bj P w K mg base 4 "checked_ties" ["ties","strengths"] (kG K))(cN:bj P w K mg base 2 "neighbours_of_all" ["names","ties"] (kJ K)) :
  ai P w K mg base aR 5 f fd ["self","hands","ties"] (kU K C):=by
 refine F.bt k7 λaL A outer s H vs Q E hr h=>?_
 ·obtain⟨p,dx,lh,lt,ys,zs,hs,ts,rfl,hp,g7,th,cb,tt,G,k⟩:=h;have sj:aD 3 _:=hr.mono (by decide);have cz:aD 2 _:=hr.mono (by decide)
  refine#[_,au (bg 3 k7.nd (aX cS hr (ae (pv 1) af)))
   (au (bg 4 k7.nd (aX cT hr (ae (pv 2) (ae (pv 3) af))))
   (au (tX (pv 0) (pv 3) Z) (au (tX (pv 0) (pv 4) Z)
   (aI (tX (pv 0) (aX cN cz (ae (i_ (Ma Z) (by rfl) B.list xv (ae (pv 3) af)) (ae (pv 4) af))) Z))))),?_]
  refine#[_,Z,lh,ys,hs,Z,g7,th,G.aF,G.pJ,G.h1,G.h8,λd1 H1 s1 f1 g_=>?_];refine#[_,Z,_,Z,lt,d1,zs,ts,_,Z,s1 _ _ cb,tt.same s1,G.tok,G.NR,G.xR,g_,λt ht=>?_,λl2 BN H2 s2 f2 oX tz=>?_]
  ·rw[GS,GS];exact#[bW (G.xK t ht).1,bW (G.xK t ht).2]
  have zr:=s2 _ _ g_;have oh:=s2 _ _ (s1 _ _ hp);have p1:p≠d1:=bZ oh zr nofun;have p2:p≠l2:=bZ oh oX nofun;refine#[_,Z,_,Z,p,C,dx,[],Z,oh,T.cl,T.nS,by show 0<1000;decide,?_];refine#[_,Z,_,Z,p,C,dx,_,Z,ay,T.cl,T.nP,by show 1<1000;decide,?_]
  let H3:Hp:=upd (upd H2 p (.ins C dx (aB "strength_by_hand" (.ref d1) []))) p (.ins C dx (aB "sorted_pairs" (.ref l2) (aB "strength_by_hand" (.ref d1) [])))
  have h3:∀{b o},H2 b=some o->b≠p->H3 b=some o:=λe ne=>by
   show upd (upd H2 p _) p _ _=_;rw[ax ne,ax ne];exact e
  have KN:H3 p=some (.ins C dx (aB "sorted_pairs" (.ref l2) (aB "strength_by_hand" (.ref d1) []))):=ay
  have CV:∀{b},H3 b=none->H2 b=none:=λ{b} e=>by
   by_cases z:b=p
   ·subst z;rw[KN] at e;cases e
   ·have e:upd (upd H2 p _) p _ b=none:=e;rw[ax z,ax z] at e;exact e
  have NO:aY K H3 BN ((aK ts).map kT):=by
   rw[E7];exact Paired.bo tz λy q ⟨a,e,z⟩=>#[a,e,h3 z (bZ z oh nofun)]
  refine#[_,Z,d1,_,Z,.inl (h3 zr p1.symm),λl1 eB=>?_];rw[Q7];have s4:aa H3 (upd H3 l1 (.lst ((aA hs).map V.str))):=aa.new eB;have Jl:l1≠l2:=(bI (H:=H3) (h3 oX p2.symm) eB).symm;refine#[_,Z,l1,l2,aA hs,BN,aK ts,Z,ay,s4 _ _ (h3 oX p2.symm),NO.same s4,G.iB,by rw[G.fG];have:=G.h8;omega,Jl,λd3 as H5 s5 f5 la g9 lists=>?_];have AW:=s5 _ _ (s4 _ _ KN);refine#[_,Z,p,C,dx,_,Z,AW,T.cl,T.nN,by show 2<1000;decide,?_]
  have up:∀{b o},H2 b=some o->b≠p->upd H5 p (.ins C dx (bQ d1 l2 d3)) b=some o:=λe ne=>by
   rw[ax ne];exact s5 _ _ (s4 _ _ (h3 e ne))
  have oy:∀{b},upd H3 l1 (.lst ((aA hs).map V.str)) b=none->H b=none:=λe=>s1.free (s2.free (CV (s4.free e)));have Ky:d3≠p:=(bI (s4 _ _ KN) f5).symm;refine k (p::d1::l2::d3::as) _ (λb o e ne=>up (s2 _ _ (s1 _ _ e)) ne) #[dx,d1,l2,d3,BN,as,Z,ay,up zr p1.symm,up oX p2.symm,?_,?_,la,λi n a e1 e2=>?_] λb hb=>?_
  ·exact Paired.bo (NO.same (s4.trans s5)) λy q ⟨a,e,z⟩=>#[a,e,by rw[ax (bZ z AW nofun)];exact z]
  ·rw[ax Ky];exact g9
  ·obtain⟨q1,q2⟩:=lists i n a e1 e2;rw[ax (bZ q2 AW nofun)];exact q2
  ·simp only[bO] at hb;rcases hb with rfl|rfl|rfl|rfl|hb
   ·exact .inl Z
   ·exact .inr f1
   ·exact .inr (s1.free f2)
   ·exact .inr (oy f5)
   ·obtain⟨i,hi,e⟩:=ph hb;have e1:as[i]? = some b:=by rw[di hi,e]
    have hn:i<(aA hs).length:=by omega
    exact .inr (oy (lists i _ b (di hn) e1).1)
end
structure bb (P:Ad) (w:Af) (K:ag) (mg:Str->Option Aa) (base:Heap) (C:Addr) (k:Nat) (m:Str) (ps:List Str) (sp:Sp):Prop where
 ex:∃f fd,ai P w K mg base aR k f fd ps sp/\Meth K C m f/\o5 K fd ps []
variable{o:Expr}{apos:Pos}{ta:TE}{pl:Sem Bool}
theorem eG{C:Addr}(c:bb X.prog X.w X.K X.mg X.base C k m ps sp)(cl:mT X.K C)(hr:aD k X.A)(he:PE X o ta)(ha:PA X (e::es) t)(uT:starEach (e::es) X.env=(false,eval e X.env)::starEach es X.env:=by rfl)(j9:(backTo pos (starEach es X.env)).any (·.1)=false:=by rfl)(ht:eval (.Call (.Attribute o m apos) (e::es) [] pos) X.env=(do
   let ov <- eval o X.env
   standAt apos.atName
   let (f,first) <- holding [ov] (getMethod ov m pl)
   callWith pos f first (backTo pos (starEach (e::es) X.env)) (backToKw pos (keywordEach [] X.env))):=by rfl) :
  PE X (.Call (.Attribute o m apos) (e::es) [] pos) (mZ C m sp [] E0 ta t):=by
 obtain⟨f,fd,F,hm,b⟩:=c.ex;exact Y3 he cl hm F hr b .nil js ha uT j9 ht
theorem xm{C:Addr}(c:bb X.prog X.w X.K X.mg X.base C k m ps sp)(cl:mT X.K C)(hr:aD k X.A)(he:PE X o ta)(ht:eval (.Call (.Attribute o m apos) [] [] pos) X.env=(do
   let ov <- eval o X.env
   standAt apos.atName
   let (f,first) <- holding [ov] (getMethod ov m pl)
   callWith pos f first (backTo pos (starEach [] X.env)) (backToKw pos (keywordEach [] X.env))):=by rfl) :
  PE X (.Call (.Attribute o m apos) [] [] pos) (mZ C m sp [] E0 ta iw):=by
 obtain⟨f,fd,F,hm,b⟩:=c.ex;exact _z he cl hm F hr b .nil js ht
theorem fL_{hs:Xa}(nd:(hs.map (·.1)).Nodup){x:Str}{n:Int}(h:(x,n)∈hs):br (cw hs) (Sum.inr x)=some (.int n):=by
 have m:((Sum.inr x:Key),V.int n)∈cw hs:=by
  unfold cw;refine a_.mpr #[kH (x,n),(ko _).mem_iff.mpr (a_.mpr #[_,h,Z]),Z]
 have nk:=SU nd;generalize cw hs=kvs at m nk
 induction kvs with
 |nil=>cases m
 |cons p r ih=>
  obtain⟨n1,n2⟩:=pe.mp nk;rcases bO.mp m with e|m
  ·rw[<- e];exact Ak Z
  ·rw[Aj (λe:p.1=Sum.inr x=>n1 (a_.mpr #[_,m,e.symm]))];exact ih m n2
variable{as:List Addr}
theorem _N(nd:ns.Nodup)(la:as.length=ns.length){i:Nat}{n:Str}(hn:ns[i]? = some n):∃a,as[i]? = some a/\br (iJ ns as) (Sum.inr n)=some (.ref a):=by
 induction ns generalizing as i with
 |nil=>simp at hn
 |cons x ns ih=>
  cases as with
  |nil=>cases la
  |cons b as=>
   obtain⟨n1,n2⟩:=pe.mp nd;cases i with
   |zero=>
    have e:x=n:=by simpa using hn
    subst e;exact#[b,Z,Ak Z]
   |succ i=>
    have hn:ns[i]? = some n:=by simpa using hn
    obtain⟨a,h1,h2⟩:=ih n2 (by simpa using la) hn;refine#[a,by simpa using h1,?_];show br ((Sum.inr x,V.ref b)::iJ ns as) (Sum.inr n)=_;rw[Aj λe=>n1 (by rw[show x=n from hU e];exact cn hn)];exact h2
section
variable{P:Ad}{w:Af}{K:ag}{mg:Str->Option Aa}{base:Heap}
theorem wx:bh ["self","thing"] ["self","thing"] (aU uI):=bu
inductive ji (K:ag) (C:Addr) (vs:List V) (H:Hp) (Q:VK) (E:XK):Prop
 |mk:∀(p:Addr) (x:Str) (hs:Xa) (ts:Xb) (fp:List Addr),vs=[.ref p,.str x]->fK K C H p hs ts fp->Q (.bl (decide (x∈hs.map (·.1)))) H->ji K C vs H Q E
theorem Xm{C:Addr}(F:a9 K "has_hand" "Web.has_hand" uI f fd)(T:Txt K mg C)(B:Bi mg):ai P w K mg base aR 1 f fd ["self","thing"] (ji K C):=by
 refine F.bt wx λaL A outer s H vs Q E hr h=>?_
 ·obtain⟨p,x,hs,ts,fp,rfl,W,k⟩:=h;have hu:=eS hr;obtain⟨dx,d1,l2,d3,zs,as,rfl,h1,h2,h3,h4,h5,h6,h7⟩:=W.ex;refine#[_,aI (ba (pU (cK jW (by rfl) B.iW ja (ae (pv 1) (ae (jV (v:=.ty "str") (by rfl) B.str Bh Z) af))) (mw (Ek (Be hu (pv 1) (cX (pv 0) Z)))))),?_];refine#[_,Z,_,_,_,_,Z,.str x,Z,_,Z,dQ ?_];refine#[_,Z,_,Z,p,C,dx,_,_,Z,h1,T.cl,T.nS,Gs _ _ _,d1,_,Z,.k (k:=Sum.inr x) h2,?_];rw[GS];exact k
theorem uG:bh ["self"] ["self"] (aU lM):=bu
inductive Bp (K:ag) (C:Addr) (vs:List V) (H:Hp) (Q:VK) (E:XK):Prop
 |mk:∀(p:Addr) (hs:Xa) (ts:Xb) (fp:List Addr),vs=[.ref p]->fK K C H p hs ts fp->(∀l,H l=none->Q (.ref l) (upd H l (.lst ((aA hs).map V.str))))->Bp K C vs H Q E
theorem Z8{C:Addr}(F:a9 K "hands" "Web.hands" lM f fd)(T:Txt K mg C)(B:Bi mg):ai P w K mg base aR 1 f fd ["self"] (Bp K C):=by
 refine F.bt uG λaL A outer s H vs Q E hr h=>?_
 ·obtain⟨p,hs,ts,fp,rfl,W,k⟩:=h;obtain⟨dx,d1,l2,d3,zs,as,rfl,h1,h2,h3,h4,h5,h6,h7⟩:=W.ex;refine#[_,aI (ba (i_ (Ma Z) (by rfl) B.list xv (ae (cX (pv 0) Z) af))),?_];refine#[_,Z,p,C,dx,_,_,Z,h1,T.cl,T.nS,Gs _ _ _,d1,_,Z,.inl h2,λl hl=>?_];rw[Q7];exact k l hl
theorem ek':bh ["self","hand"] ["self","hand"] (aU M7):=bu
inductive Bt (K:ag) (C:Addr) (vs:List V) (H:Hp) (Q:VK) (E:XK):Prop
 |mk:∀(p:Addr) (x:Str) (n:Int) (hs:Xa) (ts:Xb) (fp:List Addr),vs=[.ref p,.str x]->fK K C H p hs ts fp->(hs.map (·.1)).Nodup->(x,n)∈hs->Q (.int n) H->Bt K C vs H Q E
theorem eE_{C:Addr}(F:a9 K "strength" "Web.strength" M7 f fd)(T:Txt K mg C)(cH:bb P w K mg base C 1 "has_hand" ["self","thing"] (ji K C)):ai P w K mg base aR 2 f fd ["self","hand"] (Bt K C):=by
 refine F.bt ek' λaL A outer s H vs Q E hr h=>?_
 ·obtain⟨p,x,n,hs,ts,fp,rfl,W,nd,hx,k⟩:=h;have hu:=eS hr;obtain⟨dx,d1,l2,d3,zs,as,rfl,h1,h2,h3,h4,h5,h6,h7⟩:=id W.ex;refine#[_,au (bC (eI (dZ (eG cH T.cl hr (pv 0) (ae (pv 1) af)))) cq bD) (aI (ba (eU hu (cX (pv 0) Z) (pv 1) (λ_ _=>rfl)))),?_];refine#[_,Z,p,dx,_,Z,h1,ik _ _ _ Z0 Z0 Z0,_,Z,p,x,hs,ts,_,Z,W,_,Z,?_];rw[bW (a_.mpr #[_,hx,Z])];refine aM ?_;refine#[_,Z,p,C,dx,_,_,Z,h1,T.cl,T.nS,Gs _ _ _,_,Z,d1,_,Z,?_,k];rw[<- fL_ nd hx];exact .k (k:=Sum.inr x) h2
theorem uD:bh ["self","hand"] ["self","hand"] (aU lH):=bu
inductive GL (K:ag) (C:Addr) (vs:List V) (H:Hp) (Q:VK) (E:XK):Prop
 |mk:∀(p:Addr) (x:Str) (hs:Xa) (ts:Xb) (fp:List Addr),vs=[.ref p,.str x]->fK K C H p hs ts fp->(aA hs).Nodup->x∈hs.map (·.1)->(∀l,H l=none->Q (.ref l) (upd H l (.lst ((near (aA hs) (aK ts) x).map V.str))))->GL K C vs H Q E
theorem OR{H:Hp}{hs:Xa}{ts:Xb}{x:Str}(nd:(aA hs).Nodup)(hx:x∈hs.map (·.1))(la:as.length=(aA hs).length)(h7:∀(i:Nat) n a,(aA hs)[i]? = some n->as[i]? = some a->H a=some (.lst ((near (aA hs) (aK ts) n).map V.str))):∃a,br (iJ (aA hs) as) (Sum.inr x)=some (.ref a)/\H a=some (.lst ((near (aA hs) (aK ts) x).map V.str)):=by
 obtain⟨i,hi,e⟩:=ph ((hW hs).mem_iff.mpr hx);have hn:(aA hs)[i]? = some x:=by rw[di hi,e]
 obtain⟨a,h1,h2⟩:=_N nd la hn;exact⟨a,h2,h7 i x a hn h1⟩
theorem _B{C:Addr}(F:a9 K "neighbours" "Web.neighbours" lH f fd)(T:Txt K mg C)(B:Bi mg)(cH:bb P w K mg base C 1 "has_hand" ["self","thing"] (ji K C)):ai P w K mg base aR 2 f fd ["self","hand"] (GL K C):=by
 refine F.bt uD λaL A outer s H vs Q E hr h=>?_
 ·obtain⟨p,x,hs,ts,fp,rfl,W,nd,hx,k⟩:=h;have hu:=eS hr;obtain⟨dx,d1,l2,d3,zs,as,rfl,h1,h2,h3,h4,h5,h6,h7⟩:=id W.ex;obtain⟨a,e1,ha⟩:=OR nd hx h6 h7;refine#[_,au (bC (eI (dZ (eG cH T.cl hr (pv 0) (ae (pv 1) af)))) cq bD) (aI (ba (i_ e7_ (by rfl) B.list xv (ae (eU hu (cX (pv 0) Z) (pv 1) (λ_ _=>rfl)) af)))),?_];refine#[_,Z,p,dx,_,Z,h1,ik _ _ _ Z0 Z0 Z0,_,Z,p,x,hs,ts,_,Z,W,_,Z,?_];rw[bW hx];refine aM ?_;refine#[_,Z,p,C,dx,_,_,Z,h1,T.cl,T.nN,KU _ _ _,_,Z,d3,.ref a,Z,?_,a,_,Z,.inl (.of ha),k];rw[<- e1];exact .k (k:=Sum.inr x) h5
theorem xX:bh ["self","one","other"] ["self","one","other"] (aU qQ):=bu
theorem Bz{H:Hp}:∀ns:List Str,Paired (rS H) (ns.map V.str) ns
 |[]=>.nil
 |_::ns=>.cons Z (Bz ns)
theorem uz:bh ["self"] ["self"] (aU lC):=bu
inductive LD (K:ag) (C:Addr) (vs:List V) (H:Hp) (Q:VK) (E:XK):Prop
 |mk:∀(p:Addr) (hs:Xa) (ts:Xb) (fp:List Addr),vs=[.ref p]->fK K C H p hs ts fp->ts.length<64->(∀l zs H',aa H H'->H l=none->H' l=some (.lst zs)->aY K H' zs ((aK ts).map kT)->Q (.ref l) H')->LD K C vs H Q E
theorem _G{C:Addr}(F:a9 K "ties" "Web.ties" lC f fd)(T:Txt K mg C)(cA:bj P w K mg base 1 "ties_anew" ["ties"] (qy K)):ai P w K mg base aR 2 f fd ["self"] (LD K C):=by
 refine F.bt uz λaL A outer s H vs Q E hr h=>?_
 ·obtain⟨p,hs,ts,fp,rfl,W,cg,k⟩:=h;obtain⟨dx,d1,l2,d3,zs,as,rfl,h1,h2,h3,h4,h5,h6,h7⟩:=W.ex;refine#[_,aI (ba (aX cA hr (ae (cX (pv 0) Z) af))),?_];exact#[_,Z,p,C,dx,_,_,Z,h1,T.cl,T.nP,Xh _ _ _,l2,zs,aK ts,Z,h3,h4,by rw[G2];omega,k]
theorem yb:bh ["self"] ["self"] (aU qV):=bu
def fI(hs:Xa)(ts:Xb):List Int:=(aA hs).map λn=>((near (aA hs) (aK ts) n).length:Int)
inductive kL (K:ag) (C:Addr) (vs:List V) (H:Hp) (Q:VK) (E:XK):Prop
 |mk:∀(p:Addr) (hs:Xa) (ts:Xb) (fp:List Addr),vs=[.ref p]->fK K C H p hs ts fp->0<(aA hs).length->(aA hs).length<=1000->(∀m H',aa H H'->m∈fI hs ts->(∀a∈fI hs ts,a<=m)->Q (.int m) H')->kL K C vs H Q E
theorem YL{C:Addr}(F:a9 K "most_neighbours" "Web.most_neighbours" qV f fd)(T:Txt K mg C)(B:Bi mg):ai P w K mg base aR 1 f fd ["self"] (kL K C):=by
 refine F.bt yb λaL A outer s H vs Q E hr h=>?_
 ·obtain⟨p,hs,ts,fp,rfl,W,h0,h8,k⟩:=h;have sz:=bU;obtain⟨dx,d1,l2,d3,zs,as,rfl,h1,h2,h3,h4,h5,h6,h7⟩:=W.ex
  refine#[_,aI (ba (cK (_s Z) (by rfl) B.max PyProof.Rows.Boot.«max» (ae (Yo (iP ["row"] 1 [] (Yg (gC_ (cX (pv 0) Z))) (λfp s H=>fq 0) (λfp s H=>gT)
   (λfp s H=>cK (MS (K:=K)) (by rfl) B.len gP (ae (pv 0) af)))) af))),?_]
  refine#[d3,_,h5,_,Z,p,C,dx,_,_,Z,h1,T.cl,T.nN,KU _ _ _,d3,_,Z,h5,λv hv=>?_];have s1:aa H (upd H v (Av v d3)):=aa.new hv;refine#[v,d3,_,Z,ay,s1 _ _ h5,λo D hD=>?_]
  have lk:(iJ (aA hs) as).length=(aA hs).length:=by
   unfold iJ;rw[aq,List.length_zip];omega
  have E4:∀{b u},H b=some u->u≠.dK (iJ (aA hs) as)->upd (upd H v (Av v d3)) d3 (.frz o (.dK (iJ (aA hs) as))) b=some u:=λe ne=>by
   rw[ax (bZ e h5 ne)];exact s1 _ _ e
  refine xw (own:=1) (fv:=[]) Z eD (aA hs).length (λi out H'=>aa (upd (upd H v (Av v d3)) d3 (.frz o (.dK (iJ (aA hs) as)))) H'/\H' D=some (.lst out)/\out=((fI hs ts).take i).map V.int) #[aa.new hD,ay,Z] (λout H' ⟨sm,e_,eo⟩=>?_) (λi out H' hi ⟨sm,e_,eo⟩=>?_)
  ·have hf:=sm _ _ (show upd (upd H v (Av v d3)) d3 (.frz o (.dK (iJ (aA hs) as))) d3=some _ from ay);have Dd:D≠d3:=bZ e_ hf nofun;have ll:(fI hs ts).length=(aA hs).length:=by unfold fI;rw[aq]
   rw[<- ll,dG] at eo;refine#[#[hf,by omega],o,hf,D,fI hs ts,Z,.of ?_,by omega,λm hm hle=>k m _ (λb u e=>?_) hm hle]
   ·rw[ax Dd,e_,eo]
   ·by_cases z:b=d3
    ·subst z;rw[ay,<- h5];exact e
    ·rw[ax z];exact sm _ _ (by rw[ax z];exact s1 _ _ e)
  ·have hf:=sm _ _ (show upd (upd H v (Av v d3)) d3 (.frz o (.dK (iJ (aA hs) as))) d3=some _ from ay);refine#[#[hf,by omega],λx H2 y=>?_];obtain⟨eH,kk,hk⟩:=y;subst eH;have hn:(aA hs)[i]? = some (aA hs)[i]:=di hi;have ha:as[i]? = some (as[i]' Z1):=di Z1
   have ex:x=.ref (as[i]' Z1):=by
    unfold iJ at hk;rw[dU,di (by rw[List.length_zip];omega),List.getElem_zip] at hk;exact (Prod.mk.inj (dW hk)).2.symm
   subst ex;have J1:=h7 i _ _ hn ha;refine#[_,Z,Z,λNx hN=>cZ ?_];refine#[_,Z,_,_,Z,.inl (.of (sm _ _ (E4 J1 nofun))),out,e_,?_,hN _ _ #[gh sm hD,ay,?_]]
   ·rw[eo,aq,cj];unfold fI;rw[aq];omega
   ·rw[BE _ (show (fI hs ts)[i]? = some (((near (aA hs) (aK ts) (aA hs)[i]).length:Nat):Int) by unfold fI;rw[dU,hn];rfl),eo,aq]
end
end Ev
namespace L2
open PySem PySem.Spec PyProof.Rows PySem.W
def Fq(K:ag)(a:Addr):It:=
 #[λi H=>∃xs x,dB K H a xs/\xs[i]? = some x,λi H y H'=>∃t x,y=.ref t/\H t=none/\(∀xs,dB K H a xs->xs[i]? = some x)/\H'=upd H t (.tup [.int i,x]),λi H=>∃xs,dB K H a xs/\xs.length=i]
variable{X:Cx}{pins:List (Addr × Obj)}{σ:St}{s:Ab}{h':Heap}{t':Nat}{fp:List Addr}
theorem Inv.mX{H:Hp}{T:Addr}{xs:List V}{its:List Aa}(I:Inv X pins σ H s)(k:∀b o,b∉fp->s.heap.get? b=some o->h'.get? b=some o)(hf:∀b∈fp,ck X pins H b)(hT:s.heap.objs.size<=T)(hz:xs.length<=sizeLine)(r:Vals xs its)(ht:IsTup h' T its.toArray/\∃o,h'.get? T=some o/\o.dict=none):Inv X pins σ (upd H T (.tup xs)) { s with heap:=h',toks:=t' }:=by
 have fT:H T=none:=I.aF.fresh hT;have nf:∀b u,H b=some u->b∉fp:=λb u e hb=>by rw[(hf b hb).1] at e;cases e
 have old:∀{b u},H b=some u->upd H T (.tup xs) b=some u:=λe=>by rw[ax (bI e fT)];exact e
 refine I.step (g':=s.gens) (d':=s.drawn) (ch:=fp) (λb hb=>?_) (λb o _ _ hc e _=>k b o hc e) (λb o _ _ hc e _=>#[o.slots,k b o hc e]) (λb o _ e n=>?_)
  (λb o hc e=>#[o,k b o hc e]) (λb ys e=>old e) (λb o u e=>old e) (λb ps e=>#[#[],by rw[Array.append_empty];exact old e]) (λm hm=>?_) (λb u e=>?_) I.bare
 ·obtain⟨f0,f1,f2,f3,f4,f5⟩:=hf b hb;exact#[f3,f1,f4,f5]
 ·rw[ax (λz=>by subst z;exact absurd (bN e) (Nat.not_lt.mpr hT))];exact n
 ·obtain⟨o,es,ep,ho,r⟩:=hm;exact#[o,es,ep,k _ o (λhb=>(hf _ hb).2.1 Z) ho,r]
 ·by_cases z:b=T
  ·subst z;rw[ay] at e;cases e;exact#[hz,its,r,ht]
  ·rw[ax z] at e;refine (I.aF b u e).d9 (λc v hc q=>k c v ?_ q) (λ_ q=>old q) λ_ _ q=>old q;rcases hc with z|z
   ·rw[z];exact nf b u e
   ·exact nf c _ z
theorem Inv.ip{H:Hp}(I:Inv X pins σ H s)(k:∀b o,b∉fp->s.heap.get? b=some o->h'.get? b=some o)(hf:∀b∈fp,ck X pins H b):Inv X pins σ H { s with heap:=h',toks:=t' }:=by
 have nf:∀b u,H b=some u->b∉fp:=λb u e hb=>by rw[(hf b hb).1] at e;cases e
 refine I.step (g':=s.gens) (d':=s.drawn) (ch:=fp) (λb hb=>?_) (λb o _ _ hc e _=>k b o hc e) (λb o _ _ hc e _=>#[o.slots,k b o hc e]) (λb o _ e n=>n)
  (λb o hc e=>#[o,k b o hc e]) (λb ys e=>e) (λb o u e=>e) (λb ps e=>#[#[],by rw[Array.append_empty];exact e]) (λm hm=>?_) (λb u e=>?_) I.bare
 ·obtain⟨f0,f1,f2,f3,f4,f5⟩:=hf b hb;exact#[f3,f1,f4,f5]
 ·obtain⟨o,es,ep,ho,r⟩:=hm;exact#[o,es,ep,k _ o (λhb=>(hf _ hb).2.1 Z) ho,r]
 ·refine (I.aF b u e).d9 (λc v hc q=>k c v ?_ q) (λ_ q=>q) λ_ _ q=>q;rcases hc with z|z
  ·rw[z];exact nf b u e
  ·exact nf c _ z
variable{elts:List Expr}{pos:Pos}
theorem hQ_{P:Ad}{w:Af}{K:ag}{k:Nat}(a e it:Addr)(h1:e≠it)(h2:a≠e)(h3:a≠it):Turn P w K (.Tuple elts k pos) (Fq K a) [e,it] e (λi h=>(∃old,IsEnum h e it i old)/\h.IsListIter it a i) where
 mem:=by simp
 obj:=λi h st b hb=>by
  obtain⟨⟨old,q⟩,o,e2,c,d⟩:=st;rcases bO.mp hb with rfl|hb
  ·exact#[_,q,λv z=>by cases z]
  ·obtain rfl:b=it:=by simpa using hb
   exact#[o,e2,λv z=>by rw[d] at z;cases z]
 keep:=λi h h' st kk=>by
  obtain⟨⟨old,q⟩,d_⟩:=st;exact#[#[old,kk e Z2 _ q],d_.at λo q2=>kk it Z2 o q2]
 item:=by
  intro X hP hw hK hc i pins s σ H E I hf st hg;subst hP hw hK;obtain⟨xs,x,hq,hx⟩:=hg;obtain⟨its,rv,p,hz⟩:=I.list hq;obtain⟨u,hu,ru⟩:=rv.get hx;have W:=WalksT.enumerate (prog:=X.prog) (w:=X.w) (A:=X.A) (I.ok.hd hc) e it a h1 h2 h3 its.toArray
  have hi:i<its.toArray.size:=by
   simp only[cE];exact (bP.mp hu).1
  obtain⟨old,he⟩:=st.1;have hit:=st.2;refine wpAny_pyNext_enum_item he hit p.isList (x:=u) (by rw[List.getElem?_toArray];exact hu) h1 λh' ho zm Gn hsz hk=>?_;have Ks:e<s.heap.objs.size:=bN he;have Kj:it<s.heap.objs.size:=by obtain⟨_,x,_⟩:=hit;exact bN x
  have mid:(∃x,IsEnumOut h' e it ((i:Int)+1) x s.heap.objs.size)/\h'.IsListIter it a (i+1)/\h'.IsList a its.toArray/\s.heap.objs.size≠e/\s.heap.objs.size≠it:=#[#[_,ho],zm,p.isList.at λo x=>hk a o h2 h3 x,pY Ks,pY Kj];have kk:∀b o,b∉[e,it]->s.heap.get? b=some o->h'.get? b=some o:=λb o hb x=>hk b o (λe'=>hb (by simp[e'])) (λe'=>hb (by simp[e'])) x;have JK:h'.IsTuple s.heap.objs.size (List.toArray [.int i s.toks,u]):=#[_,Gn,Z,_,Z];obtain⟨T,eT⟩:∃T,T=s.heap.objs.size:=#[_,Z];obtain⟨t,et⟩:∃t,t=s.toks:=#[_,Z];obtain⟨tk,Gc⟩:∃tk,tk=s.toks+1:=#[_,Z];rw[<- eT] at JK mid Gn ⊢;have hT:s.heap.objs.size<=T:=Nat.le_of_eq eT.symm;rw[<- et] at JK Gn;rw[<- Gc];refine#[_,Z,W.go elts k pos i T { s with heap:=h',toks:=tk } _ _ mid λiY dY JF=>?_];have nT:T∉[e,it]:=W.apart i T h' mid
  have JJ:iY.IsTuple T (List.toArray [.int i t,u]):=by
   obtain⟨o,q,r⟩:=JK;exact#[o,JF T o nT q,r]
  have I1:Inv X pins σ (upd H T (.tup [.int i,x])) { s with heap:=iY,toks:=tk }:=I.mX (t':=tk) (fp:=[e,it]) (its:=[.int i t,u]) (λb o hb q=>JF b o hb (kk b o hb q)) hf hT (by show 2<=sizeLine;decide) (.cons #[t,Z] (.cons ru .nil)) #[JJ,_,JF T _ nT Gn,Z];refine#[.ref T,_,I1,Z,#[T,x,Z,I.aF.fresh hT,λys hy=>by rw[I.jy hy hq];exact hx,Z],#[?_,dY.2.1],λb hb=>?_]
  ·obtain⟨old,q⟩:=dY.1;exact#[old,by simpa using q]
  ·rw[ax (λz:b=T=>nT (by rw[<- z];exact hb))];exact (hf b hb).1
 done:=by
  intro X hP hw hK hc i pins s σ H E I hf st hg;subst hP hw hK;obtain⟨xs,hq,hx⟩:=hg;obtain⟨its,rv,p,hz⟩:=I.list hq;have W:=WalksT.enumerate (prog:=X.prog) (w:=X.w) (A:=X.A) (I.ok.hd hc) e it a h1 h2 h3 its.toArray
  have hn:its.toArray.size=i:=by
   have:=rv.length;simp only[cE];omega
  refine W.done s _ _ (by rw[hn];exact#[st.1,st.2,p.isList]) λh' tk kk=>#[Z,I.ip (t':=tk) (fp:=[e,it]) kk hf]
 self:=λA i s Q E st h=>by
  obtain⟨old,q⟩:=st.1;exact wpAny_pyIter_enum q h
inductive r_ (K:ag) (R:It->Hp->Prop) (vs:List V) (H1:Hp):Prop
 |mk:∀a,vs=[.ref a]->(∃xs,dB K H1 a xs)->R (Fq K a) H1->r_ K R vs H1
def Dr(K:ag)(ta:TA):TI:=λσ H R=>ta σ H λvs H1=>r_ K R vs H1
theorem K_{kk:Nat}{p2:Pos}{a:Expr}{ta:TA}{p:Pos}(hg:Gl X "enumerate")(hm:X.mg "enumerate"=none)(ha:PA X [a] ta)(hs:starEach [a] X.env=[(false,eval a X.env)]:=by rfl):PI X (.Tuple elts kk p2) (.Call (.Name "enumerate" p) [a] [] pos) (Dr X.K ta):=by
 intro pins s σ H R I h;refine Call_ (tZ I hg hm boot_enumerate (PyProof.Rows.callWith_type1 (aJ (ha pos pins s σ H _ I h) λus s1 ⟨vs,H1,I1,r1,q1⟩=>?_) hs Z));obtain⟨l,e,⟨xs,hq⟩,q⟩:=q1;subst e;cases r1 with
 |cons r rr=>
  cases rr;cases r;obtain⟨its,rv,pl,hz⟩:=I1.list hq;have ll:l<s1.heap.objs.size:=by obtain⟨_,e,_⟩:=pl.isList;exact bN e
  refine call_enumerate_list pl.isList λh' he hi hn kp=>?_;refine wpAny_pyIter_enum he ?_;refine#[s1.heap.objs.size+1,[s1.heap.objs.size+1,s1.heap.objs.size],_,_,H1,Z,I1.kept (t':=s1.toks) kp,hQ_ l _ _ (Nat.succ_ne_self _) (dc (Nat.lt_succ_of_lt ll)) (dc ll),#[#[_,he],hi],λb hb=>?_,q]
  have e:s1.heap.objs.size<=b:=by
   rcases bO.mp hb with rfl|hb
   ·exact Nat.le_succ _
   ·obtain rfl:b=s1.heap.objs.size:=by simpa using hb
    exact aZ _
  exact I1.hJ e (I1.aF.fresh e)
theorem Lq{K:ag}{a:Addr}{xs:List V}{g:TG}{tb:TS}{D:Ends}{H:Hp}(Pv:Nat->St->Hp->Prop)(h0:Pv 0 σ H)(hl:∀i σ H,i<=xs.length->Pv i σ H->dB K H a xs)(hs:∀i x σ H,xs[i]? = some x->Pv i σ H->∀t,H t=none->g (.ref t) σ (upd H t (.tup [.int i,x])) λfC H2=>tb { D with nx:=Pv (i+1),ct:=Pv (i+1),bk:=D.nx } fC H2)(hd:∀σ H,Pv xs.length σ H->D.nx σ H) :
  ∃W:Nat->Nat->St->Hp->Prop,(∃m,W 0 m σ H)/\∀i m σ H,W i m σ H->
   ((Fq K a).stop i H/\D.nx σ H)∨((Fq K a).go i H/\∃N:St->Hp->Prop,(∀bf H',N bf H'->∃m',m'<m/\W (i+1) m' bf H')/\∀x H',(Fq K a).ui i H x H'->g x σ H' λfC H2=>tb { D with nx:=N,ct:=N,bk:=D.nx } fC H2):=by
 refine#[λi m σ H=>m=xs.length - i/\i<=xs.length/\Pv i σ H,#[xs.length,by simp,fB _,h0],?_];rintro i m σ H ⟨rfl,hi,p⟩;have q:=hl i σ H hi p;by_cases cb:i<xs.length
 ·refine .inr #[#[xs,xs[i],q,by simp[cb]],Pv (i+1),λbf H' p'=>#[xs.length - (i+1),by omega,Z,cb,p'],λx H' y=>?_];obtain⟨t,x,rfl,ht,y,rfl⟩:=y;exact hs i x σ H (y xs q) p t ht
 ·have e:i=xs.length:=by omega
  subst e;exact .inl #[#[xs,q,Z],hd σ H p]
theorem KO(a b c:Str):Dm (.str a) [.str b,.str c]=(decide (b=a) || decide (c=a)):=by
 have e:∀x y:Str,o4 (.str x) (.str y)=decide (x=y):=λx y=>by
  have:=Pk (a:=Sum.inr x) (b:=Sum.inr y) Z;rw[show o4 (.str x) (.str y)=o4 (kV (Sum.inr x)) (kV (Sum.inr y)) from Z,this];by_cases z:x=y
  ·simp[z]
  ·simp[z]
 unfold Dm;simp only[List.any_cons,List.any_nil,Bool.or_false,e]
section
variable{M:Model}{A:Ag}{E:Aa->Ab->Prop}{s:Ab}{base:Heap}{env:Env}{outer:List Env}{L e:Addr}{cls cx fl:Aa}{Q:Unit->Ab->Prop}
end
section
variable{P:Ad}{w:Af}{H H':Hp}{B h0 h h1:Heap}{l:List Env}
end
section
variable{X:Cx}{pins:List (Addr × Obj)}{σ:St}{H H':Hp}{s s1:Ab}{B h:Heap}{a:Addr}{cls a0:Aa}{E:XK}
end
section
variable{P:Ad}{w:Af}{K:ag}{mg:Str->Option Aa}{base:Heap}{N:List Str}{qual:Str}{scope:Scope}{f:Addr}{cd:Aa}{A:Ag}{outer:List Env}{s:Ab}{H:Hp}{E:XK}
end
section
variable{P:Ad}{w:Af}{K:ag}{mg:Str->Option Aa}{base:Heap}
end
open PySem.Calls Builtin Builtin.ObjectAttr Builtin.Getset_descriptor
structure NI (K:ag) (C:Addr):Prop where
 cl:(clsIn K C).isSome=true
 ga:findIn K (.ref C) "__getattribute__"=some (some (.builtin "BaseException.__getattribute__"))
 ha:findIn K (.ref C) "__getattr__"=some none
 ca:findIn K (.ref C) "__class__"=some (some (.builtin "object.__class__"))
 gt:specialIn K (.builtin "object.__class__") "__get__"=some (some (.builtin "getset_descriptor.__get__"))
 tk:takesIn K (.builtin "object.__class__")=some true
 mo:mroIn K C (.type "object")=some true
 mb:mroIn K C (.type "BaseException")=some true
section
variable{prog:Ad}{w:Af}{A:Ag}{E:Aa->Ab->Prop}{s:Ab}{K:ag}{x C:Addr}
end
inductive wF (K:ag) (xs:List V) (H:Hp) (Q:VK):Prop
 |mk:∀x C t b,xs=[x,.ref C]->eW K H x t->PySem.W.kitOne K t (.ref C)=some b->Q (.bl b) H->wF K xs H Q
theorem h3_:gJ X (.builtin "isinstance") (wF X.K):=by
 intro pins s σ H xs us Q I r h;obtain⟨x,C,t,b,rfl,ty,e,q⟩:=h;obtain⟨u,w',rfl,ru,iz⟩:=vals2 r;cases (show w'=Value.ref C from iz);exact RD I ru ty e λtk=>#[.bl b,H,I.tok tk,Z,q]
end L2
namespace Ev
open PySem L2
abbrev rC:Stmt:=top 68
abbrev lP:Stmt:=top 71
abbrev qZ:Stmt:=top 73
abbrev IM:Stmt:=top 21
abbrev LO:Stmt:=top 30
abbrev k_:Stmt:=top 31
abbrev lK:Stmt:=top 69
abbrev lF:Stmt:=top 70
abbrev lI:Stmt:=top 72
abbrev lQ:Stmt:=top 57
abbrev LJ:Stmt:=top 58
abbrev Mz:Stmt:=top 59
abbrev Ep:Stmt:=top 60
abbrev Lm:Stmt:=top 24
abbrev Lv:Stmt:=top 25
abbrev IL:Stmt:=top 22
abbrev qU:Stmt:=top 26
abbrev LU:Stmt:=top 27
abbrev L_:Stmt:=top 53
abbrev Lg:Stmt:=top 14
abbrev gY:Stmt:=top 32
abbrev GW:Stmt:=top 33
abbrev rp:Stmt:=top 34
abbrev yq:Stmt:=top 35
abbrev yn:Stmt:=top 36
abbrev MH:Stmt:=top 37
abbrev Ng:Stmt:=top 38
abbrev L9:Stmt:=top 39
abbrev EC:Stmt:=top 40
abbrev MI:Stmt:=top 41
abbrev jm:Stmt:=top 42
abbrev LV:Stmt:=top 43
abbrev M6:Stmt:=top 44
abbrev Lu:Stmt:=top 45
abbrev M8:Stmt:=top 74
abbrev lA:Stmt:=top 75
abbrev Li:Stmt:=top 76
abbrev k9:Stmt:=top 77
abbrev rg:Stmt:=top 78
abbrev rA:Stmt:=top 79
abbrev qW:Stmt:=top 80
abbrev Lk:Stmt:=top 84
abbrev lE:Stmt:=top 62
abbrev lO:Stmt:=top 63
abbrev L4:Stmt:=top 65
abbrev lJ:Stmt:=top 66
abbrev rq:Stmt:=top 85
abbrev qX:Stmt:=top 86
abbrev gj:Stmt:=top 87
def aV(l:Addr)(H H':Hp):Prop:=∀b o,H b=some o->b≠l->H' b=some o
theorem aV.refl(l:Addr)(H:Hp):aV l H H:=λ_ _ e _=>e
variable{l:Addr}{H H1:Hp}
theorem aV.trans{H2:Hp}(h:aV l H H1)(h2:aV l H1 H2):aV l H H2:=λb o e n=>h2 b o (h b o e n) n
theorem aV.of(h:aa H H1):aV l H H1:=λb o e _=>h b o e
theorem aV.upd{o:HO}:aV l H (upd H l o):=λb u e n=>by rw[ax n];exact e
def dD(H:Hp)(l:Addr):Prop:=∃a b c:Int,H l=some (.lst [.int a,.int b,.int c])
theorem dD.some(h:dD H l):∃xs,H l=some (.lst xs):=by
 obtain⟨a,b,c,e⟩:=h;exact#[_,e]
variable{H':Hp}
theorem dD.same(h:dD H l)(s:aa H H'):dD H' l:=by
 obtain⟨a,b,c,e⟩:=h;exact#[a,b,c,s _ _ e]
theorem dD.ne{a:Addr}(h:dD H l)(e:H a=none):a≠l:=by
 rintro rfl;obtain⟨x,y,z,h⟩:=h;rw[e] at h;cases h
theorem aV.free{b:Addr}(h:aV l H H')(s:dD H' l)(e:H' b=none):H b=none:=by
 cases z:H b with
 |none=>rfl
 |some o=>
  by_cases q:b=l
  ·subst q;obtain⟨x,y,u,s⟩:=s;rw[e] at s;cases s
  ·rw[h b o z q] at e;cases e
theorem oC{α:Type}{xs:List α}{i:Int}(h0:0<=i)(h1:i<xs.length):gG xs i=xs[i.toNat]?:=by
 unfold gG wQ;rw[aC h0,aC h1];rfl
theorem _j:("abcdefghijklmnopqrstuvwxyz":Str).cps.toList=[97,98,99,100,101,102,103,104,105,106,107,108,109,110,111,112,113,114,115,116,117,118,119,120,121,122]:=by decide +kernel
def Bc{α:Type}(l:List α)(k:Nat)(x:α):List α:=l.take k++x::l.drop k
theorem Mi{α:Type}(l:List α)(k:Nat)(x:α):(Bc l k x).Perm (x::l):=by
 unfold Bc;refine List.perm_middle.trans ?_;rw[List.take_append_drop]
theorem hX_{α:Type}(l:List α)(k:Nat)(x:α):(Bc l k x).length=l.length+1:=(Mi l k x).length_eq
theorem u_{α:Type}{a b:α}{r:Int}(h0:0<=r)(h1:r<2):gG [a,b] r=some a∨gG [a,b] r=some b:=by
 have:r=0∨r=1:=by omega
 rcases this with rfl|rfl
 ·exact .inl Z
 ·exact .inr Z
variable{K:ag}
theorem ub{ys:List V}{ks:List (List Key)}(t:aY K H ys ks)(b:aV l H H'){xs:List V}(hl:H l=some (.lst xs)):aY K H' ys ks:=Paired.bo t λy k ⟨a,z,q⟩=>#[a,z,b _ _ q (bZ q hl nofun)]
variable{ns:List Str}
theorem Rn{D:Addr}(h:H D=some (.lst (ns.map V.str))):rL K rS H (.ref D) ns:=#[D,_,Z,.of h,Bz ns]
def kO(t:Str × Str):List Key:=kT (aH t.1 t.2)
structure TI (ns:List Str) (k j:Nat) (ts:Xb):Prop where
 at':∀t∈ts,∃(a b:Nat) (x y:Str),b<a/\(a<k∨(a=k/\b<j))/\ns[a]? = some x/\ns[b]? = some y/\(t=(x,y)∨t=(y,x))
 nd:(ts.map kO).Nodup
 len:ts.length<=7 * k+j
variable{j k:Nat}{ts:Xb}
theorem TI.skip(h:TI ns k j ts):TI ns k (j+1) ts:=
 #[λt ht=>let #[a,b,x,y,h1,h2,h3,h4,h5]:=h.at' t ht;#[a,b,x,y,h1,by omega,h3,h4,h5],h.nd,by have:=h.len;omega]
theorem TI.next(h:TI ns k k ts)(h7:k<=7):TI ns (k+1) 0 ts:=
 #[λt ht=>let #[a,b,x,y,h1,h2,h3,h4,h5]:=h.at' t ht;#[a,b,x,y,h1,by omega,h3,h4,h5],h.nd,by have:=h.len;omega]
theorem Ah{a b:Str × Str}(h:kT a=kT b):a=b:=by
 unfold kT at h;obtain⟨h1,h2⟩:=List.cons.inj h;obtain⟨h2,_⟩:=List.cons.inj h2;exact Prod.ext (hU h1) (hU h2)
variable{x:Str}
theorem EJ(nd:ns.Nodup){i:Nat}(h:ns[i]? = some x)(h2:ns[j]? = some x):i=j:=by
 obtain⟨hi,e1⟩:=bP.mp h;obtain⟨hj,e2⟩:=bP.mp h2;exact (List.getElem_inj nd).mp (e1.trans e2.symm)
variable{a b:Str}
theorem KQ{c d:Str}(h:kO (a,b)=kO (c,d)):(a=c/\b=d)∨(a=d/\b=c):=by
 have h:=Ah h;dsimp only at h;rcases GO a b with e|e<;>rcases GO c d with e2|e2<;>rw[e,e2] at h<;>have h1:=(Prod.mk.inj h).1<;>have h2:=(Prod.mk.inj h).2
 ·exact .inl #[h1,h2]
 ·exact .inr #[h1,h2]
 ·exact .inr #[h2,h1]
 ·exact .inl #[h2,h1]
theorem TI.add(h:TI ns k j ts)(nd:ns.Nodup){y:Str}{t:Str × Str}(hj:j<k)(hx:ns[k]? = some x)(hy:ns[j]? = some y)(ht:t=(x,y)∨t=(y,x))(q:Nat):TI ns k (j+1) (Bc ts q t):=by
 refine#[λu hu=>?_,?_,by have:=h.len;rw[hX_];omega]
 ·rcases bO.mp ((Mi _ _ _).mem_iff.mp hu) with rfl|hu
  ·exact#[k,j,x,y,hj,.inr #[Z,by omega],hx,hy,ht]
  ·exact h.skip.at' u hu
 ·refine ((Mi ts q t).map kO).nodup_iff.mpr ?_;rw[dN];refine pe.mpr #[λm=>?_,h.nd];obtain⟨u,hu,e⟩:=a_.mp m;obtain⟨a,b,c,d,h1,h2,h3,h4,h5⟩:=h.at' u hu
  have key:(c=x/\d=y)∨(c=y/\d=x):=by
   rcases h5 with rfl|rfl<;>rcases ht with rfl|rfl<;>rcases KQ e with⟨q1,q2⟩|⟨q1,q2⟩<;>simp_all
  rcases key with⟨rfl,rfl⟩|⟨rfl,rfl⟩
  ·have:=EJ nd h3 hx;have:=EJ nd h4 hy;omega
  ·have:=EJ nd h3 hy;have:=EJ nd h4 hx;omega
theorem TI.good(h:TI ns k j ts)(nd:ns.Nodup)(ok:∀n∈ns,ig n=true):∀t∈ts,zK t/\t.1∈ns/\t.2∈ns:=λt ht=>by
 obtain⟨a,b,x,y,h1,h2,h3,h4,h5⟩:=h.at' t ht;have mx:=cn h3;have my:=cn h4
 have ne:x≠y:=λe=>by
  subst e;have:=EJ nd h3 h4;omega
 rcases h5 with rfl|rfl
 ·exact#[#[ok _ mx,ok _ my,ne],mx,my]
 ·exact#[#[ok _ my,ok _ mx,ne.symm],my,mx]
theorem ZZ(ns:List Str)(k:Nat):iG (ns.map V.str) none (some (k:Int))=(ns.take k).map V.str:=by
 unfold iG;rw[HT.jq,HT.nO,List.drop_zero,Nat.sub_zero,List.map_take,aq];by_cases h:k<=ns.length
 ·rw[Nat.min_eq_left h]
 ·rw[Nat.min_eq_right Z1,vM (by rw[aq];omega),vM (by rw[aq];omega)]
theorem hH_(h:yP a b=true):yP b a=false:=RR (a:=Sum.inr a) (b:=Sum.inr b) h
theorem YA(h:yP a b=false)(h2:yP b a=false):a=b:=hU (Qa (a:=Sum.inr a) (b:=Sum.inr b) h h2)
theorem Ho(a b:Str):aH a b=aH b a:=by
 unfold aH;by_cases h:yP a b=true
 ·rw[aC h,ao (by rw[hH_ h];decide)]
 ·by_cases h2:yP b a=true
  ·rw[ao h,aC h2]
  ·have:=YA (by simpa using h) (by simpa using h2);subst this;rw[ao h]
theorem Hd{x:Str × Str}:x∈aK ts ↔ ∃t∈ts,aH t.1 t.2=x:=by
 have e:kT x∈(aK ts).map kT ↔ x∈aK ts:=#[λh=>by
  obtain⟨y,hy,e⟩:=a_.mp h;rw[<- Ah e];exact hy,λh=>a_.mpr #[x,h,Z]]
 rw[<- e,E7,(ko _).mem_iff,a_];exact#[λ⟨t,ht,q⟩=>#[t,ht,Ah q],λ⟨t,ht,q⟩=>#[t,ht,by rw[q]]]
theorem X5(a b:Str):kO (a,b)=kO (b,a):=by
 show kT (aH a b)=kT (aH b a);rw[Ho]
end Ev
namespace L2
open PySem PySem.Spec PyProof.Rows
inductive Cs (x:V) (lo:Option Int) (hi:Option Int) (H:Hp) (Q:VK):Prop
 |mk:∀z,x=.str z->z.length<=sizeLine->Q (.str (Txt.slice z lo hi)) H->Cs x lo hi H Q
variable{X:Cx}
theorem O6:NC X Cs:=by
 intro pins s σ H x v vl vu lo hi sl Q I rx hs pl pu h;obtain⟨z,rfl,hz,q⟩:=h;obtain⟨t,rfl⟩:=rx;refine⟨"str",_,PySem.F.slot_str_getitem.lookup,typeIs_str _ _ _,?_⟩
 have fin:∀lo hi,Q (.str (Txt.slice z lo hi)) H->(Txt.slice z lo hi).length<=sizeLine/\∀t' k,EP X pins σ Q (.str (Txt.slice z lo hi) t') { s with toks:=k }:=λlo hi q=>
  #[oG (Txt.slice_le z _ _) hz,λt' k=>#[.str _,H,I.kept (h':=s.heap) (t':=k) λ_ _ e=>e,#[t',Z],q]]
 cases pl with
 |none=>
  cases pu with
  |none=>exact wpAny_getItem_str_slice (l:=none) (u:=none) (st:=none) hs Z (post_val_or_str (fin _ _ q))
  |int j u=>exact wpAny_getItem_str_slice (l:=none) (u:=some (j,u)) (st:=none) hs Z (post_val_or_str (fin _ _ q))
 |int i u=>
  cases pu with
  |none=>exact wpAny_getItem_str_slice (l:=some (i,u)) (u:=none) (st:=none) hs Z (post_val_or_str (fin _ _ q))
  |int j u'=>exact wpAny_getItem_str_slice (l:=some (i,u)) (u:=some (j,u')) (st:=none) hs Z (post_val_or_str (fin _ _ q))
theorem XH{x:Str}{j:Nat}(h:j<=x.length):(Txt.slice x none (some (j:Int))).cps.toList=x.cps.toList.take j:=by
 have:=eq_of_beq (slice_closes_toL (x:=x) (j:=(j:Int)) Z1 Z1);rw[this];simp
theorem ZO{x:Str}{i:Nat}(h:i<=x.length):(Txt.slice x (some (i:Int)) none).cps.toList=x.cps.toList.drop i:=by
 rw[slice_from_eq (x:=x) (i:=(i:Int)) (b:=(x.length:Int)) Z1 Z1 Z]
 have:((x.length:Int) - (i:Int)).toNat=x.cps.toList.length - i:=by
  have:x.length=x.cps.toList.length:=by rw[mN];rfl
  omega
 rw[this];simp;rw[vM];simp
open PySem.Builtin PySem.Builtin.Str
theorem QT:∀{ss:List Str} {us:List Aa},Vals (ss.map V.str) us->StrsAre us ss
 |[],_,.nil=>.nil
 |x::ss,_,.cons r rs=>by
  obtain⟨t,rfl⟩:=r;exact .cons x t (QT rs)
theorem RZ:∀(l:List (Str × Tok)),Vals ((l.map (·.1)).map V.str) (strValues l)
 |[]=>.nil
 |(x,t)::l=>.cons #[t,Z] (RZ l)
inductive rJoin (K:ag) (x:V) (vs:List V) (H:Hp) (Q:VK):Prop
 |mk:∀(sep:Str) (p:Addr) (ss:List Str),x=.str sep->vs=[.ref p]->dB K H p (ss.map V.str)->(ss.map (·.length)).sum+ss.length * sep.length<=16777216->Q (.str (Txt.join sep ss)) H->rJoin K x vs H Q
theorem X8:HM X "str.join" (rJoin X.K):=by
 intro pins s σ H x vs v us Q I rx rv h;obtain⟨sep,p,ss,rfl,rfl,hp,hz,q⟩:=h;obtain⟨t,rfl⟩:=rx;obtain⟨u,rfl,ru⟩:=rv.one;cases (show u=Value.ref p from ru);obtain⟨its,r,ht,_⟩:=I.list hp;exact join_list ht.isList (QT r) hz λt' k=>#[.str _,H,I.tok k,#[t',Z],q]
open PySem.W
inductive wD (x:V) (y:V) (H:Hp) (Q:VK):Prop
 |mk:∀z n,x=.str z->y=.int n->PySem.MulOk z n->Q (.str (Txt.mul z n)) H->wD x y H Q
theorem Xr:dC X (binaryOp .Mult) wD:=by
 intro pins s σ H x y v u Q I rx ry h;obtain⟨z,n,rfl,rfl,ok,q⟩:=h;obtain⟨t,rfl⟩:=rx;obtain⟨t2,rfl⟩:=ry;exact SB.mul ok λt' k=>#[.str _,H,I.tok _,#[_,Z],q]
end L2
namespace Ev
open PySem L2
theorem sy{α:Type}{p:α->Prop}{xs:List α}{r:Int}{n:Nat}(hn:xs.length=n)(h0:0<=r)(h1:r<(n:Int))(h:∀v∈xs,p v):∃v,gG xs r=some v/\p v:=by
 have hl:r.toNat<xs.length:=by omega
 refine#[xs[r.toNat],?_,h _ (ku hl)];rw[oC h0 Z1,di hl]
theorem yj:bh ["_law_script","_law_k"] ["_law_script","_law_k"] (aU rC):=bu
def qx(K:ag):Sp:=λvs H Q _=>∃(l:Addr) (ns:List Int) (k:Int),vs=[.ref l,.int k]/\0<=k/\dB K H l (ns.map V.int)/\∀n,Q (.int n) H
variable{f:Addr}{fd:Ae}{P:Ad}{w:Af}{K:ag}{mg:Str->Option Aa}{base:Heap}
theorem Yu(F:a9 K "_law_cell_at" "_law_cell_at" rC f fd)(B:Bi mg):ai P w K mg base aR 1 f fd ["_law_script","_law_k"] (qx K):=by
 refine F.bt yj λaL A outer s H vs Q E hr h=>?_
 ·obtain⟨l,ns,i,rfl,h0,hl,k⟩:=h;refine#[_,au (bC (cU JI (pv 1) (cK jU (by rfl) B.len gP (ae (pv 0) af)) (ak _)) (aI (ba (bB gQ (pv 0) (pv 1) (λ_ _=>rfl)))) bD) (aI (ba aE)),?_];refine#[_,Z,_,Z,l,_,Z,.inl hl,_,_,Z,Z,_,Z,?_];refine bp (λc=>?_) (λc=>?_)
  ·have c:i<(ns.map V.int).length:=by simpa using c
   have e:gG (ns.map V.int) i=some (.int (ns[i.toNat]'(by rw[aq] at c;omega))):=by
    rw[oC h0 c,dU,di (by rw[aq] at c;omega)];rfl
   exact#[_,Z,_,Z,l,_,_,_,Z,Z,hl,e,k _]
  ·exact k 0
theorem LX:bh ["_law_number"] ["_law_number"] (aU lK):=bu
def nA:Sp:=λvs H Q _=>∃n:Int,vs=[.int n]/\∀r:Int,Q (.int r) H
theorem small(x:Int):-(2 ^ 64)<x % 2147483647/\x % 2147483647<2 ^ 64:=by
 have a:=vP x (show (2147483647:Int)≠0 by decide);have b:=xA x (show (0:Int)<2147483647 by decide);omega
theorem qz(x:Int):-(2 ^ 64)<x % 2147483647+1/\x % 2147483647+1<2 ^ 64:=by
 have a:=vP x (show (2147483647:Int)≠0 by decide);have b:=xA x (show (0:Int)<2147483647 by decide);omega
theorem ZP(F:a9 K "_law_mixed" "_law_mixed" lK f fd):ai P w K mg base aR 1 f fd ["_law_number"] nA:=by
 refine F.bt LX λaL A outer s H vs Q E hr h=>?_
 ·obtain⟨n,rfl,k⟩:=h;refine' #[_,au ?s1 (au ?s2 ?s3),?kk]
  case s1=>exact bg 0 LX.nd (bw tY (bw ki (bw i4 (bw tY (pv 0) aE) aE) aE) aE)
  case s2=>exact bg 0 LX.nd (bw tY (bw ki (pv 0) (bw i4 (bw vz (pv 0) aE) aE)) aE)
  case s3=>exact aI (ba (bw tY (bw ki (bw i4 (pv 0) aE) (bw i4 (bw vz (pv 0) aE) aE)) aE))
  case' kk=>skip
  refine#[_,Z,_,_,Z,Z,by show (0:Int)<2147483647;decide,_,_,Z,Z,_,_,Z,Z,.inl (qz n),_,_,Z,Z,by show (0:Int)<2147483647;decide,?_];refine#[_,Z,_,Z,_,_,Z,Z,#[by decide,by decide],_,_,Z,Z,_,_,Z,Z,.inl (small _),_,_,Z,Z,by show (0:Int)<2147483647;decide,?_];exact#[_,Z,_,_,Z,Z,_,Z,_,_,Z,Z,#[by decide,by decide],_,_,Z,Z,_,_,Z,Z,.inl (qz _),_,_,Z,Z,by show (0:Int)<2147483629;decide,k _]
theorem uB:bh ["_law_cell","_law_k"] ["_law_cell","_law_k"] (aU lF):=bu
def nu:Sp:=λvs H Q _=>∃(c:Int) (i:Nat),vs=[.int c,.int i]/\i<100/\∀l H',aa H H'->H l=none->dD H' l->Q (.ref l) H'
theorem ZS(F:a9 K "_law_state" "_law_state" lF f fd):ai P w K mg base aR 1 f fd ["_law_cell","_law_k"] nu:=by
 refine F.bt uB λaL A outer s H vs Q E hr h=>?_
 ·obtain⟨c,i,rfl,hi,k⟩:=h;refine#[_,aI (ba (d5 (ae (bw vz (pv 0) aE) (ae (bw tY (pv 0) aE) (ae (bw i4 (pv 0) (bw ki aE (pv 1))) af))))),?_];refine#[_,Z,_,_,Z,Z,#[by decide,by decide],_,Z,_,_,Z,Z,by show (0:Int)<2;decide,_,Z,_,Z,_,_,Z,Z,.inl #[by decide,by decide],_,_,Z,Z,by show 3<=sizeLine;decide,λl hl=>?_];exact k l _ (aa.new hl) hl #[_,_,_,ay]
theorem nM:bh ["_law_state_here","_law_base","_law_found"] ["_law_state_here","_law_base"] (aU lP):=bu
def As:Sp:=λvs H Q _=>∃(l:Addr) (b:Int),vs=[.ref l,.int b]/\0<b/\b<1073741824/\dD H l/\∀r H',0<=r->r<b->aV l H H'->dD H' l->Q (.int r) H'
theorem Zu(F:a9 K "_law_digit" "_law_digit" lP f fd)(cM:bj P w K mg base 1 "_law_mixed" ["_law_number"] nA):ai P w K mg base aR 2 f fd ["_law_state_here","_law_base"] As:=by
 refine F.bt nM λaL A outer s H vs Q E hr h=>?_
 ·obtain⟨l,b,rfl,h0,h1,⟨x,y,z,hl⟩,k⟩:=h;refine' #[_,au ?s1 (au ?s2 ?s3),?kk]
  case s1=>exact bC (xo (cU i9 (bB gQ (pv 0) aE (λ_ _=>rfl)) aE (ak _)) (Aq (cU xh (bB gQ (pv 0) aE (λ_ _=>rfl)) aE (ak _)))).pt (au (bg 2 nM.nd (bw tY (bB gQ (pv 0) aE (λ_ _=>rfl)) (pv 1))) (au (Gy (bw vz (bB gQ (pv 0) aE (λ_ _=>rfl)) (pv 1)) (Pb (pv 0) aE Rm)) (aI (ba (pv 2))))) bD
  case s2=>exact Gy (aX cM hr (ae (bw i4 (bB gQ (pv 0) aE (λ_ _=>rfl)) aE) af)) (Pb (pv 0) aE Rm)
  case s3=>exact aI (ba (bw tY (bw vz (bB gQ (pv 0) aE (λ_ _=>rfl)) aE) (pv 1)))
  case' kk=>skip
  have other:∀{R:Prop},R->R:=λh=>h;refine#[_,Z,l,_,_,_,Z,Z,.of hl,Z,Z,_,Z,?_];refine bp (λc=>?_) (λc=>?_)
  ·refine#[_,Z,l,_,_,_,Z,Z,.of hl,Z,_,_,Z,Z,_,Z,?_];refine bp (λc2=>?_) (λc2=>?_)
   ·refine#[_,Z,l,_,_,_,Z,Z,.of hl,Z,_,Z,_,_,Z,Z,h0,?_];refine#[_,Z,l,_,_,_,Z,Z,.of hl,Z,_,Z,_,_,Z,Z,#[h0,h1],_,Z,l,_,_,0,Z,Z,hl,Z,?_];exact#[_,Z,k _ _ (vP _ Z1) (xA _ h0) aV.upd #[_,_,_,ay]]
   ·refine#[_,Z,l,_,_,_,Z,Z,.of hl,Z,_,_,Z,Z,_,Z,λr=>#[_,Z,l,_,_,2,Z,Z,hl,Z,?_]];refine#[_,Z,l,_,_,_,Z,Z,.of ay,Z,_,_,Z,Z,#[by decide,by decide],_,Z,_,_,Z,Z,h0,?_];exact k _ _ (vP _ Z1) (xA _ h0) aV.upd #[_,_,_,ay]
  ·refine#[_,Z,l,_,_,_,Z,Z,.of hl,Z,_,_,Z,Z,_,Z,λr=>#[_,Z,l,_,_,2,Z,Z,hl,Z,?_]];refine#[_,Z,l,_,_,_,Z,Z,.of ay,Z,_,_,Z,Z,#[by decide,by decide],_,Z,_,_,Z,Z,h0,?_];exact k _ _ (vP _ Z1) (xA _ h0) aV.upd #[_,_,_,ay]
variable{σ:St}{H:Hp}
theorem dq{t u:TS}{D:Ends}(R:St->Hp->Prop)(later:∀σ H,R σ H->u D σ H)(now:∀N:St->Hp->Prop,(∀σ H,R σ H->N σ H)->t { D with nx:=N } σ H):qc t u D σ H:=now (u D) later
theorem setG{i:Nat}{v:V}{N:St->Hp->Prop}(h:N (σ.set i (some v)) H):mE i v σ H N:=h
variable{a l:Addr}{o:HO}
theorem dD.upd(h:dD H l)(n:a≠l):dD (L2.upd H a o) l:=by
 obtain⟨x,y,z,e⟩:=h;exact#[x,y,z,by rw[ax n.symm];exact e]
variable{H':Hp}
theorem aV.snd(h:aV l H H')(e:H a=none):aV l H (L2.upd H' a o):=λb u q n=>by
 rw[ax (bI q e)];exact h b u q n
theorem _F(sep:Str)(ss:List Str):(Txt.join sep ss).length<=(ss.map (·.length)).sum+ss.length * sep.length:=by
 show (Builtin.Str.glued sep ss).length<=_;rw[size_glued];have:(ss.length - 1) * sep.length<=ss.length * sep.length:=Nat.mul_le_mul_right _ Z1;omega
variable{ss:List Str}{m:Nat}
theorem X0(h:∀x∈ss,x.length<=m):(ss.map (·.length)).sum<=m * ss.length:=by
 induction ss with
 |nil=>simp
 |cons x ss ih=>
  have a:=h x dO;have b:=ih λy hy=>h y (dP _ hy);rw[dN,List.sum_cons,hX,Nat.mul_add,Nat.mul_one];omega
theorem _w(h:∀x∈ss,∀c∈x.cps.toList,jt c=true):∀c∈(Txt.join "" ss).cps.toList,jt c=true:=by
 rw[show Txt.join "" ss=Str.join "" ss from StrLaws.glued_eq_join "" ss];intro c hc;rcases (PyProof.Rows.mem_join (sep:="") (ts:=ss) c).mp hc with⟨t,ht,m⟩|⟨_,m⟩
 ·exact h t ht c m
 ·rw[show ("":Str)=⟨#[]⟩ by decide +kernel] at m;simp at m
theorem uc(x:Str):x.length=x.cps.toList.length:=by rw[mN];rfl
theorem Ed(a b:Str):(a++b).cps.toList=a.cps.toList++b.cps.toList:=by rw[PySem.Str.cps_append,Array.toList_append]
theorem iO:("abcdefghijklmnopqrstuvwxyz":Str).length=26/\("abcdefghijklmnopqrstuvwxyz":Str).cps.toList.length=26:=by decide +kernel
variable{q:Nat}
theorem Qn(h:q<26):gG ("abcdefghijklmnopqrstuvwxyz":Str).cps.toList (q:Int)=some (97+q):=by
 rw[oC Z1 (by rw[iO.2];omega),_j];have:∀q:Fin 26,([97,98,99,100,101,102,103,104,105,106,107,108,109,110,111,112,113,114,115,116,117,118,119,120,121,122]:List Nat)[(q.val:Int).toNat]? = some (97+q.val):=by decide +kernel
 exact this #[q,h]
theorem PH(h:q<26):jt (97+q)=true:=by
 unfold jt;simp;omega
structure Nm (m:Nat) (ns:List Str):Prop where
 len:ns.length=m
 nd:ns.Nodup
 ok:∀n∈ns,ig n=true
variable{ns:List Str}
theorem Y8{f:Nat}{a b:List Nat}(hm:m<=30)(hl:ns.length=m)(oa:∀c∈a,jt c=true)(ob:∀c∈b,jt c=true)(l7:a.length+b.length<=6)(h:∀k n,ns[k]? = some n->n.cps.toList=a++(97+(f+7 * k) % 26)::(b++List.replicate (k / 26) 122)):Nm m ns:=by
 refine#[hl,?_,?_]
 ·refine pW.mpr (List.pairwise_iff_getElem.mpr λi j hi hj ma e=>?_);have e1:=h i _ (di hi);have e2:=h j _ (di hj);rw[e,e2] at e1;obtain⟨c1,c2⟩:=List.cons.inj (List.append_cancel_left e1);have c3:=dF List.length c2;rw[eF,eF,sY,sY] at c3;omega
 ·intro n hn;obtain⟨k,hk⟩:=List.mem_iff_getElem?.mp hn;have e:=h k n hk;unfold ig;rw[uc,e]
  have hk30:k<30:=by
   have:=(bP.mp hk).1;omega
  simp only[eF,hX,sY,List.all_append,List.all_cons,iR,jP,List.all_eq_true];exact#[#[by omega,by omega],oa,PH (Nat.mod_lt _ (by decide)),ob,λc hc=>by rw[(List.mem_replicate.mp hc).2];rfl]
abbrev Oy:List Str:=["_law_k","_law_letters","_law_state_here"]
abbrev Ox:List Str:=["_law_k","_law_first","_law_letters"]
abbrev Ow:List Str:=["_law_k","_law_place","_law_signs","_law_stem"]
theorem yL(h:q<=1):PySem.MulOk "z" (q:Int)/\(Txt.mul "z" (q:Int)).cps.toList=List.replicate q 122:=by
 have:q=0∨q=1:=by omega
 rcases this with rfl|rfl
 ·exact#[by unfold PySem.MulOk;decide +kernel,by decide +kernel]
 ·exact#[by unfold PySem.MulOk;decide +kernel,by decide +kernel]
theorem Bm:bh ["_law_state_here","_law_many","_law_letters","_law_stem","_law_place","_law_first","_law_signs"] ["_law_state_here","_law_many"] (aU lI):=bu
def L3:Sp:=λvs H Q _=>∃(l:Addr) (m:Nat),vs=[.ref l,.int m]/\m<=30/\dD H l/\∀(a:Addr) (ns:List Str) (H':Hp),aV l H H'->dD H' l->H a=none->H' a=some (.lst (ns.map V.str))->Nm m ns->Q (.ref a) H'
theorem _o(F:a9 K "_law_named" "_law_named" lI f fd)(B:Bi mg)(cD:bj P w K mg base 2 "_law_digit" ["_law_state_here","_law_base"] As):ai P w K mg base aR 3 f fd ["_law_state_here","_law_many"] L3:=by
 refine F.bt Bm λaL A outer s H vs Q E hr h=>?_
 ·obtain⟨l,m,rfl,m8,st,k⟩:=h;have sz:=bU;refine' #[_,?r0,?kk]
  case' r0=>refine' au ?s1 ?r1
  case' r1=>refine' au ?s2 ?r2
  case' r2=>refine' au ?s3 ?r3
  case' r3=>refine' au ?s4 ?r4
  case' r4=>refine' au ?s5 ?r5
  case' r5=>refine' aI ?s6
  case s1=>exact bg 2 Bm.nd dg
  case' s2=>refine' bg 3 Bm.nd ?a1
  case' a1=>refine' mz PySem.F.plainAttrs_str PySem.F.slot_str_join PySem.F.type_str_join X8 ?a2 ?a3
  case a2=>exact dg
  case' a3=>refine' ae ?a4 af
  case' a4=>refine' iP Oy 1 [2,0] ?d1 ?d2 ?d3 ?d4
  case d1=>exact Hm (by rfl) B.range (ae (aX cD hr (ae (pv 0) (ae aE af))) af)
  case d2=>exact λfp s H=>EM (i:=0) (show Oy.Nodup by decide +kernel) Z (Or.inl Z)
  case d3=>exact λfp s H=>gT
  case d4=>exact λfp s H=>bB O0 (pv 1) (aX cD hr (ae (pv 2) (ae aE af))) (λ_ _=>rfl)
  case s3=>exact bg 4 Bm.nd (aX cD hr (ae (pv 0) (ae (bw i4 (cK SK (by rfl) B.len gP (ae (pv 3) af)) aE) af)))
  case s4=>exact bg 5 Bm.nd (aX cD hr (ae (pv 0) (ae aE af)))
  case' s5=>refine' bg 6 Bm.nd ?e0
  case' e0=>refine' iP Ox 1 [5,2] ?e1 ?e2 ?e3 ?e4
  case e1=>exact Hm (by rfl) B.range (ae (pv 1) af)
  case e2=>exact λfp s H=>EM (i:=0) (show Ox.Nodup by decide +kernel) Z (Or.inl Z)
  case e3=>exact λfp s H=>gT
  case e4=>exact λfp s H=>bB O0 (pv 2) (bw tY (bw i4 (pv 1) (bw ki aE (pv 0))) aE) (λ_ _=>rfl)
  case' s6=>refine' ba ?f0
  case' f0=>refine' iP Ow 1 [4,6,3] ?f1 ?f2 ?f3 ?f4
  case f1=>exact Hm (by rfl) B.range (ae (pv 1) af)
  case f2=>exact λfp s H=>EM (i:=0) (show Ow.Nodup by decide +kernel) Z (Or.inl Z)
  case f3=>exact λfp s H=>gT
  case' f4=>intro fp s H
  case' f4=>refine' bw xx ?g1 ?g2
  case' g1=>refine' bw xx ?g3 ?g4
  case' g3=>refine' bw xx ?g5 ?g6
  case g5=>exact GX O6 (pv 3) GK (GQ (pv 1))
  case g6=>exact bB (AQ (K:=K) yz gQ) (pv 2) (pv 0) (λ_ _=>rfl)
  case g4=>exact GX O6 (pv 3) (GQ (pv 1)) GK
  case g2=>exact bw Xr dg (bw vz (pv 0) aE)
  case' kk=>skip
  refine#[Z,_,Z,l,7,Z,by decide,by decide,st,λr H1 r0 r7 b1 j4=>#[r,Z,by omega,by omega,λD hD=>?_]];have Dl:=j4.ne hD;refine xw (own:=1) (fv:=[some (.str "abcdefghijklmnopqrstuvwxyz"),some (.ref l)]) Z eD r.toNat (λi out H'=>∃ss:List Str,aV l H1 H'/\dD H' l/\out=ss.map V.str/\H' D=some (.lst out)/\ss.length=i/\∀x∈ss,x.length<=1/\∀c∈x.cps.toList,jt c=true) #[[],aV.of (aa.new hD),j4.same (aa.new hD),Z,ay,Z,by simp] (λout H2 ⟨ss,b2,d_,eo,ic,le,h1⟩=>#[aZ _,?_]) (λi out H2 hi ⟨ss,b2,d_,eo,ic,le,h1⟩=>#[hi,λx H3 ⟨e3,ex⟩=>?_]);rotate_left 1
  ·subst e3;refine#[_,Z,Z,λNx hN=>cZ ?_];refine#[_,Z,_,Z,l,26,Z,by decide,by decide,d_,λq H4 q0 Oi b4 gH=>?_];obtain⟨q,rfl⟩:=sZ q0;have CH:q<26:=by omega
   refine#[_,_,97+q,Z,Z,by rw[iO.1];decide,Qn CH,out,b4 _ _ ic Dl,?_,hN (out++[.str ⟨(List.toArray [97+q])⟩]) _ #[ss++[⟨(List.toArray [97+q])⟩],?_,gH.upd Dl,?_,ay,?_,?_]]
   ·rw[eo,aq];omega
   ·exact (b2.trans b4).snd hD
   ·rw[eo,bX];rfl
   ·rw[eF,le];rfl
   ·intro x hx;rcases eK.mp hx with hx|hx
    ·exact h1 x hx
    ·obtain rfl:x=⟨(List.toArray [97+q])⟩:=by simpa using hx
     refine#[aZ 1,λc hc=>?_];obtain rfl:c=97+q:=by simpa using hc
     exact PH CH
  subst eo;have sl:=X0 λx hx=>(h1 x hx).1;have l8:ss.length<=6:=by omega
  have Tq:=b1.trans b2;have fD:=b1.free j4 hD;refine#["",D,ss,Z,Z,.of ic,by show (ss.map (·.length)).sum+ss.length * 0<=16777216;omega,?_]
  have jl:(Txt.join "" ss).length<=6:=by
   have:=_F "" ss;have e0:("":Str).length=0:=by decide +kernel
   rw[e0] at this;omega
  have jo:=_w λx hx=>(h1 x hx).2;generalize Txt.join "" ss=jn at jl jo ⊢;clear ic h1 sl;refine#[_,Z,_,Z,jn,Z,by omega,_,_,Z,Z,l,_,Z,by omega,by omega,d_,λpl H4 p0 p1 b4 gH=>?_];obtain⟨pl,rfl⟩:=sZ p0;have On:pl<=jn.length:=by omega
  refine#[_,Z,l,26,Z,by decide,by decide,gH,λfi H5 f0 f1 b5 gc=>?_];obtain⟨fi,rfl⟩:=sZ f0;have Tp:=Tq.trans (b4.trans b5);clear Tq b4 b5 b1 b2;refine#[_,Z,(m:Int),Z,by omega,by omega,λD2 ic=>?_];have D2l:=gc.ne ic;have fD2:=Tp.free gc ic;refine xw (own:=1) (fv:=[some (.int fi),some (.str "abcdefghijklmnopqrstuvwxyz")]) Z eD m (λi out H'=>aa H5 H'/\out=((List.range i).map λk=>V.str ⟨(List.toArray [97+(fi+7 * k) % 26])⟩)/\H' D2=some (.lst out)) #[aa.new ic,Z,ay] (λout H6 ⟨s6,eo,h6⟩=>#[aZ _,?_]) (λi out H6 hi ⟨s6,eo,h6⟩=>#[hi,λx H7 ⟨e7,ex⟩=>?_]);rotate_left 1
  ·subst e7;subst ex;have Oi:(fi+7 * i) % 26<26:=Nat.mod_lt _ (by decide);refine#[_,Z,Z,λNx hN=>cZ ?_];refine#[_,Z,_,Z,_,Z,_,_,Z,Z,.inl #[by decide,by decide],_,_,Z,Z,_,_,Z,Z,by show (0:Int)<26;decide,?_];have e:((fi:Int)+7 * (0+(i:Int))) % 26=(((fi+7 * i) % 26:Nat):Int):=by omega
   refine#[_,_,97+(fi+7 * i) % 26,Z,Z,by rw[iO.1];decide,?_,out,h6,?_,hN (out++[.str ⟨(List.toArray [97+(fi+7 * i) % 26])⟩]) _ #[gh s6 ic,?_,ay]]
   ·rw[e];exact Qn Oi
   ·rw[eo,aq,List.length_range];omega
   ·rw[eo,List.range_succ,bX];rfl
  subst eo;have To:aV l H H6:=Tp.trans (aV.of s6);have oK:=gc.same s6;have hl6:jn.length=jn.cps.toList.length:=uc jn;refine#[_,Z,(m:Int),Z,by omega,by omega,λD3 A5=>?_];have D3l:=oK.ne A5;have fD3:=To.free oK A5;refine xw (own:=1) (fv:=[some (.int pl),some (.ref D2),some (.str jn)]) Z eD m (λi out H'=>∃ns:List Str,aa H6 H'/\out=ns.map V.str/\H' D3=some (.lst out)/\ns.length=i/\∀k n,ns[k]? = some n->n.cps.toList=jn.cps.toList.take pl++(97+(fi+7 * k) % 26)::(jn.cps.toList.drop pl++List.replicate (k / 26) 122)) #[[],aa.new A5,Z,ay,Z,by simp] (λout H7 ⟨ns,s7,eo,h7,le,hn⟩=>#[aZ _,?_]) (λi out H7 hi ⟨ns,s7,eo,h7,le,hn⟩=>#[hi,λx H8 ⟨e8,ex⟩=>?_])
  ·subst eo;refine k D3 ns H7 (To.trans (aV.of s7)) (oK.same s7) fD3 h7 (Y8 m8 le (λc hc=>jo c (List.mem_of_mem_take hc)) (λc hc=>jo c (List.mem_of_mem_drop hc)) ?_ hn);rw[cj,List.length_drop];omega
  ·subst e8;subst ex;refine#[_,Z,Z,λNx hN=>cZ ?_];have ct:=XH (x:=jn) On;have cf:=ZO (x:=jn) On
   have lt:(Txt.slice jn none (some (pl:Int))).length<=6:=by
    rw[uc,ct,cj];omega
   have lf:(Txt.slice jn (some (pl:Int)) none).length<=6:=by
    rw[uc,cf,List.length_drop];omega
   have ha:((List.range m).map λk=>V.str ⟨(List.toArray [97+(fi+7 * k) % 26])⟩)[i]? = some (V.str ⟨(List.toArray [97+(fi+7 * i) % 26])⟩):=by
    rw[dU,List.getElem?_range hi];rfl
   refine#[_,Z,_,Z,_,Z,jn,Z,by omega,_,Z,_,Z,D2,_,_,V.str ⟨(List.toArray [97+(fi+7 * i) % 26])⟩,Z,Z,.of (s7 _ _ h6),?_,_,_,Z,Z,?_,?_]
   ·rw[oC Z1 (by rw[aq,List.length_range];omega),Int.zero_add];exact ha
   ·show (Txt.slice jn none (some (pl:Int))).length+1<=sizeLine;omega
   have l1:(Txt.slice jn none (some (pl:Int))++(⟨(List.toArray [97+(fi+7 * i) % 26])⟩:Str)).length<=7:=by
    rw[uc,Ed,eF,<- uc];show _+1<=7;omega
   refine#[_,Z,_,Z,_,Z,jn,Z,by omega,_,_,Z,Z,by omega,?_]
   have l2:(Txt.slice jn none (some (pl:Int))++(⟨(List.toArray [97+(fi+7 * i) % 26])⟩:Str)++Txt.slice jn (some (pl:Int)) none).length<=13:=by
    rw[uc,Ed,eF,<- uc,<- uc];omega
   have z0:((0:Int)+(i:Int)) / 26=((i / 26:Nat):Int):=by omega
   have q1:i / 26<=1:=by omega
   have lz:(Txt.mul "z" ((i / 26:Nat):Int)).length<=1:=by
    rw[uc,(yL q1).2,sY];exact q1
   refine#[_,Z,_,_,Z,Z,#[by decide,by decide],"z",((i / 26:Nat):Int),Z,by show V.int ((0+(i:Int)) / 26)=_;rw[z0],(yL q1).1,_,_,Z,Z,?_,out,h7,?_,hN _ _ #[ns++[Txt.slice jn none (some (pl:Int))++(⟨(List.toArray [97+(fi+7 * i) % 26])⟩:Str)++Txt.slice jn (some (pl:Int)) none++Txt.mul "z" ((i / 26:Nat):Int)],gh s7 A5,?_,ay,?_,?_]]
   ·omega
   ·rw[eo,aq];omega
   ·rw[eo,bX];rfl
   ·rw[eF,le];rfl
   ·intro k n hk;by_cases z:k<ns.length
    ·rw[BG z] at hk;exact hn k n hk
    ·rw[Aw Z1] at hk
     have hk0:k - ns.length=0:=by
      have:=(bP.mp hk).1;simp at this;omega
     rw[hk0] at hk;have:k=i:=by omega
     subst this;obtain rfl:=(dW hk);rw[Ed,Ed,Ed,ct,cf,(yL q1).2];simp
theorem gQ_(ys:List V)(k:Nat):iG ys none (some (k:Int))=ys.take k:=by
 unfold iG;rw[HT.jq,HT.nO,List.drop_zero,Nat.sub_zero];by_cases h:k<=ys.length
 ·rw[Nat.min_eq_left h]
 ·rw[Nat.min_eq_right Z1,vM (aZ _),vM Z1]
structure WI (K:ag) (H0 H:Hp) (l ln lh lt:Addr) (ns:List Str) (nh k j:Nat):Prop where
 but:aV l H0 H
 st:dD H l
 hn:H ln=some (.lst (ns.map V.str))
 gD:∃(ys:List V) (hs:Xa),H lh=some (.lst ys)/\aY K H ys (hs.map kH)/\hs.map (·.1)=ns.take nh/\∀h∈hs,1<=h.2/\h.2<=1000
 oJ:∃(zs:List V) (ts:Xb),H lt=some (.lst zs)/\aY K H zs (ts.map kT)/\TI ns k j ts
 nl:ln≠l
 hl:lh≠l
 tl:lt≠l
 th:lt≠lh
 CZ:ln≠lh
 nt:ln≠lt
 fh:H0 lh=none
 ft:H0 lt=none
variable{H0:Hp}{lh ln lt:Addr}{j k nh:Nat}
theorem WI.mv(W:WI K H0 H l ln lh lt ns nh k j)(b:aV l H H')(s:dD H' l):WI K H0 H' l ln lh lt ns nh k j:=by
 obtain⟨xs,hx⟩:=W.st.some;obtain⟨ys,hs,h1,h2,h3,h4⟩:=W.gD;obtain⟨zs,ts,t1,t2,t3⟩:=W.oJ;exact#[W.but.trans b,s,b _ _ W.hn W.nl,#[ys,hs,b _ _ h1 W.hl,ub h2 b hx,h3,h4],#[zs,ts,b _ _ t1 W.tl,ub t2 b hx,t3],W.nl,W.hl,W.tl,W.th,W.CZ,W.nt,W.fh,W.ft]
theorem WI.same(W:WI K H0 H l ln lh lt ns nh k j)(s:aa H H'):WI K H0 H' l ln lh lt ns nh k j:=W.mv (aV.of s) (W.st.same s)
variable{n:Str}
theorem WI.hand(W:WI K H0 H l ln lh lt ns nh k j){t:Addr}{x:Int}{ys:List V}(hx:1<=x/\x<=1000)(hn:ns[nh]? = some n)(hy:H lh=some (.lst ys))(ht:H t=some (.tup [.str n,.int x])):WI K H0 (upd H lh (.lst (ys++[.ref t]))) l ln lh lt ns (nh+1) k j:=by
 obtain⟨HU,hs,h1,h2,h3,h4⟩:=W.gD;rw[hy] at h1;cases h1;obtain⟨zs,ts,t1,t2,t3⟩:=W.oJ;have tt:H t=some (.tup ((kH (n,x)).map kV)):=ht;refine#[W.but.snd W.fh,W.st.upd W.hl,by rw[ax W.CZ];exact W.hn,#[_,hs++[(n,x)],ay,?_,?_,λh hh=>?_],#[zs,ts,by rw[ax W.th];exact t1,kq t2 hy,t3],W.nl,W.hl,W.tl,W.th,W.CZ,W.nt,W.fh,W.ft]
 ·rw[bX];exact kq (An h2 tt) hy
 ·rw[bX,h3,hV,hn];rfl
 ·rcases eK.mp hh with hh|hh
  ·exact h4 h hh
  ·obtain rfl:h=(n,x):=by simpa using hh
   exact hx
theorem hC_{α:Type}(l:List α)(x:α):Bc l l.length x=l++[x]:=by
 unfold Bc;rw[dG,List.drop_length]
theorem pT:bh ["_law_state_here","_law_names","_law_plain","_law_dense","_law_hands","_law_ties","_law_k","_law_name","_law_some","_law_other","_law_pair"] ["_law_state_here"] (aU qZ):=bu
def qt(K:ag):Sp:=λvs H Q _=>∃(l:Addr),vs=[.ref l]/\dD H l/\∀(t lh lt:Addr) (ys zs:List V) (hs:Xa) (ts:Xb) (H':Hp),aV l H H'->dD H' l->H' t=some (.tup [.ref lh,.ref lt])->H lh=none->H lt=none->lh≠lt->lh≠l->lt≠l->
 H' lh=some (.lst ys)->aY K H' ys (hs.map kH)->H' lt=some (.lst zs)->aY K H' zs (ts.map kT)->Good hs ts->Q (.ref t) H'
theorem aO(n:H a=none):aa H (upd H a o)/\upd H a o a=some o:=#[aa.new n,ay]
theorem YB(F:a9 K "_law_web" "_law_web" qZ f fd)(B:Bi mg)(cD:bj P w K mg base 2 "_law_digit" ["_law_state_here","_law_base"] As)(cN:bj P w K mg base 3 "_law_named" ["_law_state_here","_law_many"] L3):ai P w K mg base aR 4 f fd ["_law_state_here"] (qt K):=by
 refine F.bt pT λaL A outer s H vs Q E hr h=>?_
 ·obtain⟨l,rfl,st,k⟩:=h;have sz:=bU;have cz:aD 2 _:=hr.mono (by decide);refine' #[_,?r0,?kk]
  case' r0=>refine' au ?s1 ?r1
  case' r1=>refine' au ?s2 ?r2
  case' r2=>refine' au ?s3 ?r3
  case' r3=>refine' au ?s4 ?r4
  case' r4=>refine' au ?s5 ?r5
  case' r5=>refine' au ?s6 ?r6
  case' r6=>refine' aI ?s7
  case s1=>exact bg 1 pT.nd (aX cN hr (ae (pv 0) (ae (bw i4 aE (aX cD cz (ae (pv 0) (ae aE af)))) af)))
  case s2=>exact bg 2 pT.nd (aX cD cz (ae (pv 0) (ae aE af)))
  case s3=>exact bg 3 pT.nd (bw i4 aE (aX cD cz (ae (pv 0) (ae aE af))))
  case s4=>exact bg 4 pT.nd (d5 af)
  case s5=>exact bg 5 pT.nd (d5 af)
  case' s6=>refine' eV eM Z (K_ (by rfl) B.enum (ae (pv 1) af)) (jO Z (bY (bV 6 pT.nd) (bY (bV 7 pT.nd) gR))) ?b0
  case' b0=>refine' au ?b1 ?c1
  case' c1=>refine' au ?b2 ?c2
  case' c2=>refine' aI ?b3
  case' b1=>refine' bg 8 pT.nd (d5 ?l0)
  case' l0=>refine' ae aE ?l1
  case' l1=>refine' ae (bw i4 aE (aX cD cz (ae (pv 0) (ae aE af)))) ?l2
  case' l2=>refine' ae (bw i4 aE (aX cD cz (ae (pv 0) (ae aE af)))) ?l3
  case l3=>exact ae aE af
  case' b2=>refine' oE (mz o9 xr xt vA (pv 4) (ae (fA (ae (pv 7) (ae ?d1 af))) af))
  case d1=>exact bB gQ (pv 8) (bw ki (aX cD cz (ae (pv 0) (ae aE af))) (i_ Hf (by rfl) B.int Ej (ae (iQ xh (pv 2) aE (ak _)) af))) (λ_ _=>rfl)
  case' b3=>refine' eV eM Z (dH (GX QI (pv 1) GK (GQ (pv 6)))) (bV 9 pT.nd) ?e0
  case' e0=>refine' au ?e1 ?e2
  case e1=>exact bg 10 pT.nd (bB gQ (d5 (ae (fA (ae (pv 7) (ae (pv 9) af))) (ae (fA (ae (pv 9) (ae (pv 7) af))) af))) (aX cD cz (ae (pv 0) (ae aE af))) (λ_ _=>rfl))
  case' e2=>refine' aI (bg 5 pT.nd (bw Gu (pv 5) (bw O3 (d5 (ae (pv 10) af)) ?g1)))
  case g1=>exact i_ Hf (by rfl) B.int Ej (ae (iQ JI (aX cD cz (ae (pv 0) (ae aE af))) (pv 3) (ak _)) af)
  case s7=>exact ba (fA (ae (pv 4) (ae (pv 5) af)))
  case' kk=>skip
  refine#[_,Z,_,Z,l,8,Z,by decide,by decide,st,λr H1 r0 r8 b1 j4=>#[_,_,Z,Z,?_]];obtain⟨r,rfl⟩:=sZ r0;refine#[l,1+r,by show [V.ref l,V.int (1+(r:Int))]=[V.ref l,V.int ((1+r:Nat):Int)];rw[Int.natCast_add];rfl,by omega,j4,λln ns H2 b2 d_ fn zd N=>?_];have n8:ns.length<=8:=by rw[N.len];omega
  have n1:1<=ns.length:=by rw[N.len];omega
  have C6:ln≠l:=j4.ne fn;refine#[_,Z,l,3,Z,by decide,by decide,d_,λuL H3 p0 p1 b3 iU=>?_];refine#[_,Z,l,3,Z,by decide,by decide,iU,λdn H4 d0 d1 b4 gH=>#[_,_,Z,Z,?_]];have Gj:=b4 _ _ (b3 _ _ zd C6) C6;have B4:aV l H H4:=b1.trans (b2.trans (b3.trans b4));refine#[by show 0<=sizeLine;decide,λlh g7=>?_];obtain⟨s5,zi⟩:=aO (o:=.lst []) g7;have C7:=gH.ne g7;have fh:H lh=none:=B4.free gH g7;have V0:ln≠lh:=bI Gj g7;generalize upd H4 lh (.lst [])=H5 at s5 zi ⊢;refine#[by show 0<=sizeLine;decide,λlt cb=>?_];have s6:=aa.new (o:=.lst []) cb;have gc:=gH.same s5;have wL:=gc.ne cb;have B5:=B4.trans (aV.of s5);have ft:H lt=none:=B5.free gc cb;have W0:WI K H (upd H5 lt (.lst [])) l ln lh lt ns 0 0 0:=#[B5.trans (aV.of s6),gc.same s6,s6 _ _ (s5 _ _ Gj),#[[],[],s6 _ _ zi,.nil,Z,by simp],#[[],[],ay,.nil,#[by simp,.nil,fB _]],C6,C7,wL,(bI zi cb).symm,V0,bI (s5 _ _ Gj) cb,fh,ft];clear B4 B5 b1 b2 b3 b4 j4 d_ iU gH gc s5 s6 fn zd Gj;generalize upd H5 lt (.lst [])=H6 at W0 ⊢;refine setG ?_;dsimp only;refine dq (λσ H'=>∃(lt:Addr) (v6 v7 v8 v9 v10:Option V),σ=[some (.ref l),some (.ref ln),some (.int uL),some (.int (1+dn)),some (.ref lh),some (.ref lt),v6,v7,v8,v9,v10]/\WI K H H' l ln lh lt ns ns.length ns.length 0) ?last ?loop
  case last=>
   rintro σ H7 ⟨lt,v6,v7,v8,v9,v10,rfl,W⟩;obtain⟨ys,hs,h1,h2,h3,h4⟩:=W.gD;obtain⟨zs,ts,t1,t2,t3⟩:=W.oJ;rw[dG] at h3;refine#[_,Z,_,Z,by show 2<=sizeLine;decide,λt ht=>?_];have s8:=aa.new (o:=.tup [.ref lh,.ref lt]) ht;refine k t lh lt ys zs hs ts _ (W.but.trans (aV.of s8)) (W.st.same s8) ay W.fh W.ft W.th.symm W.hl W.tl (s8 _ _ h1) (h2.same s8) (s8 _ _ t1) (t2.same s8) ?_;have tg:=t3.good N.nd N.ok
   have hlen:hs.length=ns.length:=by
    have:=dF List.length h3;rwa [aq] at this
   refine#[λh hh=>#[N.ok _ ?_,h4 h hh],by rw[h3];exact N.nd,by omega,by omega,λt ht=>(tg t ht).1,t3.nd,by have:=t3.len;omega,λt ht=>by rw[h3];exact (tg t ht).2];rw[<- h3];exact a_.mpr #[h,hh,Z]
  case loop=>
   intro N0 hN
   refine#[_,Z,ln,Z,#[_,.of W0.hn],Lq (K:=K) (a:=ln) (xs:=ns.map V.str) (λi σ H'=>∃(lt:Addr) (v6 v7 v8 v9 v10:Option V),σ=[some (.ref l),some (.ref ln),some (.int uL),some (.int (1+dn)),some (.ref lh),some (.ref lt),v6,v7,v8,v9,v10]/\WI K H H' l ln lh lt ns i i 0)
    #[lt,none,none,none,none,none,Z,W0] (λi σ H' _ ⟨_,_,_,_,_,_,_,W⟩=>.of W.hn) ?_ ?_]
   rotate_left 1
   ·rintro σ H' ⟨lt,v6,v7,v8,v9,v10,rfl,W⟩;rw[aq] at W;exact hN _ _ #[lt,v6,v7,v8,v9,v10,Z,W]
   rintro i x σ H7 hx ⟨lt,v6,v7,v8,v9,v10,rfl,W⟩ u hu;obtain⟨one,yY,rfl⟩:=jT hx;have hi:i<ns.length:=(bP.mp yY).1;have s7:aa H7 (upd H7 u (.tup [.int i,.str one])):=aa.new hu;have Pu:upd H7 u (.tup [.int i,.str one]) u=some (.tup [.int i,.str one]):=ay;refine#[u,_,Z,.of Pu,Z,_,_,Z,_,_,Z,Z,?_];have W8:=W.same s7;clear W Pu;generalize upd H7 u (.tup [.int i,.str one])=H8 at W8 ⊢;clear s7 hu;dsimp only;refine dq (λσ H'=>∃(lt ls:Addr) (v9 v10:Option V) (a b:Int),σ=[some (.ref l),some (.ref ln),some (.int uL),some (.int (1+dn)),some (.ref lh),some (.ref lt),some (.int i),some (.str one),some (.ref ls),v9,v10]/\WI K H H' l ln lh lt ns i i 0/\H' ls=some (.lst [.int 1,.int a,.int b,.int 1000])/\ls≠l/\1<=a/\a<=1000/\1<=b/\b<=1000) ?m2 ?m1
   case m1=>
    intro N2 hN2;refine#[_,Z,l,4,Z,by decide,by decide,W8.st,λr1 H9 q0 q1 b9 wm=>#[_,_,Z,Z,?_]];have W9:=W8.mv b9 wm;refine#[_,Z,l,1000,Z,by decide,by decide,W9.st,λr2 xF q2 q3 jR oM=>#[_,_,Z,Z,?_]];have xD:=W9.mv jR oM;refine#[by show 4<=sizeLine;decide,λls uX=>?_];exact hN2 _ _ #[lt,ls,_,_,1+r1,1+r2,Z,xD.same (aa.new uX),ay,xD.st.ne uX,by omega,by omega,by omega,by omega]
   rintro σ H9 ⟨lt,ls,v9,v10,a,b,rfl,W9,uX,W7,a1,a2,b1,b2⟩;refine dq (λσ H'=>∃(lt ls:Addr) (v9 v10:Option V),σ=[some (.ref l),some (.ref ln),some (.int uL),some (.int (1+dn)),some (.ref lh),some (.ref lt),some (.int i),some (.str one),some (.ref ls),v9,v10]/\WI K H H' l ln lh lt ns (i+1) i 0) ?m4 ?m3
   case m3=>
    intro N3 hN3;obtain⟨ys,hs,h1,h2,h3,h4⟩:=W9.gD;refine#[_,Z,.inl #[Z,_,.of h1],_,Z,_,Z,_,Z,l,4,Z,by decide,by decide,W9.st,λr1 xF q0 q1 jR oM=>?_];have xD:=W9.mv jR oM
    obtain⟨ix,e0,e4,eix⟩:∃ix:Int,0<=ix/\ix<4/\r1 * (if decide (0<uL)=true then 1 else 0)=ix:=by
     refine#[_,?_,?_,Z]
     ·by_cases c:decide (0<uL)=true
      ·rw[aC c];omega
      ·rw[ao c];omega
     ·by_cases c:decide (0<uL)=true
      ·rw[aC c];omega
      ·rw[ao c];omega
    obtain⟨v,hv,x,rfl,x1,x2⟩:=sy (p:=λv:V=>∃x:Int,v=V.int x/\1<=x/\x<=1000) (xs:=[V.int 1,.int a,.int b,.int 1000]) (n:=4) Z e0 e4 (λv hv=>by
     simp only[bO,vJ,or_false] at hv;rcases hv with rfl|rfl|rfl|rfl
     ·exact#[_,Z,by decide,by decide]
     ·exact#[_,Z,a1,a2]
     ·exact#[_,Z,b1,b2]
     ·exact#[_,Z,by decide,by decide])
    have DM:=jR _ _ uX W7;refine#[_,Z,_,_,Z,Z,.inr #[_,Z,_,_,Z,Z,.inl #[by omega,by omega],ls,_,_,_,Z,dF V.int eix,.of DM,hv,by show 2<=sizeLine;decide,λt ht=>?_]];have HK:=xD.same (aa.new (o:=.tup [.str one,.int x]) ht);have Qv:=jR _ _ h1 W9.hl;refine#[lh,_,_,Z,Z,aa.new (o:=.tup [.str one,.int x]) ht _ _ Qv,?_,hN3 _ _ #[lt,ls,v9,v10,Z,HK.hand #[x1,x2] yY (aa.new (o:=.tup [.str one,.int x]) ht _ _ Qv) ay]];have:=dF List.length h3;have:=bE h2;rw[aq] at this;rw[aq,cj] at *;omega
   rintro σ xF ⟨lt,ls,v9,v10,rfl,xD⟩;refine#[_,Z,_,Z,_,Z,ln,_,Z,.of xD.hn,λp hp=>?_];rw[ZZ];have HK:=xD.same (aa.new (o:=.lst ((ns.take i).map V.str)) hp);have yW:upd xF p (.lst ((ns.take i).map V.str)) p=some (.lst ((ns.take i).map V.str)):=ay;have lp:=xD.st.ne hp;generalize upd xF p (.lst ((ns.take i).map V.str))=H11 at HK yW ⊢
   refine#[p,Z,#[_,.of yW],gF (K:=K) (a:=p) (xs:=(ns.take i).map V.str) (λj σ H'=>∃(lt ls:Addr) (v9 v10:Option V),σ=[some (.ref l),some (.ref ln),some (.int uL),some (.int (1+dn)),some (.ref lh),some (.ref lt),some (.int i),some (.str one),some (.ref ls),v9,v10]/\H' p=some (.lst ((ns.take i).map V.str))/\WI K H H' l ln lh lt ns (i+1) i j)
    #[lt,ls,v9,v10,Z,yW,HK] (λj σ H' _ ⟨_,_,_,_,_,q,_⟩=>.of q) ?_ ?_]
   rotate_left 1
   ·rintro σ H' ⟨lt,ls,v9,v10,rfl,_,W⟩;refine#[lt,_,_,_,_,_,Z,?_];obtain⟨zs,ts,t1,t2,t3⟩:=W.oJ;rw[aq,cj,Nat.min_eq_left Z1] at t3;exact#[W.but,W.st,W.hn,W.gD,#[zs,ts,t1,t2,t3.next Z1],W.nl,W.hl,W.tl,W.th,W.CZ,W.nt,W.fh,W.ft]
   rintro j y σ NH hy ⟨lt,ls,v9,v10,rfl,J5,Tx⟩;obtain⟨o,ho,rfl⟩:=jT hy
   have hj:j<i:=by
    have:=(bP.mp ho).1;rw[cj] at this;omega
   rw[List.getElem?_take,aC hj] at ho;refine setG ?_;dsimp only;refine dq (λσ H'=>∃(lt ls t:Addr) (v9:Option V) (tt:Str × Str),σ=[some (.ref l),some (.ref ln),some (.int uL),some (.int (1+dn)),some (.ref lh),some (.ref lt),some (.int i),some (.str one),some (.ref ls),v9,some (.ref t)]/\H' p=some (.lst ((ns.take i).map V.str))/\WI K H H' l ln lh lt ns (i+1) i j/\H' t=some (.tup ((kT tt).map kV))/\(tt=(one,o)∨tt=(o,one))) ?m6 ?m5
   case m5=>
    intro N5 hN5;refine#[_,Z,_,Z,by show 2<=sizeLine;decide,λt1 jB=>?_];have wA:=aa.new (o:=.tup [.str one,.str o]) jB;refine#[_,Z,_,Z,by show 2<=sizeLine;decide,λt2 Dy=>?_];have lS:=aa.new (o:=.tup [.str o,.str one]) Dy;refine#[by show 2<=sizeLine;decide,λlx pL=>?_];have oQ:=aa.new (o:=.lst [.ref t1,.ref t2]) pL;have Ax:=Tx.same ((wA.trans lS).trans oQ);have uW:=oQ _ _ (lS _ _ (wA _ _ J5));refine#[_,Z,l,2,Z,by decide,by decide,Ax.st,λr5 TH q4 q5 ud IA=>?_];have Ju:lx≠l:=(Tx.same (wA.trans lS)).st.ne pL;have oi:=ud _ _ (show upd (upd (upd NH t1 (.tup [.str one,.str o])) t2 (.tup [.str o,.str one])) lx (.lst [.ref t1,.ref t2]) lx=_ from ay) Ju;obtain⟨T8,DS⟩:=Ax.st.some;have DA:=oQ _ _ (lS _ _ (show upd NH t1 (.tup [.str one,.str o]) t1=_ from ay));have Dx:=oQ _ _ (show upd (upd NH t1 (.tup [.str one,.str o])) t2 (.tup [.str o,.str one]) t2=_ from ay);have Dz:=ud _ _ DA (bZ DA DS nofun);have Dw:=ud _ _ Dx (bZ Dx DS nofun)
    have pick:∃(t:Addr) (tt:Str × Str),gG [V.ref t1,V.ref t2] r5=some (.ref t)/\TH t=some (.tup ((kT tt).map kV))/\(tt=(one,o)∨tt=(o,one)):=by
     rcases u_ (a:=V.ref t1) (b:=V.ref t2) q4 q5 with e|e
     ·exact#[t1,(one,o),e,Dz,.inl Z]
     ·exact#[t2,(o,one),e,Dw,.inr Z]
    obtain⟨t,tt,et,JV,yX⟩:=pick;exact#[lx,_,_,_,Z,Z,.of oi,et,hN5 _ _ #[lt,ls,t,_,tt,Z,ud _ _ uW lp,Ax.mv ud IA,JV,yX]]
   rintro σ TJ ⟨lt,ls,t,v9,tt,rfl,uW,Ax,JV,yX⟩;obtain⟨zs,ts,t1,t2,t3⟩:=Ax.oJ;refine#[_,Z,_,Z,by show 1<=sizeLine;decide,λlx pL=>?_];have FP:=aa.new (o:=.lst [.ref t]) pL;have HJ:=Ax.same FP;have oi:upd TJ lx (.lst [.ref t]) lx=some (.lst [.ref t]):=ay;have Ju:=Ax.st.ne pL;have lxh:lx≠p:=(bI uW pL).symm;have DF:=FP _ _ uW;have si:=FP _ _ JV;generalize upd TJ lx (.lst [.ref t])=TH at FP HJ oi DF si ⊢;refine#[_,Z,l,3,Z,by decide,by decide,HJ.st,λr6 H15 q6 q7 vH Iz=>#[_,Z,_,_,Z,Z,.inr #[_,Z,?_]]];have Tw:=HJ.mv vH Iz;have DK:=vH _ _ oi Ju;have J4:=vH _ _ DF lp;obtain⟨T7,Kf⟩:=HJ.st.some;have Dt:=vH _ _ si (bZ si Kf nofun);obtain⟨vU,BU,u1,u2,u3⟩:=Tw.oJ
   have u7:vU.length<=100:=by
    have a1:=bE u2;have a2:=u3.len;rw[aq] at a1;omega
   have fin:∀(b:Bool) (q:Addr) (HN:Hp),aa H15 HN->∀u,HN u=none->WI K H (upd HN u (.lst (vU++(List.replicate (if b=true then (1:Int) else 0).toNat [V.ref t]).flatten))) l ln lh u ns (i+1) i (j+1):=by
    intro b q HN yw u hu;have BH:=Tw.same yw;have xC:=BH.same (aa.new (o:=.lst (vU++(List.replicate (if b=true then (1:Int) else 0).toNat [V.ref t]).flatten)) hu);refine#[xC.but,xC.st,xC.hn,xC.gD,#[_,if b=true then BU++[tt] else BU,ay,?_,?_],xC.nl,xC.hl,BH.st.ne hu,?_,xC.CZ,?_,xC.fh,BH.but.free BH.st hu]
    ·have NM:=(u2.same yw).same (aa.new (o:=.lst (vU++(List.replicate (if b=true then (1:Int) else 0).toNat [V.ref t]).flatten)) hu);cases b with
     |true=>
      show aY K _ (vU++[V.ref t]) ((BU++[tt]).map kT);rw[bX];exact An NM (aa.new hu _ _ (yw _ _ Dt))
     |false=>
      show aY K _ (vU++[]) (BU.map kT);rw[mJ];exact NM
    ·cases b with
     |true=>
      have:=u3.add N.nd hj yY ho yX BU.length;rw[hC_] at this;exact this
     |false=>exact u3.skip
    ·obtain⟨ys,hs,h1,_⟩:=BH.gD;exact (bI h1 hu).symm
    ·exact bI BH.hn hu
   refine#[lx,_,_,Z,Z,DK,?_,?_,?_,λq hq=>?_]
   ·by_cases c:decide (r6<1+dn)=true
    ·rw[aC c];decide
    ·rw[ao c];decide
   ·by_cases c:decide (r6<1+dn)=true
    ·rw[aC c];decide
    ·rw[ao c];decide
   ·by_cases c:decide (r6<1+dn)=true
    ·rw[aC c];show 1 * 1<=sizeLine;decide
    ·rw[ao c];show 1 * 0<=sizeLine;decide
   have yw:=aa.new (o:=.lst (List.replicate (if decide (r6<1+dn)=true then (1:Int) else 0).toNat [V.ref t]).flatten) hq;refine#[lt,q,_,_,Z,Z,yw _ _ u1,ay,?_,λu hu=>#[u,ls,_,_,Z,aa.new hu _ _ (yw _ _ J4),fin _ q _ yw u hu]];by_cases c:decide (r6<1+dn)=true
   ·rw[aC c];show vU.length+1<=sizeLine;omega
   ·rw[ao c];show vU.length+0<=sizeLine;omega
theorem MT{α:Type}{ps:List (Str × α)}(nd:(ps.map (·.1)).Nodup){a b:Str × α}(ha:a∈ps)(hb:b∈ps)(e:a.1=b.1):a=b:=by
 induction ps with
 |nil=>cases ha
 |cons p ps ih=>
  rw[dN,pe] at nd;rcases bO.mp ha with za|ha
  ·rcases bO.mp hb with zb|hb
   ·rw[za,zb]
   ·rw[za] at e;exact absurd (show p.1∈ps.map (·.1) from a_.mpr #[b,hb,e.symm]) nd.1
  ·rcases bO.mp hb with zb|hb
   ·rw[zb] at e;exact absurd (show p.1∈ps.map (·.1) from a_.mpr #[a,ha,e]) nd.1
   ·exact ih nd.2 ha hb
def strOf(hs:Xa)(n:Str):Int:=((hs.find? λh=>decide (h.1=n)).map (·.2)).getD 0
variable{hs:Xa}
theorem vE(h:n∈hs.map (·.1)):(n,strOf hs n)∈hs:=by
 unfold strOf;obtain⟨x,hx,e⟩:=a_.mp h;cases q:hs.find? λh=>decide (h.1=n) with
 |none=>
  have:=List.find?_eq_none.mp q x hx;simp[e] at this
 |some y=>
  have m:=List.mem_of_find?_eq_some q;have:=List.find?_some q;have e2:y.1=n:=by simpa using this
  show (n,y.2)∈hs;rw[<- e2];exact m
theorem QX(nd:(hs.map (·.1)).Nodup){s:Int}(h:(n,s)∈hs):strOf hs n=s:=by
 have m:=vE (a_.mpr #[_,h,Z]:n∈hs.map (·.1));exact dF Prod.snd (MT nd m h Z)
variable{a b:Int}
theorem _c(ha:0<=a)(h:0<b):Int.gcd b (a % b)=Int.gcd a b:=by
 obtain⟨m,rfl⟩:=sZ ha;obtain⟨n,rfl⟩:=sZ (Int.le_of_lt h);rw[<- Int.natCast_emod];show Nat.gcd n (m % n)=Nat.gcd m n;rw[Nat.gcd_comm n,<- Nat.gcd_rec,Nat.gcd_comm]
theorem Wk(hb:0<b)(oq:b<=2000000):0<(Int.gcd a b:Int)/\(Int.gcd a b:Int)<1073741824:=by
 have h1:0<Int.gcd a b:=Int.gcd_pos_of_ne_zero_right a Z1;have h2:(Int.gcd a b:Int) ∣ b:=Int.gcd_dvd_right a b;have h3:=Int.le_of_dvd hb h2;omega
theorem oO:bh ["one","other","rest","divisor","left"] ["one","other"] (aU IM):=bu
def Ce:Sp:=λvs H Q _=>∃a b:Int,vs=[.int a,.int b]/\0<=a/\0<b/\Q (.int (Int.gcd a b)) H
theorem Wp(F:a9 K "greatest_divisor" "greatest_divisor" IM f fd):ai P w K mg base aR 1 f fd ["one","other"] Ce:=by
 refine F.bt oO λaL A outer s H vs Q E hr h=>?_
 ·obtain⟨a,b,rfl,ha,hb,k⟩:=h;refine' #[_,au ?s1 (au ?s2 (au ?s3 ?s4)),?kk]
  case s1=>exact bg 2 oO.nd (pv 0)
  case s2=>exact bg 3 oO.nd (pv 1)
  case s3=>exact ZK eM (cU oA (pv 2) aE (ak _)) (au (bg 4 oO.nd (bw tY (pv 3) (pv 2))) (au (bg 3 oO.nd (pv 2)) (aI (bg 2 oO.nd (pv 4)))))
  case s4=>exact aI (ba (pv 3))
  case' kk=>skip
  refine#[_,Z,_,Z,?_];refine _I (λσ H'=>H'=H/\∃(r d:Int) (v4:Option V),σ=[some (.int a),some (.int b),some (.int r),some (.int d),v4]/\0<=r/\0<d/\Int.gcd r d=Int.gcd a b) (λσ _=>match σ with | [_,_,some (.int r),_,_]=>r.toNat|_=>0) #[Z,a,b,none,Z,ha,hb,Z] ?_ ?_
  ·rintro σ H' ⟨rfl,r,d,v4,rfl,hr0,hd,e⟩;refine#[_,Z,Z,_,Z,?_];refine bp (λc=>?_) (λc=>?_)
   ·have dS:0<r:=by
     have:r≠0:=by
      intro z;subst z;simp at c
     omega
    refine#[_,Z,_,Z,_,_,Z,Z,dS,_,Z,_,Z,?_];have h1:=vP d (Int.ne_of_gt dS);have h2:=xA d dS;refine#[#[Z,_,_,_,Z,h1,dS,?_],?_]
    ·rw[<- e,Int.gcd_comm (d % r) r,_c (Int.le_of_lt hd) dS,Int.gcd_comm]
    ·show (d % r).toNat<r.toNat;omega
   ·have dS:r=0:=by simpa using c
    subst dS;refine#[_,Z,?_]
    have e2:(Int.gcd a b:Int)=d:=by
     rw[<- e,Int.gcd_zero_left];omega
    rw[<- e2];exact k
  ·intro σ H' Q1 Q2 hq h;obtain⟨x,e,h1,c,h2,h3⟩:=h;exact#[x,e,h1,c,h2,hq _ _ h3]
end Ev
namespace L2
open PySem PySem.Spec PyProof.Rows
def GV(w:Af)(l:List (Str × Tok × Aa)):List DictEntry:=l.map λx=>#[hashStr w x.1,.str x.1 x.2.1,x.2.2]
def j0(K:ag)(w:Af)(d:Addr)(kvs:List (Str × V)):Prop:=
 (d == sysModules)=false/\(kvs.map (·.1)).Nodup/\∃(l:List (Str × Tok × Aa)) (o:Obj) (es:Array DictEntry) (ep:Nat),K.lookup d=some o/\o.ExactDict/\o.data=.dict es ep/\es.toList=GV w l/\Paired (λ(p:Str × V) (x:Str × Tok × Aa)=>p.1=x.1/\RelV p.2 x.2.2) kvs l
theorem RT{P:Ad}{w:Af}:∀{l:List (Str × Tok × Aa)},Pairs (dX P w) (GV w l) (l.map λx=>((Sum.inr x.1:Key),x.2.2))
 |[]=>.nil
 |x::l=>.cons (Nk P w x.1 x.2.1) Z (RT (l:=l))
variable{kvs:List (Str × V)}{l:List (Str × Tok × Aa)}
theorem Rb(h:Paired (λ(p:Str × V) (x:Str × Tok × Aa)=>p.1=x.1/\RelV p.2 x.2.2) kvs l):kvs.map (·.1)=l.map (·.1):=by
 induction h with
 |nil=>rfl
 |cons a _ ih=>rw[dN,dN,ih,a.1]
theorem j0.of{P:Ad}{K:ag}{w:Af}{d:Addr}{h:Heap}(k:j0 K w d kvs)(X:K.In h):∃l:List (Str × Tok × Aa),Paired (λ(p:Str × V) (x:Str × Tok × Aa)=>p.1=x.1/\RelV p.2 x.2.2) kvs l/\h.DictOf (dX P w) d (l.map λx=>((Sum.inr x.1:Key),x.2.2)):=by
 obtain⟨_,nd,l,o,es,ep,ho,hx,hd,he,hp⟩:=k;refine#[l,hp,o,es,ep,X _ _ ho,hx,hd,λe m=>?_,?_,?_]
 ·have m:e∈GV w l:=by
   rw[<- he];simpa using m
  obtain⟨x,_,rfl⟩:=a_.mp m;exact#[Sum.inr x.1,Nk P w x.1 x.2.1,Z]
 ·rw[he];exact RT
 ·rw[Rb hp] at nd;rw[bK,pW,mM];rw[pW,mM] at nd;exact nd.imp λn e=>n (hU e)
theorem Zw(h:Paired (λ(p:Str × V) (x:Str × Tok × Aa)=>p.1=x.1/\RelV p.2 x.2.2) kvs l)(nd:(kvs.map (·.1)).Nodup){z:Str}{v:V}(m:(z,v)∈kvs):∃u,valueAt (l.map λx=>((Sum.inr x.1:Key),x.2.2)) (Sum.inr z)=some u/\RelV v u:=by
 unfold valueAt
 induction h with
 |nil=>cases m
 |@cons p x kvs l a _ ih=>
  rw[dN] at nd ⊢;rw[List.find?_cons];obtain⟨n1,n2⟩:=pe.mp nd;by_cases e:x.1=z
  ·rcases bO.mp m with m|m
   ·subst m;refine#[x.2.2,?_,a.2];simp[e]
   ·exact absurd (by rw[a.1,e];exact a_.mpr #[_,m,Z]) n1
  ·rcases bO.mp m with m|m
   ·subst m;exact absurd a.1.symm e
   ·have:=ih n2 m;simp[e];simpa using this
theorem gz_(h:Paired (λ(p:Str × V) (x:Str × Tok × Aa)=>p.1=x.1/\RelV p.2 x.2.2) kvs l)(z:Str):(valueAt (l.map λx=>((Sum.inr x.1:Key),x.2.2)) (Sum.inr z)).isSome=decide (z∈kvs.map (·.1)):=by
 rw[Rb h];unfold valueAt;rw[Option.isSome_map,List.isSome_find?];rw[Bool.eq_iff_iff,List.any_eq_true,decide_eq_true_iff];constructor
 ·rintro⟨kv,hm,e⟩;obtain⟨x,hx,rfl⟩:=a_.mp hm;have e:(Sum.inr x.1:Key)=Sum.inr z:=by simpa using e
  exact a_.mpr #[x,hx,hU e]
 ·intro m;obtain⟨x,hx,e⟩:=a_.mp m;exact#[_,a_.mpr #[x,hx,Z],by simp[e]]
inductive wc (K:ag) (w:Af) (Q:VK) (y:V) (x:V) (H2:Hp):Prop
 |mk:∀d kvs z,x=.ref d->j0 K w d kvs->y=.str z->Q (.bl (decide (z∈kvs.map (·.1)))) H2->wc K w Q y x H2
def Ij(K:ag)(w:Af)(ty td:TE):TE:=λσ H Q=>ty σ H λy H1=>td σ H1 λx H2=>wc K w Q y x H2
variable{X:Cx}{i o:Expr}{td ty:TE}
theorem XD(hi:PE X i ty)(ho:PE X o td):PC X .In i o (Ij X.K X.w ty td):=by
 intro pins s σ H Q I h;refine aJ (hi pins s σ H _ I h) λiv s1 ⟨y,H1,I1,ry,q1⟩=>aJ (ho pins s1 σ H1 _ I1 q1) λu s2 ⟨x,H2,I2,rx,d,kvs,z,ex,kd,ey,q2⟩=>?_;subst ex;subst ey;obtain rfl:u=Value.ref d:=rx;obtain⟨l,hp,dd⟩:=kd.of (P:=X.prog) I2.fw;refine wpAny_in_of (tM (k:=Sum.inr z) ry) kd.1 dd.mapOf ?_;rw[gz_ hp];exact#[.bl _,H2,I2.tok _,Z,q2]
inductive qi (K:ag) (w:Af) (Q:VK) (x:V) (y:V) (H2:Hp):Prop
 |mk:∀d kvs z v,x=.ref d->j0 K w d kvs->y=.str z->(z,v)∈kvs->Q v H2->qi K w Q x y H2
def B3(K:ag)(w:Af)(td ty:TE):TE:=λσ H Q=>td σ H λx H1=>ty σ H1 λy H2=>qi K w Q x y H2
variable{pos:Pos}
theorem Xv(ho:PE X o td)(hi:PE X i ty)(hs:AB i):PE X (.Subscript o i pos) (B3 X.K X.w td ty):=by
 intro pins s σ H Q I h;refine Pe PySem.F.slot_dict_getitem.lookup hs (aJ (ho pins s σ H _ I h) λu s1 ⟨x,H1,I1,rx,q1⟩=>aJ (hi pins s1 σ H1 _ I1 q1) λiv s2 ⟨y,H2,I2,ry,d,kvs,z,v,ex,kd,ey,hm,q2⟩=>?_);subst ex;subst ey;obtain rfl:u=Value.ref d:=rx;obtain⟨l,hp,dd⟩:=kd.of (P:=X.prog) I2.fw;obtain⟨w',hw,iz⟩:=Zw hp kd.2.1 hm;exact#[dd.mapOf.typeIs,wpAny_getItem_of (tM (k:=Sum.inr z) ry) dd.mapOf hw #[v,H2,I2.tok _,iz,q2]]
end L2
namespace Ev
open PySem L2
abbrev Rl:=Str × Str × Str × Option Str
def rl:List Rl:=[("least one high","least","one",some "high"),("least one fall","least","one",some "fall"),("least one calm","least","one",some "calm"),("least all high","least","all",some "high"),("least all fall","least","all",some "fall"),("least all calm","least","all",some "calm"),("below one high","below","one",some "high"),("below one fall","below","one",some "fall"),("below one calm","below","one",some "calm"),("below all high","below","all",some "high"),("below all fall","below","all",some "fall"),("below all calm","below","all",some "calm"),("shares one","shares","one",none),("shares all","shares","all",none),("turns high","turns","all",some "high"),("turns fall","turns","all",some "fall"),("turns calm","turns","all",some "calm")]
def rK:Option Str->V
 |some x=>.str x
 |none=>.non
def lU:List Str:=rl.map (·.1)
theorem gX_:lU.Nodup:=by decide +kernel
def Oh(as:List Addr):List (Str × V):=List.zipWith (λ(r:Rl) a=>(r.1,V.ref a)) rl as
structure Hj (K:ag) (w:Af) (mg:Str->Option Aa) (d:Addr) (as:List Addr):Prop where
 mg:mg "RULES"=some (.ref d)
 len:as.length=17
 kd:j0 K w d (Oh as)
 tup:Paired (λa (r:Rl)=>∀H,fe K H a [.str r.2.1,.str r.2.2.1,rK r.2.2.2]) as rl
variable{as:List Addr}
theorem Su(h:as.length=17):(Oh as).map (·.1)=lU:=by
 have:∀(rs:List Rl) (as:List Addr),as.length=rs.length->(List.zipWith (λ(r:Rl) a=>(r.1,V.ref a)) rs as).map (·.1)=rs.map (·.1):=by
  intro rs
  induction rs with
  |nil=>intro as _;rfl
  |cons r rs ih=>
   intro as e;cases as with
   |nil=>cases e
   |cons a as=>
    rw[List.zipWith_cons_cons,dN,dN,ih as (by simpa using e)]
 exact this rl as h
theorem OQ{K:ag}:∀{rs:List Rl} {as:List Addr},Paired (λa (r:Rl)=>∀H,fe K H a [.str r.2.1,.str r.2.2.1,rK r.2.2.2]) as rs->∀r∈rs,∃a,(r.1,V.ref a)∈List.zipWith (λ(r:Rl) a=>(r.1,V.ref a)) rs as/\∀H,fe K H a [.str r.2.1,.str r.2.2.1,rK r.2.2.2]
 |_,_,.nil,r,h=>by cases h
 |r0::rs,a::as,.cons h t,r,m=>by
  rw[List.zipWith_cons_cons];rcases bO.mp m with rfl|m
  ·exact#[a,dO,h]
  ·obtain⟨b,hb,hs⟩:=OQ t r m;exact#[b,dP _ hb,hs]
def AR(ns:List Str):Option Str->Bool
 |some x=>decide (x∈ns)
 |none=>false
theorem qI:bh ["thing"] ["thing"] (aU LO):=bu
def RG:Sp:=λvs H Q _=>∃r∈rl,vs=[.str r.1]/\Q (.bl true) H
variable{d f:Addr}{fd:Ae}{P:Ad}{w:Af}{K:ag}{mg:Str->Option Aa}{base:Heap}
theorem gV_(F:a9 K "is_rule" "is_rule" LO f fd)(B:Bi mg)(R:Hj K w mg d as):ai P w K mg base aR 1 f fd ["thing"] RG:=by
 refine F.bt qI λaL A outer s H vs Q E hr h=>?_
 ·obtain⟨r,gZ,rfl,k⟩:=h;refine#[_,aI (ba (pU (cK jW (by rfl) B.iW ja (ae (pv 0) (ae (jV (v:=.ty "str") (by rfl) B.str Bh Z) af))) (mw (Ek (XD (pv 0) (Ap (v:=.ref d) (by rfl) R.mg Z)))))),?_];refine#[_,Z,_,_,_,_,Z,.str r.1,Z,_,Z,dQ #[_,Z,d,_,r.1,Z,R.kd,Z,?_]];rw[Su R.len,show decide (r.1∈lU)=true from bW (a_.mpr #[r,gZ,Z])];exact k
theorem ux:bh ["rule"] ["rule"] (aU k_):=bu
def Hr(K:ag):Sp:=λvs H Q _=>∃r∈rl,vs=[.str r.1]/\∀a,(∀H',fe K H' a [.str r.2.1,.str r.2.2.1,rK r.2.2.2])->Q (.ref a) H
theorem Zb(F:a9 K "checked_words" "checked_words" k_ f fd)(R:Hj K w mg d as)(cI:bj P w K mg base 1 "is_rule" ["thing"] RG):ai P w K mg base aR 2 f fd ["rule"] (Hr K):=by
 refine F.bt ux λaL A outer s H vs Q E hr h=>?_
 ·obtain⟨r,gZ,rfl,k⟩:=h;refine#[_,au (bC (eI (dZ (aX cI hr (ae (pv 0) af)))) (aI _r) bD) (aI (ba (Xv (Ap (v:=.ref d) (by rfl) R.mg Z) (pv 0) (λ_ _=>rfl)))),?_];obtain⟨a,ha,hs⟩:=OQ R.tup r gZ;exact#[_,Z,r,gZ,Z,_,Z,aM #[_,Z,d,_,r.1,.ref a,Z,R.kd,Z,ha,k a hs]]
end Ev
namespace HT
open PySem PySem.Spec PyProof.Rows
end HT
namespace L2
open PySem PySem.Spec PyProof.Rows
end L2
namespace Ev
open PySem L2
structure Br (ts ws:Xb):Prop where
 good:∀w∈ws,zK w
 nd:(ws.map kO).Nodup
 Dk:∀w∈ws,kO w∈ts.map kO
 len:ws.length<=ts.length
theorem Xx{ts us ws:Xb}(good:∀t∈ts,zK t)(nd:(ts.map kO).Nodup)(sub:us.Sublist ts)(p:Paired (λw u=>w=u∨w=(u.2,u.1)) ws us):Br ts ws:=by
 have e:ws.map kO=us.map kO:=by
  clear sub
  induction p with
  |nil=>rfl
  |cons h _ ih=>
   rw[dN,dN,ih];rcases h with rfl|rfl
   ·rfl
   ·exact dF (·::_) (X5 _ _)
 refine#[λw hw=>?_,?_,λw hw=>?_,?_]
 ·obtain⟨i,hi,ew⟩:=ph hw;have hl:=bE p;have q:=az p i hi Z1;rw[ew] at q;have g:=good _ (sub.subset (ku (show i<us.length by omega)));rcases q with q|q
  ·rw[q];exact g
  ·rw[q];exact#[g.2.1,g.1,g.2.2.symm]
 ·rw[e];exact (sub.map kO).nodup nd
 ·have:kO w∈ws.map kO:=a_.mpr #[w,hw,Z];rw[e] at this;exact (sub.map kO).subset this
 ·rw[bE p];exact sub.length_le
def bJ(K:ag)(H:Hp)(v:V):Option (Xb)->Prop
 |none=>v=.non
 |some ws=>∃a ys,v=.ref a/\H a=some (.lst ys)/\aY K H ys (ws.map kT)
variable{H':Hp}
theorem bJ.same{K:ag}{H:Hp}{v:V}{o:Option (Xb)}(h:bJ K H v o)(s:aa H H'):bJ K H' v o:=by
 cases o with
 |none=>exact h
 |some ws=>
  obtain⟨a,ys,e,ha,t⟩:=h;exact#[a,ys,e,s _ _ ha,t.same s]
abbrev Pc:=Str × Int × Option (Xb)
def s_(K:ag)(H:Hp)(y:V)(p:Pc):Prop:=∃t v,y=.ref t/\H t=some (.tup [.str p.1,.int p.2.1,v])/\bJ K H v p.2.2
abbrev jY(K:ag)(H:Hp)(ys:List V)(ps:List Pc):Prop:=Paired (s_ K H) ys ps
structure zS (ts:Xb) (p:Pc):Prop where
 nm:ig p.1=true
 w1:1<=p.2.1
 w2:p.2.1<=1000000000
 ws:∀ws,p.2.2=some ws->Br ts ws
theorem s_.same{K:ag}{H:Hp}{y:V}{p:Pc}(h:s_ K H y p)(s:aa H H'):s_ K H' y p:=by
 obtain⟨t,v,e,ht,hv⟩:=h;exact#[t,v,e,s _ _ ht,hv.same s]
variable{D:Addr}
theorem bJ.put{K:ag}{H:Hp}{xs:List V}{v:V}{o:Option (Xb)}{u:HO}(h:bJ K H v o)(hD:H D=some (.lst xs))(ne:v≠.ref D):bJ K (upd H D u) v o:=by
 cases o with
 |none=>exact h
 |some ws=>
  obtain⟨a,ys,e,ha,t⟩:=h;subst e;exact#[a,ys,Z,by rw[ax λz=>ne (by rw[z])];exact ha,kq t hD]
theorem kn{α β:Type}{F:α->β->Prop}:∀{ys HU:List α} {ks rT:List β},Paired F ys ks->Paired F HU rT->Paired F (ys++HU) (ks++rT)
 |_,_,_,_,.nil,h=>h
 |_,_,_,_,.cons a t,h=>.cons a (kn t h)
def jX(K:ag)(H:Hp)(v:V):Option Str->Prop
 |some x=>v=.str x
 |none=>∃t,eW K H v t/\PySem.W.kitOne K t (.type "str")=some false
def zP(hs:Xa)(ts:Xb):Option Str->Option Str->Bool
 |some x,some y=>decide (x∈hs.map (·.1))&&(decide (y∈hs.map (·.1))&&decide (y∈near (aA hs) (aK ts) x))
 |_,_=>false
theorem E2(hs:Xa)(ts:Xb)(x y:Str):zP hs ts (some x) (some y)=(decide (x∈hs.map (·.1))&&(decide (y∈hs.map (·.1))&&decide (y∈near (aA hs) (aK ts) x))):=rfl
variable{f:Addr}{fd:Ae}
variable{H0:Hp}
variable{v:V}{o:Option (Xb)}{u:HO}
section
variable{P:Ad}{w:Af}{K:ag}{mg:Str->Option Aa}{base:Heap}
inductive kX (K:ag) (C:Addr) (vs:List V) (H:Hp) (Q:VK) (E:XK):Prop
 |mk:∀(p:Addr) (v:V) (x:Option Str) (hs:Xa) (ts:Xb) (fp:List Addr),vs=[.ref p,v]->fK K C H p hs ts fp->jX K H v x->Q (.bl (AR (hs.map (·.1)) x)) H->kX K C vs H Q E
theorem Zy{C:Addr}(F:a9 K "has_hand" "Web.has_hand" uI f fd)(T:Txt K mg C)(B:Bi mg):ai P w K mg base aR 1 f fd ["self","thing"] (kX K C):=by
 refine F.bt wx λaL A outer s H vs Q E hr h=>?_
 ·obtain⟨p,v,x,hs,ts,fp,rfl,W,sv,k⟩:=h;have hu:=eS hr;obtain⟨dx,d1,l2,d3,zs,as,rfl,h1,h2,h3,h4,h5,h6,h7⟩:=W.ex;refine#[_,aI (ba (pU (cK jW (by rfl) B.iW ja (ae (pv 1) (ae (jV (v:=.ty "str") (by rfl) B.str Bh Z) af))) (mw (Ek (Be hu (pv 1) (cX (pv 0) Z)))))),?_];cases x with
  |some x=>
   cases (show v=.str x from sv);refine#[_,Z,_,_,_,_,Z,.str x,Z,_,Z,dQ ?_];refine#[_,Z,_,Z,p,C,dx,_,_,Z,h1,T.cl,T.nS,Gs _ _ _,d1,_,Z,.k (k:=Sum.inr x) h2,?_];rw[GS];exact k
  |none=>
   obtain⟨t,ty,e⟩:=sv;exact#[_,Z,_,_,_,_,Z,ty,e,_,Z,aM k]
inductive EB (K:ag) (C:Addr) (vs:List V) (H:Hp) (Q:VK) (E:XK):Prop
 |mk:∀(p:Addr) (v u:V) (x y:Option Str) (hs:Xa) (ts:Xb) (fp:List Addr),vs=[.ref p,v,u]->fK K C H p hs ts fp->(aA hs).Nodup->jX K H v x->jX K H u y->Q (.bl (zP hs ts x y)) H->EB K C vs H Q E
theorem _E{C:Addr}(F:a9 K "are_tied" "Web.are_tied" qQ f fd)(T:Txt K mg C)(cH:bb P w K mg base C 1 "has_hand" ["self","thing"] (kX K C)):ai P w K mg base aR 2 f fd ["self","one","other"] (EB K C):=by
 refine F.bt xX λaL A outer s H vs Q E hr h=>?_
 ·obtain⟨p,v,u,x,y,hs,ts,fp,rfl,W,nd,sv,su,k⟩:=h;have hu:=eS hr;obtain⟨dx,d1,l2,d3,zs,as,rfl,h1,h2,h3,h4,h5,h6,h7⟩:=id W.ex;have j_:(bQ d1 l2 d3).lookup ("has_hand":Str)=none:=ik _ _ _ Z0 Z0 Z0;refine#[_,aI (ba (pU (eG cH T.cl hr (pv 0) (ae (pv 1) af)) (pU (eG cH T.cl hr (pv 0) (ae (pv 2) af)) (mw (iQ (El eQ (pP hr 0)) (pv 2) (eU hu (cX (pv 0) Z) (pv 1) (λ_ _=>rfl)) (by with_unfolding_all rfl)))))),?_];refine#[_,Z,p,dx,_,Z,h1,j_,_,Z,p,v,x,hs,ts,_,Z,W,sv,_,Z,?_];cases x with
  |none=>exact aM k
  |some x=>
   cases (show v=.str x from sv);refine bp (λc=>?_) (λc=>?_)
   ·have hx:x∈hs.map (·.1):=vq c;obtain⟨a,e1,ha⟩:=OR nd hx h6 h7;refine#[_,Z,p,dx,_,Z,h1,j_,_,Z,p,u,y,hs,ts,_,Z,W,su,_,Z,?_];cases y with
    |none=>exact aM k
    |some y=>
     cases (show u=.str y from su);rw[E2,bW hx,Bool.true_and] at k;refine bp (λc2=>?_) (λc2=>?_)
     ·have hy:y∈hs.map (·.1):=vq c2;rw[bW hy,Bool.true_and] at k;refine#[_,Z,_,Z,p,C,dx,_,_,Z,h1,T.cl,T.nN,KU _ _ _,_,Z,d3,.ref a,Z,?_,y,_,Z,#[a,_,Z,.of ha,Bz _],k];rw[<- e1];exact .k (k:=Sum.inr x) h5
     ·have hy:¬y∈hs.map (·.1):=λz=>c2 (bW z);rw[dA hy,Bool.false_and] at k;exact k
   ·have hx:¬x∈hs.map (·.1):=λz=>c (bW z);cases y with
    |none=>exact k
    |some y=>
     rw[E2,dA hx,Bool.false_and] at k;exact k
theorem _i{hs:Xa}{ts ws:Xb}(G:Good hs ts)(W:Br ts ws){t:Str × Str}(ht:t∈aK ws):zP hs ts (some t.1) (some t.2)=true:=by
 obtain⟨x,hx,ex⟩:=Hd.mp ht;obtain⟨u,hu,eu⟩:=a_.mp (W.Dk x hx);have eo:aH u.1 u.2=t:=(Ah eu).trans ex
 have both:t.1∈hs.map (·.1)/\t.2∈hs.map (·.1)/\aH t.1 t.2=t:=by
  obtain⟨g1,g2⟩:=G.xK u hu;rcases GO u.1 u.2 with e|e
  ·rw[<- eo,e];exact#[g1,g2,e]
  ·rw[<- eo,e];exact#[g2,g1,(Ho _ _).trans e]
 obtain⟨m1,m2,m3⟩:=both;have m4:t.2∈near (aA hs) (aK ts) t.1:=List.mem_filter.mpr #[(hW hs).mem_iff.mpr m2,bW (by rw[m3];exact Hd.mpr #[u,hu,eo])];rw[E2,bW m1,bW m2,bW m4];rfl
theorem GM:bh ["web","ways","found","one","other"] ["web","ways"] (aU lQ):=bu
inductive LF (K:ag) (C:Addr) (vs:List V) (H:Hp) (Q:VK) (E:XK):Prop
 |mk:∀(p:Addr) (v:V) (o:Option (Xb)) (hs:Xa) (ts:Xb) (fp:List Addr),vs=[.ref p,v]->fK K C H p hs ts fp->Good hs ts->bJ K H v o->(∀ws,o=some ws->Br ts ws)->(∀v' H',aa H H'->bJ K H' v' (o.map aK)->(∀a,v'=.ref a->H a=none)->Q v' H')->LF K C vs H Q E
theorem Zr{C:Addr}(F:a9 K "checked_ways" "checked_ways" lQ f fd)(T:Txt K mg C)(cS:bj P w K mg base 3 "sorted_ties" ["ties"] (MA K))(cT:bb P w K mg base C 2 "are_tied" ["self","one","other"] (EB K C)):ai P w K mg base aR 4 f fd ["web","ways"] (LF K C):=by
 refine F.bt GM λaL A outer s H vs Q E hr h=>?_
 ·obtain⟨p,v,o,hs,ts,fp,rfl,W,G,wy,gw,k⟩:=h;have hu:=eS hr;have cz:aD 2 _:=hr.mono (by decide)
  refine#[_,au (bC (vw (Gv (pv 1))) (aI (ba Gw)) bD)
   (au (bg 2 GM.nd (aX cS hr (ae (pv 1) af)))
   (au (bC (vw (Gv (pv 2))) cq bD)
   (au (eV eM Z (dH (pv 2)) (jO Z (bY (bV 3 GM.nd) (bY (bV 4 GM.nd) gR)))
    (aI (bC (eI (dZ (eG cT T.cl cz (pv 0) (ae (pv 3) (ae (pv 4) af))))) cq bD)))
   (aI (ba (pv 2)))))),?_]
  cases o with
  |none=>
   cases (show v=.non from wy);exact#[_,Z,_,Z,dQ (k .non H (aa.refl H) Z (λa z=>by cases z))]
  |some ws=>
   obtain⟨a,ys,rfl,ha,tu⟩:=wy;have Wo:=gw ws Z;refine#[_,Z,_,Z,aM ?_];refine#[_,Z,a,ys,ws,Z,ha,tu,Wo.good,Wo.nd,by have:=Wo.len;have:=G.xR;omega,λl' zs H1 s1 hf eB tz=>?_];refine#[_,Z,_,Z,aM ?_];have W1:=W.same s1;obtain⟨dx,d1,l2,d3,jb,as,rfl,h1,h2,h3,h4,h5,h6,h7⟩:=id W1.ex;have j_:(bQ d1 l2 d3).lookup ("are_tied":Str)=none:=ik _ _ _ Z0 Z0 Z0;rw[<- E7] at tz;refine#[_,Z,l',Z,#[_,.of eB],gF (K:=K) (a:=l') (xs:=zs) (λi σ H2=>∃(v3 v4:Option V),σ=[some (.ref p),some (.ref a),some (.ref l'),v3,v4]/\H2=H1) #[none,none,Z,Z] (λi σ H2 _ ⟨_,_,_,e⟩=>by subst e;exact .of eB) ?_ ?_]
   ·rintro i y σ H2 hy ⟨v3,v4,rfl,rfl⟩;obtain⟨t,ht,q,rfl,hq⟩:=ij tz hy;refine#[q,_,Z,.of (sk hq),Z,_,_,Z,_,_,Z,Z,?_];refine#[_,Z,p,dx,_,Z,h1,j_,_,Z,_,Z,p,_,_,some t.1,some t.2,hs,ts,_,Z,W1,G.iB,Z,Z,_,Z,?_];rw[_i G Wo (cn ht)];refine aM ?_;exact#[_,_,Z,Z]
   ·rintro σ H2 ⟨v3,v4,rfl,rfl⟩;exact#[_,Z,k (.ref l') _ s1 #[l',zs,Z,eB,tz] (λc z=>by cases z;exact hf)]
def wI(p:Pc):Pc:=(p.1,p.2.1,p.2.2.map aK)
def pQ(K:ag)(H0 H:Hp)(y:V)(p:Pc):Prop:=∃t v,y=.ref t/\H t=some (.tup [.str p.1,.int p.2.1,v])/\bJ K H v p.2.2/\∀a,v=.ref a->H0 a=none
theorem pQ.same{K:ag}{H:Hp}{y:V}{p:Pc}(h:pQ K H0 H y p)(s:aa H H'):pQ K H0 H' y p:=by
 obtain⟨t,v,e,ht,hv,hn⟩:=h;exact#[t,v,e,s _ _ ht,hv.same s,hn]
theorem bJ.up{K:ag}{H:Hp}(h:bJ K H v o)(n1:∀xs,H D≠some (.lst xs))(n2:∀xs,H D≠some (.tup xs)):bJ K (upd H D u) v o:=by
 cases o with
 |none=>exact h
 |some ws=>
  obtain⟨a,ys,e,ha,t⟩:=h;exact#[a,ys,e,by rw[ax (λz:a=D=>n1 ys (z▸ha))];exact ha,Paired.bo t λy k ⟨b,z,q⟩=>#[b,z,by rw[ax (λz:b=D=>n2 _ (z▸q))];exact q]]
theorem pQ.up{K:ag}{H:Hp}{y:V}{p:Pc}(h:pQ K H0 H y p)(n1:∀xs,H D≠some (.lst xs))(n2:∀xs,H D≠some (.tup xs)):pQ K H0 (upd H D u) y p:=by
 obtain⟨t,v,e,ht,hv,hn⟩:=h;exact#[t,v,e,by rw[ax (λz:t=D=>n2 _ (z▸ht))];exact ht,hv.up n1 n2,hn]
theorem LI{ps:List Pc}{cs:List V}(nd:(ps.map (·.1)).Nodup)(hl:cs.length=ps.length):∀{j:Nat} {q:Pc} {c:V},ps[j]? = some q->cs[j]? = some c->br ((ps.zip cs).map λq=>((Sum.inr q.1.1:Key),q.2)) (Sum.inr q.1)=some c:=by
 induction ps generalizing cs with
 |nil=>
  intro j q c h;simp at h
 |cons p ps ih=>
  intro j q c h1 h2;cases cs with
  |nil=>cases hl
  |cons b cs=>
   rw[dN] at nd;obtain⟨n1,n2⟩:=pe.mp nd;cases j with
   |zero=>
    have e1:p=q:=by simpa using h1
    have e2:b=c:=by simpa using h2
    subst e1 e2;exact Ak Z
   |succ j=>
    have h1:ps[j]? = some q:=by simpa using h1
    have h2:cs[j]? = some c:=by simpa using h2
    show br ((Sum.inr p.1,b)::((ps.zip cs).map λq=>((Sum.inr q.1.1:Key),q.2))) (Sum.inr q.1)=_;rw[Aj λe=>n1 (by rw[show p.1=q.1 from hU e];exact a_.mpr #[q,cn h1,Z])];exact ih n2 (by simpa using hl) h1 h2
theorem qO:bh ["web","piece"] ["web","piece"] (aU LJ):=bu
inductive M_ (K:ag) (C:Addr) (vs:List V) (H:Hp) (Q:VK) (E:XK):Prop
 |mk:∀(p:Addr) (y:V) (q:Pc) (hs:Xa) (ts:Xb) (fp:List Addr),vs=[.ref p,y]->fK K C H p hs ts fp->Good hs ts->s_ K H y q->zS ts q->(∀y' H',aa H H'->pQ K H H' y' (wI q)->Q y' H')->M_ K C vs H Q E
theorem gv_{C:Addr}(F:a9 K "checked_piece" "checked_piece" LJ f fd)(B:Bi mg)(cN:bj P w K mg base 1 "is_name" ["thing"] GC)(cW:bj P w K mg base 2 "is_whole_within" ["thing","least","most"] LQ)(cC:bj P w K mg base 4 "checked_ways" ["web","ways"] (LF K C)){tk:Tok}(mW:mg "MOST_WEIGHT"=some (.int 1000000000 tk)) :
  ai P w K mg base aR 5 f fd ["web","piece"] (M_ K C):=by
 refine F.bt qO λaL A outer s H vs Q E hr h=>?_
 ·obtain⟨p,y,q,hs,ts,fp,rfl,W,G,⟨t,v,rfl,ht,wy⟩,gp,k⟩:=h;have dS:aD 1 _:=hr.mono (by decide);have cz:aD 2 _:=hr.mono (by decide)
  refine#[_,au (bC (tL (eI (dZ (cK jW (by rfl) B.iW ja (ae (pv 1) (ae (jV (v:=.ty "tuple") (by rfl) B.tuple G4 Z) af)))))
    (tW (cU oA (cK jU (by rfl) B.len gP (ae (pv 1) af)) aE (ak _)))).pt cq bD)
   (au (bC (eI (dZ (aX cN dS (ae (bB cy (pv 1) aE (λ_ _=>rfl)) af)))) cq bD)
   (au (bC (eI (dZ (aX cW cz (ae (bB cy (pv 1) aE (λ_ _=>rfl)) (ae aE (ae (Ap (v:=.int 1000000000) (by rfl) mW #[tk,Z]) af)))))) cq bD)
   (aI (ba (fA (ae (bB cy (pv 1) aE (λ_ _=>rfl)) (ae (bB cy (pv 1) aE (λ_ _=>rfl)) (ae (aX cC hr (ae (pv 0) (ae (bB cy (pv 1) aE (λ_ _=>rfl)) af))) af)))))))),?_]
  refine#[_,Z,_,_,_,_,Z,.tup ht,Z,_,Z,aM ?_];refine#[_,Z,t,_,Z,.inr (.of ht),Z,_,Z,?_];refine tQ (show V.int ((3:Nat):Int)=V.int 3 from Z) ?_;refine#[_,Z,t,_,_,_,Z,Z,.of ht,Z,q.1,Z,by have:=Hq gp.nm;omega,λH1 s1=>#[_,Z,?_]];rw[gp.nm];refine aM ?_;have jB:=s1 _ _ ht;refine#[_,Z,t,_,_,_,Z,Z,.of jB,Z,q.2.1,1,1000000000,Z,_,Z,?_];rw[bW gp.w1,bW gp.w2];refine aM ?_;refine#[_,Z,t,_,_,_,Z,Z,.of jB,Z,_,Z,t,_,_,_,Z,Z,.of jB,Z,_,Z,_,Z,t,_,_,_,Z,Z,.of jB,Z,p,v,q.2.2,hs,ts,fp,Z,W.same s1,G,wy.same s1,gp.ws,λv' H2 s2 Ui hf=>?_];refine#[by show 3<=sizeLine;decide,λt' DB=>?_];exact k (.ref t') _ (s1.trans (s2.trans (aa.new DB))) #[t',v',Z,ay,Ui.same (aa.new DB),λa z=>s1.free (hf a z)]
theorem Hy:bh ["web","pieces","found","piece","checked"] ["web","pieces"] (aU Mz):=bu
structure Qs (ps qs:List Pc):Prop where
 pG:qs.map (·.1)=mF (ps.map (·.1))
 mem:∀q∈qs,∃p∈ps,q=wI p
inductive L7 (K:ag) (C:Addr) (vs:List V) (H:Hp) (Q:VK) (E:XK):Prop
 |mk:∀(p l:Addr) (ys:List V) (ps:List Pc) (hs:Xa) (ts:Xb) (fp:List Addr),vs=[.ref p,.ref l]->fK K C H p hs ts fp->Good hs ts->H l=some (.lst ys)->jY K H ys ps->(∀q∈ps,zS ts q)->(ps.map (·.1)).Nodup->ps.length<64->(∀l' zs qs H',aa H H'->H' l'=some (.lst zs)->Paired (pQ K H H') zs qs->Qs ps qs->Q (.ref l') H')->L7 K C vs H Q E
theorem fP_{C:Addr}(F:a9 K "checked_pieces" "checked_pieces" Mz f fd)(B:Bi mg)(cP:bj P w K mg base 5 "checked_piece" ["web","piece"] (M_ K C)):ai P w K mg base aR 6 f fd ["web","pieces"] (L7 K C):=by
 refine F.bt Hy λaL A outer s H vs Q E hr h=>?_
 ·obtain⟨p,l,ys,ps,hs,ts,fp,rfl,W,G,hl,pc,gp,nd,cg,k⟩:=h;have hu:=eS hr;have sz:=bU;have le:=bE pc
  refine#[_,au (bC (eI (dZ (cK jW (by rfl) B.iW ja (ae (pv 1) (ae (jV (v:=.ty "list") (by rfl) B.list xv Z) af))))) cq bD)
   (au (bg 2 Hy.nd Al)
   (au (eV eM Z (dH (pv 1)) (bV 3 Hy.nd)
    (au (bg 4 Hy.nd (aX cP hr (ae (pv 0) (ae (pv 3) af))))
    (au (bC (vw (Be hu (bB cy (pv 4) aE (λ_ _=>rfl)) (pv 2))) cq bD)
    (aI (o7 hu (pv 2) (bB cy (pv 4) aE (λ_ _=>rfl)) (pv 4) Z)))))
   (aI (ba (iP ["name","found"] 1 [2] (dH (cK (f3_ Z) (by rfl) B.sorted He (ae (pv 2) af))) (λfp s H=>fq 0) (λfp s H=>gT)
    (λfp s H=>eU hu (pv 1) (pv 0) (λ_ _=>rfl))))))),?_]
  refine#[_,Z,_,_,_,_,Z,.lst hl,Z,_,Z,aM ?_];intro d hd;have s0:aa H (upd H d (.dK [])):=aa.new hd;refine#[_,Z,l,Z,#[_,.of (s0 _ _ hl)],gF (K:=K) (a:=l) (xs:=ys) (λi σ H2=>∃(v3 v4:Option V) (cs:List V),σ=[some (.ref p),some (.ref l),some (.ref d),v3,v4]/\aa H H2/\Paired (pQ K H H2) cs ((ps.take i).map wI)/\H2 d=some (.dK (((ps.take i).zip cs).map λq=>(Sum.inr q.1.1,q.2)))) #[none,none,[],Z,s0,.nil,ay] (λi σ H2 _ ⟨_,_,_,_,s2,_⟩=>.of (s2 _ _ hl)) ?_ ?_]
  ·rintro i y σ H2 hy ⟨v3,v4,cs,rfl,s2,pn,hd2⟩;have hi:i<ys.length:=(bP.mp hy).1;have hq:ps[i]? = some (ps[i]' Z1):=di Z1;have py:=az pc i hi Z1;rw[(bP.mp hy).2] at py;generalize ps[i]' Z1=q at hq py;refine#[_,Z,_,Z,p,y,q,hs,ts,fp,Z,W.same s2,G,py.same s2,gp q (cn hq),λy' H3 s3 pw=>?_];obtain⟨t,v,rfl,ht,wy,hf⟩:=pw;have g9:=s3 _ _ hd2;have lc:=bE pn;rw[aq,cj] at lc
   have keys:((((ps.take i).zip cs).map λq=>((Sum.inr q.1.1:Key),q.2)).map (·.1))=((ps.take i).map (·.1)).map Sum.inr:=by
    rw[bK];have:((λx:Key × V=>x.1) ∘ λq:Pc × V=>((Sum.inr q.1.1:Key),q.2))=(λp:Pc=>(Sum.inr p.1:Key)) ∘ Prod.fst:=rfl;rw[this,<- bK,List.map_fst_zip (by rw[cj];omega),bK];rfl
   have tG:br (((ps.take i).zip cs).map λq=>((Sum.inr q.1.1:Key),q.2)) (Sum.inr q.1)=none:=xB (by
    rw[keys];intro m;obtain⟨x,hx,e⟩:=a_.mp m;cases e;exact Bx (g:=λp:Pc=>p.1) nd hq hx)
   refine#[_,Z,t,_,_,_,Z,Z,.of ht,Z,_,Z,d,_,Z,.k (k:=Sum.inr q.1) g9,_,Z,?_];rw[tG];refine aM ?_;refine#[_,Z,_,Z,_,Z,t,_,_,_,Z,Z,.of ht,Z,d,_,Z,.k (k:=Sum.inr q.1) g9 (by rw[aq,List.length_zip,cj];omega),?_];have yu:=s2.trans s3;have n1:∀xs,H3 d≠some (.lst xs):=λxs z=>by rw[g9] at z;cases z
   have n2:∀xs,H3 d≠some (.tup xs):=λxs z=>by rw[g9] at z;cases z
   refine#[_,_,cs++[.ref t],Z,λc o e=>?_,?_,?_]
   ·rw[ax (bI e hd)];exact yu _ _ e
   ·rw[hV,hq,bX];exact kn (Paired.bo pn λy q h=>(h.same s3).up n1 n2) (.cons (pQ.up #[t,v,Z,ht,wy,λa z=>s2.free (hf a z)] n1 n2) .nil)
   ·rw[ay,BA _ tG,hV,hq,List.zip_append (by rw[cj];omega),bX];rfl
  ·rintro σ H2 ⟨v3,v4,cs,rfl,s2,pn,hd2⟩;rw[le,dG] at pn hd2;have lc:=bE pn;rw[aq] at lc
   have keys:(((ps.zip cs).map λq=>((Sum.inr q.1.1:Key),q.2)).map (·.1))=(ps.map (·.1)).map Sum.inr:=by
    rw[bK];have:((λx:Key × V=>x.1) ∘ λq:Pc × V=>((Sum.inr q.1.1:Key),q.2))=(λp:Pc=>(Sum.inr p.1:Key)) ∘ Prod.fst:=rfl;rw[this,<- bK,List.map_fst_zip Z1,bK];rfl
   refine#[_,Z,d,_,ps.map (·.1),Z,hd2,keys,by rw[aq];exact cg,λls uX=>?_];obtain⟨s3,jE⟩:=aO (o:=.lst ((mF (ps.map (·.1))).map V.str)) uX;refine#[ls,Z,#[_,.of jE],λD hD=>?_];generalize upd H2 ls (.lst ((mF (ps.map (·.1))).map V.str))=H3 at s3 jE hD ⊢;have lss:(mF (ps.map (·.1))).length=ps.length:=by rw[(mI _).length_eq,aq]
   refine mK (own:=1) (fv:=[some (.ref d)]) (xs:=(mF (ps.map (·.1))).map V.str) Z eD (λi out H'=>∃qs:List Pc,aa H3 H'/\H' D=some (.lst out)/\Paired (pQ K H H2) out qs/\qs.map (·.1)=(mF (ps.map (·.1))).take i/\∀q∈qs,∃p∈ps,q=wI p) #[[],aa.new hD,ay,.nil,Z,by simp] (λi out H' _ ⟨_,sm,_⟩=>.of (sm _ _ jE)) (λzs H4 ⟨qs,s4,sH,pq,en,mem⟩=>?_) (λi x out H' hx ⟨qs,sm,e_,pq,en,mem⟩=>?_)
   ·rw[aq,dG] at en;exact k D zs qs H4 (s2.trans (s3.trans s4)) sH (Paired.bo pq λy q h=>h.same (s3.trans s4)) #[en,mem]
   ·obtain⟨n,hn,rfl⟩:=jT hx;have hm:n∈ps.map (·.1):=(mI _).mem_iff.mp (cn hn);obtain⟨q,hq,eq⟩:=a_.mp hm;obtain⟨j,hj,ej⟩:=ph hq;have hqj:ps[j]? = some q:=by rw[di hj,ej]
    have P8:cs[j]? = some (cs[j]' Z1):=di Z1;have hv:=LI nd lc hqj P8;have pj:=az pn j Z1 (by rw[aq];omega);rw[List.getElem_map,ej] at pj;generalize cs[j]' Z1=c at P8 hv pj;rw[eq] at hv;have lo:=bE pq;have lq:=dF List.length en;rw[aq,cj] at lq;have hi:i<(mF (ps.map (·.1))).length:=(bP.mp hn).1;refine#[_,Z,Z,λNx hN=>cZ ?_];refine#[_,Z,_,Z,d,c,Z,?_,out,e_,by omega,hN _ _ #[qs++[wI q],gh sm hD,ay,?_,?_,?_]]
    ·rw[<- hv];exact .k (k:=Sum.inr n) (sm _ _ (s3 _ _ hd2))
    ·exact kn pq (.cons pj .nil)
    ·rw[bX,en,hV,hn,<- eq];rfl
    ·intro q' hq';rcases eK.mp hq' with hq'|hq'
     ·exact mem q' hq'
     ·obtain rfl:q'=wI q:=by simpa using hq'
      exact#[q,hq,Z]
end
abbrev lN:Stmt:=i0 Ep 0
abbrev rn:Stmt:=i0 Ep 1
abbrev LA:Stmt:=i0 Ep 2
abbrev Nb:Stmt:=i0 Ep 3
abbrev rj:Stmt:=i0 Ep 5
def bF(p dw dy:Addr):List (Str × V):=aB "ways_by_name" (.ref dy) (aB "weight_by_name" (.ref dw) (aB "web" (.ref p) []))
theorem g12:¬(("web":Str)="weight_by_name"):=by decide +kernel
theorem g13:¬(("web":Str)="ways_by_name"):=by decide +kernel
theorem g23:¬(("weight_by_name":Str)="ways_by_name"):=by decide +kernel
theorem mG(p dw dy:Addr):(bF p dw dy).lookup ("web":Str)=some (.ref p):=by
 unfold bF;rw[eJ,ao g13,eJ,ao g12,eJ,aC Z]
theorem K9(p dw dy:Addr):(bF p dw dy).lookup ("weight_by_name":Str)=some (.ref dw):=by
 unfold bF;rw[eJ,ao g23,eJ,aC Z]
theorem X4(p dw dy:Addr):(bF p dw dy).lookup ("ways_by_name":Str)=some (.ref dy):=by
 unfold bF;rw[eJ,aC Z]
theorem pV(p dw dy:Addr){m:Str}(h1:¬m="web")(h2:¬m="weight_by_name")(h3:¬m="ways_by_name"):(bF p dw dy).lookup m=none:=by
 unfold bF;rw[eJ,ao h3,eJ,ao h2,eJ,ao h1]
 all_goals rfl
def kB(qs:List Pc):List (Key × V):=qs.map λq=>(Sum.inr q.1,V.int q.2.1)
def uj(qs:List Pc)(vs:List V):List (Key × V):=(qs.zip vs).map λx=>(Sum.inr x.1.1,x.2)
theorem QW(qs:List Pc):(kB qs).map (·.1)=(qs.map (·.1)).map Sum.inr:=by
 unfold kB;rw[bK,bK];rfl
variable{qs:List Pc}
theorem _k{vs:List V}(h:vs.length=qs.length):(uj qs vs).map (·.1)=(qs.map (·.1)).map Sum.inr:=by
 unfold uj;rw[bK];have:((λx:Key × V=>x.1) ∘ λq:Pc × V=>((Sum.inr q.1.1:Key),q.2))=(λp:Pc=>(Sum.inr p.1:Key)) ∘ Prod.fst:=rfl;rw[this,<- bK,List.map_fst_zip Z1,bK];rfl
structure fQ (K:ag) (CG CW:Addr) (H:Hp) (g p:Addr) (hs:Xa) (ts:Xb) (qs:List Pc) (fp:List Addr):Prop where
 ex:∃(dx dw dy:Addr) (vs:List V) (bL:List Addr),H g=some (.ins CG dx (bF p dw dy))/\fK K CW H p hs ts bL/\H dw=some (.dK (kB qs))/\H dy=some (.dK (uj qs vs))/\Paired (λv (q:Pc)=>bJ K H v q.2.2) vs qs /\
  g∈fp/\dw∈fp/\dy∈fp/\(∀b∈bL,b∈fp)/\∀v∈vs,∀a,v=.ref a->a∈fp
theorem Nn{α β:Type}{F G:α->β->Prop}:∀{l:List α} {m:List β},Paired F l m->(∀a∈l,∀b,F a b->G a b)->Paired G l m
 |_,_,.nil,_=>.nil
 |_,_,.cons h t,f=>.cons (f _ dO _ h) (Nn t λa ha=>f a (dP _ ha))
theorem bJ.keep{K:ag}{H:Hp}(h:bJ K H v o)(k:∀a,v=.ref a->∀u,H a=some u->H' a=some u)(kt:∀b xs,H b=some (.tup xs)->H' b=some (.tup xs)):bJ K H' v o:=by
 cases o with
 |none=>exact h
 |some ws=>
  obtain⟨a,ys,e,ha,t⟩:=h;exact#[a,ys,e,k a e _ ha,Paired.bo t λy q ⟨b,z,hb⟩=>#[b,z,kt _ _ hb]]
variable{fp:List Addr}
theorem fQ.keep{K:ag}{CG CW:Addr}{H:Hp}{g p:Addr}{hs:Xa}{ts:Xb}(G:fQ K CG CW H g p hs ts qs fp)(k:∀b∈fp,∀o,H b=some o->H' b=some o)(kt:∀b xs,H b=some (.tup xs)->H' b=some (.tup xs)):fQ K CG CW H' g p hs ts qs fp:=by
 obtain⟨dx,dw,dy,vs,bL,h1,h2,h3,h4,h5,m1,m2,m3,m4,m5⟩:=G.ex;exact#[dx,dw,dy,vs,bL,k _ m1 _ h1,h2.keep (λb hb o e=>k b (m4 b hb) o e) kt,k _ m2 _ h3,k _ m3 _ h4,Nn h5 λv hv q h=>h.keep (λa z u e=>k a (m5 v hv a z) u e) kt,m1,m2,m3,m4,m5]
theorem fQ.same{K:ag}{CG CW:Addr}{H:Hp}{g p:Addr}{hs:Xa}{ts:Xb}(G:fQ K CG CW H g p hs ts qs fp)(s:aa H H'):fQ K CG CW H' g p hs ts qs fp:=G.keep (λb _ o e=>s b o e) λb xs e=>s b _ e
structure dz (K:ag) (CG:Addr):Prop where
 cl:mT K CG
 nW:ke K CG "web"
 nG:ke K CG "weight_by_name"
 nY:ke K CG "ways_by_name"
structure Fs (K:ag) (C:Addr):Prop where
 ha:PySem.W.findIn K (.ref C) "__class__"=some (some (.builtin "object.__class__"))
 hn:PySem.W.specialIn K (.builtin "object.__class__") "__get__"=some (some (.builtin "getset_descriptor.__get__"))
 tk:PySem.W.takesIn K (.builtin "object.__class__")=some true
 mo:PySem.W.mroIn K C (.type "object")=some true
theorem ZX(K:ag)(c:Aa):PySem.W.kitOne K c c=some true:=by
 unfold PySem.W.kitOne;rw[aC (beq_self_eq_true c)]
theorem QR{K:ag}{H0 H:Hp}:∀{zs:List V} {qs:List Pc},Paired (pQ K H0 H) zs qs->∃vs:List V,vs.length=qs.length/\Paired (λz (x:Pc × V)=>∃t,z=.ref t/\H t=some (.tup [.str x.1.1,.int x.1.2.1,x.2])) zs (qs.zip vs)/\Paired (λv (q:Pc)=>bJ K H v q.2.2) vs qs/\∀v∈vs,∀a,v=.ref a->H0 a=none
 |_,_,.nil=>#[[],Z,.nil,.nil,by simp]
 |_,_,.cons ⟨t,v,e,ht,wy,hn⟩ r=>by
  obtain⟨vs,h1,h2,h3,h4⟩:=QR r;refine#[v::vs,by simp[h1],.cons #[t,e,ht] h2,.cons wy h3,λu hu=>?_];rcases bO.mp hu with rfl|hu
  ·exact hn
  ·exact h4 u hu
theorem Ra{K:ag}{l:Addr}{zs:List V}{xs:List (Pc × V)}{H:Hp}{Q:VK}{kA:St}{j:Nat}(sel:Pc × V->V)(hj:∀x:Pc × V,[some (V.str x.1.1),some (V.int x.1.2.1),some x.2][j]? = some (some (sel x)))(se:kA=[none,none,none])(hl:H l=some (.lst zs))(pz:Paired (λz (x:Pc × V)=>∃t,z=.ref t/\H t=some (.tup [.str x.1.1,.int x.1.2.1,x.2])) zs xs)(xa:xs.length<=1000)(hD:H D=none)(q:∀H' out,aa H H'->H' D=some (.lst out)->i5 K H' out (xs.map λx=>(Sum.inr x.1.1,sel x))->Q (.ref D) H') :
  zU (AC K l) (hE K 3 (tT (mE 0) (tT (mE 1) (tT (mE 2) vg)))) ur (BX (je (p_ 0) (je (p_ j) iw))) kA D H Q:=by
 have sz:=bU;have le:=bE pz;refine mK (own:=3) (fv:=[]) (xs:=zs) se Ec (λi out H'=>aa H H'/\H' D=some (.lst out)/\i5 K H' out ((xs.take i).map λx=>(Sum.inr x.1.1,sel x))) #[aa.new hD,ay,.nil] (λi out H' _ ⟨sm,_,_⟩=>.of (sm _ _ hl)) (λout H4 ⟨sm,sH,eo⟩=>?_) (λi y out H' hy ⟨sm,e_,eo⟩=>?_)
 ·rw[le,dG] at eo;exact q _ _ sm sH eo
 ·have hi:i<zs.length:=(bP.mp hy).1;have hx:xs[i]? = some (xs[i]' Z1):=di Z1;obtain⟨t,et,ht⟩:=az pz i hi Z1;rw[(bP.mp hy).2] at et;subst et;generalize xs[i]' Z1=x at hx ht;have lo:=bE eo;rw[aq,cj] at lo;refine#[_,#[t,_,_,_,Z,.of (sm _ _ ht),Z],Z,λNx hN=>cZ ?_];refine#[_,Z,_,hj x,by show 2<=sizeLine;decide,λp hp=>?_];have s2:=aa.new (o:=.tup [.str x.1.1,sel x]) hp;refine#[out,s2 _ _ e_,by omega,hN _ _ #[gh (sm.trans s2) hD,ay,?_]];rw[BE _ hx];have pD:∀{b:Addr} {ys:List V},upd H' p (.tup [.str x.1.1,sel x]) b=some (.tup ys)->b≠D:=λhb=>bZ hb (s2 _ _ e_) nofun;refine kn (Paired.bo eo λy kv ⟨b,z,hb⟩=>#[b,z,by rw[ax (pD (s2 _ _ hb))];exact s2 _ _ hb]) (.cons #[p,Z,?_] .nil);have oh:upd H' p (.tup [.str x.1.1,sel x]) p=some (.tup [.str x.1.1,sel x]):=ay;rw[ax (pD oh)];exact oh
section
variable{P:Ad}{w:Af}{K:ag}{mg:Str->Option Aa}{base:Heap}
theorem nK:bh ["self","web","pieces","checked"] ["self","web","pieces"] (aU lN):=bu
inductive LK (K:ag) (CG CW:Addr) (vs:List V) (H:Hp) (Q:VK) (E:XK):Prop
 |mk:∀(g dx p l:Addr) (ys:List V) (ps:List Pc) (hs:Xa) (ts:Xb) (bL:List Addr),vs=[.ref g,.ref p,.ref l]->H g=some (.ins CG dx [])->fK K CW H p hs ts bL->g∉bL->Good hs ts->H l=some (.lst ys)->jY K H ys ps->(∀q∈ps,zS ts q)->(ps.map (·.1)).Nodup->ps.length<64->(∀qs fp H',(∀b o,H b=some o->b≠g->H' b=some o)->fQ K CG CW H' g p hs ts qs fp->Qs ps qs->(∀b∈fp,b=g∨b∈bL∨H b=none)->Q .non H')->LK K CG CW vs H Q E
theorem _v{CG CW:Addr}(F:a9 K "__init__" "Goods.__init__" lN f fd)(T:dz K CG)(TW:Txt K mg CW)(IW:Fs K CW)(B:Bi mg)(Jq:mg "Web"=some (.ref CW))(cP:bj P w K mg base 6 "checked_pieces" ["web","pieces"] (L7 K CW)):ai P w K mg base aR 7 f fd ["self","web","pieces"] (LK K CG CW):=by
 refine F.bt nK λaL A outer s H vs Q E hr h=>?_
 ·obtain⟨g,dx,p,l,ys,ps,hs,ts,bL,rfl,hg,W,gw,G,hl,pc,gp,nd,cg,k⟩:=h
  refine#[_,au (bC (eI (dZ (cK h3_ (by rfl) B.iW ja (ae (pv 1) (ae (Ap (v:=.ref CW) (by rfl) Jq Z) af))))) cq bD)
   (au (bg 3 nK.nd (aX cP hr (ae (pv 1) (ae (pv 2) af))))
   (au (tX (pv 0) (pv 1) Z)
   (au (tX (pv 0) (i_ (vK Z) (by rfl) B.dict sU (ae (iP ["name","weight","ways"] 3 [] (dH (pv 3)) (λfp s H=>Bj (n:=3) (bY (fq 0) (bY (fq 1) (bY (fq 2) gR)))) (λfp s H=>gT) (λfp s H=>fA (ae (pv 0) (ae (pv 1) af)))) af)) Z)
   (aI (tX (pv 0) (i_ (vK Z) (by rfl) B.dict sU (ae (iP ["name","weight","ways"] 3 [] (dH (pv 3)) (λfp s H=>Bj (n:=3) (bY (fq 0) (bY (fq 1) (bY (fq 2) gR)))) (λfp s H=>gT) (λfp s H=>fA (ae (pv 0) (ae (pv 2) af)))) af)) Z))))),?_]
  obtain⟨eL,d1,l2,d3,jb,as,ef,w1,_⟩:=id W.ex;refine#[_,Z,_,_,_,_,Z,.ins w1 TW.cl IW.ha IW.hn IW.tk IW.mo,ZX _ _,_,Z,aM ?_];refine#[_,Z,_,Z,p,l,ys,ps,hs,ts,bL,Z,W,G,hl,pc,gp,nd,cg,λlc zs qs H1 s1 DQ pn Qq=>?_];obtain⟨vs,lv,pz,Ug,BP⟩:=QR pn;have D0:=s1 _ _ hg
  have lq:qs.length=ps.length:=by
   have:=dF List.length Qq.pG;rw[aq,(mI _).length_eq,aq] at this;exact this
  have Vs:(qs.map (·.1)).Nodup:=by
   rw[Qq.pG];exact (mI _).nodup_iff.mpr nd
  refine#[_,Z,_,Z,g,CG,dx,[],Z,D0,T.cl,T.nW,by show 0<1000;decide,?_];have up1:∀{b o},H1 b=some o->b≠g->upd H1 g (.ins CG dx (aB "web" (.ref p) [])) b=some o:=λe ne=>by rw[ax ne];exact e
  have DZ:upd H1 g (.ins CG dx (aB "web" (.ref p) [])) g=some (.ins CG dx (aB "web" (.ref p) [])):=ay
  have A7:∀{b},upd H1 g (.ins CG dx (aB "web" (.ref p) [])) b=none->H1 b=none:=λ{b} e=>by
   by_cases z:b=g
   ·rw[z,ay] at e;cases e
   ·rw[ax z] at e;exact e
  generalize upd H1 g (.ins CG dx (aB "web" (.ref p) []))=H2 at up1 DZ A7 ⊢;have F5:lc≠g:=bZ DQ D0 nofun;have Vw:Paired (λz (x:Pc × V)=>∃t,z=.ref t/\H2 t=some (.tup [.str x.1.1,.int x.1.2.1,x.2])) zs (qs.zip vs):=Paired.bo pz λz x ⟨t,e,ht⟩=>#[t,e,up1 ht (bZ ht D0 nofun)];have mV:(qs.zip vs).length<=1000:=by rw[List.length_zip];omega
  refine#[_,Z,lc,Z,#[_,.of (up1 DQ F5)],λD hD=>?_];refine Ra (λx=>.int x.1.2.1) (λx=>rfl) Z (up1 DQ F5) Vw mV hD λH3 out s3 A5 VB=>?_;refine#[D,out,_,Z,A5,VB,by rw[aq];exact mV,λdw Kw=>?_]
  have ekv:((qs.zip vs).map λx:Pc × V=>((Sum.inr x.1.1:Key),V.int x.1.2.1))=kB qs:=by
   unfold kB;have:(λx:Pc × V=>((Sum.inr x.1.1:Key),V.int x.1.2.1))=(λq:Pc=>((Sum.inr q.1:Key),V.int q.2.1)) ∘ Prod.fst:=rfl;rw[this,<- bK,List.map_fst_zip Z1]
  have wJ:(qs.map (·.1)).map (Sum.inr:Str->Key) |>.Nodup:=by
   rw[pW,mM];exact Vs.imp λn e=>n (hU e)
  rw[ekv,vI (by rw[QW];exact wJ)];have s4:=aa.new (o:=.dK (kB qs)) Kw;have DY:=s4 _ _ (s3 _ _ DZ);refine#[_,Z,g,CG,dx,_,Z,DY,T.cl,T.nG,by show 1<1000;decide,?_];have FO:=s3.trans s4;have D5:upd H3 dw (.dK (kB qs)) dw=some (.dK (kB qs)):=ay;have R5:dw≠g:=(bI (s3 _ _ DZ) Kw).symm;have fr4:∀{b},upd H3 dw (.dK (kB qs)) b=none->H2 b=none:=λe=>FO.free e;have dwn:H2 dw=none:=s3.free Kw;generalize upd H3 dw (.dK (kB qs))=H4 at s4 DY FO D5 fr4 ⊢;have tD:∀{b o},H4 b=some o->b≠g->upd H4 g (.ins CG dx (aB "weight_by_name" (.ref dw) (aB "web" (.ref p) []))) b=some o:=λe ne=>by rw[ax ne];exact e
  have Km:upd H4 g (.ins CG dx (aB "weight_by_name" (.ref dw) (aB "web" (.ref p) []))) g=some (.ins CG dx (aB "weight_by_name" (.ref dw) (aB "web" (.ref p) []))):=ay
  have oy:∀{b},upd H4 g (.ins CG dx (aB "weight_by_name" (.ref dw) (aB "web" (.ref p) []))) b=none->H4 b=none:=λ{b} e=>by
   by_cases z:b=g
   ·rw[z,ay] at e;cases e
   ·rw[ax z] at e;exact e
  generalize upd H4 g (.ins CG dx (aB "weight_by_name" (.ref dw) (aB "web" (.ref p) [])))=H5 at tD Km oy ⊢;have uo:∀{b o},H1 b=some o->b≠g->H5 b=some o:=λe ne=>tD (FO _ _ (up1 e ne)) ne;have Vv:Paired (λz (x:Pc × V)=>∃t,z=.ref t/\H5 t=some (.tup [.str x.1.1,.int x.1.2.1,x.2])) zs (qs.zip vs):=Paired.bo pz λz x ⟨t,e,ht⟩=>#[t,e,uo ht (bZ ht D0 nofun)];refine#[_,Z,lc,Z,#[_,.of (uo DQ F5)],λD2 ic=>?_];refine Ra (λx=>x.2) (λx=>rfl) Z (uo DQ F5) Vv mV ic λH6 eh s6 hD6 VA=>?_;refine#[D2,eh,_,Z,hD6,VA,by rw[aq];exact mV,λdy Kt=>?_];rw[show ((qs.zip vs).map λx:Pc × V=>((Sum.inr x.1.1:Key),x.2))=uj qs vs from Z,vI (by rw[_k lv];exact wJ)];have s7:=aa.new (o:=.dK (uj qs vs)) Kt;have FM:=s6.trans s7;have P0:=FM _ _ Km;refine#[_,Z,g,CG,dx,_,Z,P0,T.cl,T.nY,by show 2<1000;decide,?_];have D4:upd H6 dy (.dK (uj qs vs)) dy=some (.dK (uj qs vs)):=ay;have dyg:dy≠g:=(bI (s6 _ _ Km) Kt).symm;have dyn:H5 dy=none:=s6.free Kt;generalize upd H6 dy (.dK (uj qs vs))=H7 at s7 FM P0 D4 ⊢
  have fin:∀{b o},H1 b=some o->b≠g->upd H7 g (.ins CG dx (bF p dw dy)) b=some o:=λe ne=>by
   rw[ax ne];exact FM _ _ (uo e ne)
  have BQ:∀b xs,H1 b=some (.tup xs)->upd H7 g (.ins CG dx (bF p dw dy)) b=some (.tup xs):=λb xs e=>fin e (bZ e D0 nofun);have nH:∀{b},H1 b=none->H b=none:=λe=>s1.free e;refine k qs (g::dw::dy::(bL++vs.filterMap λv=>match v with | .ref a=>some a|_=>none)) _ (λb o e ne=>fin (s1 _ _ e) ne) #[dx,dw,dy,vs,bL,ay,?_,?_,?_,?_,by simp,by simp,by simp,λb hb=>by simp[hb],λv hv a z=>?_] Qq λb hb=>?_
  ·exact W.keep (λb hb o e=>fin (s1 _ _ e) (λz=>gw (z▸hb))) λb xs e=>BQ b xs (s1 _ _ e)
  ·rw[ax R5];exact FM _ _ (tD D5 R5)
  ·rw[ax dyg];exact D4
  ·exact Nn Ug λv hv q h=>h.keep (λa z u e=>fin e (λzz=>by
    subst zz;have:=BP v hv _ z;rw[hg] at this;cases this)) λb xs e=>BQ b xs e
  ·refine dP _ (dP _ (dP _ (mO _ (ue.mpr #[v,hv,?_]))));rw[z]
  ·simp only[bO,eK,ue] at hb;rcases hb with rfl|rfl|rfl|hb|⟨v,hv,e⟩
   ·exact .inl Z
   ·exact .inr (.inr (nH (A7 dwn)))
   ·exact .inr (.inr (nH (A7 (FO.free (oy dyn)))))
   ·exact .inr (.inl hb)
   ·cases v with
    |ref a=>
     cases e;exact .inr (.inr (BP _ hv _ Z))
    |_=>cases e
end
end Ev
namespace L2
open PySem
end L2
namespace Ev
open PySem L2
theorem eV_{kvs:List (Key × V)}{ns:List Str}(h:kvs.map (·.1)=ns.map Sum.inr)(x:Str):(br kvs (Sum.inr x)).isSome=decide (x∈ns):=by
 by_cases hx:x∈ns
 ·rw[bW hx];refine Rr ?_;rw[h];exact a_.mpr #[x,hx,Z]
 ·rw[dA hx,xB]
  ·rfl
  ·rw[h];intro m;obtain⟨y,hy,e⟩:=a_.mp m;cases e;exact hx hy
variable{q:Pc}
theorem XA{qs:List Pc}(nd:(qs.map (·.1)).Nodup)(hq:q∈qs):br (kB qs) (Sum.inr q.1)=some (.int q.2.1):=by
 obtain⟨j,hj,e⟩:=ph hq;have:=LI (ps:=qs) (cs:=qs.map λq=>V.int q.2.1) nd (by rw[aq]) (j:=j) (q:=q) (c:=.int q.2.1) (by rw[di hj,e]) (by rw[dU,di hj,e];rfl)
 have e2:((qs.zip (qs.map λq=>V.int q.2.1)).map λq=>((Sum.inr q.1.1:Key),q.2))=kB qs:=by
  unfold kB;rw[List.zip_map_right,bK]
  have:qs.zip qs=qs.map λq=>(q,q):=by
   clear nd hq this hj e j
   induction qs with
   |nil=>rfl
   |cons a l ih=>rw[List.zip_cons_cons,ih,dN]
  rw[this,bK];rfl
 rwa [e2] at this
theorem XT{qs:List Pc}{vs:List V}(nd:(qs.map (·.1)).Nodup){K:ag}{H:Hp}(h:Paired (λv (q:Pc)=>bJ K H v q.2.2) vs qs)(hq:q∈qs):∃v∈vs,br (uj qs vs) (Sum.inr q.1)=some v/\bJ K H v q.2.2:=by
 obtain⟨j,hj,e⟩:=ph hq;have hl:=bE h;have hv:j<vs.length:=by omega
 have p:=az h j hv hj;rw[e] at p;exact#[vs[j],ku hv,LI nd Z1 (by rw[di hj,e]) (di hv),p]
def tK(hs:Xa)(ts:Xb)(o:Option (Xb))(x y:Option Str):Bool:=
 zP hs ts x y&&match o,x,y with
  |none,_,_=>true
  |some ws,some a,some b=>decide (aH a b∈ws)
  |_,_,_=>false
variable{f:Addr}{fd:Ae}
section
variable{P:Ad}{w:Af}{K:ag}{mg:Str->Option Aa}{base:Heap}
theorem yg:bh ["self","thing"] ["self","thing"] (aU rn):=bu
inductive Bs (K:ag) (CG CW:Addr) (vs:List V) (H:Hp) (Q:VK) (E:XK):Prop
 |mk:∀(g p:Addr) (v:V) (x:Option Str) (hs:Xa) (ts:Xb) (qs:List Pc) (fp:List Addr),vs=[.ref g,v]->fQ K CG CW H g p hs ts qs fp->jX K H v x->Q (.bl (AR (qs.map (·.1)) x)) H->Bs K CG CW vs H Q E
theorem Yp{CG CW:Addr}(F:a9 K "has_piece" "Goods.has_piece" rn f fd)(T:dz K CG)(B:Bi mg):ai P w K mg base aR 1 f fd ["self","thing"] (Bs K CG CW):=by
 refine F.bt yg λaL A outer s H vs Q E hr h=>?_
 ·obtain⟨g,p,v,x,hs,ts,qs,fp,rfl,G,sv,k⟩:=h;have hu:=eS hr;obtain⟨dx,dw,dy,vs,bL,h1,h2,h3,h4,h5,m1,m2,m3,m4,m5⟩:=G.ex;refine#[_,aI (ba (pU (cK jW (by rfl) B.iW ja (ae (pv 1) (ae (jV (v:=.ty "str") (by rfl) B.str Bh Z) af))) (mw (Ek (Be hu (pv 1) (cX (pv 0) Z)))))),?_];cases x with
  |some x=>
   cases (show v=.str x from sv);refine#[_,Z,_,_,_,_,Z,.str x,Z,_,Z,dQ ?_];refine#[_,Z,_,Z,g,CG,dx,_,_,Z,h1,T.cl,T.nG,K9 _ _ _,dw,_,Z,.k (k:=Sum.inr x) h3,?_];rw[eV_ (QW qs)];exact k
  |none=>
   obtain⟨t,ty,e⟩:=sv;exact#[_,Z,_,_,_,_,Z,ty,e,_,Z,aM k]
theorem qK:bh ["self"] ["self"] (aU LA):=bu
inductive Mt (K:ag) (CG CW:Addr) (vs:List V) (H:Hp) (Q:VK) (E:XK):Prop
 |mk:∀(g p:Addr) (hs:Xa) (ts:Xb) (qs:List Pc) (fp:List Addr),vs=[.ref g]->fQ K CG CW H g p hs ts qs fp->(∀l,H l=none->Q (.ref l) (upd H l (.lst ((qs.map (·.1)).map V.str))))->Mt K CG CW vs H Q E
theorem gJ_{CG CW:Addr}(F:a9 K "names" "Goods.names" LA f fd)(T:dz K CG)(B:Bi mg):ai P w K mg base aR 1 f fd ["self"] (Mt K CG CW):=by
 refine F.bt qK λaL A outer s H vs Q E hr h=>?_
 ·obtain⟨g,p,hs,ts,qs,fp,rfl,G,k⟩:=h;obtain⟨dx,dw,dy,vs,bL,h1,h2,h3,h4,h5,m1,m2,m3,m4,m5⟩:=G.ex;refine#[_,aI (ba (i_ (Ma Z) (by rfl) B.list xv (ae (cX (pv 0) Z) af))),?_];refine#[_,Z,g,CG,dx,_,_,Z,h1,T.cl,T.nG,K9 _ _ _,dw,_,Z,.inl h3,λl hl=>?_]
  have e:((kB qs).map λkv=>kV kv.1)=(qs.map (·.1)).map V.str:=by
   unfold kB;rw[bK,bK];rfl
  rw[e];exact k l hl
structure Ref (K:ag) (mg:Str->Option Aa) (x:Str) (C:Addr):Prop where
 mg:mg x=some (.ref C)
 ex:PySem.W.excIn K C [.type "ValueError",.type "Exception",.type "BaseException",.type "object"] "ValueError.__new__"=true
theorem oP:bh ["self","piece"] ["self","piece"] (aU Nb):=bu
inductive Am (K:ag) (CG CW CP:Addr) (vs:List V) (H:Hp) (Q:VK) (E:XK):Prop
 |mk:∀(g p:Addr) (v:V) (x:Option Str) (hs:Xa) (ts:Xb) (qs:List Pc) (fp:List Addr),vs=[.ref g,v]->fQ K CG CW H g p hs ts qs fp->(qs.map (·.1)).Nodup->jX K H v x->((∃q∈qs,x=some q.1/\Q (.int q.2.1) H)∨False)->Am K CG CW CP vs H Q E
theorem g0_{CG CW CP:Addr}(F:a9 K "weight" "Goods.weight" Nb f fd)(T:dz K CG)(cH:bb P w K mg base CG 1 "has_piece" ["self","thing"] (Bs K CG CW)):ai P w K mg base aR 2 f fd ["self","piece"] (Am K CG CW CP):=by
 refine F.bt oP λaL A outer s H vs Q E hr h=>?_
 ·obtain⟨g,p,v,x,hs,ts,qs,fp,rfl,G,nd,sv,k⟩:=h;have hu:=eS hr;obtain⟨dx,dw,dy,vs,bL,h1,h2,h3,h4,h5,m1,m2,m3,m4,m5⟩:=id G.ex;have j_:(bF p dw dy).lookup ("has_piece":Str)=none:=pV _ _ _ Z0 Z0 Z0;refine#[_,au (bC (eI (dZ (eG cH T.cl hr (pv 0) (ae (pv 1) af)))) cq bD) (aI (ba (eU hu (cX (pv 0) Z) (pv 1) (λ_ _=>rfl)))),?_];refine#[_,Z,g,dx,_,Z,h1,j_,_,Z,g,p,v,x,hs,ts,qs,fp,Z,G,sv,_,Z,?_];rcases k with⟨q,hq,rfl,k⟩|k
  ·cases (show v=.str q.1 from sv);rw[show AR (qs.map (·.1)) (some q.1)=true from bW (a_.mpr #[q,hq,Z])];refine aM ?_;refine#[_,Z,g,CG,dx,_,_,Z,h1,T.cl,T.nG,K9 _ _ _,_,Z,dw,_,Z,?_,k];rw[<- XA nd hq];exact .k (k:=Sum.inr q.1) h3
  ·exact k.elim
theorem qL:bh ["self","piece","one","other","ties"] ["self","piece","one","other"] (aU rj):=bu
inductive Es (K:ag) (CG CW CP:Addr) (vs:List V) (H:Hp) (Q:VK) (E:XK):Prop
 |mk:∀(g p:Addr) (v u1 u2:V) (x y1 y2:Option Str) (hs:Xa) (ts:Xb) (qs:List Pc) (fp:List Addr),vs=[.ref g,v,u1,u2]->fQ K CG CW H g p hs ts qs fp->(qs.map (·.1)).Nodup->(aA hs).Nodup->jX K H v x->((∃q∈qs,x=some q.1/\jX K H u1 y1/\jX K H u2 y2/\∀H',aa H H'->Q (.bl (tK hs ts q.2.2 y1 y2)) H')∨False)->Es K CG CW CP vs H Q E
theorem X9{CG CW CP:Addr}(F:a9 K "may_go" "Goods.may_go" rj f fd)(T:dz K CG)(TW:Txt K mg CW)(cH:bb P w K mg base CG 1 "has_piece" ["self","thing"] (Bs K CG CW))(cT:bb P w K mg base CW 2 "are_tied" ["self","one","other"] (EB K CW))(cL:bj P w K mg base 1 "lesser_first" ["one","other"] G6) :
  ai P w K mg base aR 3 f fd ["self","piece","one","other"] (Es K CG CW CP):=by
 refine F.bt qL λaL A outer s H vs Q E hr h=>?_
 ·obtain⟨g,p,v,u1,u2,x,y1,y2,hs,ts,qs,fp,rfl,G,nd,iB,sv,k⟩:=h;have hu:=eS hr;have dS:aD 1 _:=hr.mono (by decide);obtain⟨dx,dw,dy,vs,bL,h1,h2,h3,h4,h5,m1,m2,m3,m4,m5⟩:=id G.ex;have j_:(bF p dw dy).lookup ("has_piece":Str)=none:=pV _ _ _ Z0 Z0 Z0;obtain⟨eL,d1,l2,d3,jb,as,ef,w1,_⟩:=id h2.ex;have fW:(bQ d1 l2 d3).lookup ("are_tied":Str)=none:=ik _ _ _ Z0 Z0 Z0
  refine#[_,au (bC (eI (dZ (eG cH T.cl dS (pv 0) (ae (pv 1) af)))) cq bD)
   (au (bC (eI (dZ (eG cT TW.cl hr (cX (pv 0) Z) (ae (pv 2) (ae (pv 3) af))))) (aI (ba xf)) bD)
   (au (bg 4 qL.nd (eU hu (cX (pv 0) Z) (pv 1) (λ_ _=>rfl)))
   (aI (ba (A9 (Ek (Gv (pv 4))) (mw (iQ (El (vv eQ eQ) (pP hr _)) (aX cL dS (ae (pv 2) (ae (pv 3) af))) (pv 4) (by with_unfolding_all rfl)))))))),?_]
  refine#[_,Z,g,dx,_,Z,h1,j_,_,Z,g,p,v,x,hs,ts,qs,fp,Z,G,sv,_,Z,?_];rcases k with⟨q,hq,rfl,s1,s2,k⟩|k
  ·cases (show v=.str q.1 from sv);rw[show AR (qs.map (·.1)) (some q.1)=true from bW (a_.mpr #[q,hq,Z])];refine aM ?_;refine#[_,Z,g,CG,dx,_,_,Z,h1,T.cl,T.nW,mG _ _ _,p,eL,_,Z,w1,fW,_,Z,_,Z,p,u1,u2,y1,y2,hs,ts,bL,Z,h2,iB,s1,s2,_,Z,?_];cases tb:zP hs ts y1 y2 with
   |false=>
    refine dQ ?_;have:=k H (aa.refl H);unfold tK at this;rw[tb,Bool.false_and] at this;exact this
   |true=>
    refine aM ?_;obtain⟨u,AS,eu,wy⟩:=XT nd h5 hq;refine#[_,Z,g,CG,dx,_,_,Z,h1,T.cl,T.nY,X4 _ _ _,_,Z,dy,u,Z,?_,?_]
    ·rw[<- eu];exact .k (k:=Sum.inr q.1) h4
    ·refine#[_,Z,_,Z,?_];unfold tK at k;rw[tb] at k;cases e:q.2.2 with
     |none=>
      rw[e] at wy k;cases (show u=.non from wy);exact dQ (k H (aa.refl H))
     |some ws=>
      rw[e] at wy k;obtain⟨a,ys,rfl,ha,tu⟩:=wy;cases y1 with
      |none=>cases tb
      |some a1=>
       cases y2 with
       |none=>cases tb
       |some a2=>
        cases (show u1=.str a1 from s1);cases (show u2=.str a2 from s2);refine aM #[_,Z,_,Z,a1,a2,Z,λt ht=>?_];have s3:aa H (upd H t (.tup [.str (aH a1 a2).1,.str (aH a1 a2).2])):=aa.new ht;refine#[_,Z,aH a1 a2,ws,#[t,_,_,Z,.of ay,Z,Z],#[a,ys,Z,.of (s3 _ _ ha),ES (tu.same s3)],?_];have z:=k _ s3;rw[Bool.true_and] at z;rw[ao fZ];show Q (.bl _) _;have z:Q (.bl (decide (aH a1 a2∈ws))) (upd H t (.tup [.str (aH a1 a2).1,.str (aH a1 a2).2])):=z;generalize upd H t (.tup [.str (aH a1 a2).1,.str (aH a1 a2).2])=Hz at z ⊢;by_cases hm:aH a1 a2∈ws
        ·simpa [hm] using z
        ·simpa [hm] using z
  ·exact k.elim
end
end Ev
namespace L2
open PySem PySem.Spec PyProof.Rows PySem.W
variable{P:Ad}{w:Af}
theorem Qy{k:Key}{key:Aa}(h:(dX P w).is k key=true):RelV (kV k) key:=by
 have e2:vx k key=true:=h;rcases pX e2 with⟨i,t,rfl,rfl⟩|⟨x,t,rfl,rfl⟩
 ·exact#[t,Z]
 ·exact#[t,Z]
def Itm(d:Addr)(o:Obj)(kvs:List (Key × V)):It:=#[λi H=>H d=some (.frz o (.dK kvs))/\i<kvs.length,λi H y H'=>∃t k x,y=.ref t/\H t=none/\kvs[i]? = some (k,x)/\H'=upd H t (.tup [kV k,x]),λi H=>H d=some (.frz o (.dK kvs))/\kvs.length<=i]
variable{K:ag}{elts:List Expr}{ep kk:Nat}{es:Array DictEntry}
theorem g5_{pos:Pos}(d it:Addr)(o:Obj)(kvs:List (Key × V))(ho:o.data=.dict es ep):Turn P w K (.Tuple elts kk pos) (Itm d o kvs) [it] it (λi h=>∃ok ov,IsItemIter h it d i kvs.length ep ok ov) where
 mem:=by simp
 obj:=λi h st b hb=>by
  obtain rfl:b=it:=by simpa using hb
  obtain⟨ok,ov,q⟩:=st;exact#[_,q,λv z=>by cases z]
 keep:=λi h h' st k=>by
  obtain⟨ok,ov,q⟩:=st;exact#[ok,ov,k it Z2 _ q]
 item:=by
  intro X hP hw hK hc i pins s σ H E I hf st hg;subst hP hw hK;obtain⟨hd,hi⟩:=hg;obtain⟨vs,rel,dat⟩:=Bw I hd ho;obtain⟨⟨k,x⟩,hx⟩:∃p,kvs[i]? = some p:=#[kvs[i],by simp[hi]];obtain⟨u,hu,ru⟩:=JY rel i hx;obtain⟨ok,ov,st⟩:=st;have ZT:it<s.heap.objs.size:=bN st;rw[rel.length] at st;refine wpAny_pyNext_items_item st dat hu λkey h' hk out ht sz kp=>?_;refine#[_,Z,wpAny_letOwnedTupleGo_items (s:={ s with heap:=h' }) out λh2 d_ sb=>?_];have nT:s.heap.objs.size≠it:=pY ZT;have I1:Inv X pins σ (upd H s.heap.objs.size (.tup [kV k,x])) { s with heap:=h2 }:=I.mX (t':=s.toks) (fp:=[it]) (its:=[key,u]) (λb o hb q=>(sb.2 b (by simpa using hb)).trans (kp b o (by simpa using hb) q)) hf (aZ _) (by show 2<=sizeLine;decide) (.cons (Qy hk) (.cons ru .nil)) #[#[_,(sb.2 _ nT).trans ht,Z,_,Z],_,(sb.2 _ nT).trans ht,Z];refine#[.ref _,_,I1,Z,#[_,k,x,Z,I.aF.fresh (aZ _),hx,Z],#[_,_,by rw[rel.length];exact d_],λb hb=>?_];have e:b=it:=by simpa using hb
  rw[ax (λz=>nT (z.symm.trans e))];exact (hf b hb).1
 done:=by
  intro X hP hw hK hc i pins s σ H E I hf st hg;subst hP hw hK;obtain⟨hd,hi⟩:=hg;obtain⟨vs,rel,dat⟩:=Bw I hd ho;obtain⟨f0,f1,f2,f3,f4,f5⟩:=hf it Z2;obtain⟨ok,ov,st⟩:=st;rw[rel.length] at st hi;exact wpAny_pyNext_items_end (I.ok.hd hc) st dat (by simp;omega) λh' eb=>#[Z,I.turned (t':=s.toks) (λb o hb e=>eb b o hb e) f0 f1 f3 f4 f5]
 self:=λA i s Q E st h=>by
  obtain⟨ok,ov,q⟩:=st;exact kcp_self q h
inductive og (R:It->Hp->Prop) (x:V) (H1:Hp):Prop
 |mk:∀v d kvs,x=.ref v->H1 v=some (sT v d)->H1 d=some (.dK kvs)->(∀o,R (Itm d o kvs) (upd H1 d (.frz o (.dK kvs))))->og R x H1
def yS(tv:TE):TI:=λσ H R=>tv σ H λx H1=>og R x H1
variable{X:Cx}{e:Expr}{tv:TE}
theorem Lo{p2:Pos}(he:PE X e tv):PI X (.Tuple elts kk p2) e (yS tv):=by
 intro pins s σ H R I h;refine aJ (he pins s σ H _ I h) λu s1 ⟨x,H1,I1,r1,v,d,kvs,ex,hv,hd,q⟩=>?_;subst ex;cases r1;obtain⟨iv,_,_⟩:=I1.aF v _ hv;obtain⟨o,ho,I2⟩:=I1.freeze hd;obtain⟨z,_,vs,rel,o',es,ep,eZ,c',dt,r⟩:=xi I1.aF hd;rw[ho] at eZ;cases eZ;refine wpAny_pyIter_items (knd:=dX X.prog X.w) (kvs:=vs) (ep:=ep) iv #[o,es,ho,c',dt,r] ?_;refine#[s1.heap.objs.size,[s1.heap.objs.size],_,_,_,Z,I2.kept (t':=s1.toks) λb o e=>bH _ e,g5_ d _ o kvs dt,?_,λb hb=>?_,q o]
 ·rw[rel.length];exact#[.none,.none,dI _ Z]
 ·obtain rfl:b=s1.heap.objs.size:=by simpa using hb
  exact I2.hJ (aZ _) (I2.aF.fresh (aZ _))
variable{d:Addr}{o:Obj}{kvs:List (Key × V)}{g:TG}
theorem MK{tb:TS}{D:Ends}{σ:St}{H:Hp}(Pv:Nat->St->Hp->Prop)(h0:Pv 0 σ H)(hl:∀i σ H,i<=kvs.length->Pv i σ H->H d=some (.frz o (.dK kvs)))(hs:∀i k x σ H,kvs[i]? = some (k,x)->Pv i σ H->∀t,H t=none->g (.ref t) σ (upd H t (.tup [kV k,x])) λfC H2=>tb { D with nx:=Pv (i+1),ct:=Pv (i+1),bk:=D.nx } fC H2)(hd:∀σ H,Pv kvs.length σ H->D.nx σ H) :
  ∃W:Nat->Nat->St->Hp->Prop,(∃m,W 0 m σ H)/\∀i m σ H,W i m σ H->
   ((Itm d o kvs).stop i H/\D.nx σ H)∨((Itm d o kvs).go i H/\∃N:St->Hp->Prop,(∀bf H',N bf H'->∃m',m'<m/\W (i+1) m' bf H')/\∀x H',(Itm d o kvs).ui i H x H'->g x σ H' λfC H2=>tb { D with nx:=N,ct:=N,bk:=D.nx } fC H2):=by
 refine#[λi m σ H=>m=kvs.length - i/\i<=kvs.length/\Pv i σ H,#[kvs.length,by simp,fB _,h0],?_];rintro i m σ H ⟨rfl,hi,p⟩;have q:=hl i σ H hi p;by_cases cb:i<kvs.length
 ·refine .inr #[#[q,cb],Pv (i+1),λbf H' p'=>#[kvs.length - (i+1),by omega,Z,cb,p'],λx H' y=>?_];obtain⟨t,k,x,rfl,ht,hx,rfl⟩:=y;exact hs i k x σ H hx p t ht
 ·have e:i=kvs.length:=by omega
  subst e;exact .inl #[#[q,aZ _],hd σ H p]
def BL(d:Addr)(o:Obj)(kvs:List (Key × V)):It:=#[λi H=>H d=some (.frz o (.dK kvs))/\i<kvs.length,λi H y H'=>H'=H/\∃k x,kvs[i]? = some (k,x)/\y=kV k,λi H=>H d=some (.frz o (.dK kvs))/\kvs.length<=i]
variable{tg:Expr}
theorem gK_(d it:Addr)(o:Obj)(kvs:List (Key × V))(ho:o.data=.dict es ep):Turn P w K tg (BL d o kvs) [it] it (λi h=>h.IsKeyIter it d i kvs.length ep) where
 mem:=by simp
 obj:=λi h st b hb=>by
  obtain rfl:b=it:=by simpa using hb
  obtain⟨o,e,c,d⟩:=st;exact#[o,e,λv z=>by rw[d] at z;cases z]
 keep:=λi h h' st k=>st.at λo e=>k it Z2 o e
 item:=by
  intro X hP hw hK hc i pins s σ H E I hf st hg;subst hP hw hK;obtain⟨hd,hi⟩:=hg;obtain⟨vs,rel,dat⟩:=Bw I hd ho;obtain⟨⟨k,x⟩,hx⟩:∃p,kvs[i]? = some p:=#[kvs[i],by simp[hi]];obtain⟨u,hu,ru⟩:=JY rel i hx;obtain⟨f0,f1,f2,f3,f4,f5⟩:=hf it Z2;rw[rel.length] at st;refine wpAny_pyNext_dict_item st dat hu λkey h' hk dY sb=>?_;have I1:Inv X pins σ H { s with heap:=h' }:=I.turned (t':=s.toks) (λb o hb e=>(sb.2 b hb).trans e) f0 f1 f3 f4 f5;obtain⟨o',e,c,dd⟩:=id dY;refine#[key,Z,zI (s:={ s with heap:=h' }) e c dd (by decide) #[kV k,H,I1,Qy hk,#[Z,k,x,hx,Z],?_,λb hb=>(hf b hb).1]];show h'.IsKeyIter it d (i+1) kvs.length ep;rw[rel.length];exact dY
 done:=by
  intro X hP hw hK hc i pins s σ H E I hf st hg;subst hP hw hK;obtain⟨hd,hi⟩:=hg;obtain⟨vs,rel,dat⟩:=Bw I hd ho;obtain⟨f0,f1,f2,f3,f4,f5⟩:=hf it Z2;rw[rel.length] at st hi;exact wpAny_pyNext_dict_end (I.ok.hd hc) st dat (by simp;omega) λh' eb=>#[Z,I.turned (t':=s.toks) (λb o hb e=>eb b o hb e) f0 f1 f3 f4 f5]
 self:=λ_ _ _ _ _ st h=>wpAny_pyIter_keyiter st h
inductive r9 (R:It->Hp->Prop) (x:V) (H1:Hp):Prop
 |mk:∀d kvs,x=.ref d->H1 d=some (.dK kvs)->(∀o,R (BL d o kvs) (upd H1 d (.frz o (.dK kvs))))->r9 R x H1
def Dq(tv:TE):TI:=λσ H R=>tv σ H λx H1=>r9 R x H1
theorem Pt(he:PE X e tv):PI X tg e (Dq tv):=by
 intro pins s σ H R I h;refine aJ (he pins s σ H _ I h) λu s1 ⟨x,H1,I1,r1,d,kvs,ex,hd,q⟩=>?_;subst ex;cases r1;obtain⟨o,ho,I2⟩:=I1.freeze hd;obtain⟨z,jC,vs,rel,o',es,ep,eZ,c',dt,r⟩:=xi I1.aF hd;rw[ho] at eZ;cases eZ;refine wpAny_pyIter_dict (knd:=dX X.prog X.w) (kvs:=vs) (ep:=ep) jC #[o,es,ho,c',dt,r] ?_;refine#[s1.heap.objs.size,[s1.heap.objs.size],_,_,_,Z,I2.kept (t':=s1.toks) λb o e=>bH _ e,gK_ d _ o kvs dt,?_,λb hb=>?_,q o]
 ·rw[rel.length];exact#[_,dI _ Z,Z,Z]
 ·obtain rfl:b=s1.heap.objs.size:=by simpa using hb
  exact I2.hJ (aZ _) (I2.aF.fresh (aZ _))
theorem hh_{tc:TT}{te:TE}{own:Nat}{fv:List (Option V)}{dec:V->Hp->List (Option V)->Prop}{D:Addr}{H:Hp}{Q:VK}{kA:St}(se:kA=List.replicate own none++fv)(G:AD g own fv dec)(Pv:Nat->List V->Hp->Prop)(h0:Pv 0 [] (upd H D (.lst [])))(hl:∀i out H',i<=kvs.length->Pv i out H'->H' d=some (.frz o (.dK kvs)))(hd:∀out H',Pv kvs.length out H'->Q (.ref D) H')(zo:∀i k x out H',kvs[i]? = some (k,x)->Pv i out H'->∃o3,dec (kV k) H' o3/\o3.length=own/\∀Nx:Hp->Prop,(∀iA H2,Pv (i+1) iA H2->Nx H2)->
   tc (o3++fv) H' λb H4=>if b=true then te (o3++fv) H4 λy H5=>∃eh,H5 D=some (.lst eh)/\eh.length<sizeLine/\Nx (upd H5 D (.lst (eh++[y]))) else Nx H4) :
  zU (BL d o kvs) g tc te kA D H Q:=by
 refine xw se G kvs.length Pv h0 (λout H' p=>#[#[hl _ _ _ (aZ _) p,aZ _],hd out H' p]) λi out H' hi p=>?_;have q:=hl i out H' (Nat.le_of_lt hi) p;refine#[#[q,hi],λx H2 y=>?_];obtain⟨e,k,v,hx,rfl⟩:=y;subst e;exact zo i k v out _ hx p
inductive qa (t:TS) (D:Ends) (σ:St) (H:Hp):Prop
 |mk:∀d kvs,H d=some (.dK kvs)->t { nx:=λmU H1=>∃o,H1 d=some (.frz o (.dK kvs))/\D.nx mU (upd H1 d (.dK kvs)),rt:=λv H1=>∃o,H1 d=some (.frz o (.dK kvs))/\D.rt v (upd H1 d (.dK kvs)) } σ H->qa t D σ H
theorem GJ{st:Stmt}{t:TS}(h:PS X st t):PS X st (qa t):=by
 intro pins s σ H D I q;obtain⟨d,kvs,hd,q⟩:=q
 have nf:∀o u,X.j1 d≠some (.frz o u):=λo u z=>by
  have:=I.base.fX _ _ _ z;rw[hd] at this;cases this
 refine aJ (h pins s σ H _ I q) λf s' p=>?_;cases f with
 |next=>
  obtain⟨mU,H1,I1,o,hf,q1⟩:=p;exact#[mU,_,I1.kC hf nf,q1]
 |brk=>
  obtain⟨mU,H1,I1,q1⟩:=p;exact False.elim q1
 |cont=>
  obtain⟨mU,H1,I1,q1⟩:=p;exact False.elim q1
 |ret u=>
  obtain⟨v,mU,H1,I1,r,o,hf,q1⟩:=p;exact#[v,mU,_,I1.kC hf nf,r,q1]
end L2
namespace Ev
open PySem L2
structure Fz (d:Addr) (o:Obj) (kvs:List (Key × V)) (H H':Hp):Prop where
 at_:H' d=some (.frz o (.dK kvs))
 sm:∀b u,b≠d->H b=some u->H' b=some u
section
variable{d:Addr}{o:Obj}{kvs:List (Key × V)}{H H' H2:Hp}
theorem Fz.start:Fz d o kvs H (upd H d (.frz o (.dK kvs))):=#[ay,λb u ne e=>by rw[ax ne];exact e]
theorem Fz.step(f:Fz d o kvs H H')(s:aa H' H2):Fz d o kvs H H2:=#[s _ _ f.at_,λb u ne e=>s _ _ (f.sm b u ne e)]
theorem Fz.kC(f:Fz d o kvs H H')(hd:H d=some (.dK kvs)):aa H (upd H' d (.dK kvs)):=λb u e=>by
 by_cases z:b=d
 ·subst z;rw[hd] at e;cases e;exact ay
 ·rw[ax z];exact f.sm b u z e
theorem Fz.xb{K:ag}{CG CW g p:Addr}{hs:Xa}{ts:Xb}{qs:List Pc}{fp:List Addr}(f:Fz d o kvs H H')(hd:H d=some (.dK kvs))(G:fQ K CG CW H g p hs ts qs fp)(nd:d∉fp):fQ K CG CW H' g p hs ts qs fp:=
 G.keep (λb hb u e=>f.sm b u (λz=>nd (z▸hb)) e) λb xs e=>f.sm b _ (bZ e hd nofun) e
end
def bq(ns:List Str)(g:Str->V):List (Key × V):=ns.map λn=>(Sum.inr n,g n)
theorem EF(ns:List Str)(g:Str->V):(bq ns g).map (·.1)=ns.map Sum.inr:=by
 unfold bq;rw[bK];rfl
theorem fP(ns:List Str)(g:Str->V):(bq ns g).length=ns.length:=aq _
variable{n:Str}
theorem Ar{ns:List Str}{g:Str->V}(h:n∈ns):br (bq ns g) (Sum.inr n)=some (g n):=by
 induction ns with
 |nil=>cases h
 |cons m ns ih=>
  by_cases e:m=n
  ·subst e;exact Ak Z
  ·have:br (bq (m::ns) g) (Sum.inr n)=br (bq ns g) (Sum.inr n):=Aj λz=>e (hU z);rw[this];rcases bO.mp h with z|z
   ·exact absurd z.symm e
   ·exact ih z
theorem Bu{ns:List Str}{g k:Str->V}(h:∀n∈ns,g n=k n):bq ns g=bq ns k:=pA λn hn=>by rw[h n hn]
variable{v:V}
theorem K7{ns:List Str}{g:Str->V}(h:n∈ns):putK (bq ns g) (Sum.inr n) v=bq ns λm=>if m=n then v else g m:=by
 unfold putK;rw[aC]
 ·unfold bq;rw[bK];refine pA λm _=>?_;by_cases e:m=n
  ·subst e;simp
  ·have:¬((Sum.inr m:Key)=Sum.inr n):=λz=>e (hU z);simp[e]
 ·refine List.any_eq_true.mpr #[(Sum.inr n,g n),a_.mpr #[n,h,Z],by simp]
theorem GF{ns:List Str}{g:Str->V}(h:n∉ns):putK (bq ns g) (Sum.inr n) v=bq (ns++[n]) λm=>if m=n then v else g m:=by
 rw[BA _ (xB (by
  rw[EF];intro m;obtain⟨x,hx,e⟩:=a_.mp m;exact h (hU e▸hx)))]
 unfold bq;rw[bX];congr 1
 ·refine pA λm hm=>?_;have e:¬m=n:=λz=>h (z▸hm);simp[e]
 ·simp
variable{i:Nat}
theorem Ey{ns:List Str}{g:Str->V}{k:Key}{x:V}(h:(bq ns g)[i]? = some (k,x)):∃n,ns[i]? = some n/\k=Sum.inr n/\x=g n:=by
 unfold bq at h;rw[dU] at h;cases e:ns[i]? with
 |none=>rw[e] at h;cases h
 |some n=>
  rw[e] at h;have h:=dW h;exact#[n,Z,(dF Prod.fst h).symm,(dF Prod.snd h).symm]
theorem EW{ns:List Str}(nd:ns.Nodup)(h:ns[i]? = some n):n∉ns.take i:=by
 have q:=Bx (g:=id) (ts:=ns) (by rw[List.map_id];exact nd) h;rwa [List.map_id] at q
theorem gi{ns:List Str}(h:ns[i]? = some n):ns.take (i+1)=ns.take i++[n]:=by
 rw[hV,h];rfl
abbrev dE(ns:List Str)(f:Str->Str):List (Key × V):=bq ns λn=>.str (f n)
def fu(q:Pc):Str × Int:=(q.1,q.2.1)
def ld(f:Str->Str)(ws:Xa)(h:Str):Int:=((ws.filter λx=>decide (f x.1=h)).map (·.2)).sum
theorem QE(f:Str->Str)(ws:Xa)(x:Str × Int)(h:Str):ld f (ws++[x]) h=if h=f x.1 then ld f ws h+x.2 else ld f ws h:=by
 unfold ld;rw[List.filter_append];by_cases e:f x.1=h
 ·rw[aC e.symm,bX,List.sum_append];simp[e]
 ·rw[ao λz=>e z.symm];simp[e]
theorem _h{a b:List Int}(p:a.Perm b):a.sum=b.sum:=by
 induction p with
 |nil=>rfl
 |cons x _ ih=>simp[ih]
 |swap x y l=>simp only[List.sum_cons];omega
 |trans _ _ h1 h2=>exact h1.trans h2
theorem Yd(f:Str->Str){a b:Xa}(p:a.Perm b)(h:Str):ld f a h=ld f b h:=_h ((p.filter _).map _)
theorem Qp:∀{l:List Int},(∀x∈l,0<=x)->0<=l.sum
 |[],_=>by simp
 |x::l,h=>by
  rw[List.sum_cons];have:=h x dO;have:=Qp (l:=l) λy hy=>h y (dP _ hy);omega
theorem XM{f:Str->Str}{ws:Xa}{h:Str}(p:∀x∈ws,0<=x.2):0<=ld f ws h:=Qp λx hx=>by
 obtain⟨y,hy,rfl⟩:=a_.mp hx;exact p y (List.mem_filter.mp hy).1
variable{ps:List Pc}
theorem Qs.nd{qs:List Pc}(Q:Qs ps qs)(nd:(ps.map (·.1)).Nodup):(qs.map (·.1)).Nodup:=by
 rw[Q.pG];exact (mI _).nodup_iff.mpr nd
theorem Qs.len{qs:List Pc}(Q:Qs ps qs):qs.length=ps.length:=by
 have:=dF List.length Q.pG;rw[aq,(mI _).length_eq,aq] at this;exact this
theorem Qs.ws{qs:List Pc}(Q:Qs ps qs)(nd:(ps.map (·.1)).Nodup):(qs.map fu).Perm (ps.map fu):=by
 have nw:∀{l:List Pc},(l.map (·.1)).Nodup->(l.map fu).Nodup:=λ{l} h=>by
  have e:(l.map (·.1))=(l.map fu).map (·.1):=by rw[bK];rfl
  rw[e] at h;exact (mM.mp h).imp λn z=>n (by rw[z])
 refine (List.perm_ext_iff_of_nodup (nw (Q.nd nd)) (nw nd)).mpr λa=>#[λh=>?_,λh=>?_]
 ·obtain⟨q,hq,rfl⟩:=a_.mp h;obtain⟨p,hp,rfl⟩:=Q.mem q hq;exact a_.mpr #[p,hp,Z]
 ·obtain⟨p,hp,rfl⟩:=a_.mp h
  have m:p.1∈qs.map (·.1):=by
   rw[Q.pG];exact (mI _).mem_iff.mpr (a_.mpr #[p,hp,Z])
  obtain⟨q,hq,e⟩:=a_.mp m;obtain⟨p',hp',e'⟩:=Q.mem q hq;have:p'=p:=MT nd hp' hp (by rw[e'] at e;exact e);refine a_.mpr #[q,hq,?_];rw[e',this];rfl
variable{fd:Ae}
section
variable{P:Ad}{w:Af}{K:ag}{mg:Str->Option Aa}{base:Heap}
structure oH (hs:Xa) (qs:List Pc) (ns:List Str) (f:Str->Str):Prop where
 perm:ns.Perm (qs.map (·.1))
 at_:∀n∈ns,f n∈hs.map (·.1)
theorem G_:bh ["goods","stand","piece","hand","names"] ["goods","stand"] (aU Lm):=bu
inductive Fc (K:ag) (CG CW:Addr) (vs:List V) (H:Hp) (Q:VK) (E:XK):Prop
 |mk:∀(g p d:Addr) (hs:Xa) (ts:Xb) (qs:List Pc) (fp:List Addr) (ns:List Str) (f:Str->Str),vs=[.ref g,.ref d]->fQ K CG CW H g p hs ts qs fp->d∉fp->H d=some (.dK (dE ns f))->oH hs qs ns f->(qs.map (·.1)).Nodup->qs.length<64->(∀d' H',aa H H'->H d'=none->H' d'=some (.dK (dE (qs.map (·.1)) f))->Q (.ref d') H')->Fc K CG CW vs H Q E
theorem hp_{f CG CW:Addr}(F:a9 K "checked_stand" "checked_stand" Lm f fd)(B:Bi mg)(T:dz K CG)(TW:Txt K mg CW)(cH:bb P w K mg base CG 1 "has_piece" ["self","thing"] (Bs K CG CW))(cW:bb P w K mg base CW 1 "has_hand" ["self","thing"] (ji K CW))(cN:bb P w K mg base CG 1 "names" ["self"] (Mt K CG CW)) :
  ai P w K mg base aR 2 f fd ["goods","stand"] (Fc K CG CW):=by
 refine F.bt G_ λaL A outer s H vs Q E hr h=>?_
 ·obtain⟨g,p,d,hs,ts,qs,fp,ns,f,rfl,G,oz,hd,so,nd,cg,k⟩:=h;have hu:=eS hr;have sz:=bU;refine' #[_,?r0,?kk]
  case' r0=>refine' au ?s1 ?r1
  case s1=>exact bC (eI (dZ (cK jW (by rfl) B.iW ja (ae (pv 1) (ae (jV (v:=.ty "dict") (by rfl) B.dict sU Z) af))))) cq bD
  case' r1=>refine' au ?s2 ?r2
  case' s2=>refine' GJ (eV eM Z ?i2 ?g2 ?b2)
  case i2=>exact Lo (GZ (pv 1))
  case g2=>exact jO Z (bY (bV 2 G_.nd) (bY (bV 3 G_.nd) gR))
  case b2=>exact au (bC (eI (dZ (eG cH T.cl hr (pv 0) (ae (pv 2) af)))) cq bD) (aI (bC (eI (dZ (eG cW TW.cl hr (cX (pv 0) Z) (ae (pv 3) af)))) cq bD))
  case' r2=>refine' au ?s3 ?r3
  case s3=>exact bg 4 G_.nd (xm cN T.cl hr (pv 0))
  case' r3=>refine' au ?s4 (aI ?s5)
  case s4=>exact bC (cU oA (cK _O (by rfl) B.len gP (ae (pv 1) af)) (cK jU (by rfl) B.len gP (ae (pv 4) af)) (ak _)) cq bD
  case s5=>exact ba (i_ (vK Z) (by rfl) B.dict sU (ae (iP ["piece","stand"] 1 [1] (dH (pv 4)) (λfp s H=>fq 0) (λfp s H=>gT) (λfp s H=>fA (ae (pv 0) (ae (eU hu (pv 1) (pv 0) (λ_ _=>rfl)) af)))) af))
  case' kk=>skip
  have Xi:ns.length=qs.length:=by rw[so.perm.length_eq,aq]
  refine#[_,Z,_,_,_,_,Z,.dK hd,Z,_,Z,aM ?_];refine#[d,_,hd,?_];refine#[_,Z,d,_,Z,hd,λv hv=>?_];obtain⟨s1,sf⟩:=aO (o:=sT v d) hv;have G1:=G.same s1;have g_:=s1 _ _ hd;generalize upd H v (sT v d)=H1 at s1 sf G1 g_ ⊢;refine#[v,d,_,Z,sf,g_,λo=>?_];refine MK (λi σ H'=>∃(v2 v3:Option V),σ=[some (.ref g),some (.ref d),v2,v3,none]/\Fz d o (dE ns f) H1 H') #[none,none,Z,Fz.start] (λi σ H' _ ⟨_,_,_,z⟩=>z.at_) ?_ ?_
  ·rintro i ky x σ H2 hx ⟨v2,v3,rfl,fz⟩ t ht;obtain⟨n,hn,rfl,rfl⟩:=Ey hx;have nm:=cn hn;have s2:=aa.new (o:=.tup [.str n,.str (f n)]) ht;have zA:=fz.step s2;have e2:upd H2 t (.tup [.str n,.str (f n)]) t=some (.tup [.str n,.str (f n)]):=ay;show hE _ _ _ _ _ (upd H2 t (.tup [.str n,.str (f n)])) _;generalize upd H2 t (.tup [.str n,.str (f n)])=H3 at s2 zA e2 ⊢;refine#[t,_,Z,.of e2,Z,_,_,Z,_,_,Z,Z,?_];have G3:=zA.xb g_ G1 oz;obtain⟨dx,dw,dy,vs,bL,h1,h2,h3,h4,h5,m1,m2,m3,m4,m5⟩:=id G3.ex;obtain⟨eL,d1,l2,d3,jb,as,ef,w1,_⟩:=id h2.ex;have j_:(bF p dw dy).lookup ("has_piece":Str)=none:=pV _ _ _ Z0 Z0 Z0;have fW:(bQ d1 l2 d3).lookup ("has_hand":Str)=none:=ik _ _ _ Z0 Z0 Z0;refine#[_,Z,g,dx,_,Z,h1,j_,_,Z,g,p,.str n,some n,hs,ts,qs,fp,Z,G3,Z,_,Z,?_];rw[show AR (qs.map (·.1)) (some n)=true from bW (so.perm.mem_iff.mp nm)];refine aM ?_;refine#[_,Z,g,CG,dx,_,_,Z,h1,T.cl,T.nW,mG _ _ _,p,eL,_,Z,w1,fW,_,Z,p,f n,hs,ts,bL,Z,h2,_,Z,?_];rw[bW (so.at_ n nm)];exact aM #[_,_,Z,zA]
  rintro σ H2 ⟨v2,v3,rfl,fz⟩;refine#[o,fz.at_,?_];have s2:=s1.trans (fz.kC g_);have hd2:upd H2 d (.dK (dE ns f)) d=some (.dK (dE ns f)):=ay;generalize upd H2 d (.dK (dE ns f))=H3 at s2 hd2 ⊢;have G3:=G.same s2;obtain⟨dx,dw,dy,vs,bL,h1,h2,h3,h4,h5,m1,m2,m3,m4,m5⟩:=id G3.ex;refine#[_,Z,g,dx,_,Z,h1,pV _ _ _ Z0 Z0 Z0,g,p,hs,ts,qs,fp,Z,G3,λln wY=>?_];obtain⟨s3,e3⟩:=aO (o:=.lst ((qs.map (·.1)).map V.str)) wY;have g9:=s3 _ _ hd2;generalize upd H3 ln (.lst ((qs.map (·.1)).map V.str))=H4 at s3 e3 g9 ⊢;refine#[_,Z,d,_,Z,g9,_,Z,ln,_,Z,.inl (.of e3),Z,_,Z,?_];rw[fP,aq,aq,Xi];simp only[bne_self_eq_false,decide_true,Bool.not_true];refine aM ?_;have yx:=s2.trans s3;refine#[_,Z,ln,Z,#[_,.of e3],λD hD=>?_];refine mK (own:=1) (fv:=[some (.ref d)]) (xs:=(qs.map (·.1)).map V.str) Z eD (λi out H'=>aa H4 H'/\H' D=some (.lst out)/\i5 K H' out (dE ((qs.map (·.1)).take i) f)) #[aa.new hD,ay,.nil] (λi out H' _ ⟨sm,_,_⟩=>.of (sm _ _ e3)) (λout H5 ⟨sm,w_,pa⟩=>?_) (λi y out H' hy ⟨sm,e_,pa⟩=>?_)
  ·rw[aq,dG] at pa;refine#[D,out,_,Z,w_,pa,by rw[fP,aq];omega,λd' fJ=>?_]
   have wJ:((dE (qs.map (·.1)) f).map (·.1)).Nodup:=by
    rw[EF,pW,mM];exact nd.imp λn e=>n (hU e)
   rw[vI wJ];exact k d' _ ((yx.trans sm).trans (aa.new fJ)) (yx.free (sm.free fJ)) ay
  ·obtain⟨n,hn,rfl⟩:=jT hy;have hi:i<(qs.map (·.1)).length:=(bP.mp hn).1;rw[aq] at hi;have nm:n∈ns:=so.perm.mem_iff.mpr (cn hn);refine#[_,Z,Z,λNx hN=>cZ ?_];refine#[_,Z,_,Z,_,Z,d,.str (f n),Z,?_,by show 2<=sizeLine;decide,λt ht=>?_]
   ·rw[<- Ar (g:=λn=>V.str (f n)) nm];exact .k (k:=Sum.inr n) (sm _ _ g9)
   have s5:=aa.new (o:=.tup [.str n,.str (f n)]) ht;have lo:=bE pa;rw[fP,cj,aq] at lo;refine#[out,s5 _ _ e_,by omega,hN _ _ #[gh (sm.trans s5) hD,ay,?_]];have wW:upd H' t (.tup [.str n,.str (f n)]) t=some (.tup [.str n,.str (f n)]):=ay;have pD:∀{b:Addr} {ys:List V},upd H' t (.tup [.str n,.str (f n)]) b=some (.tup ys)->b≠D:=λhb=>bZ hb (s5 _ _ e_) nofun;rw[gi hn];show i5 K _ _ (((qs.map (·.1)).take i++[n]).map _);rw[bX];exact kn (Paired.bo pa λy kv ⟨b,z,hb⟩=>#[b,z,by rw[ax (pD (s5 _ _ hb))];exact s5 _ _ hb]) (.cons #[t,Z,by rw[ax (pD wW)];exact wW] .nil)
end
section
variable{d d2:Addr}{o:Obj}{kvs:List (Key × V)}{H H' H1:Hp}{u:HO}
theorem Fz.xT(s:aa H H1):Fz d o kvs H (upd H1 d (.frz o (.dK kvs))):=#[ay,λb u ne e=>by rw[ax ne];exact s _ _ e]
theorem Fz.put(f:Fz d o kvs H H')(hn:H d2=none)(ne:d2≠d):Fz d o kvs H (upd H' d2 u):=#[by rw[ax ne.symm];exact f.at_,λb u nb e=>by rw[ax (bI e hn)];exact f.sm b u nb e]
end
section
variable{P:Ad}{w:Af}{K:ag}{mg:Str->Option Aa}{base:Heap}
theorem Hv:bh ["goods","placed","hand","found","piece"] ["goods","placed"] (aU Lv):=bu
structure vF (K:ag) (CG CW:Addr) (H:Hp) (g p d:Addr) (hs:Xa) (ts:Xb) (qs:List Pc) (fp:List Addr) (f:Str->Str):Prop where
 G:fQ K CG CW H g p hs ts qs fp
 Gd:Good hs ts
 oz:d∉fp
 hd:H d=some (.dK (dE (qs.map (·.1)) f))
 at_:∀n∈qs.map (·.1),f n∈hs.map (·.1)
 nd:(qs.map (·.1)).Nodup
 cg:qs.length<64
abbrev C8(hs:Xa)(qs:List Pc)(f:Str->Str):List (Key × V):=bq (aA hs) λh=>.int (ld f (qs.map fu) h)
inductive Hu (K:ag) (CG CW:Addr) (vs:List V) (H:Hp) (Q:VK) (E:XK):Prop
 |mk:∀(g p d:Addr) (hs:Xa) (ts:Xb) (qs:List Pc) (fp:List Addr) (f:Str->Str),vs=[.ref g,.ref d]->vF K CG CW H g p d hs ts qs fp f->(∀d' H',aa H H'->H d'=none->H' d'=some (.dK (C8 hs qs f))->Q (.ref d') H')->Hu K CG CW vs H Q E
theorem fO_{f CG CW CP:Addr}(F:a9 K "loads_at" "loads_at" Lv f fd)(B:Bi mg)(T:dz K CG)(TW:Txt K mg CW)(cH:bb P w K mg base CW 1 "hands" ["self"] (Bp K CW))(cW:bb P w K mg base CG 2 "weight" ["self","piece"] (Am K CG CW CP)) :
  ai P w K mg base aR 3 f fd ["goods","placed"] (Hu K CG CW):=by
 refine F.bt Hv λaL A outer s H vs Q E hr h=>?_
 ·obtain⟨g,p,d,hs,ts,qs,fp,f,rfl,Pl,k⟩:=h;have hu:=eS hr;have sz:=bU;have dS:aD 1 _:=hr.mono (by decide);refine' #[_,?r0,?kk]
  case' r0=>refine' au ?s1 ?r1
  case s1=>exact bg 3 Hv.nd (i_ (vK Z) (by rfl) B.dict sU (ae (iP ["hand"] 1 [] (dH (xm cH TW.cl dS (cX (pv 0) Z))) (λfp s H=>fq 0) (λfp s H=>gT) (λfp s H=>fA (ae (pv 0) (ae aE af)))) af))
  case' r1=>refine' au ?s2 ?r2
  case' s2=>refine' GJ (eV eM Z ?i2 ?g2 (aI ?b2))
  case i2=>exact Lo (GZ (pv 1))
  case g2=>exact jO Z (bY (bV 4 Hv.nd) (bY (bV 2 Hv.nd) gR))
  case b2=>exact o7 hu (pv 3) (pv 2) (bw i4 (eU hu (pv 3) (pv 2) (λ_ _=>rfl)) (eG cW T.cl hr (pv 0) (ae (pv 4) af))) Z
  case r2=>exact aI (ba (pv 3))
  case' kk=>skip
  have nl:=Pl.Gd.fG;have h8:=Pl.Gd.h8;obtain⟨dx,dw,dy,vs,bL,h1,h2,h3,h4,h5,m1,m2,m3,m4,m5⟩:=id Pl.G.ex;obtain⟨eL,d1,l2,d3,jb,as,ef,w1,_⟩:=id h2.ex;have fW:(bQ d1 l2 d3).lookup ("hands":Str)=none:=ik _ _ _ Z0 Z0 Z0;refine#[_,Z,g,CG,dx,_,_,Z,h1,T.cl,T.nW,mG _ _ _,p,eL,_,Z,w1,fW,p,hs,ts,bL,Z,h2,λlh g7=>?_];obtain⟨s1,e1⟩:=aO (o:=.lst ((aA hs).map V.str)) g7;generalize upd H lh (.lst ((aA hs).map V.str))=H1 at s1 e1 ⊢;refine#[lh,Z,#[_,.of e1],λD hD=>?_];refine mK (own:=1) (fv:=[]) (xs:=(aA hs).map V.str) Z eD (λi out H'=>aa H1 H'/\H' D=some (.lst out)/\i5 K H' out (bq ((aA hs).take i) λ_=>.int 0)) #[aa.new hD,ay,.nil] (λi out H' _ ⟨sm,_,_⟩=>.of (sm _ _ e1)) (λout H5 ⟨sm,w_,pa⟩=>?_) (λi y out H' hy ⟨sm,e_,pa⟩=>?_);rotate_left 1
  ·obtain⟨n,hn,rfl⟩:=jT hy;have hi:i<(aA hs).length:=(bP.mp hn).1;refine#[_,Z,Z,λNx hN=>cZ ?_];refine#[_,Z,by show 2<=sizeLine;decide,λt ht=>?_];have s5:=aa.new (o:=.tup [.str n,.int 0]) ht;have lo:=bE pa;rw[fP,cj] at lo;refine#[out,s5 _ _ e_,by omega,hN _ _ #[gh (sm.trans s5) hD,ay,?_]];have wW:upd H' t (.tup [.str n,.int 0]) t=some (.tup [.str n,.int 0]):=ay;have pD:∀{b:Addr} {ys:List V},upd H' t (.tup [.str n,.int 0]) b=some (.tup ys)->b≠D:=λhb=>bZ hb (s5 _ _ e_) nofun;rw[gi hn];show i5 K _ _ (((aA hs).take i++[n]).map _);rw[bX];exact kn (Paired.bo pa λy kv ⟨b,z,hb⟩=>#[b,z,by rw[ax (pD (s5 _ _ hb))];exact s5 _ _ hb]) (.cons #[t,Z,by rw[ax (pD wW)];exact wW] .nil)
  rw[aq,dG] at pa;refine#[D,out,_,Z,w_,pa,by rw[fP];omega,λd2 hd2=>?_]
  have wJ:((bq (aA hs) λ_=>V.int 0).map (·.1)).Nodup:=by
   rw[EF,pW,mM];exact Pl.Gd.iB.imp λn e=>n (hU e)
  rw[vI wJ];have s2:=(s1.trans sm).trans (aa.new (o:=.dK (bq (aA hs) λ_=>V.int 0)) hd2);have e2:upd H5 d2 (.dK (bq (aA hs) λ_=>V.int 0)) d2=some (.dK (bq (aA hs) λ_=>V.int 0)):=ay;have n2:H d2=none:=s1.free (sm.free hd2);show qc _ _ _ _ (upd H5 d2 (.dK (bq (aA hs) λ_=>V.int 0)));generalize upd H5 d2 (.dK (bq (aA hs) λ_=>V.int 0))=H6 at s2 e2 ⊢;have L5:d2≠d:=(bI Pl.hd n2).symm;refine#[d,_,s2 _ _ Pl.hd,?_];refine#[_,Z,d,_,Z,s2 _ _ Pl.hd,λv hv=>?_];obtain⟨s3,sf⟩:=aO (o:=sT v d) hv;have e3:=s3 _ _ e2;have uJ:=s2.trans s3;generalize upd H6 v (sT v d)=H7 at s3 sf e3 uJ ⊢;refine#[v,d,_,Z,sf,uJ _ _ Pl.hd,λo=>?_];refine MK (λi σ H'=>∃(v2 v4:Option V),σ=[some (.ref g),some (.ref d),v2,some (.ref d2),v4]/\Fz d o (dE (qs.map (·.1)) f) H H'/\H' d2=some (.dK (bq (aA hs) λh=>.int (ld f ((qs.take i).map fu) h)))) #[none,none,Z,Fz.xT uJ,by rw[ax L5];exact e3] (λi σ H' _ ⟨_,_,_,z,_⟩=>z.at_) ?_ ?_
  ·rintro i ky x σ H8 hx ⟨v2,v4,rfl,fz,e8⟩ t ht;obtain⟨n,hn,rfl,rfl⟩:=Ey hx
   have hi:i<qs.length:=by
    have:=(bP.mp hn).1;rwa [aq] at this
   have hq:qs[i]? = some (qs[i]'hi):=di hi
   have en:n=(qs[i]'hi).1:=by
    rw[dU,hq] at hn;exact (dW hn).symm
   have fm:f n∈aA hs:=(hW hs).mem_iff.mpr (Pl.at_ n (cn hn));generalize qs[i]'hi=q at hq en;have s8:=aa.new (o:=.tup [.str n,.str (f n)]) ht;have zA:=fz.step s8;have e9:=s8 _ _ e8;have et:upd H8 t (.tup [.str n,.str (f n)]) t=some (.tup [.str n,.str (f n)]):=ay;show hE _ _ _ _ _ (upd H8 t (.tup [.str n,.str (f n)])) _;generalize upd H8 t (.tup [.str n,.str (f n)])=H9 at s8 zA e9 et ⊢;refine#[t,_,Z,.of et,Z,_,_,Z,_,_,Z,Z,?_];have G9:=zA.xb Pl.hd Pl.G Pl.oz;obtain⟨dx,dw,dy,vs,bL,h1,h2,h3,h4,h5,m1,m2,m3,m4,m5⟩:=id G9.ex;have j_:(bF p dw dy).lookup ("weight":Str)=none:=pV _ _ _ Z0 Z0 Z0;refine#[_,Z,_,Z,d2,.int (ld f ((qs.take i).map fu) (f n)),Z,?_,_,Z,g,dx,_,Z,h1,j_,_,Z,g,p,.str n,some n,hs,ts,qs,fp,Z,G9,Pl.nd,Z,.inl #[q,cn hq,dF some en,?_]]
   ·rw[<- Ar (g:=λh=>V.int (ld f ((qs.take i).map fu) h)) fm];exact .k (k:=Sum.inr (f n)) e9
   refine#[_,_,Z,Z,_,Z,_,Z,d2,_,Z,.k (k:=Sum.inr (f n)) e9 (by rw[fP];omega),?_];refine#[_,_,Z,zA.put n2 L5,?_];rw[ay,K7 fm];congr 2;refine Bu λm _=>?_
   have e5:(qs.take (i+1)).map fu=(qs.take i).map fu++[fu q]:=by
    rw[hV,hq,bX];rfl
   rw[e5,QE];show (if m=f n then V.int (ld f ((qs.take i).map fu) (f n)+q.2.1) else V.int (ld f ((qs.take i).map fu) m))=V.int (if m=f q.1 then _ else _);rw[<- en];by_cases z:m=f n
   ·rw[aC z,aC z,z];rfl
   ·rw[ao z,ao z]
  rintro σ H8 ⟨v2,v4,rfl,fz,e8⟩;refine#[o,fz.at_,?_];rw[fP,aq,dG] at e8;exact#[_,Z,k d2 _ (fz.kC Pl.hd) n2 (by rw[ax L5];exact e8)]
end
end Ev
namespace L2
open PySem PySem.Spec PyProof.Rows PySem.W
inductive rJ (xs:List V) (H:Hp) (Q:VK):Prop
 |mk:∀a kvs,xs=[.ref a]->Rd H a (.dK kvs)->(∀p,H p=none->Q (.ref p) (upd H p (.dK kvs)))->rJ xs H Q
variable{X:Cx}
theorem g6_:gJ X (.type "dict") rJ:=by
 intro pins s σ H xs us Q I r h;obtain⟨a,kvs,rfl,hd,q⟩:=h;obtain⟨u,rfl,ru⟩:=vals1 r;cases ru;exact Zd I hd λp s' hp I'=>#[.ref p,_,I',Z,q p hp]
inductive rF (K:ag) (x:V) (y:V) (H:Hp) (Q:VK):Prop
 |mk:∀a b xs,x=.ref a->y=.ref b->dB K H a xs->dB K H b []->Q (.bl (!xs.isEmpty)) H->rF K x y H Q
theorem Zp(hu:X.A.units+0+1<cLine):dC X (compareOp .NotEq) (rF X.K):=by
 intro pins s σ H x y v u Q I rx ry h;obtain⟨a,b,xs,rfl,rfl,t,t',hq⟩:=h;cases xs with
 |nil=>exact WO eQ hu pins s σ H (.ref a) (.ref b) v u Q I rx ry #[[],[],#[a,[],Z,t,.nil],#[b,[],Z,t',.nil],hq]
 |cons z zs=>
  cases rx;cases ry;obtain⟨us,r,pl,_⟩:=I.list t;obtain⟨vs,r',uM,_⟩:=I.list t';have l1:=r.length;have l2:=r'.length;exact HQ.gq pl.isList uM.isList (by simp only[cE,bne_iff_ne];simp at l1 l2;omega) Z1 #[.bl true,H,I,Z,hq]
end L2
namespace Ev
open PySem L2
theorem Lb{A:Ag}{s:Ab}{ns:List Str}{f g:Str->Str}{vb:List (Key × Aa)}(rb:KV (dE ns g) vb):∀(ms:List Str) (va:List (Key × Aa)),KV (dE ms f) va->(∀m∈ms,m∈ns)->PySem.W.KeqHits A s vb va (ms.all λn=>decide (f n=g n))
 |[],va,r,_=>by
  cases r;exact .nil
 |m::ms,va,r,h=>by
  cases r with
  |@cons _ q _ Uw h1 r=>
   have hm:=h m dO;obtain⟨y,hy,ry⟩:=dJ.some_of (v:=.str (g m)) (o:=valueAt vb (Sum.inr m)) (by rw[<- Ar (g:=λn=>V.str (g n)) hm];exact rb.val _);obtain⟨k,v⟩:=q;obtain⟨e1,e2⟩:=h1;have e1:(Sum.inr m:Key)=k:=e1;subst e1;obtain⟨t,rfl⟩:=(show ∃t,v=Value.str (f m) t from e2);obtain⟨u,rfl⟩:=(show ∃t,y=Value.str (g m) t from ry);have q:=SeqAt.EqAt.str_str (A:=A) (s:=s) (f m) t (g m) u;rw[show (f m == g m)=decide (f m=g m) by by_cases z:f m=g m<;>simp[z]] at q
   exact .hit hy q (Lb rb ms Uw r λx hx=>h x (dP _ hx))
def lZ(a n:Int):Int:=a / (Int.gcd a n:Int) * n
variable{n:Int}
theorem YR{a:Int}(ha:0<a)(hn:0<n):lZ a n=(Int.lcm a n:Int):=by
 obtain⟨p,rfl⟩:=sZ (Int.le_of_lt ha);obtain⟨q,rfl⟩:=sZ (Int.le_of_lt hn);show ((p:Int) / ((Nat.gcd p q:Nat):Int)) * (q:Int)=((Nat.lcm p q:Nat):Int);rw[<- Int.natCast_ediv,<- Int.natCast_mul,Nat.div_mul_right_comm (Nat.gcd_dvd_left p q)];rfl
def lY(ns:List Int):Int:=ns.foldl lZ 1
theorem QV:∀(ns:List Int) (a:Int),0<a->(∀n∈ns,0<n)->0<ns.foldl lZ a/\∀x:Int,0<=x->(ns.foldl lZ a ∣ x ↔ a ∣ x/\∀n∈ns,n ∣ x)
 |[],a,ha,_=>#[ha,λx _=>by simp]
 |n::ns,a,ha,h=>by
  have hn:=h n dO;have e:=YR ha hn
  have p:0<lZ a n:=by
   rw[e];have:=Nat.lcm_pos (m:=a.natAbs) (n:=n.natAbs) Z1 Z1;have:0<Int.lcm a n:=this;omega
  obtain⟨h1,h2⟩:=QV ns (lZ a n) p λm hm=>h m (dP _ hm);refine#[h1,λx hx=>(h2 x hx).trans ?_];obtain⟨z,rfl⟩:=sZ hx;rw[e,Int.natCast_dvd_natCast,Int.lcm_dvd_iff];constructor
  ·rintro⟨⟨q1,q2⟩,q3⟩
   exact#[q1,λm hm=>by
    rcases bO.mp hm with rfl|hm
    ·exact q2
    ·exact q3 m hm]
  ·rintro⟨q1,q2⟩;exact#[#[q1,q2 n dO],λm hm=>q2 m (dP _ hm)]
variable{ns:List Int}
theorem _y(h:∀n∈ns,0<n):0<lY ns:=(QV ns 1 (by decide) h).1
theorem Y_(f:Str->Str)(x:Str × Int)(ws:Xa)(h:Str):ld f (x::ws) h=(if f x.1=h then x.2 else 0)+ld f ws h:=by
 unfold ld;by_cases e:f x.1=h
 ·simp[e]
 ·simp[e]
theorem ON{f:Str->Str}{h:Str}:∀{ws:Xa},(∀x∈ws,0<=x.2/\x.2<=1000000000)->ld f ws h<=1000000000 * ws.length
 |[],_=>by
  unfold ld;simp
 |x::ws,p=>by
  have h1:=p x dO;have h2:=ON (f:=f) (h:=h) (ws:=ws) λy hy=>p y (dP _ hy);rw[Y_,hX];by_cases z:f x.1=h
  ·rw[aC z];omega
  ·rw[ao z];omega
def rP(hs:Xa):Int:=lY ((aA hs).map (strOf hs))
theorem cu{hs:Xa}{ts:Xb}(G:Good hs ts){n:Str}(h:n∈aA hs):1<=strOf hs n/\strOf hs n<=1000:=(G.aF _ (vE ((hW hs).mem_iff.mp h))).2
variable{i:Nat}
variable{fd:Ae}
section
variable{P:Ad}{w:Af}{K:ag}{mg:Str->Option Aa}{base:Heap}
theorem uE:bh ["numbers","found","number"] ["numbers"] (aU IL):=bu
def Cd(K:ag):Sp:=λvs H Q _=>∃(l:Addr) (ns:List Int),vs=[.ref l]/\dB K H l (ns.map V.int)/\(∀n∈ns,1<=n/\n<=1000)/\Q (.int (lY ns)) H
theorem ZI(h:ns[i]? = some n):lY (ns.take (i+1))=lZ (lY (ns.take i)) n:=by
 unfold lY;rw[hV,h,List.foldl_append];rfl
theorem eN_{y:V}(h:(ns.map V.int)[i]? = some y):∃n,ns[i]? = some n/\y=.int n:=by
 rw[dU] at h;cases e:ns[i]? with
 |none=>rw[e] at h;cases h
 |some n=>rw[e] at h;exact#[n,Z,(dW h).symm]
theorem Wt{f:Addr}(F:a9 K "least_multiple" "least_multiple" IL f fd)(cG:bj P w K mg base 1 "greatest_divisor" ["one","other"] Ce):ai P w K mg base aR 2 f fd ["numbers"] (Cd K):=by
 refine F.bt uE λaL A outer s H vs Q E hr h=>?_
 ·obtain⟨l,ns,rfl,hl,b,k⟩:=h;refine' #[_,au ?s1 (au ?s2 (aI ?s3)),?kk]
  case s1=>exact bg 1 uE.nd aE
  case s2=>exact eV eM Z (dH (pv 0)) (bV 2 uE.nd) (aI (bg 1 uE.nd (bw ki (bw vz (pv 1) (aX cG hr (ae (pv 1) (ae (pv 2) af)))) (pv 2))))
  case s3=>exact ba (pv 1)
  case' kk=>skip
  refine#[_,Z,l,Z,#[_,hl],gF (K:=K) (a:=l) (xs:=ns.map V.int) (λi σ H'=>H'=H/\∃(v2:Option V),σ=[some (.ref l),some (.int (lY (ns.take i))),v2]) #[Z,none,Z] (λi σ H' _ ⟨e,_⟩=>by rw[e];exact hl) ?_ ?_]
  ·rintro i y σ H' hy ⟨rfl,v2,rfl⟩;obtain⟨n,hn,rfl⟩:=eN_ hy;have bn:=b n (cn hn)
   have p:=_y (ns:=ns.take i) λm hm=>by
    have:=b m (List.take_subset _ _ hm);omega
   refine#[_,Z,_,Z,_,Z,_,_,Z,Int.le_of_lt p,by omega,_,_,Z,Z,Wk Z1 (Int.le_trans bn.2 (by decide)),_,Z,_,_,Z,Z,.inr #[by omega,by omega],Z,some (.int n),?_];rw[ZI hn];rfl
  ·rintro σ H' ⟨rfl,v2,rfl⟩;refine#[_,Z,?_];rw[aq,dG];exact k
theorem ya:bh ["web"] ["web"] (aU qU):=bu
inductive kK (K:ag) (C:Addr) (vs:List V) (H:Hp) (Q:VK) (E:XK):Prop
 |mk:∀(p:Addr) (hs:Xa) (ts:Xb) (fp:List Addr),vs=[.ref p]->fK K C H p hs ts fp->Good hs ts->(∀H',aa H H'->Q (.int (rP hs)) H')->kK K C vs H Q E
theorem ZA{f CW:Addr}(F:a9 K "multiple_of_strengths" "multiple_of_strengths" qU f fd)(TW:Txt K mg CW)(cL:bj P w K mg base 2 "least_multiple" ["numbers"] (Cd K))(cH:bb P w K mg base CW 1 "hands" ["self"] (Bp K CW))(cS:bb P w K mg base CW 2 "strength" ["self","hand"] (Bt K CW)):ai P w K mg base aR 3 f fd ["web"] (kK K CW):=by
 refine F.bt ya λaL A outer s H vs Q E hr h=>?_
 ·obtain⟨p,hs,ts,fp,rfl,W,G,k⟩:=h;have sz:=bU;have nl:=G.fG;have h8:=G.h8;refine' #[_,aI (ba (aX cL hr (ae (iP ["hand","web"] 1 [0] (dH (xm cH TW.cl (hr.mono (by decide)) (pv 0))) (λfp s H=>fq 0) (λfp s H=>gT) (λfp s H=>?e1)) af))),?kk]
  case e1=>exact eG cS TW.cl hr (pv 1) (ae (pv 0) af)
  case' kk=>skip
  obtain⟨eL,d1,l2,d3,jb,as,ef,w1,_⟩:=id W.ex;refine#[_,Z,p,eL,_,Z,w1,ik _ _ _ Z0 Z0 Z0,p,hs,ts,fp,Z,W,λlh g7=>?_];obtain⟨s1,e1⟩:=aO (o:=.lst ((aA hs).map V.str)) g7;generalize upd H lh (.lst ((aA hs).map V.str))=H1 at s1 e1 ⊢;refine#[lh,Z,#[_,.of e1],λD hD=>?_];refine mK (own:=1) (fv:=[some (.ref p)]) (xs:=(aA hs).map V.str) Z eD (λi out H'=>aa H1 H'/\H' D=some (.lst out)/\out=(((aA hs).take i).map (strOf hs)).map V.int) #[aa.new hD,ay,Z] (λi out H' _ ⟨sm,_,_⟩=>.of (sm _ _ e1)) (λout H5 ⟨sm,w_,eo⟩=>?_) (λi y out H' hy ⟨sm,e_,eo⟩=>?_)
  ·rw[aq,dG] at eo;rw[eo] at w_;refine#[D,_,Z,.of w_,λn hn=>?_,k H5 (s1.trans sm)];obtain⟨m,hm,rfl⟩:=a_.mp hn;exact cu G hm
  ·obtain⟨n,hn,rfl⟩:=jT hy;have hi:i<(aA hs).length:=(bP.mp hn).1;refine#[_,Z,Z,λNx hN=>cZ ?_];have W':=(W.same s1).same sm;obtain⟨eL,d1,l2,d3,jb,as,ef,w1,_⟩:=id W'.ex;refine#[_,Z,p,eL,_,Z,w1,ik _ _ _ Z0 Z0 Z0,_,Z,p,n,strOf hs n,hs,ts,fp,Z,W',G.pJ,vE ((hW hs).mem_iff.mp (cn hn)),?_];refine#[out,e_,by rw[eo,aq,aq,cj];omega,hN _ _ #[gh sm hD,ay,?_]];rw[gi hn,bX,bX,eo];rfl
theorem Fi:bh ["goods","placed","multiple","found","hand","load"] ["goods","placed"] (aU LU):=bu
def yO(hs:Xa)(qs:List Pc)(f:Str->Str)(h:Str):Int:=ld f (qs.map fu) h * (rP hs / strOf hs h)
inductive Nc (K:ag) (CG CW:Addr) (vs:List V) (H:Hp) (Q:VK) (E:XK):Prop
 |mk:∀(g p d:Addr) (hs:Xa) (ts:Xb) (qs:List Pc) (fp:List Addr) (f:Str->Str),vs=[.ref g,.ref d]->vF K CG CW H g p d hs ts qs fp f->(∀q∈qs,0<=q.2.1/\q.2.1<=1000000000)->(∀d' H',aa H H'->H d'=none->H' d'=some (.dK (bq (aA hs) λh=>.int (yO hs qs f h)))->Q (.ref d') H')->Nc K CG CW vs H Q E
theorem F8{qs:List Pc}(wp:∀q∈qs,0<=q.2.1/\q.2.1<=1000000000)(cg:qs.length<64)(f:Str->Str)(h:Str):0<=ld f (qs.map fu) h/\ld f (qs.map fu) h<=64000000000:=by
 have p:∀x∈qs.map fu,0<=x.2/\x.2<=1000000000:=λx hx=>by
  obtain⟨q,hq,rfl⟩:=a_.mp hx;exact wp q hq
 have h1:=ON (f:=f) (h:=h) p;rw[aq] at h1;exact#[XM λx hx=>(p x hx).1,by omega]
theorem gM_{f CG CW:Addr}(F:a9 K "levels_at" "levels_at" LU f fd)(T:dz K CG)(TW:Txt K mg CW)(cL:bj P w K mg base 3 "loads_at" ["goods","placed"] (Hu K CG CW))(cM:bj P w K mg base 3 "multiple_of_strengths" ["web"] (kK K CW))(cS:bb P w K mg base CW 2 "strength" ["self","hand"] (Bt K CW)) :
  ai P w K mg base aR 4 f fd ["goods","placed"] (Nc K CG CW):=by
 refine F.bt Fi λaL A outer s H vs Q E hr h=>?_
 ·obtain⟨g,p,d,hs,ts,qs,fp,f,rfl,Pl,wp,k⟩:=h;have hu:=eS hr;have sz:=bU;have cz:aD 2 _:=hr.mono (by decide);refine' #[_,?r0,?kk]
  case' r0=>refine' au ?s0 (au ?s1 (au ?s2 ?r2))
  case s0=>exact bg 2 Fi.nd (aX cM hr (ae (cX (pv 0) Z) af))
  case s1=>exact bg 3 Fi.nd Al
  case' s2=>refine' eV eM Z ?i2 ?g2 (aI ?b2)
  case i2=>exact Lo (GZ (aX cL hr (ae (pv 0) (ae (pv 1) af))))
  case g2=>exact jO Z (bY (bV 4 Fi.nd) (bY (bV 5 Fi.nd) gR))
  case b2=>exact o7 hu (pv 3) (pv 4) (bw ki (pv 5) (bw vz (pv 2) (eG cS TW.cl cz (cX (pv 0) Z) (ae (pv 4) af)))) Z
  case r2=>exact aI (ba (pv 3))
  case' kk=>skip
  have nl:=Pl.Gd.fG;have h8:=Pl.Gd.h8;obtain⟨dx,dw,dy,vs,bL,h1,h2,_⟩:=id Pl.G.ex;refine#[_,Z,g,CG,dx,_,_,Z,h1,T.cl,T.nW,mG _ _ _,p,hs,ts,bL,Z,h2,Pl.Gd,λH0 s0=>?_];intro d2 hd2;have s1:=s0.trans (aa.new (o:=.dK []) hd2);have e1:upd H0 d2 (.dK []) d2=some (.dK []):=ay;have n2:H d2=none:=s0.free hd2;show qc _ _ _ _ (upd H0 d2 (.dK []));generalize upd H0 d2 (.dK [])=H1 at s1 e1 ⊢;have Pl1:vF K CG CW H1 g p d hs ts qs fp f:=#[Pl.G.same s1,Pl.Gd,Pl.oz,s1 _ _ Pl.hd,Pl.at_,Pl.nd,Pl.cg];refine#[_,Z,_,Z,g,p,d,hs,ts,qs,fp,f,Z,Pl1,λdl H2 s2 w4 e2=>?_];refine#[dl,_,Z,e2,λv hv=>?_];obtain⟨s3,sf⟩:=aO (o:=sT v dl) hv;have e3:=s3 _ _ e2;have oQ:=s2.trans s3;generalize upd H2 v (sT v dl)=H3 at s3 sf e3 oQ ⊢;have yJ:H dl=none:=s1.free w4;have SG:d2≠dl:=bI e1 w4;refine#[v,dl,_,Z,sf,e3,λo=>?_];refine MK (λi σ H'=>∃(v4 v5:Option V),σ=[some (.ref g),some (.ref d),some (.int (rP hs)),some (.ref d2),v4,v5]/\aa H H'/\H' dl=some (.frz o (.dK (C8 hs qs f)))/\H' d2=some (.dK (bq ((aA hs).take i) λh=>.int (yO hs qs f h)))) #[none,none,Z,gh (s1.trans oQ) yJ,ay,by rw[ax SG];exact oQ _ _ e1] (λi σ H' _ ⟨_,_,_,_,z,_⟩=>z) ?_ ?_
  ·rintro i ky x σ H8 hx ⟨v4,v5,rfl,s8,f8,e8⟩ t ht;obtain⟨n,hn,rfl,rfl⟩:=Ey hx;have hi:i<(aA hs).length:=(bP.mp hn).1;have nm:n∈hs.map (·.1):=(hW hs).mem_iff.mp (cn hn);have sm:=vE nm;have sg:=cu Pl.Gd (cn hn);have lo:=F8 wp Pl.cg f n;have ss:=aa.new (o:=.tup [.str n,.int (ld f (qs.map fu) n)]) ht;have s9:=s8.trans ss;have e9:=ss _ _ e8;have f9:=ss _ _ f8;have et:upd H8 t (.tup [.str n,.int (ld f (qs.map fu) n)]) t=some (.tup [.str n,.int (ld f (qs.map fu) n)]):=ay;show hE _ _ _ _ _ (upd H8 t (.tup [.str n,.int (ld f (qs.map fu) n)])) _;generalize upd H8 t (.tup [.str n,.int (ld f (qs.map fu) n)])=H9 at ss s9 e9 f9 et ⊢;refine#[t,_,Z,.of et,Z,_,_,Z,_,_,Z,Z,?_];have G9:=Pl.G.same s9;obtain⟨dx,dw,dy,vs,bL,h1,h2,h3,h4,h5,m1,m2,m3,m4,m5⟩:=id G9.ex;obtain⟨eL,d1,l2,d3,jb,as,ef,w1,_⟩:=id h2.ex;have fW:(bQ d1 l2 d3).lookup ("strength":Str)=none:=ik _ _ _ Z0 Z0 Z0;refine#[_,Z,_,Z,_,Z,g,CG,dx,_,_,Z,h1,T.cl,T.nW,mG _ _ _,p,eL,_,Z,w1,fW,_,Z,p,n,strOf hs n,hs,ts,bL,Z,h2,Pl.Gd.pJ,sm,?_];refine#[_,_,Z,Z,#[by omega,by omega],_,_,Z,Z,.inl #[by omega,by omega],_,Z,_,Z,d2,_,Z,.k (k:=Sum.inr n) e9 (by rw[fP,cj];omega),?_];refine#[_,_,Z,gh s9 n2,by rw[ax SG.symm];exact f9,?_];rw[ay,gi hn,GF (EW Pl.Gd.iB hn)];congr 2;refine Bu λm _=>?_;by_cases z:m=n
   ·subst z;simp[yO]
   ·simp[z]
  rintro σ H8 ⟨v4,v5,rfl,s8,f8,e8⟩;rw[fP,dG] at e8;exact#[_,Z,k d2 H8 s8 n2 e8]
end
end Ev
namespace L2
open PySem PySem.Spec PyProof.Rows
section
variable{P:Ad}{w:Af}{K:ag}{mg:Str->Option Aa}{base:Heap}
section
variable{N:List Str}{qual:Str}{scope:Scope}{f:Addr}{cd:Aa}{A:Ag}{outer:List Env}{s:Ab}{H:Hp}{E:XK}
end
end
open PySem.Calls PySem.W
section
variable{M:Model}{A:Ag}{E:Aa->Ab->Prop}{s:Ab}{base:Heap}{env:Env}{outer:List Env}{L e:Addr}{cls a0:Aa}{Q:Unit->Ab->Prop}
end
section
variable{prog:Ad}{w:Af}{A:Ag}{E:Aa->Ab->Prop}{h:Heap}{g:Array GenState}{d:Drawn}{t:Nat}{os:OsState}{nm q:Str}{C N f:Addr}{bs bm Th:List Aa}{hdct:Bool}{sn:List Str}{sub:List Aa}{ab:Bool}{col:Option Bool}{dd:Option Addr}{k0 k1 k2 k3 k5:Option Aa}{B newId JL:String}{K:ag}{rest:List Aa}
end
open Builtin Builtin.ObjectAttr
def zE(C CE:Addr):List Aa:=[.ref C,.ref CE,.type "ValueError",.type "Exception",.type "BaseException",.type "object"]
section
variable{prog:Ad}{w:Af}{A:Ag}{E:Aa->Ab->Prop}{s:Ab}{K:ag}{x C CE:Addr}{ox:Obj}{od:Option Obj}{name:Str}{tk:Tok}{v:Aa}{cd:ClassData}
end
def zF(K:ag)(C:Addr)(Th:List Aa)(newId:String):Bool:=
 match K.lookup C with
 |some ⟨.type "type",_,.cls cd,sl⟩=>
  match cd.mro,sl.toList with
  |.ref C'::bm,[_,_,_,_,some (.builtin n),_]=>C' == C&&n == newId&&!cd.hasDel&&tailIn K Th bm&&nsOkIn K cd.ns
  |_,_=>false
 |_=>false
def Mb(K:ag)(C CE:Addr):Bool:=
 match clsIn K C with
 |some cd=>cd.mro == zE C CE&&cd.hasDict
 |none=>false
structure ExO (K:ag) (C CE:Addr):Prop where
 kx:NI K C
 ex:zF K C bmV "ValueError.__new__"=true
 es:findIn K (.ref C) "__setattr__"=some (some (.builtin "object.__setattr__"))
 cl:Mb K C CE=true
structure ExF (K:ag) (C:Addr) (f:Str):Prop where
 tk:takerIn K C f=some none
 fd:findIn K (.ref C) f=some none
structure ExB (K:ag) (CE:Addr):Prop where
 sp:specialIn K (.ref CE) "__getattribute__"=some (some (.builtin "type.__getattribute__"))
 rd:readsIn K CE (.type "type")=true
 fc:findCls K (.ref CE) (.type "type") "__init__"=some (.val (.builtin "ValueError.__init__"))
section
variable{P:Ad}{w:Af}{H:Hp}{h:Heap}{e C a0 d:Addr}{dd:Option Addr}{fs:List (Str × V)}
end
section
variable{X:Cx}{C CE:Addr}{x f:Str}{p apos pos pos':Pos}{o e value:Expr}{es:List Expr}{ta tv:TE}{t:TA}
end
section
variable{X:Cx}{pins:List (Addr × Obj)}{σ:St}{H H':Hp}{s s1:Ab}{B h:Heap}{a:Addr}{cls a0:Aa}{dd:Option Addr}{E:XK}
end
section
variable{P:Ad}{w:Af}{K:ag}{mg:Str->Option Aa}{base:Heap}{N:List Str}{qual:Str}{scope:Scope}{f:Addr}{cd:Aa}{A:Ag}{outer:List Env}{s:Ab}{H:Hp}{E:XK}
end
section
variable{X:Cx}{x:Str}{C f:Addr}{fd:Ae}{ps:List Str}{sp:Sp}{k:Nat}{np bR pos:Pos}{e:Expr}{es:List Expr}{t:TA}{E:XK}
end
section
variable{X:Cx}{i:Nat}{x n:Str}{D C:Addr}{np DD pos:Pos}{EZ:Stmt}{wk body:List Stmt}{tb:XK->TS}{ts:TS}{rest:List ExceptHandler}
end
section
variable{P:Ad}{w:Af}{K:ag}{mg:Str->Option Aa}{base:Heap}{N:List Str}{qual:Str}{scope:Scope}{f:Addr}{cd:Aa}{A:Ag}{outer:List Env}{s:Ab}{H:Hp}{E:XK}
end
section
variable{X:Cx}{i:Nat}{x x2 n:Str}{D C D2 C2:Addr}{np DD np2 PF pos:Pos}{EZ c₀:Stmt}{wk Iw body:List Stmt}{tb:XK->TS}{ts ts2:TS}
end
section
variable{X:Cx}{i:Nat}{x n:Str}{D:Addr}{ok:Addr->Prop}{np DD pos:Pos}{EZ:Stmt}{wk body:List Stmt}{tb:XK->TS}{ts:TS}
end
section
variable{X:Cx}{k:Nat}{ps:List Str}{x:Str}{p pos:Pos}{e:Expr}{es:List Expr}{tn:TE}{t:TA}
end
structure Fj (ps cB:List Str) (scope:Scope):Prop where
 nd:(ps++cB).Nodup
 kind:scope.kind=.function
 co:scope.isCoroutine=false
 gen:scope.isGenerator=false
 par:∀p∈ps,scope.names.lookup p=some .local
 fv:∀x∈cB,scope.names.lookup x=some .free
 all:∀x,scope.names.lookup x=some .free->x∈cB
 rO:∀x∈scope.names,x.2≠.cell
def Ba(CX:uh)(P:Ad)(w:Af)(K:ag)(mg:Str->Option Aa)(base:Heap)(N:List Str)(qual:Str)(scope:Scope)(f:Addr)(cd:Aa)(cl:List (Str × Addr))(A:Ag)(outer:List Env)(s:Ab)(H:Hp)(E:XK):Cx where
 prog:=P
 w:=w
 K:=K
 mg:=mg
 base:=base
 A:=A.deeper (envX qual scope s.heap.objs.size f cd cl)
 N:=N
 b_:=s
 j1:=H
 env:=envX qual scope s.heap.objs.size f cd cl
 outer:=outer
 stack:=envX qual scope s.heap.objs.size f cd cl::outer
 ex:=[]
 calm:=true
 fn:=λ_=>false
 pn:=[]
 xe:=λe s'=>wpAny (model P w) (A.deeper (envX qual scope s.heap.objs.size f cd cl)) (leaving (envX qual scope s.heap.objs.size f cd cl) e) (λ_ pE=>CX outer H s E e pE) (λe' pE=>CX outer H s E e' pE) s'
theorem Rv{x:Str}{u:Aa}:∀{l:List (Str × Aa)},(l.map (·.1)).Nodup->(x,u)∈l->l.lookup x=some u
 |(y,v)::l,nd,h=>by
  have n:=pe.mp nd;rcases bO.mp h with e|h
  ·cases e;simp[List.lookup]
  ·have ne:x≠y:=λz=>n.1 (by rw[<- z];exact a_.mpr #[_,h,Z]);have:(x == y)=false:=by simpa using ne
   rw[sX,this];exact Rv n.2 h
theorem QH:∀(ps:List Str) (us:List Aa),((ps.zip us).map (·.1)).Sublist ps
 |[],_=>by simp
 |_::_,[]=>by simp
 |p::ps,u::us=>by
  simp only[List.zip_cons_cons,dN];exact (QH ps us).cons₂ p
variable{ps:List Str}{us:List Aa}{x:Str}
theorem d4_{i:Nat}{u:Aa}(nd:ps.Nodup)(h1:ps[i]? = some x)(h2:us[i]? = some u):(ps.zip us).reverse.lookup x=some u:=by
 refine Rv ?_ (List.mem_reverse.mpr (cn (i:=i) ?_))
 ·rw[List.map_reverse];refine (List.reverse_perm _).nodup_iff.mpr (nd.sublist ?_);exact QH ps us
 ·rw[List.getElem?_zip_eq_some];exact#[h1,h2]
structure G7 (cB:List Str) (cl:List (Str × Addr)) (gs:List V) (h:Heap):Prop where
 inj:∀x y c,cl.lookup x=some c->cl.lookup y=some c->x=y
 has:∀x∈cB,∃c,cl.lookup x=some c
 all:∀x c,cl.lookup x=some c->∃v,h.IsCell c v
 is:∀(i:Nat) x v,cB[i]? = some x->gs[i]? = some v->∃c u,cl.lookup x=some c/\RelV v u/\h.IsCell c (some u)
variable{h':Heap}{c:Addr}
theorem IsCell.keeps{h:Heap}{v:Option Aa}(x:h.IsCell c v)(k:∀o,h.get? c=some o->h'.get? c=some o):h'.IsCell c v:=let #[o,e,d]:=x;#[o,k o e,d]
variable{CX:uh}{w:Af}{mg:Str->Option Aa}{base:Heap}{cB:List Str}{f:Addr}{cd:Aa}{A:Ag}{outer:List Env}{s:Ab}{E:XK}{gs:List V}
theorem YZ{P:Ad}{K:ag}{qual:Str}{scope:Scope}{cl:List (Str × Addr)}{H:Hp}{vs:List V}{h1:Heap}{tk:Nat}(S:Fj ps cB scope)(hd:A.handled=none)(e0:hY P w K mg base A outer s H)(hl:vs.length=ps.length)(hg:gs.length=cB.length)(r:Vals vs us)(C:G7 cB cl gs s.heap)(fc:∀x c,cl.lookup x=some c->H c=none)(ns:h1.Ns s.heap.objs.size λx=>(ps.zip us).reverse.lookup x)(k:∀b o,s.heap.get? b=some o->h1.get? b=some o) :
  Inv (Ba CX P w K mg base (ps++cB) qual scope f cd cl A outer s H E) [] (vs.map some++gs.map some) H { s with heap:=h1,toks:=tk }:=by
 have uP:∀b:Addr,b∉(Ba CX P w K mg base (ps++cB) qual scope f cd cl A outer s H E).ex:=λb z=>absurd (show b∈([]:List Addr) from z) Z2
 refine#[#[e0.mod,S.kind,Z,Z,aZ _,C.inj,λy hy=>?_,λy c h=>(by cases h),λ_=>hd,Around.frames_deeper e0.frames,.inr #[Z,Z],λb z=>absurd z (uP b),e0.bs,e0.sS,λb _ _=>uP b,λb z=>absurd z (uP b),e0.fo,e0.vi],
  rfl,e0.bare,Un.kept k,#[_,ns,λi y v mj h2 h3=>?_],λy c h=>?_,e0.aF.fresh (aZ _),fc,λp hp=>absurd (show p∈([]:List (Addr × Obj)) from hp) Z2,e0.aF.kept k,?_]
 ·have hy:scope.names.lookup y=some .cell∨scope.names.lookup y=some .free:=hy;rcases hy with hy|hy
  ·exact absurd Z (S.rO _ (o8 hy))
  ·exact C.has y (S.all y hy)
 ·have mj:(ps++cB)[i]? = some y:=mj;by_cases hi:i<ps.length
  ·rw[BG hi] at mj;rw[BG (by simpa [hl] using hi),dU] at h2;obtain⟨v',hv,e⟩:=Option.map_eq_some_iff.mp h2;cases e;obtain⟨u,hu,rv⟩:=r.get hv;refine#[u,rv,.inl #[S.par y (cn mj),?_]];have F1:ps.Nodup:=(xy.mp S.nd).1;show (ps.zip us).reverse.lookup y=some u;exact d4_ F1 mj hu
  ·rw[Aw Z1] at mj;rw[Aw (by simp[hl];omega),dU,aq,hl] at h2;obtain⟨v',hv,e⟩:=Option.map_eq_some_iff.mp h2;cases e;obtain⟨c,u,e1,rv,ce⟩:=C.is _ _ _ mj hv;exact#[u,rv,.inr #[.inr (S.fv y (cn mj)),c,e1,IsCell.keeps ce λo e=>k _ _ e]]
 ·obtain⟨v,ce⟩:=C.all y c h;exact#[v,IsCell.keeps ce λo e=>k _ _ e]
 ·show _=(ps++cB).length;rw[eF,eF,aq,aq,hl,hg]
variable{k:Nat}{c':Addr}
theorem Yb{P:Ad}{K:ag}{qual:Str}{params:Arguments}{body:PySem.Expr}{scope:Scope}{pm jK:Aa}{cl:List (Str × Addr)}{H:Hp}{Q:VK}{vs:List V}{t:TE}(S:Fj ps cB scope)(hr:aD (k+1) A)(e0:hY P w K mg base A outer s H)(hf:s.heap.get? f=some (kla_obj "<lambda>" qual params body scope cl pm c' jK))(gC:s.heap.CodeRec (.ref c') qual)(hb:bindArgs (kla_fn "<lambda>" qual params body scope cl pm (.ref c') jK) #[us,[]]=pure (ps.zip us))(hl:vs.length=ps.length)(hg:gs.length=cB.length)(r:Vals vs us)(C:G7 cB cl gs s.heap)(fc:∀x c,cl.lookup x=some c->H c=none)(ht:aD k (A.deeper (envX qual scope s.heap.objs.size f (.ref c') cl))->PE (Ba CX P w K mg base (ps++cB) qual scope f (.ref c') cl A outer s H E) body t)(hq:t (vs.map some++gs.map some) H Q) :
  codeAny (model P w) A (.call (.ref f) #[us,[]]) (CR CX outer P w H s Q E) s:=by
 have lim:s.heap.NoLimit:=e0.mod.nolimit.keeps λb o e=>(e0.bs b o e).1;refine kla_callFunE hr.depth hf Z S.co S.gen Z gC ?_;rw[hb];refine aQ (wpAny_newFunctionEnv S.rO (λx hx=>?_) (λh1 ns sb=>?_) S.kind)
 ·exact S.par x.1 (List.of_mem_zip hx).1
 have k1:∀b o,s.heap.get? b=some o->h1.get? b=some o:=λb o e=>sb.extBut b o (dc (bN e)) (bH _ e);refine#[lim.keeps k1,?_];show codeAny _ _ (.expr body (envX qual scope s.heap.objs.size f (.ref c') cl)) _ _;have I:=YZ (CX:=CX) (qual:=qual) (f:=f) (cd:=.ref c') (E:=E) (tk:=s.toks+(ps.zip us).length) S hr.hd e0 hl hg r C fc ns k1;refine kla_codeExpr (wpAny_mono (ht (hr.deeper _) [] _ _ H _ I hq) (λv s' hs=>?_) λe s' hs=>hs);obtain⟨x,H',J,rv,q⟩:=hs;exact#[x,H',J.os,J.bare,J.base,J.aF,rv,q]
def jA(f:Addr)(qual:Str)(params:Arguments)(body:PySem.Expr)(scope:Scope)(cl:List (Str × Addr))(c':Addr):HO:=.ext λh=>∃pm jK,h.get? f=some (kla_obj "<lambda>" qual params body scope cl pm c' jK)
def zQ(c':Addr)(qual:Str):HO:=.ext λh=>∃o vs t,h.get? c'=some o/\o.data=.fields vs/\vs[1]? = some (.str qual t)
inductive wb (P:Addr) (qual:Str) (params:Arguments) (body:PySem.Expr) (scope:Scope) (pos:Pos) (cl:List (Str × Addr)) (H:Hp) (Q:VK):Prop
 |mk:∀ps,H P=some (.tbl ps)->TriplesOk ps.toList->((codeAmong pos ps.toList=none/\∀c' f,H c'=none->H f=none->c'≠f->Q (.ref f) (upd (upd (upd H P (.tbl (ps++(List.toArray [rawInt pos.line,rawInt pos.col,.ref c'])))) c' (zQ c' qual)) f (jA f qual params body scope cl c')))∨∃c',codeAmong pos ps.toList=some (.ref c')/\∀f,H f=none->Q (.ref f) (upd H f (jA f qual params body scope cl c')))->wb P qual params body scope pos cl H Q
def B2(P:Addr)(qual:Str)(params:Arguments)(body:PySem.Expr)(scope:Scope)(pos:Pos)(cl:List (Str × Addr)):TE:=λ_ H Q=>wb P qual params body scope pos cl H Q
variable{X:Cx}{pos:Pos}
theorem OY{params:Arguments}{body:PySem.Expr}{scope:Scope}{cl:List (Str × Addr)}{P:Addr}(Kx:defaultsOf params X.env=([],[]))(ve:closureFor scope X.env=pure cl)(w6:X.env.code=.ref c)(C:CodeHd X.base c P)(sG:X.base.BuiltinsAt X.mg P) :
  PE X (.Lambda params body scope pos) (B2 P (X.env.qual++"<lambda>") params body scope pos cl):=by
 intro pins s σ H Q I h;obtain⟨ps,hP,ht,h⟩:=h;have Qi:s.heap.get? P=some (tabObj ps):=I.aF P _ hP
 have PY:H mainGlobals=none:=by
  obtain⟨o,_,_,e,_⟩:=I.mod.glob;exact (I.bs _ _ e).2
 refine kla_eval Kx ?_;rcases h with⟨hn,q⟩|⟨c',hf,q⟩
 ·refine kla_makeFunction ve I.ok.glob (I.mod.glob.keeps I.bk) w6 (C.keeps I.bk) Qi ht hn (λz=>by rw[z,hP] at PY;cases PY) (sG.keeps I.bk) λc' jK h' tk hx Kk cb J2 Px=>?_;have fz:s.heap.objs.size<=h'.objs.size:=oG Kk (Nat.le_of_lt cb);have nc:H c'=none:=I.aF.fresh Kk;have nf:H h'.objs.size=none:=I.aF.fresh fz;have cf:c'≠h'.objs.size:=dc cb;have Pc:P≠c':=bI hP nc;have Pf:P≠h'.objs.size:=bI hP nf
  have old:∀{b u},H b=some u->b≠P->upd (upd (upd H P (.tbl (ps++(List.toArray [rawInt pos.line,rawInt pos.col,.ref c'])))) c' (zQ c' (X.env.qual++"<lambda>"))) h'.objs.size (jA h'.objs.size (X.env.qual++"<lambda>") params body scope cl c') b=some u:=λ{b u} e n=>by
   rw[ax (bI e nf),ax (bI e nc),ax n];exact e
  have rM:∀{b u},H b=some u->(∀ps,u≠.tbl ps)->b≠P:=λ{b u} e n z=>by
   rw[z,hP] at e;cases e;exact n _ Z
  have kp:∀b o,b≠P->s.heap.get? b=some o->(h'.push (kla_obj "<lambda>" (X.env.qual++"<lambda>") params body scope cl ((X.mg "__name__").getD .none) c' jK)).get? b=some o:=λb o n e=>bH _ (hx b o n e);refine#[.ref h'.objs.size,_,I.un (t':=tk) #[λb o e n _ _=>kp b o (λz=>by rw[z,hP] at n;cases n) e,λb o e n _ _=>#[o.slots,kp b o (λz=>by rw[z,hP] at n;cases n) e],λb o e n _=>?_,λb o e _=>?_,λb xs e=>old e (rM e Z2),λb o u e=>old e (rM e Z2),λb qs e=>?_] (λb u e=>?_),Z,q c' h'.objs.size nc nf cf]
  ·have lt:=bN e;rw[ax (dc (iN lt fz)),ax (dc (iN lt Kk)),ax (λz=>by rw[z,hP] at n;cases n)];exact n
  ·by_cases z:b=P
   ·subst z;exact#[_,bH _ Px]
   ·exact#[o,kp b o z e]
  ·by_cases z:b=P
   ·subst z;rw[hP] at e;cases e;exact#[_,by rw[ax Pf,ax Pc,ay]]
   ·exact#[#[],by rw[Array.append_empty];exact old e z]
  ·by_cases z1:b=h'.objs.size
   ·subst z1;rw[ay] at e;cases e;exact#[#[_,_,dI _ Z],#[_,dI _ Z],λh1 h2 ⟨pm,cv,e1⟩ k=>#[pm,cv,k _ e1]]
   ·rw[ax z1] at e;by_cases z2:b=c'
    ·subst z2;rw[ay] at e;cases e;obtain⟨c2,oc,vs,t,ec,DJ,hd,hv⟩:=J2;cases ec;exact#[#[oc,vs,t,bH _ DJ,hd,hv],#[_,bH _ DJ],λh1 h2 ⟨o,vs,t,e1,r⟩ k=>#[o,vs,t,k _ e1,r]]
    ·rw[ax z2] at e;by_cases z3:b=P
     ·subst z3;rw[ay] at e;cases e;exact bH _ Px
     ·rw[ax z3] at e;refine (I.aF b u e).d9 (λd v hd e1=>kp d v ?_ e1) (λd e1=>old e1 (rM e1 Z2)) λd xs e1=>old e1 (rM e1 Z2);rcases hd with rfl|hd
      ·exact z3
      ·exact rM hd Z2
 ·refine kla_makeFunctionHit ve I.ok.glob (I.mod.glob.keeps I.bk) w6 (C.keeps I.bk) Qi ht hf (sG.keeps I.bk) λjK h' tk hk hsz=>?_;have nf:H h'.objs.size=none:=I.aF.fresh hsz;refine#[.ref h'.objs.size,_,I.laid (t':=tk) (λb o e=>bH _ (hk b o e)) hsz ?_,Z,q _ nf];exact#[#[_,_,dI _ Z],#[_,dI _ Z],λh1 h2 ⟨pm,cv,e1⟩ k=>#[pm,cv,k _ e1]]
variable{P:Ad}{N:List Str}
theorem uN{K:ag}{qual:Str}{scope:Scope}{cl:List (Str × Addr)}{H:Hp}:ua aR (Ba aR P w K mg base N qual scope f cd cl A outer s H E) E:=λ_ _ _ _ _ _ _ h=>h.elim
section
variable{cs:List (Addr × Obj)}{H H':Hp}{b:Addr}{o:Obj}{u:HO}
variable{P:Ad}{w:Af}{h:Heap}
end
section
variable{X:Cx}{pins:List (Addr × Obj)}{σ:St}{H:Hp}{s s':Ab}{cs:List (Addr × Obj)}
def jZ(P:Ad)(w:Af)(K:ag)(mg:Str->Option Aa)(base:Heap)(k:Nat)(qual:Str)(params:Arguments)(body:PySem.Expr)(scope:Scope)(ps cB:List Str)(sp:List V->List V->Hp->VK->XK->Prop):Prop:=
 ∀(A:Ag) (outer:List Env) (s:Ab) (H:Hp) (f c':Addr) (pm jK:Aa) (cl:List (Str × Addr)) (us:List Aa) (vs gs:List V) (Q:VK) (E:XK),aD k A->hY P w K mg base A outer s H->s.heap.get? f=some (kla_obj "<lambda>" qual params body scope cl pm c' jK)->s.heap.CodeRec (.ref c') qual->
  vs.length=ps.length->gs.length=cB.length->Vals vs us->G7 cB cl gs s.heap->(∀x c,cl.lookup x=some c->H c=none)->sp vs gs H Q E->codeAny (model P w) A (.call (.ref f) #[us,[]]) (CR aR outer P w H s Q E) s
theorem wO{K:ag}{qual:Str}{params:Arguments}{body:PySem.Expr}{scope:Scope}{sp:List V->List V->Hp->VK->XK->Prop}(S:Fj ps cB scope)(hb:∀pm c' jK cl us,us.length=ps.length->bindArgs (kla_fn "<lambda>" qual params body scope cl pm (.ref c') jK) #[us,[]]=pure (ps.zip us))(ff:∀(A:Ag) (outer:List Env) (s:Ab) (H:Hp) (f:Addr) (cd:Aa) (cl:List (Str × Addr)) (vs gs:List V) (Q:VK) (E:XK),aD k (A.deeper (envX qual scope s.heap.objs.size f cd cl))->sp vs gs H Q E->ua aR (Ba aR P w K mg base (ps++cB) qual scope f cd cl A outer s H E) E->
   ∃t,PE (Ba aR P w K mg base (ps++cB) qual scope f cd cl A outer s H E) body t/\t (vs.map some++gs.map some) H Q):jZ P w K mg base (k+1) qual params body scope ps cB sp:=by
 intro A outer s H f c' pm jK cl us vs gs Q E hr e0 hf gC hl hg r C fc j7;obtain⟨t,ht,hq⟩:=ff A outer s H f (.ref c') cl vs gs Q E (hr.deeper _) j7 uN;exact Yb S hr e0 hf gC (hb pm c' jK cl us (by rw[<- r.length];exact hl)) hl hg r C fc (λ_=>ht) hq
end
structure HS (cB:List Str) (cl:List (Str × Addr)) (cs:List (Addr × Obj)) (gs:List V):Prop where
 len:gs.length=cB.length
 inj:∀x y c,cl.lookup x=some c->cl.lookup y=some c->x=y
 has:∀x∈cB,∃c,cl.lookup x=some c
 all:∀x c,cl.lookup x=some c->∃o v,cs.lookup c=some o/\o.data=.cell v
 is:∀(i:Nat) x v,cB[i]? = some x->gs[i]? = some v->∃c o u,cl.lookup x=some c/\cs.lookup c=some o/\o.data=.cell (some u)/\RelV v u
section
variable{X:Cx}{k:Nat}{x:Str}{p pos:Pos}{tn:TE}{qual:Str}{params:Arguments}{body:PySem.Expr}{scope:Scope}{cB ps:List Str}{sp':List V->List V->Hp->VK->XK->Prop}{E:XK}
end
section
variable{X:Cx}{k:Nat}{x:Str}{p pos:Pos}{e:PySem.Expr}{es:List PySem.Expr}{ta:TA}{cB ps:List Str}{sp:Sp}{f:Addr}{fd:Ae}{cl:List (Str × Addr)}{is:List Nat}
end
variable{a:Addr}{ts:List Addr}{fd:Ae}
theorem gr_{K:ag}{mb:Str->Option Aa}{fa:Addr}{sp:Sp}{aN:Ab}{vs:List Aa}{ns:List Int}(hT:∀T∈ts,K.lookup T=none)(eT:∀T∈ts,aN.heap.get? T=some (tabObj #[]))(D8:∀T∈ts,isCodeTable aN.heap T)(KX:K.In aN.heap)(zc:aN.heap.Ns mainGlobals mg)(hb:aN.heap.Ns builtinsNs mb)(hbb:∀x:Str,x≠"__name__"->mb x=bootBuiltins x)(Ke:aN.heap.NoLimit)(hg:aN.gens=#[])(ha:aN.heap.get? a=some { cls:=.type "list",data:=.seq vs.toArray })(hi:IntsAre vs ns)(hl:ns.length<=sizeLine)(hr:aD k callerA)(sG:∃bm ob,mg "__builtins__"=some (.ref bm)/\bm≠builtinsNs/\aN.heap.get? bm=some ob/\ob.cls=.type "module"/\ob.dict=some builtinsNs/\ob.data=.plain)(F:∀base:Heap,K.In base->base.Ns mainGlobals mg->(∀T∈ts,base.BuiltinsAt mg T)->ai P w K mg base CX k fa fd [x] sp)(D9:∀(s:Ab) (u:Aa),BindsTo s fd #[[u],[]] [(x,u)])(j7:∀H:Hp,(∀T∈ts,H T=some (.tbl #[]))->dB K H a (ns.map V.int)->sp [.ref a] H (λv _=>v=.bl true) λ_ _ _=>False)(KL:∀H e s',CX [] H aN (λ_ _ _=>False) e s'->False) :
  codeAny (model P w) callerA (.call (.ref fa) #[[.ref a],[]]) (λr s'=>r=.ok (.ret (.bool true))/\OldK aN.heap s'.heap/\s'.os=aN.os/\AllBare s'.gens) aN:=by
 have rv:=Sr hi;have JA:=hi.length
 have aT:∀{b},b∈ts->b≠a:=λ{b} hb z=>by
  have:=eT b hb;rw[z,ha] at this;cases this
 have core:∀H:Hp,(∀b,H b=none∨(b∈ts/\H b=some (.tbl #[]))∨(b∉ts/\∃o xs,H b=some (.frz o (.lst xs))))->(∀T∈ts,H T=some (.tbl #[]))->dB K H a (ns.map V.int)->eX P w H aN.heap->(∀b,H b≠none->b=a∨b∈ts)->(H a≠none->K.lookup a=none)->
   codeAny (model P w) callerA (.call (.ref fa) #[[.ref a],[]]) (λr s'=>r=.ok (.ret (.bool true))/\OldK aN.heap s'.heap/\s'.os=aN.os/\AllBare s'.gens) aN:=by
  intro H hO hHT hS aF hA hK;have iL:∀{b:Addr} {o:Obj},aN.heap.get? b=some o->H b=none->(g8 aN.heap H).get? b=some o:=λe n=>ZQ e n
  have uP:∀{b:Addr} {o:Obj} {es:Array DictEntry} {ep:Nat},aN.heap.get? b=some o->o.data=.dict es ep->H b=none:=λ{b o es ep} e d=>by
   cases q:H b with
   |none=>rfl
   |some u=>
    rcases hA b (by rw[q];simp) with e'|e'
    ·subst e';rw[ha] at e;cases e;have d':Data.seq vs.toArray _=Data.dict es ep:=d;cases d'
    ·rw[eT b e'] at e;cases e;cases d
  have FY:∀{b:Addr} {m:Str->Option Aa},aN.heap.Ns b m->(g8 aN.heap H).Ns b m:=λ{b m} ⟨o,es,ep,e,d,r⟩=>#[o,es,ep,iL e (uP e d),d,r]
  have Qj:K.In (g8 aN.heap H):=λb o e=>iL (KX b o e) (by
   cases q:H b with
   |none=>rfl
   |some u=>
    rcases hA b (by rw[q];simp) with e'|e'
    ·subst e';rw[hK (by rw[q];simp)] at e;cases e
    ·rw[hT b e'] at e;cases e)
  have hB:∀T∈ts,(g8 aN.heap H).BuiltinsAt mg T:=λT hTs=>by
   obtain⟨bm,ob,h1,h2,h3,h4,h5,h6⟩:=sG
   have n1:bm≠mainGlobals:=λz=>by
    obtain⟨o,es,ep,e,d,_⟩:=zc;rw[z,e] at h3;cases h3;rw[d] at h6;cases h6
   have n2:∀{b},b∈ts->bm≠b:=λ{b} hb z=>by
    rw[z,eT b hb] at h3;cases h3;cases h6
   refine#[bm,ob,h1,h2,n1,n2 hTs,iL h3 ?_,h4,h5,h6];cases q:H bm with
   |none=>rfl
   |some u=>
    rcases hA bm (by rw[q];simp) with e'|e'
    ·subst e';rw[ha] at h3;cases h3;cases h6
    ·exact absurd Z (n2 e')
  have hM:Mod K mg (g8 aN.heap H):=#[Qj,FY zc,#[mb,FY hb,hbb],let #[mc,h1,h2]:=Ke;#[mc,FY h1,h2]];have e0:hY P w K mg (g8 aN.heap H) callerA [] aN H:=#[Z,hM,λb o e=>Y9 e,Nat.le_of_eq (gD_ _ _),trivial,λb hb=>absurd (show b∈([]:List Addr) from hb) Z2,aF,.of_eq hg];refine codeAny_mono ((F _ Qj (FY zc) hB).run callerA [] aN H #[[.ref a],[]] [.ref a] [.ref a] _ _ hr e0 (D9 aN (.ref a)) (.cons Z .nil) (j7 H hHT hS)) λr s' h=>?_;cases r with
  |error e=>exact (KL H e s' h).elim
  |ok fl=>
   cases fl with
   |next=>exact False.elim h
   |brk=>exact False.elim h
   |cont=>exact False.elim h
   |ret u=>
    obtain⟨v,H',os,bare,un,DH,r',q⟩:=h;have q':v=.bl true:=q;subst q';obtain rfl:u=Value.bool true:=r'
    have main:∀b o,aN.heap.get? b=some o->s'.heap.get? b=some o∨(b∈ts/\o=tabObj #[]/\∃more,s'.heap.get? b=some (tabObj (#[]++more))):=λb o e=>by
     cases q:H b with
     |none=>exact .inl (un.keep b o e q (by intro z;exact absurd (show b∈([]:List Addr) from z) Z2) Z2)
     |some u=>
      rcases hO b with z|⟨zT,z⟩|⟨_,ob,xs,z⟩
      ·rw[q] at z;cases z
      ·rw[eT b zT] at e;cases e;obtain⟨more,z⟩:=un.gX b _ z;exact .inr #[zT,Z,more,DH b _ z]
      ·have z2:=un.fX b ob _ z;obtain⟨e1,_⟩:=aF b _ z;obtain⟨e2,_⟩:=DH b _ z2;rw[e] at e1;cases e1;exact .inl e2
    refine#[Z,#[λb o e=>?_,λb o e=>?_],os,bare]
    ·rcases main b o e with z|⟨zT,rfl,more,z⟩
     ·exact .inl z
     ·exact .inr (.inl #[D8 b zT,Z,_,_,Z,z])
    ·rcases main b o e with z|⟨_,_,more,z⟩
     ·exact#[_,z]
     ·exact#[_,z]
 cases hk:K.lookup a with
 |some o=>
  have e:=KX a o hk;rw[ha] at e;cases e;refine core (λb=>if b∈ts then some (.tbl #[]) else none) (λb=>?_) (λT h=>aC h) (.inr #[_,vs.toArray,_,hk,Z,Z,Z,by rw[cE,JA];exact hl,by simpa using rv]) (λb u z=>?_) (λb z=>?_) λz=>absurd (ao λq=>aT q Z) z
  ·by_cases hb:b∈ts
   ·exact .inr (.inl #[hb,aC hb])
   ·exact .inl (ao hb)
  ·by_cases hb:b∈ts
   ·have z':=(aC hb).symm.trans z;cases z';exact eT b hb
   ·have z':=(ao hb).symm.trans z;cases z'
  ·by_cases hb:b∈ts
   ·exact .inr hb
   ·exact absurd (ao hb) z
 |none=>
  have T2:∀{b:Addr},b∈ts->(λb=>if b∈ts then some (.tbl #[]) else if b=a then some (HO.frz { cls:=.type "list",data:=.seq vs.toArray } (.lst (ns.map V.int))) else none) b=some (.tbl #[]):=λ{b} hb=>aC hb;refine core (λb=>if b∈ts then some (.tbl #[]) else if b=a then some (.frz { cls:=.type "list",data:=.seq vs.toArray } (.lst (ns.map V.int))) else none) (λb=>?_) (λT h=>aC h) (.inl (.inr #[{ cls:=.type "list",data:=.seq vs.toArray },(ao λq=>aT q Z).trans (aC Z)])) (λb u z=>?_) (λb z=>?_) λ_=>hk
  ·by_cases oq:b∈ts
   ·exact .inr (.inl #[oq,aC oq])
   ·by_cases hb:b=a
    ·exact .inr (.inr #[oq,_,_,(ao oq).trans (aC hb)])
    ·exact .inl ((ao oq).trans (ao hb))
  ·by_cases oq:b∈ts
   ·have z':=(aC oq).symm.trans z;cases z';exact eT b oq
   ·by_cases hb:b=a
    ·have z':=((ao oq).trans (aC hb)).symm.trans z;cases z';subst hb;exact#[ha,by rw[aq];exact hl,vs,_,rv,ha]
    ·have z':=((ao oq).trans (ao hb)).symm.trans z;cases z'
  ·by_cases oq:b∈ts
   ·exact .inr oq
   ·by_cases hb:b=a
    ·exact .inl hb
    ·exact absurd ((ao oq).trans (ao hb)) z
variable{T:Addr}
theorem fU_{K:ag}(h:T∉K.map (·.1)):K.lookup T=none:=by
 induction K with
 |nil=>rfl
 |cons p K ih=>
  obtain⟨b,o⟩:=p;simp only[dN,bO,not_or] at h;rw[sX,show (T == b)=false by simpa using h.1];exact ih h.2
variable{n:Nat}
theorem p7{l:PySem.W.OpenLaw}{q:Ad}{loose:List Str}{XP:(Str->Option Aa)->Heap->Prop}{d:DefRec}{K:Params->ag}{as:List Addr}{GD:∀P:Params,as=(K P).map (·.1)}{CX:Af->uh}{sp:Af->Sp}(hn:l.most=some n)(zd:n<=sizeLine)(jF:d.params.defaults=[])(hr:aD k callerA)(JW:(ts.all λT=>!as.contains T)=true)(F:∀(w:Af) (mg:Str->Option Aa) (fa:Addr) (h:Heap),(K w.params).In h->h.Ns mainGlobals mg->mg d.name=some (.ref fa)->
   ∃fd:Ae,(∀(s:Ab) (u:Aa),BindsTo s fd #[[u],[]] [(x,u)])/\(∀T∈ts,isCodeTable h T) /\
    ∀base:Heap,(K w.params).In base->base.Ns mainGlobals mg->(∀T∈ts,base.BuiltinsAt mg T)->ai l.prog w (K w.params) mg base (CX w) k fa fd [x] (sp w))(j7:∀(w:Af) (H:Hp) (a:Addr) (ns:List Int),ns.length<=n->(∀T∈ts,H T=some (.tbl #[]))->dB (K w.params) H a (ns.map V.int)->sp w [.ref a] H (λv _=>v=.bl true) λ_ _ _=>False)(KL:∀(w:Af) (H:Hp) (s:Ab) (e:Aa) (s':Ab),CX w [] H s (λ_ _ _=>False) e s'->False) :
  PySem.W.WalkO q loose XP (kmHook K as GD ts).says l.row.toRowW d [] (λf vs=>PySem.call f vs):=by
 refine TK.jS hn jF λw b_ aN mg mb fa o pm cd doc a vs ns G Y ho hd gC hmg yZ hints hlen hg=>?_;have KX:(K w.params).In aN.heap:=km_in_of Y;have eT:∀T∈ts,aN.heap.get? T=some (tabObj #[]):=Y.2;obtain⟨fd,hb,D8,hF⟩:=F w mg fa _ KX G.T.g hmg;refine gr_ (λT h=>fU_ ?_) eT D8 KX G.T.g G.T.b G.T.builtins G.T.nolimit hg yZ hints (oG hlen zd) hr G.T.bmain hF hb (λH hO hS=>j7 w H a ns hlen hO hS) λH e s'=>KL w H aN e s';have:=List.all_eq_true.mp JW T h;rw[<- GD w.params];simpa using this
open PySem.W in
def mB:List (Pos × Addr)->List Aa
 |[]=>[]
 |(p,c)::es=>rawInt p.line::rawInt p.col::.ref c::mB es
def eE(H:Hp)(T:Addr)(qual:Str):Prop:=∃es:List (Pos × Addr),H T=some (.tbl (mB es).toArray)/\∀e∈es,H e.2=some (zQ e.2 qual)
variable{H':Hp}
theorem eE.same{H:Hp}{qual:Str}(s:aa H H')(h:eE H T qual):eE H' T qual:=by
 obtain⟨es,a,b⟩:=h;exact#[es,s _ _ a,λe he=>s _ _ (b e he)]
theorem Rj:∀es:List (Pos × Addr),TriplesOk (mB es)
 |[]=>trivial
 |(p,c)::es=>by
  have:=Rj es;simp[mB,TriplesOk,rawInt,this]
theorem Ry:∀(es:List (Pos × Addr)) (p:Pos) (c:Addr),mB (es++[(p,c)])=mB es++[rawInt p.line,rawInt p.col,.ref c]
 |[],p,c=>rfl
 |(p',c')::es,p,c=>by
  show rawInt p'.line::rawInt p'.col::.ref c'::mB (es++[(p,c)])=_;rw[Ry es p c];rfl
theorem Tc(pos:Pos):∀es:List (Pos × Addr),codeAmong pos (mB es)=none∨∃e∈es,codeAmong pos (mB es)=some (.ref e.2)
 |[]=>.inl Z
 |(p,c)::es=>by
  by_cases h:codeAmong pos (mB ((p,c)::es))=some (.ref c)
  ·exact .inr #[(p,c),dO,h]
  ·have e:codeAmong pos (mB ((p,c)::es))=codeAmong pos (mB es):=by
    show codeAmong pos (rawInt p.line::rawInt p.col::.ref c::mB es)=_;have h:¬codeAmong pos (rawInt p.line::rawInt p.col::.ref c::mB es)=some (.ref c):=h;simp only[codeAmong,rawInt] at h ⊢;split at h
    ·exact absurd Z h
    ·rename_i q
     rw[ao q]
   rcases Tc pos es with q|⟨x,hx,q⟩
   ·exact .inl (e.trans q)
   ·exact .inr #[x,dP _ hx,e.trans q]
open Fu
variable{E:Aa->Ab->Prop}{B:Ag}{H0:Hp}{kf:V->List Key}
section
variable{X:Cx}{pins:List (Addr × Obj)}{σ:St}{H:Hp}{s:Ab}
theorem Inv.xJ{t':Nat}{fp:List Addr}{ys:List V}{its:List Aa}(I:Inv X pins σ H s)(k:∀b o,b∉fp->s.heap.get? b=some o->h'.get? b=some o)(hf:∀b∈fp,ck X pins H b)(hT:T∈fp)(hz:ys.length<=sizeLine)(r:Vals ys its)(ht:h'.get? T=some { cls:=.type "list",data:=.seq its.toArray n }):Inv X pins σ (upd H T (.lst ys)) { s with heap:=h',toks:=t' }:=by
 have fT:H T=none:=(hf T hT).1;have nf:∀b u,H b=some u->b∉fp:=λb u e hb=>by rw[(hf b hb).1] at e;cases e
 have old:∀{b u},H b=some u->upd H T (.lst ys) b=some u:=λe=>by rw[ax (bI e fT)];exact e
 refine I.step (g':=s.gens) (d':=s.drawn) (ch:=fp) (λb hb=>?_) (λb o _ _ hc e _=>k b o hc e) (λb o _ _ hc e _=>#[o.slots,k b o hc e]) (λb o hc e n=>?_)
  (λb o hc e=>#[o,k b o hc e]) (λb ys e=>old e) (λb o u e=>old e) (λb ps e=>#[#[],by rw[Array.append_empty];exact old e]) (λm hm=>?_) (λb u e=>?_) I.bare
 ·obtain⟨f0,f1,f2,f3,f4,f5⟩:=hf b hb;exact#[f3,f1,f4,f5]
 ·rw[ax (λz=>hc (by rw[z];exact hT))];exact n
 ·obtain⟨o,es,ep,ho,r⟩:=hm;exact#[o,es,ep,k _ o (λhb=>(hf _ hb).2.1 Z) ho,r]
 ·by_cases z:b=T
  ·subst z;rw[ay] at e;cases e;exact#[hz,its,n,r,ht]
  ·rw[ax z] at e;refine (I.aF b u e).d9 (λc v hc q=>k c v ?_ q) (λ_ q=>old q) λ_ _ q=>old q;rcases hc with z|z
   ·rw[z];exact nf b u e
   ·exact nf c _ z
theorem ck.at{b:Addr}(f:ck X pins H b)(n:H' b=none):ck X pins H' b:=#[n,f.2]
def oI(X:Cx)(σ:St)(B:Ag)(fv:Aa)(H0:Hp)(kf:V->List Key)(xs:List V):Prop:=
 ∀(pins:List (Addr × Obj)) (H:Hp) (s:Ab) (x:V) (u:Aa),Inv X pins σ H s->aa H0 H->x∈xs->RelV x u->
  wpAny (model X.prog X.w) B (call fv [u]) (EP X pins σ λv H'=>aa H H'/\∃t,v=.ref t/\H' t=some (.tup ((kf x).map kV))) (λ_ _=>False) s
theorem YO{fv:Aa}{kS:Addr}{e1:Nat}{all:List V}{Q:PUnit->Ab->Prop}{body:Aa->PUnit->Sem (ForInStep PUnit)}(jC:a≠kS)(jN:oI X σ B fv H0 kf all)(hb:∀(u:Aa) (s:Ab) (Qb:ForInStep PUnit->Ab->Prop),wpAny (model X.prog X.w) B (call fv [u]) (λk s'=>wpAny (model X.prog X.w) B (Builtin.List.listUpdate (.ref kS) (·.push k)) (λ_ pE=>Qb (.yield ⟨⟩) pE) E s') (λ_ _=>False) s->wpAny (model X.prog X.w) B (body u ⟨⟩) Qb E s) :
  ∀(xs:List V) (us:List Aa) (ks:List V) (kvs:List Aa) (kk:List (List Key)) (H:Hp) (s:Ab) (c:Nat),Vals xs us->(∀x∈xs,x∈all)->Inv X pins σ H s->aa H0 H->ck X pins H a->ck X pins H kS->s.heap.get? a=some (seqObj "list" #[] e1)->s.heap.get? kS=some (seqObj "list" kvs.toArray c)->
   Vals ks kvs->aY X.K H ks kk->kvs.length+us.length<64->
   (∀H' s' eP c',Inv X pins σ H' s'->aa H0 H'->ck X pins H' a->ck X pins H' kS->s'.heap.get? a=some (seqObj "list" #[] e1)->s'.heap.get? kS=some (seqObj "list" eP.toArray c')->eP.length=kvs.length+us.length->(∃rT,Vals rT eP/\aY X.K H' rT (kk++xs.map kf))->Q ⟨⟩ s')->
   wpAny (model X.prog X.w) B (forIn us PUnit.unit body) Q E s:=by
 intro xs
 induction xs with
 |nil=>
  intro us ks kvs kk H s c rv _ I sm fa fk ha hk r t _ q;cases rv;rw[List.forIn_nil];exact aQ (q H s kvs c I sm fa fk ha hk Z2 #[ks,r,by simpa using t])
 |cons x xs ih=>
  intro us ks kvs kk H s c rv hx I sm fa fk ha hk r t hz q
  obtain⟨u,us,rfl,ru,rr⟩:∃u NL,us=u::NL/\RelV x u/\Vals xs NL:=by
   cases rv with
   |cons h t=>exact#[_,_,Z,h,t]
  rw[List.forIn_cons];rw[hX] at hz;refine aj (hb u s _ ?_)
  have hf:∀b∈[a,kS],ck X pins H b:=λb hb=>by
   rcases bO.mp hb with rfl|hb
   ·exact fa
   ·obtain rfl:b=kS:=by simpa using hb
    exact fk
  have I1:=I.pinned (fp:=[a,kS]) hf (λb hb=>by
   rcases bO.mp hb with rfl|hb
   ·exact#[_,ha,λv z=>by cases z]
   ·obtain rfl:b=kS:=by simpa using hb
    exact#[_,hk,λv z=>by cases z])
  refine wpAny_mono (jN _ H s x u I1 sm (hx x dO) ru) (λk s1 ⟨v,H1,J,rv,FQ,tk,ev,etk⟩=>?_) λ_ _ z=>z
  have pa:(a,seqObj "list" #[] e1)∈vB [a,kS] s.heap:=by
   unfold vB;exact ue.mpr #[a,by simp,by rw[ha];rfl]
  have pk:(kS,seqObj "list" kvs.toArray c)∈vB [a,kS] s.heap:=by
   unfold vB;exact ue.mpr #[kS,by simp,by rw[hk];rfl]
  obtain⟨KH,V9,_⟩:=J.pin _ (mO _ (mO _ pa));obtain⟨Gk,V1,_⟩:=J.pin _ (mO _ (mO _ pk));have KH:s1.heap.get? a=some (seqObj "list" #[] e1):=KH;have Gk:s1.heap.get? kS=some (seqObj "list" kvs.toArray c):=Gk;have J0:=J.d7;have fa1:=fa.at (H':=H1) V9;have QY:=fk.at (H':=H1) V1;have F6:kvs.length<64:=by omega
  refine listUpdate_at Gk Z ?_ (by rw[cE,bU];omega) (oG (Nat.le_of_eq (Array.size_push ..)) (by rw[cE,bU];omega));have CK:∀b o,b∉[kS]->s1.heap.get? b=some o->(s1.heap.update kS (Obj.mapSeq (·.push k))).get? b=some o:=λb o hb e=>(tP _ _ (λz=>hb (by simp[z]))).trans e;have ea:kvs.toArray.push k=(kvs++[k]).toArray:=by simp
  obtain⟨c2,A3⟩:∃c2,(s1.heap.update kS (Obj.mapSeq (·.push k))).get? kS=some (seqObj "list" (kvs++[k]).toArray c2):=#[_,by rw[<- ea];exact get?_update_seq Gk (·.push k)]
  have I2:Inv X pins σ H1 { s1 with heap:=s1.heap.update kS (Obj.mapSeq (·.push k)) }:=J0.ip (t':=s1.toks) (fp:=[kS]) CK (λb hb=>by
   obtain rfl:b=kS:=by simpa using hb
   exact QY)
  subst ev;refine ih us (ks++[.ref tk]) (kvs++[k]) (kk++[kf x]) H1 _ c2 rr (λy hy=>hx y (dP _ hy)) I2 (sm.trans FQ) fa1 QY ?_ A3 (r.append (.cons rv .nil)) ?_ (by rw[eF,List.length_singleton];omega) λH' s' eP c' a1 a2 a3 a4 a5 a6 a7 a8=>?_
  ·exact CK a _ (by simpa using jC) KH
  ·exact Paired.snoc (t.same FQ) #[tk,Z,etk]
  ·refine q H' s' eP c' a1 a2 a3 a4 a5 a6 (by rw[a7,eF,List.length_singleton,hX];omega) ?_;obtain⟨rT,b1,b2⟩:=a8;exact#[rT,b1,by simpa using b2]
end
variable{xs:List V}
variable{sh:List Bool}
section
variable{X:Cx}{pins:List (Addr × Obj)}{σ:St}{H:Hp}{s:Ab}{B:Ag}
theorem Yt{zs:List V}{p:Array Nat}(g:Good xs.length p)(up:Up (λi j=>bx ((xs.map kf).getD i []) ((xs.map kf).getD j [])) p xs.length)(ez:zs=p.toList.map λi=>xs.getD i .non):zs.Perm xs/\zs.map kf=aP (xs.map kf):=by
 have gk:Good (xs.map kf).length p:=by rw[aq];exact g
 have asc:=K1 (ks:=xs.map kf) (λi j _ _=>rfl) gk (by rw[aq];exact up)
 have perm:(p.toList.map λi=>(xs.map kf).getD i []).Perm (xs.map kf):=by
  have:=E3 gk λi=>(xs.map kf).getD i [];rwa [Fh] at this
 have es:=M0 perm asc;refine#[?_,?_]
 ·have:=E3 (n:=xs.length) g λi=>xs.getD i .non;rw[Fh] at this;rw[ez];exact this
 ·rw[<- es,ez,bK];refine pA λi hi=>?_;have m:i∈(List.range xs.length).toArray:=g.mem_iff.mp (by simpa using hi);have m:i<xs.length:=by simpa using m
  show kf (xs.getD i .non)=(xs.map kf).getD i [];simp[List.getD,m]
theorem gR_{P:PySem.Fin->Ab->Prop}(I:Inv X pins σ H s)(fa:ck X pins H a)(ho:s.heap.get? a=some (seqObj "list" us.toArray n))(r:Vals xs us)(cg:us.length<64)(al:zR (xs.map kf) sh)(jN:oI X σ B (.ref f) H kf xs)(h:∀zs H' s',Inv X pins σ (upd H' a (.lst zs)) s'->aa H H'->H' a=none->zs.Perm xs->zs.map kf=aP (xs.map kf)->P (.done (.ret .none)) s'):wpAny (model X.prog X.w) B (ksk_tree a (.ref f) false) P E s:=by
 have lx:=r.length;obtain⟨e1,AY⟩:∃e1,(s.heap.update a (Obj.mapSeq λ_=>(#[]:Array Aa))).get? a=some (seqObj "list" #[] e1):=#[_,get?_update_seq ho λ_=>#[]];have CK:∀b o,b∉[a]->s.heap.get? b=some o->(s.heap.update a (Obj.mapSeq λ_=>(#[]:Array Aa))).get? b=some o:=λb o hb e=>(tP _ _ (λz=>hb (by simp[z]))).trans e
 have I1:Inv X pins σ H { s with heap:=s.heap.update a (Obj.mapSeq λ_=>(#[]:Array Aa)) }:=I.ip (t':=s.toks) (fp:=[a]) CK (λb hb=>by
  obtain rfl:b=a:=by simpa using hb
  exact fa)
 unfold ksk_tree;refine aj (listItems_at ho Z ?_);refine aj (listUpdate_at ho Z ?_ (by rw[cE,bU];omega) (fB _));refine aj (seqEpoch_at AY Z ?_);refine aj (wpAny_newTuple ?_ (by show us.length<=_;rw[bU];omega));refine aj (wpAny_newList ?_ (fB _));refine gO ?_;have I2:Inv X pins σ H { s with heap:=(s.heap.update a (Obj.mapSeq λ_=>(#[]:Array Aa))).push (seqObj "tuple" us.toArray 0) }:=I1.kept (t':=s.toks) λb u e=>bH _ e;have I3:Inv X pins σ H { s with heap:=((s.heap.update a (Obj.mapSeq λ_=>(#[]:Array Aa))).push (seqObj "tuple" us.toArray 0)).push (seqObj "list" #[] 0) }:=I2.kept (t':=s.toks) λb u e=>bH _ e;have fk:ck X pins H ((s.heap.update a (Obj.mapSeq λ_=>(#[]:Array Aa))).push (seqObj "tuple" us.toArray 0)).objs.size:=I2.hJ (aZ _) (I2.aF.fresh (aZ _));have pN:(((s.heap.update a (Obj.mapSeq λ_=>(#[]:Array Aa))).push (seqObj "tuple" us.toArray 0)).push (seqObj "list" #[] 0)).get? a=some (seqObj "list" #[] e1):=bH _ (bH _ AY);have Ki:(((s.heap.update a (Obj.mapSeq λ_=>(#[]:Array Aa))).push (seqObj "tuple" us.toArray 0)).push (seqObj "list" #[] 0)).get? ((s.heap.update a (Obj.mapSeq λ_=>(#[]:Array Aa))).push (seqObj "tuple" us.toArray 0)).objs.size=some (seqObj "list" #[] 0):=dI _ Z;have jC:a≠((s.heap.update a (Obj.mapSeq λ_=>(#[]:Array Aa))).push (seqObj "tuple" us.toArray 0)).objs.size:=dc (bN (bH (seqObj "tuple" us.toArray 0) AY));show wpAny (model X.prog X.w) B (ksk_rest a (.ref f) false us.toArray e1 (.ref ((s.heap.update a (Obj.mapSeq λ_=>(#[]:Array Aa))).push (seqObj "tuple" us.toArray 0)).objs.size)) P E { s with heap:=((s.heap.update a (Obj.mapSeq λ_=>(#[]:Array Aa))).push (seqObj "tuple" us.toArray 0)).push (seqObj "list" #[] 0) };generalize ((s.heap.update a (Obj.mapSeq λ_=>(#[]:Array Aa))).push (seqObj "tuple" us.toArray 0)).objs.size=kS at fk Ki jC ⊢;generalize ((s.heap.update a (Obj.mapSeq λ_=>(#[]:Array Aa))).push (seqObj "tuple" us.toArray 0)).push (seqObj "list" #[] 0)=h3 at I3 pN Ki ⊢;clear I2 I1 CK;unfold ksk_rest;refine aj (wpAny_rule ?_);rw[List.forIn_toArray];refine aj (YO (pins:=pins) (E:=E) (e1:=e1) jC jN (λu s4 Qb hq=>?_) xs us [] [] [] H _ 0 r (λx hx=>hx) I3 (aa.refl H) fa fk pN Ki .nil .nil (by simpa using cg) λH5 s5 kvs c5 I5 U4 Q_ fk5 ha5 PR lk ⟨ks,rk,tk⟩=>?_)
 ·refine aj (wpAny_attempt (wpAny_mono hq (λk pE hk=>?_) λ_ _ hF=>hF.elim));exact aj (wpAny_mono hk (λ_ s6 h6=>aQ h6) λ_ _ z=>z)
 rw[List.nil_append] at tk;rw[sW,Nat.zero_add] at lk;refine aj (listItems_at PR Z ?_)
 have tail:∀(p:Array Nat) (st:SortSt),Good xs.length p->Up (λi j=>bx ((xs.map kf).getD i []) ((xs.map kf).getD j [])) p xs.length->(arrOf st).map (·.2)=(mC p us).toArray->failedOf st=none->wpAny (model X.prog X.w) B (ksk_tail a false e1 (.ref kS) st) P E s5:=λp st g up J6 zp=>by
  have gu:Good us.length p:=by rw[<- lx];exact g
  have hz:(mC p us).length=us.length:=by
   unfold mC;rw[aq,mN];exact gu.size
  have s1:=Heap.SameBut.update s5.heap kS (Obj.mapSeq λ_=>(#[]:Array Aa));have KG:(s5.heap.update kS (Obj.mapSeq λ_=>(#[]:Array Aa))).get? a=some (seqObj "list" #[] e1):=(tP _ _ (Ne.symm jC)).trans ha5;unfold ksk_tail;dsimp only;rw[J6];refine aj (listUpdate_at PR Z ?_ (by rw[cE,bU];omega) (fB _));refine aj (wpAny_letGo ?_);refine aj (seqEpoch_at KG Z ?_);simp only[iM,if_false];refine aj (listUpdate_at KG Z ?_ (fB _) (by rw[cE,hz,bU];omega));rw[zp];simp only[bne_self_eq_false,iM,if_false]
  have zl:(p.toList.map λi=>xs.getD i .non).length<=sizeLine:=by
   rw[aq,mN,g.size,bU];omega
  obtain⟨pz,ek⟩:=Yt (zs:=p.toList.map λi=>xs.getD i .non) g up Z;refine aQ (h _ H5 _ (I5.xJ (t':=s5.toks) (fp:=[a,kS]) (T:=a) (λb o hb e=>?_) (λb hb=>?_) Z2 zl (Ll r gu) (get?_update_seq KG _)) U4 Q_.1 pz ek)
  ·have n1:b≠a:=λz=>hb (by simp[z]);have n2:b≠kS:=λz=>hb (by simp[z]);exact (tP _ _ (Ne.symm n1)).trans ((tP _ _ (Ne.symm n2)).trans e)
  ·rcases bO.mp hb with rfl|hb
   ·exact Q_
   ·obtain rfl:b=kS:=by simpa using hb
    exact fk5
 unfold ksk_end;dsimp only;simp only[iM,if_false];by_cases h2:us.toArray.size<2
 ·rw[aC h2,aC h2];refine aj (aQ ?_);rw[StateT.run_pure];refine aj (aQ (tail (List.range xs.length).toArray _ (Array.Perm.refl _) (λi j ma hj=>?_) ?_ Z))
  ·have e:i=j:=by
    simp only[cE] at h2;omega
   subst e;exact Lh _
  ·show ((kvs.toArray.zip us.toArray).map λx:Keyed=>x.2)=_;rw[show xs.length=us.length from lx,SH];apply Array.ext';simp[List.map_snd_zip,lk]
 ·rw[ao h2,ao h2]
  have iY:2<=us.length:=by
   simp only[cE] at h2;omega
  obtain⟨κ,hk,hc⟩:=RQ (A:=B) (s':=s5) I5 rk tk al Z1 (λ_ _ e=>e);refine aj (wpAny_mono (hk (λk s'=>k=κ/\s'=s5) #[Z,Z]) (λk s7 DT=>?_) λ_ _ x=>x.elim);obtain⟨rfl,rfl⟩:=DT;have O:Ord (λi j=>bx ((xs.map kf).getD i []) ((xs.map kf).getD j [])):=LL _
  refine aj (wpAny_mono (kat_run (ks:=kvs) (vs:=us) (G:=λp s'=>s'=s7/\Good us.length p/\Up (λi j=>bx ((xs.map kf).getD i []) ((xs.map kf).getD j [])) p us.length)
   (Q:=λdY s'=>∃p:Array Nat,arrOf dY=p.map (kas_item (kvs.toArray.zip us.toArray))/\failedOf dY=none/\s'=s7/\Good us.length p/\Up (λi j=>bx ((xs.map kf).getD i []) ((xs.map kf).getD j [])) p us.length)
   lk iY cg (λp dY s' _ q1 q2 q3=>#[p,q1,q2,q3]) (Ok.wp (n:=us.length) (λi j C hi hj=>hc i j C Z1 Z1) (λp q=>#[Z,q]) (QJ O Z1))) ?_ λ_ _ x=>x)
  rintro⟨⟨⟩,dY⟩ s' ⟨p,KD,hf,j8,g,u⟩;subst j8;rw[<- lx] at g u;exact tail p dY g u (kat_snds lk KD) hf
end
section
variable{X:Cx}{pins:List (Addr × Obj)}{σ:St}{H:Hp}{s:Ab}
theorem Inv.sN{cl:List (Str × Addr)}{is:List Nat}(I:Inv X pins σ H s)(pM:∀q∈cl,X.env.cells.lookup q.1=some q.2)(ve:∀x∈cB,∃c,cl.lookup x=some c)(DV:∀x∈cB,X.env.scope.names.lookup x=some .cell)(hN:is.map (λi=>X.N[i]?)=cB.map some)(A0:is.map (λi=>σ[i]?)=gs.map (λv=>some (some v))):gs.length=cB.length/\G7 cB cl gs s.heap/\∀x c,cl.lookup x=some c->H c=none:=by
 have lk:∀{x c},cl.lookup x=some c->(x,c)∈cl:=λe=>o8 e;refine#[?_,#[λa b c h1 h2=>I.ok.inj a b c (pM _ (lk h1)) (pM _ (lk h2)),ve,λa c h1=>I.cell a c (pM _ (lk h1)),λj a v h1 h2=>?_],λx c e=>I.dM x c (pM _ (lk e))]
 ·have a:=dF List.length A0;have b:=dF List.length hN;simp only[aq] at a b;omega
 ·obtain⟨c,hc⟩:=ve a (cn h1);have e1:(is.map λi=>X.N[i]?)[j]? = some (some a):=by rw[hN,dU,h1];rfl
  have e2:(is.map λi=>σ[i]?)[j]? = some (some (some v)):=by rw[A0,dU,h2];rfl
  rw[dU] at e1 e2;obtain⟨i,hi,e1⟩:=Option.map_eq_some_iff.mp e1;rw[hi] at e2;have e2:σ[i]? = some (some v):=dW e2;obtain⟨m,_,hl⟩:=I.loc;have kd:=DV a (cn h1);obtain⟨u,ru,lo⟩:=hl i a v e1 e2 (.inr (.inl kd));rcases lo with⟨z,_⟩|⟨_,c2,e3,o,e4,e5⟩
  ·have z:X.env.scope.names.lookup a=some .local:=z;rw[kd] at z;cases z
  ·rw[pM _ (lk hc)] at e3;cases e3;exact#[c,u,hc,ru,o,e4,e5]
theorem YQ{qual:Str}{params:Arguments}{body:PySem.Expr}{scope:Scope}{p:Str}{sp:List V->List V->Hp->VK->XK->Prop}{cl:List (Str × Addr)}{is:List Nat}(F:jZ X.prog X.w X.K X.mg X.base k qual params body scope [p] cB sp)(hr:aD k B)(hB:B.frames=X.A.frames)(hf:H0 f=some (jA f qual params body scope cl c'))(hc:H0 c'=some (zQ c' qual))(pM:∀q∈cl,X.env.cells.lookup q.1=some q.2)(ve:∀x∈cB,∃c,cl.lookup x=some c)(DV:∀x∈cB,X.env.scope.names.lookup x=some .cell)(hN:is.map (λi=>X.N[i]?)=cB.map some)(A0:is.map (λi=>σ[i]?)=gs.map (λv=>some (some v)))(j7:∀H x,aa H0 H->x∈xs->sp [x] gs H (λv H'=>aa H H'/\∃t,v=.ref t/\H' t=some (.tup ((kf x).map kV))) (λ_ _ _=>False)):oI X σ B (.ref f) H0 kf xs:=by
 intro pins H s x u I sm hx ru;obtain⟨⟨pm,jK,ef⟩,_⟩:=I.aF f _ (sm _ _ hf);obtain⟨⟨oc,Fw,t,ec,d1,d2⟩,_⟩:=I.aF c' _ (sm _ _ hc);obtain⟨hg,C,fc⟩:=I.sN pM ve DV hN A0;have e0:=I.zH;refine wpAny_call (codeAny_mono (F B X.stack s H f c' pm jK cl [u] [x] gs _ _ hr #[hB.trans e0.frames,e0.mod,e0.bs,e0.sS,e0.fo,e0.vi,e0.aF,e0.bare] ef #[c',oc,Fw,t,Z,ec,d1,d2] Z hg (.cons ru .nil) C fc (j7 H x sm hx)) λr s' hq=>?_);cases r with
 |error e=>exact hq.elim
 |ok fl=>
  cases fl with
  |ret u=>exact I.after hq
  |next=>exact False.elim hq
  |brk=>exact False.elim hq
  |cont=>exact False.elim hq
theorem sortedK{x:Aa}{Q:VK}(I:Inv X pins σ H s)(cg:xs.length<64)(al:zR (xs.map kf) sh)(jN:oI X σ X.A.in1.in1 (.ref f) H kf xs)(mh:∀R:List Aa->Ab->Prop,(∀vs s1,Inv X pins σ H s1->Vals xs vs->R vs s1)->wpAny (model X.prog X.w) X.A.in1 (collect x) R E s)(q:∀l zs H',aa H H'->H' l=none->H l=none->zs.Perm xs->zs.map kf=aP (xs.map kf)->Q (.ref l) (upd H' l (.lst zs))):wpAny (model X.prog X.w) X.A (call (.builtin "sorted") [x] [(Str.ofString "key",.ref f)]) (EP X pins σ Q) E s:=by
 refine call_function_entry_kw kind_sorted plain_sorted entry_sorted (ksk_s1 _ _) ?_;unfold Builtin.«sorted»;refine aj (m:=checkCount "sorted" 1 1 _) (aQ ?_);refine aj (mh _ λvs s1 I1 r=>?_);have lv:=r.length;refine aj (wpAny_newList ?_ (by rw[bU];omega));have Gi:(s1.heap.push (seqObj "list" vs.toArray 0)).get? s1.heap.objs.size=some (seqObj "list" vs.toArray 0):=dI _ Z;have I2:Inv X pins σ H { s1 with heap:=s1.heap.push (seqObj "list" vs.toArray 0) }:=I1.kept (t':=s1.toks) λb u e=>bH _ e;have fa:ck X pins H s1.heap.objs.size:=I1.hJ (aZ _) (I1.aF.fresh (aZ _));have nl:H s1.heap.objs.size=none:=I1.aF.fresh (aZ _);refine aj (gO (wpAny_call_entry_kw slot_list_sort #[_,Gi,Z] entry_list_sort ?body (ksk_l1 _ _)))
 case body=>
  show wpAny (model X.prog X.w) X.A.in1.in1 (Builtin.«list.sort» #[[.ref s1.heap.objs.size],[(Str.ofString "key",.ref f)]]) _ _ _;rw[ksk_t1];refine gR_ (s:={ s1 with heap:=s1.heap.push (seqObj "list" vs.toArray 0) }) I2 fa Gi r Z1 al jN λzs H' s' I' sm na pz ek=>?_;exact#[_,Z,aQ #[_,Z,.ref _,_,I',Z,q _ zs H' sm na nl pz ek]]
end
def NB(K:ag)(H:Hp)(x:V)(xs:List V):Prop:=(∃l,x=.ref l/\dB K H l xs)∨∃d kvs,x=.ref d/\H d=some (.dK kvs)/\xs=kvs.map λkv=>kV kv.1
inductive mY (K:ag) (qual:Str) (params:Arguments) (body:PySem.Expr) (scope:Scope) (cl:List (Str × Addr)) (is:List Nat) (sp:List V->List V->Hp->VK->XK->Prop) (t:TA) (σ:St) (H:Hp) (Q:VK) (vs:List V) (ws:List V) (H2:Hp):Prop
 |mk:∀x f c' xs kf sh gs,vs=[x]->ws=[.ref f]->H2 f=some (jA f qual params body scope cl c')->H2 c'=some (zQ c' qual)->NB K H2 x xs->xs.length<64->zR (xs.map kf) sh->is.map (λi=>σ[i]?)=gs.map (λv=>some (some v))->(∀H x,aa H2 H->x∈xs->sp [x] gs H (λv H'=>aa H H'/\∃t,v=.ref t/\H' t=some (.tup ((kf x).map kV))) (λ_ _ _=>False))->(∀l zs H',aa H2 H'->H' l=none->H2 l=none->zs.Perm xs->zs.map kf=aP (xs.map kf)->Q (.ref l) (upd H' l (.lst zs)))->mY K qual params body scope cl is sp t σ H Q vs ws H2
def xM(K:ag)(qual:Str)(params:Arguments)(body:PySem.Expr)(scope:Scope)(cl:List (Str × Addr))(is:List Nat)(sp:List V->List V->Hp->VK->XK->Prop)(t tk:TA):TE:=λσ H Q=>t σ H λvs H1=>tk σ H1 λws H2=>mY K qual params body scope cl is sp t σ H Q vs ws H2
variable{qual:Str}
theorem Re{e:PySem.Expr}{t tk:TA}{p kp rR:Pos}{params:Arguments}{body:PySem.Expr}{scope:Scope}{px:Str}{sp:List V->List V->Hp->VK->XK->Prop}{cl:List (Str × Addr)}{is:List Nat}(hc:X.calm=true)(hg:Gl X "sorted")(hm:X.mg "sorted"=none)(ha:PA X [e] t)(hkw:PK X [#[some "key",.Lambda params body scope rR,kp]] tk)(F:jZ X.prog X.w X.K X.mg X.base k qual params body scope [px] cB sp)(hr:aD (k+2) X.A)(pM:∀q∈cl,X.env.cells.lookup q.1=some q.2)(ve:∀x∈cB,∃c,cl.lookup x=some c)(DV:∀x∈cB,X.env.scope.names.lookup x=some .cell)(hN:is.map (λi=>X.N[i]?)=cB.map some)(he:starEach [e] X.env=[(false,eval e X.env)]:=by rfl)(fj:(backToKw pos (keywordEach [#[some "key",.Lambda params body scope rR,kp]] X.env)).all (·.1.isSome)=true:=by rfl)(DT:(backToKw pos (keywordEach [#[some "key",.Lambda params body scope rR,kp]] X.env)).filterMap (·.1)=[Str.ofString "key"]:=by rfl)(hkn:(backToKw pos (keywordEach [#[some "key",.Lambda params body scope rR,kp]] X.env)).any (·.1.isNone)=false:=by rfl):PE X (.Call (.Name "sorted" p) [e] [#[some "key",.Lambda params body scope rR,kp]] pos) (xM X.K qual params body scope cl is sp t tk):=by
 intro pins s σ H Q I h;refine tO (tZ I hg hm He ?_);have hA:=ha pos pins s σ H _ I h;rw[he] at hA ⊢;refine callWith_builtin_kwB (first:=[]) Z hkn (evalArgs_kwB fj (aJ hA λus s1 ⟨vs,H1,I1,r1,q1⟩=>?_));refine aJ (hkw pos pins s1 σ H1 _ I1 q1) λws s2 ⟨zs,H2,I2,rz,x,f,c',xs,kf,sh,gs,ev,ez,hf,gC,src,cg,al,A0,j7,q⟩=>?_;subst ev ez;obtain⟨u,rfl,ru⟩:=Vals.one r1;obtain⟨fv,rfl,rf⟩:=Vals.one rz;cases rf;rw[DT];have hd:X.A.in1.handled=none:=I.ok.hd hc;refine sortedK I2 cg al (YQ F hr.in1.in1 Z hf gC pM ve DV hN A0 j7) (λR hR=>?_) q;rcases src with⟨l,rfl,hl⟩|⟨d,kvs,rfl,hd2,rfl⟩
 ·cases ru;exact Zg I2 hl Z1 hR
 ·cases ru;exact OW hd I2 (.inl hd2) hR
structure j2 (K:ag) (x qual:Str) (st:Stmt) (f c:Addr) (fd:Ae):Prop where
 ex:∃(oc:Aa) (od:Option Addr) (kV doc pm:Aa) (an:Option Addr) (ct:Aa) (j6:Array (Option Aa)),
  fd=PySem.W.fnOf x qual (iZ st) (gM st) (aU st) .none kV doc pm an (.ref c) ct/\K.lookup f=some #[oc,od,.func fd,j6]/\PySem.W.codeIn K (.ref c) qual=true
 kp:PySem.W.keepIn K (.ref f)=true
variable{K:ag}{st:Stmt}
theorem j2.fn(F:j2 K x qual st f c fd):a9 K x qual st f fd:=by
 obtain⟨oc,od,kV,doc,pm,an,ct,j6,e,l,h⟩:=F.ex;exact#[#[oc,od,kV,doc,pm,an,.ref c,ct,j6,e,l,h],F.kp]
theorem j2.ok{sp:Sp}(F:j2 K x qual st f c fd)(S:bh N ps (aU st))(len:∀vs H Q E,sp vs H Q E->vs.length=ps.length)(ff:∀(A:Ag) (outer:List Env) (s:Ab) (H:Hp) (vs:List V) (Q:VK) (E:XK),aD k (A.deeper (envOfC qual (aU st) s.heap.objs.size f (.ref c)))->sp vs H Q E->
   ∃t,kz (jJ aR P w K mg base N qual (aU st) f (.ref c) A outer s H E).yF (gM st) t/\t { nx:=λ_ H'=>Q .non H',rt:=Q } (start N vs) H):ai P w K mg base aR (k+1) f fd ps sp:=by
 obtain⟨oc,od,kV,doc,pm,an,ct,j6,rfl,lk,gC⟩:=F.ex;refine OM lk gC S len λA outer s H vs Q E hr j7=>?_;obtain⟨t,h,q⟩:=ff A outer s H vs Q E hr j7;exact#[t,h.yF,q]
end L2
namespace Ev
open PySem L2
def NT(H G:Hp):Prop:=∀b o,H b=some o->(∀vs,o≠.tbl vs)->G b=some o
theorem NT.of{H G:Hp}(s:aa H G):NT H G:=λb o e _=>s b o e
theorem NT.refl(H:Hp):NT H H:=NT.of (aa.refl H)
theorem NT.trans{H G J:Hp}(s:NT H G)(t:NT G J):NT H J:=λb o e n=>t b o (s b o e n) n
theorem aV.nt{T:Addr}{H G:Hp}{vs:Array Aa}(b:aV T H G)(hT:H T=some (.tbl vs)):NT H G:=λc o e n=>b c o e (λz=>by
 rw[z,hT] at e;exact n _ (dW e).symm)
theorem NT.tup{H G:Hp}(s:NT H G){a:Addr}{xs:List V}(h:H a=some (.tup xs)):G a=some (.tup xs):=s _ _ h nofun
theorem NT.lst{H G:Hp}(s:NT H G){a:Addr}{xs:List V}(h:H a=some (.lst xs)):G a=some (.lst xs):=s _ _ h nofun
theorem NT.dK{H G:Hp}(s:NT H G){a:Addr}{xs:List (Key × V)}(h:H a=some (.dK xs)):G a=some (.dK xs):=s _ _ h nofun
theorem NT.ins{H G:Hp}(s:NT H G){a C dx:Addr}{fs:List (Str × V)}(h:H a=some (.ins C dx fs)):G a=some (.ins C dx fs):=s _ _ h nofun
section
variable{K:ag}{H G:Hp}{v:V}
theorem aY.nt{ys:List V}{ks:List (List Key)}(h:aY K H ys ks)(s:NT H G):aY K G ys ks:=Paired.bo h λy k ⟨a,z,q⟩=>#[a,z,s.tup q]
theorem fK.nt{C p:Addr}{hs:Xa}{ts:Xb}{fp:List Addr}(W:fK K C H p hs ts fp)(s:NT H G):fK K C G p hs ts fp:=by
 obtain⟨dx,d1,l2,d3,zs,as,rfl,h1,h2,h3,h4,h5,h6,h7⟩:=W.ex;exact#[dx,d1,l2,d3,zs,as,Z,s _ _ h1 nofun,s.dK h2,s.lst h3,aY.nt h4 s,s.dK h5,h6,λi n a e1 e2=>s.lst (h7 i n a e1 e2)]
theorem bJ.nt{o:Option (Xb)}(h:bJ K H v o)(s:NT H G):bJ K G v o:=by
 cases o with
 |none=>exact h
 |some ws=>
  obtain⟨a,ys,e,ha,t⟩:=h;exact#[a,ys,e,s.lst ha,aY.nt t s]
theorem fQ.nt{CG CW g p:Addr}{hs:Xa}{ts:Xb}{qs:List Pc}{fp:List Addr}(h:fQ K CG CW H g p hs ts qs fp)(s:NT H G):fQ K CG CW G g p hs ts qs fp:=by
 obtain⟨dx,dw,dy,vs,bL,h1,h2,h3,h4,h5,r⟩:=h.ex;exact#[dx,dw,dy,vs,bL,s _ _ h1 nofun,h2.nt s,s.dK h3,s.dK h4,Paired.bo h5 λv q h=>h.nt s,r]
end
variable{qual:Str}{σ:St}
theorem OX{H:Hp}{T:Addr}{q':Str}{a a':Arguments}{b b':Expr}{sc FG:Scope}{ps:Pos}{cl:List (Str × Addr)}{Q:VK}(h:eE H T qual)(e1:q'=qual)(e2:a'=a)(e3:b'=b)(e4:FG=sc)(q:∀f c' H1,aV T H H1->eE H1 T qual->H1 f=some (jA f qual a b sc cl c')->H1 c'=some (zQ c' qual)->Q (.ref f) H1):B2 T q' a' b' FG ps cl σ H Q:=by
 subst e1 e2 e3 e4;obtain⟨es,h,iX⟩:=h;refine#[_,h,Rj es,?_];rcases Tc ps es with e|⟨e,he,q1⟩
 ·refine .inl #[e,λc' f n1 n2 n3=>?_];have Wa:T≠c':=bI h n1;have V_:T≠f:=bI h n2
  have B:aV T H (upd (upd (upd H T (.tbl ((mB es).toArray++(List.toArray [rawInt ps.line,rawInt ps.col,.ref c'])))) c' (zQ c' q')) f (jA f q' a' b' FG cl c')):=λb o e n=>by
   rw[ax (bI e n2),ax (bI e n1),ax n];exact e
  refine q f c' _ B #[es++[(ps,c')],?_,λx hx=>?_] ay ?_
  ·rw[ax V_,ax Wa,ay,Ry];simp
  ·rcases eK.mp hx with hx|hx
   ·exact B _ _ (iX x hx) (λz=>by have:=iX x hx;rw[z,h] at this;cases this)
   ·rw[pf.mp hx];show upd _ f _ c'=_;rw[ax n3,ay]
  ·rw[ax n3,ay]
 ·refine .inr #[e.2,q1,λf hf=>?_];have s:=aa.new (o:=jA f q' a' b' FG cl e.2) hf;exact q f e.2 _ (aV.of s) #[es,s _ _ h,λx hx=>s _ _ (iX x hx)] ay (s _ _ (iX e he))
theorem km{H:Hp}{T:Addr}(h:eE H T qual):∃vs,H T=some (.tbl vs):=by
 obtain⟨es,e,_⟩:=h;exact#[_,e]
def jz:Expr->Scope
 |.Lambda _ _ s _=>s
 |_=>aU gj
def C9:Expr->Expr
 |.Lambda _ b _ _=>b
 |e=>e
def C_:Expr->Arguments
 |.Lambda a _ _ _=>a
 |_=>iZ gj
def OO:Expr->Expr
 |.Call _ _ (k::_) _=>k.value
 |e=>e
def CQ(l:List Stmt)(i:Nat):Stmt:=l.getD i (.Pass #[0,0,0,0])
def KY:Stmt->Expr
 |.For _ i _ _ _=>i
 |_=>.Constant .none 0 #[0,0,0,0]
def IY:Stmt->Expr
 |.Return (some e) _=>e
 |_=>.Constant .none 0 #[0,0,0,0]
variable{k:List V->Hp->Prop}
theorem CY{H:Hp}(h:k [] H):iw σ H k:=h
theorem xn{te:TE}{t:TA}{H:Hp}(h:te σ H λx H1=>t σ H1 λxs H2=>k (x::xs) H2):je te t σ H k:=h
abbrev fN(qs:List Pc)(n:Str):Int:=strOf (qs.map fu) n
def kN(qs:List Pc)(n:Str):List Key:=[.inl (-(fN qs n)),.inr n]
def jk:List Key->Str
 |[_,.inr n]=>n
 |_=>⟨#[]⟩
def l_(qs:List Pc):List Str:=(aP ((qs.map (·.1)).map (kN qs))).map jk
def Df(qs:List Pc):V->List Key
 |.str n=>kN qs n
 |_=>[]
variable{zs:List V}{ns:List Str}
theorem So(p:zs.Perm (ns.map V.str)):∃ms:List Str,zs=ms.map V.str/\ms.Perm ns:=by
 have all:∀z∈zs,∃n,z=V.str n:=λz hz=>by
  obtain⟨n,_,e⟩:=a_.mp (p.mem_iff.mp hz);exact#[n,e.symm]
 have mk:∀l:List V,(∀z∈l,∃n,z=V.str n)->∃ms:List Str,l=ms.map V.str:=λl=>by
  induction l with
  |nil=>intro _;exact#[[],Z]
  |cons a r ih=>
   intro h;obtain⟨n,rfl⟩:=h a dO;obtain⟨ms,rfl⟩:=ih λz hz=>h z (dP _ hz);exact#[n::ms,Z]
 obtain⟨ms,rfl⟩:=mk zs all;refine#[ms,Z,?_];have:=p.map (λv:V=>match v with | .str n=>n|_=>(⟨#[]⟩:Str));rw[bK,bK] at this;simpa [Function.comp_def] using this
theorem Wn{qs:List Pc}(p:zs.Perm ((qs.map (·.1)).map V.str))(e:zs.map (Df qs)=aP (((qs.map (·.1)).map V.str).map (Df qs))):zs=(l_ qs).map V.str:=by
 obtain⟨ms,rfl,_⟩:=So p;have e1:(ms.map V.str).map (Df qs)=ms.map (kN qs):=by rw[bK];rfl
 have e2:((qs.map (·.1)).map V.str).map (Df qs)=(qs.map (·.1)).map (kN qs):=by
  rw[bK];rfl
 rw[e1,e2] at e
 have em:(ms.map (kN qs)).map jk=ms:=by
  rw[bK];exact List.map_id' ms
 unfold l_;rw[<- e,em]
theorem EX(qs:List Pc):(l_ qs).Perm (qs.map (·.1)):=by
 unfold l_;have p:=(ko ((qs.map (·.1)).map (kN qs))).map jk
 have e:((qs.map (·.1)).map (kN qs)).map jk=qs.map (·.1):=by
  generalize qs.map (·.1)=ns;rw[bK];exact List.map_id' _
 rw[e] at p;exact p
def dR(qs:List Pc)(f:Str->Str)(h:Str):List Str:=(l_ qs).filter λn=>decide (f n=h)
abbrev wG:Str:="heaviest_first.<locals>.<lambda>"
def oV:Expr:=OO (KY (CQ (gM gY) 1))
abbrev zB:List Str:=["goods"]
theorem Ef:∀y∈(jz oV).names,y.2=.free->y.1∈zB:=by decide +kernel
theorem yc:Fj ["name"] zB (jz oV):=#[by decide +kernel,Z,Z,Z,by decide +kernel,by decide +kernel,λx h=>Ef (x,.free) (o8 h) Z,by decide +kernel]
variable{CP:Addr}
variable{L:Addr}{cd:Aa}
variable{c0 f0:Addr}{fd:Ae}
section
variable{P:Ad}{w:Af}{K:ag}{mg:Str->Option Aa}{base:Heap}
inductive nC (K:ag) (CG CW:Addr) (vs:List V) (gs:List V) (H:Hp) (Q:VK):Prop
 |mk:∀(g p:Addr) (q:Pc) (hs:Xa) (ts:Xb) (qs:List Pc) (fp:List Addr),vs=[.str q.1]->gs=[.ref g]->fQ K CG CW H g p hs ts qs fp->(qs.map (·.1)).Nodup->q∈qs->0<=q.2.1->q.2.1<=1000000000->(∀t,H t=none->Q (.ref t) (upd H t (.tup [.int (-q.2.1),.str q.1])))->nC K CG CW vs gs H Q
def xV(K:ag)(CG CW:Addr):List V->List V->Hp->VK->XK->Prop:=λvs gs H Q _=>nC K CG CW vs gs H Q
theorem YY{CG CW:Addr}(T:dz K CG)(cW:bb P w K mg base CG 2 "weight" ["self","piece"] (Am K CG CW CP)):jZ P w K mg base 3 wG (C_ oV) (C9 oV) (jz oV) ["name"] zB (xV K CG CW):=by
 refine wO yc (λpm c' jK cl us hl=>?_) (λA outer s H f cd cl vs gs Q E hr h hp=>?_)
 ·match us,hl with
  |[_],_=>rfl
 ·obtain⟨g,p,q,hs,ts,qs,fp,rfl,rfl,G,nd,hq,w0,w1,k⟩:=h;obtain⟨dx,dw,dy,vs,bL,h1,h2,_⟩:=id G.ex;refine#[_,fA (ae (Wr WD (eG cW T.cl hr (pv 1) (ae (pv 0) af))) (ae (pv 0) af)),?_];have j_:(bF p dw dy).lookup ("weight":Str)=none:=pV _ _ _ Z0 Z0 Z0;refine#[_,Z,g,dx,_,Z,h1,j_,_,Z,g,p,.str q.1,some q.1,hs,ts,qs,fp,Z,G,nd,Z,.inl #[q,hq,Z,?_]];exact#[_,Z,_,Z,by show 2<=sizeLine;decide,λt ht=>k t ht]
def ED(L:Addr):List (Str × Addr):=[("goods",L+1)]
theorem Mc{f:Addr}:closureFor (jz oV) (PyProof.Rows.envOfC "heaviest_first" (aU gY) L f cd)=pure (ED L):=by rfl
theorem Mm{f:Addr}:∀q∈ED L,(PyProof.Rows.envOfC "heaviest_first" (aU gY) L f cd).cells.lookup q.1=some q.2:=by
 intro q hq;simp only[ED,bO,vJ,or_false] at hq;rcases hq with rfl;rfl
theorem JB:∀x∈zB,∃c,(ED L).lookup x=some c:=by
 intro x hx;simp only[zB,bO,vJ,or_false] at hx;rcases hx with rfl;exact#[_,Z]
theorem Jy:∀x∈zB,(aU gY).names.lookup x=some .cell:=by decide +kernel
theorem qJ:bh ["goods","placed","found","piece"] ["goods","placed"] (aU gY):=bu
def tj(H:Hp)(ns:List Str)(ad:Str->Addr)(g:Str->List Str):Prop:=(∀h∈ns,H (ad h)=some (.lst ((g h).map V.str)))/\∀h∈ns,∀h'∈ns,ad h=ad h'->h=h'
inductive nE (K:ag) (CG CW T:Addr) (vs:List V) (H:Hp) (Q:VK) (E:XK):Prop
 |mk:∀(g p d:Addr) (hs:Xa) (ts:Xb) (qs:List Pc) (fp:List Addr) (f:Str->Str),vs=[.ref g,.ref d]->vF K CG CW H g p d hs ts qs fp f->(∀q∈qs,0<=q.2.1/\q.2.1<=1000000000)->eE H T wG->(∀d' ad H',aV T H H'->eE H' T wG->H d'=none->H' d'=some (.dK (bq (aA hs) λh=>.ref (ad h)))->tj H' (aA hs) ad (dR qs f)->(∀h∈aA hs,H (ad h)=none)->Q (.ref d') H')->nE K CG CW T vs H Q E
theorem eE.putL{H:Hp}{T a:Addr}{q:Str}{xs:List V}{o:HO}(h:eE H T q)(ha:H a=some (.lst xs)):eE (upd H a o) T q:=by
 obtain⟨es,e,c⟩:=h;refine⟨es,by rw[ax (bZ e ha nofun)];exact e,λx hx=>?_⟩;rw[ax (λz=>by have:=c x hx;rw[z,ha] at this;cases this)];exact c x hx
theorem jI{H:Hp}{d:Addr}{g:Str->V}{n:Str}(h:H d=some (.dK (bq ns g)))(m:n∈ns):cm H d (.str n) (some (g n)):=by
 have:=cm.k (k:=Sum.inr n) h;rw[Ar m] at this;exact this
theorem A6{qs:List Pc}(nd:(qs.map (·.1)).Nodup){q:Pc}(h:q∈qs):fN qs q.1=q.2.1:=by
 refine QX ?_ (a_.mpr ⟨q,h,rfl⟩);rw[bK];exact nd
theorem WK{CG CW T:Addr}(F:j2 K "heaviest_first" "heaviest_first" gY f0 c0 fd)(B:Bi mg)(TG:dz K CG)(TW:Txt K mg CW)(hC:PySem.W.CodeHd base c0 T)(sG:base.BuiltinsAt mg T)(cH:bb P w K mg base CW 1 "hands" ["self"] (Bp K CW))(cW:bb P w K mg base CG 2 "weight" ["self","piece"] (Am K CG CW CP)) :
  ai P w K mg base aR 6 f0 fd ["goods","placed"] (nE K CG CW T):=by
 refine F.ok qJ (λvs H Q E h=>?_) (λA outer s H vs Q E hr h=>?_)
 ·obtain⟨g,p,d,hs,ts,qs,fp,f,rfl,_⟩:=h;rfl
 ·obtain⟨g,p,d,hs,ts,qs,fp,f,rfl,Pl,wq,tab,k⟩:=h;have hu:=eS hr;have sz:=bU;have dS:aD 1 _:=hr.mono (by decide);refine' ⟨_,au ?s1 (au ?s2 (aI ?s3)),?kk⟩
  case' s1=>refine' bg 2 qJ.nd (i_ (vK Z) (by rfl) B.dict sU (ae (iP ["hand"] 1 [] (dH (xm cH TW.cl dS (cX (pv 0) Z))) (λfp s H=>fq 0) (λfp s H=>gT) (λfp s H=>?e1)) af))
  case e1=>exact fA (ae (pv 0) (ae (d5 af) af))
  case' s2=>refine' eV eM Z (dH ?l2) (bV 3 qJ.nd) (aI ?b2)
  case l2=>exact Re (px:="name") (cB:=zB) (cl:=ED s.heap.objs.size) (is:=[0]) (k:=3) Z (by rfl) B.sorted (ae (pv 1) af) (QD (OY (P:=T) (c:=c0) Z Mc Z hC sG) OV) (YY TG cW) hr Mm JB Jy Z
  case b2=>exact oE (mz o9 xr xt vA (eU hu (pv 2) (eU hu (pv 1) (pv 3) (λ_ _=>rfl)) (λ_ _=>rfl)) (ae (pv 3) af))
  case s3=>exact ba (pv 2)
  case' kk=>skip
  have nd:=Pl.Gd.iB;have n8:(aA hs).length<=8:=by have:=Pl.Gd.fG;have:=Pl.Gd.h8;omega
  obtain⟨dx,dw,dy,vs,bL,h1,h2,h3,h4,h5,m1,m2,m3,m4,m5⟩:=id Pl.G.ex;obtain⟨eL,d1,l2,d3,jb,as,ef,w1,_⟩:=id h2.ex;have fW:(bQ d1 l2 d3).lookup ("hands":Str)=none:=ik _ _ _ Z0 Z0 Z0;refine#[_,Z,g,CG,dx,_,_,Z,h1,TG.cl,TG.nW,mG _ _ _,p,eL,_,Z,w1,fW,p,hs,ts,bL,Z,h2,λlh nh=>?_];obtain⟨s1,e1⟩:=aO (o:=.lst ((aA hs).map V.str)) nh;generalize upd H lh (.lst ((aA hs).map V.str))=H1 at s1 e1 ⊢;refine#[lh,Z,#[_,.of e1],λD hD=>?_];refine mK (own:=1) (fv:=[]) (xs:=(aA hs).map V.str) Z eD (λi out H'=>∃ad:Str->Addr,aa H1 H'/\H' D=some (.lst out)/\i5 K H' out (bq ((aA hs).take i) λh=>.ref (ad h))/\tj H' ((aA hs).take i) ad (λ_=>[])/\∀h∈(aA hs).take i,H1 (ad h)=none/\ad h≠D) #[λ_=>D,aa.new hD,ay,.nil,#[by simp,by simp],by simp] (λi out H' _ ⟨_,sm,_⟩=>.of (sm _ _ e1)) (λout H2 ⟨ad,s2,ic,pa,ls,fr⟩=>?_) (λi x out H' hx ⟨ad,sm,hd,pa,ls,fr⟩=>?_);rotate_left
  ·obtain⟨n,hn,rfl⟩:=jT hx;have nn:n∉(aA hs).take i:=EW nd hn;refine#[_,Z,Z,λNx hN=>cZ ?_];refine#[_,Z,by show 0<=sizeLine;decide,λl nl=>?_];obtain⟨s3,e3⟩:=aO (o:=.lst []) nl;generalize upd H' l (.lst [])=H3 at s3 e3 ⊢;refine#[by show 2<=sizeLine;decide,λt nt=>?_];obtain⟨s4,e4⟩:=aO (o:=.tup [.str n,.ref l]) nt;generalize upd H3 t (.tup [.str n,.ref l])=H4 at s4 e4 ⊢;have gm:=s3.trans s4;have sH:=gm _ _ hd;have lD:l≠D:=λz=>by rw[z,hd] at nl;cases nl
   have Fk:∀h∈(aA hs).take i,ad h≠l:=λh hh z=>by
    have:=ls.1 h hh;rw[z,nl] at this;cases this
   have lo:=bE pa;rw[fP,cj] at lo
   have pD:∀{b:Addr} {zs:List V},H4 b=some (.tup zs)->b≠D:=λhb z=>by
    rw[z,sH] at hb;cases hb
   have ne:∀h∈(aA hs).take i,h≠n:=λh hh z=>nn (z▸hh);refine#[out,sH,by omega,hN (out++[.ref t]) _ #[λm=>if m=n then l else ad m,gh (sm.trans gm) hD,ay,?_,#[λh hh=>?_,λh hh h' oj z=>?_],λh hh=>?_]]
   ·have e:bq ((aA hs).take (i+1)) (λh=>.ref (if h=n then l else ad h))=bq ((aA hs).take i) (λh=>.ref (ad h))++[(Sum.inr n,.ref l)]:=by
     rw[gi hn];unfold bq;rw[bX,dN,List.map_nil];dsimp only;rw[aC Z];congr 1;exact pA λm hm=>by rw[ao (ne m hm)]
    rw[e];exact kn (Paired.bo pa λy kv ⟨b,z,hb⟩=>#[b,z,by rw[ax (pD (gm _ _ hb))];exact gm _ _ hb]) (.cons #[t,Z,by rw[ax (pD e4)];exact e4] .nil)
   ·rw[gi hn] at hh;rcases eK.mp hh with hh|hh
    ·dsimp only;rw[ao (ne h hh),ax (fr h hh).2];exact gm _ _ (ls.1 h hh)
    ·obtain rfl:h=n:=by simpa using hh
     dsimp only;rw[aC Z,ax lD];exact s4 _ _ e3
   ·rw[gi hn] at hh oj;dsimp only at z;rcases eK.mp hh with a1|a1<;>rcases eK.mp oj with a2|a2
    ·rw[ao (ne h a1),ao (ne h' a2)] at z;exact ls.2 h a1 h' a2 z
    ·have a2:h'=n:=by simpa using a2
     rw[ao (ne h a1),aC a2] at z;exact absurd z (Fk h a1)
    ·have a1:h=n:=by simpa using a1
     rw[ao (ne h' a2),aC a1] at z;exact absurd z.symm (Fk h' a2)
    ·rw[show h=n by simpa using a1,show h'=n by simpa using a2]
   ·rw[gi hn] at hh;dsimp only;rcases eK.mp hh with hh|hh
    ·rw[ao (ne h hh)];exact fr h hh
    ·obtain rfl:h=n:=by simpa using hh
     rw[aC Z];exact#[sm.free nl,lD]
  rw[aq,dG] at pa ls fr;refine#[D,out,_,Z,ic,pa,by rw[fP];omega,λdf wK=>?_]
  have wJ:((bq (aA hs) λh=>V.ref (ad h)).map (·.1)).Nodup:=by
   rw[EF,pW,mM];exact nd.imp λn e=>n (hU e)
  rw[vI wJ];obtain⟨s3,e3⟩:=aO (o:=.dK (bq (aA hs) λh=>V.ref (ad h))) wK;refine setG ?_;dsimp only;generalize upd H2 df (.dK (bq (aA hs) λh=>V.ref (ad h)))=H3 at s3 e3 ⊢;have uJ:=(s1.trans s2).trans s3;have jx:H df=none:=(s1.trans s2).free wK;have QU:∀h∈aA hs,H (ad h)=none:=λh hh=>s1.free (fr h hh).1;have OG:∀h∈aA hs,H3 (ad h)=some (.lst []):=λh hh=>s3 _ _ (ls.1 h hh);have inj:=ls.2;clear s1 s2 s3 e1 pa ls fr ic nh hD wK;refine#[_,Z,CY (xn ?_)];refine OX (tab.same uJ) Z Z Z Z λfl c' H4 b4 fR zp vf=>?_;obtain⟨tv,hT⟩:=km tab
  have neT:∀{b:Addr} {o:HO},H3 b=some o->(∀vs,o≠.tbl vs)->b≠T:=λ{b o} e n z=>by
   rw[z,uJ _ _ hT] at e;exact n _ (dW e).symm
  have yE:NT H H4:=λb o e n=>b4 _ _ (uJ _ _ e) (neT (uJ _ _ e) n);have OF:∀h∈aA hs,H4 (ad h)=some (.lst []):=λh hh=>b4 _ _ (OG h hh) (neT (OG h hh) nofun);have e4:=b4 _ _ e3 (neT e3 nofun);have HI:aV T H H4:=λb o e n=>b4 _ _ (uJ _ _ e) n;refine#[.ref d,fl,c',(qs.map (·.1)).map V.str,Df qs,[false,true],[.ref g],Z,Z,zp,vf,.inr #[d,_,Z,yE.dK Pl.hd,?_],by rw[aq,aq];exact Pl.cg,#[by decide,λk hk=>?_],Z,λH' x sm hx=>?_,λl zs H5 s5 nl AL pz ek=>?_]
  ·show _=((qs.map (·.1)).map _).map _;generalize qs.map (·.1)=ns';rw[bK];rfl
  ·obtain⟨v,hv,rfl⟩:=a_.mp hk;obtain⟨n,_,rfl⟩:=a_.mp hv;rfl
  ·obtain⟨n,hn,rfl⟩:=a_.mp hx;obtain⟨q,hq,rfl⟩:=a_.mp hn;refine#[g,p,q,hs,ts,qs,fp,Z,Z,(Pl.G.nt yE).same sm,Pl.nd,hq,(wq q hq).1,(wq q hq).2,λt nt=>#[aa.new nt,t,Z,?_]];rw[ay];show _=some (HO.tup [.int (-(fN qs q.1)),.str q.1]);rw[A6 Pl.nd hq]
  rw[Wn pz ek];have hl:upd H5 l (.lst ((l_ qs).map V.str)) l=some (.lst ((l_ qs).map V.str)):=ay;have s6:aa H4 (upd H5 l (.lst ((l_ qs).map V.str))):=s5.trans (aa.new nl)
  have Xj:∀h∈aA hs,ad h≠l:=λh hh z=>by
   have:=OF h hh;rw[z,AL] at this;cases this
  generalize upd H5 l (.lst ((l_ qs).map V.str))=H6 at hl s6 ⊢
  have OJ:(l_ qs).length<64:=by
   rw[(EX qs).length_eq,aq];exact Pl.cg
  have dT:d≠T:=λz=>by
   have:=Pl.hd;rw[z,hT] at this;cases this
  refine#[l,Z,#[_,.of hl],gF (K:=K) (a:=l) (xs:=(l_ qs).map V.str) (λi σ H'=>∃v3:Option V,σ=[some (.ref g),some (.ref d),some (.ref df),v3]/\aV T H H'/\eE H' T wG/\H' df=some (.dK (bq (aA hs) λh=>V.ref (ad h)))/\H' l=some (.lst ((l_ qs).map V.str))/\tj H' (aA hs) ad (λh=>((l_ qs).take i).filter λn=>decide (f n=h))) #[none,Z,λb o e n=>s6 _ _ (HI b o e n),fR.same s6,s6 _ _ e4,hl,λh hh=>s6 _ _ (OF h hh),inj] (λi σ H' _ ⟨_,_,_,_,_,z,_⟩=>.of z) ?_ ?_]
  ·rintro i x σ H' hx ⟨v3,rfl,bT,jd,jF,Kg,ls⟩;obtain⟨n,hn,rfl⟩:=jT hx;have nm:n∈qs.map (·.1):=(EX qs).mem_iff.mp (cn hn);have fm:f n∈aA hs:=(hW hs).mem_iff.mpr (Pl.at_ n nm);have fJ:=bT _ _ Pl.hd dT;have la:=ls.1 (f n) fm;refine setG ?_;dsimp only;refine#[_,Z,_,Z,_,Z,d,_,Z,jI fJ nm,df,_,Z,jI jF fm,.inl #[Z,_,.of la],_,Z,ad (f n),_,_,Z,Z,la,?_,?_]
   ·rw[aq];have:=List.length_filter_le (λn'=>decide (f n'=f n)) ((l_ qs).take i);rw[cj] at this;dsimp only;omega
   refine#[_,Z,λb o e ne=>?_,eE.putL jd la,?_,?_,λh hh=>?_,inj]
   ·rw[ax (bI e (QU _ fm))];exact bT b o e ne
   ·rw[ax (bZ jF la nofun)];exact jF
   ·rw[ax (Xj _ fm).symm];exact Kg
   ·by_cases z:h=f n
    ·subst z;dsimp only;rw[ay,gi hn,List.filter_append,List.filter_cons_of_pos Z2,List.filter_nil,bX];rfl
    ·dsimp only;rw[ax (λy=>z (inj h hh _ fm y)),gi hn,List.filter_append,List.filter_cons_of_neg (by simpa using λy=>z y.symm),List.filter_nil,mJ];exact ls.1 h hh
  ·rintro σ H' ⟨v3,rfl,bT,jd,jF,Kg,ls⟩;rw[aq,dG] at ls;exact#[_,Z,k df ad H' bT jd jx jF ls QU]
end
abbrev lG:Stmt:=i0 GW 0
abbrev qY:Stmt:=i0 GW 1
abbrev lL:Stmt:=i0 GW 2
abbrev tS:Stmt:=i0 GW 3
def dk(g dl dv dp:Addr):List (Str × V):=aB "pieces_by_hand" (.ref dp) (aB "level_by_hand" (.ref dv) (aB "load_by_hand" (.ref dl) (aB "wares" (.ref g) [])))
theorem fU(g dl dv dp:Addr):(dk g dl dv dp).lookup ("wares":Str)=some (.ref g):=by
 unfold dk;rw[eJ,eJ,eJ,eJ,ao Z0,ao Z0,ao Z0,aC Z]
theorem Ck(g dl dv dp:Addr):(dk g dl dv dp).lookup ("load_by_hand":Str)=some (.ref dl):=by
 unfold dk;rw[eJ,eJ,eJ,ao Z0,ao Z0,aC Z]
theorem IK(g dl dv dp:Addr):(dk g dl dv dp).lookup ("level_by_hand":Str)=some (.ref dv):=by
 unfold dk;rw[eJ,eJ,ao Z0,aC Z]
theorem Cj(g dl dv dp:Addr):(dk g dl dv dp).lookup ("pieces_by_hand":Str)=some (.ref dp):=by
 unfold dk;rw[eJ,aC Z]
theorem A8(g dl dv dp:Addr){m:Str}(h1:¬m="wares")(h2:¬m="load_by_hand")(h3:¬m="level_by_hand")(h4:¬m="pieces_by_hand"):(dk g dl dv dp).lookup m=none:=by
 unfold dk;rw[eJ,eJ,eJ,eJ,ao h4,ao h3,ao h2,ao h1];rfl
structure fM (K:ag) (CS:Addr):Prop where
 cl:mT K CS
 nW:ke K CS "wares"
 nL:ke K CS "load_by_hand"
 nV:ke K CS "level_by_hand"
 nP:ke K CS "pieces_by_hand"
structure Wd (hs:Xa) (ts:Xb) (qs:List Pc) (f:Str->Str):Prop where
 Gd:Good hs ts
 nd:(qs.map (·.1)).Nodup
 cg:qs.length<64
 at_:∀n∈qs.map (·.1),f n∈hs.map (·.1)
 wq:∀q∈qs,0<=q.2.1/\q.2.1<=1000000000
structure ie (K:ag) (CS CG CW:Addr) (H:Hp) (v g p:Addr) (hs:Xa) (ts:Xb) (qs:List Pc) (fp:List Addr) (f:Str->Str):Prop where
 ex:∃(dx dl dv dp:Addr) (ad:Str->Addr),H v=some (.ins CS dx (dk g dl dv dp))/\fQ K CG CW H g p hs ts qs fp/\H dl=some (.dK (C8 hs qs f))/\H dv=some (.dK (bq (aA hs) λh=>.int (yO hs qs f h)))/\H dp=some (.dK (bq (aA hs) λh=>.ref (ad h)))/\∀h∈aA hs,H (ad h)=some (.lst ((dR qs f h).map V.str))
theorem ie.nt{K:ag}{CS CG CW:Addr}{H G:Hp}{v g p:Addr}{hs:Xa}{ts:Xb}{qs:List Pc}{fp:List Addr}{f:Str->Str}(S:ie K CS CG CW H v g p hs ts qs fp f)(s:NT H G):ie K CS CG CW G v g p hs ts qs fp f:=by
 obtain⟨dx,dl,dv,dp,ad,h1,h2,h3,h4,h5,h6⟩:=S.ex;exact#[dx,dl,dv,dp,ad,s.ins h1,h2.nt s,s.dK h3,s.dK h4,s.dK h5,λh hh=>s.lst (h6 h hh)]
theorem ie.same{K:ag}{CS CG CW:Addr}{H G:Hp}{v g p:Addr}{hs:Xa}{ts:Xb}{qs:List Pc}{fp:List Addr}{f:Str->Str}(S:ie K CS CG CW H v g p hs ts qs fp f)(s:aa H G):ie K CS CG CW G v g p hs ts qs fp f:=S.nt (NT.of s)
abbrev lo(qs:List Pc)(f:Str->Str)(h:Str):Int:=ld f (qs.map fu) h
def gI(hs:Xa)(qs:List Pc)(f:Str->Str)(a b:Str):Int:=lo qs f a * strOf hs b - lo qs f b * strOf hs a
def iK(hs:Xa)(a b:Str):Int:=strOf hs a+strOf hs b
section
variable{P:Ad}{w:Af}{K:ag}{mg:Str->Option Aa}{base:Heap}
theorem uC:bh ["self","goods","placed"] ["self","goods","placed"] (aU lG):=bu
inductive LC (K:ag) (CS CG CW T:Addr) (vs:List V) (H:Hp) (Q:VK) (E:XK):Prop
 |mk:∀(v dx g p d:Addr) (hs:Xa) (ts:Xb) (qs:List Pc) (fp:List Addr) (f:Str->Str),vs=[.ref v,.ref g,.ref d]->H v=some (.ins CS dx [])->v∉fp->vF K CG CW H g p d hs ts qs fp f->Wd hs ts qs f->eE H T wG->(∀H',(∀b o,H b=some o->b≠v->b≠T->H' b=some o)->eE H' T wG->ie K CS CG CW H' v g p hs ts qs fp f->Q .non H')->LC K CS CG CW T vs H Q E
theorem _g{CS CG CW T:Addr}(F:a9 K "__init__" "Sight.__init__" lG f0 fd)(TS:fM K CS)(Hl:bj P w K mg base 3 "loads_at" ["goods","placed"] (Hu K CG CW))(MR:bj P w K mg base 4 "levels_at" ["goods","placed"] (Nc K CG CW))(MV:bj P w K mg base 6 "heaviest_first" ["goods","placed"] (nE K CG CW T)) :
  ai P w K mg base aR 7 f0 fd ["self","goods","placed"] (LC K CS CG CW T):=by
 refine F.bt uC λaL A outer s H vs Q E hr h=>?_
 ·obtain⟨v,dx,g,p,d,hs,ts,qs,fp,f,rfl,hv,Fx,Pl,W,tab,k⟩:=h;have sj:aD 3 _:=hr.mono (by decide);have Gg:aD 4 _:=hr.mono (by decide);refine' #[_,au ?s1 (au ?s2 (au ?s3 (aI ?s4))),?kk]
  case s1=>exact tX (pv 0) (pv 1) Z
  case s2=>exact tX (pv 0) (aX Hl sj (ae (pv 1) (ae (pv 2) af))) Z
  case s3=>exact tX (pv 0) (aX MR Gg (ae (pv 1) (ae (pv 2) af))) Z
  case s4=>exact tX (pv 0) (aX MV hr (ae (pv 1) (ae (pv 2) af))) Z
  case' kk=>skip
  have dv:d≠v:=bZ Pl.hd hv nofun;have rV:∀{G:Hp},(∀b o,H b=some o->b≠v->G b=some o)->vF K CG CW G g p d hs ts qs fp f:=λ{G} up=>#[Pl.G.keep (λb hb o e=>up b o e (λz=>Fx (z▸hb))) (λb xs e=>up b _ e (bZ e hv nofun)),Pl.Gd,Pl.oz,up _ _ Pl.hd dv,Pl.at_,Pl.nd,Pl.cg];refine#[_,Z,_,Z,v,CS,dx,_,Z,hv,TS.cl,TS.nW,by show 0<1000;decide,?_];have up1:∀b o,H b=some o->b≠v->upd H v (.ins CS dx (aB "wares" (.ref g) [])) b=some o:=λb o e n=>by rw[ax n];exact e
  have sf:upd H v (.ins CS dx (aB "wares" (.ref g) [])) v=some (.ins CS dx (aB "wares" (.ref g) [])):=ay;have A7:∀{b},upd H v (.ins CS dx (aB "wares" (.ref g) [])) b=none->b≠v:=λ{b} e z=>by rw[z,ay] at e;cases e
  generalize upd H v (.ins CS dx (aB "wares" (.ref g) []))=H1 at up1 sf A7 ⊢;refine#[_,Z,_,Z,g,p,d,hs,ts,qs,fp,f,Z,rV up1,λdl H2 s2 nl hl=>?_];have _T:=s2 _ _ sf;have lv:dl≠v:=A7 nl;refine#[_,Z,v,CS,dx,_,Z,_T,TS.cl,TS.nL,by show 1<1000;decide,?_];have HW:∀b o,H b=some o->b≠v->upd H2 v (.ins CS dx (aB "load_by_hand" (.ref dl) (aB "wares" (.ref g) []))) b=some o:=λb o e n=>by rw[ax n];exact s2 _ _ (up1 b o e n)
  have Pr:upd H2 v (.ins CS dx (aB "load_by_hand" (.ref dl) (aB "wares" (.ref g) []))) v=some (.ins CS dx (aB "load_by_hand" (.ref dl) (aB "wares" (.ref g) []))):=ay;have Eh:∀{b},upd H2 v (.ins CS dx (aB "load_by_hand" (.ref dl) (aB "wares" (.ref g) []))) b=none->b≠v:=λ{b} e z=>by rw[z,ay] at e;cases e
  have jE:upd H2 v (.ins CS dx (aB "load_by_hand" (.ref dl) (aB "wares" (.ref g) []))) dl=some (.dK (C8 hs qs f)):=by rw[ax lv];exact hl
  generalize upd H2 v (.ins CS dx (aB "load_by_hand" (.ref dl) (aB "wares" (.ref g) [])))=H3 at HW Pr Eh jE ⊢;refine#[_,Z,_,Z,g,p,d,hs,ts,qs,fp,f,Z,rV HW,W.wq,λde H4 s4 ne he=>?_];have JU:=s4 _ _ Pr;have ev:de≠v:=Eh ne;refine#[_,Z,v,CS,dx,_,Z,JU,TS.cl,TS.nV,by show 2<1000;decide,?_];have tD:∀b o,H b=some o->b≠v->upd H4 v (.ins CS dx (aB "level_by_hand" (.ref de) (aB "load_by_hand" (.ref dl) (aB "wares" (.ref g) [])))) b=some o:=λb o e n=>by rw[ax n];exact s4 _ _ (HW b o e n)
  have Pq:upd H4 v (.ins CS dx (aB "level_by_hand" (.ref de) (aB "load_by_hand" (.ref dl) (aB "wares" (.ref g) [])))) v=some (.ins CS dx (aB "level_by_hand" (.ref de) (aB "load_by_hand" (.ref dl) (aB "wares" (.ref g) [])))):=ay;have oy:∀{b},upd H4 v (.ins CS dx (aB "level_by_hand" (.ref de) (aB "load_by_hand" (.ref dl) (aB "wares" (.ref g) [])))) b=none->b≠v:=λ{b} e z=>by rw[z,ay] at e;cases e
  have DR:upd H4 v (.ins CS dx (aB "level_by_hand" (.ref de) (aB "load_by_hand" (.ref dl) (aB "wares" (.ref g) [])))) dl=some (.dK (C8 hs qs f)):=by rw[ax lv];exact s4 _ _ jE
  have P6:upd H4 v (.ins CS dx (aB "level_by_hand" (.ref de) (aB "load_by_hand" (.ref dl) (aB "wares" (.ref g) [])))) de=some (.dK (bq (aA hs) λh=>.int (yO hs qs f h))):=by rw[ax ev];exact he
  generalize upd H4 v (.ins CS dx (aB "level_by_hand" (.ref de) (aB "load_by_hand" (.ref dl) (aB "wares" (.ref g) []))))=H5 at tD Pq oy DR P6 ⊢;obtain⟨es,hT,P7⟩:=id tab;have Tv:T≠v:=bZ hT hv nofun;have Ic:eE H5 T wG:=#[es,tD _ _ hT Tv,λe he=>tD _ _ (P7 e he) (λz=>by have:=P7 e he;rw[z,hv] at this;cases this)];have Tz:=rV tD;refine#[_,Z,_,Z,g,p,d,hs,ts,qs,fp,f,Z,Tz,W.wq,Ic,λdp ad H6 b6 Ib np hp ls fra=>?_];have FX:NT H5 H6:=b6.nt (tD _ _ hT Tv);have Gb:=FX.ins Pq;have Vx:dp≠v:=oy np;have av:∀h∈aA hs,ad h≠v:=λh hh=>oy (fra h hh);refine#[_,Z,v,CS,dx,_,Z,Gb,TS.cl,TS.nP,by show 3<1000;decide,?_];refine k _ (λb o e n1 n2=>?_) ?_ #[dx,dl,de,dp,ad,ay,(Tz.G.nt FX).keep (λb hb o e=>?_) (λb xs e=>?_),?_,?_,?_,λh hh=>?_]
  ·rw[ax n1];exact b6 _ _ (tD b o e n1) n2
  ·obtain⟨es,e1,e2⟩:=Ib;exact#[es,by rw[ax (bZ e1 Gb nofun)];exact e1,λe he=>by rw[ax (λz=>by have:=e2 e he;rw[z,Gb] at this;cases this)];exact e2 e he]
  ·rw[ax (λz:b=v=>Fx (z▸hb))];exact e
  ·rw[ax (bZ e Gb nofun)];exact e
  ·rw[ax lv];exact FX.dK DR
  ·rw[ax ev];exact FX.dK P6
  ·rw[ax Vx];exact hp
  ·rw[ax (av h hh)];exact ls.1 h hh
theorem qH:bh ["self","one","other","web"] ["self","one","other"] (aU qY):=bu
inductive Bq (K:ag) (CS CG CW:Addr) (vs:List V) (H:Hp) (Q:VK) (E:XK):Prop
 |mk:∀(v g p:Addr) (a b:Str) (hs:Xa) (ts:Xb) (qs:List Pc) (fp:List Addr) (f:Str->Str),vs=[.ref v,.str a,.str b]->ie K CS CG CW H v g p hs ts qs fp f->Wd hs ts qs f->a∈aA hs->b∈aA hs->Q (.int (gI hs qs f a b)) H->Bq K CS CG CW vs H Q E
theorem YW{CS CG CW:Addr}(F:a9 K "lead" "Sight.lead" qY f0 fd)(TS:fM K CS)(TG:dz K CG)(TW:Txt K mg CW)(cS:bb P w K mg base CW 2 "strength" ["self","hand"] (Bt K CW)):ai P w K mg base aR 3 f0 fd ["self","one","other"] (Bq K CS CG CW):=by
 refine F.bt qH λaL A outer s H vs Q E hr h=>?_
 ·obtain⟨v,g,p,a,b,hs,ts,qs,fp,f,rfl,S,W,ha,hb,k⟩:=h;have hu:=eS hr;refine' #[_,au ?s1 (aI ?s2),?kk]
  case s1=>exact bg 3 qH.nd (cX (cX (pv 0) Z) Z)
  case s2=>exact ba (bw Kl (bw ki (eU hu (cX (pv 0) Z) (pv 1) (λ_ _=>rfl)) (eG cS TW.cl hr (pv 3) (ae (pv 2) af))) (bw ki (eU hu (cX (pv 0) Z) (pv 2) (λ_ _=>rfl)) (eG cS TW.cl hr (pv 3) (ae (pv 1) af))))
  case' kk=>skip
  obtain⟨dx,dl,dv,dp,ad,h1,G,h3,h4,h5,h6⟩:=S.ex;obtain⟨jH,dw,dy,vs,bL,g1,g2,_⟩:=id G.ex;obtain⟨eL,d1,l2,d3,jb,as,ef,w1,_⟩:=id g2.ex;have fW:(bQ d1 l2 d3).lookup ("strength":Str)=none:=ik _ _ _ Z0 Z0 Z0;have la:=F8 W.wq W.cg f a;have lb:=F8 W.wq W.cg f b;refine#[_,Z,v,CS,dx,_,_,Z,h1,TS.cl,TS.nW,fU _ _ _ _,g,CG,jH,_,_,Z,g1,TG.cl,TG.nW,mG _ _ _,?_];refine setG ?_;dsimp only;refine#[_,Z,v,CS,dx,_,_,Z,h1,TS.cl,TS.nL,Ck _ _ _ _,_,Z,dl,_,Z,jI h3 ha,_,Z,p,eL,_,Z,w1,fW,_,Z,p,b,strOf hs b,hs,ts,bL,Z,g2,W.Gd.pJ,vE ((hW hs).mem_iff.mp hb),?_];refine#[_,_,Z,Z,.inl #[by omega,by omega],?_];refine#[_,Z,v,CS,dx,_,_,Z,h1,TS.cl,TS.nL,Ck _ _ _ _,_,Z,dl,_,Z,jI h3 hb,_,Z,p,eL,_,Z,w1,fW,_,Z,p,a,strOf hs a,hs,ts,bL,Z,g2,W.Gd.pJ,vE ((hW hs).mem_iff.mp ha),?_];exact#[_,_,Z,Z,.inl #[by omega,by omega],_,_,Z,Z,k]
theorem uF:bh ["self","one","other"] ["self","one","other"] (aU lL):=bu
inductive Hi (K:ag) (CS CG CW:Addr) (vs:List V) (H:Hp) (Q:VK) (E:XK):Prop
 |mk:∀(v g p:Addr) (a b:Str) (hs:Xa) (ts:Xb) (qs:List Pc) (fp:List Addr) (f:Str->Str),vs=[.ref v,.str a,.str b]->ie K CS CG CW H v g p hs ts qs fp f->Wd hs ts qs f->a∈aA hs->b∈aA hs->Q (.int (iK hs a b)) H->Hi K CS CG CW vs H Q E
theorem Zj{CS CG CW:Addr}(F:a9 K "joint_strength" "Sight.joint_strength" lL f0 fd)(TS:fM K CS)(TG:dz K CG)(TW:Txt K mg CW)(cS:bb P w K mg base CW 2 "strength" ["self","hand"] (Bt K CW)):ai P w K mg base aR 3 f0 fd ["self","one","other"] (Hi K CS CG CW):=by
 refine F.bt uF λaL A outer s H vs Q E hr h=>?_
 ·obtain⟨v,g,p,a,b,hs,ts,qs,fp,f,rfl,S,W,ha,hb,k⟩:=h;refine' #[_,aI ?s2,?kk]
  case s2=>exact ba (bw i4 (eG cS TW.cl hr (cX (cX (pv 0) Z) Z) (ae (pv 1) af)) (eG cS TW.cl hr (cX (cX (pv 0) Z) Z) (ae (pv 2) af)))
  case' kk=>skip
  obtain⟨dx,dl,dv,dp,ad,h1,G,h3,h4,h5,h6⟩:=S.ex;obtain⟨jH,dw,dy,vs,bL,g1,g2,_⟩:=id G.ex;obtain⟨eL,d1,l2,d3,jb,as,ef,w1,_⟩:=id g2.ex;have fW:(bQ d1 l2 d3).lookup ("strength":Str)=none:=ik _ _ _ Z0 Z0 Z0;refine#[_,Z,v,CS,dx,_,_,Z,h1,TS.cl,TS.nW,fU _ _ _ _,g,CG,jH,_,_,Z,g1,TG.cl,TG.nW,mG _ _ _,p,eL,_,Z,w1,fW,_,Z,p,a,strOf hs a,hs,ts,bL,Z,g2,W.Gd.pJ,vE ((hW hs).mem_iff.mp ha),?_];refine#[_,Z,v,CS,dx,_,_,Z,h1,TS.cl,TS.nW,fU _ _ _ _,g,CG,jH,_,_,Z,g1,TG.cl,TG.nW,mG _ _ _,p,eL,_,Z,w1,fW,_,Z,p,b,strOf hs b,hs,ts,bL,Z,g2,W.Gd.pJ,vE ((hW hs).mem_iff.mp hb),?_];exact#[_,_,Z,Z,k]
end
theorem tV(a b:Str):decide (V.str a=V.str b)=decide (a=b):=by
 by_cases z:a=b
 ·simp[z]
 ·have:¬(V.str a=V.str b):=λe=>z (V.str.inj e);simp[z,this]
abbrev nb(hs:Xa)(ts:Xb)(h:Str):List Str:=near (aA hs) (aK ts) h
def kR(hs:Xa)(qs:List Pc)(f:Str->Str)(n:Str):List Key:=[.inl (yO hs qs f n),.inr n]
def cO(hs:Xa)(ts:Xb)(qs:List Pc)(f:Str->Str)(h:Str):List Str:=(aP ((nb hs ts h).map (kR hs qs f))).map jk
def Dg(hs:Xa)(qs:List Pc)(f:Str->Str):V->List Key
 |.str n=>kR hs qs f n
 |_=>[]
theorem WS{hs:Xa}{ts:Xb}{qs:List Pc}{f:Str->Str}{h:Str}(p:zs.Perm ((nb hs ts h).map V.str))(e:zs.map (Dg hs qs f)=aP (((nb hs ts h).map V.str).map (Dg hs qs f))):zs=(cO hs ts qs f h).map V.str:=by
 obtain⟨ms,rfl,_⟩:=So p;have e1:(ms.map V.str).map (Dg hs qs f)=ms.map (kR hs qs f):=by rw[bK];rfl
 have e2:((nb hs ts h).map V.str).map (Dg hs qs f)=(nb hs ts h).map (kR hs qs f):=by
  rw[bK];rfl
 rw[e1,e2] at e
 have em:(ms.map (kR hs qs f)).map jk=ms:=by
  rw[bK];exact List.map_id' ms
 unfold cO;rw[<- e,em]
theorem E6(hs:Xa)(ts:Xb)(qs:List Pc)(f:Str->Str)(h:Str):(cO hs ts qs f h).Perm (nb hs ts h):=by
 unfold cO;have p:=(ko ((nb hs ts h).map (kR hs qs f))).map jk
 have e:((nb hs ts h).map (kR hs qs f)).map jk=nb hs ts h:=by
  rw[bK];exact List.map_id' _
 rw[e] at p;exact p
theorem Ea{hs:Xa}{ts:Xb}{h n:Str}(m:n∈nb hs ts h):n∈aA hs:=(List.mem_filter.mp m).1
theorem Bf(hs:Xa)(ts:Xb)(h:Str):(nb hs ts h).length<=(aA hs).length:=List.length_filter_le ..
abbrev j5:Str:="Sight.rising_neighbours.<locals>.<lambda>"
def oW:Expr:=OO (IY (CQ (gM tS) 0))
abbrev zC:List Str:=["self"]
theorem Eg:∀y∈(jz oW).names,y.2=.free->y.1∈zC:=by decide +kernel
theorem yd:Fj ["other"] zC (jz oW):=#[by decide +kernel,Z,Z,Z,by decide +kernel,by decide +kernel,λx h=>Eg (x,.free) (o8 h) Z,by decide +kernel]
section
variable{P:Ad}{w:Af}{K:ag}{mg:Str->Option Aa}{base:Heap}
inductive nD (K:ag) (CS CG CW:Addr) (vs:List V) (gs:List V) (H:Hp) (Q:VK):Prop
 |mk:∀(v g p:Addr) (n:Str) (hs:Xa) (ts:Xb) (qs:List Pc) (fp:List Addr) (f:Str->Str),vs=[.str n]->gs=[.ref v]->ie K CS CG CW H v g p hs ts qs fp f->n∈aA hs->(∀t,H t=none->Q (.ref t) (upd H t (.tup [.int (yO hs qs f n),.str n])))->nD K CS CG CW vs gs H Q
def xW(K:ag)(CS CG CW:Addr):List V->List V->Hp->VK->XK->Prop:=λvs gs H Q _=>nD K CS CG CW vs gs H Q
theorem X_{CS CG CW:Addr}(TS:fM K CS):jZ P w K mg base 1 j5 (C_ oW) (C9 oW) (jz oW) ["other"] zC (xW K CS CG CW):=by
 refine wO yd (λpm c' jK cl us hl=>?_) (λA outer s H f0 cd cl vs gs Q E hr h hp=>?_)
 ·match us,hl with
  |[_],_=>rfl
 ·obtain⟨v,g,p,n,hs,ts,qs,fp,f,rfl,rfl,S,hn,k⟩:=h;have hu:=eS hr;obtain⟨dx,dl,dv,dp,ad,h1,G,h3,h4,h5,h6⟩:=S.ex;refine#[_,fA (ae (eU hu (cX (pv 1) Z) (pv 0) (λ_ _=>rfl)) (ae (pv 0) af)),?_];exact#[_,Z,v,CS,dx,_,_,Z,h1,TS.cl,TS.nV,IK _ _ _ _,_,Z,dv,_,Z,jI h4 hn,_,Z,by show 2<=sizeLine;decide,λt ht=>k t ht]
def EE(L:Addr):List (Str × Addr):=[("self",L+1)]
theorem Me{f:Addr}:closureFor (jz oW) (PyProof.Rows.envOfC "Sight.rising_neighbours" (aU tS) L f cd)=pure (EE L):=by rfl
theorem Mn{f:Addr}:∀q∈EE L,(PyProof.Rows.envOfC "Sight.rising_neighbours" (aU tS) L f cd).cells.lookup q.1=some q.2:=by
 intro q hq;simp only[EE,bO,vJ,or_false] at hq;rcases hq with rfl;rfl
theorem JC:∀x∈zC,∃c,(EE L).lookup x=some c:=by
 intro x hx;simp only[zC,bO,vJ,or_false] at hx;rcases hx with rfl;exact#[_,Z]
theorem Jz:∀x∈zC,(aU tS).names.lookup x=some .cell:=by decide +kernel
theorem xY:bh ["self","hand"] ["self","hand"] (aU tS):=bu
inductive Et (K:ag) (CS CG CW T:Addr) (vs:List V) (H:Hp) (Q:VK) (E:XK):Prop
 |mk:∀(v g p:Addr) (h:Str) (hs:Xa) (ts:Xb) (qs:List Pc) (fp:List Addr) (f:Str->Str),vs=[.ref v,.str h]->ie K CS CG CW H v g p hs ts qs fp f->Wd hs ts qs f->h∈aA hs->eE H T j5->(∀l H',aV T H H'->eE H' T j5->H l=none->H' l=some (.lst ((cO hs ts qs f h).map V.str))->Q (.ref l) H')->Et K CS CG CW T vs H Q E
theorem Ye{CS CG CW T:Addr}(F:j2 K "rising_neighbours" "Sight.rising_neighbours" tS f0 c0 fd)(B:Bi mg)(TS:fM K CS)(TG:dz K CG)(TW:Txt K mg CW)(hC:PySem.W.CodeHd base c0 T)(sG:base.BuiltinsAt mg T)(cN:bb P w K mg base CW 2 "neighbours" ["self","hand"] (GL K CW)) :
  ai P w K mg base aR 4 f0 fd ["self","hand"] (Et K CS CG CW T):=by
 refine F.ok xY (λvs H Q E h=>?_) (λA outer s H vs Q E hr h=>?_)
 ·obtain⟨v,g,p,h,hs,ts,qs,fp,f,rfl,_⟩:=h;rfl
 ·obtain⟨v,g,p,h,hs,ts,qs,fp,f,rfl,S,W,hh,tab,k⟩:=h;have cz:aD 2 _:=hr.mono (by decide);refine' ⟨_,aI (ba ?l2),?kk⟩
  case l2=>exact Re (px:="other") (cB:=zC) (cl:=EE s.heap.objs.size) (is:=[0]) (k:=1) Z (by rfl) B.sorted (ae (eG cN TW.cl cz (cX (cX (pv 0) Z) Z) (ae (pv 1) af)) af) (QD (OY (P:=T) (c:=c0) Z Me Z hC sG) OV) (X_ (CG:=CG) (CW:=CW) TS) hr Mn JC Jz Z
  case' kk=>skip
  obtain⟨dx,dl,dv,dp,ad,h1,G,h3,h4,h5,h6⟩:=S.ex;obtain⟨jH,dw,dy,vs,bL,g1,g2,_⟩:=id G.ex;obtain⟨eL,d1,l2,d3,jb,as,ef,w1,_⟩:=id g2.ex;have fW:(bQ d1 l2 d3).lookup ("neighbours":Str)=none:=ik _ _ _ Z0 Z0 Z0;refine#[_,Z,v,CS,dx,_,_,Z,h1,TS.cl,TS.nW,fU _ _ _ _,g,CG,jH,_,_,Z,g1,TG.cl,TG.nW,mG _ _ _,p,eL,_,Z,w1,fW,_,Z,p,h,hs,ts,bL,Z,g2,W.Gd.iB,(hW hs).mem_iff.mp hh,λln nn=>?_];obtain⟨s1,e1⟩:=aO (o:=.lst ((nb hs ts h).map V.str)) nn;show iw _ (upd H ln (.lst ((nb hs ts h).map V.str))) _;generalize upd H ln (.lst ((nb hs ts h).map V.str))=H1 at s1 e1 ⊢;refine CY (xn ?_);refine OX (tab.same s1) Z Z Z Z λfl c' H4 b4 fR zp vf=>?_;obtain⟨tv,hT⟩:=km tab;have yE:NT H1 H4:=b4.nt (s1 _ _ hT);have S4:=(S.same s1).nt yE;have n8:(nb hs ts h).length<=8:=by have:=Bf hs ts h;have:=W.Gd.fG;have:=W.Gd.h8;omega
  refine#[.ref ln,fl,c',(nb hs ts h).map V.str,Dg hs qs f,[false,true],[.ref v],Z,Z,zp,vf,.inl #[ln,Z,.of (yE.lst e1)],by rw[aq];omega,#[by decide,λk hk=>?_],Z,λH' x sm hx=>?_,λl zs H5 s5 nl AL pz ek=>?_]
  ·obtain⟨v,hv,rfl⟩:=a_.mp hk;obtain⟨n,_,rfl⟩:=a_.mp hv;rfl
  ·obtain⟨n,hn,rfl⟩:=a_.mp hx;refine#[v,g,p,n,hs,ts,qs,fp,f,Z,Z,S4.same sm,Ea hn,λt nt=>#[aa.new nt,t,Z,?_]];rw[ay];rfl
  rw[WS pz ek];have s6:aa H4 (upd H5 l (.lst ((cO hs ts qs f h).map V.str))):=s5.trans (aa.new nl);refine k l _ (λb o e n=>s6 _ _ (b4 _ _ (s1 _ _ e) n)) (fR.same s6) ?_ ay;cases z:H l with
  |none=>rfl
  |some o=>
   by_cases y:l=T
   ·obtain⟨es,e,_⟩:=fR;rw[y,e] at AL;cases AL
   ·rw[b4 _ _ (s1 _ _ z) y] at AL;cases AL
theorem yi:bh ["guard","lead","burden"] ["guard","lead","burden"] (aU rp):=bu
def oZ(g:Str)(a b:Int):Bool:=if g="high" then decide (0<a) else if g="fall" then decide (b<2 * a) else decide (b<=a)
def qw:Sp:=λvs H Q _=>∃(g:Str) (a b:Int),vs=[.str g,.int a,.int b]/\Q (.bl (oZ g a b)) H
theorem YD(F:a9 K "fits" "fits" rp f0 fd):ai P w K mg base aR 1 f0 fd ["guard","lead","burden"] qw:=by
 refine F.bt yi λaL A outer s H vs Q E hr h=>?_
 ·obtain⟨g,a,b,rfl,k⟩:=h;refine' #[_,au ?s1 (au ?s2 (aI ?s3)),?kk]
  case s1=>exact bC (cU i9 (pv 0) dg (ak _)) (aI (ba (iQ xh (pv 1) aE (ak _)))) bD
  case s2=>exact bC (cU i9 (pv 0) dg (ak _)) (aI (ba (iQ xh (bw ki aE (pv 1)) (pv 2) (ak _)))) bD
  case s3=>exact ba (iQ Wu (pv 1) (pv 2) (ak _))
  case' kk=>skip
  unfold oZ at k;refine#[_,Z,Z,_,Z,?_];rw[tV];refine bp (λc=>?_) (λc=>?_)
  ·have c:g="high":=vq c;rw[aC c] at k;exact#[_,Z,_,_,Z,Z,k]
  ·have c:¬g="high":=λz=>c (bW z);rw[ao c] at k;refine#[_,Z,Z,_,Z,?_];rw[tV];refine bp (λc=>?_) (λc=>?_)
   ·have c:g="fall":=vq c;rw[aC c] at k;exact#[_,Z,_,_,Z,Z,.inl #[by decide,by decide],_,Z,_,_,Z,Z,k]
   ·have c:¬g="fall":=λz=>c (bW z);rw[ao c] at k;exact#[_,Z,_,Z,_,_,Z,Z,k]
end
abbrev Mv:=Str × Str × Str
def kM(m:Mv):List Key:=[.inr m.1,.inr m.2.1,.inr m.2.2]
def xG(qs:List Pc)(n:Str):Option (Xb):=match qs.find? λq=>decide (q.1=n) with
 |some q=>q.2.2
 |none=>none
theorem A_{qs:List Pc}(nd:(qs.map (·.1)).Nodup){q:Pc}(h:q∈qs):xG qs q.1=q.2.2:=by
 unfold xG;cases e:qs.find? λp=>decide (p.1=q.1) with
 |none=>
  have:=List.find?_eq_none.mp e q h;simp at this
 |some p=>
  have a:=List.mem_of_find?_eq_some e;have b:=List.find?_some e;have b:p.1=q.1:=vq b;rw[MT nd a h b]
def fV(hs:Xa)(ts:Xb)(qs:List Pc)(n a b:Str):Bool:=tK hs ts (xG qs n) (some a) (some b)
def pK(hs:Xa)(ts:Xb)(qs:List Pc)(f:Str->Str)(gd:Str)(gv:List Str)(a b n:Str):Bool:=!decide (n∈gv)&&(oZ gd (gI hs qs f a b) (fN qs n * iK hs a b)&&fV hs ts qs n a b)
def gB(hs:Xa)(ts:Xb)(qs:List Pc)(f:Str->Str)(gd:Str)(gv:List Str)(a b:Str):List Mv:=match (dR qs f a).find? (pK hs ts qs f gd gv a b) with
 |some n=>[(n,a,b)]
 |none=>[]
theorem Pn{α:Type}{p:α->Bool}:∀{l:List α} {i:Nat} {x:α},l[i]? = some x->p x=true->(∀y∈l.take i,p y=false)->l.find? p=some x
 |a::l,0,x,h,hp,_=>by
  cases h;rw[List.find?_cons_of_pos hp]
 |a::l,i+1,x,h,hp,hn=>by
  have na:¬p a=true:=by rw[hn a Z2];decide
  rw[List.find?_cons_of_neg na];exact Pn (by simpa using h) hp λy hy=>hn y (by simp[hy])
 |[],i,x,h,_,_=>by simp at h
theorem EO{qs:List Pc}{f:Str->Str}{h n:Str}(m:n∈dR qs f h):n∈qs.map (·.1)/\f n=h:=by
 obtain⟨a,b⟩:=List.mem_filter.mp m;exact#[(EX qs).mem_iff.mp a,vq b]
section
variable{P:Ad}{w:Af}{K:ag}{mg:Str->Option Aa}{base:Heap}
theorem nJ:bh ["sight","one","other","guard","given","lead","joint","piece"] ["sight","one","other","guard","given"] (aU yq):=bu
inductive jh (K:ag) (CS CG CW:Addr) (vs:List V) (H:Hp) (Q:VK) (E:XK):Prop
 |mk:∀(v g p lg:Addr) (a b gd:Str) (gv:List Str) (hs:Xa) (ts:Xb) (qs:List Pc) (fp:List Addr) (f:Str->Str),vs=[.ref v,.str a,.str b,.str gd,.ref lg]->ie K CS CG CW H v g p hs ts qs fp f->Wd hs ts qs f->a∈aA hs->b∈aA hs->H lg=some (.lst (gv.map V.str))->(∀l ys H',aa H H'->H l=none->H' l=some (.lst ys)->aY K H' ys ((gB hs ts qs f gd gv a b).map kM)->Q (.ref l) H')->jh K CS CG CW vs H Q E
theorem WV{CS CG CW:Addr}(F:a9 K "heaviest_move" "heaviest_move" yq f0 fd)(TS:fM K CS)(TG:dz K CG)(cL:bb P w K mg base CS 3 "lead" ["self","one","other"] (Bq K CS CG CW))(cJ:bb P w K mg base CS 3 "joint_strength" ["self","one","other"] (Hi K CS CG CW))(cF:bj P w K mg base 1 "fits" ["guard","lead","burden"] qw)(cW:bb P w K mg base CG 2 "weight" ["self","piece"] (Am K CG CW CP))(cM:bb P w K mg base CG 3 "may_go" ["self","piece","one","other"] (Es K CG CW CP)) :
  ai P w K mg base aR 4 f0 fd ["sight","one","other","guard","given"] (jh K CS CG CW):=by
 refine F.bt nJ λaL A outer s H vs Q E hr h=>?_
 ·obtain⟨v,g,p,lg,a,b,gd,gv,hs,ts,qs,fp,f,rfl,S,W,ha,hb,hg,k⟩:=h;have hu:=eS hr;have sz:=bU;have dS:aD 1 _:=hr.mono (by decide);have cz:aD 2 _:=hr.mono (by decide);refine' #[_,?r0,?kk]
  case' r0=>refine' au ?s1 ?r1
  case' r1=>refine' au ?s2 ?r2
  case' r2=>refine' au ?s3 (aI ?s4)
  case s1=>exact bg 5 nJ.nd (eG cL TS.cl hr (pv 0) (ae (pv 1) (ae (pv 2) af)))
  case s2=>exact bg 6 nJ.nd (eG cJ TS.cl hr (pv 0) (ae (pv 1) (ae (pv 2) af)))
  case' s3=>refine' eV eM Z (dH (eU hu (cX (pv 0) Z) (pv 1) (λ_ _=>rfl))) (bV 7 nJ.nd) (aI ?b3)
  case' b3=>refine' bC (PW.pt (xo ?c1 (Aq ?c2))) (aI ?b4) bD
  case c1=>exact cU (M5 eQ (pP hr 0)) (pv 7) (pv 4) (by with_unfolding_all rfl)
  case c2=>exact dZ (aX cF dS (ae (pv 3) (ae (pv 5) (ae (bw ki (eG cW TG.cl cz (cX (pv 0) Z) (ae (pv 7) af)) (pv 6)) af))))
  case b4=>exact bC (dZ (eG cM TG.cl hr (cX (pv 0) Z) (ae (pv 7) (ae (pv 1) (ae (pv 2) af))))) (aI (ba (d5 (ae (fA (ae (pv 7) (ae (pv 1) (ae (pv 2) af)))) af)))) bD
  case s4=>exact ba (d5 af)
  case' kk=>skip
  obtain⟨dx,dl,dv,dp,ad,h1,G,h3,h4,h5,h6⟩:=S.ex;have no:∀{m:Str},¬m="wares"->¬m="load_by_hand"->¬m="level_by_hand"->¬m="pieces_by_hand"->(dk g dl dv dp).lookup m=none:=λa b c d=>A8 _ _ _ _ a b c d;refine#[_,Z,v,dx,_,Z,h1,no Z0 Z0 Z0 Z0,_,Z,_,Z,v,g,p,a,b,hs,ts,qs,fp,f,Z,S,W,ha,hb,?_];refine setG ?_;dsimp only;refine#[_,Z,v,dx,_,Z,h1,no Z0 Z0 Z0 Z0,_,Z,_,Z,v,g,p,a,b,hs,ts,qs,fp,f,Z,S,W,ha,hb,?_];refine setG ?_;dsimp only;have hl:=h6 a ha;refine#[_,Z,v,CS,dx,_,_,Z,h1,TS.cl,TS.nP,Cj _ _ _ _,_,Z,dp,_,Z,jI h5 ha,ad a,Z,#[_,.of hl],gF (K:=K) (a:=ad a) (xs:=(dR qs f a).map V.str) (λi σ H'=>∃v7:Option V,σ=[some (.ref v),some (.str a),some (.str b),some (.str gd),some (.ref lg),some (.int (gI hs qs f a b)),some (.int (iK hs a b)),v7]/\aa H H'/\∀n∈(dR qs f a).take i,pK hs ts qs f gd gv a b n=false) #[none,Z,aa.refl H,by simp] (λi σ H' _ ⟨_,_,sm,_⟩=>.of (sm _ _ hl)) ?_ ?_]
  ·rintro i x σ H' hx ⟨v7,rfl,sm,nf⟩;obtain⟨n,hn,rfl⟩:=jT hx;obtain⟨nm,fn⟩:=EO (cn hn);obtain⟨q,hq,rfl⟩:=a_.mp nm;have G':=G.same sm;have mj:=sm _ _ h1;obtain⟨jH,dw,dy,vs,bL,g1,g2,_⟩:=id G'.ex;have JS:(bF p dw dy).lookup ("weight":Str)=none:=pV _ _ _ Z0 Z0 Z0;have J_:(bF p dw dy).lookup ("may_go":Str)=none:=pV _ _ _ Z0 Z0 Z0;have wq:=W.wq q hq;have ew:=A6 W.nd hq;have ey:=A_ W.nd hq
   have go:∀{H2:Hp},aa H' H2->pK hs ts qs f gd gv a b q.1=false->∃v7:Option V,[some (V.ref v),some (V.str a),some (V.str b),some (V.str gd),some (V.ref lg),some (V.int (gI hs qs f a b)),some (V.int (iK hs a b)),some (V.str q.1)]=[some (V.ref v),some (V.str a),some (V.str b),some (V.str gd),some (V.ref lg),some (V.int (gI hs qs f a b)),some (V.int (iK hs a b)),v7]/\aa H H2/\∀n∈(dR qs f a).take (i+1),pK hs ts qs f gd gv a b n=false:=λ{H2} s2 e=>#[_,Z,sm.trans s2,λm hm=>by
    rw[gi hn] at hm;rcases eK.mp hm with hm|hm
    ·exact nf m hm
    ·rw[pf.mp hm];exact e]
   refine setG ?_;dsimp only;refine#[_,Z,_,Z,q.1,gv,Z,#[lg,_,Z,.of (sm _ _ hg),Bz gv],_,Z,?_];rw[aC Z];refine bp (λc=>?_) (λc=>?_)
   ·have c:¬q.1∈gv:=by simpa using c
    refine#[_,Z,_,Z,_,Z,v,CS,dx,_,_,Z,mj,TS.cl,TS.nW,fU _ _ _ _,g,jH,_,Z,g1,JS,_,Z,g,p,.str q.1,some q.1,hs,ts,qs,fp,Z,G',W.nd,Z,.inl #[q,hq,Z,?_]];refine#[_,Z,_,_,Z,Z,.inl #[by omega,by omega],gd,gI hs qs f a b,q.2.1 * iK hs a b,Z,_,Z,?_];refine bp (λc2=>?_) (λc2=>?_)
    ·refine#[_,Z,v,CS,dx,_,_,Z,mj,TS.cl,TS.nW,fU _ _ _ _,g,jH,_,Z,g1,J_,_,Z,_,Z,_,Z,g,p,.str q.1,.str a,.str b,some q.1,some a,some b,hs,ts,qs,fp,Z,G',W.nd,W.Gd.iB,Z,.inl #[q,hq,Z,Z,Z,λH2 s2=>#[_,Z,?_]]];refine bp (λc3=>?_) (λc3=>?_)
     ·have pt:pK hs ts qs f gd gv a b q.1=true:=by
       unfold pK fV;rw[ew,ey,c2,dA c];simpa using c3
      refine#[_,Z,_,Z,_,Z,by show 3<=sizeLine;decide,λt nt=>?_];obtain⟨s3,e3⟩:=aO (o:=.tup [.str q.1,.str a,.str b]) nt;generalize upd H2 t (.tup [.str q.1,.str a,.str b])=H3 at s3 e3 ⊢;refine#[by show 1<=sizeLine;decide,λl nl=>?_];have s4:=aa.new (o:=.lst [.ref t]) nl;have yx:=(sm.trans s2).trans s3;refine k l [.ref t] _ (yx.trans s4) (yx.free nl) ay ?_;unfold gB;rw[Pn hn pt nf];exact .cons #[t,Z,s4 _ _ e3] .nil
     ·refine go s2 ?_;unfold pK fV;rw[ew,ey,c2];have c3:tK hs ts q.2.2 (some a) (some b)=false:=by simpa using c3
      rw[c3,vO,vO]
    ·refine go (aa.refl H') ?_;unfold pK;rw[ew,show oZ gd (gI hs qs f a b) (q.2.1 * iK hs a b)=false by simpa using c2,Bool.false_and,vO]
   ·have c:q.1∈gv:=by simpa using c
    refine go (aa.refl H') ?_;unfold pK;rw[bW c];rfl
  ·rintro σ H' ⟨v7,rfl,sm,nf⟩;rw[aq,dG] at nf;refine#[by show 0<=sizeLine;decide,λl nl=>?_];refine k l [] _ (sm.trans (aa.new nl)) (sm.free nl) ay ?_;unfold gB;rw[List.find?_eq_none.mpr λn hn=>by rw[nf n hn];decide];exact .nil
def vD(hs:Xa)(ts:Xb)(qs:List Pc)(f:Str->Str)(gd h:Str):List Mv:=match cO hs ts qs f h with
 |[]=>[]
 |o::_=>gB hs ts qs f gd [] h o
theorem R7:bh ["sight","hand","guard","around"] ["sight","hand","guard"] (aU MH):=bu
inductive jg (K:ag) (CS CG CW T:Addr) (mv:Xa->Xb->List Pc->(Str->Str)->Str->Str->List Mv) (vs:List V) (H:Hp) (Q:VK) (E:XK):Prop
 |mk:∀(v g p:Addr) (h gd:Str) (hs:Xa) (ts:Xb) (qs:List Pc) (fp:List Addr) (f:Str->Str),vs=[.ref v,.str h,.str gd]->ie K CS CG CW H v g p hs ts qs fp f->Wd hs ts qs f->h∈aA hs->eE H T j5->(∀l ys H',aV T H H'->eE H' T j5->H l=none->H' l=some (.lst ys)->aY K H' ys ((mv hs ts qs f gd h).map kM)->Q (.ref l) H')->jg K CS CG CW T mv vs H Q E
theorem aV.new{T l:Addr}{H G:Hp}(b:aV T H G)(hT:∃vs,G T=some (.tbl vs))(n:G l=none):H l=none:=by
 cases z:H l with
 |none=>rfl
 |some o=>
  by_cases y:l=T
  ·obtain⟨vs,e⟩:=hT;rw[y,e] at n;cases n
  ·rw[b _ _ z y] at n;cases n
theorem fN_{CS CG CW T:Addr}(F:a9 K "moves_by_least" "moves_by_least" MH f0 fd)(TS:fM K CS)(cR:bb P w K mg base CS 4 "rising_neighbours" ["self","hand"] (Et K CS CG CW T))(cH:bj P w K mg base 4 "heaviest_move" ["sight","one","other","guard","given"] (jh K CS CG CW)):ai P w K mg base aR 5 f0 fd ["sight","hand","guard"] (jg K CS CG CW T vD):=by
 refine F.bt R7 λaL A outer s H vs Q E hr h=>?_
 ·obtain⟨v,g,p,h,gd,hs,ts,qs,fp,f,rfl,S,W,hh,tab,k⟩:=h;refine' #[_,au ?s1 (au ?s2 (aI ?s3)),?kk]
  case s1=>exact bg 3 R7.nd (eG cR TS.cl hr (pv 0) (ae (pv 1) af))
  case s2=>exact bC (cU (OZ eQ (pP hr 0)) (pv 3) (d5 af) (ak _)) (aI (ba (d5 af))) bD
  case s3=>exact ba (aX cH hr (ae (pv 0) (ae (pv 1) (ae (bB gQ (pv 3) aE (λ_ _=>rfl)) (ae (pv 2) (ae (d5 af) af))))))
  case' kk=>skip
  obtain⟨dx,dl,dv,dp,ad,h1,G,h3,h4,h5,h6⟩:=S.ex;refine#[_,Z,v,dx,_,Z,h1,A8 _ _ _ _ Z0 Z0 Z0 Z0,_,Z,v,g,p,h,hs,ts,qs,fp,f,Z,S,W,hh,tab,λl1 H1 b1 uq n1 e1=>?_];refine setG ?_;dsimp only;obtain⟨tv,hT⟩:=km tab;have S1:=S.nt (b1.nt hT);refine#[_,Z,by show 0<=sizeLine;decide,λl2 n2=>?_];obtain⟨s2,e2⟩:=aO (o:=.lst []) n2;generalize upd H1 l2 (.lst [])=H2 at s2 e2 ⊢;have Bd:=s2 _ _ e1;have b2:aV T H H2:=λb o e n=>s2 _ _ (b1 _ _ e n);have kD:=uq.same s2;have CJ:=E6 hs ts qs f h;refine#[cO hs ts qs f h,[],Rn Bd,Rn e2,_,Z,?_];cases z:cO hs ts qs f h with
  |nil=>
   refine dQ #[by show 0<=sizeLine;decide,λl3 n3=>?_];have s3:=aa.new (o:=.lst []) n3;refine k l3 [] _ (λb o e n=>s3 _ _ (b2 _ _ e n)) (kD.same s3) (aV.new b2 (km kD) n3) ay ?_;unfold vD;rw[z];exact .nil
  |cons o r=>
   rw[dA Z2];refine aM ?_;rw[z] at Bd CJ;have ob:o∈aA hs:=Ea (CJ.mem_iff.mp dO);refine#[_,Z,_,Z,_,Z,l1,_,0,.str o,Z,Z,.of Bd,L2.oC (j:=0) Z,_,Z,by show 0<=sizeLine;decide,λl3 n3=>?_];obtain⟨s3,e3⟩:=aO (o:=.lst []) n3;generalize upd H2 l3 (.lst [])=H3 at s3 e3 ⊢;refine#[v,g,p,l3,h,o,gd,[],hs,ts,qs,fp,f,Z,(S1.same s2).same s3,W,hh,ob,e3,λl ys H4 s4 nl hl tu=>?_];have gm:=s3.trans s4;refine k l ys H4 (λb o e n=>gm _ _ (b2 _ _ e n)) (kD.same gm) (aV.new b2 (km kD) (s3.free nl)) hl ?_;unfold vD;rw[z];exact tu
end
abbrev xE:=Rl->Xa->Xb->List Pc->(Str->Str)->Str->List Mv
def Er(mv:xE)(r:Rl)(hs:Xa)(ts:Xb)(qs:List Pc)(f:Str->Str):List Mv:=if r.2.2.1="one" then ((aA hs).flatMap (mv r hs ts qs f)).take 1 else (aA hs).flatMap (mv r hs ts qs f)
def zV:xE:=λr hs ts qs f h=>vD hs ts qs f (r.2.2.2.getD "") h
theorem Qx:∀r∈rl,r.2.1≠"shares"->r.2.2.2.isSome=true:=by decide +kernel
theorem pS(hs:Xa)(ts:Xb)(qs:List Pc)(f:Str->Str)(gd:Str)(gv:List Str)(a b:Str):(gB hs ts qs f gd gv a b).length<=1:=by
 unfold gB;split
 ·exact aZ 1
 ·exact fB 1
theorem hM_(r:Rl)(hs:Xa)(ts:Xb)(qs:List Pc)(f:Str->Str)(h:Str):(zV r hs ts qs f h).length<=1:=by
 unfold zV vD;split
 ·exact fB 1
 ·exact pS ..
theorem S0{α β:Type}{F:α->β->Prop}:∀{ys:List α} {ks:List β} (n:Nat),Paired F ys ks->Paired F (ys.take n) (ks.take n)
 |_,_,0,_=>.nil
 |_,_,_+1,.nil=>.nil
 |_,_,n+1,.cons h t=>.cons h (S0 n t)
theorem Q3{α:Type}{g:Str->List α}{n:Nat}(h:∀x,(g x).length<=n):∀l:List Str,(l.flatMap g).length<=n * l.length
 |[]=>by simp
 |a::l=>by
  have:=h a;have ih:=Q3 h l;rw[vL,eF,hX,Nat.mul_succ];omega
section
variable{P:Ad}{w:Af}{K:ag}{mg:Str->Option Aa}{base:Heap}
theorem M9:bh ["sight","hand","words"] ["sight","hand","words"] (aU EC):=bu
inductive t_ (K:ag) (CS CG CW T:Addr) (pr:Rl->Prop) (mv:xE) (vs:List V) (H:Hp) (Q:VK) (E:XK):Prop
 |mk:∀(v g p aw:Addr) (h:Str) (hs:Xa) (ts:Xb) (qs:List Pc) (fp:List Addr) (f:Str->Str),∀r∈rl,vs=[.ref v,.str h,.ref aw]->pr r->(∀H',fe K H' aw [.str r.2.1,.str r.2.2.1,rK r.2.2.2])->ie K CS CG CW H v g p hs ts qs fp f->Wd hs ts qs f->h∈aA hs->eE H T j5->(∀l ys H',aV T H H'->eE H' T j5->H l=none->H' l=some (.lst ys)->aY K H' ys ((mv r hs ts qs f h).map kM)->Q (.ref l) H')->t_ K CS CG CW T pr mv vs H Q E
theorem fV_{CS CG CW T:Addr}(F:a9 K "moves_from" "moves_from" EC f0 fd)(cL:bj P w K mg base 5 "moves_by_least" ["sight","hand","guard"] (jg K CS CG CW T vD)):ai P w K mg base aR 6 f0 fd ["sight","hand","words"] (t_ K CS CG CW T (λr=>r.2.1="least") zV):=by
 refine F.bt M9 λaL A outer s H vs Q E hr h=>?_
 ·obtain⟨v,g,p,aw,h,hs,ts,qs,fp,f,r,gZ,rfl,le,ha,S,W,hh,tab,k⟩:=h;refine' #[_,au ?s1 cq,?kk]
  case s1=>exact bC (cU i9 (bB cy (pv 2) aE (λ_ _=>rfl)) dg (ak _)) (aI (ba (aX cL hr (ae (pv 0) (ae (pv 1) (ae (bB cy (pv 2) aE (λ_ _=>rfl)) af)))))) bD
  case' kk=>skip
  have so:=Qx r gZ (by rw[le];decide +kernel);obtain⟨gd,eg⟩:=BF.mp so;refine#[_,Z,aw,_,_,_,Z,Z,ha _,Z,Z,_,Z,?_];rw[tV,bW le];refine dQ ?_;refine#[_,Z,_,Z,_,Z,aw,_,_,.str gd,Z,Z,ha _,?_,v,g,p,h,gd,hs,ts,qs,fp,f,Z,S,W,hh,tab,λl ys H' b t n e tu=>k l ys H' b t n e ?_]
  ·rw[eg];rfl
  ·unfold zV;rw[eg];exact tu
theorem GU:bh ["sight","rule","moment","words","moves","hand"] ["sight","rule","moment"] (aU jm):=bu
inductive kI (K:ag) (CS CG CW T:Addr) (pr:Rl->Prop) (mv:xE) (vs:List V) (H:Hp) (Q:VK) (E:XK):Prop
 |mk:∀(v g p:Addr) (m:Int) (hs:Xa) (ts:Xb) (qs:List Pc) (fp:List Addr) (f:Str->Str),∀r∈rl,vs=[.ref v,.str r.1,.int m]->pr r->ie K CS CG CW H v g p hs ts qs fp f->Wd hs ts qs f->eE H T j5->(∀l ys H',aV T H H'->eE H' T j5->H l=none->H' l=some (.lst ys)->aY K H' ys ((Er mv r hs ts qs f).map kM)->Q (.ref l) H')->kI K CS CG CW T pr mv vs H Q E
theorem Yh{CS CG CW T:Addr}{pr:Rl->Prop}{mv:xE}(F:a9 K "moves_seen" "moves_seen" jm f0 fd)(TS:fM K CS)(TG:dz K CG)(TW:Txt K mg CW)(VW:∀r,pr r->r.2.1≠"turns")(hb:∀r hs ts qs f h,Wd hs ts qs f->(mv r hs ts qs f h).length<=1000)(EH:bj P w K mg base 2 "checked_words" ["rule"] (Hr K))(cH:bb P w K mg base CW 1 "hands" ["self"] (Bp K CW))(cF:bj P w K mg base 6 "moves_from" ["sight","hand","words"] (t_ K CS CG CW T pr mv)) :
  ai P w K mg base aR 7 f0 fd ["sight","rule","moment"] (kI K CS CG CW T pr mv):=by
 refine F.bt GU λaL A outer s H vs Q E hr h=>?_
 ·obtain⟨v,g,p,m,hs,ts,qs,fp,f,r,gZ,rfl,hp,S,W,tab,k⟩:=h;have sz:=bU;have dS:aD 1 _:=hr.mono (by decide);have cz:aD 2 _:=hr.mono (by decide);refine' #[_,?r0,?kk]
  case' r0=>refine' au ?s1 ?r1
  case' r1=>refine' au ?s2 ?r2
  case' r2=>refine' au ?s3 ?r3
  case' r3=>refine' au ?s4 (aI ?s5)
  case s1=>exact bg 3 GU.nd (aX EH cz (ae (pv 1) af))
  case s2=>exact bC (cU i9 (bB cy (pv 3) aE (λ_ _=>rfl)) dg (ak _)) cq bD
  case s3=>exact bg 4 GU.nd (d5 af)
  case' s4=>refine' eV eM Z (dH (xm cH TW.cl dS (cX (cX (pv 0) Z) Z))) (bV 5 GU.nd) (au ?b1 (aI ?b2))
  case b1=>exact oE (mz o9 PySem.F.slot_list_extend PySem.F.type_list_extend E_ (pv 4) (ae (aX cF hr (ae (pv 0) (ae (pv 5) (ae (pv 3) af)))) af))
  case b2=>exact bC (PW.pt (xo (cU i9 (bB cy (pv 3) aE (λ_ _=>rfl)) dg (ak _)) (Aq (cU (Zp (pP hr 0)) (pv 4) (d5 af) (ak _))))) (aI (ba (GX QI (pv 4) GK (GQ aE)))) bD
  case s5=>exact ba (pv 4)
  case' kk=>skip
  refine#[_,Z,r,gZ,Z,λaw ha=>?_];refine setG ?_;dsimp only;refine#[_,Z,aw,_,_,_,Z,Z,ha _,Z,Z,_,Z,?_];rw[tV,dA (VW r hp)];refine aM ?_;refine#[by show 0<=sizeLine;decide,λlm nm=>?_];refine setG ?_;dsimp only;obtain⟨s1,e1⟩:=aO (o:=.lst []) nm;generalize upd H lm (.lst [])=H1 at s1 e1 ⊢;obtain⟨dx,dl,dv,dp,ad,h1,G,h3,h4,h5,h6⟩:=(S.same s1).ex;obtain⟨jH,dw,dy,vs,bL,g1,g2,_⟩:=id G.ex;obtain⟨eL,d1,l2,d3,jb,as,ef,w1,_⟩:=id g2.ex;have fW:(bQ d1 l2 d3).lookup ("hands":Str)=none:=ik _ _ _ Z0 Z0 Z0;refine#[_,Z,v,CS,dx,_,_,Z,h1,TS.cl,TS.nW,fU _ _ _ _,g,CG,jH,_,_,Z,g1,TG.cl,TG.nW,mG _ _ _,p,eL,_,Z,w1,fW,p,hs,ts,bL,Z,g2,λlh nh=>?_];obtain⟨s2,e2⟩:=aO (o:=.lst ((aA hs).map V.str)) nh;generalize upd H1 lh (.lst ((aA hs).map V.str))=H2 at s2 e2 ⊢;have Xl:lm≠lh:=bI e1 nh;have h9:=s1.trans s2;obtain⟨tv,hT⟩:=km tab;have neT:∀{b:Addr} {xs:List V},H2 b=some (.lst xs)->b≠T:=λe z=>by rw[z,h9 _ _ hT] at e;cases e
  have n8:(aA hs).length<=8:=by have:=W.Gd.fG;have:=W.Gd.h8;omega
  have bound:∀i,(((aA hs).take i).flatMap (mv r hs ts qs f)).length<=8000:=λi=>by
   have:=Q3 (g:=mv r hs ts qs f) (n:=1000) (λx=>hb r hs ts qs f x W) ((aA hs).take i);rw[cj] at this;omega
  refine#[lh,Z,#[_,.of e2],gF (K:=K) (a:=lh) (xs:=(aA hs).map V.str) (λi σ H'=>∃(v5:Option V) (ys:List V),σ=[some (.ref v),some (.str r.1),some (.int m),some (.ref aw),some (.ref lm),v5]/\aV T H H'/\eE H' T j5/\H' lh=some (.lst ((aA hs).map V.str))/\H' lm=some (.lst ys)/\aY K H' ys ((((aA hs).take i).flatMap (mv r hs ts qs f)).map kM)/\(r.2.2.1="one"->((aA hs).take i).flatMap (mv r hs ts qs f)=[])) #[none,[],Z,λb o e n=>h9 _ _ e,tab.same h9,e2,s2 _ _ e1,.nil,λ_=>rfl] (λi σ H' _ ⟨_,_,_,_,_,z,_⟩=>.of z) ?_ ?_]
  ·rintro i x σ H' hx ⟨v5,ys,rfl,bT,jd,g7,iF,tu,one⟩;obtain⟨n,hn,rfl⟩:=jT hx;have Jk:=cn hn;refine setG ?_;dsimp only;have S':=S.nt (bT.nt hT);refine#[_,Z,.inl #[Z,_,.of iF],_,Z,_,Z,_,Z,v,g,p,aw,n,hs,ts,qs,fp,f,r,gZ,Z,hp,ha,S',W,Jk,jd,λl zs H3 b3 iu nl hl tz=>?_];obtain⟨tv',A4⟩:=km jd;have CT:=b3.nt A4;have uZ:=CT.lst iF;have HY:=aY.nt tu CT;have lT:l≠T:=λz=>by rw[z,A4] at nl;cases nl
   have F4:lm≠l:=bI iF nl;have b03:=bound i;have ly:=bE tu;have lz:=bE tz;rw[aq] at ly lz;have bz:=hb r hs ts qs f n W;refine#[lm,l,ys,zs,Z,Z,uZ,hl,by omega,?_];have e4:upd H3 lm (.lst (ys++zs)) lm=some (.lst (ys++zs)):=ay
   have b4:aV T H (upd H3 lm (.lst (ys++zs))):=λb o e ne=>by
    rw[ax (bI e nm)];exact b3 _ _ (bT _ _ e ne) ne
   have fR:eE (upd H3 lm (.lst (ys++zs))) T j5:=eE.putL iu uZ
   have zj:upd H3 lm (.lst (ys++zs)) lh=some (.lst ((aA hs).map V.str)):=by
    rw[ax Xl.symm];exact CT.lst g7
   have fl:((aA hs).take (i+1)).flatMap (mv r hs ts qs f)=((aA hs).take i).flatMap (mv r hs ts qs f)++mv r hs ts qs f n:=by
    rw[gi hn,List.flatMap_append,vL,List.flatMap_nil,mJ]
   have BS:aY K (upd H3 lm (.lst (ys++zs))) (ys++zs) ((((aA hs).take (i+1)).flatMap (mv r hs ts qs f)).map kM):=by
    rw[fl,bX];exact kn (kq HY uZ) (kq tz uZ)
   generalize upd H3 lm (.lst (ys++zs))=H4 at e4 b4 fR zj BS ⊢;dsimp only;refine#[_,Z,aw,_,_,_,Z,Z,ha _,Z,Z,_,Z,?_];rw[tV];refine bp (λc=>?_) (λc=>?_)
   ·have c:r.2.2.1="one":=vq c;refine#[_,Z,by show 0<=sizeLine;decide,λle ne=>?_];obtain⟨s5,e5⟩:=aO (o:=.lst []) ne;generalize upd H4 le (.lst [])=H5 at s5 e5 ⊢;refine#[lm,le,ys++zs,Z,Z,.of (s5 _ _ e4),.of e5,_,Z,?_];have ll:=bE BS;rw[aq] at ll;refine bp (λc2=>?_) (λc2=>?_)
    ·refine#[_,Z,_,Z,lm,_,Z,.of (s5 _ _ e4),λlq nq=>?_];rw[show iG (ys++zs) none (some 1)=(ys++zs).take 1 from gQ_ (ys++zs) 1];have s6:=aa.new (o:=.lst ((ys++zs).take 1)) nq;have Cr:=s5.trans s6;have b6:aV T H (upd H5 lq (.lst ((ys++zs).take 1))):=λb o e n=>Cr _ _ (b4 _ _ e n);refine k lq _ _ b6 (fR.same Cr) (aV.new (T:=T) (G:=H5) (λb o e n=>s5 _ _ (b4 _ _ e n)) (km (fR.same s5)) nq) ay ?_;unfold Er;rw[aC c]
     have nz:((aA hs).take (i+1)).flatMap (mv r hs ts qs f)≠[]:=λz=>by
      rw[z,sW] at ll;have y:ys++zs=[]:=List.length_eq_zero_iff.mp ll;rw[y] at c2;simp at c2
     have e7:((aA hs).flatMap (mv r hs ts qs f)).take 1=(((aA hs).take (i+1)).flatMap (mv r hs ts qs f)).take 1:=by
      conv=>lhs;rw[<- List.take_append_drop (i+1) (aA hs),List.flatMap_append]
      cases z:((aA hs).take (i+1)).flatMap (mv r hs ts qs f) with
      |nil=>exact absurd z nz
      |cons a b=>rfl
     rw[e7,List.map_take];exact S0 1 (BS.same Cr)
    ·have z:ys++zs=[]:=by simpa using c2
     refine#[_,_,Z,λb o e n=>s5 _ _ (b4 _ _ e n),fR.same s5,s5 _ _ zj,s5 _ _ e4,BS.same s5,λ_=>?_];rw[z,sW] at ll;exact List.length_eq_zero_iff.mp ll.symm
   ·refine#[_,_,Z,b4,fR,zj,e4,BS,λz=>absurd (bW z) c]
  ·rintro σ H' ⟨v5,ys,rfl,bT,jd,g7,iF,tu,one⟩;rw[aq,dG] at tu one;refine#[_,Z,k lm ys H' bT jd nm iF ?_];unfold Er;by_cases c:r.2.2.1="one"
   ·rw[aC c];have:=one c;rw[this] at tu ⊢;exact tu
   ·rw[ao c];exact tu
end
structure pC (P:Ad) (w:Af) (K:ag) (mg:Str->Option Aa) (base:Heap) (C:Addr) (k:Nat) (x:Str) (ps:List Str) (sp:Sp):Prop where
 ex:∃f fd,ai P w K mg base aR k f fd ps sp/\Mk K C f/\mg x=some (.ref C)/\o5 K fd ps []
theorem JH{X:Cx}{C:Addr}{k:Nat}{x:Str}{ps:List Str}{sp:Sp}{p pos:Pos}{e:Expr}{es:List Expr}{t:TA}(c:pC X.prog X.w X.K X.mg X.base C k x ps sp)(hr:aD (k+1) X.A)(ha:PA X (e::es) t)(hg:Gl X x:=by rfl)(me:(x == ("__debug__":Str))=false:=by decide)
  (he:starEach (e::es) X.env=(false,eval e X.env)::starEach es X.env:=by rfl) (j9:(backTo pos (starEach es X.env)).any (·.1)=false:=by rfl):PE X (.Call (.Name x p) (e::es) [] pos) (v_ C sp [] E0 t):=by
 obtain⟨f,fd,F,M,m,b⟩:=c.ex;exact Xu M F hr hg m b .nil js ha me he j9
section
variable{P:Ad}{w:Af}{K:ag}{mg:Str->Option Aa}{base:Heap}
theorem qC:bh ["thing","least"] ["thing","least"] (aU Lg):=bu
def SA:Sp:=λvs H Q _=>∃i a:Int,vs=[.int i,.int a]/\Q (.bl (decide (a<=i))) H
theorem gn_(F:a9 K "is_whole_from" "is_whole_from" Lg f0 fd)(cI:bj P w K mg base 1 "is_whole" ["thing"] qu):ai P w K mg base aR 2 f0 fd ["thing","least"] SA:=by
 refine F.bt qC λaL A outer s H vs Q E hr h=>?_
 ·obtain⟨i,a,rfl,k⟩:=h;refine#[_,aI (ba (pU (aX cI hr (ae (pv 0) af)) (mw (iQ vt (pv 1) (pv 0) (ak _))))),?_];exact#[_,Z,i,Z,_,Z,dQ #[_,Z,_,Z,_,_,Z,Z,k]]
theorem el':bh ["thing"] ["thing"] (aU M6):=bu
def S9:Sp:=λvs H Q _=>∃i:Int,vs=[.int i]/\0<=i/\Q (.int i) H
theorem eQ_(F:a9 K "checked_moments" "checked_moments" M6 f0 fd)(cI:bj P w K mg base 2 "is_whole_from" ["thing","least"] SA):ai P w K mg base aR 3 f0 fd ["thing"] S9:=by
 refine F.bt el' λaL A outer s H vs Q E hr h=>?_
 ·obtain⟨i,rfl,h0,k⟩:=h;refine#[_,au (bC (eI (dZ (aX cI hr (ae (pv 0) (ae aE af))))) cq bD) (aI (ba (pv 0))),?_];refine#[_,Z,i,0,Z,_,Z,?_];rw[bW h0];exact aM #[_,Z,k]
theorem qN:bh ["goods","stand","rule"] ["goods","stand","rule"] (aU LV):=bu
def SF(K:ag)(CG CW:Addr):Sp:=λvs H Q _=>∃(g d:V),∃r∈rl,vs=[g,d,.str r.1]/\Fc K CG CW [g,d] H Q E0
theorem h2_{CG CW:Addr}(F:a9 K "checked_start" "checked_start" LV f0 fd)(EH:bj P w K mg base 2 "checked_words" ["rule"] (Hr K))(cS:bj P w K mg base 2 "checked_stand" ["goods","stand"] (Fc K CG CW)):ai P w K mg base aR 3 f0 fd ["goods","stand","rule"] (SF K CG CW):=by
 refine F.bt qN λaL A outer s H vs Q E hr h=>?_
 ·obtain⟨g,d,r,gZ,rfl,h⟩:=h;refine#[_,au (oE (aX EH hr (ae (pv 2) af))) (aI (ba (aX cS hr (ae (pv 0) (ae (pv 1) af))))),?_];exact#[_,Z,r,gZ,Z,λa _=>#[_,Z,_,Z,h]]
structure uf (K:ag) (CG CW:Addr) (H:Hp) (g p d:Addr) (hs:Xa) (ts:Xb) (qs:List Pc) (fp:List Addr) (ns:List Str) (f:Str->Str):Prop where
 G:fQ K CG CW H g p hs ts qs fp
 oz:d∉fp
 hd:H d=some (.dK (dE ns f))
 so:oH hs qs ns f
 has:∀b∈fp,∃o,H b=some o/\∀vs,o≠.tbl vs
theorem uf.nt{CG CW g p d:Addr}{H G:Hp}{hs:Xa}{ts:Xb}{qs:List Pc}{fp:List Addr}{f:Str->Str}(S:uf K CG CW H g p d hs ts qs fp ns f)(s:NT H G):uf K CG CW G g p d hs ts qs fp ns f:=#[S.G.nt s,S.oz,s.dK S.hd,S.so,λb hb=>by
 obtain⟨o,e,n⟩:=S.has b hb;exact#[o,s _ _ e n,n]]
structure Tb (H:Hp) (T1 T2:Addr):Prop where
 a:eE H T1 wG
 b:eE H T2 j5
 ne:T1≠T2
theorem Sb:bh ["goods","stand","rule","moment","placed"] ["goods","stand","rule","moment"] (aU Lu):=bu
end
def pR(hs:Xa)(ts:Xb)(qs:List Pc)(f:Str->Str)(gd h:Str):List Mv->List Str->List Mv
 |ms,[]=>ms
 |ms,o::l=>if 0<gI hs qs f h o then pR hs ts qs f gd h (ms++gB hs ts qs f gd (ms.map (·.1)) h o) l else pR hs ts qs f gd h ms l
def Bk(hs:Xa)(ts:Xb)(qs:List Pc)(f:Str->Str)(gd h:Str):List Mv:=pR hs ts qs f gd h [] (cO hs ts qs f h)
variable{T:Addr}
section
variable{P:Ad}{w:Af}{K:ag}{mg:Str->Option Aa}{base:Heap}
theorem Hs:bh ["sight","hand","guard","moves","other","given"] ["sight","hand","guard"] (aU Ng):=bu
theorem gg_{CS CG CW:Addr}(F:a9 K "moves_by_below" "moves_by_below" Ng f0 fd)(TS:fM K CS)(cR:bb P w K mg base CS 4 "rising_neighbours" ["self","hand"] (Et K CS CG CW T))(cL:bb P w K mg base CS 3 "lead" ["self","one","other"] (Bq K CS CG CW))(cH:bj P w K mg base 4 "heaviest_move" ["sight","one","other","guard","given"] (jh K CS CG CW)):ai P w K mg base aR 5 f0 fd ["sight","hand","guard"] (jg K CS CG CW T Bk):=by
 refine F.bt Hs λaL A outer s H vs Q E hr h=>?_
 ·obtain⟨v,g,p,h,gd,hs,ts,qs,fp,f,rfl,S,W,hh,tab,k⟩:=h;have sz:=bU;have sj:aD 3 _:=hr.mono (by decide);refine' #[_,au ?s1 (au ?s2 (aI ?s3)),?kk]
  case s1=>exact bg 3 Hs.nd (d5 af)
  case' s2=>refine' eV eM Z (dH (eG cR TS.cl hr (pv 0) (ae (pv 1) af))) (bV 4 Hs.nd) (aI (bC ?t1 (au ?b1 (aI ?b2)) bD))
  case t1=>exact cU xh (eG cL TS.cl sj (pv 0) (ae (pv 1) (ae (pv 4) af))) aE (ak _)
  case b1=>exact GP (i:=5) ["move"] 1 [] Hs.nd Z (Or.inl Z) (dH (pv 3)) (λfp s H=>fq 0) (λfp s H=>gT) (λfp s H=>bB (AQ (K:=K) lV cy) (pv 0) aE (λ_ _=>rfl))
  case b2=>exact oE (mz o9 PySem.F.slot_list_extend PySem.F.type_list_extend E_ (pv 3) (ae (aX cH hr (ae (pv 0) (ae (pv 1) (ae (pv 4) (ae (pv 2) (ae (pv 5) af)))))) af))
  case s3=>exact ba (pv 3)
  case' kk=>skip
  have n8:(aA hs).length<=8:=by have:=W.Gd.fG;have:=W.Gd.h8;omega
  refine#[by show 0<=sizeLine;decide,λlm nm=>?_];refine setG ?_;dsimp only;obtain⟨s1,e1⟩:=aO (o:=.lst []) nm;generalize upd H lm (.lst [])=H1 at s1 e1 ⊢;have S1:=S.same s1;have uq:=tab.same s1;obtain⟨dx,dl,dv,dp,ad,h1,G,h3,h4,h5,h6⟩:=S1.ex;refine#[_,Z,v,dx,_,Z,h1,A8 _ _ _ _ Z0 Z0 Z0 Z0,_,Z,v,g,p,h,hs,ts,qs,fp,f,Z,S1,W,hh,uq,λl1 H2 b2 kD n1 e2=>?_];obtain⟨tv,hT⟩:=km uq;obtain⟨UK,hT2⟩:=km kD;have Oo:=b2.nt hT;have S2:=S1.nt Oo;have m2:=Oo.lst e1;have F4:lm≠l1:=bI e1 n1;have CJ:=E6 hs ts qs f h;have Dk:∀x∈cO hs ts qs f h,x∈aA hs:=λx hx=>Ea (CJ.mem_iff.mp hx)
  have ll:(cO hs ts qs f h).length<=8:=by
   rw[CJ.length_eq];have:=Bf hs ts h;omega
  have bT:aV T H H2:=λb o e n=>b2 _ _ (s1 _ _ e) n;refine#[l1,Z,#[_,.of e2],gF (K:=K) (a:=l1) (xs:=(cO hs ts qs f h).map V.str) (λi σ H'=>∃(v4 v5:Option V) (ys:List V) (ms:List Mv),σ=[some (.ref v),some (.str h),some (.str gd),some (.ref lm),v4,v5]/\aV T H H'/\eE H' T j5/\H' l1=some (.lst ((cO hs ts qs f h).map V.str))/\H' lm=some (.lst ys)/\aY K H' ys (ms.map kM)/\ms.length<=i/\pR hs ts qs f gd h ms ((cO hs ts qs f h).drop i)=Bk hs ts qs f gd h) #[none,none,[],[],Z,bT,kD,e2,m2,.nil,aZ _,Z] (λi σ H' _ ⟨_,_,_,_,_,_,_,z,_⟩=>.of z) ?_ ?_]
  ·rintro i x σ H3 hx ⟨v4,v5,ys,ms,rfl,E5,iu,l3,m3,t3,Jw,eq3⟩;obtain⟨o,ho,rfl⟩:=jT hx;have hi:i<(cO hs ts qs f h).length:=(bP.mp ho).1;have om:=Dk o (cn ho)
   have dr:(cO hs ts qs f h).drop i=o::(cO hs ts qs f h).drop (i+1):=by
    obtain⟨h1,h2⟩:=bP.mp ho;rw[List.drop_eq_getElem_cons h1,h2]
   rw[dr] at eq3;obtain⟨tv0,hT0⟩:=km tab;have S3:=S.nt (E5.nt hT0);obtain⟨Lf,_,_,_,_,k1,_⟩:=S3.ex;have ly:=bE t3;rw[aq] at ly;refine setG ?_;dsimp only;refine#[_,Z,v,Lf,_,Z,k1,A8 _ _ _ _ Z0 Z0 Z0 Z0,_,Z,_,Z,v,g,p,h,o,hs,ts,qs,fp,f,Z,S3,W,hh,om,_,_,Z,Z,_,Z,?_];refine bp (λc=>?_) (λc=>?_)
   ·have c:0<gI hs qs f h o:=by simpa using c
    have eq3:pR hs ts qs f gd h (ms++gB hs ts qs f gd (ms.map (·.1)) h o) ((cO hs ts qs f h).drop (i+1))=Bk hs ts qs f gd h:=by
     rw[pR,aC c] at eq3;exact eq3
    refine#[_,Z,lm,Z,#[_,.of m3],λD hD=>?_];refine mK (own:=1) (fv:=[]) (xs:=ys) Z eD (λj out H'=>aa H3 H'/\H' D=some (.lst out)/\out=((ms.map (·.1)).take j).map V.str) #[aa.new hD,ay,Z] (λj out H' _ ⟨sm,_⟩=>.of (sm _ _ m3)) (λout H4 ⟨s4,d4,eo⟩=>?_) (λj x out H' hx ⟨sm,hd,eo⟩=>?_);rotate_left
    ·obtain⟨q,hq,a,rfl,ha⟩:=ij t3 hx;have hj:j<ms.length:=(bP.mp hq).1;refine#[_,Z,Z,λNx hN=>cZ ?_];refine#[_,Z,a,_,0,.str q.1,Z,Z,.of (sm _ _ ha),L2.oC (j:=0) Z,out,hd,?_,hN (out++[.str q.1]) _ #[gh sm hD,ay,?_]]
     ·rw[eo,aq,cj];omega
     ·rw[eo,gi (show (ms.map (·.1))[j]? = some q.1 by rw[dU,hq];rfl),bX];rfl
    rw[ly,vM (by rw[aq];exact aZ _)] at eo;subst eo;refine setG ?_;dsimp only;have m4:=s4 _ _ m3;refine#[_,Z,.inl #[Z,_,.of m4],?_];refine#[_,Z,_,Z,_,Z,_,Z,_,Z,v,g,p,D,h,o,gd,ms.map (·.1),hs,ts,qs,fp,f,Z,S3.same s4,W,hh,om,d4,λl5 zs H5 s5 n5 e5 t5=>?_];have lR:=s4.trans s5;have m5:=lR _ _ m3;have lz:=bE t5;have hl:=pS hs ts qs f gd (ms.map (·.1)) h o;rw[aq] at lz;refine#[lm,l5,ys,zs,Z,Z,m5,e5,by omega,?_];refine#[_,_,ys++zs,ms++gB hs ts qs f gd (ms.map (·.1)) h o,Z,λb u e n=>?_,eE.putL (iu.same lR) m5,?_,ay,?_,?_,eq3]
    ·rw[ax (bI e nm)];exact lR _ _ (E5 _ _ e n)
    ·rw[ax F4.symm];exact lR _ _ l3
    ·rw[bX];exact kn (kq (t3.same lR) m5) (kq t5 m5)
    ·rw[eF];omega
   ·have c:¬0<gI hs qs f h o:=by simpa using c
    refine#[_,_,ys,ms,Z,E5,iu,l3,m3,t3,by omega,?_];rw[pR,ao c] at eq3;exact eq3
  ·rintro σ H3 ⟨v4,v5,ys,ms,rfl,E5,iu,l3,m3,t3,Jw,eq3⟩;rw[aq,List.drop_length] at eq3;refine#[_,Z,k lm ys H3 E5 iu nm m3 ?_];rw[<- eq3];exact t3
end
def zW:xE:=λr hs ts qs f h=>Bk hs ts qs f (r.2.2.2.getD "") h
theorem K8{hs:Xa}{ts:Xb}{qs:List Pc}{f:Str->Str}{gd h:Str}:∀(l:List Str) (ms:List Mv),(pR hs ts qs f gd h ms l).length<=ms.length+l.length
 |[],ms=>aZ _
 |o::l,ms=>by
  rw[pR,hX];split
  ·have h1:=K8 (hs:=hs) (ts:=ts) (qs:=qs) (f:=f) (gd:=gd) (h:=h) l (ms++gB hs ts qs f gd (ms.map (·.1)) h o);have h2:=pS hs ts qs f gd (ms.map (·.1)) h o;rw[eF] at h1;omega
  ·have h1:=K8 (hs:=hs) (ts:=ts) (qs:=qs) (f:=f) (gd:=gd) (h:=h) l ms;omega
theorem gG_(r:Rl)(hs:Xa)(ts:Xb)(qs:List Pc)(f:Str->Str)(h:Str)(W:Wd hs ts qs f):(zW r hs ts qs f h).length<=8:=by
 unfold zW Bk;have h1:=K8 (hs:=hs) (ts:=ts) (qs:=qs) (f:=f) (gd:=r.2.2.2.getD "") (h:=h) (cO hs ts qs f h) [];have h2:=(E6 hs ts qs f h).length_eq;have h3:=Bf hs ts h;have h4:=W.Gd.fG;have h5:=W.Gd.h8;rw[sW] at h1;omega
section
variable{P:Ad}{w:Af}{K:ag}{mg:Str->Option Aa}{base:Heap}
theorem ga_{CS CG CW:Addr}(F:a9 K "moves_from" "moves_from" EC f0 fd)(cL:bj P w K mg base 5 "moves_by_below" ["sight","hand","guard"] (jg K CS CG CW T Bk)):ai P w K mg base aR 6 f0 fd ["sight","hand","words"] (t_ K CS CG CW T (λr=>r.2.1="below") zW):=by
 refine F.bt M9 λaL A outer s H vs Q E hr h=>?_
 ·obtain⟨v,g,p,aw,h,hs,ts,qs,fp,f,r,gZ,rfl,le,ha,S,W,hh,tab,k⟩:=h;refine' #[_,au ?s0 (au ?s1 cq),?kk]
  case s0=>exact bC (cU i9 (bB cy (pv 2) aE (λ_ _=>rfl)) dg (ak _)) cq bD
  case s1=>exact bC (cU i9 (bB cy (pv 2) aE (λ_ _=>rfl)) dg (ak _)) (aI (ba (aX cL hr (ae (pv 0) (ae (pv 1) (ae (bB cy (pv 2) aE (λ_ _=>rfl)) af)))))) bD
  case' kk=>skip
  have so:=Qx r gZ (by rw[le];decide +kernel);obtain⟨gd,eg⟩:=BF.mp so;have ln:¬r.2.1="least":=by rw[le];decide +kernel
  refine#[_,Z,aw,_,_,_,Z,Z,ha _,Z,Z,_,Z,?_];rw[tV,dA ln];refine aM ?_;refine#[_,Z,aw,_,_,_,Z,Z,ha _,Z,Z,_,Z,?_];rw[tV,bW le];refine dQ ?_;refine#[_,Z,_,Z,_,Z,aw,_,_,.str gd,Z,Z,ha _,?_,v,g,p,h,gd,hs,ts,qs,fp,f,Z,S,W,hh,tab,λl ys H' b t n e tu=>k l ys H' b t n e ?_]
  ·rw[eg];rfl
  ·unfold zW;rw[eg];exact tu
end
def vy(hs:Xa)(ts:Xb):Int:=((fI hs ts).max?).getD 0
variable{m:Int}
theorem YU{hs:Xa}{ts:Xb}(h1:m∈fI hs ts)(h2:∀a∈fI hs ts,a<=m):m=vy hs ts:=by
 unfold vy;rw[List.max?_eq_some_iff.mpr #[h1,h2]];rfl
theorem Zx{hs:Xa}{ts:Xb}(G:Good hs ts)(h:m∈fI hs ts):0<=m/\m<=8:=by
 obtain⟨n,_,rfl⟩:=a_.mp h;have h1:=Bf hs ts n;have h2:=G.fG;have h3:=G.h8;show 0<=((nb hs ts n).length:Int)/\((nb hs ts n).length:Int)<=8;omega
theorem ZD{hs:Xa}{ts:Xb}(G:Good hs ts){a b:Str}(ha:a∈aA hs)(hb:b∈aA hs):2<=iK hs a b/\iK hs a b<=2000:=by
 have h1:=cu G ha;have h2:=cu G hb;unfold iK;omega
def qB(wt:Str->Int)(ok:Str->Bool):Int->List Str->List Str
 |_,[]=>[]
 |l,n::ns=>if (ok n&&decide (wt n<=l))=true then n::qB wt ok (l - wt n) ns else qB wt ok l ns
theorem EK(wt:Str->Int)(ok:Str->Bool):∀(l:Int) (ns:List Str),(qB wt ok l ns).Sublist ns
 |_,[]=>.slnil
 |l,n::ns=>by
  unfold qB;split
  ·exact (EK wt ok _ ns).cons_cons n
  ·exact (EK wt ok _ ns).cons n
def fS(hs:Xa)(ts:Xb)(qs:List Pc)(gv:List Str)(a b n:Str):Bool:=!decide (n∈gv)&&fV hs ts qs n a b
def qA(hs:Xa)(ts:Xb)(qs:List Pc)(f:Str->Str)(a b:Str):Int:=gI hs qs f a b / (iK hs a b * (vy hs ts+1))
def Cg(hs:Xa)(ts:Xb)(qs:List Pc)(f:Str->Str)(gv:List Str)(a b:Str):List Str:=qB (fN qs) (fS hs ts qs gv a b) (qA hs ts qs f a b) (dR qs f a)
abbrev to3(a b:Str)(n:Str):Mv:=(n,a,b)
def tE(hs:Xa)(ts:Xb)(qs:List Pc)(f:Str->Str)(gv:List Str)(a b:Str):List Mv:=(Cg hs ts qs f gv a b).map (to3 a b)
theorem Q0{hs:Xa}{ts:Xb}{qs:List Pc}{f:Str->Str}(W:Wd hs ts qs f)(a:Str):(dR qs f a).length<=63:=by
 have h1:(dR qs f a).length<=(l_ qs).length:=List.length_filter_le ..;have h2:=(EX qs).length_eq;rw[aq] at h2;have:=W.cg;omega
theorem Qk{hs:Xa}{ts:Xb}{qs:List Pc}{f:Str->Str}(W:Wd hs ts qs f)(gv:List Str)(a b:Str):(tE hs ts qs f gv a b).length<=63:=by
 unfold tE;rw[aq];have:=(EK (fN qs) (fS hs ts qs gv a b) (qA hs ts qs f a b) (dR qs f a)).length_le;have h2:=Q0 W a;unfold Cg;omega
theorem Qh{α:Type}{l:List α}{i:Nat}{x:α}(h:l[i]? = some x):l.drop i=x::l.drop (i+1):=by
 obtain⟨h1,h2⟩:=bP.mp h;rw[List.drop_eq_getElem_cons h1,h2]
section
variable{P:Ad}{w:Af}{K:ag}{mg:Str->Option Aa}{base:Heap}
abbrev IJ:List Str:=["sight","one","other","given","parts","left","moves","piece","weight"]
theorem zM:bh IJ ["sight","one","other","given"] (aU yn):=bu
inductive qo (K:ag) (CS CG CW:Addr) (vs:List V) (H:Hp) (Q:VK) (E:XK):Prop
 |mk:∀(v g p lg:Addr) (a b:Str) (gv:List Str) (hs:Xa) (ts:Xb) (qs:List Pc) (fp:List Addr) (f:Str->Str),vs=[.ref v,.str a,.str b,.ref lg]->ie K CS CG CW H v g p hs ts qs fp f->Wd hs ts qs f->a∈aA hs->b∈aA hs->H lg=some (.lst (gv.map V.str))->(∀l ys H',aa H H'->H l=none->H' l=some (.lst ys)->aY K H' ys ((tE hs ts qs f gv a b).map kM)->Q (.ref l) H')->qo K CS CG CW vs H Q E
theorem WQ{CS CG CW:Addr}(F:a9 K "share_moves" "share_moves" yn f0 fd)(TS:fM K CS)(TG:dz K CG)(TW:Txt K mg CW)(cL:bb P w K mg base CS 3 "lead" ["self","one","other"] (Bq K CS CG CW))(cJ:bb P w K mg base CS 3 "joint_strength" ["self","one","other"] (Hi K CS CG CW))(cN:bb P w K mg base CW 1 "most_neighbours" ["self"] (kL K CW))(cW:bb P w K mg base CG 2 "weight" ["self","piece"] (Am K CG CW CP))(cM:bb P w K mg base CG 3 "may_go" ["self","piece","one","other"] (Es K CG CW CP)) :
  ai P w K mg base aR 4 f0 fd ["sight","one","other","given"] (qo K CS CG CW):=by
 refine F.bt zM λaL A outer s H vs Q E hr h=>?_
 ·obtain⟨v,g,p,lg,a,b,gv,hs,ts,qs,fp,f,rfl,S,W,ha,hb,hg,k⟩:=h;have hu:=eS hr;have sz:=bU;have dS:aD 1 _:=hr.mono (by decide);have cz:aD 2 _:=hr.mono (by decide);refine' #[_,?r0,?kk]
  case' r0=>refine' au ?s1 ?r1
  case' r1=>refine' au ?s2 ?r2
  case' r2=>refine' au ?s3 ?r3
  case' r3=>refine' au ?s4 (aI ?s5)
  case s1=>exact bg 4 zM.nd (bw ki (eG cJ TS.cl hr (pv 0) (ae (pv 1) (ae (pv 2) af))) (bw i4 (xm cN TW.cl dS (cX (cX (pv 0) Z) Z)) aE))
  case s2=>exact bg 5 zM.nd (bw vz (eG cL TS.cl hr (pv 0) (ae (pv 1) (ae (pv 2) af))) (pv 4))
  case s3=>exact bg 6 zM.nd (d5 af)
  case' s4=>refine' eV eM Z (dH (eU hu (cX (pv 0) Z) (pv 1) (λ_ _=>rfl))) (bV 7 zM.nd) (au ?b1 (aI ?b2))
  case b1=>exact bg 8 zM.nd (eG cW TG.cl cz (cX (pv 0) Z) (ae (pv 7) af))
  case' b2=>refine' bC (PW.pt (xo ?c1 (xo ?c2 (Aq ?c3)))) (au ?b3 (aI ?b4)) bD
  case c1=>exact cU (M5 eQ (pP hr 0)) (pv 7) (pv 3) (by with_unfolding_all rfl)
  case c2=>exact cU vt (pv 8) (pv 5) (ak _)
  case c3=>exact dZ (eG cM TG.cl hr (cX (pv 0) Z) (ae (pv 7) (ae (pv 1) (ae (pv 2) af))))
  case b3=>exact oE (mz o9 xr xt vA (pv 6) (ae (fA (ae (pv 7) (ae (pv 1) (ae (pv 2) af)))) af))
  case b4=>exact bg 5 zM.nd (bw Kl (pv 5) (pv 8))
  case s5=>exact ba (pv 6)
  case' kk=>skip
  obtain⟨dx,dl,dv,dp,ad,h1,G,h3,h4,h5,h6⟩:=S.ex;obtain⟨jH,dw,dy,vs,bL,g1,g2,_⟩:=id G.ex;obtain⟨eL,d1,l2,d3,jb,as,ef,w1,_⟩:=id g2.ex;have hnm:(bQ d1 l2 d3).lookup ("most_neighbours":Str)=none:=ik _ _ _ Z0 Z0 Z0;have no:∀{m:Str},¬m="wares"->¬m="load_by_hand"->¬m="level_by_hand"->¬m="pieces_by_hand"->(dk g dl dv dp).lookup m=none:=λa b c d=>A8 _ _ _ _ a b c d;have jo:=ZD W.Gd ha hb;have nl:=W.Gd.fG;have n1:=W.Gd.h1;have n8:=W.Gd.h8;refine#[_,Z,v,dx,_,Z,h1,no Z0 Z0 Z0 Z0,_,Z,_,Z,v,g,p,a,b,hs,ts,qs,fp,f,Z,S,W,ha,hb,?_];refine#[_,Z,v,CS,dx,_,_,Z,h1,TS.cl,TS.nW,fU _ _ _ _,g,CG,jH,_,_,Z,g1,TG.cl,TG.nW,mG _ _ _,p,eL,_,Z,w1,hnm,p,hs,ts,bL,Z,g2,by omega,by omega,λm H1 s1 m1 m2=>?_];have mo:=Zx W.Gd m1;obtain rfl:=YU m1 m2;have pp:0<iK hs a b * (vy hs ts+1):=Int.mul_pos Z1 Z1
  have pl:iK hs a b * (vy hs ts+1)<1073741824:=by
   have:=Int.mul_le_mul jo.2 (show vy hs ts+1<=9 by omega) Z1 (by decide);omega
  refine#[_,_,Z,Z,_,_,Z,Z,.inl #[by omega,by omega],?_];refine setG ?_;dsimp only;refine#[_,Z,v,dx,_,Z,s1 _ _ h1,no Z0 Z0 Z0 Z0,_,Z,_,Z,v,g,p,a,b,hs,ts,qs,fp,f,Z,S.same s1,W,ha,hb,_,Z,_,_,Z,Z,#[pp,pl],?_];refine setG ?_;dsimp only;refine#[by show 0<=sizeLine;decide,λlm nm=>?_];refine setG ?_;dsimp only;obtain⟨s2,e2⟩:=aO (o:=.lst []) nm;have AJ:=s1.free nm;generalize upd H1 lm (.lst [])=H2 at s2 e2 ⊢;have h9:=s1.trans s2;have hl:=h6 a ha;have l63:=Q0 W a;refine#[_,Z,v,CS,dx,_,_,Z,h9 _ _ h1,TS.cl,TS.nP,Cj _ _ _ _,_,Z,dp,_,Z,jI (h9 _ _ h5) ha,ad a,Z,#[_,.of (h9 _ _ hl)],gF (K:=K) (a:=ad a) (xs:=(dR qs f a).map V.str) (λi σ H'=>∃(v7 v8:Option V) (left:Int) (ys:List V) (ns:List Str),σ=[some (.ref v),some (.str a),some (.str b),some (.ref lg),some (.int (iK hs a b * (vy hs ts+1))),some (.int left),some (.ref lm),v7,v8]/\aa H H'/\H' lm=some (.lst ys)/\aY K H' ys ((ns.map (to3 a b)).map kM)/\ns.length<=i/\ns++qB (fN qs) (fS hs ts qs gv a b) left ((dR qs f a).drop i)=Cg hs ts qs f gv a b) #[none,none,_,[],[],Z,h9,e2,.nil,aZ _,Z] (λi σ H' _ ⟨_,_,_,_,_,_,sm,_⟩=>.of (sm _ _ hl)) ?_ ?_]
  ·rintro i x σ H' hx ⟨v7,v8,left,ys,ns,rfl,sm,iF,tu,ln,eq⟩;obtain⟨n,hn,rfl⟩:=jT hx;have hi:i<(dR qs f a).length:=(bP.mp hn).1;obtain⟨Jk,fn⟩:=EO (cn hn);obtain⟨q,hq,rfl⟩:=a_.mp Jk;have G':=G.same sm;have mj:=sm _ _ h1;obtain⟨En,R6,R4,Fw,fpw',QL,g2',_⟩:=id G'.ex;have JS:(bF p R6 R4).lookup ("weight":Str)=none:=pV _ _ _ Z0 Z0 Z0;have J_:(bF p R6 R4).lookup ("may_go":Str)=none:=pV _ _ _ Z0 Z0 Z0;have ew:=A6 W.nd hq;have ey:=A_ W.nd hq;rw[Qh hn,qB] at eq;have ly:=bE tu;rw[aq,aq] at ly
   have go:∀{H2:Hp} {v8:Option V},aa H' H2->(fS hs ts qs gv a b q.1&&decide (fN qs q.1<=left))=false->∃(v7 Ux:Option V) (wM:Int) (ys:List V) (ns:List Str),[some (V.ref v),some (.str a),some (.str b),some (.ref lg),some (.int (iK hs a b * (vy hs ts+1))),some (.int left),some (.ref lm),some (.str q.1),v8]=[some (V.ref v),some (.str a),some (.str b),some (.ref lg),some (.int (iK hs a b * (vy hs ts+1))),some (.int wM),some (.ref lm),v7,Ux]/\aa H H2/\H2 lm=some (.lst ys)/\aY K H2 ys ((ns.map (to3 a b)).map kM)/\ns.length<=i+1/\ns++qB (fN qs) (fS hs ts qs gv a b) wM ((dR qs f a).drop (i+1))=Cg hs ts qs f gv a b:=λ{H2 v8} s2 e=>by
    rw[e,ao (by decide)] at eq;exact#[_,_,_,ys,ns,Z,sm.trans s2,s2 _ _ iF,tu.same s2,by omega,eq]
   refine setG ?_;dsimp only;refine#[_,Z,v,CS,dx,_,_,Z,mj,TS.cl,TS.nW,fU _ _ _ _,g,En,_,Z,QL,JS,_,Z,g,p,.str q.1,some q.1,hs,ts,qs,fp,Z,G',W.nd,Z,.inl #[q,hq,Z,?_]];refine setG ?_;dsimp only;refine#[_,Z,_,Z,q.1,gv,Z,#[lg,_,Z,.of (sm _ _ hg),Bz gv],_,Z,?_];refine bp (λc=>?_) (λc=>?_)
   ·have c:¬q.1∈gv:=by simpa using c
    refine#[_,Z,_,Z,_,_,Z,Z,_,Z,?_];refine bp (λc2=>?_) (λc2=>?_)
    ·have c2:q.2.1<=left:=by simpa using c2
     refine#[_,Z,v,CS,dx,_,_,Z,mj,TS.cl,TS.nW,fU _ _ _ _,g,En,_,Z,QL,J_,_,Z,_,Z,_,Z,g,p,.str q.1,.str a,.str b,some q.1,some a,some b,hs,ts,qs,fp,Z,G',W.nd,W.Gd.iB,Z,.inl #[q,hq,Z,Z,Z,λH3 s3=>#[_,Z,?_]]];refine bp (λc3=>?_) (λc3=>?_)
     ·have pt:(fS hs ts qs gv a b q.1&&decide (fN qs q.1<=left))=true:=by
       unfold fS fV;rw[ew,ey,bW c2,dA c];simpa using c3
      rw[aC pt,ew] at eq;refine#[_,Z,.inl #[Z,_,.of (s3 _ _ iF)],_,Z,_,Z,_,Z,by show 3<=sizeLine;decide,λt nt=>?_];obtain⟨s4,e4⟩:=aO (o:=.tup [.str q.1,.str a,.str b]) nt;generalize upd H3 t (.tup [.str q.1,.str a,.str b])=H4 at s4 e4 ⊢;have gm:=s3.trans s4;have DP:=gm _ _ iF;refine#[lm,_,_,Z,Z,DP,by omega,?_];dsimp only;refine#[_,Z,_,Z,_,_,Z,Z,?_];refine setG ?_;dsimp only;refine#[_,_,_,ys++[.ref t],ns++[q.1],Z,λb' o e=>?_,ay,?_,?_,?_]
      ·rw[ax (bI e AJ)];exact gm _ _ (sm _ _ e)
      ·rw[bX,bX];exact kq (An (tu.same gm) e4) DP
      ·rw[eF];show ns.length+1<=i+1;omega
      ·rw[List.append_assoc];exact eq
     ·refine go s3 ?_;unfold fS fV;have c3:tK hs ts q.2.2 (some a) (some b)=false:=by simpa using c3
      rw[ey,c3,vO,Bool.false_and]
    ·refine go (aa.refl H') ?_;have c2:¬q.2.1<=left:=by simpa using c2
     rw[ew,dA c2,vO]
   ·have c:q.1∈gv:=by simpa using c
    refine go (aa.refl H') ?_;unfold fS;rw[bW c];rfl
  ·rintro σ H' ⟨v7,v8,left,ys,ns,rfl,sm,iF,tu,ln,eq⟩;rw[aq,List.drop_length,qB,mJ] at eq;refine#[_,Z,k lm ys H' sm AJ iF ?_];unfold tE;rw[<- eq];exact tu
end
def sM(hs:Xa)(ts:Xb)(qs:List Pc)(f:Str->Str)(h:Str):List Mv->List Str->List Mv
 |ms,[]=>ms
 |ms,o::l=>if 0<gI hs qs f h o then sM hs ts qs f h (ms++tE hs ts qs f (ms.map (·.1)) h o) l else sM hs ts qs f h ms l
def Fe(hs:Xa)(ts:Xb)(qs:List Pc)(f:Str->Str)(h:Str):List Mv:=sM hs ts qs f h [] (nb hs ts h)
def Bl:xE:=λ_ hs ts qs f h=>Fe hs ts qs f h
theorem La{hs:Xa}{ts:Xb}{qs:List Pc}{f:Str->Str}(W:Wd hs ts qs f){h:Str}:∀(l:List Str) (ms:List Mv),(sM hs ts qs f h ms l).length<=ms.length+63 * l.length
 |[],ms=>aZ _
 |o::l,ms=>by
  rw[sM,hX];split
  ·have h1:=La W (h:=h) l (ms++tE hs ts qs f (ms.map (·.1)) h o);have h2:=Qk W (ms.map (·.1)) h o;rw[eF] at h1;omega
  ·have h1:=La W (h:=h) l ms;omega
theorem fX_(r:Rl)(hs:Xa)(ts:Xb)(qs:List Pc)(f:Str->Str)(h:Str)(W:Wd hs ts qs f):(Bl r hs ts qs f h).length<=1000:=by
 unfold Bl Fe;have h1:=La W (h:=h) (nb hs ts h) [];have h3:=Bf hs ts h;have h4:=W.Gd.fG;have h5:=W.Gd.h8;rw[sW] at h1;omega
variable{CG CS CW:Addr}
section
variable{P:Ad}{w:Af}{K:ag}{mg:Str->Option Aa}{base:Heap}
theorem Hx:bh ["sight","hand","moves","other","given"] ["sight","hand"] (aU L9):=bu
inductive MJ (K:ag) (CS CG CW:Addr) (vs:List V) (H:Hp) (Q:VK) (E:XK):Prop
 |mk:∀(v g p:Addr) (h:Str) (hs:Xa) (ts:Xb) (qs:List Pc) (fp:List Addr) (f:Str->Str),vs=[.ref v,.str h]->ie K CS CG CW H v g p hs ts qs fp f->Wd hs ts qs f->h∈aA hs->(∀l ys H',aa H H'->H l=none->H' l=some (.lst ys)->aY K H' ys ((Fe hs ts qs f h).map kM)->Q (.ref l) H')->MJ K CS CG CW vs H Q E
theorem eI_(F:a9 K "moves_by_shares" "moves_by_shares" L9 f0 fd)(TS:fM K CS)(TG:dz K CG)(TW:Txt K mg CW)(cN:bb P w K mg base CW 2 "neighbours" ["self","hand"] (GL K CW))(cL:bb P w K mg base CS 3 "lead" ["self","one","other"] (Bq K CS CG CW))(cH:bj P w K mg base 4 "share_moves" ["sight","one","other","given"] (qo K CS CG CW)):ai P w K mg base aR 5 f0 fd ["sight","hand"] (MJ K CS CG CW):=by
 refine F.bt Hx λaL A outer s H vs Q E hr h=>?_
 ·obtain⟨v,g,p,h,hs,ts,qs,fp,f,rfl,S,W,hh,k⟩:=h;have sz:=bU;have cz:aD 2 _:=hr.mono (by decide);have sj:aD 3 _:=hr.mono (by decide);refine' #[_,au ?s1 (au ?s2 (aI ?s3)),?kk]
  case s1=>exact bg 2 Hx.nd (d5 af)
  case' s2=>refine' eV eM Z (dH (eG cN TW.cl cz (cX (cX (pv 0) Z) Z) (ae (pv 1) af))) (bV 3 Hx.nd) (aI (bC ?t1 (au ?b1 (aI ?b2)) bD))
  case t1=>exact cU xh (eG cL TS.cl sj (pv 0) (ae (pv 1) (ae (pv 3) af))) aE (ak _)
  case b1=>exact GP (i:=4) ["move"] 1 [] Hx.nd Z (Or.inl Z) (dH (pv 2)) (λfp s H=>fq 0) (λfp s H=>gT) (λfp s H=>bB (AQ (K:=K) lV cy) (pv 0) aE (λ_ _=>rfl))
  case b2=>exact oE (mz o9 PySem.F.slot_list_extend PySem.F.type_list_extend E_ (pv 2) (ae (aX cH hr (ae (pv 0) (ae (pv 1) (ae (pv 3) (ae (pv 4) af))))) af))
  case s3=>exact ba (pv 2)
  case' kk=>skip
  have n8:(aA hs).length<=8:=by have:=W.Gd.fG;have:=W.Gd.h8;omega
  refine#[by show 0<=sizeLine;decide,λlm nm=>?_];refine setG ?_;dsimp only;obtain⟨s1,e1⟩:=aO (o:=.lst []) nm;generalize upd H lm (.lst [])=H1 at s1 e1 ⊢;obtain⟨dx,dl,dv,dp,ad,h1,G,h3,h4,h5,h6⟩:=(S.same s1).ex;obtain⟨jH,dw,dy,vs,bL,g1,g2,_⟩:=id G.ex;obtain⟨eL,d1,l2,d3,jb,as,ef,w1,_⟩:=id g2.ex;have fW:(bQ d1 l2 d3).lookup ("neighbours":Str)=none:=ik _ _ _ Z0 Z0 Z0;refine#[_,Z,v,CS,dx,_,_,Z,h1,TS.cl,TS.nW,fU _ _ _ _,g,CG,jH,_,_,Z,g1,TG.cl,TG.nW,mG _ _ _,p,eL,_,Z,w1,fW,_,Z,p,h,hs,ts,bL,Z,g2,W.Gd.iB,(hW hs).mem_iff.mp hh,λl1 n1=>?_];obtain⟨s2,e2⟩:=aO (o:=.lst ((nb hs ts h).map V.str)) n1;have F4:lm≠l1:=bI e1 n1;have h9:=s1.trans s2;generalize upd H1 l1 (.lst ((nb hs ts h).map V.str))=H2 at s2 e2 h9 ⊢;have Dk:∀x∈nb hs ts h,x∈aA hs:=λx hx=>Ea hx
  have ll:(nb hs ts h).length<=8:=by
   have:=Bf hs ts h;omega
  refine#[l1,Z,#[_,.of e2],gF (K:=K) (a:=l1) (xs:=(nb hs ts h).map V.str) (λi σ H'=>∃(v3 v4:Option V) (ys:List V) (ms:List Mv),σ=[some (.ref v),some (.str h),some (.ref lm),v3,v4]/\aa H H'/\H' l1=some (.lst ((nb hs ts h).map V.str))/\H' lm=some (.lst ys)/\aY K H' ys (ms.map kM)/\ms.length<=63 * i/\sM hs ts qs f h ms ((nb hs ts h).drop i)=Fe hs ts qs f h) #[none,none,[],[],Z,h9,e2,s2 _ _ e1,.nil,aZ _,Z] (λi σ H' _ ⟨_,_,_,_,_,_,z,_⟩=>.of z) ?_ ?_]
  ·rintro i x σ H3 hx ⟨v3,v4,ys,ms,rfl,Cf,l3,m3,t3,Jw,eq3⟩;obtain⟨o,ho,rfl⟩:=jT hx;have hi:i<(nb hs ts h).length:=(bP.mp ho).1;have om:=Dk o (cn ho);rw[Qh ho] at eq3;have S3:=S.same Cf;obtain⟨Lf,_,_,_,_,k1,_⟩:=S3.ex;have ly:=bE t3;rw[aq] at ly;refine setG ?_;dsimp only;refine#[_,Z,v,Lf,_,Z,k1,A8 _ _ _ _ Z0 Z0 Z0 Z0,_,Z,_,Z,v,g,p,h,o,hs,ts,qs,fp,f,Z,S3,W,hh,om,_,_,Z,Z,_,Z,?_];refine bp (λc=>?_) (λc=>?_)
   ·have c:0<gI hs qs f h o:=by simpa using c
    have eq3:sM hs ts qs f h (ms++tE hs ts qs f (ms.map (·.1)) h o) ((nb hs ts h).drop (i+1))=Fe hs ts qs f h:=by
     rw[sM,aC c] at eq3;exact eq3
    refine#[_,Z,lm,Z,#[_,.of m3],λD hD=>?_];refine mK (own:=1) (fv:=[]) (xs:=ys) Z eD (λj out H'=>aa H3 H'/\H' D=some (.lst out)/\out=((ms.map (·.1)).take j).map V.str) #[aa.new hD,ay,Z] (λj out H' _ ⟨sm,_⟩=>.of (sm _ _ m3)) (λout H4 ⟨s4,d4,eo⟩=>?_) (λj x out H' hx ⟨sm,hd,eo⟩=>?_);rotate_left
    ·obtain⟨q,hq,a,rfl,ha⟩:=ij t3 hx;have hj:j<ms.length:=(bP.mp hq).1;refine#[_,Z,Z,λNx hN=>cZ ?_];refine#[_,Z,a,_,0,.str q.1,Z,Z,.of (sm _ _ ha),L2.oC (j:=0) Z,out,hd,?_,hN (out++[.str q.1]) _ #[gh sm hD,ay,?_]]
     ·rw[eo,aq,cj];omega
     ·rw[eo,gi (show (ms.map (·.1))[j]? = some q.1 by rw[dU,hq];rfl),bX];rfl
    rw[ly,vM (by rw[aq];exact aZ _)] at eo;subst eo;refine setG ?_;dsimp only;have m4:=s4 _ _ m3;refine#[_,Z,.inl #[Z,_,.of m4],?_];refine#[_,Z,_,Z,_,Z,_,Z,v,g,p,D,h,o,ms.map (·.1),hs,ts,qs,fp,f,Z,S3.same s4,W,hh,om,d4,λl5 zs H5 s5 n5 e5 t5=>?_];have lR:=s4.trans s5;have m5:=lR _ _ m3;have lz:=bE t5;have hl:=Qk W (ms.map (·.1)) h o;rw[aq] at lz;refine#[lm,l5,ys,zs,Z,Z,m5,e5,by omega,?_];refine#[_,_,ys++zs,ms++tE hs ts qs f (ms.map (·.1)) h o,Z,λb u e=>?_,?_,ay,?_,?_,eq3]
    ·rw[ax (bI e nm)];exact lR _ _ (Cf _ _ e)
    ·rw[ax F4.symm];exact lR _ _ l3
    ·rw[bX];exact kn (kq (t3.same lR) m5) (kq t5 m5)
    ·rw[eF];omega
   ·have c:¬0<gI hs qs f h o:=by simpa using c
    refine#[_,_,ys,ms,Z,Cf,l3,m3,t3,by omega,?_];rw[sM,ao c] at eq3;exact eq3
  ·rintro σ H3 ⟨v3,v4,ys,ms,rfl,Cf,l3,m3,t3,Jw,eq3⟩;rw[aq,List.drop_length] at eq3;refine#[_,Z,k lm ys H3 Cf nm m3 ?_];rw[<- eq3];exact t3
theorem gf_(F:a9 K "moves_from" "moves_from" EC f0 fd)(cL:bj P w K mg base 5 "moves_by_shares" ["sight","hand"] (MJ K CS CG CW)):ai P w K mg base aR 6 f0 fd ["sight","hand","words"] (t_ K CS CG CW T (λr=>r.2.1="shares") Bl):=by
 refine F.bt M9 λaL A outer s H vs Q E hr h=>?_
 ·obtain⟨v,g,p,aw,h,hs,ts,qs,fp,f,r,gZ,rfl,le,ha,S,W,hh,tab,k⟩:=h;refine' #[_,au ?s0 (au ?s1 (aI ?s2)),?kk]
  case s0=>exact bC (cU i9 (bB cy (pv 2) aE (λ_ _=>rfl)) dg (ak _)) cq bD
  case s1=>exact bC (cU i9 (bB cy (pv 2) aE (λ_ _=>rfl)) dg (ak _)) cq bD
  case s2=>exact ba (aX cL hr (ae (pv 0) (ae (pv 1) af)))
  case' kk=>skip
  have ln:¬r.2.1="least":=by rw[le];decide +kernel
  have lb:¬r.2.1="below":=by rw[le];decide +kernel
  refine#[_,Z,aw,_,_,_,Z,Z,ha _,Z,Z,_,Z,?_];rw[tV,dA ln];refine aM ?_;refine#[_,Z,aw,_,_,_,Z,Z,ha _,Z,Z,_,Z,?_];rw[tV,dA lb];refine aM ?_;exact#[_,Z,_,Z,v,g,p,h,hs,ts,qs,fp,f,Z,S,W,hh,λl ys H' b n e tu=>k l ys H' (aV.of b) (tab.same b) n e tu]
end
def hit(t u:Str × Str):Bool:=(decide (u.1=t.1) || decide (u.2=t.1)) || (decide (u.1=t.2) || decide (u.2=t.2))
def eR(rs:List Xb)(t:Str × Str):Nat:=rs.findIdx λr=>!r.any (hit t)
def vG(K:ag)(H:Hp)(l:Addr)(as:List Addr)(rs:List Xb):Prop:=H l=some (.lst (as.map V.ref))/\Paired (λa r=>∃zs,H a=some (.lst zs)/\aY K H zs (r.map kT)) as rs
theorem vG.same{K:ag}{H H':Hp}{l:Addr}{as:List Addr}{rs:List Xb}(h:vG K H l as rs)(s:aa H H'):vG K H' l as rs:=#[s _ _ h.1,Paired.bo h.2 λa r ⟨zs,e,t⟩=>#[zs,s _ _ e,t.same s]]
variable{f:Addr}
section
variable{P:Ad}{w:Af}{K:ag}{mg:Str->Option Aa}{base:Heap}
theorem qE:bh ["rows","tie","place","row"] ["rows","tie"] (aU L_):=bu
inductive qp (K:ag) (vs:List V) (H:Hp) (Q:VK) (E:XK):Prop
 |mk:∀(l t:Addr) (as:List Addr) (rs:List Xb) (tt:Str × Str),vs=[.ref l,.ref t]->vG K H l as rs->H t=some (.tup ((kT tt).map kV))->(∀r∈rs,r.length<=1000)->(∀H',aa H H'->Q (.int (eR rs tt)) H')->qp K vs H Q E
theorem XX(F:a9 K "first_row_without" "first_row_without" L_ f fd)(B:Bi mg):ai P w K mg base aR 1 f fd ["rows","tie"] (qp K):=by
 refine F.bt qE λaL A outer s H vs Q E hr h=>?_
 ·obtain⟨l,t,as,rs,tt,rfl,R,ht,xa,k⟩:=h;have sz:=bU
  refine#[_,au (eV eM Z (K_ (by rfl) B.enum (ae (pv 0) af)) (jO Z (bY (bV 2 qE.nd) (bY (bV 3 qE.nd) gR)))
    (aI (bC (eI (dZ (cK (ZG Z) (by rfl) B.any PyProof.Rows.Boot.«any» (ae
     (iP ["there","tie"] 1 [1] (dH (pv 3)) (λfp s H=>fq 0) (λfp s H=>gT)
      (λfp s H=>A9 (iQ (I0 (K:=K) (λK=>FS K false) Rx) (bB (AQ (K:=K) lV cy) (pv 1) aE (λ_ _=>rfl)) (pv 0) (by with_unfolding_all rfl)) (mw (iQ (I0 (K:=K) (λK=>FS K false) Rx) (bB (AQ (K:=K) lV cy) (pv 1) aE (λ_ _=>rfl)) (pv 0) (by with_unfolding_all rfl))))) af)))) (aI (ba (pv 2))) bD)))
   (aI (ba (cK jU (by rfl) B.len gP (ae (pv 0) af)))),?_]
  have la:=bE R.2;refine#[_,Z,l,Z,#[_,.of R.1],Lq (K:=K) (a:=l) (xs:=as.map V.ref) (λi σ H2=>∃(v2 v3:Option V),σ=[some (.ref l),some (.ref t),v2,v3]/\aa H H2/\∀r∈rs.take i,r.any (hit tt)=true) #[none,none,Z,aa.refl H,by simp] (λi σ H2 _ ⟨_,_,_,s2,_⟩=>.of (s2 _ _ R.1)) ?_ ?_]
  ·rintro i x σ H2 hx ⟨v2,v3,rfl,s2,past⟩ u hu
   have hi:i<as.length:=by
    have:=(bP.mp hx).1;rwa [aq] at this
   have ex:x=.ref as[i]:=by
    rw[dU,di hi] at hx;exact (dW hx).symm
   subst ex;have Gf:i<rs.length:=by omega
   obtain⟨zs,Pj,tz⟩:=az R.2 i hi Gf;have s3:aa H (upd H2 u (.tup [.int i,.ref as[i]])):=s2.trans (aa.new hu);have Ds:upd H2 u (.tup [.int i,.ref as[i]]) u=some (.tup [.int i,.ref as[i]]):=ay;generalize upd H2 u (.tup [.int i,.ref as[i]])=H3 at s3 Ds ⊢;refine#[u,_,Z,.of Ds,Z,_,_,Z,_,_,Z,Z,?_];refine#[_,Z,as[i],Z,#[_,.of (s3 _ _ Pj)],λD hD=>?_];have lz:=bE tz;rw[aq] at lz;have lr:=xa rs[i] (ku Gf);refine mK (own:=1) (fv:=[some (.ref t)]) (xs:=zs) Z eD (λj out H'=>aa H3 H'/\H' D=some (.lst out)/\out=((rs[i].take j).map (hit tt)).map V.bl) #[aa.new hD,ay,Z] (λj out H' _ ⟨sm,_,_⟩=>.of (sm _ _ (s3 _ _ Pj))) (λout H4 ⟨s4,sH,eo⟩=>?_) (λj y out H' hy ⟨sm,e_,eo⟩=>?_)
   ·rw[lz,dG] at eo;subst eo;refine#[D,rs[i].map (hit tt),Z,.of sH,#[_,Z,?_]];have Em:(rs[i].map (hit tt)).any id=rs[i].any (hit tt):=by rw[List.any_map];rfl
    refine bp (λc=>?_) (λc=>?_)
    ·have c:rs[i].any (hit tt)=false:=by
      have:(!(rs[i].map (hit tt)).any id)=true:=c;rw[Em] at this;simpa using this
     have e:eR rs tt=i:=by
      unfold eR;rw[List.findIdx_eq Gf];refine#[by rw[c];rfl,λj hj=>?_];have:=past (rs[j]' Z1) (List.mem_iff_getElem?.mpr #[j,by rw[List.getElem?_take_of_lt hj,di Z1]]);rw[this];rfl
     refine#[_,Z,?_];have:=k H4 (s3.trans s4);rw[e] at this;exact this
    ·have c:rs[i].any (hit tt)=true:=by
      have:¬(!(rs[i].map (hit tt)).any id)=true:=c;rw[Em] at this;simpa using this
     refine#[_,_,Z,s3.trans s4,λr hr=>?_];rw[hV,di Gf] at hr;rcases eK.mp hr with hr|hr
     ·exact past r hr
     ·obtain rfl:r=rs[i]:=by simpa using hr
      exact c
   ·obtain⟨q,hq,a,rfl,ha⟩:=ij tz hy;have Qe:=sm _ _ (s3 _ _ (sk ha));have DB:=sm _ _ (s3 _ _ (sk ht))
    have lo:out.length<sizeLine:=by
     rw[eo,aq,aq,cj];omega
    refine#[_,Z,Z,λNx hN=>cZ ?_];have nx:Nx (upd H' D (.lst (out++[.bl (hit tt q)]))):=hN _ _ #[gh sm hD,ay,by rw[BE _ hq,bX,eo];rfl];refine#[_,Z,t,_,_,_,Z,Z,.of DB,Z,_,Z,a,_,Z,.inr (.of Qe),Z,Z,_,Z,?_];refine bp (λc=>?_) (λc=>?_)
    ·have c:(decide (q.1=tt.1) || decide (q.2=tt.1))=true:=by rw[<- KO];exact c
     refine#[out,e_,lo,?_];rwa [show hit tt q=true by unfold hit;rw[c];rfl] at nx
    ·have c:(decide (q.1=tt.1) || decide (q.2=tt.1))=false:=by
      rw[<- KO];simpa using c
     refine#[_,Z,t,_,_,_,Z,Z,.of DB,Z,_,Z,a,_,Z,.inr (.of Qe),Z,Z,out,e_,lo,?_];rw[show hit tt q=Dm (.str tt.2) [.str q.1,.str q.2] by unfold hit;rw[c,Bool.false_or,KO]] at nx;exact nx
  ·rintro σ H2 ⟨v2,v3,rfl,s2,past⟩;rw[aq,la,dG] at past;refine#[_,Z,l,_,Z,.inl (.of (s2 _ _ R.1)),?_]
   have e:eR rs tt=rs.length:=by
    unfold eR;rw[List.findIdx_eq_length];intro r hr;rw[past r hr];rfl
   have:=k H2 s2;rw[e] at this;rw[aq,la];exact this
end
abbrev lB:Stmt:=i0 iy 8
theorem MY{α β:Type}{F:α->β->Prop}:∀{l:List α} {m:List β},l.length=m.length->(∀(i:Nat) (h1:i<l.length) (h2:i<m.length),F l[i] m[i])->Paired F l m
 |[],[],_,_=>.nil
 |[],_::_,h,_=>by cases h
 |_::_,[],h,_=>by cases h
 |a::l,b::m,h,f=>.cons (f 0 Z2 Z2) (MY (by simpa using h) λi h1 h2=>f (i+1) (by simpa using h1) (by simpa using h2))
def iI(rs:List Xb)(t:Str × Str):List Xb:=if h:eR rs t<rs.length then rs.set (eR rs t) (rs[eR rs t]++[t]) else rs++[[t]]
def turnsOf(ts:Xb):List Xb:=ts.foldl iI []
theorem _C(rs:List Xb)(t:Str × Str):eR rs t<=rs.length:=List.findIdx_le_length
theorem R_(rs:List Xb)(t:Str × Str):(iI rs t).length<=rs.length+1:=by
 unfold iI;split
 ·rw[List.length_set];omega
 ·rw[eF];exact aZ _
variable{t:Str × Str}{rs:List Xb}
theorem Mg{n:Nat}(h:∀r∈rs,r.length<=n):∀r∈iI rs t,r.length<=n+1:=by
 unfold iI;intro r hr;split at hr
 ·rename_i cb
  rcases List.mem_or_eq_of_mem_set hr with m|rfl
  ·have:=h r m;omega
  ·have:=h rs[eR rs t] (ku cb);rw[eF];show rs[eR rs t].length+1<=n+1;omega
 ·rcases eK.mp hr with m|m
  ·have:=h r m;omega
  ·obtain rfl:r=[t]:=by simpa using m
   simp
theorem vG.add{K:ag}{H H':Hp}{l a:Addr}{as:List Addr}(h:vG K H l as rs)(nd:as.Nodup){p:Nat}(hp:p<rs.length)(ha:as[p]? = some a)(hl:H' l=some (.lst (as.map V.ref)))(hz:H' a=some (.lst zs))(tz:aY K H' zs ((rs[p]++[t]).map kT))(k:∀b o,H b=some o->b≠l->b≠a->H' b=some o)(hla:∀b∈as,b≠l)(kt:∀b xs,H b=some (.tup xs)->H' b=some (.tup xs)):vG K H' l as (rs.set p (rs[p]++[t])):=by
 have la:=bE h.2;refine#[hl,MY (by rw[List.length_set,la]) λi h1 h2=>?_];rw[List.length_set] at h2;obtain⟨AV,ea⟩:=bP.mp ha;by_cases e:p=i
 ·subst e;rw[List.getElem_set_self,ea];exact#[zs,hz,tz]
 ·rw[List.getElem_set_ne e];obtain⟨BN,e2,t2⟩:=az h.2 i h1 h2;have ne:as[i]≠a:=λq=>e ((List.getElem_inj nd).mp (ea.trans q.symm));exact#[BN,k _ _ e2 (hla _ (ku h1)) ne,Paired.bo t2 λy q ⟨c,z,e⟩=>#[c,z,kt _ _ e]]
theorem eU_{α β:Type}{F:α->β->Prop}{l:List α}{m:List β}{a:α}{b:β}(h:Paired F l m)(f:F a b):Paired F (l++[a]) (m++[b]):=Paired.snoc h f
section
variable{P:Ad}{w:Af}{K:ag}{mg:Str->Option Aa}{base:Heap}
theorem Hn:bh ["self","rows","tie","place"] ["self"] (aU lB):=bu
inductive LY (K:ag) (C:Addr) (vs:List V) (H:Hp) (Q:VK) (E:XK):Prop
 |mk:∀(p:Addr) (hs:Xa) (ts:Xb) (fp:List Addr),vs=[.ref p]->fK K C H p hs ts fp->ts.length<64->(∀(l:Addr) (as:List Addr) (H':Hp),aa H H'->H l=none->(∀a∈as,H a=none)->(∀a∈as,a≠l)->as.Nodup->vG K H' l as (turnsOf (aK ts))->Q (.ref l) H')->LY K C vs H Q E
theorem ZM{C:Addr}(F:a9 K "turns" "Web.turns" lB f fd)(B:Bi mg)(T:Txt K mg C)(cT:bb P w K mg base C 2 "ties" ["self"] (LD K C))(cR:bj P w K mg base 1 "first_row_without" ["rows","tie"] (qp K)):ai P w K mg base aR 3 f fd ["self"] (LY K C):=by
 refine F.bt Hn λaL A outer s H vs Q E hr h=>?_
 ·obtain⟨p,hs,ts,fp,rfl,W,cg,k⟩:=h;have sz:=bU;have dS:aD 1 _:=hr.mono (by decide);obtain⟨dx,d1,l2,d3,jb,as0,efp,h1,_⟩:=id W.ex;have VX:(bQ d1 l2 d3).lookup ("ties":Str)=none:=ik _ _ _ Z0 Z0 Z0
  refine#[_,au (bg 1 Hn.nd (d5 af))
   (au (eV eM Z (dH (xm cT T.cl hr (pv 0))) (bV 2 Hn.nd)
    (au (bg 3 Hn.nd (aX cR dS (ae (pv 1) (ae (pv 2) af))))
    (au (bC (cU i9 (pv 3) (cK jU (by rfl) B.len gP (ae (pv 1) af)) (ak _))
     (aI (oE (mz o9 xr xt vA (pv 1) (ae (d5 af) af)))) bD)
    (aI (oE (mz o9 xr xt vA (bB gQ (pv 1) (pv 3) (λ_ _=>rfl)) (ae (pv 2) af)))))))
   (aI (ba (pv 1)))),?_]
  refine#[by show 0<=sizeLine;decide,λlr Kc=>?_];have s0:aa H (upd H lr (.lst [])):=aa.new Kc;have uY:upd H lr (.lst []) lr=some (.lst []):=ay;generalize upd H lr (.lst [])=H0 at s0 uY ⊢;refine#[_,Z,p,dx,_,Z,s0 _ _ h1,VX,p,hs,ts,fp,Z,W.same s0,cg,λlt zs H1 s1 cb DL tz=>?_];have VZ:lt≠lr:=(bI uY cb).symm;have lz:=bE tz;rw[aq,G2] at lz;have wL:=G2 ts
  refine#[lt,Z,#[_,.of DL],gF (K:=K) (a:=lt) (xs:=zs) (λi σ H2=>∃(v2 v3:Option V) (as:List Addr),σ=[some (.ref p),some (.ref lr),v2,v3]/\aV lr H1 H2/\(∀a∈as,H1 a=none/\a≠lr)/\as.Nodup/\vG K H2 lr as (turnsOf ((aK ts).take i))/\(turnsOf ((aK ts).take i)).length<=i/\∀r∈turnsOf ((aK ts).take i),r.length<=i)
   #[none,none,[],Z,aV.refl _ _,by simp,.nil,#[s1 _ _ uY,.nil],aZ _,by intro r hr;simp[turnsOf] at hr] (λi σ H2 _ ⟨_,_,_,_,b,_⟩=>.of (b _ _ DL VZ)) ?_ ?_]
  ·rintro i y σ H2 hy ⟨v2,v3,as,rfl,b2,fa,nd,R,l1,AO⟩;obtain⟨t,ht,a,rfl,ha⟩:=ij tz hy;have hi:i<(aK ts).length:=(bP.mp ht).1;have Kb:=s1 _ _ uY;have V8:a≠lr:=bZ ha Kb nofun;have tJ:=b2 _ _ ha V8;have la:=bE R.2
   have zG:turnsOf ((aK ts).take (i+1))=iI (turnsOf ((aK ts).take i)) t:=by
    unfold turnsOf;rw[hV,ht,List.foldl_append];rfl
   generalize turnsOf ((aK ts).take i)=rs at R l1 AO la zG;refine#[_,Z,_,Z,lr,a,as,rs,t,Z,R,tJ,λr hr=>by have:=AO r hr;omega,λH3 s3=>?_];have R3:=R.same s3;have pN:=s3 _ _ tJ;have b3:aV lr H1 H3:=b2.trans (aV.of s3);have f3:∀a∈as,H1 a=none/\a≠lr:=fa;refine#[_,Z,_,Z,lr,_,Z,.inl (.of R3.1),Z,_,Z,?_];refine bp (λc=>?_) (λc=>?_)
   ·have c:eR rs t=rs.length:=by
     have:V.int (eR rs t)=V.int ((as.map V.ref).length:Nat):=by simpa using c
     rw[aq,la] at this;have:=V.int.inj this;omega
    refine#[_,Z,.inl #[Z,_,.of R3.1],by show 0<=sizeLine;decide,λln wY=>?_];obtain⟨s4,Kd⟩:=aO (o:=.lst []) wY;have AK:ln≠lr:=(bI R3.1 wY).symm;refine#[lr,_,_,Z,Z,s4 _ _ R3.1,by rw[aq];omega,?_]
    have fln:H1 ln=none:=by
     cases z:H1 ln with
     |none=>rfl
     |some o=>
      have:=b3 _ _ z AK;rw[wY] at this;cases this
    have V2:ln∉as:=λm=>by
     obtain⟨j,hj,e⟩:=ph m;obtain⟨zz,e2,_⟩:=az R3.2 j hj Z1;rw[e,wY] at e2;cases e2
    have Nu:gG (as.map V.ref++[V.ref ln]) (eR rs t:Int)=some (.ref ln):=by
     rw[oC Z1 (by rw[eF,aq];show ((eR rs t:Nat):Int)<((as.length+1:Nat):Int);omega),Int.toNat_natCast,c,Aw (by rw[aq];omega),aq,la,Nat.sub_self];rfl
    have zg:upd (upd H3 ln (.lst [])) lr (.lst (as.map V.ref++[.ref ln])) lr=some (.lst (as.map V.ref++[.ref ln])):=ay;have zh:upd (upd H3 ln (.lst [])) lr (.lst (as.map V.ref++[.ref ln])) ln=some (.lst []):=by rw[ax AK];exact Kd
    have k5:∀{b o},H3 b=some o->b≠lr->upd (upd H3 ln (.lst [])) lr (.lst (as.map V.ref++[.ref ln])) b=some o:=λe ne=>by rw[ax ne];exact s4 _ _ e
    generalize upd (upd H3 ln (.lst [])) lr (.lst (as.map V.ref++[.ref ln]))=H5 at zg zh k5 ⊢;refine#[_,Z,_,Z,lr,_,_,_,Z,Z,.of zg,Nu,.inl #[Z,_,.of zh],_,Z,ln,_,_,Z,Z,zh,by show 0<sizeLine;decide,?_];have k6:∀{b o},H3 b=some o->b≠lr->upd H5 ln (.lst ([]++[.ref a])) b=some o:=λe ne=>by rw[ax (bI e wY)];exact k5 e ne
    have DO:upd H5 ln (.lst ([]++[.ref a])) ln=some (.lst [.ref a]):=ay;have DN:upd H5 ln (.lst ([]++[.ref a])) lr=some (.lst (as.map V.ref++[.ref ln])):=by rw[ax AK.symm];exact zg
    generalize upd H5 ln (.lst ([]++[.ref a]))=H6 at k6 DO DN ⊢;have kt:∀b xs,H3 b=some (.tup xs)->H6 b=some (.tup xs):=λb xs e=>k6 e (bZ e R3.1 nofun)
    have ep:iI rs t=rs++[[t]]:=by
     unfold iI;rw[dif_neg Z1]
    refine#[_,_,as++[ln],Z,λb o e ne=>k6 (b3 _ _ e ne) ne,λx hx=>?_,?_,?_,?_,?_]
    ·rcases eK.mp hx with m|m
     ·exact fa x m
     ·obtain rfl:x=ln:=by simpa using m
      exact#[fln,AK]
    ·rw[xy]
     exact#[nd,by simp,λx hx z hz=>by
      obtain rfl:z=ln:=by simpa using hz
      exact λq=>V2 (q▸hx)]
    ·rw[zG,ep];refine#[by rw[bX];exact DN,eU_ (MY la λj h1 h2=>?_) #[_,DO,.cons #[a,Z,kt _ _ pN] .nil]];obtain⟨zz,e,tt⟩:=az R3.2 j h1 h2;exact#[zz,k6 e (fa _ (ku h1)).2,Paired.bo tt λy q ⟨c,z,e⟩=>#[c,z,kt _ _ e]]
    ·rw[zG];have:=R_ rs t;omega
    ·rw[zG];exact Mg AO
   ·have c:eR rs t<rs.length:=by
     have h1:=_C rs t
     have:¬eR rs t=rs.length:=λe=>c (by
      rw[aq,la,e];simp)
     omega
    have AV:eR rs t<as.length:=by omega
    have nl:as[eR rs t]≠lr:=(fa _ (ku AV)).2;obtain⟨zz,ez,NN⟩:=az R3.2 (eR rs t) AV c;have WR:=bE NN;rw[aq] at WR;have Xc:=AO _ (ku c)
    have Nu:gG (as.map V.ref) (eR rs t:Int)=some (.ref as[eR rs t]):=by
     rw[oC Z1 (by rw[aq];omega),Int.toNat_natCast,dU,di AV];rfl
    refine#[_,Z,_,Z,lr,_,_,_,Z,Z,.of R3.1,Nu,.inl #[Z,_,.of ez],_,Z,_,_,_,Z,Z,ez,by omega,?_];have k6:∀{b o},H3 b=some o->b≠as[eR rs t]->upd H3 as[eR rs t] (.lst (zz++[.ref a])) b=some o:=λe ne=>by rw[ax ne];exact e
    have h6:upd H3 as[eR rs t] (.lst (zz++[.ref a])) as[eR rs t]=some (.lst (zz++[.ref a])):=ay;generalize upd H3 as[eR rs t] (.lst (zz++[.ref a]))=H6 at k6 h6 ⊢;have kt:∀b xs,H3 b=some (.tup xs)->H6 b=some (.tup xs):=λb xs e=>k6 e (bZ e ez nofun)
    have ep:iI rs t=rs.set (eR rs t) (rs[eR rs t]++[t]):=by
     unfold iI;rw[dif_pos c]
    refine#[_,_,as,Z,λb o e ne=>k6 (b3 _ _ e ne) (bI e (fa _ (ku AV)).1),fa,nd,?_,?_,?_]
    ·rw[zG,ep];refine R3.add nd c (di AV) (k6 R3.1 nl.symm) h6 ?_ (λb o e _ ne=>k6 e ne) (λb hb=>(fa b hb).2) kt;rw[bX];exact An (Paired.bo NN λy q ⟨c,z,e⟩=>#[c,z,kt _ _ e]) (kt _ _ pN)
    ·rw[zG];have:=R_ rs t;omega
    ·rw[zG];exact Mg AO
  ·rintro σ H2 ⟨v2,v3,as,rfl,b2,fa,nd,R,_,_⟩;rw[lz,<- wL,dG] at R;have s2:aa H H2:=λb o e=>b2 _ _ (s1 _ _ (s0 _ _ e)) (bI e Kc);exact#[_,Z,k lr as H2 s2 Kc (λa ha=>(s0.trans s1).free (fa a ha).1) (λa ha=>(fa a ha).2) nd R]
end
end Ev
namespace L2
open PySem PyProof.Rows
inductive rH (K:ag) (x:V) (y:V) (H:Hp) (Q:VK):Prop
 |mk:∀a b xs,x=.ref a->y=.ref b->dB K H a xs->dB K H b []->Q (.bl xs.isEmpty) H->rH K x y H Q
variable{X:Cx}
theorem Zc(hu:X.A.units+0+1<cLine):dC X (compareOp .Eq) (rH X.K):=by
 intro pins s σ H x y v u Q I rx ry h;obtain⟨a,b,xs,rfl,rfl,t,t',hq⟩:=h;cases xs with
 |nil=>exact OZ eQ hu pins s σ H (.ref a) (.ref b) v u Q I rx ry #[[],[],#[a,[],Z,t,.nil],#[b,[],Z,t',.nil],hq]
 |cons z zs=>
  cases rx;cases ry;obtain⟨us,r,pl,_⟩:=I.list t;obtain⟨vs,r',uM,_⟩:=I.list t';have l1:=r.length;have l2:=r'.length;exact SeqAt.eq_list_lengthsAt pl.isList uM.isList (by simp only[cE,bne_iff_ne];simp at l1 l2;omega) Z1 #[.bl false,H,I,Z,hq]
end L2
namespace Ev
open PySem L2
def i6(ts:Xb)(m:Int):Xb:=((turnsOf (aK ts))[(m % ((turnsOf (aK ts)).length:Int)).toNat]?).getD []
def pb(hs:Xa)(ts:Xb)(qs:List Pc)(f:Str->Str)(gd:Str)(t:Str × Str):List Mv:=gB hs ts qs f gd [] t.1 t.2++gB hs ts qs f gd [] t.2 t.1
def vC(hs:Xa)(ts:Xb)(qs:List Pc)(f:Str->Str)(gd:Str)(m:Int):List Mv:=(i6 ts m).flatMap (pb hs ts qs f gd)
variable{u:Str × Str}
theorem fT_{rs:List Xb}{t:Str × Str}{r:Xb}(hr:r∈iI rs t)(hu:u∈r):u=t∨∃r'∈rs,u∈r':=by
 unfold iI at hr;split at hr
 ·rename_i cb
  rcases List.mem_or_eq_of_mem_set hr with m|rfl
  ·exact .inr #[r,m,hu]
  ·rcases eK.mp hu with h|h
   ·exact .inr #[_,ku cb,h]
   ·exact .inl (by simpa using h)
 ·rcases eK.mp hr with m|m
  ·exact .inr #[r,m,hu]
  ·obtain rfl:r=[t]:=by simpa using m
   exact .inl (by simpa using hu)
theorem RJ{u:Str × Str}:∀(ts:Xb) (rs:List Xb) {r:Xb},r∈ts.foldl iI rs->u∈r->u∈ts∨∃r'∈rs,u∈r'
 |[],rs,r,hr,hu=>.inr #[r,hr,hu]
 |t::ts,rs,r,hr,hu=>by
  rw[List.foldl_cons] at hr;rcases RJ ts (iI rs t) hr hu with h|⟨r',h1,h2⟩
  ·exact .inl (dP _ h)
  ·rcases fT_ h1 h2 with rfl|h
   ·exact .inl dO
   ·exact .inr h
theorem Ss{n:Nat}:∀(ts:Xb) (rs:List Xb),(∀r∈rs,r.length<=n)->∀r∈ts.foldl iI rs,r.length<=n+ts.length
 |[],rs,h,r,hr=>h r hr
 |t::ts,rs,h,r,hr=>by
  rw[List.foldl_cons] at hr;have:=Ss (n:=n+1) ts (iI rs t) (Mg h) r hr;rw[hX];omega
theorem E1{ts:Xb}{m:Int}(h:u∈i6 ts m):u∈aK ts:=by
 unfold i6 at h;cases e:(turnsOf (aK ts))[(m % ((turnsOf (aK ts)).length:Int)).toNat]? with
 |none=>rw[e] at h;cases h
 |some r=>
  rw[e] at h;rcases RJ (aK ts) [] (cn e) h with z|⟨_,z,_⟩
  ·exact z
  ·cases z
theorem eT_{hs:Xa}{ts:Xb}(G:Good hs ts)(m:Int):(i6 ts m).length<64:=by
 unfold i6;cases e:(turnsOf (aK ts))[(m % ((turnsOf (aK ts)).length:Int)).toNat]? with
 |none=>show 0<64;decide
 |some r=>
  have:=Ss (n:=0) (aK ts) [] Z2 r (cn e);rw[G2] at this;have:=G.xR;show r.length<64;omega
theorem G0{hs:Xa}{ts:Xb}(G:Good hs ts)(h:u∈aK ts):u.1∈aA hs/\u.2∈aA hs:=by
 have k:kT u∈(aK ts).map kT:=a_.mpr #[u,h,Z];rw[E7,(ko _).mem_iff] at k;obtain⟨t,ht,e⟩:=a_.mp k;have e:=Ah e;obtain⟨h1,h2⟩:=G.xK t ht;have n1:=(hW hs).mem_iff.mpr h1;have n2:=(hW hs).mem_iff.mpr h2;rw[<- e];unfold aH;split
 ·exact#[n1,n2]
 ·exact#[n2,n1]
theorem Rh{α β:Type}{g:α->List β}{n:Nat}(h:∀x,(g x).length<=n):∀l:List α,(l.flatMap g).length<=n * l.length
 |[]=>fB _
 |a::l=>by
  have h1:=h a;have h2:=Rh h l;rw[vL,eF,hX,Nat.mul_succ];omega
theorem fZ_(hs:Xa)(ts:Xb)(qs:List Pc)(f:Str->Str)(gd:Str)(t:Str × Str):(pb hs ts qs f gd t).length<=2:=by
 unfold pb;rw[eF];have h1:=pS hs ts qs f gd [] t.1 t.2;have h2:=pS hs ts qs f gd [] t.2 t.1;omega
variable{f0:Addr}{fd:Ae}
section
variable{P:Ad}{w:Af}{K:ag}{mg:Str->Option Aa}{base:Heap}
theorem E9:bh ["sight","guard","moment","rows","moves","one","other"] ["sight","guard","moment"] (aU MI):=bu
inductive L8 (K:ag) (CS CG CW:Addr) (vs:List V) (H:Hp) (Q:VK) (E:XK):Prop
 |mk:∀(v g p:Addr) (gd:Str) (m:Int) (hs:Xa) (ts:Xb) (qs:List Pc) (fp:List Addr) (f:Str->Str),vs=[.ref v,.str gd,.int m]->0<=m->ie K CS CG CW H v g p hs ts qs fp f->Wd hs ts qs f->(∀l ys H',aa H H'->H l=none->H' l=some (.lst ys)->aY K H' ys ((vC hs ts qs f gd m).map kM)->Q (.ref l) H')->L8 K CS CG CW vs H Q E
theorem g2_{CS CG CW:Addr}(F:a9 K "moves_by_turns" "moves_by_turns" MI f0 fd)(B:Bi mg)(TS:fM K CS)(TG:dz K CG)(TW:Txt K mg CW)(cT:bb P w K mg base CW 3 "turns" ["self"] (LY K CW))(cH:bj P w K mg base 4 "heaviest_move" ["sight","one","other","guard","given"] (jh K CS CG CW)):ai P w K mg base aR 5 f0 fd ["sight","guard","moment"] (L8 K CS CG CW):=by
 refine F.bt E9 λaL A outer s H vs Q E hr h=>?_
 ·obtain⟨v,g,p,gd,m,hs,ts,qs,fp,f,rfl,m0,S,W,k⟩:=h;have sz:=bU;have sj:aD 3 _:=hr.mono (by decide);refine' #[_,?r0,?kk]
  case' r0=>refine' au ?s1 ?r1
  case' r1=>refine' au ?s2 ?r2
  case' r2=>refine' au ?s3 (au ?s4 (aI ?s5))
  case s1=>exact bg 3 E9.nd (xm cT TW.cl sj (cX (cX (pv 0) Z) Z))
  case s2=>exact bC (cU (Zc (pP hr 0)) (pv 3) (d5 af) (ak _)) (aI (ba (d5 af))) bD
  case s3=>exact bg 4 E9.nd (d5 af)
  case' s4=>refine' eV eM Z (dH (bB gQ (pv 3) (bw tY (pv 2) (cK jU (by rfl) B.len gP (ae (pv 3) af))) (λ_ _=>rfl))) (jO Z (bY (bV 5 E9.nd) (bY (bV 6 E9.nd) gR))) (au ?b1 (aI ?b2))
  case b1=>exact oE (mz o9 PySem.F.slot_list_extend PySem.F.type_list_extend E_ (pv 4) (ae (aX cH hr (ae (pv 0) (ae (pv 5) (ae (pv 6) (ae (pv 1) (ae (d5 af) af)))))) af))
  case b2=>exact oE (mz o9 PySem.F.slot_list_extend PySem.F.type_list_extend E_ (pv 4) (ae (aX cH hr (ae (pv 0) (ae (pv 6) (ae (pv 5) (ae (pv 1) (ae (d5 af) af)))))) af))
  case s5=>exact ba (pv 4)
  case' kk=>skip
  obtain⟨dx,dl,dv,dp,ad,h1,G,h3,h4,h5,h6⟩:=S.ex;obtain⟨jH,dw,dy,vs,bL,g1,g2,_⟩:=id G.ex;obtain⟨eL,d1,l2,d3,jb,as0,ef,w1,_⟩:=id g2.ex;have fW:(bQ d1 l2 d3).lookup ("turns":Str)=none:=ik _ _ _ Z0 Z0 Z0;refine#[_,Z,v,CS,dx,_,_,Z,h1,TS.cl,TS.nW,fU _ _ _ _,g,CG,jH,_,_,Z,g1,TG.cl,TG.nW,mG _ _ _,p,eL,_,Z,w1,fW,p,hs,ts,bL,Z,g2,W.Gd.xR,λlr as H1 s1 nr _ _ _ R=>?_];refine setG ?_;dsimp only;have la:=bE R.2;refine#[_,Z,by show 0<=sizeLine;decide,λle ne=>?_];obtain⟨lS,e2⟩:=aO (o:=.lst []) ne;generalize upd H1 le (.lst [])=H2 at lS e2 ⊢;have s2:=s1.trans lS;have R2:=R.same lS;refine#[lr,le,_,Z,Z,.of R2.1,.of e2,_,Z,?_];refine bp (λc=>?_) (λc=>?_)
  ·have z:as=[]:=by simpa using c
   have z:turnsOf (aK ts)=[]:=by
    rw[z] at la;exact List.length_eq_zero_iff.mp la.symm
   refine#[by show 0<=sizeLine;decide,λl nl=>?_];refine k l [] _ (s2.trans (aa.new nl)) (s2.free nl) ay ?_;unfold vC i6;rw[z];exact .nil
  ·have z:as≠[]:=by simpa using c
   have pos:0<as.length:=List.length_pos_iff.mpr z;refine#[by show 0<=sizeLine;decide,λlm nm=>?_];refine setG ?_;dsimp only;obtain⟨yu,e3⟩:=aO (o:=.lst []) nm;generalize upd H2 lm (.lst [])=H3 at yu e3 ⊢;have s3:=s2.trans yu;have AJ:H lm=none:=s2.free nm;have R3:=R2.same yu
   have lt:(m % ((turnsOf (aK ts)).length:Int)).toNat<as.length:=by
    have h1:=vP m (show ((as.length:Nat):Int)≠0 by omega);have h2:=xA m (show 0<((as.length:Nat):Int) by omega);rw[<- la];omega
   have lt':(m % ((turnsOf (aK ts)).length:Int)).toNat<(turnsOf (aK ts)).length:=by omega
   obtain⟨zs,hz,tz⟩:=az R2.2 _ lt lt'
   have er:i6 ts m=(turnsOf (aK ts))[(m % ((turnsOf (aK ts)).length:Int)).toNat]:=by
    unfold i6;rw[di lt'];rfl
   rw[<- er] at tz;have Xn:=eT_ W.Gd m;have Vm:∀u∈i6 ts m,u.1∈aA hs/\u.2∈aA hs:=λu hu=>G0 W.Gd (E1 hu);have h0:=vP m (show (((turnsOf (aK ts)).length:Nat):Int)≠0 by omega)
   have ix:gG (as.map V.ref) (m % ((as.map V.ref).length:Int))=some (.ref (as[(m % ((turnsOf (aK ts)).length:Int)).toNat])):=by
    rw[aq,la,oC h0 (by rw[aq];omega),dU,di lt];rfl
   generalize as[(m % ((turnsOf (aK ts)).length:Int)).toNat]=ar at hz ix;have lz:=bE tz;rw[aq] at lz;have Nw:ar≠lm:=bI hz nm;replace hz:=yu _ _ hz;replace tz:=tz.same yu;refine#[_,Z,_,Z,_,Z,lr,_,Z,.inl (.of R3.1),_,_,Z,Z,by rw[aq];omega,lr,_,_,_,Z,Z,.of R3.1,ix,ar,Z,#[_,.of hz],gF (K:=K) (a:=ar) (xs:=zs) (λi σ H'=>∃(v5 v6:Option V) (ys:List V),σ=[some (.ref v),some (.str gd),some (.int m),some (.ref lr),some (.ref lm),v5,v6]/\aa H H'/\aV lm H3 H'/\H' lm=some (.lst ys)/\aY K H' ys ((((i6 ts m).take i).flatMap (pb hs ts qs f gd)).map kM)) #[none,none,[],Z,s3,aV.refl _ _,e3,.nil] (λi σ H' _ ⟨_,_,_,_,_,b,_⟩=>.of (b _ _ hz Nw)) ?_ ?_]
   ·rintro i x σ H4 hx ⟨v5,v6,ys,rfl,s4,b4,m4,t4⟩;obtain⟨u,hu,a,rfl,ha⟩:=ij tz hx;have hi:i<(i6 ts m).length:=(bP.mp hu).1;obtain⟨n1,n2⟩:=Vm u (cn hu);have ha4:H4 a=some (.tup [.str u.1,.str u.2]):=b4 _ _ ha (bZ ha e3 nofun);refine#[a,_,Z,.of ha4,Z,_,_,Z,_,_,Z,Z,?_];dsimp only;have ly:=bE t4;rw[aq] at ly;have bl:=Rh (fZ_ hs ts qs f gd) ((i6 ts m).take i);rw[cj] at bl;have l1:=pS hs ts qs f gd [] u.1 u.2;have AO:=pS hs ts qs f gd [] u.2 u.1;refine#[_,Z,.inl #[Z,_,.of m4],_,Z,_,Z,_,Z,_,Z,by show 0<=sizeLine;decide,λlg ng=>?_];obtain⟨IU,e5⟩:=aO (o:=.lst []) ng;generalize upd H4 lg (.lst [])=H5 at IU e5 ⊢;refine#[v,g,p,lg,u.1,u.2,gd,[],hs,ts,qs,fp,f,Z,S.same (s4.trans IU),W,n1,n2,e5,λl6 z6 H6 Cr n6 e6 t6=>?_];have FN:=IU.trans Cr;have m6:=FN _ _ m4;have WU:=bE t6;rw[aq] at WU;refine#[lm,l6,ys,z6,Z,Z,m6,e6,by omega,?_];have s7:aa H (upd H6 lm (.lst (ys++z6))):=gh (s4.trans FN) AJ;have b7:aV lm H3 (upd H6 lm (.lst (ys++z6))):=λb o e n=>by rw[ax n];exact FN _ _ (b4 _ _ e n)
    have e7:upd H6 lm (.lst (ys++z6)) lm=some (.lst (ys++z6)):=ay
    have t7:aY K (upd H6 lm (.lst (ys++z6))) (ys++z6) ((((i6 ts m).take i).flatMap (pb hs ts qs f gd)++gB hs ts qs f gd [] u.1 u.2).map kM):=by
     rw[bX];exact kn (kq (t4.same FN) m6) (kq t6 m6)
    generalize upd H6 lm (.lst (ys++z6))=H7 at s7 b7 e7 t7 ⊢;dsimp only;refine#[_,Z,.inl #[Z,_,.of e7],_,Z,_,Z,_,Z,_,Z,by show 0<=sizeLine;decide,λOI V3=>?_];obtain⟨IR,e8⟩:=aO (o:=.lst []) V3;generalize upd H7 OI (.lst [])=H8 at IR e8 ⊢;refine#[v,g,p,OI,u.2,u.1,gd,[],hs,ts,qs,fp,f,Z,S.same (s7.trans IR),W,n2,n1,e8,λl9 z9 H9 Vk n9 e9 t9=>?_];have FK:=IR.trans Vk;have m9:=FK _ _ e7;have WT:=bE t9;have ly7:(ys++z6).length=ys.length+z6.length:=eF;rw[aq] at WT;refine#[lm,l9,ys++z6,z9,Z,Z,m9,e9,by omega,?_];refine#[_,_,(ys++z6)++z9,Z,gh (s7.trans FK) AJ,λb o e n=>by rw[ax n];exact FK _ _ (b7 _ _ e n),ay,?_];rw[show (i6 ts m).take (i+1)=(i6 ts m).take i++[u] by rw[hV,hu];rfl,List.flatMap_append,vL,List.flatMap_nil,mJ];unfold pb;rw[<- List.append_assoc,bX];exact kn (kq (t7.same FK) m9) (kq t9 m9)
   ·rintro σ H4 ⟨v5,v6,ys,rfl,s4,b4,m4,t4⟩;rw[lz,dG] at t4;exact#[_,Z,k lm ys H4 s4 AJ m4 t4]
theorem nF:bh ["sight","rule","moment","words","moves","hand"] ["sight","rule","moment"] (aU jm):=bu
inductive Lz (K:ag) (CS CG CW:Addr) (vs:List V) (H:Hp) (Q:VK) (E:XK):Prop
 |mk:∀(v g p:Addr) (m:Int) (gd:Str) (hs:Xa) (ts:Xb) (qs:List Pc) (fp:List Addr) (f:Str->Str),∀r∈rl,vs=[.ref v,.str r.1,.int m]->r.2.1="turns"->r.2.2.2=some gd->0<=m->ie K CS CG CW H v g p hs ts qs fp f->Wd hs ts qs f->(∀l ys H',aa H H'->H l=none->H' l=some (.lst ys)->aY K H' ys ((vC hs ts qs f gd m).map kM)->Q (.ref l) H')->Lz K CS CG CW vs H Q E
theorem ZR{CS CG CW:Addr}(F:a9 K "moves_seen" "moves_seen" jm f0 fd)(EH:bj P w K mg base 2 "checked_words" ["rule"] (Hr K))(cT:bj P w K mg base 5 "moves_by_turns" ["sight","guard","moment"] (L8 K CS CG CW)):ai P w K mg base aR 6 f0 fd ["sight","rule","moment"] (Lz K CS CG CW):=by
 refine F.bt nF λaL A outer s H vs Q E hr h=>?_
 ·obtain⟨v,g,p,m,gd,hs,ts,qs,fp,f,r,gZ,rfl,le,eg,m0,S,W,k⟩:=h;have cz:aD 2 _:=hr.mono (by decide);refine' #[_,au ?s1 (au ?s2 cq),?kk]
  case s1=>exact OS (i:=3) nF.nd Z (Or.inl Z) (aX EH cz (ae (pv 1) af))
  case s2=>exact bC (cU i9 (bB cy (pv 3) aE (λ_ _=>rfl)) dg (ak _)) (aI (ba (aX cT hr (ae (pv 0) (ae (bB cy (pv 3) aE (λ_ _=>rfl)) (ae (pv 2) af)))))) bD
  case' kk=>skip
  refine#[_,Z,r,gZ,Z,λaw ha=>?_];refine setG ?_;dsimp only;refine#[_,Z,aw,_,_,_,Z,Z,ha _,Z,Z,_,Z,?_];rw[tV,bW le];refine dQ ?_;refine#[_,Z,_,Z,aw,_,_,.str gd,Z,Z,ha _,?_,_,Z,v,g,p,gd,m,hs,ts,qs,fp,f,Z,m0,S,W,k];rw[eg];rfl
end
theorem ai.two{P:Ad}{w:Af}{K:ag}{mg:Str->Option Aa}{base:Heap}{CX:uh}{k:Nat}{f:Addr}{ps:List Str}{sp N_ IB:Sp}(F:ai P w K mg base CX k f fd ps N_)(G:ai P w K mg base CX k f fd ps IB)(h:∀vs H Q E,sp vs H Q E->N_ vs H Q E∨IB vs H Q E):ai P w K mg base CX k f fd ps sp:=
 #[λvs H Q E q=>(h vs H Q E q).elim (F.len vs H Q E) (G.len vs H Q E),λA outer s H args us vs Q E hr e b v q=>(h vs H Q E q).elim (F.run A outer s H args us vs Q E hr e b v) (G.run A outer s H args us vs Q E hr e b v)]
def oF:xE:=λr hs ts qs f h=>if r.2.1="least" then zV r hs ts qs f h else if r.2.1="below" then zW r hs ts qs f h else Bl r hs ts qs f h
theorem Pz:∀r∈rl,r.2.1≠"turns"->r.2.1≠"least"->r.2.1≠"below"->r.2.1="shares":=by decide +kernel
theorem Z7:∀r∈rl,r.2.1="turns"->r.2.2.2.isSome=true:=by decide +kernel
variable{r:Rl}
theorem RB(h:r.2.1="least")(hs:Xa)(ts:Xb)(qs:List Pc)(f:Str->Str)(x:Str):oF r hs ts qs f x=zV r hs ts qs f x:=aC h
theorem Sq(h:r.2.1="below")(hs:Xa)(ts:Xb)(qs:List Pc)(f:Str->Str)(x:Str):oF r hs ts qs f x=zW r hs ts qs f x:=(ao (by rw[h];decide +kernel)).trans (aC h)
theorem R9(h:r.2.1="shares")(hs:Xa)(ts:Xb)(qs:List Pc)(f:Str->Str)(x:Str):oF r hs ts qs f x=Bl r hs ts qs f x:=(ao (by rw[h];decide +kernel)).trans (ao (by rw[h];decide +kernel))
def yK(r:Rl)(hs:Xa)(ts:Xb)(qs:List Pc)(f:Str->Str)(m:Int):List Mv:=if r.2.1="turns" then vC hs ts qs f (r.2.2.2.getD "") m else Er oF r hs ts qs f
def BT(T1 T2:Addr)(H H':Hp):Prop:=∀b o,H b=some o->b≠T1->b≠T2->H' b=some o
theorem BT.nt{T1 T2:Addr}{H H':Hp}(a:BT T1 T2 H H')(tb:Tb H T1 T2):NT H H':=λb o e n=>by
 obtain⟨v1,h1⟩:=km tb.a;obtain⟨v2,h2⟩:=km tb.b;exact a b o e (λz=>n v1 (by rw[z,h1] at e;exact (dW e).symm)) (λz=>n v2 (by rw[z,h2] at e;exact (dW e).symm))
section
variable{P:Ad}{w:Af}{K:ag}{mg:Str->Option Aa}{base:Heap}{CS CG CW T1 T2:Addr}
theorem fM_{T:Addr}(l:ai P w K mg base aR 6 f0 fd ["sight","hand","words"] (t_ K CS CG CW T (λr=>r.2.1="least") zV))(b:ai P w K mg base aR 6 f0 fd ["sight","hand","words"] (t_ K CS CG CW T (λr=>r.2.1="below") zW))(s:ai P w K mg base aR 6 f0 fd ["sight","hand","words"] (t_ K CS CG CW T (λr=>r.2.1="shares") Bl)):ai P w K mg base aR 6 f0 fd ["sight","hand","words"] (t_ K CS CG CW T (λr=>r.2.1≠"turns") oF):=by
 refine ai.two l (IB:=t_ K CS CG CW T (λr=>r.2.1≠"turns"/\r.2.1≠"least") oF) (ai.two b s λvs H Q E q=>?_) λvs H Q E q=>?_
 ·obtain⟨v,g,p,aw,h,hs,ts,qs,fp,f,r,hr,e,⟨n1,n2⟩,ha,S,W,hh,tab,k⟩:=q;by_cases c:r.2.1="below"
  ·exact .inl #[v,g,p,aw,h,hs,ts,qs,fp,f,r,hr,e,c,ha,S,W,hh,tab,λl ys H' b t n e tu=>k l ys H' b t n e (by rw[Sq c];exact tu)]
  ·have c:=Pz r hr n1 n2 c;exact .inr #[v,g,p,aw,h,hs,ts,qs,fp,f,r,hr,e,c,ha,S,W,hh,tab,λl ys H' b t n e tu=>k l ys H' b t n e (by rw[R9 c];exact tu)]
 ·obtain⟨v,g,p,aw,h,hs,ts,qs,fp,f,r,hr,e,n1,ha,S,W,hh,tab,k⟩:=q;by_cases c:r.2.1="least"
  ·exact .inl #[v,g,p,aw,h,hs,ts,qs,fp,f,r,hr,e,c,ha,S,W,hh,tab,λl ys H' b t n e tu=>k l ys H' b t n e (by rw[RB c];exact tu)]
  ·exact .inr #[v,g,p,aw,h,hs,ts,qs,fp,f,r,hr,e,#[n1,c],ha,S,W,hh,tab,k]
inductive LR (K:ag) (CS CG CW T:Addr) (vs:List V) (H:Hp) (Q:VK) (E:XK):Prop
 |mk:∀(v g p:Addr) (m:Int) (hs:Xa) (ts:Xb) (qs:List Pc) (fp:List Addr) (f:Str->Str),∀r∈rl,vs=[.ref v,.str r.1,.int m]->0<=m->ie K CS CG CW H v g p hs ts qs fp f->Wd hs ts qs f->eE H T j5->(∀l ys H',aV T H H'->eE H' T j5->H l=none->H' l=some (.lst ys)->aY K H' ys ((yK r hs ts qs f m).map kM)->Q (.ref l) H')->LR K CS CG CW T vs H Q E
theorem Z9{T:Addr}(a:ai P w K mg base aR 7 f0 fd ["sight","rule","moment"] (kI K CS CG CW T (λr=>r.2.1≠"turns") oF))(t:ai P w K mg base aR 6 f0 fd ["sight","rule","moment"] (Lz K CS CG CW)):ai P w K mg base aR 7 f0 fd ["sight","rule","moment"] (LR K CS CG CW T):=by
 refine ai.two a (t.mono (by decide)) λvs H Q E q=>?_;obtain⟨v,g,p,m,hs,ts,qs,fp,f,r,hr,e,m0,S,W,tab,k⟩:=q;by_cases c:r.2.1="turns"
 ·obtain⟨gd,eg⟩:=BF.mp (Z7 r hr c);exact .inr #[v,g,p,m,gd,hs,ts,qs,fp,f,r,hr,e,c,eg,m0,S,W,λl ys H' s n e tu=>k l ys H' (aV.of s) (tab.same s) n e (by unfold yK;rw[aC c,eg];exact tu)]
 ·exact .inl #[v,g,p,m,hs,ts,qs,fp,f,r,hr,e,c,S,W,tab,λl ys H' b t n e tu=>k l ys H' b t n e (by unfold yK;rw[ao c];exact tu)]
structure Pld (K:ag) (CG CW T1 T2:Addr) (H:Hp) (g p d:Addr) (hs:Xa) (ts:Xb) (qs:List Pc) (fp:List Addr) (f:Str->Str):Prop where
 Pl:vF K CG CW H g p d hs ts qs fp f
 W:Wd hs ts qs f
 tb:Tb H T1 T2
 has:∀b∈fp,∃o,H b=some o
end
section
variable{P:Ad}{w:Af}{K:ag}{mg:Str->Option Aa}{base:Heap}{CS CG CW T1 T2:Addr}
inductive Na (K:ag) (CG CW T1 T2:Addr) (vs:List V) (H:Hp) (Q:VK) (E:XK):Prop
 |mk:∀(g p d:Addr) (m:Int) (hs:Xa) (ts:Xb) (qs:List Pc) (fp:List Addr) (ns:List Str) (f:Str->Str),∀r∈rl,vs=[.ref g,.ref d,.str r.1,.int m]->0<=m->uf K CG CW H g p d hs ts qs fp ns f->Wd hs ts qs f->Tb H T1 T2->(∀l ys H',BT T1 T2 H H'->Tb H' T1 T2->H l=none->H' l=some (.lst ys)->aY K H' ys ((yK r hs ts qs f m).map kM)->Q (.ref l) H')->Na K CG CW T1 T2 vs H Q E
theorem _Y(F:a9 K "moves_of" "moves_of" Lu f0 fd)(MD:bj P w K mg base 3 "checked_start" ["goods","stand","rule"] (SF K CG CW))(MO:pC P w K mg base CS 7 "Sight" ["self","goods","placed"] (LC K CS CG CW T1))(MF:bj P w K mg base 7 "moves_seen" ["sight","rule","moment"] (LR K CS CG CW T2))(MN:bj P w K mg base 3 "checked_moments" ["thing"] S9) :
  ai P w K mg base aR 9 f0 fd ["goods","stand","rule","moment"] (Na K CG CW T1 T2):=by
 refine F.bt Sb λaL A outer s H vs Q E hr h=>?_
 ·obtain⟨g,p,d,m,hs,ts,qs,fp,ns,f,r,gZ,rfl,m0,S,W,tb,k⟩:=h;have sj:aD 3 _:=hr.mono (by decide);have hr7:aD 7 _:=hr.mono (by decide);refine' #[_,au ?s1 (aI ?s2),?kk]
  case s1=>exact bg 4 Sb.nd (aX MD sj (ae (pv 0) (ae (pv 1) (ae (pv 2) af))))
  case s2=>exact ba (aX MF hr7 (ae (JH MO hr (ae (pv 0) (ae (pv 4) af))) (ae (pv 2) (ae (aX MN sj (ae (pv 3) af)) af))))
  case' kk=>skip
  refine#[_,Z,_,Z,_,Z,_,_,r,gZ,Z,#[g,p,d,hs,ts,qs,fp,ns,f,Z,S.G,S.oz,S.hd,S.so,W.nd,W.cg,λdp H1 s1 n1 e1=>?_]];refine setG ?_;dsimp only
  have Ez:dp∉fp:=λhm=>by
   obtain⟨o,e,_⟩:=S.has dp hm;rw[e] at n1;cases n1
  have Pl:vF K CG CW H1 g p dp hs ts qs fp f:=#[S.G.same s1,W.Gd,Ez,e1,W.at_,W.nd,W.cg];refine#[_,Z,_,Z,λv dx hv Kv ne=>?_];have s2:aa H1 (upd (upd H1 dx (.own v)) v (.ins CS dx [])):=(aa.new Kv).trans (aa.new (by rw[ax ne.symm];exact hv));have e2:upd (upd H1 dx (.own v)) v (.ins CS dx []) v=some (.ins CS dx []):=ay;generalize upd (upd H1 dx (.own v)) v (.ins CS dx [])=H2 at s2 e2 ⊢
  have Fx:v∉fp:=λhm=>by
   obtain⟨o,e,_⟩:=S.has v hm;rw[s1 _ _ e] at hv;cases hv
  have h9:=s1.trans s2;have Pl2:vF K CG CW H2 g p dp hs ts qs fp f:=#[Pl.G.same s2,W.Gd,Ez,s2 _ _ e1,W.at_,W.nd,W.cg];refine#[v,dx,g,p,dp,hs,ts,qs,fp,f,Z,e2,Fx,Pl2,W,tb.a.same h9,λH3 k3 iu S3=>#[Z,?_]];obtain⟨tv1,hT1⟩:=km tb.a;obtain⟨UK,hT2⟩:=km tb.b
  have nv:∀{b:Addr} {o:HO},H b=some o->b≠v:=λe z=>by
   rw[z] at e;rw[s1 _ _ e] at hv;cases hv
  have F7:∀b o,H b=some o->b≠T1->H3 b=some o:=λb o e n=>k3 b o (h9 _ _ e) (nv e) n;have CT:NT H H3:=λb o e n=>F7 b o e (λz=>by rw[z,hT1] at e;exact n _ (dW e).symm)
  have NV:eE H3 T2 j5:=by
   obtain⟨es,a1,a2⟩:=tb.b;exact#[es,F7 _ _ a1 tb.ne.symm,λx hx=>CT _ _ (a2 x hx) nofun]
  refine#[_,Z,_,Z,m,Z,m0,?_];refine#[v,g,p,m,hs,ts,qs,fp,f,r,gZ,Z,m0,S3,W,NV,λl ys H4 b4 fR nl hl tu=>?_];obtain⟨tv3,hT3⟩:=km NV;have yE:=b4.nt hT3;refine k l ys H4 (λb o e n1 n2=>b4 _ _ (F7 b o e n1) n2) #[?_,fR,tb.ne] ?_ hl tu
  ·obtain⟨es,a1,a2⟩:=iu;exact#[es,b4 _ _ a1 tb.ne,λx hx=>yE _ _ (a2 x hx) nofun]
  ·cases z:H l with
   |none=>rfl
   |some o=>
    by_cases y:l=T1
    ·obtain⟨es,a1,_⟩:=iu;rw[y,a1] at nl;cases nl
    ·rw[F7 _ _ z y] at nl;cases nl
end
end Ev
namespace vR
open PySem PySem.Spec PySem.Calls PyProof.Rows PySem.W
variable{n:Nat}{prog:Ad}{w:Af}
theorem LW{K:Type}[DecidableEq K]{knd:PySem.KeyKind prog w K}{h h':Heap}{a:Addr}{S:K->Bool}(x:Heap.SetOf knd h a S n)(k:∀o,h.get? a=some o->h'.get? a=some o):Heap.SetOf knd h' a S n:=by
 obtain⟨o,es,ep,t,ho,r⟩:=x;exact#[o,es,ep,t,k _ ho,r]
variable{l:Addr}{its:List Aa}{A:Ag}
theorem XF{K:Type}[DecidableEq K]{knd:PySem.KeyKind prog w K}{it S:Addr}(DX:l≠it)(md:S≠it)(w4:S≠l)(hh:A.handled=none){ss:List K}(nd:ss.Nodup)(pH:Paired (λv x=>knd.is x v=true/\v.scannable=true) its ss)(hz:ss.length<=1000)(rest:List Aa):∀(i:Nat) (s:Ab) (R:Result->Ab->Prop),its.drop i=rest->i<=its.length->
  s.heap.IsListIter it l i->s.heap.IsList l its.toArray->Heap.SetOf knd s.heap S (λk=>decide (k∈ss.take i)) i->
  (∀h' eY,Heap.SetOf knd h' S (λk=>decide (k∈ss)) ss.length->(∀b o,b≠S->b≠it->s.heap.get? b=some o->h'.get? b=some o)->R (.ok (.ret .none)) { s with heap:=h',toks:=eY })->
  codeAny (model prog w) A (.builtin "set.update.loop" #[[.ref S,.ref it],[]]) R s:=by
 have len:=bE pH
 induction rest with
 |nil=>
  intro i s R e il hit hl hd hR
  have hlen:i=its.length:=by
   have:=dF List.length e;simp only[List.length_drop,sW] at this;omega
  have hi:its.toArray[i]? = none:=by
   simp;omega
  refine codeAny_builtin Hh ?_;rw[xq By _];unfold Builtin.«set.update.loop»;refine aj (wpAny_pyNext_list_end hh hit hl hi λh' he=>?_);refine aQ (hR h' s.toks ?_ λb o _ hb q=>he b o hb q);rw[hlen,len,dG] at hd;exact LW hd λo q=>he _ _ md q
 |cons v rest ih=>
  intro i s R e il hit hl hd hR
  have q0:its[i]? = some v:=by
   have q:(its.drop i)[0]? = some v:=by rw[e];rfl
   rw[List.getElem?_drop] at q;simpa using q
  have hi:its.toArray[i]? = some v:=by simpa using q0
  have e':its.drop (i+1)=rest:=by
   rw[<- List.drop_drop,e];rfl
  obtain⟨lt,ev⟩:=bP.mp q0;have lt':i<ss.length:=by omega
  obtain⟨hk,Py⟩:=L2.az pH i lt lt';rw[ev] at hk Py;have hx:ss[i]? = some ss[i]:=di lt';generalize ss[i]=x at hk hx
  have nx:¬x∈ss.take i:=λm=>by
   obtain⟨j,hj,ej⟩:=ph m;rw[cj] at hj;rw[List.getElem_take] at ej;have:=(List.getElem_inj nd).mp (ej.trans (bP.mp hx).2.symm);omega
  refine codeAny_builtin Hh ?_;rw[xq By _];unfold Builtin.«set.update.loop»;refine aj (wpAny_pyNext_list_item hit hl hi λh1 sE ib=>?_);refine aj (gO ?_);unfold setAdd;refine gO (aj (knd.pyHash hk (wpAny_setAddHashed_of hk Py (LW hd λo q=>ib.extBut _ _ md q) (Nat.lt_of_le_of_lt (show i+1<=2000 by omega) (by decide)) λh2 sb pI=>?_)));rw[dA nx] at pI
  have JZ:Heap.SetOf knd h2 S (λk=>decide (k∈ss.take (i+1))) (i+1):=by
   have:(λk=>decide (k∈ss.take (i+1)))=λk=>decide (k∈ss.take i) || decide (k=x):=funext λk=>by
    rw[hV,hx];simp[Bool.decide_or]
   rw[this];exact pI
  refine aQ #[plainId_quiet By _,?_];exact ih (i+1) _ R e' Z1 (sE.extBut sb.extBut (Ne.symm md)) (hl.at λo q=>sb.extBut _ _ (Ne.symm w4) (ib.extBut _ _ DX q)) JZ λh' eY a b=>hR h' eY a λc o n1 n2 q=>b c o n1 n2 (sb.extBut _ _ n1 (ib.extBut _ _ n2 q))
theorem gY_{K:Type}[DecidableEq K]{knd:PySem.KeyKind prog w K}(h:Heap)(led:Bool):Heap.SetOf knd (h.push { cls:=.type "set",data:=.set #[] 0 (SetTable.fresh 0 0 led) }) h.objs.size (λ_=>false) 0:=
 #[_,#[],0,_,dI _ Z,#[Z,Z,Z],Z,λe he=>by simp at he,λk=>by simp,by decide,by cases led<;>decide,Z]
theorem jM{K:Type}[DecidableEq K]{knd:PySem.KeyKind prog w K}{E:Aa->Ab->Prop}{s:Ab}{ss:List K}{Q:Aa->Ab->Prop}(hh:A.handled=none)(ho:s.heap.get? l=some (seqObj "list" its.toArray n))(nd:ss.Nodup)(pH:Paired (λv x=>knd.is x v=true/\v.scannable=true) its ss)(hz:ss.length<=1000)(h:∀h' eY,Heap.SetOf knd h' s.heap.objs.size (λk=>decide (k∈ss)) ss.length->(∀b o,s.heap.get? b=some o->h'.get? b=some o)->Q (.ref s.heap.objs.size) { s with heap:=h',toks:=eY }) :
  wpAny (model prog w) A (call (.type "set") [.ref l]) Q E s:=by
 refine wpAny_call (codeAny_of_tree ?_);refine aQ #[Code.quiet_builtin _ Z0,codeAny_builtin entry_typeCall ?_];unfold Builtin.«type.__call__»;refine i7 Z ?_;refine i7 F.called_set.canCreate ?_;refine aj (wpAny_of_eq (F.typeCall_set_1 _) ?_);obtain⟨c,tl,zf⟩:=F.called_set.mro;refine aj (wpAny_of_eq zf (i7 Z ?_));refine aj (wpAny_of_eq F.called_set.made (aj (aQ ?_)));refine aj (gO (wpAny_call (code_set_new_1 _ λled=>?_)));have gA:=gY_ (knd:=knd) s.heap led;have eB:(s.heap.push { cls:=.type "set",data:=.set #[] 0 (SetTable.fresh 0 0 led) }).get? l=some (seqObj "list" its.toArray n):=bH _ ho;have ib:(s.heap.push { cls:=.type "set",data:=.set #[] 0 (SetTable.fresh 0 0 led) }).get? s.heap.objs.size=some { cls:=.type "set",data:=.set #[] 0 (SetTable.fresh 0 0 led) }:=dI _ Z;have sz:(s.heap.push { cls:=.type "set",data:=.set #[] 0 (SetTable.fresh 0 0 led) }).objs.size=s.heap.objs.size+1:=Heap.size_push ..;have all:∀b o,s.heap.get? b=some o->(s.heap.push { cls:=.type "set",data:=.set #[] 0 (SetTable.fresh 0 0 led) }).get? b=some o:=λb o q=>bH _ q;generalize s.heap.push { cls:=.type "set",data:=.set #[] 0 (SetTable.fresh 0 0 led) }=h1 at *;have hT:∀t,Shared.TypeIs { s with heap:=h1,toks:=t } (.ref s.heap.objs.size) "set":=λt=>#[_,ib,Z];refine aj (wpAny_isInstance (hT _) F.called_set.sub (i7 Z (aj (gO ?_))));unfold callSpecial?;refine aj (wpAny_specialOf (hT _) F.slot_set_init.lookup ?_);refine gO (aj (wpAny_of_eq (F.slot_set_init.bind _) ?_));refine aj (wpAny_call (codeAny_call_builtin F.slot_set_init.plain F.entry_set_init (check_set_init_1 (hT _) ?_)));unfold Builtin.«set.__init__»;refine aj (wpAny_ite_true Z (aQ ?_));refine aj ?_;unfold typeNameOfCut;refine aj ?_;unfold shownTypeOf;refine aj (wpAny_typeOf (T:="set") (hT _) ?_);refine i7 Z (aQ (aQ ?_));refine aj (wpAny_of_eq (show checkCount _ 0 1 1=pure () from Z) ?_);refine aj (aQ (aj ?_));unfold setUsed setState;refine aj (aj (wpAny_load ib ?_));refine i7 (by cases led<;>rfl) (aQ (aQ ?_))
 refine i7 (by cases led<;>rfl) ?_
 refine (show wpAny _ _ (Builtin.Frozenset.updateFrom "set.__init__" s.heap.objs.size (.ref l) >>= λ_=>ret Value.none) _ _ _ from aj ?_);unfold Builtin.Frozenset.updateFrom Builtin.Frozenset.isAnySet;have tl:∀t,Shared.TypeIs { s with heap:=h1,toks:=t } (.ref l) "list":=λt=>#[_,eB,Z];refine aj ?_;unfold orM;refine aj (wpAny_isInstance (tl _) (b:=false) (by kernel_rfl) ?_);refine (show wpAny _ _ (isInstance (.ref l) (.type "frozenset")) _ _ _ from wpAny_isInstance (tl _) (b:=false) (by kernel_rfl) ?_);refine i7 Z (aj (wpAny_typeOf (T:="list") (tl _) (i7 Z ?_)));refine aj (wpAny_pyIter_list #[_,eB,Z,_,Z] ?_);refine aj (wpAny_runValue ?_);have lz:l<s.heap.objs.size:=bN ho;refine XF (knd:=knd) (its:=its) (ss:=ss) (it:=h1.objs.size) (l:=l) (S:=s.heap.objs.size) (dc (by rw[sz];exact Nat.lt_succ_of_lt lz)) (dc (by rw[sz];exact Nat.lt_succ_self _)) (pY lz) (by exact hh) nd pH hz its 0 { s with heap:=h1.push { cls:=Value.type "list_iterator",data:=Data.fields (List.toArray [Value.ref l,Value.int 0 0]) } } _ Z (fB _) #[_,dI _ Z,Z,Z] #[_,bH _ eB,Z,_,Z] (LW (by simpa using gA) λo q=>bH _ q) λh' eY j8 kp=>?_;refine aQ (aQ (aQ ?_));refine (show wpAny _ _ (ret (Value.ref s.heap.objs.size)) _ _ _ from aQ (h h' eY j8 λb o q=>?_));have bl:b<s.heap.objs.size:=bN q;exact kp b o (dc bl) (dc (by rw[sz];exact Nat.lt_succ_of_lt bl)) (bH _ (all b o q))
end vR
namespace L2
open PySem PySem.Spec PySem.Calls PyProof.Rows PySem.W vR
theorem Q6{prog:Ad}{w:Af}:∀{ss:List Str} {its:List Aa},Vals (ss.map V.str) its->Paired (λv x=>(PySem.strKind prog w).is x v=true/\v.scannable=true) its ss
 |[],its,h=>by
  rw[List.map_nil] at h;cases h;exact .nil
 |x::ss,its,h=>by
  rw[dN] at h;cases h with
  |cons a r=>
   obtain⟨t,rfl⟩:=a;exact .cons #[by rw[PySem.strKind_is],Z] (Q6 r)
inductive RL (Q:VK) (x:V) (H1:Hp):Prop
 |mk:∀(l:Addr) (ss:List Str),x=.ref l->H1 l=some (.lst (ss.map V.str))->ss.Nodup->ss.length<=1000->Q (.int ss.length) H1->RL Q x H1
def uv(te:TE):TE:=λσ H Q=>te σ H λx H1=>RL Q x H1
theorem RF{X:Cx}{e:Expr}{te:TE}{p1 p2 lW fF:Pos}(gL:Gl X "len")(mL:X.mg "len"=none)(gS:Gl X "set")(mS:X.mg "set"=none)(he:PE X e te)(hc:X.calm=true:=by rfl)
  (h1:starEach [e] X.env=(false,eval e X.env)::starEach [] X.env:=by rfl) (h2:starEach [.Call (.Name "set" p2) [e] [] fF] X.env=(false,eval (.Call (.Name "set" p2) [e] [] fF) X.env)::starEach [] X.env:=by rfl)
  (h3:(backTo lW (starEach [] X.env)).any (·.1)=false:=by rfl) (h4:(backTo fF (starEach [] X.env)).any (·.1)=false:=by rfl):PE X (.Call (.Name "len" p1) [.Call (.Name "set" p2) [e] [] fF] [] lW) (uv te):=by
 intro pins s σ H Q I h;refine tO (tZ I gL mL gP ?_ (by decide) (by decide));refine PyProof.Rows.callWith_builtin1 ?_ h2 h3;rw[h2];show wpAny _ _ (spliced ((false,eval (.Call (.Name "set" p2) [e] [] fF) X.env)::backTo lW (starEach [] X.env))) _ _ s;refine Calls.spliced_cons ?_;refine tO (tZ I gS mS PyProof.Rows.Boot.«set» ?_ (by decide) (by decide));refine PyProof.Rows.callWith_type1 ?_ h1 h4;rw[h1];show wpAny _ _ (spliced ((false,eval e X.env)::backTo fF (starEach [] X.env))) _ _ s;refine Calls.spliced_cons (aJ (he pins s σ H _ I h) λu s1 ⟨x,H1,I1,r1,l,ss,ex,hl,nd,len,q⟩=>Calls.spliced_nil ?_);subst ex;cases r1;obtain⟨z,its,n,r,hlen,e'⟩:=I1.iD hl;refine vR.jM (knd:=PySem.strKind X.prog X.w) (I1.ok.hd hc) e' nd (Q6 r) len λh' eY hs kp=>?_;refine Calls.spliced_nil ?_;obtain⟨o,es,ep,t,ho,ex,hd,_,_,_,fit,hn⟩:=hs;refine PySem.call_len_set ho ex hd fit Z1 ?_;rw[hn];exact#[.int _,H1,(I1.kept (t':=eY) kp).tok _,#[_,Z],q]
end L2
namespace Ev
open PySem L2
theorem XU{rs:List Xb}{t:Str × Str}(h:∀r∈rs,r.Pairwise λu v=>hit v u=false):∀r∈iI rs t,r.Pairwise λu v=>hit v u=false:=by
 intro r hr;unfold iI at hr;split at hr
 ·rename_i cb
  rcases List.mem_or_eq_of_mem_set hr with m|rfl
  ·exact h r m
  ·rw[List.pairwise_append];refine#[h _ (ku cb),List.pairwise_singleton ..,λu hu v hv=>?_];obtain rfl:v=t:=by simpa using hv
   have:=@List.findIdx_getElem _ (λr:Xb=>!r.any (hit v)) rs cb;have this:(!(rs[eR rs v].any (hit v)))=true:=this;have this:rs[eR rs v].any (hit v)=false:=by simpa using this
   have:=List.any_eq_false.mp this u hu;simpa using this
 ·rcases eK.mp hr with m|m
  ·exact h r m
  ·obtain rfl:r=[t]:=by simpa using m
   exact List.pairwise_singleton ..
theorem QZ:∀(ts:Xb) (rs:List Xb),(∀r∈rs,r.Pairwise λu v=>hit v u=false)->∀r∈ts.foldl iI rs,r.Pairwise λu v=>hit v u=false
 |[],rs,h=>h
 |t::ts,rs,h=>by
  rw[List.foldl_cons];exact QZ ts _ (XU h)
theorem fQ_(ts:Xb)(m:Int):(i6 ts m).Pairwise λu v=>hit v u=false:=by
 unfold i6;cases e:(turnsOf (aK ts))[(m % ((turnsOf (aK ts)).length:Int)).toNat]? with
 |none=>exact .nil
 |some r=>exact QZ (aK ts) [] Z2 r (cn e)
variable{gd:Str}
theorem Pm{a b:Int}(h:oZ gd a b=true)(hb:1<=b):0<a:=by
 unfold oZ at h;split at h
 ·simpa using h
 ·split at h
  ·have:b<2 * a:=by simpa using h
   omega
  ·have:b<=a:=by simpa using h
   omega
variable{b:Str}{m:Mv}{hs:Xa}{ts:Xb}{qs:List Pc}{f:Str->Str}
theorem Ld(W:Wd hs ts qs f)(hw:∀n∈qs.map (·.1),1<=fN qs n){a:Str}(ha:a∈aA hs)(hb:b∈aA hs)(h:m∈gB hs ts qs f gd [] a b):m.2=(a,b)/\0<gI hs qs f a b:=by
 unfold gB at h;cases e:(dR qs f a).find? (pK hs ts qs f gd [] a b) with
 |none=>rw[e] at h;cases h
 |some n=>
  rw[e] at h;obtain rfl:m=(n,a,b):=by simpa using h
  refine#[Z,?_];have p:=List.find?_some e;unfold pK at p;have p:=(Bool.and_eq_true_iff.mp (Bool.and_eq_true_iff.mp p).2).1;have n1:=hw n (EO (List.mem_of_find?_eq_some e)).1;have h1:=cu W.Gd ha;have h2:=cu W.Gd hb;have j:1<=iK hs a b:=by unfold iK;omega
  refine Pm p ?_;have:=Int.mul_le_mul n1 j (by decide) Z1;omega
theorem _d(a b:Str):gI hs qs f b a=-(gI hs qs f a b):=by
 unfold gI;omega
variable{u:Str × Str}
theorem Z6(W:Wd hs ts qs f)(hw:∀n∈qs.map (·.1),1<=fN qs n)(h1:u.1∈aA hs)(h2:u.2∈aA hs):pb hs ts qs f gd u=[]∨∃m:Mv,pb hs ts qs f gd u=[m]/\(m.2=u∨m.2=(u.2,u.1)):=by
 unfold pb;have l1:=pS hs ts qs f gd [] u.1 u.2;have l2:=pS hs ts qs f gd [] u.2 u.1;cases e1:gB hs ts qs f gd [] u.1 u.2 with
 |nil=>
  cases e2:gB hs ts qs f gd [] u.2 u.1 with
  |nil=>exact .inl Z
  |cons m r=>
   rw[e2,hX] at l2;obtain rfl:r=[]:=List.length_eq_zero_iff.mp Z1;exact .inr #[m,Z,.inr (Ld W hw h2 h1 (by rw[e2];exact dO)).1]
 |cons m r=>
  rw[e1,hX] at l1;obtain rfl:r=[]:=List.length_eq_zero_iff.mp Z1;obtain⟨q1,q2⟩:=Ld W hw h1 h2 (show m∈gB hs ts qs f gd [] u.1 u.2 by rw[e1];exact dO);cases e2:gB hs ts qs f gd [] u.2 u.1 with
  |nil=>exact .inr #[m,Z,.inl q1]
  |cons m' r'=>
   have q3:=(Ld W hw h2 h1 (show m'∈gB hs ts qs f gd [] u.2 u.1 by rw[e2];exact dO)).2;rw[_d] at q3;omega
def apart(m m':Mv):Prop:=m.2.1≠m'.2.1/\m.2.1≠m'.2.2/\m.2.2≠m'.2.1/\m.2.2≠m'.2.2
theorem SR(W:Wd hs ts qs f)(hw:∀n∈qs.map (·.1),1<=fN qs n){gd:Str}:∀{r:Xb},(∀u∈r,u.1∈aA hs/\u.2∈aA hs/\u.1≠u.2)->(r.Pairwise λu v=>hit v u=false)->(r.flatMap (pb hs ts qs f gd)).Pairwise apart/\∀m∈r.flatMap (pb hs ts qs f gd),m.2.1≠m.2.2/\∃u∈r,m.2=u∨m.2=(u.2,u.1)
 |[],_,_=>#[.nil,λm hm=>by cases hm]
 |u::r,pM,pw=>by
  obtain⟨p1,p2⟩:=List.pairwise_cons.mp pw;obtain⟨h1,h2,h3⟩:=pM u dO;obtain⟨i1,i2⟩:=SR W hw (gd:=gd) (λv hv=>pM v (dP _ hv)) p2;rw[vL]
  have up:∀m∈r.flatMap (pb hs ts qs f gd),m.2.1≠m.2.2/\∃v∈u::r,m.2=v∨m.2=(v.2,v.1):=λm hm=>by
   obtain⟨q1,v,hv,q2⟩:=i2 m hm;exact#[q1,v,dP _ hv,q2]
  rcases Z6 W hw (gd:=gd) h1 h2 with e|⟨m,e,hm⟩
  ·rw[e,List.nil_append];exact#[i1,up]
  ·rw[e,List.singleton_append,List.pairwise_cons];refine#[#[λm' hm'=>?_,i1],λm' hm'=>?_]
   ·obtain⟨_,v,hv,q⟩:=i2 m' hm';have hh:=p1 v hv;unfold hit at hh;simp only[Bool.or_eq_false_iff,zX] at hh;obtain⟨⟨a1,a2⟩,a3,a4⟩:=hh;unfold apart;rcases hm with hm|hm<;>rcases q with q|q<;>rw[hm,q]
    ·exact#[a1,a3,a2,a4]
    ·exact#[a3,a1,a4,a2]
    ·exact#[a2,a4,a1,a3]
    ·exact#[a4,a2,a3,a1]
   ·rcases bO.mp hm' with rfl|hm'
    ·refine#[?_,u,dO,hm];rcases hm with hm|hm<;>rw[hm]
     ·exact h3
     ·exact λz=>h3 z.symm
    ·exact up m' hm'
variable{M:List Mv}
theorem WH(h:M.Pairwise apart)(hd:∀m∈M,m.2.1≠m.2.2):(M.map (·.2.1)++M.map (·.2.2)).Nodup:=by
 rw[xy];refine#[?_,?_,?_]
 ·rw[pW,mM];exact h.imp λq=>q.1
 ·rw[pW,mM];exact h.imp λq=>q.2.2.2
 ·intro x hx y hy;obtain⟨m,hm,rfl⟩:=a_.mp hx;obtain⟨m',hm',rfl⟩:=a_.mp hy
  have key:∀{L:List Mv},L.Pairwise apart->(∀m∈L,m.2.1≠m.2.2)->∀m∈L,∀m'∈L,m.2.1≠m'.2.2:=by
   intro L
   induction L with
   |nil=>intro _ _ m hm;cases hm
   |cons a l ih=>
    intro pw hd m hm m' hm';obtain⟨p1,p2⟩:=List.pairwise_cons.mp pw;rcases bO.mp hm with e|hm1
    ·rcases bO.mp hm' with e'|hm1'
     ·rw[e,e'];exact hd _ dO
     ·rw[e];exact (p1 m' hm1').2.1
    ·rcases bO.mp hm' with e'|hm1'
     ·rw[e'];exact λz=>(p1 m hm1).2.2.1 z.symm
     ·exact ih p2 (λx hx=>hd x (dP _ hx)) m hm1 m' hm1'
  exact key h hd m hm m' hm'
theorem Wv(G:Good hs ts)(h:u∈aK ts):u.1≠u.2:=by
 have k:kT u∈(aK ts).map kT:=a_.mpr #[u,h,Z];rw[E7,(ko _).mem_iff] at k;obtain⟨t,ht,e⟩:=a_.mp k;have e:=Ah e;have ne:=(G.tok t ht).2.2;rw[<- e];unfold aH;split
 ·exact ne
 ·exact λz=>ne z.symm
theorem hJ_(W:Wd hs ts qs f)(hw:∀n∈qs.map (·.1),1<=fN qs n)(gd:Str)(m:Int):((vC hs ts qs f gd m).map (·.2.1)++(vC hs ts qs f gd m).map (·.2.2)).Nodup:=by
 obtain⟨h1,h2⟩:=SR W hw (gd:=gd) (r:=i6 ts m) (λu hu=>#[(G0 W.Gd (E1 hu)).1,(G0 W.Gd (E1 hu)).2,Wv W.Gd (E1 hu)]) (fQ_ ts m);exact WH h1 λm hm=>(h2 m hm).1
structure BI (hs:Xa) (ts:Xb) (qs:List Pc) (f:Str->Str) (m:Mv):Prop where
 n:m.1∈qs.map (·.1)
 a:f m.1=m.2.1
 may:fV hs ts qs m.1 m.2.1 m.2.2=true
 ld:0<gI hs qs f m.2.1 m.2.2
variable{a:Str}
theorem F_(W:Wd hs ts qs f)(hw:∀n∈qs.map (·.1),1<=fN qs n){gv:List Str}(ha:a∈aA hs)(hb:b∈aA hs)(h:m∈gB hs ts qs f gd gv a b):m.2=(a,b)/\m.1∉gv/\BI hs ts qs f m:=by
 unfold gB at h;split at h
 ·rename_i n e
  have hm:=pf.mp h;have hp:=List.find?_some e;have hn:=List.mem_of_find?_eq_some e;obtain⟨n1,n2⟩:=EO hn;unfold pK at hp;simp only[iR,Bool.not_eq_true',zX] at hp;obtain⟨h1,h2,h3⟩:=hp;subst hm;refine#[Z,h1,#[n1,n2,h3,Pm h2 ?_]];have w1:=hw n n1;have s1:=(cu W.Gd ha).1;have s2:=(cu W.Gd hb).1;unfold iK;have:1 * 1<=fN qs n * (strOf hs a+strOf hs b):=Int.mul_le_mul w1 Z1 (by decide) Z1;omega
 ·cases h
theorem Pd{α β:Type}{l:List α}(g:α->β)(h:(l.map g).Nodup):l.Nodup:=(mM.mp h).imp λq e=>q (by rw[e])
theorem F2{α:Type}{l:List α}(h:l.length<=1):l.Nodup:=by
 match l,h with
 |[],_=>simp
 |[a],_=>simp
structure f_ (hs:Xa) (ts:Xb) (qs:List Pc) (f:Str->Str) (h:Str) (ms:List Mv):Prop where
 fr:∀m∈ms,m.2.1=h/\BI hs ts qs f m
 nd:(ms.map (·.1)).Nodup
theorem Y0(W:Wd hs ts qs f)(a:Str):(dR qs f a).Nodup:=((EX qs).nodup_iff.mpr W.nd).filter _
theorem QG{h:Str}{ms ns:List Mv}(A:f_ hs ts qs f h ms)(B:f_ hs ts qs f h ns)(d:∀m∈ns,m.1∉ms.map (·.1)):f_ hs ts qs f h (ms++ns):=#[λm hm=>(eK.mp hm).elim (A.fr m) (B.fr m),by
 rw[bX];refine xy.mpr #[A.nd,B.nd,λx hx y hy e=>?_];obtain⟨m,hm,rfl⟩:=a_.mp hy;exact d m hm (e▸hx)]
theorem QA(W:Wd hs ts qs f)(hw:∀n∈qs.map (·.1),1<=fN qs n){gv:List Str}(ha:a∈aA hs)(hb:b∈aA hs):f_ hs ts qs f a (gB hs ts qs f gd gv a b):=#[λm hm=>by
 obtain⟨e,_,g⟩:=F_ W hw ha hb hm;exact#[by rw[e],g],F2 (by rw[aq];exact pS ..)]
theorem KZ(W:Wd hs ts qs f)(hw:∀n∈qs.map (·.1),1<=fN qs n){gd h:Str}(hh:h∈aA hs):∀{l:List Str} {ms:List Mv},(∀o∈l,o∈aA hs)->l.Nodup->f_ hs ts qs f h ms->(ms.map (·.2)).Nodup->(∀m∈ms,m.2.2∉l)->f_ hs ts qs f h (pR hs ts qs f gd h ms l)/\((pR hs ts qs f gd h ms l).map (·.2)).Nodup
 |[],ms,_,_,R,nd,_=>#[R,nd]
 |o::l,ms,hl,nl,R,nd,dj=>by
  unfold pR;obtain⟨no,nl⟩:=pe.mp nl;split
  ·have ho:=hl o Z2;have g:=λm hm=>F_ (gd:=gd) (gv:=ms.map (·.1)) W hw hh ho (m:=m) hm;refine KZ W hw hh (λx hx=>hl x (by simp[hx])) nl (QG R (QA W hw hh ho) λm hm=>(g m hm).2.1) ?_ λm hm=>?_
   ·rw[bX];refine xy.mpr #[nd,?_,λx hx y hy e=>?_]
    ·exact F2 (by rw[aq];exact pS ..)
    ·obtain⟨m,hm,rfl⟩:=a_.mp hy;obtain⟨m',hm',rfl⟩:=a_.mp hx;refine dj m' hm' ?_;rw[e,(g m hm).1];simp
   ·rcases eK.mp hm with z|z
    ·exact λq=>dj m z (by simp[q])
    ·rw[(g m z).1];exact no
  ·exact KZ W hw hh (λx hx=>hl x (by simp[hx])) nl R nd λm hm q=>dj m hm (by simp[q])
theorem KR(wt:Str->Int)(ok:Str->Bool):∀(l:Int) (ns:List Str),∀n∈qB wt ok l ns,ok n=true
 |_,[],n,h=>by cases h
 |l,x::ns,n,h=>by
  unfold qB at h;split at h
  ·rename_i c
   rcases bO.mp h with z|z
   ·rw[z];simp only[iR] at c;exact c.1
   ·exact KR wt ok _ ns n z
  ·exact KR wt ok l ns n h
theorem K4(W:Wd hs ts qs f){h:Str}:∀{l:List Str} {ms:List Mv},f_ hs ts qs f h ms->f_ hs ts qs f h (sM hs ts qs f h ms l)
 |[],ms,R=>R
 |o::l,ms,R=>by
  unfold sM;split
  ·rename_i ld
   have key:∀m∈tE hs ts qs f (ms.map (·.1)) h o,∃n∈dR qs f h,m=(n,h,o)/\fS hs ts qs (ms.map (·.1)) h o n=true:=λm hm=>by
    obtain⟨n,hn,rfl⟩:=a_.mp hm;exact#[n,(EK _ _ _ _).subset hn,Z,KR _ _ _ _ n hn]
   refine K4 W (QG R #[λm hm=>?_,?_] λm hm=>?_)
   ·obtain⟨n,hn,rfl,ok⟩:=key m hm;obtain⟨n1,n2⟩:=EO hn;unfold fS at ok;simp only[iR] at ok;exact#[Z,n1,n2,ok.2,ld]
   ·unfold tE;rw[bK];show ((Cg hs ts qs f (ms.map (·.1)) h o).map λn=>n).Nodup;rw[List.map_id'];exact (Y0 W h).sublist (EK _ _ _ _)
   ·obtain⟨n,hn,rfl,ok⟩:=key m hm;unfold fS at ok;simp only[iR,Bool.not_eq_true',zX] at ok;exact ok.1
  ·exact K4 W R
theorem gq_:∀r∈rl,r.2.1="turns"->¬r.2.2.1="one":=by decide +kernel
theorem GN{β γ:Type}{g:Str->List β}{k:β->γ}:∀{L:List Str},L.Nodup->(∀h∈L,((g h).map k).Nodup)->(∀h∈L,∀h'∈L,h≠h'->∀x∈g h,∀y∈g h',k x≠k y)->((L.flatMap g).map k).Nodup
 |[],_,_,_=>by simp
 |h::L,nd,a,b=>by
  obtain⟨n1,n2⟩:=pe.mp nd;rw[vL,bX];refine xy.mpr #[a h Z2,GN n2 (λx hx=>a x (by simp[hx])) (λx hx y hy=>b x (by simp[hx]) y (by simp[hy])),λx hx y hy e=>?_];obtain⟨m,hm,rfl⟩:=a_.mp hx;obtain⟨m',hm',rfl⟩:=a_.mp hy;obtain⟨h',oj,hm'⟩:=List.mem_flatMap.mp hm';exact b h Z2 h' (by simp[oj]) (λz=>n1 (z▸oj)) m hm m' hm' e
structure xk (r:Rl) (hs:Xa) (ts:Xb) (qs:List Pc) (f:Str->Str) (M:List Mv):Prop where
 all:∀m∈M,BI hs ts qs f m
 nd:(M.map (·.1)).Nodup
 pr:r.2.1≠"shares"->(M.map (·.2)).Nodup
 gv:r.2.1="least"->(M.map (·.2.1)).Nodup
variable{r:Rl}
theorem xk.sub{N:List Mv}(h:xk r hs ts qs f M)(s:N.Sublist M):xk r hs ts qs f N:=#[λm hm=>h.all m (s.subset hm),h.nd.sublist (s.map _),λe=>(h.pr e).sublist (s.map _),λe=>(h.gv e).sublist (s.map _)]
theorem Lc(W:Wd hs ts qs f){g:Str->List Mv}(R:∀h∈aA hs,f_ hs ts qs f h (g h))(p:r.2.1≠"shares"->∀h∈aA hs,((g h).map (·.2)).Nodup)(o:r.2.1="least"->∀h∈aA hs,(g h).length<=1):xk r hs ts qs f ((aA hs).flatMap g):=by
 have nn:=W.Gd.iB;refine#[λm hm=>?_,GN nn (λh hh=>(R h hh).nd) λh hh h' oj ne x hx y hy e=>?_,λe=>GN nn (p e) λh hh h' oj ne x hx y hy e=>?_,λe=>GN nn (λh hh=>F2 (by rw[aq];exact o e h hh)) λh hh h' oj ne x hx y hy e=>?_]
 ·obtain⟨h,hh,hm⟩:=List.mem_flatMap.mp hm;exact ((R h hh).fr m hm).2
 ·obtain⟨a1,a2⟩:=(R h hh).fr x hx;obtain⟨b1,b2⟩:=(R h' oj).fr y hy;exact ne (by rw[<- a1,<- b1,<- a2.a,<- b2.a,e])
 ·exact ne (by rw[<- ((R h hh).fr x hx).1,<- ((R h' oj).fr y hy).1,e])
 ·exact ne (by rw[<- ((R h hh).fr x hx).1,<- ((R h' oj).fr y hy).1];exact e)
theorem O1(W:Wd hs ts qs f)(hw:∀n∈qs.map (·.1),1<=fN qs n){m:Int}{x:Mv}(h:x∈vC hs ts qs f gd m):BI hs ts qs f x:=by
 obtain⟨t,ht,hx⟩:=List.mem_flatMap.mp h;obtain⟨t1,t2⟩:=G0 W.Gd (E1 ht);unfold pb at hx;rcases eK.mp hx with z|z
 ·exact (F_ W hw t1 t2 z).2.2
 ·exact (F_ W hw t2 t1 z).2.2
theorem WJ(hr:r∈rl)(W:Wd hs ts qs f)(hw:∀n∈qs.map (·.1),1<=fN qs n)(m:Int):xk r hs ts qs f (yK r hs ts qs f m)/\(r.2.2.1="one"->(yK r hs ts qs f m).length<2):=by
 have IX:∀{h},h∈aA hs->(∀o∈cO hs ts qs f h,o∈aA hs)/\(cO hs ts qs f h).Nodup:=λ{h} hh=>#[λo ho=>Ea ((E6 hs ts qs f h).mem_iff.mp ho),(E6 hs ts qs f h).nodup_iff.mpr (W.Gd.iB.filter _)];unfold yK;by_cases c:r.2.1="turns"
 ·rw[aC c];have nd:=hJ_ W hw (r.2.2.2.getD "") m;have n1:=(xy.mp nd).1;refine#[#[λx hx=>O1 W hw hx,?_,λ_=>?_,λ_=>n1],λz=>absurd z ?_]
  ·refine Pd f ?_;rw[bK,show (vC hs ts qs f (r.2.2.2.getD "") m).map (f ∘ λx=>x.1)=(vC hs ts qs f (r.2.2.2.getD "") m).map (·.2.1) from pA λx hx=>(O1 W hw hx).a];exact n1
  ·refine Pd (·.1) ?_;rw[bK];exact n1
  ·exact gq_ r hr c
 ·rw[ao c]
  have full:xk r hs ts qs f ((aA hs).flatMap (oF r hs ts qs f)):=by
   by_cases c1:r.2.1="least"
   ·have key:∀h∈aA hs,f_ hs ts qs f h (oF r hs ts qs f h)/\(oF r hs ts qs f h).length<=1:=λh hh=>by
     rw[RB c1];show f_ hs ts qs f h (vD hs ts qs f (r.2.2.2.getD "") h)/\(vD hs ts qs f (r.2.2.2.getD "") h).length<=1;unfold vD;have:=(IX hh).1;split
     ·exact#[#[λm hm=>(by cases hm),by simp],by simp]
     ·rename_i o _ e
      rw[e] at this;exact#[QA W hw hh (this o Z2),pS ..]
    exact Lc W (λh hh=>(key h hh).1) (λ_ h hh=>F2 (by rw[aq];exact (key h hh).2)) λ_ h hh=>(key h hh).2
   ·by_cases c2:r.2.1="below"
    ·have key:∀h∈aA hs,f_ hs ts qs f h (oF r hs ts qs f h)/\((oF r hs ts qs f h).map (·.2)).Nodup:=λh hh=>by
      rw[Sq c2];exact KZ W hw hh (IX hh).1 (IX hh).2 #[λm hm=>(by cases hm),by simp] Z2 λm hm=>by cases hm
     exact Lc W (λh hh=>(key h hh).1) (λ_ h hh=>(key h hh).2) λz=>absurd z c1
    ·have c3:=Pz r hr c c1 c2;refine Lc W (λh hh=>?_) (λz=>absurd c3 z) λz=>absurd z c1;rw[R9 c3];exact K4 W #[λm hm=>(by cases hm),by simp]
  unfold Er;by_cases c4:r.2.2.1="one"
  ·rw[aC c4];exact#[full.sub (List.take_sublist _ _),λ_=>by rw[cj];omega]
  ·rw[ao c4];exact#[full,λz=>absurd z c4]
end Ev
namespace L2
open PySem PySem.Spec PyProof.Rows PySem.W
theorem ZW{K:ag}{a:Addr}{xs:List V}{g:TG}{tc:TT}{te:TE}{own:Nat}{fv:List (Option V)}{dec:V->Hp->List (Option V)->Prop}{D:Addr}{H:Hp}{Q:VK}{kA:St}(se:kA=List.replicate own none++fv)(G:AD g own fv dec)(Pv:Nat->List V->Hp->Prop)
  (h0:Pv 0 [] (upd H D (.lst []))) (hl:∀i out H',i<=xs.length->Pv i out H'->fe K H' a xs) (hd:∀out H',Pv xs.length out H'->Q (.ref D) H')
  (zo:∀i x out H',xs[i]? = some x->Pv i out H'->∃o3,dec x H' o3/\o3.length=own/\∀Nx:Hp->Prop,(∀iA H2,Pv (i+1) iA H2->Nx H2)->
   tc (o3++fv) H' λb H4=>if b=true then te (o3++fv) H4 λy H5=>∃eh,H5 D=some (.lst eh)/\eh.length<sizeLine/\Nx (upd H5 D (.lst (eh++[y]))) else Nx H4) :
  zU (NF K a) g tc te kA D H Q:=by
 refine xw se G xs.length Pv h0 (λout H' p=>#[#[xs,hl _ _ _ (aZ _) p,aZ _],hd out H' p]) λi out H' hi p=>?_;have q:=hl i out H' (Nat.le_of_lt hi) p;refine#[#[xs,xs[i],q,by simp[hi]],λx H2 y=>?_];obtain⟨e,y⟩:=y;subst e;exact zo i x out _ (y xs q) p
end L2
namespace Ev
open PySem L2
variable{i:Nat}
theorem Fb{α:Type}{xs:List α}{x:α}(h:xs[i]? = some x):xs.take (i+1)=xs.take i++[x]:=by rw[hV,h];rfl
def oR(f:Str->Str)(m:Mv):Str->Str:=λn=>if n=m.1 then m.2.2 else f n
def gE(f:Str->Str)(ms:List Mv):Str->Str:=ms.foldl oR f
theorem P2{n:Str}:∀{ms:List Mv} {f:Str->Str},n∉ms.map (·.1)->gE f ms n=f n
 |[],_,_=>rfl
 |m::ms,f,h=>by
  show gE (oR f m) ms n=f n;rw[P2 (λz=>h (by simp[z]))];unfold oR;rw[ao (λz=>h (by simp[z]))]
theorem Sw(f:Str->Str)(a:List Mv)(m:Mv):gE f (a++[m])=oR (gE f a) m:=by
 unfold gE;rw[List.foldl_append];rfl
theorem Q9{ns:List Str}{f:Str->Str}{m:Mv}(h:m.1∈ns):putK (dE ns f) (Sum.inr m.1) (.str m.2.2)=dE ns (oR f m):=by
 unfold dE;rw[K7 h];refine Bu λn _=>?_;unfold oR;by_cases z:n=m.1
 ·rw[aC z,aC z]
 ·rw[ao z,ao z]
theorem DE{H:Hp}{p:Addr}{m:Mv}(h:H p=some (.tup ((kM m).map kV))):H p=some (.tup [.str m.1,.str m.2.1,.str m.2.2]):=h
section
variable{P:Ad}{w:Af}{K:ag}{mg:Str->Option Aa}{base:Heap}
theorem uA:bh ["thing"] ["thing"] (aU lE):=bu
inductive LB (vs:List V) (H:Hp) (Q:VK) (E:XK):Prop
 |mk:∀(p:Addr) (a b c:Str),vs=[.ref p]->H p=some (.tup [.str a,.str b,.str c])->(∀H',aa H H'->Q (.bl true) H')->LB vs H Q E
theorem ZF{f:Addr}{fd:Ae}(F:a9 K "is_of_three_texts" "is_of_three_texts" lE f fd)(B:Bi mg):ai P w K mg base aR 1 f fd ["thing"] LB:=by
 refine F.bt uA λaL A outer s H vs Q E hr h=>?_
 ·obtain⟨p,a,b,c,rfl,hp,k⟩:=h;have sz:=bU;refine' #[_,?r0,?kk]
  case' r0=>refine' au ?s1 (aI ?s2)
  case s1=>exact bC (tL (eI (dZ (cK jW (by rfl) B.iW ja (ae (pv 0) (ae (jV (v:=.ty "tuple") (by rfl) B.tuple G4 Z) af)))))
    (tW (cU oA (cK jU (by rfl) B.len gP (ae (pv 0) af)) aE (ak _)))).pt cq bD
  case s2=>exact ba (cK (Q4 Z) (by rfl) B.all PyProof.Rows.Boot.«all» (ae (iP ["word"] 1 [] (XN (pv 0)) (λfp s H=>fq 0) (λfp s H=>gT) (λfp s H=>cK (xp (K:=K) yA jW) (by rfl) B.iW ja (ae (pv 0) (ae (jV (v:=.ty "str") (by rfl) B.str Bh Z) af)))) af))
  case' kk=>skip
  refine#[_,Z,_,_,_,_,Z,.tup hp,Z,_,Z,aM ?_];refine#[_,Z,p,_,Z,.inr (.of hp),Z,_,Z,?_];refine tQ (show V.int ((3:Nat):Int)=V.int 3 from Z) ?_;refine#[_,Z,p,Z,#[_,.of hp],λD hD=>?_];refine ZW (own:=1) (fv:=[]) (xs:=[.str a,.str b,.str c]) Z eD (λi out H'=>aa H H'/\H' D=some (.lst ((List.replicate i true).map V.bl))) #[aa.new hD,ay] (λi out H' _ ⟨sm,_⟩=>.of (sm _ _ hp)) (λout H5 ⟨sm,w_⟩=>?_) (λi y out H' hy ⟨sm,e_⟩=>?_)
  ·exact#[D,_,Z,.of w_,k _ sm]
  ·have hi:i<3:=(bP.mp hy).1
   have hy:∃x,y=.str x:=by
    match i,hi,hy with
    |0,_,hy=>exact#[a,(dW hy).symm]
    |1,_,hy=>exact#[b,(dW hy).symm]
    |2,_,hy=>exact#[c,(dW hy).symm]
   obtain⟨x,rfl⟩:=hy;refine#[_,Z,Z,λNx hN=>cZ ?_];refine#[_,Z,_,_,_,_,Z,.str x,Z,?_];refine#[_,e_,by rw[aq,sY];omega,hN [] _ #[gh sm hD,?_]];rw[ay,List.replicate_succ',bX];rfl
theorem uH:bh ["goods","placed","move"] ["goods","placed","move"] (aU lO):=bu
inductive Ls (K:ag) (CG CW:Addr) (vs:List V) (H:Hp) (Q:VK) (E:XK):Prop
 |mk:∀(g p d t:Addr) (hs:Xa) (ts:Xb) (qs:List Pc) (fp:List Addr) (ns:List Str) (f:Str->Str) (m:Mv),vs=[.ref g,.ref d,.ref t]->fQ K CG CW H g p hs ts qs fp->(aA hs).Nodup->(qs.map (·.1)).Nodup->H d=some (.dK (dE ns f))->m.1∈ns->m.1∈qs.map (·.1)->H t=some (.tup [.str m.1,.str m.2.1,.str m.2.2])->f m.1=m.2.1->fV hs ts qs m.1 m.2.1 m.2.2=true->(∀H',aa H H'->Q .non H')->Ls K CG CW vs H Q E
theorem h7_{f CG CW CP:Addr}{fd:Ae}(F:a9 K "fault_of" "fault_of" lO f fd)(T:dz K CG)(TW:Txt K mg CW)(c3:bj P w K mg base 1 "is_of_three_texts" ["thing"] LB)(cH:bb P w K mg base CG 1 "has_piece" ["self","thing"] (Bs K CG CW))(cT:bb P w K mg base CW 2 "are_tied" ["self","one","other"] (EB K CW))(cM:bb P w K mg base CG 3 "may_go" ["self","piece","one","other"] (Es K CG CW CP)) :
  ai P w K mg base aR 4 f fd ["goods","placed","move"] (Ls K CG CW):=by
 refine F.bt uH λaL A outer s H vs Q E hr h=>?_
 ·obtain⟨g,p,d,t,hs,ts,qs,fp,ns,f,m,rfl,G,iB,nq,hd,mn,mq,ht,fa,may,k⟩:=h;have hu:=eS hr;have dS:aD 1 _:=hr.mono (by decide);have cz:aD 2 _:=hr.mono (by decide);refine' #[_,au ?s1 (au ?s2 (au ?s3 (au ?s4 (au ?s5 (aI ?s6))))),?kk]
  case s1=>exact bC (eI (dZ (aX c3 dS (ae (pv 2) af)))) cq bD
  case s2=>exact bC (eI (dZ (eG cH T.cl dS (pv 0) (ae (bB cy (pv 2) aE (λ_ _=>rfl)) af)))) cq bD
  case s3=>exact bC (cU oA (eU hu (pv 1) (bB cy (pv 2) aE (λ_ _=>rfl)) (λ_ _=>rfl)) (bB cy (pv 2) aE (λ_ _=>rfl)) (ak _)) cq bD
  case s4=>exact bC (eI (dZ (eG cT TW.cl cz (cX (pv 0) Z) (ae (bB cy (pv 2) aE (λ_ _=>rfl)) (ae (bB cy (pv 2) aE (λ_ _=>rfl)) af))))) cq bD
  case s5=>exact bC (eI (dZ (eG cM T.cl hr (pv 0) (ae (bB cy (pv 2) aE (λ_ _=>rfl)) (ae (bB cy (pv 2) aE (λ_ _=>rfl)) (ae (bB cy (pv 2) aE (λ_ _=>rfl)) af)))))) cq bD
  case s6=>exact ba Gw
  case' kk=>skip
  refine#[_,Z,t,_,_,_,Z,ht,λH1 s1=>#[_,Z,aM ?_]];have G1:=G.same s1;have g_:=s1 _ _ hd;have jB:=s1 _ _ ht;clear G ht hd;obtain⟨dx,dw,dy,vs,bL,h1,h2,h3,h4,h5,m1,m2,m3,m4,m5⟩:=id G1.ex;obtain⟨eL,d1,l2,d3,jb,as,ef,w1,_⟩:=id h2.ex;have j_:(bF p dw dy).lookup ("has_piece":Str)=none:=pV _ _ _ Z0 Z0 Z0;have J8:(bF p dw dy).lookup ("may_go":Str)=none:=pV _ _ _ Z0 Z0 Z0;have fW:(bQ d1 l2 d3).lookup ("are_tied":Str)=none:=ik _ _ _ Z0 Z0 Z0;refine#[_,Z,g,dx,_,Z,h1,j_,_,Z,t,_,0,_,Z,Z,.of jB,Z,g,p,.str m.1,some m.1,hs,ts,qs,fp,Z,G1,Z,_,Z,?_];rw[show AR (qs.map (·.1)) (some m.1)=true from bW mq];refine aM ?_;refine#[_,Z,_,Z,t,_,0,_,Z,Z,.of jB,Z,d,.str (f m.1),Z,?_,_,Z,t,_,1,_,Z,Z,.of jB,Z,Z,_,Z,?_]
  ·rw[<- Ar (g:=λn=>V.str (f n)) mn];exact .k (k:=Sum.inr m.1) g_
  refine tQ (by rw[fa]) ?_
  have tb:zP hs ts (some m.2.1) (some m.2.2)=true:=by
   unfold fV tK at may;simp only[iR] at may;exact may.1
  refine#[_,Z,g,CG,dx,_,_,Z,h1,T.cl,T.nW,mG _ _ _,p,eL,_,Z,w1,fW,_,Z,t,_,1,_,Z,Z,.of jB,Z,_,Z,t,_,2,_,Z,Z,.of jB,Z,p,.str m.2.1,.str m.2.2,some m.2.1,some m.2.2,hs,ts,bL,Z,h2,iB,Z,Z,_,Z,?_];rw[tb];refine aM ?_;obtain⟨q,hq,eq⟩:=a_.mp mq;refine#[_,Z,g,dx,_,Z,h1,J8,_,Z,t,_,0,_,Z,Z,.of jB,Z,_,Z,t,_,1,_,Z,Z,.of jB,Z,_,Z,t,_,2,_,Z,Z,.of jB,Z,g,p,.str m.1,.str m.2.1,.str m.2.2,some m.1,some m.2.1,some m.2.2,hs,ts,qs,fp,Z,G1,nq,iB,Z,.inl #[q,hq,by rw[eq],Z,Z,λH2 s2=>#[_,Z,?_]]]
  have:tK hs ts q.2.2 (some m.2.1) (some m.2.2)=true:=by
   rw[<- A_ nq hq,eq];exact may
  rw[this];exact aM (k H2 (s1.trans s2))
theorem Fg:bh ["goods","stand","moves","placed","k","move","reason"] ["goods","stand","moves"] (aU L4):=bu
structure AA (K:ag) (CG CW:Addr) (H:Hp) (g p d lm:Addr) (hs:Xa) (ts:Xb) (qs:List Pc) (fp:List Addr) (ns:List Str) (f:Str->Str) (ms:List Mv):Prop where
 S:uf K CG CW H g p d hs ts qs fp ns f
 iB:(aA hs).Nodup
 nq:(qs.map (·.1)).Nodup
 cg:qs.length<64
 row:∃ys,H lm=some (.lst ys)/\aY K H ys (ms.map kM)
 all:∀m∈ms,BI hs ts qs f m
 nd:(ms.map (·.1)).Nodup
inductive Ht (K:ag) (CG CW:Addr) (vs:List V) (H:Hp) (Q:VK) (E:XK):Prop
 |mk:∀(g p d lm:Addr) (hs:Xa) (ts:Xb) (qs:List Pc) (fp:List Addr) (ns:List Str) (f:Str->Str) (ms:List Mv),vs=[.ref g,.ref d,.ref lm]->AA K CG CW H g p d lm hs ts qs fp ns f ms->(∀t d' H',aa H H'->H d'=none->H' t=some (.tup [.str "good",.ref d'])->H' d'=some (.dK (dE (qs.map (·.1)) (gE f ms)))->Q (.ref t) H')->Ht K CG CW vs H Q E
theorem fJ_{f CG CW:Addr}{fd:Ae}(F:a9 K "judged" "judged" L4 f fd)(B:Bi mg)(WC:mg "enumerate"=none)(cS:bj P w K mg base 2 "checked_stand" ["goods","stand"] (Fc K CG CW))(cF:bj P w K mg base 4 "fault_of" ["goods","placed","move"] (Ls K CG CW)):ai P w K mg base aR 5 f fd ["goods","stand","moves"] (Ht K CG CW):=by
 refine F.bt Fg λaL A outer s H vs Q E hr h=>?_
 ·obtain⟨g,p,d,lm,hs,ts,qs,fp,ns,f,ms,rfl,R0,k⟩:=h;have hu:=eS hr;have sz:=bU;have cz:aD 2 _:=hr.mono (by decide);refine' #[_,au ?s1 (au ?s2 (au ?s3 (aI ?s4))),?kk]
  case s1=>exact bg 3 Fg.nd (aX cS cz (ae (pv 0) (ae (pv 1) af)))
  case s2=>exact bC (eI (dZ (cK jW (by rfl) B.iW ja (ae (pv 2) (ae (jV (v:=.ty "list") (by rfl) B.list xv Z) af))))) cq bD
  case' s3=>refine' eV eM Z (K_ (by rfl) WC (ae (pv 2) af)) ?g3 (au ?t1 (au ?t2 (aI ?t3)))
  case g3=>exact jO Z (bY (bV 4 Fg.nd) (bY (bV 5 Fg.nd) gR))
  case t1=>exact bg 6 Fg.nd (aX cF hr (ae (pv 0) (ae (pv 3) (ae (pv 5) af))))
  case t2=>exact bC (vw (Yi (pv 6))) cq bD
  case t3=>exact o7 hu (pv 3) (bB cy (pv 5) aE (λ_ _=>rfl)) (bB cy (pv 5) aE (λ_ _=>rfl)) Z
  case s4=>exact ba (fA (ae dg (ae (pv 3) af)))
  case' kk=>skip
  obtain⟨ys,iF,tu⟩:=R0.row;refine#[_,Z,_,Z,g,p,d,hs,ts,qs,fp,ns,f,Z,R0.S.G,R0.S.oz,R0.S.hd,R0.S.so,R0.nq,R0.cg,λd' H1 s1 A2 g_=>?_];have eB:=s1 _ _ iF;have Fy:=tu.same s1;have G1:=R0.S.G.same s1
  have oz:d'∉fp:=λm=>by
   obtain⟨o,e,_⟩:=R0.S.has _ m;rw[A2] at e;cases e
  have Jx:lm≠d':=bI iF A2;have cg:=R0.cg;refine#[_,Z,_,_,_,_,Z,.lst eB,Z,_,Z,aM ?_];have yN:=bE tu;rw[aq] at yN;refine#[_,Z,lm,Z,#[_,.of eB],Lq (K:=K) (a:=lm) (xs:=ys) (λi σ H'=>∃(v4 v5 v6:Option V),σ=[some (.ref g),some (.ref d),some (.ref lm),some (.ref d'),v4,v5,v6]/\aV d' H1 H'/\H' d'=some (.dK (dE (qs.map (·.1)) (gE f (ms.take i))))) #[none,none,none,Z,aV.refl _ _,g_] (λi σ H' _ ⟨_,_,_,_,b2,_⟩=>.of (b2 _ _ eB Jx)) ?_ ?_]
  ·rintro i y σ H2 hy ⟨v4,v5,v6,rfl,b2,hd2⟩ t ht;obtain⟨m,hm,tm,rfl,gf⟩:=ij Fy hy;have gf:=DE gf;have FC:tm≠d':=bZ gf g_ nofun;obtain⟨s2,e2⟩:=aO (o:=.tup [.int i,.ref tm]) ht;have b3:=b2.trans (aV.of s2);have g9:=s2 _ _ hd2;show hE _ _ _ _ _ (upd H2 t (.tup [.int i,.ref tm])) _;generalize upd H2 t (.tup [.int i,.ref tm])=H3 at s2 e2 b3 g9 ⊢;refine#[t,_,Z,.of e2,Z,_,_,Z,_,_,Z,Z,?_];have G3:fQ K CG CW H3 g p hs ts qs fp:=G1.keep (λb hb u e=>b3 b u e (λz=>oz (z▸hb))) λb xs e=>b3 b _ e (bZ e g_ nofun);have mo:=R0.all m (cn hm)
   have fm:gE f (ms.take i) m.1=m.2.1:=by
    rw[P2 ?_]
    ·exact mo.a
    ·exact Bx (g:=λp:Mv=>p.1) R0.nd hm
   refine#[_,Z,_,Z,_,Z,g,p,d',tm,hs,ts,qs,fp,_,_,m,Z,G3,R0.iB,R0.nq,g9,mo.n,mo.n,b3 _ _ gf FC,fm,mo.may,λH4 s4=>?_];have b4:=b3.trans (aV.of s4);have zq:=s4 _ _ g9;refine#[_,Z,_,Z,aM ?_];have Du:=b4 _ _ gf FC;refine#[_,Z,tm,_,2,_,Z,Z,.of Du,Z,_,Z,_,Z,tm,_,0,_,Z,Z,.of Du,Z,d',_,Z,.k (k:=Sum.inr m.1) zq (by rw[fP,aq];omega),?_];refine#[_,_,_,Z,b4.trans aV.upd,?_];rw[ay,Q9 mo.n,Fb hm,Sw]
  ·rintro σ H2 ⟨v4,v5,v6,rfl,b2,hd2⟩;rw[yN,dG] at hd2;refine#[_,Z,by show 2<=sizeLine;decide,λt ht=>?_];have d_:aa H H2:=λb o e=>b2 b o (s1 _ _ e) (bI e A2);exact k t d' _ (d_.trans (aa.new ht)) A2 ay ((aa.new ht) _ _ hd2)
theorem nI:bh ["goods","stand","moves","answer"] ["goods","stand","moves"] (aU lJ):=bu
inductive Ms (K:ag) (CG CW:Addr) (vs:List V) (H:Hp) (Q:VK) (E:XK):Prop
 |mk:∀(g p d lm:Addr) (hs:Xa) (ts:Xb) (qs:List Pc) (fp:List Addr) (ns:List Str) (f:Str->Str) (ms:List Mv),vs=[.ref g,.ref d,.ref lm]->AA K CG CW H g p d lm hs ts qs fp ns f ms->(∀d' H',aa H H'->H d'=none->H' d'=some (.dK (dE (qs.map (·.1)) (gE f ms)))->Q (.ref d') H')->Ms K CG CW vs H Q E
theorem hY_{f CG CW:Addr}{fd:Ae}(F:a9 K "moved" "moved" lJ f fd)(cJ:bj P w K mg base 5 "judged" ["goods","stand","moves"] (Ht K CG CW)):ai P w K mg base aR 6 f fd ["goods","stand","moves"] (Ms K CG CW):=by
 refine F.bt nI λaL A outer s H vs Q E hr h=>?_
 ·obtain⟨g,p,d,lm,hs,ts,qs,fp,ns,f,ms,rfl,R0,k⟩:=h;refine#[_,au (bg 3 nI.nd (aX cJ hr (ae (pv 0) (ae (pv 1) (ae (pv 2) af))))) (au (bC (cU i9 (bB cy (pv 3) aE (λ_ _=>rfl)) dg (ak _)) cq bD) (aI (ba (bB cy (pv 3) aE (λ_ _=>rfl))))),?_];refine#[_,Z,_,Z,_,Z,g,p,d,lm,hs,ts,qs,fp,ns,f,ms,Z,R0,λt d' H1 s1 A2 ht g_=>?_];refine#[_,Z,t,_,0,_,Z,Z,.of ht,Z,Z,_,Z,?_];have:decide (V.str ("good":Str)=V.str ("bad":Str))=false:=dA λz=>by cases z
  rw[this];refine aM ?_;exact#[_,Z,t,_,1,_,Z,Z,.of ht,Z,k d' H1 s1 A2 g_]
end
section
variable{P:Ad}{w:Af}{K:ag}{mg:Str->Option Aa}{base:Heap}
theorem oN:bh ["_law_state_here","_law_great"] ["_law_state_here","_law_great"] (aU M8):=bu
def Sf:Sp:=λvs H Q _=>∃(l:Addr) (g:Int),vs=[.ref l,.int g]/\0<=g/\g<4/\dD H l/\∀r H',1<=r->r<=1000000000->aV l H H'->dD H' l->Q (.int r) H'
theorem fW_{f:Addr}{fd:Ae}(F:a9 K "_law_weight" "_law_weight" M8 f fd)(cD:bj P w K mg base 2 "_law_digit" ["_law_state_here","_law_base"] As):ai P w K mg base aR 3 f fd ["_law_state_here","_law_great"] Sf:=by
 refine F.bt oN λaL A outer s H vs Q E hr h=>?_
 ·obtain⟨l,g,rfl,g0,g4,st,k⟩:=h;refine' #[_,au ?s1 (aI ?s2),?kk]
  case s1=>exact bC (cU i9 (pv 1) aE (ak _)) (aI (ba (bB gQ (d5 (ae (bw OT aE aE) (ae (bw i4 aE (aX cD hr (ae (pv 0) (ae (bw OT aE aE) af)))) af))) (aX cD hr (ae (pv 0) (ae aE af))) (λ_ _=>rfl)))) bD
  case s2=>exact ba (bw i4 aE (aX cD hr (ae (pv 0) (ae (bB gQ (d5 (ae aE (ae aE (ae aE af)))) (pv 1) (λ_ _=>rfl)) af))))
  case' kk=>skip
  refine#[_,Z,Z,_,Z,?_];refine bp (λc=>?_) (λc=>?_)
  ·refine#[_,_,Z,Z,#[by decide,by decide,by decide],_,Z,_,_,Z,Z,#[by decide,by decide,by decide],l,(10:Int) ^ (9:Int).toNat,Z,by decide,by decide,st,λr1 H1 q0 q1 b1 j4=>#[_,_,Z,Z,?_]];have q1:r1<1000000000:=q1;refine#[by show 2<=sizeLine;decide,λlx nx=>?_];obtain⟨s2,e2⟩:=aO (o:=.lst [.int ((10:Int) ^ (9:Int).toNat),.int (1+r1)]) nx;have xl:=j4.ne nx;generalize upd H1 lx (.lst [.int ((10:Int) ^ (9:Int).toNat),.int (1+r1)])=H2 at s2 e2 ⊢;refine#[_,Z,l,2,Z,by decide,by decide,j4.same s2,λr2 H3 u0 u1 b3 iU=>?_]
   obtain⟨v,hv,x,rfl,x1,x2⟩:=sy (p:=λv:V=>∃x:Int,v=V.int x/\1<=x/\x<=1000000000) (xs:=[V.int ((10:Int) ^ (9:Int).toNat),.int (1+r1)]) (n:=2) Z u0 u1 (λv hv=>by
    simp only[bO,vJ,or_false] at hv;rcases hv with rfl|rfl
    ·exact#[_,Z,by decide,by decide]
    ·exact#[_,Z,by omega,by omega])
   exact#[lx,_,_,_,Z,Z,.of (b3 _ _ e2 xl),hv,k x H3 x1 x2 ((b1.trans (aV.of s2)).trans b3) iU]
  ·have g3:g<3:=by
    have:¬g=3:=λz=>c (by rw[z];rfl);omega
   refine#[_,Z,by show 3<=sizeLine;decide,λlx nx=>?_];obtain⟨s2,e2⟩:=aO (o:=.lst [.int 3,.int 12,.int 1000]) nx;generalize upd H lx (.lst [.int 3,.int 12,.int 1000])=H2 at s2 e2 ⊢
   obtain⟨v,hv,x,rfl,x1,x2⟩:=sy (p:=λv:V=>∃x:Int,v=V.int x/\1<=x/\x<=1000) (xs:=[V.int 3,.int 12,.int 1000]) (n:=3) Z g0 g3 (λv hv=>by
    simp only[bO,vJ,or_false] at hv;rcases hv with rfl|rfl|rfl
    ·exact#[_,Z,by decide,by decide]
    ·exact#[_,Z,by decide,by decide]
    ·exact#[_,Z,by decide,by decide])
   refine#[_,Z,lx,_,_,_,Z,Z,.of e2,hv,l,x,Z,by omega,by omega,st.same s2,λr1 H3 q0 q1 b3 iU=>#[_,_,Z,Z,?_]];exact k (1+r1) H3 Z1 Z1 ((aV.of s2).trans b3) iU
theorem Bn:bh ["_law_state_here","_law_ties","_law_found","_law_one","_law_other","_law_pair"] ["_law_state_here","_law_ties"] (aU lA):=bu
inductive LZ (K:ag) (vs:List V) (H:Hp) (Q:VK) (E:XK):Prop
 |mk:∀(l lt:Addr) (zs:List V) (ts:Xb),vs=[.ref l,.ref lt]->dD H l->H lt=some (.lst zs)->lt≠l->aY K H zs (ts.map kT)->ts.length<64->(∀t∈ts,zK t)->(ts.map kO).Nodup->(∀lw ys ws H',aV l H H'->dD H' l->H lw=none->H' lw=some (.lst ys)->aY K H' ys (ws.map kT)->Br ts ws->Q (.ref lw) H')->LZ K vs H Q E
theorem Zf{f:Addr}{fd:Ae}(F:a9 K "_law_ways" "_law_ways" lA f fd)(B:Bi mg)(cD:bj P w K mg base 2 "_law_digit" ["_law_state_here","_law_base"] As):ai P w K mg base aR 3 f fd ["_law_state_here","_law_ties"] (LZ K):=by
 refine F.bt Bn λaL A outer s H vs Q E hr h=>?_
 ·obtain⟨l,lt,zs,ts,rfl,st,cb,wL,tt,cg,good,nd,k⟩:=h;have sz:=bU;refine' #[_,au ?s1 (au ?s2 (aI ?s3)),?kk]
  case s1=>exact bg 2 Bn.nd (d5 af)
  case' s2=>refine' eV eM Z (dH (pv 1)) (jO Z (bY (bV 3 Bn.nd) (bY (bV 4 Bn.nd) gR))) (au ?b1 (aI ?b2))
  case b1=>exact bg 5 Bn.nd (bB gQ (d5 (ae (fA (ae (pv 3) (ae (pv 4) af))) (ae (fA (ae (pv 4) (ae (pv 3) af))) af))) (aX cD hr (ae (pv 0) (ae aE af))) (λ_ _=>rfl))
  case b2=>exact bg 2 Bn.nd (bw Gu (pv 2) (bw O3 (d5 (ae (pv 5) af)) (i_ Hf (by rfl) B.int Ej (ae (iQ xh (aX cD hr (ae (pv 0) (ae aE af))) aE (ak _)) af))))
  case s3=>exact ba (pv 2)
  case' kk=>skip
  have lz:=bE tt;rw[aq] at lz;refine#[by show 0<=sizeLine;decide,λOE CO=>?_];obtain⟨s1,e1⟩:=aO (o:=.lst []) CO;have Uu:=st.ne CO;refine setG ?_;dsimp only;generalize upd H OE (.lst [])=H1 at s1 e1 ⊢;refine#[_,Z,lt,Z,#[_,.of (s1 _ _ cb)],gF (K:=K) (a:=lt) (xs:=zs) (λi σ H'=>∃(lw:Addr) (v3 v4 v5:Option V) (ys:List V) (ws us:Xb),σ=[some (.ref l),some (.ref lt),some (.ref lw),v3,v4,v5]/\aV l H H'/\dD H' l/\H lw=none/\lw≠l/\H' lw=some (.lst ys)/\aY K H' ys (ws.map kT)/\us.Sublist (ts.take i)/\Paired (λw u=>w=u∨w=(u.2,u.1)) ws us) #[OE,none,none,none,[],[],[],Z,aV.of s1,st.same s1,CO,Uu,e1,.nil,List.Sublist.refl _,.nil] (λi σ H' _ ⟨_,_,_,_,_,_,_,_,b,_⟩=>.of (b _ _ cb wL)) ?_ ?_]
  ·rintro i x σ H2 hx ⟨lw,v3,v4,v5,ys,ws,us,rfl,b2,d_,nw,wl,hw,tw,sub,pr⟩;obtain⟨t,ht,a,rfl,ha⟩:=ij tt hx;obtain⟨Fv,tH⟩:=st.some;have tJ:=b2 _ _ (sk ha) (bZ (sk ha) tH nofun);refine#[a,_,Z,.of tJ,Z,_,_,Z,_,_,Z,Z,?_];dsimp only
   have lu:us.length<=i:=by
    have:=sub.length_le;rw[cj] at this;omega
   have lws:=bE pr;have ly:=bE tw;rw[aq] at ly
   have hi:i<ts.length:=by
    have:=(bP.mp ht).1;omega
   refine dq (λσ H'=>∃(q:Addr) (qq:Str × Str),σ=[some (.ref l),some (.ref lt),some (.ref lw),some (.str t.1),some (.str t.2),some (.ref q)]/\aV l H H'/\dD H' l/\H' lw=some (.lst ys)/\aY K H' ys (ws.map kT)/\H' q=some (.tup ((kT qq).map kV))/\(qq=t∨qq=(t.2,t.1))) ?m2 ?m1
   case m1=>
    intro N hN;refine#[_,Z,_,Z,by show 2<=sizeLine;decide,λt1 jB=>?_];obtain⟨wA,RY⟩:=aO (o:=.tup [.str t.1,.str t.2]) jB;generalize upd H2 t1 (.tup [.str t.1,.str t.2])=H3 at wA RY ⊢;refine#[_,Z,_,Z,by show 2<=sizeLine;decide,λt2 Dy=>?_];obtain⟨lS,Bd⟩:=aO (o:=.tup [.str t.2,.str t.1]) Dy;generalize upd H3 t2 (.tup [.str t.2,.str t.1])=H4 at lS Bd ⊢;refine#[by show 2<=sizeLine;decide,λlx pL=>?_];obtain⟨oQ,RX⟩:=aO (o:=.lst [.ref t1,.ref t2]) pL;have xl:=((d_.same wA).same lS).ne pL;generalize upd H4 lx (.lst [.ref t1,.ref t2])=H5 at oQ RX ⊢;have yt:=(wA.trans lS).trans oQ;have gc:=d_.same yt;obtain⟨xs5,DR⟩:=gc.some;refine#[_,Z,l,2,Z,by decide,by decide,gc,λr5 H6 q4 q5 b6 oK=>?_];have BR:∀{b:Addr} {zs:List V},H5 b=some (.tup zs)->H6 b=some (.tup zs):=λe=>b6 _ _ e (bZ e DR nofun)
    have pick:∃(q:Addr) (qq:Str × Str),gG [V.ref t1,V.ref t2] r5=some (.ref q)/\H6 q=some (.tup ((kT qq).map kV))/\(qq=t∨qq=(t.2,t.1)):=by
     rcases u_ (a:=V.ref t1) (b:=V.ref t2) q4 q5 with e|e
     ·exact#[t1,t,e,BR (oQ _ _ (lS _ _ RY)),.inl Z]
     ·exact#[t2,(t.2,t.1),e,BR (oQ _ _ Bd),.inr Z]
    obtain⟨q,qq,et,Gh,yX⟩:=pick;have Tj:aV l H2 H6:=(aV.of yt).trans b6;exact#[lx,_,_,_,Z,Z,.of (b6 _ _ RX xl),et,hN _ _ #[q,qq,Z,b2.trans Tj,oK,Tj _ _ hw wl,ub (tw.same yt) b6 DR,Gh,yX]]
   rintro σ H6 ⟨q,qq,rfl,b6,oK,_R,UJ,Gh,yX⟩;refine#[_,Z,_,Z,by show 1<=sizeLine;decide,λlx pL=>?_];obtain⟨s7,e7⟩:=aO (o:=.lst [.ref q]) pL;have xl:=oK.ne pL;generalize upd H6 lx (.lst [.ref q])=H7 at s7 e7 ⊢;have qm:=oK.same s7;obtain⟨xs7,PP⟩:=qm.some;refine#[_,Z,l,3,Z,by decide,by decide,qm,λr6 H8 q6 q7 b8 xU=>#[_,_,Z,Z,.inr #[_,Z,?_]]];have _Q:=b8 _ _ (s7 _ _ _R) wl;have e8:=b8 _ _ e7 xl;have NQ:=ub (UJ.same s7) b8 PP;have hq8:=b8 _ _ (s7 _ _ Gh) (bZ (s7 _ _ Gh) PP nofun);have BC:aV l H H8:=b6.trans ((aV.of s7).trans b8);refine#[lx,_,_,Z,Z,e8,?_,?_,?_,λp hp=>?_]
   ·by_cases c:decide (0<r6)=true
    ·rw[aC c];decide
    ·rw[ao c];decide
   ·by_cases c:decide (0<r6)=true
    ·rw[aC c];decide
    ·rw[ao c];decide
   ·by_cases c:decide (0<r6)=true
    ·rw[aC c];show 1 * 1<=sizeLine;decide
    ·rw[ao c];show 1 * 0<=sizeLine;decide
   obtain⟨s9,e9⟩:=aO (o:=.lst (List.replicate (if decide (0<r6)=true then (1:Int) else 0).toNat [V.ref q]).flatten) hp;generalize upd H8 p (.lst (List.replicate (if decide (0<r6)=true then (1:Int) else 0).toNat [V.ref q]).flatten)=H9 at s9 e9 ⊢;refine#[lw,p,_,_,Z,Z,s9 _ _ _Q,e9,?_,λu hu=>?_]
   ·by_cases c:decide (0<r6)=true
    ·rw[aC c];show ys.length+1<=sizeLine;omega
    ·rw[ao c];show ys.length+0<=sizeLine;omega
   have IV:=aa.new (o:=.lst (ys++(List.replicate (if decide (0<r6)=true then (1:Int) else 0).toNat [V.ref q]).flatten)) hu;have yr:=s9.trans IV;have b0u:aV l H (upd H9 u (.lst (ys++(List.replicate (if decide (0<r6)=true then (1:Int) else 0).toNat [V.ref q]).flatten))):=BC.trans (aV.of yr);have wm:=xU.same s9;refine#[u,_,_,_,_,if decide (0<r6)=true then ws++[qq] else ws,if decide (0<r6)=true then us++[t] else us,Z,b0u,xU.same yr,(BC.trans (aV.of s9)).free wm hu,wm.ne hu,ay,?_,?_,?_]
   ·by_cases c:decide (0<r6)=true
    ·rw[aC c,aC c];show aY K _ (ys++[V.ref q]) ((ws++[qq]).map kT);rw[bX];rw[aC c] at yr;exact An (NQ.same yr) (yr _ _ hq8)
    ·rw[ao c,ao c];show aY K _ (ys++[]) (ws.map kT);rw[mJ];rw[ao c] at yr;have:=NQ.same yr;simpa using this
   ·have e:ts.take (i+1)=ts.take i++[t]:=by rw[hV,ht];rfl
    rw[e];by_cases c:decide (0<r6)=true
    ·rw[aC c];exact sub.append (List.Sublist.refl _)
    ·rw[ao c];exact sub.trans (List.sublist_append_left _ _)
   ·by_cases c:decide (0<r6)=true
    ·rw[aC c,aC c];exact kn pr (.cons yX .nil)
    ·rw[ao c,ao c];exact pr
  ·rintro σ H2 ⟨lw,v3,v4,v5,ys,ws,us,rfl,b2,d_,nw,wl,hw,tw,sub,pr⟩;rw[lz,dG] at sub;exact#[_,Z,k lw ys ws H2 b2 d_ nw hw tw (Xx good nd sub pr)]
end
theorem ZH{K:ag}{H:Hp}{a l:Addr}{ys:List V}{ks:List (List Key)}(t:aY K H ys ks)(ha:H a=some (.lst ys))(st:dD H l):a≠l:=λe=>by
 subst e;obtain⟨x,y,z,e⟩:=st;rw[ha] at e;have e:ys=_:=HO.lst.inj (dW e);subst e;cases t with
 |cons h _=>
  obtain⟨b,z,_⟩:=h;cases z
variable{v:V}{o:Option (Xb)}
theorem bJ.mv{K:ag}{H H':Hp}{l:Addr}(h:bJ K H v o)(b:aV l H H')(st:dD H l):bJ K H' v o:=by
 cases o with
 |none=>exact h
 |some ws=>
  obtain⟨a,ys,e,ha,t⟩:=h;obtain⟨xs,hl⟩:=st.some;exact#[a,ys,e,b _ _ ha (ZH t ha st),ub t b hl]
def PcI(K:ag)(H:Hp)(lp:Addr)(y:V)(p:Pc):Prop:=∃t v,y=.ref t/\H t=some (.tup [.str p.1,.int p.2.1,v])/\bJ K H v p.2.2/\v≠.ref lp
structure GI (K:ag) (H0 H:Hp) (l ln lp d:Addr) (ns:List Str) (hs:Xa) (ts:Xb) (i j:Nat):Prop where
 but:aV l H0 H
 st:dD H l
 hn:H ln=some (.lst (ns.map V.str))
 AG:∃yp ps,H lp=some (.lst yp)/\Paired (PcI K H lp) yp ps/\ps.map (·.1)=ns.take i/\∀q∈ps,zS ts q
 Cc:∃f:Str->Str,H d=some (.dK (dE (ns.take j) f))/\∀n∈ns.take j,f n∈hs.map (·.1)
 nl:ln≠l
 pl:lp≠l
 dl:d≠l
 np:ln≠lp
 fp:H0 lp=none
 fd:H0 d=none
variable{n:Str}
section
variable{K:ag}{H0 H G:Hp}{l ln lp d:Addr}{ns:List Str}{hs:Xa}{ts:Xb}{i j:Nat}
theorem GI.mv(W:GI K H0 H l ln lp d ns hs ts i j)(b:aV l H G)(st:dD G l):GI K H0 G l ln lp d ns hs ts i j:=by
 obtain⟨yp,ps,h1,h2,h3,h4⟩:=W.AG;obtain⟨f,d1,d2⟩:=W.Cc;obtain⟨xs,hl⟩:=W.st.some;exact#[W.but.trans b,st,b _ _ W.hn W.nl,#[yp,ps,b _ _ h1 W.pl,Paired.bo h2 λy p ⟨t,v,e,ht,wy,n⟩=>#[t,v,e,b _ _ ht (bZ ht hl nofun),wy.mv b W.st,n],h3,h4],#[f,b _ _ d1 W.dl,d2],W.nl,W.pl,W.dl,W.np,W.fp,W.fd]
theorem GI.same(W:GI K H0 H l ln lp d ns hs ts i j)(s:aa H G):GI K H0 G l ln lp d ns hs ts i j:=W.mv (aV.of s) (W.st.same s)
theorem GI.CI(W:GI K H0 H l ln lp d ns hs ts i j){x:Int}{t:Addr}{yp:List V}(hn:ns[i]? = some n)(hp:H lp=some (.lst yp))(ht:H t=some (.tup [.str n,.int x,v]))(wy:bJ K H v o)(nv:v≠.ref lp)(g:zS ts (n,x,o)):GI K H0 (upd H lp (.lst (yp++[.ref t]))) l ln lp d ns hs ts (i+1) j:=by
 obtain⟨yp',ps,h1,h2,h3,h4⟩:=W.AG;obtain⟨f,d1,d2⟩:=W.Cc;rw[hp] at h1;cases h1;refine#[λb o e ne=>by rw[ax (bI e W.fp)];exact W.but b o e ne,?_,by rw[ax W.np];exact W.hn,#[_,ps++[(n,x,o)],ay,kn (Paired.bo h2 λy p ⟨t,v,e,ht,wy,n⟩=>#[t,v,e,by rw[ax (bZ ht hp nofun)];exact ht,wy.put hp n,n]) (.cons #[t,v,Z,by rw[ax (bZ ht hp nofun)];exact ht,wy.put hp nv,nv] .nil),?_,λq hq=>?_],#[f,by rw[ax (bZ d1 hp nofun)];exact d1,d2],W.nl,W.pl,W.dl,W.np,W.fp,W.fd]
 ·exact W.st.upd W.pl
 ·rw[bX,h3,gi hn];rfl
 ·rcases eK.mp hq with hq|hq
  ·exact h4 q hq
  ·rw[pf.mp hq];exact g
theorem GI.put(W:GI K H0 H l ln lp d ns hs ts i j)(nd:ns.Nodup){h:Str}{f:Str->Str}(hn:ns[j]? = some n)(hd:H d=some (.dK (dE (ns.take j) f)))(fm:∀n∈ns.take j,f n∈hs.map (·.1))(hh:h∈hs.map (·.1)):GI K H0 (upd H d (.dK (putK (dE (ns.take j) f) (Sum.inr n) (.str h)))) l ln lp d ns hs ts i (j+1):=by
 obtain⟨yp,ps,h1,h2,h3,h4⟩:=W.AG;have nn:=EW nd hn;have pd:∀{b:Addr} {zs:List V},H b=some (.tup zs)->b≠d:=λe z=>by rw[z,hd] at e;cases e
 have ld:∀{b:Addr} {zs:List V},H b=some (.lst zs)->b≠d:=λe z=>by rw[z,hd] at e;cases e
 refine#[λb o e ne=>by rw[ax (bI e W.fd)];exact W.but b o e ne,W.st.upd W.dl,by rw[ax (ld W.hn)];exact W.hn,#[yp,ps,by rw[ax (ld h1)];exact h1,Paired.bo h2 λy p ⟨t,v,e,ht,wy,n⟩=>#[t,v,e,by rw[ax (pd ht)];exact ht,?_,n],h3,h4],#[λm=>if m=n then h else f m,?_,λm hm=>?_],W.nl,W.pl,W.dl,W.np,W.fp,W.fd]
 ·cases o:p.2.2 with
  |none=>rw[o] at wy;exact wy
  |some ws=>
   rw[o] at wy;obtain⟨a,ys,e,ha,tu⟩:=wy;exact#[a,ys,e,by rw[ax (ld ha)];exact ha,Paired.bo tu λy k ⟨b,z,q⟩=>#[b,z,by rw[ax (pd q)];exact q]]
 ·rw[ay,GF nn,gi hn];refine dF (λx=>some (HO.dK x)) (Bu λm hm=>?_);dsimp only;by_cases z:m=n
  ·simp only[aC z]
  ·simp only[ao z]
 ·dsimp only;rw[gi hn] at hm;by_cases z:m=n
  ·rw[aC z];exact hh
  ·rw[ao z];rcases eK.mp hm with hm|hm
   ·exact fm m hm
   ·exact absurd (pf.mp hm) z
end
variable{fd:Ae}{f0:Addr}
section
variable{P:Ad}{w:Af}{K:ag}{mg:Str->Option Aa}{base:Heap}
abbrev gN:List Str:=["_law_state_here","_law_hands","_law_ties","_law_many","_law_great","_law_free","_law_heap","_law_pieces","_law_stand","_law_name","_law_ways_here","_law_at"]
theorem sV:bh gN ["_law_state_here","_law_hands","_law_ties"] (aU Li):=bu
inductive ML (K:ag) (vs:List V) (H:Hp) (Q:VK) (E:XK):Prop
 |mk:∀(l lh lt:Addr) (yh zs:List V) (hs:Xa) (ts:Xb),vs=[.ref l,.ref lh,.ref lt]->dD H l->H lh=some (.lst yh)->lh≠l->aY K H yh (hs.map kH)->H lt=some (.lst zs)->lt≠l->aY K H zs (ts.map kT)->Good hs ts->(∀(t lp d:Addr) (yp:List V) (ps:List Pc) (f:Str->Str) (H':Hp),aV l H H'->dD H' l->H' t=some (.tup [.ref lp,.ref d])->H lp=none->H d=none->lp≠l->d≠l->H' lp=some (.lst yp)->jY K H' yp ps->H' d=some (.dK (dE (ps.map (·.1)) f))->(∀q∈ps,zS ts q)->(ps.map (·.1)).Nodup->ps.length<=30->(∀n∈ps.map (·.1),f n∈hs.map (·.1))->Q (.ref t) H')->ML K vs H Q E
theorem hj_(F:a9 K "_law_goods" "_law_goods" Li f0 fd)(B:Bi mg)(cD:bj P w K mg base 2 "_law_digit" ["_law_state_here","_law_base"] As)(cN:bj P w K mg base 3 "_law_named" ["_law_state_here","_law_many"] L3)(cW:bj P w K mg base 3 "_law_weight" ["_law_state_here","_law_great"] Sf)(cY:bj P w K mg base 3 "_law_ways" ["_law_state_here","_law_ties"] (LZ K)):ai P w K mg base aR 4 f0 fd ["_law_state_here","_law_hands","_law_ties"] (ML K):=by
 refine F.bt sV λaL A outer s H vs Q E hr h=>?_
 ·obtain⟨l,lh,lt,yh,zs,hs,ts,rfl,st,g7,C7,th,cb,wL,tt,Gd,k⟩:=h;have sz:=bU;have hu:=eS hr;have cz:aD 2 _:=hr.mono (by decide);refine' #[_,?r0,?kk]
  case' r0=>refine' au ?s1 ?r1
  case' r1=>refine' au ?s2 ?r2
  case' r2=>refine' au ?s3 ?r3
  case' r3=>refine' au ?s4 ?r4
  case' r4=>refine' au ?s5 ?r5
  case' r5=>refine' au ?s6 ?r6
  case' r6=>refine' au ?s7 (aI ?s8)
  case s1=>exact bg 3 sV.nd (bB gQ (d5 (ae (aX cD cz (ae (pv 0) (ae aE af))) (ae (aX cD cz (ae (pv 0) (ae aE af))) af))) (aX cD cz (ae (pv 0) (ae aE af))) (λ_ _=>rfl))
  case s2=>exact bg 4 sV.nd (aX cD cz (ae (pv 0) (ae aE af)))
  case s3=>exact bg 5 sV.nd (aX cD cz (ae (pv 0) (ae aE af)))
  case s4=>exact bg 6 sV.nd (aX cD cz (ae (pv 0) (ae aE af)))
  case s5=>exact bg 7 sV.nd (d5 af)
  case s6=>exact bg 8 sV.nd Al
  case' s7=>refine' eV eM Z (dH (aX cN hr (ae (pv 0) (ae (pv 3) af)))) (bV 9 sV.nd) ?b0
  case' b0=>refine' au ?b1 ?c1
  case' c1=>refine' au ?b2 ?c2
  case' c2=>refine' au ?b3 ?c3
  case' c3=>refine' au ?b4 (aI ?b5)
  case b1=>exact bg 10 sV.nd Gw
  case b2=>exact bC (PW.pt (xo (cU i9 (pv 5) aE (ak _)) (Aq (cU xh (aX cD cz (ae (pv 0) (ae aE af))) aE (ak _))))) (aI (bg 10 sV.nd (aX cY hr (ae (pv 0) (ae (pv 2) af))))) bD
  case b3=>exact oE (mz o9 xr xt vA (pv 7) (ae (fA (ae (pv 9) (ae (aX cW hr (ae (pv 0) (ae (pv 4) af))) (ae (pv 10) af)))) af))
  case b4=>exact bg 11 sV.nd (aX cD cz (ae (pv 0) (ae (cK jU (by rfl) B.len gP (ae (pv 1) af)) af)))
  case' b5=>refine' o7 hu (pv 8) (pv 9) (bB cy (bB gQ (pv 1) ?ix (λ_ _=>rfl)) aE (λ_ _=>rfl)) Z
  case ix=>exact bw ki (pv 11) (i_ Hf (by rfl) B.int Ej (ae (A9 (iQ i9 (pv 6) aE (ak _)) (mw (iQ i9 (aX cD cz (ae (pv 0) (ae aE af))) aE (ak _)))) af))
  case s8=>exact ba (fA (ae (pv 7) (ae (pv 8) af)))
  case' kk=>skip
  have F3:=bE th;rw[aq] at F3;have mj:=Gd.h1;have h8':=Gd.h8;refine#[_,Z,l,9,Z,by decide,by decide,st,λa1 H1 p0 p1 b1 j4=>?_];refine#[_,Z,l,31,Z,by decide,by decide,j4,λa2 H2 p2 p3 b2 d_=>?_];refine#[by show 2<=sizeLine;decide,λlx nx=>?_];obtain⟨s3,e3⟩:=aO (o:=.lst [.int a1,.int a2]) nx;have xl:=d_.ne nx;generalize upd H2 lx (.lst [.int a1,.int a2])=H3 at s3 e3 ⊢;refine#[_,Z,l,2,Z,by decide,by decide,d_.same s3,λa3 H4 p4 p5 b4 gH=>?_]
  obtain⟨v,hv,m,rfl,m0,WM⟩:=sy (p:=λv:V=>∃x:Int,v=V.int x/\0<=x/\x<=30) (xs:=[V.int a1,.int a2]) (n:=2) Z p4 p5 (λv hv=>by
   simp only[bO,vJ,or_false] at hv;rcases hv with rfl|rfl
   ·exact#[_,Z,by omega,by omega]
   ·exact#[_,Z,by omega,by omega])
  obtain⟨m,rfl⟩:=sZ m0;refine#[lx,_,_,_,Z,Z,.of (b4 _ _ e3 xl),hv,?_];have HI:aV l H H4:=(b1.trans b2).trans ((aV.of s3).trans b4);refine setG ?_;dsimp only;clear b1 b2 b4 s3 e3 hv nx j4 d_;refine#[_,Z,l,4,Z,by decide,by decide,gH,λgr H5 g0 g4 b5 gc=>?_];refine setG ?_;dsimp only;refine#[_,Z,l,2,Z,by decide,by decide,gc,λfr H6 f0 f2 b6 oK=>?_];refine setG ?_;dsimp only;refine#[_,Z,l,2,Z,by decide,by decide,oK,λhp H7 q0 q2 b7 qm=>?_];refine setG ?_;dsimp only;have Nt:aV l H H7:=HI.trans (b5.trans (b6.trans b7));clear HI b5 b6 b7 gH gc oK;refine#[by show 0<=sizeLine;decide,λlp np=>?_];refine setG ?_;dsimp only;obtain⟨s8,e8⟩:=aO (o:=.lst []) np;have OH:=qm.ne np;have fp0:H lp=none:=Nt.free qm np;generalize upd H7 lp (.lst [])=H8 at s8 e8 ⊢;have xU:=qm.same s8;have BC:=Nt.trans (aV.of s8);refine λd nd=>?_;refine setG ?_;dsimp only;obtain⟨s9,e9⟩:=aO (o:=.dK []) nd;have dl:=xU.ne nd;have fd0:H d=none:=BC.free xU nd;generalize upd H8 d (.dK [])=H9 at s9 e9 ⊢;have wm:=xU.same s9;have Tn:=BC.trans (aV.of s9);refine#[_,Z,_,Z,l,m,Z,by omega,wm,λln ns xF jR oM nn hn N=>?_];have C6:ln≠l:=wm.ne nn;have W0:GI K H xF l ln lp d ns hs ts 0 0:=#[Tn.trans jR,oM,hn,#[[],[],jR _ _ (s9 _ _ e8) OH,.nil,Z,by simp],#[λ_=>"",jR _ _ e9 dl,by simp],C6,OH,dl,(bI (s9 _ _ e8) nn).symm,fp0,fd0];clear Nt BC Tn jR qm xU wm oM s8 s9 e8 e9 np nd nn hn;have n30:ns.length<=30:=by rw[N.len];omega
  refine#[ln,Z,#[_,.of W0.hn],gF (K:=K) (a:=ln) (xs:=ns.map V.str) (λi σ H'=>∃(v9 v10 v11:Option V),σ=[some (.ref l),some (.ref lh),some (.ref lt),some (.int m),some (.int gr),some (.int fr),some (.int hp),some (.ref lp),some (.ref d),v9,v10,v11]/\GI K H H' l ln lp d ns hs ts i i) #[none,none,none,Z,W0] (λi σ H' _ ⟨_,_,_,_,W⟩=>.of W.hn) ?_ ?_]
  ·rintro i x σ H2 hx ⟨v9,v10,v11,rfl,W⟩;obtain⟨n,hn,rfl⟩:=jT hx;have hi:i<ns.length:=(bP.mp hn).1;refine setG ?_;dsimp only;refine setG (i:=10) (v:=.non) ?_;dsimp only;refine dq (λσ H'=>∃(wv:V) (o:Option (Xb)),σ=[some (.ref l),some (.ref lh),some (.ref lt),some (.int m),some (.int gr),some (.int fr),some (.int hp),some (.ref lp),some (.ref d),some (.str n),some wv,v11]/\GI K H H' l ln lp d ns hs ts i i/\bJ K H' wv o/\wv≠.ref lp/\∀ws,o=some ws->Br ts ws) ?m2 ?m1
   case m1=>
    intro N1 hN;have gn:∀{H3:Hp},GI K H H3 l ln lp d ns hs ts i i->N1 [some (.ref l),some (.ref lh),some (.ref lt),some (.int m),some (.int gr),some (.int fr),some (.int hp),some (.ref lp),some (.ref d),some (.str n),some .non,v11] H3:=λW3=>hN _ _ #[.non,none,Z,W3,Z,(λz=>by cases z),λws e=>by cases e];refine#[_,Z,Z,_,Z,?_];refine bp (λc=>?_) (λc=>?_)
    ·refine#[_,Z,l,3,Z,by decide,by decide,W.st,λr1 H3 u0 u1 b3 iU=>#[_,_,Z,Z,_,Z,?_]];have W3:=W.mv b3 iU;refine bp (λc2=>?_) (λc2=>?_)
     ·refine#[_,Z,_,Z,l,lt,zs,ts,Z,iU,W3.but _ _ cb wL,wL,?_,Gd.xR,Gd.tok,Gd.NR,λlw ys ws H4 b4 gH nw hw tw wo=>?_]
      ·obtain⟨Fv,tH⟩:=st.some;exact ub tt W3.but tH
      have W4:=W3.mv b4 gH;refine hN _ _ #[.ref lw,some ws,Z,W4,#[lw,ys,Z,hw,tw],λz=>?_,λws' e=>by cases e;exact wo];obtain⟨yp,ps,h1,_⟩:=W3.AG;cases z;rw[h1] at nw;cases nw
     ·exact gn W3
    ·exact gn W
   rintro σ H3 ⟨wv,o,rfl,W3,wy,nv,gw⟩;refine dq (λσ H'=>σ=[some (.ref l),some (.ref lh),some (.ref lt),some (.int m),some (.int gr),some (.int fr),some (.int hp),some (.ref lp),some (.ref d),some (.str n),some wv,v11]/\GI K H H' l ln lp d ns hs ts (i+1) i) ?m4 ?m3
   case m3=>
    intro N1 hN;obtain⟨yp,ps,h1,h2,h3,h4⟩:=W3.AG;refine#[_,Z,.inl #[Z,_,.of h1],_,Z,_,Z,_,Z,l,gr,Z,g0,g4,W3.st,λx H4 x1 x2 b4 gH=>?_];have W4:=W3.mv b4 gH;have Uh:=wy.mv b4 W3.st;refine#[_,Z,by show 3<=sizeLine;decide,λt nt=>?_];obtain⟨s5,e5⟩:=aO (o:=.tup [.str n,.int x,wv]) nt;generalize upd H4 t (.tup [.str n,.int x,wv])=H5 at s5 e5 ⊢;have AW:=s5 _ _ (b4 _ _ h1 W3.pl);have ly:=bE h2;have Xf:=dF List.length h3;rw[aq,cj] at Xf;refine#[lp,_,_,Z,Z,AW,by omega,hN _ _ #[Z,(W4.same s5).CI hn AW e5 (Uh.same s5) nv #[N.ok n (cn hn),x1,x2,gw]]]
   rintro σ H4 ⟨rfl,W4⟩;refine#[_,Z,_,Z,lh,_,Z,.inl (.of (W4.but _ _ g7 C7)),l,_,Z,by omega,by omega,W4.st,λat' H5 a0 a1 b5 gc=>?_];have W5:=W4.mv b5 gc;refine setG ?_;dsimp only
   have fin:∀{H6:Hp} {b:Bool},GI K H H6 l ln lp d ns hs ts (i+1) i->∃v,gG yh (at' * (if b=true then 1 else 0))=some v/\∃h∈hs,∃a,v=.ref a/\H6 a=some (.tup [.str h.1,.int h.2]):=λ{H6 b} W6=>by
    have:0<=at' * (if b=true then 1 else 0)/\at' * (if b=true then 1 else 0)<(yh.length:Int):=by
     cases b
     ·simp;omega
     ·simp;omega
    refine sy (n:=yh.length) (p:=λv:V=>∃h∈hs,∃a,v=.ref a/\H6 a=some (.tup [.str h.1,.int h.2])) Z this.1 this.2 λv hv=>?_;obtain⟨jj,hj⟩:=List.mem_iff_getElem?.mp hv;obtain⟨h,hh,a,e,ha⟩:=ij th hj;obtain⟨Fv,tH⟩:=st.some;have ha:H a=some (.tup [.str h.1,.int h.2]):=ha;exact#[h,cn hh,a,e,W6.but _ _ ha (bZ ha tH nofun)]
   refine#[_,Z,_,Z,_,Z,Z,_,Z,?_];refine bp (λc=>?_) (λc=>?_)
   ·refine .inr #[_,Z,_,_,Z,Z,.inl #[by omega,by omega],?_];obtain⟨v,ev,h,hh,a,ea,ha⟩:=fin (b:=true) W5;subst ea;obtain⟨f,d1,d2⟩:=W5.Cc;refine#[lh,_,_,_,Z,Z,.of (W5.but _ _ g7 C7),ev,a,_,_,_,Z,Z,.of ha,Z,_,Z,_,Z,d,_,Z,.k (k:=Sum.inr n) d1 (by rw[fP,cj];omega),?_];exact#[_,_,_,Z,W5.put N.nd hn d1 d2 (a_.mpr #[h,hh,Z])]
   ·refine#[_,Z,l,4,Z,by decide,by decide,W5.st,λr1 H6 u0 u1 b6 oK=>#[Z,?_]];have W6:=W5.mv b6 oK;refine .inr #[_,Z,_,_,Z,Z,.inl #[by omega,by omega],?_];obtain⟨v,ev,h,hh,a,ea,ha⟩:=fin (b:=decide (V.int r1=V.int 0)) W6;subst ea;obtain⟨f,d1,d2⟩:=W6.Cc;refine#[lh,_,_,_,Z,Z,.of (W6.but _ _ g7 C7),ev,a,_,_,_,Z,Z,.of ha,Z,_,Z,_,Z,d,_,Z,.k (k:=Sum.inr n) d1 (by rw[fP,cj];omega),?_];exact#[_,_,_,Z,W6.put N.nd hn d1 d2 (a_.mpr #[h,hh,Z])]
  ·rintro σ H2 ⟨v9,v10,v11,rfl,W⟩;rw[aq] at W;obtain⟨yp,ps,h1,h2,h3,h4⟩:=W.AG;obtain⟨f,d1,d2⟩:=W.Cc;rw[dG] at h3 d1 d2;refine#[_,Z,_,Z,by show 2<=sizeLine;decide,λt nt=>?_];have s3:=aa.new (o:=.tup [.ref lp,.ref d]) nt;have W3:=W.same s3;refine k t lp d yp ps f _ W3.but W3.st ay W.fp W.fd W.pl W.dl (s3 _ _ h1) (Paired.bo h2 λy p ⟨t,v,e,ht,wy,_⟩=>#[t,v,e,s3 _ _ ht,wy.same s3]) ?_ h4 ?_ ?_ ?_
   ·rw[h3];exact s3 _ _ d1
   ·rw[h3];exact N.nd
   ·have:=dF List.length h3;rw[aq] at this;omega
   ·rw[h3];exact d2
end
def AN(h:Str)(t:Str × Str):List Str:=(if t.1=h then [t.2] else [])++if t.2=h then [t.1] else []
def h_(ts:Xb)(h:Str):List Str:=ts.flatMap (AN h)
def uk(ds dn lt dh dy:Addr):List (Key × V):=[(.inr "strength",.ref ds),(.inr "near",.ref dn),(.inr "ties",.ref lt),(.inr "heavy",.ref dh),(.inr "ways",.ref dy)]
structure fL (K:ag) (H:Hp) (w ds dn lt dh dy:Addr) (ad:Str->Addr) (gy:Str->V) (hs:Xa) (ts:Xb) (ps:List Pc):Prop where
 top:H w=some (.dK (uk ds dn lt dh dy))
 sg:H ds=some (.dK (bq (hs.map (·.1)) λn=>.int (strOf hs n)))
 nr:H dn=some (.dK (bq (hs.map (·.1)) λn=>.ref (ad n)))
 ls:∀h∈hs.map (·.1),H (ad h)=some (.lst ((h_ ts h).map V.str))
 hv:H dh=some (.dK (bq (ps.map (·.1)) λn=>.int (fN ps n)))
 wy:H dy=some (.dK (bq (ps.map (·.1)) gy))
 wv:∀q∈ps,bJ K H (gy q.1) q.2.2
def tR(K:ag)(H:Hp)(w:Addr)(hs:Xa)(ts:Xb)(ps:List Pc):Prop:=∃(ds dn lt dh dy:Addr) (ad:Str->Addr) (gy:Str->V),fL K H w ds dn lt dh dy ad gy hs ts ps
variable{G:Hp}{dh dn ds dy w:Addr}{ad:Str->Addr}{gy:Str->V}
theorem fL.nt{K:ag}{H:Hp}{lt:Addr}{hs:Xa}{ts:Xb}{ps:List Pc}(W:fL K H w ds dn lt dh dy ad gy hs ts ps)(s:NT H G):fL K G w ds dn lt dh dy ad gy hs ts ps:=
 #[s _ _ W.top nofun,s _ _ W.sg nofun,s _ _ W.nr nofun,λh hh=>s _ _ (W.ls h hh) nofun,s _ _ W.hv nofun,s _ _ W.wy nofun,λq hq=>(W.wv q hq).nt s]
theorem fL.same{K:ag}{H:Hp}{lt:Addr}{hs:Xa}{ts:Xb}{ps:List Pc}(W:fL K H w ds dn lt dh dy ad gy hs ts ps)(s:aa H G):fL K G w ds dn lt dh dy ad gy hs ts ps:=W.nt (NT.of s)
theorem tR.nt{K:ag}{H:Hp}{hs:Xa}{ts:Xb}{ps:List Pc}(W:tR K H w hs ts ps)(s:NT H G):tR K G w hs ts ps:=by
 obtain⟨ds,dn,lt,dh,dy,ad,gy,W⟩:=W;exact#[ds,dn,lt,dh,dy,ad,gy,W.nt s]
section
variable{H:Hp}{w ds dn lt dh dy:Addr}{K:ag}{ad:Str->Addr}{gy:Str->V}{hs:Xa}{ts:Xb}{ps:List Pc}
theorem fL.gS(W:fL K H w ds dn lt dh dy ad gy hs ts ps):cm H w (.str "strength") (some (.ref ds)):=cm.k (k:=Sum.inr "strength") W.top
theorem fL.gN(W:fL K H w ds dn lt dh dy ad gy hs ts ps):cm H w (.str "near") (some (.ref dn)):=cm.k (k:=Sum.inr "near") W.top
theorem fL.gW(W:fL K H w ds dn lt dh dy ad gy hs ts ps):cm H w (.str "ways") (some (.ref dy)):=cm.k (k:=Sum.inr "ways") W.top
theorem Zn:putK (putK (oB [] [((.inr "strength":Key),V.ref ds),(.inr "near",.ref dn),(.inr "ties",.ref lt)]) (.inr "heavy") (.ref dh)) (.inr "ways") (.ref dy)=uk ds dn lt dh dy:=rfl
end
structure pZ (H0 H:Hp) (dn:Addr) (ad:Str->Addr) (ns:List Str) (g:Str->List Str):Prop where
 sm:aa H0 H
 nr:H dn=some (.dK (bq ns λn=>.ref (ad n)))
 ls:tj H ns ad g
 fn:H0 dn=none
 fr:∀h∈ns,H0 (ad h)=none
variable{ns:List Str}{H0:Hp}{g:Str->List Str}
theorem pZ.same{H:Hp}(N:pZ H0 H dn ad ns g)(s:aa H G):pZ H0 G dn ad ns g:=#[N.sm.trans s,s _ _ N.nr,#[λh hh=>s _ _ (N.ls.1 h hh),N.ls.2],N.fn,N.fr]
theorem pZ.app{H:Hp}(N:pZ H0 H dn ad ns g){m:Str}(hn:n∈ns):pZ H0 (upd H (ad n) (.lst ((g n).map V.str++[.str m]))) dn ad ns (λh=>if h=n then g h++[m] else g h):=by
 have la:=N.ls.1 n hn;refine#[gh N.sm (N.fr n hn),by rw[ax (bZ N.nr la nofun)];exact N.nr,#[λh hh=>?_,N.ls.2],N.fn,N.fr];dsimp only;by_cases z:h=n
 ·subst z;rw[aC Z,ay,bX];rfl
 ·rw[ao z,ax λy=>z (N.ls.2 h hh n hn y)];exact N.ls.1 h hh
theorem pZ.to{H:Hp}{g':Str->List Str}(N:pZ H0 H dn ad ns g)(e:∀h,g h=g' h):pZ H0 H dn ad ns g':=by
 obtain rfl:g=g':=funext e;exact N
theorem Qo(ts:Xb)(h:Str):(h_ ts h).length<=2 * ts.length:=by
 induction ts with
 |nil=>exact fB _
 |cons t ts ih=>
  have:(AN h t).length<=2:=by
   unfold AN;rw[eF];have h1:(if t.1=h then [t.2] else []).length<=1:=by split<;>simp
   have h2:(if t.2=h then [t.1] else []).length<=1:=by split<;>simp
   omega
  unfold h_ at ih ⊢;rw[vL,eF,hX];omega
theorem ZL{ts:Xb}{t:Str × Str}(ht:ts[i]? = some t)(h:Str):h_ (ts.take (i+1)) h=(h_ (ts.take i) h++if h=t.1 then [t.2] else [])++if h=t.2 then [t.1] else []:=by
 unfold h_;rw[hV,ht,Option.toList_some,List.flatMap_append,vL,List.flatMap_nil,mJ,List.append_assoc];unfold AN;congr 1;congr 1
 ·by_cases z:h=t.1
  ·rw[aC z,aC z.symm]
  ·rw[ao z,ao λy=>z y.symm]
 ·by_cases z:h=t.2
  ·rw[aC z,aC z.symm]
  ·rw[ao z,ao λy=>z y.symm]
theorem Rt{α β γ δ:Type}{F:α->γ->Prop}{G:α->δ->Prop}{g:β->γ}{k:β->δ}:∀{ys:List α} {ts:List β},Paired F ys (ts.map g)->(∀y t,F y (g t)->G y (k t))->Paired G ys (ts.map k)
 |_,[],t,_=>by rw[List.map_nil] at t;cases t;exact .nil
 |_,b::ts,t,f=>by
  rw[dN] at t;cases t with
  |cons h r=>rw[dN];exact .cons (f _ _ h) (Rt r f)
theorem hsK{hs:Xa}(nd:(hs.map (·.1)).Nodup):(hs.map λh=>((Sum.inr h.1:Key),V.int h.2))=bq (hs.map (·.1)) λn=>.int (strOf hs n):=by
 unfold bq;rw[bK]
 exact pA λh hh=>by
  show _=((Sum.inr h.1:Key),V.int (strOf hs h.1));rw[QX nd (show (h.1,h.2)∈hs from hh)]
theorem KP(nd:ns.Nodup)(g:Str->V):((bq ns g).map (·.1)).Nodup:=by
 rw[EF,pW,mM];exact nd.imp λn e=>n (hU e)
section
variable{P:Ad}{w:Af}{K:ag}{mg:Str->Option Aa}{base:Heap}
abbrev wN:List Str:=["_law_hands","_law_ties","_law_pieces","_law_near","_law_one","_law_other","_law_ways_here","_law_heavy","_law_name","_law_weight_here","_law_told","_law_found"]
theorem tU:bh wN ["_law_hands","_law_ties","_law_pieces"] (aU k9):=bu
inductive Ly (K:ag) (vs:List V) (H:Hp) (Q:VK) (E:XK):Prop
 |mk:∀(lh lt lp:Addr) (yh zs yp:List V) (hs:Xa) (ts:Xb) (ps:List Pc),vs=[.ref lh,.ref lt,.ref lp]->H lh=some (.lst yh)->aY K H yh (hs.map kH)->H lt=some (.lst zs)->aY K H zs (ts.map kT)->H lp=some (.lst yp)->jY K H yp ps->Good hs ts->(ps.map (·.1)).Nodup->ps.length<=30->(∀w H',aa H H'->H w=none->tR K H' w hs ts ps->Q (.ref w) H')->Ly K vs H Q E
theorem ZN(F:a9 K "_law_world" "_law_world" k9 f0 fd)(B:Bi mg):ai P w K mg base aR 1 f0 fd ["_law_hands","_law_ties","_law_pieces"] (Ly K):=by
 refine F.bt tU λaL A outer s H vs Q E hr h=>?_
 ·obtain⟨lh,lt,lp,yh,zs,yp,hs,ts,ps,rfl,g7,th,cb,tt,PM,pc,Gd,Oj,tF,k⟩:=h;have sz:=bU;have hu:=eS hr;refine' #[_,?r0,?kk]
  case' r0=>refine' au ?s1 ?r1
  case' r1=>refine' au ?s2 ?r2
  case' r2=>refine' au ?s3 ?r3
  case' r3=>refine' au ?s4 ?r4
  case' r4=>refine' au ?s5 ?r5
  case' r5=>refine' au ?s6 ?r6
  case' r6=>refine' au ?s7 (au ?s8 (aI ?s9))
  case s1=>exact bg 3 tU.nd (i_ (vK Z) (by rfl) B.dict sU (ae (iP ["_law_name","_law_strength"] 2 [] (dH (pv 0)) (λfp s H=>Bj (n:=2) (bY (fq 0) (bY (fq 1) gR))) (λfp s H=>gT) (λfp s H=>fA (ae (pv 0) (ae (d5 af) af)))) af))
  case' s2=>refine' eV eM Z (dH (pv 1)) (jO Z (bY (bV 4 tU.nd) (bY (bV 5 tU.nd) gR))) (au ?b1 (aI ?b2))
  case b1=>exact oE (mz o9 xr xt vA (eU hu (pv 3) (pv 4) (λ_ _=>rfl)) (ae (pv 5) af))
  case b2=>exact oE (mz o9 xr xt vA (eU hu (pv 3) (pv 5) (λ_ _=>rfl)) (ae (pv 4) af))
  case s3=>exact bg 6 tU.nd Al
  case s4=>exact bg 7 tU.nd Al
  case' s5=>refine' eV eM Z (dH (pv 2)) (jO Z (bY (bV 8 tU.nd) (bY (bV 9 tU.nd) (bY (bV 10 tU.nd) gR)))) (au ?c1 (aI ?c2))
  case c1=>exact o7 hu (pv 6) (pv 8) (pv 10) Z
  case c2=>exact o7 hu (pv 7) (pv 8) (pv 9) Z
  case s6=>exact bg 11 tU.nd (Ym (L0 dg (i_ (vK Z) (by rfl) B.dict sU (ae (pv 0) af)) (L0 dg (pv 3) (L0 dg (pv 1) Yc))) Z Z nofun (by decide))
  case s7=>exact o7 hu (pv 11) dg (pv 7) Z
  case s8=>exact o7 hu (pv 11) dg (pv 6) Z
  case s9=>exact ba (pv 11)
  case' kk=>skip
  have nd:=Gd.pJ;have h8:=Gd.h8;have F3:=bE th;rw[aq] at F3;refine#[_,Z,lh,Z,#[_,.of g7],λD hD=>?_];refine mK (own:=2) (fv:=[]) (xs:=yh) Z zw (λi out H'=>∃ad:Str->Addr,aa H H'/\H' D=some (.lst out)/\i5 K H' out (bq ((hs.map (·.1)).take i) λh=>.ref (ad h))/\tj H' ((hs.map (·.1)).take i) ad (λ_=>[])/\∀h∈(hs.map (·.1)).take i,H (ad h)=none/\ad h≠D) #[λ_=>D,aa.new hD,ay,.nil,#[by simp,by simp],by simp] (λi out H' _ ⟨_,sm,_⟩=>.of (sm _ _ g7)) (λout H2 ⟨ad,s2,ic,pa,ls,fr⟩=>?_) (λi x out H' hx ⟨ad,sm,hd,pa,ls,fr⟩=>?_);rotate_left
  ·obtain⟨h0,hh0,a,rfl,ha⟩:=ij th hx;have hn:(hs.map (·.1))[i]? = some h0.1:=by rw[dU,hh0];rfl
   have nn:h0.1∉(hs.map (·.1)).take i:=EW nd hn;refine#[_,#[a,_,_,Z,.of (sm _ _ (J3 ha)),Z],Z,λNx hN=>cZ ?_];refine#[_,Z,by show 0<=sizeLine;decide,λl nl=>?_];obtain⟨s3,e3⟩:=aO (o:=.lst []) nl;generalize upd H' l (.lst [])=H3 at s3 e3 ⊢;refine#[by show 2<=sizeLine;decide,λt nt=>?_];obtain⟨s4,e4⟩:=aO (o:=.tup [.str h0.1,.ref l]) nt;generalize upd H3 t (.tup [.str h0.1,.ref l])=H4 at s4 e4 ⊢;have gm:=s3.trans s4;have sH:=gm _ _ hd;have lD:l≠D:=λz=>by rw[z,hd] at nl;cases nl
   have Fk:∀h∈(hs.map (·.1)).take i,ad h≠l:=λh hh z=>by
    have:=ls.1 h hh;rw[z,nl] at this;cases this
   have lo:=bE pa;rw[fP,cj,aq] at lo
   have pD:∀{b:Addr} {zs:List V},H4 b=some (.tup zs)->b≠D:=λhb z=>by
    rw[z,sH] at hb;cases hb
   have ne:∀h∈(hs.map (·.1)).take i,h≠h0.1:=λh hh z=>nn (z▸hh);refine#[out,sH,by omega,hN (out++[.ref t]) _ #[λm=>if m=h0.1 then l else ad m,gh (sm.trans gm) hD,ay,?_,#[λh hh=>?_,λh hh h' oj z=>?_],λh hh=>?_]]
   ·have e:bq ((hs.map (·.1)).take (i+1)) (λh=>.ref (if h=h0.1 then l else ad h))=bq ((hs.map (·.1)).take i) (λh=>.ref (ad h))++[(Sum.inr h0.1,.ref l)]:=by
     rw[gi hn];unfold bq;rw[bX,dN,List.map_nil];dsimp only;rw[aC Z];congr 1;exact pA λm hm=>by rw[ao (ne m hm)]
    rw[e];exact kn (Paired.bo pa λy kv ⟨b,z,hb⟩=>#[b,z,by rw[ax (pD (gm _ _ hb))];exact gm _ _ hb]) (.cons #[t,Z,by rw[ax (pD e4)];exact e4] .nil)
   ·rw[gi hn] at hh;rcases eK.mp hh with hh|hh
    ·dsimp only;rw[ao (ne h hh),ax (fr h hh).2];exact gm _ _ (ls.1 h hh)
    ·have z:=pf.mp hh;dsimp only;rw[aC z,ax lD];exact s4 _ _ e3
   ·rw[gi hn] at hh oj;dsimp only at z;rcases eK.mp hh with a1|a1<;>rcases eK.mp oj with a2|a2
    ·rw[ao (ne h a1),ao (ne h' a2)] at z;exact ls.2 h a1 h' a2 z
    ·have a2:h'=h0.1:=by simpa using a2
     rw[ao (ne h a1),aC a2] at z;exact absurd z (Fk h a1)
    ·have a1:h=h0.1:=by simpa using a1
     rw[ao (ne h' a2),aC a1] at z;exact absurd z.symm (Fk h' a2)
    ·rw[show h=h0.1 by simpa using a1,show h'=h0.1 by simpa using a2]
   ·rw[gi hn] at hh;dsimp only;rcases eK.mp hh with hh|hh
    ·rw[ao (ne h hh)];exact fr h hh
    ·have z:=pf.mp hh;rw[aC z];exact#[sm.free nl,lD]
  rw[show yh.length=(hs.map (·.1)).length by rw[aq,F3],dG] at pa ls fr;have n8:(hs.map (·.1)).length<=8:=by rw[aq];exact h8
  refine#[D,out,_,Z,ic,pa,by rw[fP];omega,λdn Jn=>?_];rw[vI (KP nd _)];refine setG ?_;dsimp only;have s3:=aa.new (o:=.dK (bq (hs.map (·.1)) λh=>V.ref (ad h))) Jn;have N0:pZ H (upd H2 dn (.dK (bq (hs.map (·.1)) λh=>V.ref (ad h)))) dn ad (hs.map (·.1)) (h_ (ts.take 0)):=#[s2.trans s3,ay,#[λh hh=>s3 _ _ (ls.1 h hh),ls.2],s2.free Jn,λh hh=>(fr h hh).1];generalize upd H2 dn (.dK (bq (hs.map (·.1)) λh=>V.ref (ad h)))=H3 at N0 ⊢;clear s2 s3 ic pa ls fr hD Jn;refine dq (λσ H'=>∃(v4 v5:Option V),σ=[some (.ref lh),some (.ref lt),some (.ref lp),some (.ref dn),v4,v5,none,none,none,none,none,none]/\pZ H H' dn ad (hs.map (·.1)) (h_ ts)) ?m2 ?m1
  case m1=>
   intro N1 hN;have lz:=bE tt;rw[aq] at lz;have xR:=Gd.xR;refine#[_,Z,lt,Z,#[_,.of (N0.sm _ _ cb)],gF (K:=K) (a:=lt) (xs:=zs) (λi σ H'=>∃(v4 v5:Option V),σ=[some (.ref lh),some (.ref lt),some (.ref lp),some (.ref dn),v4,v5,none,none,none,none,none,none]/\pZ H H' dn ad (hs.map (·.1)) (h_ (ts.take i))) #[none,none,Z,N0] (λi σ H' _ ⟨_,_,_,N⟩=>.of (N.sm _ _ cb)) ?_ ?_]
   ·rintro i x σ H4 hx ⟨v4,v5,rfl,N⟩;obtain⟨t,ht,a,rfl,ha⟩:=ij tt hx;have uR:=Gd.xK t (cn ht);have H_:=(Gd.tok t (cn ht)).2.2;refine#[a,_,Z,.of (N.sm _ _ (sk ha)),Z,_,_,Z,_,_,Z,Z,?_];dsimp only;have hi:i<ts.length:=(bP.mp ht).1;have l1:=Qo (ts.take i) t.1;have l2:=Qo (ts.take i) t.2;rw[cj] at l1 l2;have e1:=N.ls.1 _ uR.1;have N2:=N.app (m:=t.2) uR.1;have e2:=N2.ls.1 _ uR.2;refine#[_,Z,_,Z,dn,_,Z,jI N.nr uR.1,.inl #[Z,_,.of e1],_,Z,ad t.1,_,_,Z,Z,e1,by rw[aq];omega,?_];refine#[_,Z,_,Z,dn,_,Z,jI N2.nr uR.2,.inl #[Z,_,.of e2],_,Z,ad t.2,_,_,Z,Z,e2,?_,?_]
    ·have z:¬t.2=t.1:=λz=>H_ z.symm;rw[aq];simp only[ao z];omega
    refine#[_,_,Z,(N2.app (m:=t.1) uR.2).to λh=>?_];show (if h=t.2 then (if h=t.1 then h_ (ts.take i) h++[t.2] else h_ (ts.take i) h)++[t.1] else if h=t.1 then h_ (ts.take i) h++[t.2] else h_ (ts.take i) h)=_;rw[ZL ht];by_cases z1:h=t.1
    ·rw[ao (c:=h=t.2) (λz=>H_ (z1.symm.trans z)),aC z1,ao (c:=h=t.2) (λz=>H_ (z1.symm.trans z)),aC z1,mJ]
    ·by_cases z2:h=t.2
     ·rw[aC z2,ao z1,aC z2,ao z1,mJ]
     ·rw[ao z2,ao z1,ao z2,ao z1,mJ,mJ]
   ·rintro σ H4 ⟨v4,v5,rfl,N⟩;rw[lz,dG] at N;exact hN _ _ #[_,_,Z,N]
  rintro σ H4 ⟨v4,v5,rfl,N⟩;refine λdy ny=>?_;refine setG ?_;dsimp only;obtain⟨s5,e5⟩:=aO (o:=.dK []) ny;generalize upd H4 dy (.dK [])=H5 at s5 e5 ⊢;refine λdh nh=>?_;refine setG ?_;dsimp only;obtain⟨s6,e6⟩:=aO (o:=.dK []) nh;generalize upd H5 dh (.dK [])=H6 at s6 e6 ⊢;have N6:=(N.same s5).same s6;have hy:dh≠dy:=λz=>by rw[z,e5] at nh;cases nh
  have fy:H dy=none:=N.sm.free ny;have fh:H dh=none:=(N.sm.trans s5).free nh;have ye:=s6 _ _ e5;have V4:∀{b:Addr} {o:HO},H4 b=some o->b≠dy:=λe z=>by rw[z,ny] at e;cases e
  have V5:∀{b:Addr} {o:HO},H4 b=some o->b≠dh:=λe z=>by rw[z] at e;have:=s5 _ _ e;rw[nh] at this;cases this
  refine dq (λσ H'=>∃(v4 v5 v8 v9 v10:Option V) (gy:Str->V),σ=[some (.ref lh),some (.ref lt),some (.ref lp),some (.ref dn),v4,v5,some (.ref dy),some (.ref dh),v8,v9,v10,none]/\aa H4 H'/\H' dh=some (.dK (bq (ps.map (·.1)) λn=>.int (fN ps n)))/\H' dy=some (.dK (bq (ps.map (·.1)) gy))/\∀q∈ps,bJ K H' (gy q.1) q.2.2) ?m4 ?m3
  case m3=>
   intro N1 hN;have lz:=bE pc;refine#[_,Z,lp,Z,#[_,.of (N6.sm _ _ PM)],gF (K:=K) (a:=lp) (xs:=yp) (λi σ H'=>∃(v8 v9 v10:Option V) (gy:Str->V),σ=[some (.ref lh),some (.ref lt),some (.ref lp),some (.ref dn),v4,v5,some (.ref dy),some (.ref dh),v8,v9,v10,none]/\aa H4 H'/\H' dh=some (.dK (bq ((ps.map (·.1)).take i) λn=>.int (fN ps n)))/\H' dy=some (.dK (bq ((ps.map (·.1)).take i) gy))/\∀q∈ps.take i,bJ K H (gy q.1) q.2.2) #[none,none,none,λ_=>.non,Z,s5.trans s6,e6,ye,by simp] (λi σ H' _ ⟨_,_,_,_,_,sm,_⟩=>.of (sm _ _ (N.sm _ _ PM))) ?_ ?_]
   ·rintro i x σ H7 hx ⟨v8,v9,v10,gy,rfl,sm,zN,zL,wy⟩;obtain⟨q,hq,a,v,rfl,ha,wv⟩:=ij (g:=id) (by rw[List.map_id];exact pc) hx;have hn:(ps.map (·.1))[i]? = some q.1:=by rw[dU,hq];rfl
    have hi:i<ps.length:=(bP.mp hq).1;have nn:=EW Oj hn;have ne:∀m∈(ps.map (·.1)).take i,m≠q.1:=λm hm z=>nn (z▸hm);refine#[a,_,Z,.of (sm _ _ (N.sm _ _ ha)),Z,_,_,Z,_,_,Z,_,_,Z,Z,?_];dsimp only;refine#[_,Z,_,Z,_,Z,dy,_,Z,.k (k:=Sum.inr q.1) zL (by rw[fP,cj,aq];omega),?_];have dh8:upd H7 dy (.dK (putK (bq ((ps.map (·.1)).take i) gy) (Sum.inr q.1) v)) dh=some (.dK (bq ((ps.map (·.1)).take i) λn=>.int (fN ps n))):=by rw[ax hy];exact zN
    refine#[_,Z,_,Z,_,Z,dh,_,Z,.k (k:=Sum.inr q.1) dh8 (by rw[fP,cj,aq];omega),?_];refine#[_,_,_,λm=>if m=q.1 then v else gy m,Z,λb o e=>?_,?_,?_,λq' hq'=>?_]
    ·rw[ax (V5 e),ax (V4 e)];exact sm _ _ e
    ·rw[ay,GF nn,gi hn];refine dF (λx=>some (HO.dK x)) (Bu λm hm=>?_);by_cases z:m=q.1
     ·rw[aC z,z,A6 Oj (cn hq)];rfl
     ·rw[ao z]
    ·rw[ax hy.symm,ay,GF nn,gi hn]
    ·dsimp only;rw[hV,hq,Option.toList_some] at hq';rcases eK.mp hq' with hq'|hq'
     ·rw[ao (ne _ (by rw[<- List.map_take];exact a_.mpr #[_,hq',Z]))];exact wy q' hq'
     ·obtain rfl:=pf.mp hq';rw[aC Z];exact wv
   ·rintro σ H7 ⟨v8,v9,v10,gy,rfl,sm,zN,zL,wy⟩;rw[lz] at zN zL wy;rw[vM (by rw[aq];exact aZ _)] at zN zL;rw[dG] at wy;exact hN _ _ #[_,_,_,_,_,gy,Z,sm,zN,zL,λq hq=>(wy q hq).same (N.sm.trans sm)]
  rintro σ H7 ⟨v4,v5,v8,v9,v10,gy,rfl,sm,zN,zL,wy⟩;refine λwa nw=>?_;obtain⟨s8,e8⟩:=aO (o:=.dK []) nw;generalize upd H7 wa (.dK [])=H8 at s8 e8 ⊢;have Of:=(N.sm.trans sm).trans s8
  have kvs:i5 K H8 yh (hs.map λh=>((Sum.inr h.1:Key),V.int h.2)):=by
   exact Rt th λy h ⟨b,z,q⟩=>#[b,z,Of _ _ (J3 q)]
  refine#[_,Z,lh,yh,_,Z,Of _ _ g7,kvs,by rw[aq];omega,λds Jm=>?_];rw[hsK nd,vI (KP nd _)];obtain⟨s9,e9⟩:=aO (o:=.dK (bq (hs.map (·.1)) λn=>V.int (strOf hs n))) Jm;generalize upd H8 ds (.dK (bq (hs.map (·.1)) λn=>V.int (strOf hs n)))=H9 at s9 e9 ⊢;refine#[_,Z,_,Z,s9 _ _ e8,[((.inr "strength":Key),V.ref ds),(.inr "near",.ref dn),(.inr "ties",.ref lt)],Z,by show 3<=15;decide,?_];refine setG ?_;dsimp only;refine#[_,Z,_,Z,wa,_,Z,.k (k:=Sum.inr "heavy") ay (by show 3<sizeLine;decide),?_];refine#[_,Z,_,Z,wa,_,Z,.k (k:=Sum.inr "ways") ay (by show 4<sizeLine;decide),?_];have CO:H wa=none:=(N.sm.trans sm).free nw;have new:∀{b:Addr} {o:HO},H7 b=some o->b≠wa:=λe z=>by rw[z,nw] at e;cases e
  have Ln:ds≠wa:=λz=>by rw[z,e8] at Jm;cases Jm
  have up:∀{b:Addr} {o:HO},H7 b=some o->upd (upd (upd H9 wa (.dK (oB [] [((.inr "strength":Key),V.ref ds),(.inr "near",.ref dn),(.inr "ties",.ref lt)]))) wa (.dK (putK (oB [] [((.inr "strength":Key),V.ref ds),(.inr "near",.ref dn),(.inr "ties",.ref lt)]) (Sum.inr "heavy") (.ref dh)))) wa (.dK (putK (putK (oB [] [((.inr "strength":Key),V.ref ds),(.inr "near",.ref dn),(.inr "ties",.ref lt)]) (Sum.inr "heavy") (.ref dh)) (Sum.inr "ways") (.ref dy))) b=some o:=λ{b o} e=>by
   rw[ax (new e),ax (new e),ax (new e)];exact s9 _ _ (s8 _ _ e)
  refine#[_,Z,k wa _ (λb o e=>up (sm _ _ (N.sm _ _ e))) CO #[ds,dn,lt,dh,dy,ad,gy,?_,?_,up (sm _ _ N.nr),λh hh=>up (sm _ _ (N.ls.1 h hh)),up zN,up zL,λq hq=>?_]]
  ·rw[ay,Zn]
  ·rw[ax Ln,ax Ln,ax Ln];exact e9
  ·exact (wy q hq).same λb o e=>up e
end
end Ev
namespace L2
open PySem PySem.Spec PyProof.Rows PySem.W
theorem Z5{d:Addr}{o:Obj}{kvs:List (Key × V)}{g:TG}{tb:TS}{D:Ends}{σ:St}{H:Hp}(Pv:Nat->St->Hp->Prop)(h0:Pv 0 σ H)(hl:∀i σ H,i<=kvs.length->Pv i σ H->H d=some (.frz o (.dK kvs)))
  (hs:∀i k x σ H,kvs[i]? = some (k,x)->Pv i σ H->g (kV k) σ H λfC H2=>tb { D with nx:=Pv (i+1),ct:=Pv (i+1),bk:=D.nx } fC H2) (hd:∀σ H,Pv kvs.length σ H->D.nx σ H) :
  ∃W:Nat->Nat->St->Hp->Prop,(∃m,W 0 m σ H)/\∀i m σ H,W i m σ H->
   ((BL d o kvs).stop i H/\D.nx σ H)∨((BL d o kvs).go i H/\∃N:St->Hp->Prop,(∀bf H',N bf H'->∃m',m'<m/\W (i+1) m' bf H')/\∀x H',(BL d o kvs).ui i H x H'->g x σ H' λfC H2=>tb { D with nx:=N,ct:=N,bk:=D.nx } fC H2):=by
 refine#[λi m σ H=>m=kvs.length - i/\i<=kvs.length/\Pv i σ H,#[kvs.length,by simp,fB _,h0],?_];rintro i m σ H ⟨rfl,hi,p⟩;have q:=hl i σ H hi p;by_cases cb:i<kvs.length
 ·refine .inr #[#[q,cb],Pv (i+1),λbf H' p'=>#[kvs.length - (i+1),by omega,Z,cb,p'],λx H' y=>?_];obtain⟨rfl,k,v,hx,rfl⟩:=y;exact hs i k v σ _ hx p
 ·have e:i=kvs.length:=by omega
  subst e;exact .inl #[#[q,aZ _],hd σ H p]
end L2
namespace Ev
open PySem L2
variable{ns:List Str}
theorem Zv{H:Hp}{d:Addr}{g:Str->V}{n:Str}(r:Rd H d (.dK (bq ns g)))(h:n∈ns):cm H d (.str n) (some (g n)):=by
 rw[<- Ar (g:=g) h];exact .inl #[_,Sum.inr n,r,Z,Z]
structure Pw (hs:Xa) (ts:Xb) (ps:List Pc) (f:Str->Str):Prop where
 Gd:Good hs ts
 gp:∀q∈ps,zS ts q
 nd:(ps.map (·.1)).Nodup
 tF:ps.length<=30
 at_:∀n∈ps.map (·.1),f n∈hs.map (·.1)
abbrev zk(ps:List Pc)(f:Str->Str)(n:Str):Int:=ld f (ps.map fu) n
theorem Pw.sx{hs:Xa}{ts:Xb}{ps:List Pc}{f:Str->Str}(W:Pw hs ts ps f)(n:Str):0<=zk ps f n/\zk ps f n<=64000000000:=F8 (λq hq=>#[by have:=(W.gp q hq).w1;omega,(W.gp q hq).w2]) (by have:=W.tF;omega) f n
theorem Pw.cu{hs:Xa}{ts:Xb}{ps:List Pc}{f:Str->Str}(W:Pw hs ts ps f){n:Str}(h:n∈hs.map (·.1)):1<=strOf hs n/\strOf hs n<=1000:=(W.Gd.aF _ (vE h)).2
theorem XB{ps:List Pc}{f:Str->Str}{n:Str}{kvs:List (Key × V)}(hn:n∈ps.map (·.1))(h:∀x∈kvs,∃a,x.2=V.ref a)(e:kvs=dE (ps.map (·.1)) f):False:=by
 have m:((Sum.inr n:Key),V.str (f n))∈kvs:=by
  rw[e];exact a_.mpr #[n,hn,Z]
 obtain⟨a,z⟩:=h _ m;cases z
theorem Xg{f:Str->Str}{g:Str->Int}{n:Str}(hn:n∈ns)(e:bq ns (λn=>.int (g n))=dE ns f):False:=by
 have m:((Sum.inr n:Key),V.str (f n))∈bq ns (λn=>.int (g n)):=by
  rw[e];exact a_.mpr #[n,hn,Z]
 obtain⟨k,_,z⟩:=a_.mp m;cases (Prod.mk.inj z).2
variable{f0:Addr}{fd:Ae}
section
variable{P:Ad}{w:Af}{K:ag}{mg:Str->Option Aa}{base:Heap}
abbrev hdN:List Str:=["_law_world_here","_law_stand","_law_found","_law_piece"]
theorem k8:bh hdN ["_law_world_here","_law_stand"] (aU rg):=bu
inductive kW (K:ag) (vs:List V) (H:Hp) (Q:VK) (E:XK):Prop
 |mk:∀(wa sd:Addr) (hs:Xa) (ts:Xb) (ps:List Pc) (f:Str->Str),vs=[.ref wa,.ref sd]->tR K H wa hs ts ps->Pw hs ts ps f->H sd=some (.dK (dE (ps.map (·.1)) f))->(∀d H',aa H H'->H d=none->H' d=some (.dK (bq (hs.map (·.1)) λn=>.int (zk ps f n)))->Q (.ref d) H')->kW K vs H Q E
theorem Yj(F:a9 K "_law_held" "_law_held" rg f0 fd)(B:Bi mg):ai P w K mg base aR 1 f0 fd ["_law_world_here","_law_stand"] (kW K):=by
 refine F.bt k8 λaL A outer s H vs Q E hr h=>?_
 ·obtain⟨wa,sd,hs,ts,ps,f,rfl,⟨ds,dn,lt,dh,dy,ad,gy,W⟩,Pp,yU,k⟩:=h;have sz:=bU;have hu:=eS hr;refine' #[_,au ?s1 (au ?s2 (aI ?s3)),?kk]
  case s1=>exact GJ (bg 2 k8.nd (i_ (vK Z) (by rfl) B.dict sU (ae (iP ["_law_name"] 1 [] (Pt (eU hu (pv 0) dg (λ_ _=>rfl))) (λfp s H=>fq 0) (λfp s H=>gT) (λfp s H=>fA (ae (pv 0) (ae aE af)))) af)))
  case s2=>exact GJ (eV eM Z (Pt (pv 1)) (bV 3 k8.nd) (aI (Yw hu (pv 2) (eU hu (pv 1) (pv 3) (λ_ _=>rfl)) (eU hu (eU hu (pv 0) dg (λ_ _=>rfl)) (pv 3) (λ_ _=>rfl)) Xe (λ_ _ _=>rfl))))
  case s3=>exact ba (pv 2)
  case' kk=>skip
  have pJ:=Pp.Gd.pJ;have h8:(hs.map (·.1)).length<=8:=by rw[aq];exact Pp.Gd.h8
  refine#[ds,_,W.sg,?_];refine#[_,Z,wa,_,Z,W.gS,ds,_,Z,W.sg,λo D hD=>?_]
  have HR:D≠ds:=by
   intro z;rw[z,ay] at hD;cases hD
  have KJ:H D=none:=by rw[ax HR] at hD;exact hD
  refine hh_ (own:=1) (fv:=[]) Z eD (λi out H'=>Fz ds o (bq (hs.map (·.1)) λn=>.int (strOf hs n)) H H'/\H' D=some (.lst out)/\i5 K H' out (bq ((hs.map (·.1)).take i) λ_=>.int 0)) #[Fz.start.put KJ HR,ay,.nil] (λi out H' _ ⟨z,_,_⟩=>z.at_) (λout H2 ⟨fz,ic,pa⟩=>?_) (λi ky x out H' hx ⟨fz,e_,pa⟩=>?_);rotate_left 1
  ·obtain⟨n,hn,rfl,rfl⟩:=Ey hx;have hi:i<(hs.map (·.1)).length:=(bP.mp hn).1;refine#[_,Z,Z,λNx hN=>cZ ?_];refine#[_,Z,by show 2<=sizeLine;decide,λt ht=>?_];have s5:=aa.new (o:=.tup [.str n,.int 0]) ht;have lo:=bE pa;rw[fP,cj] at lo;refine#[out,s5 _ _ e_,by omega,hN _ _ #[(fz.step s5).put KJ HR,ay,?_]];have wW:upd H' t (.tup [.str n,.int 0]) t=some (.tup [.str n,.int 0]):=ay;have pD:∀{b:Addr} {ys:List V},upd H' t (.tup [.str n,.int 0]) b=some (.tup ys)->b≠D:=λhb=>bZ hb (s5 _ _ e_) nofun;rw[gi hn];show i5 K _ _ (((hs.map (·.1)).take i++[n]).map _);rw[bX];exact kn (Paired.bo pa λy kv ⟨b,z,hb⟩=>#[b,z,by rw[ax (pD (s5 _ _ hb))];exact s5 _ _ hb]) (.cons #[t,Z,by rw[ax (pD wW)];exact wW] .nil)
  rw[fP,dG] at pa;refine#[D,out,_,Z,ic,pa,by rw[fP];omega,λdf wK=>?_];rw[vI (KP pJ _)];have vn:df≠ds:=λz=>by rw[z,fz.at_] at wK;cases wK
  have jx:H df=none:=by
   cases e:H df with
   |none=>rfl
   |some u=>have:=fz.sm _ _ vn e;rw[wK] at this;cases this
  have KW:Fz ds o (bq (hs.map (·.1)) λn=>.int (strOf hs n)) H (upd H2 df (.dK (bq (hs.map (·.1)) λ_=>.int 0))):=fz.put jx vn;refine setG ?_;dsimp only;refine#[o,KW.at_,?_];have s3:=KW.kC W.sg;have e3:upd (upd H2 df (.dK (bq (hs.map (·.1)) λ_=>.int 0))) ds (.dK (bq (hs.map (·.1)) λn=>.int (strOf hs n))) df=some (.dK (bq (hs.map (·.1)) λ_=>.int 0)):=by rw[ax vn,ay]
  generalize upd (upd H2 df (.dK (bq (hs.map (·.1)) λ_=>.int 0))) ds (.dK (bq (hs.map (·.1)) λn=>.int (strOf hs n)))=H3 at s3 e3 ⊢;clear KW fz pa ic hD KJ wK vn HR;have W3:=W.same s3;have uU:=s3 _ _ yU;have zO:df≠sd:=(bI yU jx).symm;have dwd:wa≠df:=bI W.top jx;have dhd:dh≠df:=bI W.hv jx;refine#[sd,_,uU,?_];refine#[_,Z,sd,_,Z,uU,λo2=>?_];refine Z5 (λi σ H'=>∃v3:Option V,σ=[some (.ref wa),some (.ref sd),some (.ref df),v3]/\H' sd=some (.frz o2 (.dK (dE (ps.map (·.1)) f)))/\(∀b u,b≠sd->b≠df->H3 b=some u->H' b=some u)/\H' df=some (.dK (bq (hs.map (·.1)) λn=>.int (ld f ((ps.take i).map fu) n)))) #[none,Z,ay,λb u n1 n2 e=>by rw[ax n1];exact e,by rw[ax zO];exact e3] (λi σ H' _ ⟨_,_,z,_⟩=>z) ?_ ?_
  ·rintro i ky x σ H4 hx ⟨v3,rfl,fz,kp,jF⟩;obtain⟨n,hn,rfl,rfl⟩:=Ey hx;have nm:=cn hn;rw[dU,Option.map_eq_some_iff] at hn;obtain⟨q,hq,rfl⟩:=hn;have hqm:=cn hq;have fm:=Pp.at_ _ nm;have HZ:H4 wa=some (.dK (uk ds dn lt dh dy)):=kp _ _ (λz=>XB (ps:=ps) (f:=f) nm (λx hx=>by simp only[uk,bO,vJ,or_false] at hx;rcases hx with rfl|rfl|rfl|rfl|rfl<;>exact#[_,Z]) (HO.dK.inj (dW ((z▸W3.top).symm.trans uU)))) dwd W3.top
   have JU:H4 dh=some (.dK (bq (ps.map (·.1)) λn=>.int (fN ps n))):=kp _ _ (λz=>Xg nm (HO.dK.inj (dW ((z▸W3.hv).symm.trans uU)))) dhd W3.hv;refine setG ?_;dsimp only;refine#[_,Z,_,Z,_,Z,sd,_,Z,Zv (.inr #[o2,fz]) nm,df,_,Z,jI jF fm,?_];refine#[_,Z,wa,_,Z,cm.k (k:=Sum.inr "heavy") HZ,_,Z,dh,_,Z,jI JU nm,?_];refine#[_,_,Z,Z,_,.k (k:=Sum.inr (f q.1)) jF (by rw[fP];omega),?_];refine#[_,Z,by rw[ax zO.symm];exact fz,λb u n1 n2 e=>by rw[ax n2];exact kp b u n1 n2 e,?_];rw[ay,K7 fm];refine dF (λx=>some (HO.dK x)) (Bu λm hm=>?_);rw[hV,hq,Option.toList_some,bX,dN,List.map_nil,QE];by_cases z:m=f q.1
   ·rw[aC z,aC (show m=f (fu q).1 from z),z,A6 Pp.nd hqm];rfl
   ·rw[ao z,ao (show ¬m=f (fu q).1 from z)]
  ·rintro σ H4 ⟨v3,rfl,fz,kp,jF⟩;rw[fP,aq,dG] at jF;refine#[o2,fz,_,Z,k df _ (λb u e=>?_) jx (by rw[ax zO];exact jF)];by_cases z:b=sd
   ·rw[z] at e ⊢;rw[yU] at e;rw[ay];exact e
   ·rw[ax z];exact kp b u z (bI e jx) (s3 _ _ e)
def sL(hs:Xa)(ps:List Pc)(f:Str->Str)(a b:Str):Int:=zk ps f a * strOf hs b - zk ps f b * strOf hs a
theorem qM:bh ["_law_world_here","_law_held_here","_law_one","_law_other","_law_strength"] ["_law_world_here","_law_held_here","_law_one","_law_other"] (aU rA):=bu
inductive kZ (K:ag) (vs:List V) (H:Hp) (Q:VK) (E:XK):Prop
 |mk:∀(wa d:Addr) (a b:Str) (hs:Xa) (ts:Xb) (ps:List Pc) (f:Str->Str),vs=[.ref wa,.ref d,.str a,.str b]->tR K H wa hs ts ps->Pw hs ts ps f->H d=some (.dK (bq (hs.map (·.1)) λn=>.int (zk ps f n)))->a∈hs.map (·.1)->b∈hs.map (·.1)->Q (.int (sL hs ps f a b)) H->kZ K vs H Q E
theorem Y2(F:a9 K "_law_drop" "_law_drop" rA f0 fd):ai P w K mg base aR 1 f0 fd ["_law_world_here","_law_held_here","_law_one","_law_other"] (kZ K):=by
 refine F.bt qM λaL A outer s H vs Q E hr h=>?_
 ·obtain⟨wa,d,a,b,hs,ts,ps,f,rfl,⟨ds,dn,lt,dh,dy,ad,gy,W⟩,Pp,hd,ha,hb,k⟩:=h;have hu:=eS hr;refine' #[_,au ?s1 (aI ?s2),?kk]
  case s1=>exact bg 4 qM.nd (eU hu (pv 0) dg (λ_ _=>rfl))
  case s2=>exact ba (bw Kl (bw ki (eU hu (pv 1) (pv 2) (λ_ _=>rfl)) (eU hu (pv 4) (pv 3) (λ_ _=>rfl))) (bw ki (eU hu (pv 1) (pv 3) (λ_ _=>rfl)) (eU hu (pv 4) (pv 2) (λ_ _=>rfl))))
  case' kk=>skip
  have h1:=Pp.sx a;have h2:=Pp.sx b;have e1:=Pp.cu ha;have e2:=Pp.cu hb;refine#[_,Z,wa,_,Z,W.gS,?_];refine setG ?_;dsimp only;refine#[_,Z,_,Z,d,_,Z,jI hd ha,_,Z,_,Z,ds,_,Z,jI W.sg hb,_,_,Z,Z,.inr #[by omega,by omega],?_];exact#[_,Z,_,Z,d,_,Z,jI hd hb,_,Z,_,Z,ds,_,Z,jI W.sg ha,_,_,Z,Z,.inr #[by omega,by omega],_,_,Z,Z,k]
def lX(ts:Xb)(ps:List Pc)(n a b:Str):Bool:=decide (b∈h_ ts a)&&match xG ps n with
 |none=>true
 |some ws=>decide ((a,b)∈ws) || decide ((b,a)∈ws)
theorem qF:bh ["_law_world_here","_law_piece","_law_one","_law_other","_law_ways_here"] ["_law_world_here","_law_piece","_law_one","_law_other"] (aU qW):=bu
inductive kP (K:ag) (vs:List V) (H:Hp) (Q:VK) (E:XK):Prop
 |mk:∀(wa:Addr) (n a b:Str) (hs:Xa) (ts:Xb) (ps:List Pc) (f:Str->Str),vs=[.ref wa,.str n,.str a,.str b]->tR K H wa hs ts ps->Pw hs ts ps f->n∈ps.map (·.1)->a∈hs.map (·.1)->(∀H',aa H H'->Q (.bl (lX ts ps n a b)) H')->kP K vs H Q E
theorem YN(F:a9 K "_law_may" "_law_may" qW f0 fd):ai P w K mg base aR 1 f0 fd ["_law_world_here","_law_piece","_law_one","_law_other"] (kP K):=by
 refine F.bt qF λaL A outer s H vs Q E hr h=>?_
 ·obtain⟨wa,n,a,b,hs,ts,ps,f,rfl,⟨ds,dn,lt,dh,dy,ad,gy,W⟩,Pp,hn,ha,k⟩:=h;have hu:=eS hr;refine' #[_,au ?s1 (au ?s2 (aI ?s3)),?kk]
  case s1=>exact bg 4 qF.nd (eU hu (eU hu (pv 0) dg (λ_ _=>rfl)) (pv 1) (λ_ _=>rfl))
  case s2=>exact bC (cU (M5 eQ (pP hr 0)) (pv 3) (eU hu (eU hu (pv 0) dg (λ_ _=>rfl)) (pv 2) (λ_ _=>rfl)) (by with_unfolding_all rfl)) (aI (ba xf)) bD
  case s3=>exact ba (A9 (iQ Wx (pv 4) Gw (ak _)) (A9 (iQ (El (vv eQ eQ) (pP hr _)) (fA (ae (pv 2) (ae (pv 3) af))) (pv 4) (by with_unfolding_all rfl)) (mw (iQ (El (vv eQ eQ) (pP hr _)) (fA (ae (pv 3) (ae (pv 2) af))) (pv 4) (by with_unfolding_all rfl)))))
  case' kk=>skip
  obtain⟨q,hq,rfl⟩:=a_.mp hn;have wv:=W.wv q hq;have wn:=A_ Pp.nd hq;refine#[_,Z,wa,_,Z,W.gW,_,Z,dy,_,Z,jI W.wy hn,?_];refine setG ?_;dsimp only;refine#[_,Z,_,Z,wa,_,Z,W.gN,_,Z,dn,_,Z,jI W.nr ha,b,h_ ts a,Z,#[ad a,_,Z,.of (W.ls a ha),Bz _],_,Z,?_];have fin:∀{H1:Hp} {r:Bool},aa H H1->lX ts ps q.1 a b=r->Q (.bl r) H1:=λs e=>e▸k _ s;refine bp (λc=>?_) (λc=>?_)
  ·refine fin (aa.refl H) ?_;unfold lX;have c:¬b∈h_ ts a:=by simpa using c
   rw[dA c,Bool.false_and]
  ·have c:b∈h_ ts a:=by simpa using c
   have ml:lX ts ps q.1 a b=match q.2.2 with
    |none=>true
    |some ws=>decide ((a,b)∈ws) || decide ((b,a)∈ws):=by
    unfold lX;rw[bW c,Bool.true_and,wn]
   cases o:q.2.2 with
   |none=>
    rw[o] at wv ml;have wv:gy q.1=.non:=wv;refine#[_,Z,Z,_,Z,?_];rw[wv];exact fin (aa.refl H) ml
   |some ws=>
    rw[o] at wv ml;obtain⟨aw,ys,e,hw,tw⟩:=wv;refine#[_,Z,Z,_,Z,?_];rw[e];refine#[_,Z,_,Z,by show 2<=sizeLine;decide,λt1 n1=>?_];obtain⟨s1,e1⟩:=aO (o:=.tup [.str a,.str b]) n1;generalize upd H t1 (.tup [.str a,.str b])=H1 at s1 e1 ⊢;refine#[_,Z,(a,b),ws,#[t1,_,_,Z,.of e1,Z,Z],#[aw,ys,Z,.of (s1 _ _ hw),ES (tw.same s1)],_,Z,?_];refine bp (λc2=>?_) (λc2=>?_)
    ·refine fin s1 (ml.trans ?_);have c2:(a,b)∈ws:=by simpa using c2
     simp[c2]
    ·refine#[_,Z,_,Z,by show 2<=sizeLine;decide,λt2 n2=>?_];obtain⟨s2,e2⟩:=aO (o:=.tup [.str b,.str a]) n2;generalize upd H1 t2 (.tup [.str b,.str a])=H2 at s2 e2 ⊢;refine#[_,Z,(b,a),ws,#[t2,_,_,Z,.of e2,Z,Z],#[aw,ys,Z,.of (s2 _ _ (s1 _ _ hw)),ES (tw.same (s1.trans s2))],fin (s1.trans s2) (ml.trans ?_)];have c2:¬(a,b)∈ws:=by simpa using c2
     simp[c2]
end
variable{h x:Str}
theorem LH{t:Str × Str}:x∈AN h t ↔ t=(h,x)∨t=(x,h):=by
 obtain⟨a,b⟩:=t;unfold AN;rw[eK];constructor
 ·rintro (m|m)
  ·split at m
   ·rename_i z
    have z:a=h:=z;exact .inl (by rw[pf.mp m,z])
   ·cases m
  ·split at m
   ·rename_i z
    have z:b=h:=z;exact .inr (by rw[pf.mp m,z])
   ·cases m
 ·rintro (e|e)
  ·obtain⟨rfl,rfl⟩:=Prod.mk.inj e;exact .inl (by rw[aC Z];exact pf.mpr Z)
  ·obtain⟨rfl,rfl⟩:=Prod.mk.inj e;exact .inr (by rw[aC Z];exact pf.mpr Z)
theorem Xy{ts:Xb}:x∈h_ ts h ↔ (h,x)∈ts∨(x,h)∈ts:=by
 unfold h_;rw[List.mem_flatMap];constructor
 ·rintro⟨t,ht,m⟩;rcases LH.mp m with rfl|rfl
  ·exact .inl ht
  ·exact .inr ht
 ·rintro (m|m)
  ·exact#[_,m,LH.mpr (.inl Z)]
  ·exact#[_,m,LH.mpr (.inr Z)]
theorem WL{hs:Xa}{ts:Xb}(G:Good hs ts):x∈nb hs ts h ↔ x∈h_ ts h:=by
 show x∈(aA hs).filter _ ↔ _;rw[List.mem_filter,jP,Hd,Xy];constructor
 ·rintro⟨_,⟨a,b⟩,ht,e⟩;rcases KQ (a:=a) (b:=b) (c:=h) (d:=x) (by show kT (aH a b)=kT (aH h x);rw[<- e]) with⟨rfl,rfl⟩|⟨rfl,rfl⟩
  ·exact .inl ht
  ·exact .inr ht
 ·rintro (m|m)
  ·exact#[(hW hs).mem_iff.mpr (G.xK _ m).2,_,m,Z]
  ·exact#[(hW hs).mem_iff.mpr (G.xK _ m).1,_,m,Ho _ _]
section
variable{hs:Xa}{ts:Xb}{ps qs:List Pc}{f:Str->Str}
theorem O5(W:Pw hs ts ps f)(Q:Qs ps qs)(n:Str):zk ps f n=lo qs f n:=(Yd f (Q.ws W.nd) n).symm
theorem Yz(W:Pw hs ts ps f)(Q:Qs ps qs)(a b:Str):sL hs ps f a b=gI hs qs f a b:=by
 unfold sL gI;rw[O5 W Q,O5 W Q]
end
variable{n:Str}
variable{a b:Str}
section
variable{hs:Xa}{ts:Xb}{ps qs:List Pc}{f:Str->Str}
theorem Wl(Q:Qs ps qs)(h:n∈ps.map (·.1)):∃p∈ps,p.1=n/\wI p∈qs:=by
 have m:n∈qs.map (·.1):=by
  rw[Q.pG];exact (mI _).mem_iff.mpr h
 obtain⟨q,hq,rfl⟩:=a_.mp m;obtain⟨p,hp,e⟩:=Q.mem q hq;exact#[p,hp,by rw[e];rfl,by rw[<- e];exact hq]
theorem HV(W:Pw hs ts ps f)(Q:Qs ps qs)(h:n∈ps.map (·.1)):xG qs n=(xG ps n).map aK:=by
 obtain⟨p,hp,rfl,hq⟩:=Wl Q h;rw[A_ W.nd hp];exact A_ (q:=wI p) (Q.nd W.nd) hq
theorem um{ws:Xb}:aH a b∈aK ws ↔ (a,b)∈ws∨(b,a)∈ws:=by
 rw[Hd];constructor
 ·rintro⟨⟨x,y⟩,ht,e⟩;rcases KQ (a:=x) (b:=y) (c:=a) (d:=b) (by show kT (aH x y)=kT (aH a b);rw[<- e]) with⟨rfl,rfl⟩|⟨rfl,rfl⟩
  ·exact .inl ht
  ·exact .inr ht
 ·rintro (m|m)
  ·exact#[_,m,Z]
  ·exact#[_,m,Ho _ _]
theorem WW(W:Pw hs ts ps f)(Q:Qs ps qs)(h:n∈ps.map (·.1))(ha:a∈hs.map (·.1))(hb:b∈hs.map (·.1)):lX ts ps n a b=fV hs ts qs n a b:=by
 unfold lX fV tK;rw[E2,bW ha,bW hb,Bool.true_and,Bool.true_and,HV W Q h,decide_eq_decide.mpr (WL W.Gd)];congr 1;cases xG ps n with
 |none=>rfl
 |some ws=>
  show (decide ((a,b)∈ws) || decide ((b,a)∈ws))=decide (aH a b∈aK ws);rw[Bool.eq_iff_iff,Bool.or_eq_true,jP,jP,jP];exact um.symm
end
def Gp:List Str:=["high","fall","calm"]
def pF(i:Nat):List Str:=(["shares one","shares all"]:List Str)++(Gp.take i).flatMap λg=>[("turns ":Str)++g,("least one ":Str)++g,("least all ":Str)++g,("below one ":Str)++g,("below all ":Str)++g]
theorem XQ:∀x∈pF 3,∃r∈rl,r.1=x:=by decide +kernel
theorem Yv:(pF 3).length=17:=by decide +kernel
theorem Xo:∀g∈Gp,g.length<=10:=by decide +kernel
theorem YI:("turns ":Str).length<=20/\("least one ":Str).length<=20/\("least all ":Str).length<=20/\("below one ":Str).length<=20/\("below all ":Str).length<=20:=by decide +kernel
theorem XZ(i:Nat)(h:i<=3):(pF i).length<=17:=by
 have:i=0∨i=1∨i=2∨i=3:=by omega
 rcases this with rfl|rfl|rfl|rfl<;>decide +kernel
section
variable{P:Ad}{w:Af}{K:ag}{mg:Str->Option Aa}{base:Heap}
theorem Ff:bh ["_law_found","_law_guard"] [] (aU Lk):=bu
def RI:Sp:=λvs H Q _=>vs=[]/\∀l H',aa H H'->H l=none->H' l=some (.lst ((pF 3).map V.str))->Q (.ref l) H'
theorem _L(F:a9 K "_law_rules" "_law_rules" Lk f0 fd):ai P w K mg base aR 1 f0 fd [] RI:=by
 refine F.bt Ff λaL A outer s H vs Q E hr h=>?_
 ·obtain⟨rfl,k⟩:=h;have sz:=bU;refine' #[_,au ?s1 (au ?s2 (aI (ba (pv 0)))),?kk]
  case s1=>exact bg 0 Ff.nd (d5 (ae dg (ae dg af)))
  case' s2=>refine' eV eM Z (dH (d5 (ae dg (ae dg (ae dg af))))) (bV 1 Ff.nd) (au ?b1 (aI ?b2))
  case b1=>exact bg 0 Ff.nd (bw Gu (pv 0) (d5 (ae (bw xx dg (pv 1)) (ae (bw xx dg (pv 1)) (ae (bw xx dg (pv 1)) af)))))
  case b2=>exact bg 0 Ff.nd (bw Gu (pv 0) (d5 (ae (bw xx dg (pv 1)) (ae (bw xx dg (pv 1)) af))))
  case' kk=>skip
  refine#[by show 2<=sizeLine;decide,λl0 n0=>?_];obtain⟨s0,e0⟩:=aO (o:=.lst [.str "shares one",.str "shares all"]) n0;generalize upd H l0 (.lst [.str "shares one",.str "shares all"])=H0 at s0 e0 ⊢;refine setG ?_;dsimp only;refine#[by show 3<=sizeLine;decide,λlg ng=>?_];obtain⟨s1,e1⟩:=aO (o:=.lst [.str "high",.str "fall",.str "calm"]) ng;generalize upd H0 lg (.lst [.str "high",.str "fall",.str "calm"])=H1 at s1 e1 ⊢;have e1:H1 lg=some (.lst (Gp.map V.str)):=e1;have FQ:=s0.trans s1;have n0':=n0;refine#[lg,Z,#[_,.of e1],gF (K:=K) (a:=lg) (xs:=Gp.map V.str) (λi σ H'=>∃(l:Addr) (v1:Option V),σ=[some (.ref l),v1]/\aa H H'/\aa H1 H'/\H l=none/\H' l=some (.lst ((pF i).map V.str))) #[l0,none,Z,FQ,aa.refl _,n0,s1 _ _ e0] (λi σ H' _ ⟨_,_,_,_,z,_⟩=>.of (z _ _ e1)) ?_ ?_]
  ·rintro i x σ H2 hx ⟨l,v1,rfl,s2,lS,nl,e2⟩;obtain⟨g,hg,rfl⟩:=jT hx;have hi:i<3:=(bP.mp hg).1;have gl:=Xo g (cn hg);have pl:=YI;have rl':=XZ i Z1;refine setG ?_;dsimp only;refine#[_,Z,_,Z,_,_,Z,Z,by omega,_,Z,_,_,Z,Z,by omega,_,Z,_,_,Z,Z,by omega,by show 3<=sizeLine;decide,λa na=>?_];obtain⟨s3,e3⟩:=aO (o:=.lst [.str (("turns ":Str)++g),.str (("least one ":Str)++g),.str (("least all ":Str)++g)]) na;generalize upd H2 a (.lst [.str (("turns ":Str)++g),.str (("least one ":Str)++g),.str (("least all ":Str)++g)])=H3 at s3 e3 ⊢;refine#[l,a,_,_,Z,Z,s3 _ _ e2,e3,by rw[aq];show _+3<=sizeLine;omega,λb nb=>?_];obtain⟨s4,e4⟩:=aO (o:=.lst ((pF i).map V.str++[.str (("turns ":Str)++g),.str (("least one ":Str)++g),.str (("least all ":Str)++g)])) nb;generalize upd H3 b (.lst ((pF i).map V.str++[.str (("turns ":Str)++g),.str (("least one ":Str)++g),.str (("least all ":Str)++g)]))=H4 at s4 e4 ⊢;refine setG ?_;dsimp only;refine#[_,Z,_,Z,_,_,Z,Z,by omega,_,Z,_,_,Z,Z,by omega,by show 2<=sizeLine;decide,λc nc=>?_];obtain⟨s5,e5⟩:=aO (o:=.lst [.str (("below one ":Str)++g),.str (("below all ":Str)++g)]) nc;generalize upd H4 c (.lst [.str (("below one ":Str)++g),.str (("below all ":Str)++g)])=H5 at s5 e5 ⊢;refine#[b,c,_,_,Z,Z,s5 _ _ e4,e5,by rw[eF,aq];show _+3+2<=sizeLine;omega,λe ne=>?_];have yt:=(s3.trans s4).trans s5;refine#[e,_,Z,(s2.trans yt).trans (aa.new ne),(lS.trans yt).trans (aa.new ne),(s2.trans yt).free ne,?_]
   rw[ay,show pF (i+1)=pF i++[("turns ":Str)++g,("least one ":Str)++g,("least all ":Str)++g,("below one ":Str)++g,("below all ":Str)++g] by
    unfold pF;rw[hV,hg,Option.toList_some,List.flatMap_append,vL,List.flatMap_nil,mJ,List.append_assoc],bX,List.append_assoc]
   rfl
  ·rintro σ H2 ⟨l,v1,rfl,s2,_,nl,e2⟩;exact#[_,Z,k l H2 s2 nl e2]
end
section
variable{P:Ad}{w:Af}{K:ag}{mg:Str->Option Aa}{base:Heap}
theorem Eu:bh ["_law_world_here","_law_stand","_law_moves","_law_held_here","_law_piece","_law_one","_law_other"] ["_law_world_here","_law_stand","_law_moves"] (aU rq):=bu
inductive kY (K:ag) (vs:List V) (H:Hp) (Q:VK) (E:XK):Prop
 |mk:∀(wa sd lm:Addr) (hs:Xa) (ts:Xb) (ps qs:List Pc) (f:Str->Str) (ys:List V) (ms:List Mv),vs=[.ref wa,.ref sd,.ref lm]->tR K H wa hs ts ps->Pw hs ts ps f->Qs ps qs->H sd=some (.dK (dE (ps.map (·.1)) f))->H lm=some (.lst ys)->aY K H ys (ms.map kM)->(∀m∈ms,BI hs ts qs f m)->(∀H',aa H H'->Q (.bl true) H')->kY K vs H Q E
theorem Xz(F:a9 K "_law_each_right" "_law_each_right" rq f0 fd)(cH:bj P w K mg base 1 "_law_held" ["_law_world_here","_law_stand"] (kW K))(cD:bj P w K mg base 1 "_law_drop" ["_law_world_here","_law_held_here","_law_one","_law_other"] (kZ K))(cM:bj P w K mg base 1 "_law_may" ["_law_world_here","_law_piece","_law_one","_law_other"] (kP K)):ai P w K mg base aR 2 f0 fd ["_law_world_here","_law_stand","_law_moves"] (kY K):=by
 refine F.bt Eu λaL A outer s H vs Q E hr h=>?_
 ·obtain⟨wa,sd,lm,hs,ts,ps,qs,f,ys,ms,rfl,W,Fl,Qq,yU,iF,tu,all,k⟩:=h;have hu:=eS hr;refine' #[_,au ?s1 (au ?s2 (aI (ba xf))),?kk]
  case s1=>exact bg 3 Eu.nd (aX cH hr (ae (pv 0) (ae (pv 1) af)))
  case' s2=>refine' eV eM Z (dH (pv 2)) (jO Z (bY (bV 4 Eu.nd) (bY (bV 5 Eu.nd) (bY (bV 6 Eu.nd) gR)))) (au ?b1 (aI ?b2))
  case b1=>exact bC (tL (cU oA (Zq hu (pv 1) (pv 4) #[Z,Z,Z,Z]) (pv 5) (ak _)) (tW (eI (dZ (aX cM hr (ae (pv 0) (ae (pv 4) (ae (pv 5) (ae (pv 6) af))))))))).pt cq bD
  case b2=>exact bC (cU vt (aX cD hr (ae (pv 0) (ae (pv 3) (ae (pv 5) (ae (pv 6) af))))) aE (ak _)) cq bD
  case' kk=>skip
  refine#[_,Z,_,Z,wa,sd,hs,ts,ps,f,Z,W,Fl,yU,λdh H1 s1 _ hdh=>?_];refine setG ?_;dsimp only;refine#[_,Z,lm,Z,#[_,.of (s1 _ _ iF)],gF (K:=K) (a:=lm) (xs:=ys) (λi σ H'=>∃(v4 v5 v6:Option V),σ=[some (.ref wa),some (.ref sd),some (.ref lm),some (.ref dh),v4,v5,v6]/\aa H1 H') #[none,none,none,Z,aa.refl _] (λi σ H' _ ⟨_,_,_,_,sm⟩=>.of (sm _ _ (s1 _ _ iF))) ?_ ?_]
  ·rintro i y σ H2 hy ⟨v4,v5,v6,rfl,s2⟩;obtain⟨m,hm,tm,rfl,gf⟩:=ij tu hy;have mo:=all m (cn hm);have h9:=s1.trans s2;have gf:=DE (h9 _ _ gf)
   have pn:m.1∈ps.map (·.1):=by
    have:=mo.n;rw[Qq.pG] at this;exact (mI _).mem_iff.mp this
   have tb:zP hs ts (some m.2.1) (some m.2.2)=true:=by
    have:=mo.may;unfold fV tK at this;simp only[iR] at this;exact this.1
   rw[E2] at tb;simp only[iR,jP] at tb;refine#[tm,_,Z,.of gf,Z,_,_,Z,_,_,Z,_,_,Z,Z,?_];dsimp only;refine#[_,Z,sd,Z,.inl #[_,.of (h9 _ _ yU)],_,Z,some (.str (f m.1)),?_,_,Z,Z,_,Z,?_]
   ·rw[<- Ar (g:=λn=>V.str (f n)) pn];exact .k (k:=Sum.inr m.1) (h9 _ _ yU)
   refine tQ (by rw[mo.a];rfl) ?_;refine#[_,Z,_,Z,_,Z,_,Z,wa,m.1,m.2.1,m.2.2,hs,ts,ps,f,Z,tR.nt W (NT.of h9),Fl,pn,tb.1,λH3 s3=>#[_,Z,?_]];rw[WW Fl Qq pn tb.1 tb.2.1,mo.may];refine aM ?_;refine#[_,Z,_,Z,_,Z,_,Z,wa,dh,m.2.1,m.2.2,hs,ts,ps,f,Z,tR.nt W (NT.of (h9.trans s3)),Fl,(s2.trans s3) _ _ hdh,tb.1,tb.2.1,_,_,Z,Z,_,Z,?_];rw[Yz Fl Qq];refine bp (λc=>?_) (λ_=>#[_,_,_,Z,s2.trans s3]);have c:gI hs qs f m.2.1 m.2.2<=0:=by simpa using c
   exact absurd mo.ld Z1
  ·rintro σ H2 ⟨v4,v5,v6,rfl,s2⟩;exact k H2 (s1.trans s2)
end
end Ev
namespace L2
open PySem PySem.SetTable
def bG(t:SetTable):Nat->Probe->Probe
 |0,p=>p
 |n+1,p=>bG t n (t.advance p)
theorem Lj(t:SetTable):∀(n m:Nat) (p:Probe),bG t (n+m) p=bG t m (bG t n p)
 |0,m,p=>by simp[bG]
 |n+1,m,p=>by rw[Nat.succ_add];exact Lj t n m (t.advance p)
def rW(t:SetTable)(p:Probe):Probe:={ p with j:=(leap t.mask p.i p.perturb).1,more:=runEnd t.mask (leap t.mask p.i p.perturb).1 - (leap t.mask p.i p.perturb).1,i:=(leap t.mask p.i p.perturb).1,perturb:=(leap t.mask p.i p.perturb).2 }
theorem Qw(t:SetTable):∀(n:Nat) (p:Probe),p.more=n->bG t (n+1) p=rW t p
 |0,p,h=>by simp[bG,advance,rW,h]
 |n+1,p,h=>by
  have hh:t.advance p={ p with j:=p.j+1,more:=p.more - 1 }:=by simp[advance,h]
  show bG t (n+1) (t.advance p)=_;rw[hh,Qw t n _ (by simp[h])];rfl
theorem O7(m i:Nat):runEnd m i - i<=9:=by unfold runEnd;split<;>omega
def Bb(t:SetTable):Nat->Probe->Probe
 |0,p=>p
 |n+1,p=>Bb t n (rW t p)
theorem Ro(t:SetTable):∀(k:Nat) (p:Probe),p.more<=9->∃n,n<=10 * k/\bG t n p=Bb t k p
 |0,p,_=>#[0,by omega,Z]
 |k+1,p,h=>by
  obtain⟨n,hn,e⟩:=Ro t k (rW t p) (O7 _ _);refine#[p.more+1+n,by omega,?_];rw[Lj,Qw t _ p Z,e];rfl
def fY(m:Nat):Nat->Nat × Nat->Nat × Nat
 |0,q=>q
 |n+1,q=>fY m n (leap m q.1 q.2)
theorem E8(m:Nat):∀(n k:Nat) (q:Nat × Nat),fY m (n+k) q=fY m k (fY m n q)
 |0,k,q=>by simp[fY]
 |n+1,k,q=>by rw[Nat.succ_add];exact E8 m n k _
theorem Sk(t:SetTable):∀(k:Nat) (p:Probe),(Bb t k p).i=(fY t.mask k (p.i,p.perturb)).1/\(Bb t k p).perturb=(fY t.mask k (p.i,p.perturb)).2/\(k≠0->(Bb t k p).j=(Bb t k p).i)
 |0,p=>#[Z,Z,by simp]
 |k+1,p=>by
  obtain⟨a,b,c⟩:=Sk t k (rW t p);refine#[a,b,λ_=>?_];cases k with
  |zero=>rfl
  |succ k=>exact c Z2
theorem LP(m:Nat):∀(k:Nat) (q:Nat × Nat),(fY m k q).2=q.2 / 32 ^ k
 |0,q=>by simp[fY]
 |k+1,q=>by show (fY m k (leap m q.1 q.2)).2=_;rw[LP m k];show q.2 / 32 / 32 ^ k=_;rw[Nat.div_div_eq_div_mul,Nat.pow_succ,Nat.mul_comm]
theorem QM(m:Nat):∀(k:Nat) (q:Nat × Nat),k≠0->(fY m k q).1<=m
 |0,q,h=>absurd Z h
 |k+1,q,_=>by
  cases k with
  |zero=>exact Nat.le_of_lt_succ (Nat.mod_lt _ (Nat.succ_pos m))
  |succ k=>exact QM m (k+1) _ Z2
def FV(m:Nat):Nat->Nat->List Nat
 |0,_=>[]
 |n+1,i=>i::FV m n ((i * 5+1) % (m+1))
theorem QO(m e:Nat):∀(n i:Nat),e∈FV m n i->∃k,k<n/\(fY m k (i,0)).1=e
 |0,i,h=>by simp[FV] at h
 |n+1,i,h=>by
  rcases bO.1 h with h|h
  ·exact#[0,by omega,h.symm]
  ·obtain⟨k,hk,e⟩:=QO m e n _ h;exact#[k+1,by omega,by simpa [fY,leap] using e]
def CL(m:Nat):Bool:=((List.range (m+1)).all λe=>(FV m (m+1) 0).contains e)&&(fY m (m+1) (0,0)).1 == 0
def o_(m:Nat):Prop:=m=7∨m=31∨m=127
theorem IZ(m:Nat)(h:o_ m):CL m=true:=by rcases h with rfl|rfl|rfl<;>decide +kernel
theorem Pg(m k i:Nat):fY m k (i,0)=((fY m k (i,0)).1,0):=Prod.ext Z (by rw[LP];simp)
variable{e i m:Nat}
theorem YH(h:o_ m)(hi:i<=m)(he:e<=m):∃k,k<=m/\(fY m k (i,0)).1=e:=by
 have hb:=IZ m h;rw[CL,iR] at hb;obtain⟨hb,hz⟩:=hb;have hz:(fY m (m+1) (0,0)).1=0:=by simpa using hz
 have key:∀e,e<=m->∃k,k<m+1/\(fY m k (0,0)).1=e:=λe he=>QO m e (m+1) 0 (by simpa using List.all_eq_true.1 hb e (List.mem_range.2 Z1));obtain⟨a,ha,ea⟩:=key i hi;obtain⟨b,hb,eb⟩:=key e he;have ia:fY m a (0,0)=(i,0):=by rw[Pg,ea]
 by_cases KF:a<=b
 ·refine#[b - a,by omega,?_];rw[<- ia,<- E8,show a+(b - a)=b by omega,eb]
 ·refine#[m+1 - a+b,by omega,?_];rw[<- ia,<- E8,show a+(m+1 - a+b)=m+1+b by omega,E8,Pg m (m+1),hz,eb]
theorem SE(h:o_ m)(he:e<=m)(q:Nat × Nat)(hq:q.2<2 ^ 64):∃k,k≠0/\k<=m+13/\(fY m k q).1=e:=by
 have h2:(fY m 13 q).2=0:=by rw[LP];exact Nat.div_eq_of_lt (iN hq (by decide))
 obtain⟨k,hk,e1⟩:=YH h (QM m 13 q Z2) he;refine#[13+k,by omega,by omega,?_];rw[E8,show fY m 13 q=((fY m 13 q).1,0) from Prod.ext Z h2];exact e1
variable{t:SetTable}
theorem hq_(h:o_ t.mask)(he:e<=t.mask)(p:Probe)(hm:p.more<=9)(hp:p.perturb<2 ^ 64):∃n,n<10 * turns t.mask/\(bG t n p).j=e:=by
 obtain⟨k,k0,hk,e1⟩:=SE h he (p.i,p.perturb) hp;obtain⟨n,hn,e2⟩:=Ro t k p hm;obtain⟨a,_,c⟩:=Sk t k p;exact#[n,by unfold turns;omega,by rw[e2,c k0,a,e1]]
theorem QN{t:SetTable}{ha:Nat->Int}{h:Int}(nd:∀j,t.slot j≠.dummy):∀(n fuel:Nat) (p:Probe),n<fuel->p.dummy=none->(∀m,m<n->t.slot (bG t m p).j≠.empty)->t.slot (bG t n p).j=.empty->
  probe.go t ha h fuel p=some (.empty (bG t n p).j none)∨∃m i,m<n/\t.slot (bG t m p).j=.live i/\ha i=h/\probe.go t ha h fuel p=some (.candidate (bG t m p).j i (bG t (m+1) p))
 |_,0,_,hf,_,_,_=>absurd hf (Nat.not_lt_zero _)
 |0,fuel+1,p,_,hd,_,he=>Or.inl (by
   have he:t.slot p.j=.empty:=he;simp only[probe.go,he,bG,hd])
 |n+1,fuel+1,p,hf,hd,hn,he=>by
  have h0:=hn 0 (Nat.succ_pos n);have h0:t.slot p.j≠.empty:=h0;cases hs:t.slot p.j with
  |empty=>exact absurd hs h0
  |dummy=>exact absurd hs (nd _)
  |live i=>
   by_cases hh:ha i=h
   ·refine Or.inr #[0,i,Nat.succ_pos n,hs,hh,?_];simp only[probe.go,hs,hh,bG,beq_self_eq_true,if_true]
   ·have fJ:(t.advance p).dummy=none:=by unfold advance;split<;>exact hd
    have e:probe.go t ha h (fuel+1) p=probe.go t ha h fuel (t.advance p):=by
     simp only[probe.go,hs];rw[ao (by simpa using hh)]
    rw[e];rcases QN nd n fuel (t.advance p) Z1 fJ (λm hm=>hn (m+1) Z1) he with g|⟨m,i',hm,a,b,c⟩
    ·exact Or.inl g
    ·exact Or.inr #[m+1,i',by omega,a,b,c]
theorem X2(h:t.dummies=#[])(j:Nat):t.slot j≠.dummy:=by
 unfold slot;simp only[];split
 ·intro h;cases h
 ·rw[ao (by simp[has,h])];intro h;cases h
variable{j:Nat}
theorem g3_(h:t.dummies=#[])(hj:j∉t.place):t.slot j=.empty:=by
 unfold slot;simp only[];rw[ao,ao (by simp[has,h])];intro hh;have hh:=vq (by simpa using hh:decide (t.place[below t.place j]? = some j)=true);exact hj (Array.mem_of_getElem? hh)
theorem hc_(h:t.slot j=.live i):i<t.place.size:=by
 unfold slot at h;simp only[] at h;split at h
 ·rename_i hh
  cases h;by_cases hl:below t.place j<t.place.size
  ·exact hl
  ·rw[Array.getElem?_eq_none Z1] at hh;simp at hh
 ·split at h<;>cases h
theorem yD:∀(m:Nat) (xs:List Nat),xs.length<m->∃e,e<m/\e∉xs:=by
 intro m xs h;refine Bg λhn=>?_;have hs:List.range m ⊆ xs:=λe he=>Bg λhx=>hn #[e,List.mem_range.1 he,hx];have:=(List.nodup_range (n:=m)).length_le_of_subset hs;rw[List.length_range] at this;omega
theorem GY{α:Type}(xs:Array α)(p:Nat)(x:α):(insertAt xs p x).size=xs.size+1:=by
 unfold insertAt;simp[Array.size_extract];omega
theorem Qt{α:Type}{xs:Array α}{a b:Nat}{y:α}(h:y∈xs.extract a b):y∈xs:=by
 obtain⟨i,hi,e⟩:=Array.getElem_of_mem h;rw[Array.getElem_extract] at e;exact e▸Array.getElem_mem _
theorem Ys{α:Type}{xs:Array α}{p:Nat}{x y:α}(h:y∈insertAt xs p x):y=x∨y∈xs:=by
 unfold insertAt at h;rcases Array.mem_append.1 h with h|h
 ·rcases Array.mem_push.1 h with h|h
  ·exact Or.inr (Qt h)
  ·exact Or.inl h
 ·exact Or.inr (Qt h)
theorem Qd{m:Nat}(hm:o_ m)(ow:Array (Option Nat)):∀(k fuel i pt:Nat),k<fuel->(ow.getD (fY m k (i,pt)).1 (some 0)).isNone=true->∃j,layClean.free m ow fuel i pt=some j/\(ow.getD j (some 0)).isNone=true
 |_,0,_,_,h,_=>absurd h (Nat.not_lt_zero _)
 |k,fuel+1,i,pt,h,he=>by
  unfold layClean.free;split
  ·rename_i q hq
   have h1:=List.find?_some hq;exact#[_,Z,h1]
  ·rename_i hq
   cases k with
   |zero=>
    have:=List.find?_eq_none.1 hq 0 (List.mem_range.2 (by unfold runEnd;split<;>omega))
    exact absurd he this
   |succ k=>exact Qd hm ow k fuel _ _ Z1 he
theorem Pi(h:Int):bits h<2 ^ 64:=by
 unfold bits;have a:=xA h (b:=2 ^ 64) (by decide);have b:=vP h (b:=2 ^ 64) (by decide);omega
def Lay(m n:Nat)(acc:Option (Array (Option Nat) × Nat)):Prop:=∃ow,acc=some (ow,n)/\ow.size=m+1/\ow.toList.countP Option.isSome=n/\∀k,some k∈ow->k<n
variable{n:Nat}
theorem _H(hm:o_ m)(hn:n<=m){acc:Option (Array (Option Nat) × Nat)}(h:Lay m n acc)(x:Int):Lay m (n+1) (do
  let (owner,k) <- acc
  let j <- layClean.free m owner (turns m) (bits x % (m+1)) (bits x)
  pure (owner.setIfInBounds j (some k),k+1)):=by
 obtain⟨ow,rfl,sz,ct,lt⟩:=h
 have:∃e,∃h:e<ow.size,ow[e]=none:=by
  refine Bg λze=>?_
  have:ow.toList.countP Option.isSome=ow.toList.length:=List.countP_eq_length.2 λa ha=>by
   obtain⟨i,hi,e⟩:=Array.getElem_of_mem (Array.mem_toList_iff.1 ha);cases a with
   |none=>exact absurd #[i,hi,e] ze
   |some _=>rfl
  rw[mN] at this;omega
 obtain⟨e,he,jC⟩:=this;obtain⟨k,_,hk,ek⟩:=SE hm (show e<=m by omega) (bits x % (m+1),bits x) (Pi x);obtain⟨j,ej,hj⟩:=Qd hm ow k (turns m) _ _ (by unfold turns;omega) (by rw[ek];simp[Array.getD,he,jC])
 have PV:j<ow.size:=by
  refine Bg λhh=>?_;simp[Array.getD,hh] at hj
 have hjn:ow[j]=none:=by simpa [Array.getD,PV] using hj
 refine#[ow.setIfInBounds j (some n),by simp[ej],by simpa using sz,?_,?_]
 ·rw[Array.toList_setIfInBounds,List.countP_set (by simpa using PV),ct];simp[hjn]
 ·intro k hk;rcases Array.getElem_of_mem hk with⟨i,hi,e⟩;rw[Array.getElem_setIfInBounds] at e;split at e
  ·cases e;omega
  ·exact Nat.lt_succ_of_lt (lt k (e▸Array.getElem_mem _))
  simpa using hi
theorem Ql{m:Nat}(hm:o_ m):∀(hs:List Int) (n:Nat) (acc:Option (Array (Option Nat) × Nat)),n+hs.length<=m+1->Lay m n acc->Lay m (n+hs.length) (hs.foldl (λacc h=>do
  let (owner,k) <- acc
  let j <- layClean.free m owner (turns m) (bits h % (m+1)) (bits h)
  pure (owner.setIfInBounds j (some k),k+1)) acc)
 |[],n,acc,_,h=>h
 |x::hs,n,acc,hl,h=>by
  have Kg:n+(hs.length+1)<=m+1:=hl;have:=Ql hm hs (n+1) _ Z1 (_H hm Z1 h x);rw[show n+(x::hs).length=n+1+hs.length by simp;omega];exact this
theorem hk_{hs:Array Int}{w:Nat}(hm:o_ (sizeAbove w - 1))(hn:hs.size<=sizeAbove w - 1):∃t' od,t.relaid hs w=some (t',od)/\t'.mask=sizeAbove w - 1/\t'.dummies=#[]/\t'.led=t.led/\t'.plain=t.plain/\t'.place.size=hs.size/\od.size=hs.size/\∀k,k∈od->k<hs.size:=by
 unfold relaid laid;generalize sizeAbove w - 1=m at *;have h0:Lay m 0 (some (Array.replicate (m+1) none,0)):=#[_,Z,by simp,by simp[List.countP_replicate],by simp];obtain⟨ow,e,sz,ct,lt⟩:=Ql hm hs.toList 0 _ (by simp;omega) h0;have el:layClean m hs=some ow:=by unfold layClean;rw[<- Array.foldl_toList,e];rfl
 rw[el]
 have mp:(List.range (m+1)).map (λj=>ow.getD j none)=ow.toList:=by
  apply List.ext_getElem
  ·simp[sz]
  ·intro i h1 h2;have:i<ow.size:=by simpa using h2
   simp[Array.getD,this]
 have ln:((List.range (m+1)).filterMap λj=>(ow.getD j none).map (j,·)).length=hs.size:=by
  rw[List.length_filterMap_eq_countP]
  have:(List.range (m+1)).countP (λj=>((ow.getD j none).map (Prod.mk j)).isSome)=((List.range (m+1)).map (λj=>ow.getD j none)).countP Option.isSome:=by
   rw[List.countP_map];congr 1;funext j;simp
  rw[this,mp,ct];simp
 refine#[_,_,Z,Z,Z,Z,Z,?_,?_,?_]
 ·simpa using ln
 ·simpa using ln
 ·intro k hk;have hk:=a_.1 (by simpa only[List.mem_toArray] using hk);obtain⟨⟨j,k'⟩,hjk,rfl⟩:=hk;obtain⟨j',hj,ee⟩:=ue.1 hjk;cases hg:ow.getD j' none with
  |none=>rw[hg] at ee;cases ee
  |some v=>
   rw[hg] at ee;cases ee;have:j<ow.size:=by rw[sz];exact List.mem_range.1 hj
   have:=lt k' (by rw[<- hg];simp[Array.getD,this]);simpa using this
variable{od:Array Nat}
theorem YK{α:Type}{es:Array α}(h:∀k,k∈od->k<es.size):(od.filterMap (es[·]?)).size=od.size:=by
 rw[<- mN,Array.toList_filterMap,List.length_filterMap_eq_countP,<- mN];refine List.countP_eq_length.2 λk hk=>?_;simp[h k (Array.mem_toList_iff.1 hk)]
theorem XY{α:Type}{es:Array α}{y:α}(h:y∈od.filterMap (es[·]?)):y∈es:=by
 obtain⟨k,_,e⟩:=Array.mem_filterMap.1 h;exact Array.mem_of_getElem? e
open PySem.Spec PySem.Calls PyProof.Rows
variable{v:Aa}
variable{a:Addr}
section
variable{prog:Ad}{w:Af}{A:Ag}{E:Aa->Ab->Prop}{s:Ab}{K:Type}[DecidableEq K]{knd:KeyKind prog w K}
theorem hD_(n:Nat)(h:carriedByValue v=true):ofAClassStatement n v=pure false:=by
 cases v<;>first|(simp[carriedByValue] at h;done)|(cases n<;>rfl)
theorem RA{ks:List K}{Q:Bool->Ab->Prop}(hk:IsTupleKey knd s.heap ks a)(h:Q false s):wpAny (model prog w) A (ofAClassStatement 8 (.ref a)) Q E s:=by
 have hT:=hk.typeIs;obtain⟨o,items,n,ho,_,hd,hi⟩:=hk;unfold ofAClassStatement;refine aj (wpAny_typeOf hT ?_);dsimp only;rw[aC (by decide)];refine aj (aQ ?_);simp only[Bool.not_true,iM,if_false];refine aj (wpAny_seqItems ho hd ?_);dsimp only;refine aj ?_;rw[<- Array.forIn_toList];refine wpAny_forIn_list _ (λrest r s'=>r.1=none/\s'=s/\∀v∈rest,carriedByValue v=true) _ ?_ ?_ _ _ #[Z,Z,hi.byValue]
 ·rintro v rest r s' ⟨hr,rfl,fj⟩;rw[hD_ _ (fj v dO)];refine aj (aQ ?_);simp only[iM,if_false];exact aQ #[Z,Z,λu AS=>fj u (dP _ AS)]
 ·rintro⟨r1,r2⟩ s' ⟨hr,rfl,_⟩;simp only at hr;subst hr;exact aQ h
theorem xH{kx:List K}{x:Addr}{ys:List Aa}{Q:Bool->Ab->Prop}(hx:IsTupleKey knd s.heap kx x)(hy:∀y∈ys,∃(b:Addr) (k:List K),y=.ref b/\IsTupleKey knd s.heap k b)(h:Q false s):wpAny (model prog w) A (searchCouldBeSeen (.ref x) ys) Q E s:=by
 unfold searchCouldBeSeen;refine aj ?_;refine wpAny_forIn_list _ (λrest r s'=>r.1=none/\s'=s/\∀y∈rest,∃(b:Addr) (k:List K),y=.ref b/\IsTupleKey knd s.heap k b) _ ?_ ?_ _ _ #[Z,Z,hy]
 ·rintro v rest r s' ⟨hr,rfl,fj⟩;obtain⟨b,k,rfl,hb⟩:=fj v dO;have fin:∀u∈rest,∃(b:Addr) (k:List K),u=.ref b/\IsTupleKey knd s'.heap k b:=λu AS=>fj u (dP _ AS);dsimp only;split
  ·exact aQ #[Z,Z,fin]
  ·refine aj (wpAny_eqIsQuiet_tuple hx ?_);simp only[Bool.not_true,iM,if_false];refine aj (wpAny_eqIsQuiet_tuple hb ?_);simp only[Bool.not_true,iM,if_false];refine aj (RA hx ?_);simp only[iM,if_false];refine aj (RA hb ?_);simp only[iM,if_false];exact aQ #[Z,Z,fin]
 ·rintro⟨r1,r2⟩ s' ⟨hr,rfl,_⟩;simp only at hr;subst hr;exact aQ h
theorem RM(t:SetTable):∀(n:Nat) (p:Probe),p.dummy=none->(bG t n p).dummy=none
 |0,p,c=>c
 |n+1,p,c=>RM t n _ (by unfold advance;split<;>exact c)
theorem _n(h:o_ t.mask):t.gaveWay=false:=by
 unfold SetTable.gaveWay;rcases h with h|h|h<;>rw[h]<;>rfl
theorem Rw{a:Addr}{o:Obj}{es:Array (Int × Aa)}{ep:Nat}{t:SetTable}{kx:List K}{x:Addr}{hv:Int}{Q:SetFound->Ab->Prop}(hu:A.units<cLine)(ho:s.heap.get? a=some o)(hd:o.data=.set es ep t)(hf:t.fits es.size=true)(hm:o_ t.mask)(vc:t.dummies=#[])
  (hx:IsTupleKey knd s.heap kx x) (iX:∀e∈es,∃(b:Addr) (k:List K),e.2=.ref b/\k≠kx/\IsTupleKey knd s.heap k b):∀(n fuel:Nat) (p:Probe) (st:Option Probe),st.getD (t.probeStart hv)=p->n<fuel->n<10 * turns t.mask->p.dummy=none->(∀m,m<n->t.slot (bG t m p).j≠.empty)->t.slot (bG t n p).j=.empty->
  Q (.free (bG t n p).j false) s->wpAny (model prog w) A (setSearchFrom a (.ref x) hv true fuel st) Q E s
 |n,0,_,_,_,h,_,_,_,_,_=>absurd h (Nat.not_lt_zero _)
 |n,fuel+1,p,st,uT,h1,h2,hp,hn,he,q=>by
  unfold setSearchFrom;refine aj (wpAny_setState_of ho hd hf ?_);dsimp only;rw[_n hm,uT];simp only[iM,if_false];have hg:=QN (ha:=λi=>(es[i]?.map (·.1)).getD 0) (h:=hv) (X2 vc) n (10 * turns t.mask) p h2 hp hn he;rcases hg with hg|⟨m,i,hmn,hs,hh,hg⟩
  ·have hg:t.probe _ hv p=_:=hg;show wpAny _ _ (match t.probe (λi=>(es[i]?.map (·.1)).getD 0) hv p with|some met=>_|x=>_) _ _ _;rw[hg];dsimp only;exact aQ q
  ·have hg:t.probe _ hv p=_:=hg;show wpAny _ _ (match t.probe (λi=>(es[i]?.map (·.1)).getD 0) hv p with|some met=>_|x=>_) _ _ _;rw[hg];dsimp only
   have hi:i<es.size:=by
    have:=hc_ hs;simp only[SetTable.fits,iR,beq_iff_eq,jP] at hf;omega
   have PZ:es[i]? = some es[i]:=Array.getElem?_eq_getElem hi;obtain⟨b,k,eb,nk,hb⟩:=iX _ (Array.getElem_mem hi)
   have main:wpAny (model prog w) A (do
     let some (_,y):=es[i]? | unsupported "internal:set-entry"
     let equal <- holding [y] (eqBool y (.ref x))
     let (mm,_,t') <- setState a
     if true&&equal then return .there none
     let some same:=t'.sameMemory t.moves t.mask|unsupported "set.changed-during-lookup:is-the-new-block-at-the-old-address"
     let Cb <- match (if same then t'.slot (bG t m p).j else .empty) with
      |.live i'=>match mm[i']? with
       |some (_,y')=>do pure (if <- isSame y' y then some i' else none)
       |none=>pure none
      |_=>pure none
     match Cb with
     |none=>rule "set.search.anew";setSearchFrom a (.ref x) hv true fuel none
     |some i'=>if equal then return .there (some i') else setSearchFrom a (.ref x) hv true fuel (some (bG t (m+1) p))) Q E s:=by
    rw[PZ];dsimp only;rw[eb];refine aj (gO (wpAny_eqBool_tuple hu hb hx ?_));rw[dA nk];refine aj (wpAny_setState_of ho hd hf ?_);dsimp only;simp only[vO,iM,if_false];rw[show t.sameMemory t.moves t.mask=some true by simp[sameMemory]];dsimp only;rw[aC Z,hs];dsimp only;rw[PZ];dsimp only;rw[eb];refine aj (wpAny_isSame_ref_self (aj (aQ ?_)));simp only[if_true];have ea:∀k,bG t k (bG t (m+1) p)=bG t (m+1+k) p:=λk=>(Lj t (m+1) k p).symm;have en:m+1+(n - (m+1))=n:=by omega
    refine Rw hu ho hd hf hm vc hx iX (n - (m+1)) fuel (bG t (m+1) p) _ Z Z1 Z1 ?_ ?_ ?_ ?_
    ·exact RM t (m+1) p hp
    ·intro k hk;rw[ea];exact hn _ Z1
    ·rw[ea,en];exact he
    ·rw[ea,en];exact q
   split
   ·refine aj (xH hx (λy hy=>?_) ?_)
    ·obtain⟨e,he,rfl⟩:=a_.1 hy;obtain⟨b,k,eb,_,hb⟩:=iX e (Array.mem_filter.1 (Array.mem_toList_iff.1 he)).1;exact#[b,k,eb,hb]
    ·simp only[iM,if_false];exact main
   ·exact main
end
variable{b:Addr}{h h':Heap}{o:Obj}{es:Array (Int × Aa)}{ep:Nat}
section
variable{prog:Ad}{w:Af}{A:Ag}{E:Aa->Ab->Prop}{s:Ab}{K:Type}[DecidableEq K]{knd:KeyKind prog w K}
theorem Y5(n:Nat)(h:carriedByValue v=true):∃b,hashByValue n v=pure b:=by
 cases v<;>first|(simp[carriedByValue] at h;done)|(cases n<;>exact#[_,Z])
theorem X1{ks:List K}{Q:Bool->Ab->Prop}(hk:IsTupleKey knd s.heap ks a)(h:∀b,Q b s):wpAny (model prog w) A (hashByValue 8 (.ref a)) Q E s:=by
 have hT:=hk.typeIs;obtain⟨o,items,n,ho,_,hd,hi⟩:=hk;unfold hashByValue;refine aj (wpAny_specialOf hT F.slot_tuple_hash.lookup ?_);dsimp only;refine aj (wpAny_seqItems ho hd ?_);refine aj ?_;show wpAny _ _ (forIn items _ _) _ _ s;rw[<- Array.forIn_toList];refine wpAny_forIn_list _ (λrest r s'=>s'=s/\∀v∈rest,carriedByValue v=true) _ ?_ ?_ _ _ #[Z,hi.byValue]
 ·rintro v rest r s' ⟨rfl,fj⟩;obtain⟨b,eb⟩:=Y5 7 (fj v dO);rw[eb];refine aj (aQ ?_);split
  ·exact aQ (aQ (h _))
  ·exact aQ #[Z,λu AS=>fj u (dP _ AS)]
 ·rintro⟨r1,r2⟩ s' ⟨rfl,_⟩;cases r1<;>exact aQ (h _)
theorem least{P:Nat->Prop}{N:Nat}:∀n,P n->n<N->∃n,n<N/\P n/\∀m,m<n->¬P m:=by
 intro n
 induction n using Nat.strongRecOn with
 |_ n ih=>
  intro hp hn;by_cases hx:∃m,m<n/\P m
  ·obtain⟨m,hm,q⟩:=hx;exact ih m hm q Z1
  ·exact#[n,hn,hp,λm hm q=>hx #[m,hm,q]]
def pO(knd:KeyKind prog w K)(h:Heap)(a:Addr)(ds:List (List K)):Prop:=∃o es ep t,h.get? a=some o/\o.ExactSet/\o.data=.set es ep t/\es.size=ds.length/\t.fits es.size=true/\t.dummies=#[]/\o_ t.mask/\es.size * 5<t.mask * 3/\∀e∈es,∃(b:Addr) (k:List K),e.2=.ref b/\k∈ds/\IsTupleKey knd h k b
theorem LS{k:List K}(x:IsTupleKey knd h k b)(ho:h.get? a=some o)(hd:o.data=.set es ep t)(sb:Heap.SameBut a h h'):IsTupleKey knd h' k b:=by
 obtain⟨o',items,n,eZ,hc,fJ,hi⟩:=x
 have:b≠a:=by
  intro e;subst e;rw[ho] at eZ;cases eZ;rw[hd] at fJ;cases fJ
 exact#[o',items,n,sb.extBut _ _ this eZ,hc,fJ,hi]
theorem _b(h:o_ m):10 * turns m<100000:=by rcases h with rfl|rfl|rfl<;>decide
theorem Qf(ho:h.get? a=some o)(hd:o.data=.set es ep t)(mm:Array (Int × Aa))(t':SetTable):(h.update a (Obj.putSet mm t')).get? a=some { o with data:=.set mm (ep+1) t' }:=by
 have:=Heap.get?_update_self (Obj.putSet mm t') ho (by rw[putSet_of mm t' hd];rfl);rw[putSet_of mm t' hd] at this;exact this
theorem Xs{x:Addr}{ds:List (List K)}{kx:List K}{hv:Int}{Q:Bool->Ab->Prop}(hu:A.units<cLine)(hS:pO knd s.heap a ds)(hx:IsTupleKey knd s.heap kx x)(nk:kx∉ds)(hl:ds.length<64)(h:∀h',Heap.SameBut a s.heap h'->pO knd h' a (ds++[kx])->Q true { s with heap:=h' }):wpAny (model prog w) A (setAddHashed a (.ref x) hv) Q E s:=by
 obtain⟨o,es,ep,t,ho,hex,hd,hn,hf,vc,hm,zp,iX⟩:=hS;have P4:=hf;simp only[SetTable.fits,iR,beq_iff_eq,jP] at P4;unfold setAddHashed setAddHashedIn;refine gO (aj (wpAny_setState_of ho hd hf ?_));dsimp only;rw[show byScan (.ref x) es=false from Z];simp only[iM,if_false];have hmm:t.place.size<t.mask+1:=by omega
 obtain⟨e,he,jC⟩:=yD (t.mask+1) t.place.toList (by simpa using hmm);have hse:t.slot e=.empty:=g3_ vc (by simpa using jC);obtain⟨n0,hn0,e0⟩:=hq_ hm (show e<=t.mask by omega) (t.probeStart hv) (O7 _ _) (Pi hv)
 have Kq:∃n,n<10 * turns t.mask/\t.slot (bG t n (t.probeStart hv)).j=.empty/\∀m,m<n->t.slot (bG t m (t.probeStart hv)).j≠.empty:=by
  refine least (P:=λn=>t.slot (bG t n (t.probeStart hv)).j=.empty) n0 (by show t.slot _=_;rw[e0];exact hse) hn0
 obtain⟨n,PJ,Kr,Ka⟩:=Kq;unfold setSearch;refine aj (Rw hu ho hd hf hm vc hx (λe he=>?_) n 100000 (t.probeStart hv) none Z (Nat.lt_trans PJ (_b hm)) PJ Z Ka Kr ?_)
 ·obtain⟨b,k,e1,e2,e3⟩:=iX e he;exact#[b,k,e1,λq=>nk (q▸e2),e3]
 generalize (bG t n (t.probeStart hv)).j=j;dsimp only;refine aj (wpAny_setState_of ho hd hf ?_);dsimp only
 have wX:(t.put j).1.mask=t.mask/\(t.put j).1.dummies=#[]/\(t.put j).1.place.size=es.size+1:=by
  refine#[Z,?_,?_]
  ·show (if has t.dummies j then _ else t.dummies)=_;rw[ao (by simp[has,vc]),vc]
  ·show (insertAt _ _ _).size=_;rw[GY,P4.1]
 generalize t.put j=tp at wX;obtain⟨t1,pp⟩:=tp;dsimp only at wX ⊢;obtain⟨m1,d1,z1⟩:=wX
 have tail:∀t2:SetTable,t2.mask=t.mask->t2.dummies=#[]->t2.place.size=es.size+1->wpAny (model prog w) A (do
   storeSet a (insertAt es pp (hv,.ref x)) t2
   if !false&&t2.tooFull then setRelay a (grown (es.size+1))
   return true) Q E s:=by
  intro t2 m2 d2 z2;have hz:es.size+1<=64:=by omega
  have hsl:(64:Nat)<=sizeLine:=by decide
  refine aj (wpAny_storeSet_of ho hd ?_ (by rw[GY];omega));have sb:=Heap.SameBut.update s.heap a (Obj.putSet (insertAt es pp (hv,.ref x)) t2);have hg:=Qf ho hd (insertAt es pp (hv,.ref x)) t2;generalize s.heap.update a (Obj.putSet (insertAt es pp (hv,.ref x)) t2)=h1 at sb hg ⊢;have P1:t2.fill=es.size+1:=by unfold SetTable.fill;rw[z2,d2];rfl
  have P3:t2.fits (insertAt es pp (hv,.ref x)).size=true:=by
   rw[GY];simp only[SetTable.fits,iR,beq_iff_eq,jP];refine#[z2,?_];rw[P1,m2];omega
  have P5:∀h2,Heap.SameBut a s.heap h2->∀e∈insertAt es pp (hv,.ref x),∃(b:Addr) (k:List K),e.2=.ref b/\k∈ds++[kx]/\IsTupleKey knd h2 k b:=λh2 FI e he=>by
   rcases Ys he with rfl|he
   ·exact#[x,kx,Z,by simp,LS hx ho hd FI]
   ·obtain⟨b,k,q1,q2,q3⟩:=iX e he;exact#[b,k,q1,List.mem_append_left _ q2,LS q3 ho hd FI]
  have hsz:=GY es pp (hv,Value.ref x);generalize insertAt es pp (hv,Value.ref x)=e1 at *;have hlen:e1.size=(ds++[kx]).length:=by rw[hsz,hn];simp
  by_cases Ge:t2.tooFull=true
  ·rw[Ge];simp only[Bool.not_false,Bool.and_self,if_true];have Dv:t2.fill * 5 ≥ t2.mask * 3:=by simpa [tooFull] using Ge
   rw[P1,m2] at Dv
   have hw:o_ (sizeAbove (grown (es.size+1)) - 1)/\(es.size+1) * 5<(sizeAbove (grown (es.size+1)) - 1) * 3/\sizeAbove (grown (es.size+1))<=128:=by
    rcases hm with q|q|q<;>rw[q] at zp Dv
    ·have:es.size=4:=by omega
     rw[this];exact#[Or.inr (Or.inl (by decide)),by decide,by decide]
    ·have:es.size=18:=by omega
     rw[this];exact#[Or.inr (Or.inr (by decide)),by decide,by decide]
    ·omega
   generalize grown (es.size+1)=wn at hw ⊢;obtain⟨w1,w2,w3⟩:=hw;unfold setRelay;refine aj (aj (wpAny_setState_of hg Z P3 ?_));dsimp only;have h128:(128:Nat)<=sizeLine:=by decide
   rw[ao Z1];obtain⟨t3,od,er,q1,q2,q3,q4,q5,q6,q7⟩:=hk_ (t:=t2) (hs:=e1.map (·.1)) (w:=wn) w1 (by rw[Array.size_map];omega);rw[er];rw[Array.size_map] at q5 q6 q7;have f1:=YK q7
   show wpAny (model prog w) A ((do
    let mm:=od.filterMap (e1[·]?)
    if mm.size != e1.size then unsupported "internal:set-table-lost-an-element"
    pure (mm,t3)) >>= λr=>storeSet a r.1 r.2) _ E _
   dsimp only;rw[ao (by rw[f1,q6];simp)];refine aj (aQ ?_);dsimp only;have Ga:(od.filterMap (e1[·]?)).size=e1.size:=by rw[f1,q6]
   refine wpAny_storeSet_of hg Z ?_ (by rw[Ga];omega);have FI:=Heap.SameBut.update h1 a (Obj.putSet (od.filterMap (e1[·]?)) t3);have DZ:=Qf hg Z (od.filterMap (e1[·]?)) t3;have Oa:=sb.trans FI;refine aQ (h _ Oa #[_,_,_,t3,DZ,hex,Z,Ga.trans hlen,?_,q2,q1▸w1,?_,λe he=>P5 _ Oa e (XY he)])
   ·rw[Ga];simp only[SetTable.fits,iR,beq_iff_eq,jP];refine#[q5,?_];unfold SetTable.fill;rw[q5,q2,q1];simp;omega
   ·rw[Ga,hsz,q1];exact w2
  ·rw[show t2.tooFull=false by simpa using Ge];simp only[Bool.not_false,vO,iM,if_false];refine aQ (h h1 sb #[_,e1,_,t2,hg,hex,Z,hlen,P3,d2,m2▸hm,?_,P5 h1 sb]);have:¬t2.fill * 5 ≥ t2.mask * 3:=by simpa [tooFull] using Ge
   omega
 split
 ·refine aj (X1 hx λb=>?_);cases b
  ·exact tail { t1 with plain:=false } m1 d1 z1
  ·exact tail t1 m1 d1 z1
 ·refine aj (aQ ?_);exact tail t1 m1 d1 z1
end
open PySem.W vR
variable{it:Addr}
section
variable{K:Type}[DecidableEq K]{knd:PySem.KeyKind prog w K}
theorem QF{k:List K}(x:IsTupleKey knd h k b)(eb:∀b o,h.get? b=some o->h'.get? b=some o):IsTupleKey knd h' k b:=by
 obtain⟨o',items,n,eZ,hc,fJ,hi⟩:=x;exact#[o',items,n,eb _ _ eZ,hc,fJ,hi]
theorem WE{ds:List (List K)}(x:pO knd h a ds)(eb:∀b o,h.get? b=some o->h'.get? b=some o):pO knd h' a ds:=by
 obtain⟨o,es,ep,t,ho,h1,h2,h3,h4,h5,h6,h7,iX⟩:=x;exact#[o,es,ep,t,eb _ _ ho,h1,h2,h3,h4,h5,h6,h7,λe he=>let #[b,k,q1,q2,q3]:=iX e he;#[b,k,q1,q2,QF q3 eb]]
theorem Gr{l:Addr}{k:List K}(x:IsTupleKey knd h k b)(hit:h.IsListIter it l i)(eb:Heap.ExtBut it h h'):IsTupleKey knd h' k b:=by
 obtain⟨o',items,n,eZ,hc,fJ,hi⟩:=x
 have:b≠it:=by
  intro e;subst e;obtain⟨o,ho,vf,_⟩:=hit;rw[ho] at eZ;cases eZ;rw[hc] at vf;exact absurd vf (by decide)
 exact#[o',items,n,eb _ _ this eZ,hc,fJ,hi]
theorem OL{l:Addr}{ds:List (List K)}(x:pO knd h a ds)(hit:h.IsListIter it l i)(ne:a≠it)(eb:Heap.ExtBut it h h'):pO knd h' a ds:=by
 obtain⟨o,es,ep,t,ho,h1,h2,h3,h4,h5,h6,h7,iX⟩:=x;exact#[o,es,ep,t,eb _ _ ne ho,h1,h2,h3,h4,h5,h6,h7,λe he=>let #[b,k,q1,q2,q3]:=iX e he;#[b,k,q1,q2,Gr q3 hit eb]]
theorem Y4{ds:List (List K)}{k:List K}(y:pO knd h a ds)(x:IsTupleKey knd h k b)(sb:Heap.SameBut a h h'):IsTupleKey knd h' k b:=by
 obtain⟨o,es,ep,t,ho,h1,h2,_⟩:=y;exact LS x ho h2 sb
theorem Zk(h:Heap)(led:Bool):pO knd (h.push { cls:=.type "set",data:=.set #[] 0 (SetTable.fresh 0 0 led) }) h.objs.size []:=
 #[_,#[],0,_,dI _ Z,#[Z,Z,Z],Z,Z,by cases led<;>decide,Z,Or.inl Z,by show 0<7 * 3;decide,λe he=>by simp at he]
end
variable{w:Af}{its:List Aa}{prog:Ad}{A:Ag}
theorem XE{K:Type}[DecidableEq K]{knd:PySem.KeyKind prog w K}{l S:Addr}(hu:A.in1.units<cLine)(DX:l≠it)(md:S≠it)(w4:S≠l)(hh:A.handled=none){ss:List (List K)}(nd:ss.Nodup)(hz:ss.length<=64)(rest:List Aa):∀(i:Nat) (s:Ab) (R:Result->Ab->Prop),its.drop i=rest->i<=its.length->
  s.heap.IsListIter it l i->s.heap.IsList l its.toArray->pO knd s.heap S (ss.take i)->Paired (λv k=>∃b,v=Value.ref b/\IsTupleKey knd s.heap k b) its ss->
  (∀h' eY,pO knd h' S ss->(∀b o,b≠S->b≠it->s.heap.get? b=some o->h'.get? b=some o)->R (.ok (.ret .none)) { s with heap:=h',toks:=eY })->
  codeAny (model prog w) A (.builtin "set.update.loop" #[[.ref S,.ref it],[]]) R s:=by
 induction rest with
 |nil=>
  intro i s R e il hit hl hd pH hR;have len:=bE pH
  have hlen:i=its.length:=by
   have:=dF List.length e;simp only[List.length_drop,sW] at this;omega
  have hi:its.toArray[i]? = none:=by
   simp;omega
  refine codeAny_builtin Hh ?_;rw[xq By _];unfold Builtin.«set.update.loop»;refine aj (wpAny_pyNext_list_end hh hit hl hi λh' he=>?_);refine aQ (hR h' s.toks ?_ λb o _ hb q=>he b o hb q);rw[hlen,len,dG] at hd;exact OL hd hit md he
 |cons v rest ih=>
  intro i s R e il hit hl hd pH hR;have len:=bE pH
  have q0:its[i]? = some v:=by
   have q:(its.drop i)[0]? = some v:=by rw[e];rfl
   rw[List.getElem?_drop] at q;simpa using q
  have hi:its.toArray[i]? = some v:=by simpa using q0
  have e':its.drop (i+1)=rest:=by
   rw[<- List.drop_drop,e];rfl
  obtain⟨lt,ev⟩:=bP.mp q0;have lt':i<ss.length:=by omega
  obtain⟨vb,Rq,hk⟩:=L2.az pH i lt lt';rw[ev] at Rq;subst Rq;have hx:ss[i]? = some ss[i]:=di lt';generalize ss[i]=x at hk hx
  have nx:¬x∈ss.take i:=λm=>by
   obtain⟨j,hj,ej⟩:=ph m;rw[cj] at hj;rw[List.getElem_take] at ej;have:=(List.getElem_inj nd).mp (ej.trans (bP.mp hx).2.symm);omega
  refine codeAny_builtin Hh ?_;rw[xq By _];unfold Builtin.«set.update.loop»;refine aj (wpAny_pyNext_list_item hit hl hi λh1 sE ib=>?_);refine aj (gO ?_);unfold setAdd;have g_:=OL hd hit md ib.extBut;refine gO (aj (wpAny_pyHash_tuple (knd:=knd) (ks:=x) (by exact hu) (Gr hk hit ib.extBut) (Xs (knd:=knd) (kx:=x) (by exact hu) g_ (Gr hk hit ib.extBut) nx (by rw[cj];omega) λh2 sb pI=>?_)))
  have JZ:pO knd h2 S (ss.take (i+1)):=by
   rw[hV,hx];exact pI
  have JX:Paired (λv k=>∃b,v=Value.ref b/\IsTupleKey knd h2 k b) its ss:=Paired.bo pH λv k ⟨b,e1,e2⟩=>#[b,e1,Y4 g_ (Gr e2 hit ib.extBut) sb];refine aQ #[plainId_quiet By _,?_];exact ih (i+1) _ R e' Z1 (sE.extBut sb.extBut (Ne.symm md)) (hl.at λo q=>sb.extBut _ _ (Ne.symm w4) (ib.extBut _ _ DX q)) JZ JX λh' eY a b=>hR h' eY a λc o n1 n2 q=>b c o n1 n2 (sb.extBut _ _ n1 (ib.extBut _ _ n2 q))
theorem gA_{K:Type}[DecidableEq K]{knd:PySem.KeyKind prog w K}{E:Aa->Ab->Prop}{s:Ab}(hu:A.units+3<cLine){l:Addr}{ss:List (List K)}{Q:Aa->Ab->Prop}(hh:A.handled=none)(ho:s.heap.get? l=some (seqObj "list" its.toArray n))(nd:ss.Nodup)(pH:Paired (λv k=>∃b,v=Value.ref b/\IsTupleKey knd s.heap k b) its ss)(hz:ss.length<=64)(h:∀h' eY,pO knd h' s.heap.objs.size ss->(∀b o,s.heap.get? b=some o->h'.get? b=some o)->Q (.ref s.heap.objs.size) { s with heap:=h',toks:=eY }) :
  wpAny (model prog w) A (call (.type "set") [.ref l]) Q E s:=by
 refine wpAny_call (codeAny_of_tree ?_);refine aQ #[Code.quiet_builtin _ Z0,codeAny_builtin entry_typeCall ?_];unfold Builtin.«type.__call__»;refine i7 Z ?_;refine i7 F.called_set.canCreate ?_;refine aj (wpAny_of_eq (F.typeCall_set_1 _) ?_);obtain⟨c,tl,zf⟩:=F.called_set.mro;refine aj (wpAny_of_eq zf (i7 Z ?_));refine aj (wpAny_of_eq F.called_set.made (aj (aQ ?_)));refine aj (gO (wpAny_call (code_set_new_1 _ λled=>?_)));have gA:=Zk (knd:=knd) s.heap led;have eB:(s.heap.push { cls:=.type "set",data:=.set #[] 0 (SetTable.fresh 0 0 led) }).get? l=some (seqObj "list" its.toArray n):=bH _ ho;have ib:(s.heap.push { cls:=.type "set",data:=.set #[] 0 (SetTable.fresh 0 0 led) }).get? s.heap.objs.size=some { cls:=.type "set",data:=.set #[] 0 (SetTable.fresh 0 0 led) }:=dI _ Z;have sz:(s.heap.push { cls:=.type "set",data:=.set #[] 0 (SetTable.fresh 0 0 led) }).objs.size=s.heap.objs.size+1:=Heap.size_push ..;have all:∀b o,s.heap.get? b=some o->(s.heap.push { cls:=.type "set",data:=.set #[] 0 (SetTable.fresh 0 0 led) }).get? b=some o:=λb o q=>bH _ q;generalize s.heap.push { cls:=.type "set",data:=.set #[] 0 (SetTable.fresh 0 0 led) }=h1 at *;have hT:∀t,Shared.TypeIs { s with heap:=h1,toks:=t } (.ref s.heap.objs.size) "set":=λt=>#[_,ib,Z];refine aj (wpAny_isInstance (hT _) F.called_set.sub (i7 Z (aj (gO ?_))));unfold callSpecial?;refine aj (wpAny_specialOf (hT _) F.slot_set_init.lookup ?_);refine gO (aj (wpAny_of_eq (F.slot_set_init.bind _) ?_));refine aj (wpAny_call (codeAny_call_builtin F.slot_set_init.plain F.entry_set_init (check_set_init_1 (hT _) ?_)));unfold Builtin.«set.__init__»;refine aj (wpAny_ite_true Z (aQ ?_));refine aj ?_;unfold typeNameOfCut;refine aj ?_;unfold shownTypeOf;refine aj (wpAny_typeOf (T:="set") (hT _) ?_);refine i7 Z (aQ (aQ ?_));refine aj (wpAny_of_eq (show checkCount _ 0 1 1=pure () from Z) ?_);refine aj (aQ (aj ?_));unfold setUsed setState;refine aj (aj (wpAny_load ib ?_));refine i7 (by cases led<;>rfl) (aQ (aQ ?_))
 refine i7 (by cases led<;>rfl) ?_
 refine (show wpAny _ _ (Builtin.Frozenset.updateFrom "set.__init__" s.heap.objs.size (.ref l) >>= λ_=>ret Value.none) _ _ _ from aj ?_);unfold Builtin.Frozenset.updateFrom Builtin.Frozenset.isAnySet;have tl:∀t,Shared.TypeIs { s with heap:=h1,toks:=t } (.ref l) "list":=λt=>#[_,eB,Z];refine aj ?_;unfold orM;refine aj (wpAny_isInstance (tl _) (b:=false) (by kernel_rfl) ?_);refine (show wpAny _ _ (isInstance (.ref l) (.type "frozenset")) _ _ _ from wpAny_isInstance (tl _) (b:=false) (by kernel_rfl) ?_);refine i7 Z (aj (wpAny_typeOf (T:="list") (tl _) (i7 Z ?_)));refine aj (wpAny_pyIter_list #[_,eB,Z,_,Z] ?_);refine aj (wpAny_runValue ?_);have lz:l<s.heap.objs.size:=bN ho;refine XE (knd:=knd) (by exact hu) (its:=its) (ss:=ss) (it:=h1.objs.size) (l:=l) (S:=s.heap.objs.size) (dc (by rw[sz];exact Nat.lt_succ_of_lt lz)) (dc (by rw[sz];exact Nat.lt_succ_self _)) (pY lz) (by exact hh) nd hz its 0 { s with heap:=h1.push { cls:=Value.type "list_iterator",data:=Data.fields (List.toArray [Value.ref l,Value.int 0 0]) } } _ Z (fB _) #[_,dI _ Z,Z,Z] #[_,bH _ eB,Z,_,Z] (WE (by simpa using gA) λb o q=>bH _ q) (Paired.bo pH λv k ⟨b,e1,e2⟩=>#[b,e1,QF e2 λb o q=>bH _ (all b o q)]) λh' eY j8 kp=>?_;refine aQ (aQ (aQ ?_));refine (show wpAny _ _ (ret (Value.ref s.heap.objs.size)) _ _ _ from aQ (h h' eY j8 λb o q=>?_));have bl:b<s.heap.objs.size:=bN q;exact kp b o (dc bl) (dc (by rw[sz];exact Nat.lt_succ_of_lt bl)) (bH _ (all b o q))
inductive R8 (K:ag) (Q:VK) (x:V) (H1:Hp):Prop
 |mk:∀(l:Addr) (ys:List V) (ks:List (List Key)),x=.ref l->H1 l=some (.lst ys)->aY K H1 ys ks->ks.Nodup->ks.length<=64->Q (.int ks.length) H1->R8 K Q x H1
def qh(K:ag)(te:TE):TE:=λσ H Q=>te σ H λx H1=>R8 K Q x H1
theorem Zi{K:ag}{P:Ad}{H:Hp}(ok:eX P w H h){ys:List V}{vs:List Aa}{ks:List (List Key)}(r:Vals ys vs)(t:aY K H ys ks):Paired (λv k=>∃b,v=Value.ref b/\IsTupleKey (dX P w) h k b) vs ks:=by
  induction t generalizing vs with
  |nil=>cases r;exact .nil
  |cons hd tl ih=>
   cases r with
   |cons a b=>
    obtain⟨ad,e1,e2⟩:=hd;subst e1;exact .cons #[ad,a,zY ok e2] (ih b)
variable{X:Cx}
theorem gb_{e:Expr}{te:TE}{p1 p2 lW fF:Pos}(hu:X.A.units+3<cLine)(gL:Gl X "len")(mL:X.mg "len"=none)(gS:Gl X "set")(mS:X.mg "set"=none)(he:PE X e te)(hc:X.calm=true:=by rfl)(h1:starEach [e] X.env=(false,eval e X.env)::starEach [] X.env:=by rfl)(h2:starEach [.Call (.Name "set" p2) [e] [] fF] X.env=(false,eval (.Call (.Name "set" p2) [e] [] fF) X.env)::starEach [] X.env:=by rfl)(h3:(backTo lW (starEach [] X.env)).any (·.1)=false:=by rfl)(h4:(backTo fF (starEach [] X.env)).any (·.1)=false:=by rfl):PE X (.Call (.Name "len" p1) [.Call (.Name "set" p2) [e] [] fF] [] lW) (qh X.K te):=by
 intro pins s σ H Q I h;refine tO (tZ I gL mL gP ?_ (by decide) (by decide));refine PyProof.Rows.callWith_builtin1 ?_ h2 h3;rw[h2];show wpAny _ _ (spliced ((false,eval (.Call (.Name "set" p2) [e] [] fF) X.env)::backTo lW (starEach [] X.env))) _ _ s;refine Calls.spliced_cons ?_;refine tO (tZ I gS mS PyProof.Rows.Boot.«set» ?_ (by decide) (by decide));refine PyProof.Rows.callWith_type1 ?_ h1 h4;rw[h1];show wpAny _ _ (spliced ((false,eval e X.env)::backTo fF (starEach [] X.env))) _ _ s;refine Calls.spliced_cons (aJ (he pins s σ H _ I h) λu s1 ⟨x,H1,I1,r1,l,ys,ks,ex,hl,tu,nd,len,q⟩=>Calls.spliced_nil ?_);subst ex;cases r1;obtain⟨z,its,n,r,hlen,e'⟩:=I1.iD hl;refine gA_ (knd:=dX X.prog X.w) (ss:=ks) (by exact hu) (I1.ok.hd hc) e' nd (Zi I1.aF r tu) len λh' eY hs kp=>?_;refine Calls.spliced_nil ?_;obtain⟨o,es,ep,t,ho,ex,hd,hn,fit,_⟩:=hs;refine PySem.call_len_set ho ex hd fit Z1 ?_;rw[hn];exact#[.int _,H1,(I1.kept (t':=eY) kp).tok _,#[_,Z],q]
open PySem.Builtin PySem.Builtin.Str
inductive nQ (x:V) (vs:List V) (H:Hp) (Q:VK):Prop
 |mk:∀(z y:Str) (c:Nat),x=.str z->vs=[.str y]->y=⟨(List.toArray [c])⟩->z.length<=50000->(∀l,H l=none->Q (.ref l) (upd H l (.lst ((Txt.split z y).map V.str))))->nQ x vs H Q
theorem hN_:HM X "str.split" nQ:=by
 intro pins s σ H x vs v us Q I rx rv h;obtain⟨z,y,c,rfl,rfl,ey,hz,q⟩:=h;obtain⟨t,rfl⟩:=rx;obtain⟨u,rfl,t2,rfl⟩:=rv.one;have sz:=bU;have hy:(y.length == 0)=false:=by rw[ey];rfl
 have hn:(partsBetween z (occurrences z y 0 z.length (z.length+1)) y.length).length<=60000:=by
  rw[length_partsBetween];have:=StrLaws.occ_length_le z y 0 z.length (z.length+1);omega
 have sl:=PyProof.Rows.split_le z y
 have fin:∀(l:List (Str × Tok)) (k:Nat),l.map (·.1)=Txt.split z y->EP X pins σ Q (.ref s.heap.objs.size) { s with toks:=k,heap:=s.heap.push { cls:=.type "list",data:=.seq (strValues l).toArray } }:=λl k e=>by
  have vl:=RZ l;rw[e] at vl;refine#[.ref s.heap.objs.size,_,I.laid (t':=k) (o:=.lst ((Txt.split z y).map V.str)) (λb ob q=>bH _ q) (aZ _) ?_,Z,q _ (I.aF.fresh (aZ _))];refine#[?_,_,0,vl,dI _ Z];rw[aq];omega
 cases hA:(decide (z.length<y.length) || decide (strKind z<strKind y)) with
 |true=>
  refine call_meets PySem.F.slot_str_split (typeIs_str _ _ _) PySem.F.entry_str_split (PySem.F.args_str_split_2 _ _) (meets_str_split_cannot_occur z y t t2 hA) ?_;exact fin [(z,t)] _ (by unfold Txt.split;rw[aC hA];rfl)
 |false=>
  cases hB:(occurrences z y 0 z.length (z.length+1)).isEmpty with
  |true=>
   refine call_meets PySem.F.slot_str_split (typeIs_str _ _ _) PySem.F.entry_str_split (PySem.F.args_str_split_2 _ _) (meets_str_split_not_found z y t t2 hA hy hB) ?_;exact fin [(z,t)] _ (by unfold Txt.split;rw[ao (by rw[hA];decide),aC hB];rfl)
  |false=>
   refine call_meets PySem.F.slot_str_split (typeIs_str _ _ _) PySem.F.entry_str_split (PySem.F.args_str_split_2 _ _) (meets_str_split_sep z y t t2 hA hy hB Z1 Z1) ?_;show wants _ _ _ { s with toks:=_,heap:=s.heap.push { cls:=.type "list",data:=.seq (strsFrom s.toks (partsBetween z (occurrences z y 0 z.length (z.length+1)) y.length)).toArray } };rw[strsFrom_eq];exact fin (numbered s.toks _) _ ((numbered_texts _ _).trans (by unfold Txt.split;rw[ao (by rw[hA];decide),ao (by rw[hB];decide)]))
end L2
namespace Ev
open PySem L2
theorem ZJ:(rl.all λr=>match Txt.split r.1 " " with
 |a::b::_=>decide (a=r.2.1)&&(decide (b="one") == decide (r.2.2.1="one"))
 |_=>false)=true:=by decide +kernel
theorem _D{r:Rl}(h:r∈rl):∃b c,Txt.split r.1 " "=r.2.1::b::c/\(b="one" ↔ r.2.2.1="one"):=by
 have:=List.all_eq_true.mp ZJ r h;revert this;split
 ·rename_i a b c e
  intro q;simp only[iR,jP,beq_iff_eq,decide_eq_decide] at q;exact#[b,c,by rw[e,q.1],q.2]
 ·intro q;cases q
theorem _q:∀r∈rl,r.1.length<=1000:=by decide +kernel
theorem Wm{ms:List Mv}(h:(ms.map (·.2)).Nodup):((ms.map (·.2)).map kT).Nodup:=(mM.mpr (h.imp λq e=>q (Ah e)))
theorem jw{D:Ends}{σ:St}{H:Hp}(h:D.nx σ H):vZ D σ H:=h
section
variable{P:Ad}{w:Af}{K:ag}{mg:Str->Option Aa}{base:Heap}
theorem GT:bh ["_law_rule","_law_moves","_law_words","_law_ways_here","_law_givers"] ["_law_rule","_law_moves"] (aU qX):=bu
inductive kQ (K:ag) (vs:List V) (H:Hp) (Q:VK) (E:XK):Prop
 |mk:∀(lm:Addr) (hs:Xa) (ts:Xb) (qs:List Pc) (f:Str->Str) (ys:List V) (ms:List Mv),∀r∈rl,vs=[.str r.1,.ref lm]->H lm=some (.lst ys)->aY K H ys (ms.map kM)->xk r hs ts qs f ms->ms.length<=64->(r.2.2.1="one"->ms.length<2)->(∀H',aa H H'->Q (.bl true) H')->kQ K vs H Q E
theorem Za{f0:Addr}{fd:Ae}(F:a9 K "_law_many_right" "_law_many_right" qX f0 fd)(B:Bi mg)(bS:mg "set"=none):ai P w K mg base aR 1 f0 fd ["_law_rule","_law_moves"] (kQ K):=by
 refine F.bt GT λaL A outer s H vs Q E hr h=>?_
 ·obtain⟨lm,hs,ts,qs,f,ys,ms,r,AU,rfl,iF,tu,ok,F6,one,k⟩:=h;have sz:=bU;have Ds:=Nat.lt_of_le_of_lt (Nat.add_le_add_left (show 3<=64 by decide) _) hr.units;refine' #[_,au ?s1 (au ?s2 (au ?s3 (au ?s4 (au ?s5 (au ?s6 (aI ?s7)))))),?kk]
  case s1=>exact bg 2 GT.nd (mz PySem.F.plainAttrs_str PySem.F.slot_str_split PySem.F.type_str_split hN_ (pv 0) (ae dg af))
  case' s2=>refine' GP (i:=3) ["_law_piece","_law_one","_law_other"] 3 [] GT.nd Z (Or.inl Z) (dH (pv 1)) (λfp s H=>Bj (n:=3) (bY (fq 0) (bY (fq 1) (bY (fq 2) gR)))) (λfp s H=>gT) (λfp s H=>?e2)
  case e2=>exact fA (ae (pv 1) (ae (pv 2) af))
  case' s3=>refine' GP (i:=4) ["_law_one","_law_other"] 2 [] GT.nd Z (Or.inl Z) (dH (pv 3)) (λfp s H=>Bj (n:=2) (bY (fq 0) (bY (fq 1) gR))) (λfp s H=>gT) (λfp s H=>?e3)
  case e3=>exact pv 0
  case' s4=>refine' bC (cU oA (RF (by rfl) B.len (by rfl) bS (iP ["_law_move"] 1 [] (dH (pv 1)) (λfp s H=>fq 0) (λfp s H=>gT) (λfp s H=>?e4))) (cK jU (by rfl) B.len gP (ae (pv 1) af)) (ak _)) cq bD
  case e4=>exact bB (AQ (K:=K) lV cy) (pv 0) aE (λ_ _=>rfl)
  case s5=>exact bC (PW.pt (xo (cU oA (bB gQ (pv 2) aE (λ_ _=>rfl)) dg (ak _)) (Aq (cU oA (gb_ (by exact Ds) (by rfl) B.len (by rfl) bS (pv 3)) (cK jU (by rfl) B.len gP (ae (pv 3) af)) (ak _))))) cq bD
  case s6=>exact bC (PW.pt (xo (cU i9 (bB gQ (pv 2) aE (λ_ _=>rfl)) dg (ak _)) (Aq (cU oA (RF (by rfl) B.len (by rfl) bS (pv 4)) (cK jU (by rfl) B.len gP (ae (pv 4) af)) (ak _))))) cq bD
  case s7=>exact ba (A9 (iQ oA (bB gQ (pv 2) aE (λ_ _=>rfl)) dg (ak _)) (mw (iQ JI (cK jU (by rfl) B.len gP (ae (pv 1) af)) aE (ak _))))
  case' kk=>skip
  obtain⟨b,c,ew,eb⟩:=_D AU;have rsl:=_q r AU;have yN:=bE tu;rw[aq] at yN;refine#[_,Z,Z,r.1," ",32,Z,Z,Z,by omega,λlw VY=>?_];rw[ew];obtain⟨s1,e1⟩:=aO (o:=.lst ((r.2.1::b::c).map V.str)) VY;generalize upd H lw (.lst ((r.2.1::b::c).map V.str))=H1 at s1 e1 ⊢;refine setG ?_;dsimp only;have eB:=s1 _ _ iF;have Fy:=tu.same s1;refine#[_,Z,lm,Z,#[_,.of eB],λD hD=>?_];refine mK (own:=3) (fv:=[]) (xs:=ys) Z Ec (λi out H'=>aa H1 H'/\H' D=some (.lst out)/\aY K H' out (((ms.take i).map (·.2)).map kT)) #[aa.new hD,ay,.nil] (λi out H' _ ⟨sm,_,_⟩=>.of (sm _ _ eB)) (λout H2 ⟨s2,hd2,to⟩=>?_) (λi y out H' hy ⟨sm,hd,to⟩=>?_);rotate_left
  ·obtain⟨m,hm,tm,rfl,gf⟩:=ij Fy hy;have gf:=DE (sm _ _ gf);refine#[_,#[tm,_,_,_,Z,.of gf,Z],Z,λNx hN=>cZ ?_];refine#[_,Z,_,Z,by show 2<=sizeLine;decide,λtq _X=>?_];have sA:=aa.new (o:=.tup [.str m.2.1,.str m.2.2]) _X;have il:=(bP.mp hm).1;have lo:=bE to;rw[aq,aq,cj] at lo;refine#[out,sA _ _ hd,by omega,hN _ _ #[gh (sm.trans sA) hD,ay,?_]];rw[Fb hm,bX,bX];exact kq (An (to.same sA) ay) (sA _ _ hd)
  rw[yN,dG] at to;refine setG ?_;dsimp only;have Jv:=bE to;rw[aq,aq] at Jv;have oX:=s2 _ _ eB;have UL:=Fy.same s2;refine#[_,Z,D,Z,#[_,.of hd2],λG hG=>?_];refine mK (own:=2) (fv:=[]) (xs:=out) Z zw (λi gs H'=>aa H2 H'/\H' G=some (.lst gs)/\gs=((ms.take i).map (·.2.1)).map V.str) #[aa.new hG,ay,Z] (λi gs H' _ ⟨sm,_,_⟩=>.of (sm _ _ hd2)) (λgs H3 ⟨s3,hg3,eg⟩=>?_) (λi y gs H' hy ⟨sm,hg,eg⟩=>?_);rotate_left
  ·obtain⟨t,ht,tm,rfl,gf⟩:=ij to hy;rw[dU] at ht;cases em:ms[i]? with
   |none=>rw[em] at ht;cases ht
   |some m=>
    rw[em] at ht;have et:m.2=t:=dW ht;have il:=(bP.mp em).1;refine#[_,#[tm,_,_,Z,.of (sm _ _ (sk gf)),Z],Z,λNx hN=>cZ ?_];refine#[_,Z,gs,hg,by rw[eg,aq,aq,cj];omega,hN _ _ #[gh sm hG,ay,?_]];rw[Fb em,bX,bX,eg,<- et];rfl
  rw[Jv,dG] at eg;subst eg;refine setG ?_;dsimp only;have jE:=s3 _ _ oX;have g9:=s3 _ _ hd2;have to3:=to.same s3;have HY:=UL.same s3;have ew3:=s3 _ _ (s2 _ _ e1);refine#[_,Z,lm,Z,#[_,.of jE],λC hC=>?_];refine mK (own:=1) (fv:=[]) (xs:=ys) Z eD (λi gs H'=>aa H3 H'/\H' C=some (.lst gs)/\gs=((ms.take i).map (·.1)).map V.str) #[aa.new hC,ay,Z] (λi gs H' _ ⟨sm,_,_⟩=>.of (sm _ _ jE)) (λgs H4 ⟨s4,hc4,eg⟩=>?_) (λi y gs H' hy ⟨sm,hg,eg⟩=>?_);rotate_left
  ·obtain⟨m,hm,tm,rfl,gf⟩:=ij HY hy;have gf:=DE (sm _ _ gf);have il:=(bP.mp hm).1;refine#[_,Z,Z,λNx hN=>cZ ?_];refine#[_,Z,tm,_,0,_,Z,Z,.of gf,Z,gs,hg,by rw[eg,aq,aq,cj];omega,hN _ _ #[gh sm hC,ay,?_]];rw[Fb hm,bX,bX,eg];rfl
  rw[yN,dG] at eg;subst eg;have PQ:=s4 _ _ jE;have zq:=s4 _ _ g9;have UM:=to3.same s4;have K2:=s4 _ _ ew3;have DY:=s4 _ _ hg3;have L1:(ms.map (·.1)).length=ms.length:=aq _;refine#[C,_,Z,hc4,ok.nd,by omega,_,Z,lm,_,Z,.inl (.of PQ),Z,_,Z,?_];refine tQ (by rw[L1,yN]) (jw ?_);dsimp only;have Tt:gG ((r.2.1::b::c).map V.str) 0=some (.str r.2.1):=by rw[oC (by decide) (by show (0:Int)<(((c.map V.str).length+1+1:Nat):Int);omega)];rfl
  have Nv:gG ((r.2.1::b::c).map V.str) 1=some (.str b):=by rw[oC (by decide) (by show (1:Int)<(((c.map V.str).length+1+1:Nat):Int);omega)];rfl
  have fin:∀{H':Hp},aa H4 H'->Q (.bl true) H':=λs'=>k _ (s1.trans (s2.trans (s3.trans (s4.trans s'))));refine dq (λσ H'=>σ=[some (.str r.1),some (.ref lm),some (.ref lw),some (.ref D),some (.ref G)]/\aa H4 H') ?later (λNx hN=>?now)
  case now=>
   refine#[_,Z,lw,_,0,.str r.2.1,Z,Z,.of K2,Tt,Z,_,Z,?_];by_cases sh:r.2.1="shares"
   ·refine tQ (by rw[sh]) (aM (jw (hN _ _ #[Z,aa.refl _])))
   ·refine bp (λ_=>?_) (λc=>?_)
    ·have V7:=Wm (ok.pr sh);have l2:((ms.map (·.2)).map kT).length=ms.length:=by rw[aq,aq]
     refine#[_,Z,D,out,_,Z,zq,UM,V7,by omega,_,Z,D,_,Z,.inl (.of zq),Z,_,Z,?_];exact tQ (by rw[l2,Jv]) (jw (hN _ _ #[Z,aa.refl _]))
    ·have c:V.str r.2.1=V.str "shares":=by simpa using c
     exact absurd (V.str.inj c) sh
  rintro _ H5 ⟨rfl,s5⟩;refine dq (λσ H'=>σ=[some (.str r.1),some (.ref lm),some (.ref lw),some (.ref D),some (.ref G)]/\aa H4 H') ?JD (λNx hN=>?Jh)
  case Jh=>
   refine#[_,Z,lw,_,0,.str r.2.1,Z,Z,.of (s5 _ _ K2),Tt,Z,_,Z,?_];by_cases le:r.2.1="least"
   ·rw[show decide (V.str r.2.1=V.str "least")=true by rw[le];rfl];refine dQ ?_;have l3:(ms.map (·.2.1)).length=ms.length:=aq _;refine#[_,Z,G,_,Z,s5 _ _ DY,ok.gv le,by omega,_,Z,G,_,Z,.inl (.of (s5 _ _ DY)),Z,_,Z,?_];exact tQ (by rw[aq,aq,aq]) (jw (hN _ _ #[Z,s5]))
   ·rw[show decide (V.str r.2.1=V.str "least")=false from dA λz=>le (V.str.inj z)];exact aM (aM (jw (hN _ _ #[Z,s5])))
  rintro _ H6 ⟨rfl,s6⟩;refine#[_,Z,lw,_,1,.str b,Z,Z,.of (s6 _ _ K2),Nv,Z,_,Z,?_];refine bp (λ_=>fin s6) (λcc=>?_);have o1:V.str b=V.str "one":=by simpa using cc
  have l2:=one (eb.mp (V.str.inj o1));refine#[_,Z,lm,_,Z,.inl (.of (s6 _ _ PQ)),_,_,Z,Z,?_];rw[show decide (((ys.length:Nat):Int)<2)=true from bW Z1];exact fin s6
end
variable{H:Hp}{K:ag}{p:Addr}{hs:Xa}{ts:Xb}{fp:List Addr}
theorem fK.vj{C:Addr}(W:fK K C H p hs ts fp){b:Addr}(hb:b∈fp):∃o,H b=some o/\∀vs,o≠.tbl vs:=by
 obtain⟨dx,d1,l2,d3,zs,as,rfl,h1,h2,h3,h4,h5,h6,h7⟩:=W.ex;simp only[bO] at hb;rcases hb with rfl|rfl|rfl|rfl|hb
 ·exact#[_,h1,by intro vs z;cases z]
 ·exact#[_,h2,by intro vs z;cases z]
 ·exact#[_,h3,by intro vs z;cases z]
 ·exact#[_,h5,by intro vs z;cases z]
 ·obtain⟨i,hi,e⟩:=ph hb;exact#[_,h7 i ((aA hs)[i]' Z1) b (di Z1) (by rw[<- e];exact di hi),by intro vs z;cases z]
variable{CG CW g:Addr}{qs:List Pc}
theorem fQ.vj(G:fQ K CG CW H g p hs ts qs fp):∃Ei,fQ K CG CW H g p hs ts qs Ei/\(∀b∈Ei,b∈fp)/\∀b∈Ei,∃o,H b=some o/\∀vs,o≠.tbl vs:=by
 obtain⟨dx,dw,dy,vs,bL,h1,h2,h3,h4,h5,m1,m2,m3,m4,m5⟩:=G.ex;refine#[g::dw::dy::(bL++vs.filterMap λv=>match v with | .ref a=>some a|_=>none),#[dx,dw,dy,vs,bL,h1,h2,h3,h4,h5,by simp,by simp,by simp,λb hb=>by simp[hb],λv hv a z=>?_],λb hb=>?_,λb hb=>?_]
 ·have:a∈vs.filterMap λv=>match v with | .ref a=>some a|_=>none:=ue.mpr #[v,hv,by rw[z]];simp only[bO,eK];exact .inr (.inr (.inr (.inr this)))
 ·simp only[bO,eK] at hb;rcases hb with rfl|rfl|rfl|hb|hb
  ·exact m1
  ·exact m2
  ·exact m3
  ·exact m4 b hb
  ·obtain⟨v,hv,e⟩:=ue.mp hb;cases v with
   |ref a=>cases e;exact m5 _ hv _ Z
   |_=>cases e
 ·simp only[bO,eK] at hb;rcases hb with rfl|rfl|rfl|hb|hb
  ·exact#[_,h1,by intro vs z;cases z]
  ·exact#[_,h3,by intro vs z;cases z]
  ·exact#[_,h4,by intro vs z;cases z]
  ·exact h2.vj hb
  ·obtain⟨v,hv,e⟩:=ue.mp hb;obtain⟨i,hi,ev⟩:=ph hv;have le:=bE h5;have w:=az h5 i hi Z1;rw[ev] at w;cases o:(qs[i]' Z1).2.2 with
   |none=>
    rw[o] at w;rw[show v=.non from w] at e;cases e
   |some ws=>
    rw[o] at w;obtain⟨a,ys,ea,ha,_⟩:=w;rw[ea] at e;cases e;exact#[_,ha,by intro vs z;cases z]
theorem XW{H':Hp}{a:Addr}{xs:List V}(s:NT H H')(h:dB K H a xs):dB K H' a xs:=by
 rcases h with (h|⟨o,h⟩)|h
 ·exact .inl (.inl (s.lst h))
 ·exact .inl (.inr #[o,s _ _ h nofun])
 ·exact .inr h
variable{l:Addr}
theorem aV.same{H1 H2:Hp}(b:aV l H1 H2)(n:H l=none)(s:aa H H1):aa H H2:=λc o e=>b c o (s c o e) (bI e n)
variable{G:Hp}
theorem Tb.same{T1 T2:Addr}(t:Tb H T1 T2)(s:aa H G):Tb G T1 T2:=#[t.a.same s,t.b.same s,t.ne]
theorem Qm{ys:List V}{ks:List (List Key)}(t:aY K H ys ks)(s:NT H G):aY K G ys ks:=Paired.bo t λy k ⟨b,z,q⟩=>#[b,z,s.tup q]
theorem uf.mv{d:Addr}{ns:List Str}{f:Str->Str}(S:uf K CG CW H g p d hs ts qs fp ns f)(b:aV l H G)(st:dD H l)(n:l∉fp)(dl:d≠l):uf K CG CW G g p d hs ts qs fp ns f:=by
 obtain⟨xs,hl⟩:=st.some;have kb:∀c∈fp,∀o,H c=some o->G c=some o:=λc hc o e=>b c o e (λz=>n (z▸hc));refine#[S.G.keep kb λc zs e=>b _ _ e (bZ e hl nofun),S.oz,b _ _ S.hd dl,S.so,λc hc=>?_];obtain⟨o,e,q⟩:=S.has c hc;exact#[o,kb c hc o e,q]
end Ev
namespace HP
open PySem PySem.SeqAt PyProof.Rows
open AutoSeq1 (wpAny_loadPart')
open MeetsSeq MeetsSeq2 MeetsSeq3 SeqRoads2
variable{b:Addr}{prog:Ad}{w:Af}{A:Ag}{E:Aa->Ab->Prop}{s:Ab}
theorem sJ{K:Type}[DecidableEq K]{knd:PySem.KeyKind prog w K}{a:Addr}{ka kb:List (K × Aa)}{r:Bool}{Q:Bool->Ab->Prop}(ne:a≠b)(na:(a == sysModules)=false)(nb:(b == sysModules)=false)(da:Heap.DictOf knd s.heap a ka)(db:Heap.DictOf knd s.heap b kb)(hu:A.units<cLine)(h:ka.length=kb.length->W.KeqHits A.in1 s kb ka r)(q:Q (ka.length == kb.length&&r) s) :
  wpAny (model prog w) A (eqBool (.ref a) (.ref b)) Q E s:=by
 have rc:∀{Q:Aa->Ab->Prop},Q (.bool (ka.length == kb.length&&r)) s->wpAny (model prog w) A (richCompare .Eq (.ref a) (.ref b)) Q E s:=λq=>W.keq_eq (A:=A) na nb da db hu h q;have Ov:((Value.ref a == Value.ref b)=true)=False:=by simp[ne]
 generalize (ka.length == kb.length&&r)=z at rc q;unfold eqBool
 wp_walk using rc
 exact q
variable{l:Addr}{x1 x2 y1 y2:Aa}{m n:Nat}{db dl:Option Addr}{sb sl:Array (Option Aa)}{R:Fin->Ab->Prop}
theorem YV(gl:s.heap.get? l=some { cls:=.type "tuple",dict:=dl,data:=.seq (List.toArray [x1,x2]) n,slots:=sl })(gb:s.heap.get? b=some { cls:=.type "tuple",dict:=db,data:=.seq (List.toArray [y1,y2]) m,slots:=sb })(h1:∀{Q:Bool->Ab->Prop},Q true s->wpAny (model prog w) A (eqBool x1 y1) Q E s)(h2:∀{Q:Bool->Ab->Prop},Q true s->wpAny (model prog w) A (eqBool x2 y2) Q E s)(h:R (.done (.ret (.bool false))) s) :
  wpAny (model prog w) A (Builtin.«tuple.__ne__» #[[.ref l,.ref b],[]]) R E s:=by
 obtain⟨hp,g,d,tk,os⟩:=s;have f3:=AutoSeq1.sub_tuple_tuple
 wp_walk using kj gl,kj gb,h1,h2
 exact h
variable{x3 y3:Aa}
theorem YM(gl:s.heap.get? l=some { cls:=.type "tuple",dict:=dl,data:=.seq (List.toArray [x1,x2,x3]) n,slots:=sl })(gb:s.heap.get? b=some { cls:=.type "tuple",dict:=db,data:=.seq (List.toArray [y1,y2,y3]) m,slots:=sb })(h1:∀{Q:Bool->Ab->Prop},Q true s->wpAny (model prog w) A (eqBool x1 y1) Q E s)(h2:∀{Q:Bool->Ab->Prop},Q true s->wpAny (model prog w) A (eqBool x2 y2) Q E s)(h3:∀{Q:Bool->Ab->Prop},Q true s->wpAny (model prog w) A (eqBool x3 y3) Q E s)(h:R (.done (.ret (.bool false))) s) :
  wpAny (model prog w) A (Builtin.«tuple.__ne__» #[[.ref l,.ref b],[]]) R E s:=by
 obtain⟨hp,g,d,tk,os⟩:=s;have f3:=AutoSeq1.sub_tuple_tuple
 wp_walk using kj gl,kj gb,h1,h2,h3
 exact h
variable{Q:Aa->Ab->Prop}
theorem oT(hl:s.heap.IsTuple l (List.toArray [x1,x2]))(hb:s.heap.IsTuple b (List.toArray [y1,y2]))(hu:A.units<cLine)(h1:∀{Q:Bool->Ab->Prop},Q true s->wpAny (model prog w) A.in1 (eqBool x1 y1) Q E s)(h2:∀{Q:Bool->Ab->Prop},Q true s->wpAny (model prog w) A.in1 (eqBool x2 y2) Q E s)(h:Q (.bool false) s):wpAny (model prog w) A (compareOp .NotEq (.ref l) (.ref b)) Q E s:=by
 obtain⟨⟨c1,d1,t1,l1⟩,o1,k1,n1,z1⟩:=id hl;obtain⟨⟨c2,d2,t2,l2⟩,o2,k2,n2,z2⟩:=id hb;simp only at k1 z1 k2 z2;subst k1 z1 k2 z2;have T1:s.TypeIs (.ref l) "tuple":=#[_,o1,Z];have T2:s.TypeIs (.ref b) "tuple":=#[_,o2,Z];have z:=YV (R:=λfin s'=>∃v,fin=Fin.done (Flow.ret v)/\v≠Value.notImplemented/\Q v s') o1 o2 h1 h2 #[.bool false,Z,(λx=>nomatch x),h];have z2:=wpAny_call_entry F.slot_tuple_ne T1 F.entry_tuple_ne z (F.args_tuple_ne_2 _ _);exact wpAny_richCompare_same_room (op:=.NotEq) T1 T2 F.slot_tuple_ne z2 hu
theorem oS(hl:s.heap.IsTuple l (List.toArray [x1,x2,x3]))(hb:s.heap.IsTuple b (List.toArray [y1,y2,y3]))(hu:A.units<cLine)(h1:∀{Q:Bool->Ab->Prop},Q true s->wpAny (model prog w) A.in1 (eqBool x1 y1) Q E s)(h2:∀{Q:Bool->Ab->Prop},Q true s->wpAny (model prog w) A.in1 (eqBool x2 y2) Q E s)(h3:∀{Q:Bool->Ab->Prop},Q true s->wpAny (model prog w) A.in1 (eqBool x3 y3) Q E s)(h:Q (.bool false) s):wpAny (model prog w) A (compareOp .NotEq (.ref l) (.ref b)) Q E s:=by
 obtain⟨⟨c1,d1,t1,l1⟩,o1,k1,n1,z1⟩:=id hl;obtain⟨⟨c2,d2,t2,l2⟩,o2,k2,n2,z2⟩:=id hb;simp only at k1 z1 k2 z2;subst k1 z1 k2 z2;have T1:s.TypeIs (.ref l) "tuple":=#[_,o1,Z];have T2:s.TypeIs (.ref b) "tuple":=#[_,o2,Z];have z:=YM (R:=λfin s'=>∃v,fin=Fin.done (Flow.ret v)/\v≠Value.notImplemented/\Q v s') o1 o2 h1 h2 h3 #[.bool false,Z,(λx=>nomatch x),h];have z2:=wpAny_call_entry F.slot_tuple_ne T1 F.entry_tuple_ne z (F.args_tuple_ne_2 _ _);exact wpAny_richCompare_same_room (op:=.NotEq) T1 T2 F.slot_tuple_ne z2 hu
end HP
namespace L2
open PySem PySem.Spec PyProof.Rows PySem.W
end L2
namespace Ev
open PySem L2
def Eo(ms ns:List Str)(f g:Str->Str):Prop:=ms.length=ns.length/\(∀m∈ms,m∈ns)/\∀m∈ms,f m=g m
theorem Eo.all{ms ns:List Str}{f g:Str->Str}(h:Eo ms ns f g):(ms.all λn=>decide (f n=g n))=true:=List.all_eq_true.mpr λm hm=>bW (h.2.2 m hm)
inductive wC (x:V) (y:V) (H:Hp) (Q:VK):Prop
 |mk:∀(a b:Addr) (ms ns:List Str) (f g:Str->Str),x=.ref a->y=.ref b->H a=some (.dK (dE ms f))->H b=some (.dK (dE ns g))->Eo ms ns f g->Q (.bl false) H->wC x y H Q
variable{X:Cx}
theorem YE(hu:X.A.units<cLine):dC X (compareOp .NotEq) wC:=by
 intro pins s σ H x y v u Q I rx ry h;obtain⟨a,b,ms,ns,f,g,rfl,rfl,ha,hb,so,q⟩:=h;cases rx;cases ry;obtain⟨za,na,va,ra,da⟩:=jQ I.aF (.inl ha);obtain⟨zb,nb,vb,rb,db⟩:=jQ I.aF (.inl hb);have la:=ra.length;have lb:=rb.length;rw[fP] at la lb;refine PySem.W.keq_ne na nb da db hu (r:=ms.all λn=>decide (f n=g n)) (λ_=>Lb rb ms va ra so.2.1) ⟨.bl false,H,I,?_,q⟩;rw[show (va.length == vb.length)=true by rw[<- la,<- lb,so.1];simp,Bool.true_and,so.all];rfl
inductive Cv (K:ag) (x:V) (y:V) (H:Hp) (Q:VK):Prop
 |mk:∀(a b:Addr),x=.ref a->y=.ref b->((∃(u:Str) (da db:Addr) (ms ns:List Str) (f g:Str->Str),fe K H a [.str u,.ref da]/\fe K H b [.str u,.ref db]/\da≠db/\H da=some (.dK (dE ms f))/\H db=some (.dK (dE ns g))/\Eo ms ns f g)∨∃(u r:Str) (k:Int),fe K H a [.str u,.int k,.str r]/\fe K H b [.str u,.int k,.str r])->Q (.bl false) H->Cv K x y H Q
variable{prog:Ad}{w:Af}{A:Ag}{s:Ab}{E:Aa->Ab->Prop}{Q:Bool->Ab->Prop}
theorem K6(u:Str)(t t':Tok)(q:Q true s):wpAny (model prog w) A (eqBool (.str u t) (.str u t')) Q E s:=
 SeqAt.EqAt.str_str u t u t' prog w _ _ (by simpa using q)
theorem Xw(u:Int)(t t':Tok)(q:Q true s):wpAny (model prog w) A (eqBool (.int u t) (.int u t')) Q E s:=
 SeqAt.EqAt.int_int u t u t' prog w _ _ (by simpa using q)
theorem Xp(hu:X.A.units+0+1<cLine):dC X (compareOp .NotEq) (Cv X.K):=by
 intro pins s σ H x y v u Q I rx ry h;obtain⟨a,b,rfl,rfl,h,q⟩:=h;cases rx;cases ry;rcases h with⟨u,da,db,ms,ns,f,g,ta,tb,Ov,ha,hb,so⟩|⟨u,r,k,ta,tb⟩
 ·obtain⟨its,r,it,_⟩:=I.tuple ta;obtain⟨its',r',Dj,_⟩:=I.tuple tb;obtain⟨u1,u2,rfl,r1,r2⟩:=vals2 r;obtain⟨w1,w2,rfl,CF,CD⟩:=vals2 r';obtain⟨t,rfl⟩:=r1;obtain⟨t',rfl⟩:=CF;cases r2;cases CD;obtain⟨za,na,va,ra,dda⟩:=jQ I.aF (.inl ha);obtain⟨zb,nb,vb,rb,ddb⟩:=jQ I.aF (.inl hb);have la:=ra.length;have lb:=rb.length;rw[fP] at la lb;refine HP.oT (Bv it) (Bv Dj) Z1 (λq=>K6 u t t' q) (λ{Q} q=>HP.sJ Ov na nb dda ddb (by show X.A.units+1<cLine;omega) (λ_=>Lb rb ms va ra so.2.1) ?_) ⟨.bl false,H,I,rfl,q⟩;rw[show (va.length == vb.length)=true by rw[<- la,<- lb,so.1];simp,Bool.true_and,so.all];exact q
 ·obtain⟨its,r,it,_⟩:=I.tuple ta;obtain⟨its',r',Dj,_⟩:=I.tuple tb;cases r with
  |cons r1 r=>cases r with
   |cons r2 r=>cases r with
    |cons r3 r=>cases r with
     |nil=>
      cases r' with
      |cons CF r'=>cases r' with
       |cons CD r'=>cases r' with
        |cons Vq r'=>cases r' with
         |nil=>
          obtain⟨t1,rfl⟩:=r1;obtain⟨t1',rfl⟩:=CF;obtain⟨t2,rfl⟩:=r2;obtain⟨t2',rfl⟩:=CD;obtain⟨t3,rfl⟩:=r3;obtain⟨t3',rfl⟩:=Vq;exact HP.oS (Bv it) (Bv Dj) Z1 (λq=>K6 _ _ _ q) (λq=>Xw _ _ _ q) (λq=>K6 _ _ _ q) #[.bl false,H,I,Z,q]
variable{k:Nat}{x:Str}{sp:Sp}
theorem XS{p pos:Pos}(c:bj X.prog X.w X.K X.mg X.base k x [] sp)(hr:aD k X.A)(hg:Gl X x:=by rfl)(me:(x == ("__debug__":Str))=false:=by decide):PE X (.Call (.Name x p) [] [] pos) (ni sp [] E0 iw):=by
 obtain⟨f,fd,F,m,kp,b⟩:=c.ex;exact Zh F hr hg m kp b .nil js me
theorem Wq{r:Int}(h0:0<=r)(h1:r<17):∃q∈rl,gG ((pF 3).map V.str) r=some (.str q.1):=by
 have len:=Yv;obtain⟨k,rfl⟩:=sZ h0;have hk:k<(pF 3).length:=by omega
 obtain⟨q,hq,e⟩:=XQ _ (ku hk);refine#[q,hq,?_];rw[e];exact L2.oC (by rw[dU,di hk];rfl)
variable{ps:List Pc}
theorem Qg{qs:List Pc}(Q:Qs ps qs)(f:Str->Str):Eo (qs.map (·.1)) (ps.map (·.1)) f f:=by
 refine#[?_,λm hm=>?_,λ_ _=>rfl]
 ·rw[Q.pG];exact (mI _).length_eq
 ·rw[Q.pG] at hm;exact (mI _).mem_iff.mp hm
structure vS (K:ag) (H:Hp) (lh lt lp d:Addr) (yh zt yp:List V) (hs:Xa) (ts:Xb) (ps:List Pc) (f:Str->Str):Prop where
 hh:H lh=some (.lst yh)
 th:aY K H yh (hs.map kH)
 ht:H lt=some (.lst zt)
 tt:aY K H zt (ts.map kT)
 hp:H lp=some (.lst yp)
 pc:jY K H yp ps
 hd:H d=some (.dK (dE (ps.map (·.1)) f))
variable{f:Str->Str}{K:ag}{G H:Hp}{d lh lp lt:Addr}{yh yp zt:List V}{hs:Xa}{ts:Xb}
theorem vS.nt(W:vS K H lh lt lp d yh zt yp hs ts ps f)(s:NT H G):vS K G lh lt lp d yh zt yp hs ts ps f:=
 #[s.lst W.hh,Qm W.th s,s.lst W.ht,Qm W.tt s,s.lst W.hp,Paired.bo W.pc λy q ⟨t,v,e,ht,wy⟩=>#[t,v,e,s.tup ht,wy.nt s],s.dK W.hd]
theorem vS.mv{l:Addr}(W:vS K H lh lt lp d yh zt yp hs ts ps f)(b:aV l H G)(st:dD H l)(n1:lh≠l)(n2:lt≠l)(n3:lp≠l)(n4:d≠l):vS K G lh lt lp d yh zt yp hs ts ps f:=by
 obtain⟨xs,hl⟩:=st.some;exact#[b _ _ W.hh n1,ub W.th b hl,b _ _ W.ht n2,ub W.tt b hl,b _ _ W.hp n3,Paired.bo W.pc λy q ⟨t,v,e,ht,wy⟩=>#[t,v,e,b _ _ ht (bZ ht hl nofun),wy.mv b st],b _ _ W.hd n4]
abbrev WX:List Str:=["_law_script","_law_k","_law_state_here","_law_hands","_law_ties","_law_pieces","_law_stand","_law_rule","_law_goods_here","_law_moves","_law_world_here","_law_due","_law_piece","_law_one","_law_other"]
theorem mD:bh WX ["_law_script"] (aU gj):=bu
def nB(K:ag)(T1 T2:Addr):Sp:=λvs H Q _=>∃(a:Addr) (ns:List Int),vs=[.ref a]/\Tb H T1 T2/\dB K H a (ns.map V.int)/\ns.length<=63/\∀H',Q (.bl true) H'
variable{P:Ad}{mg:Str->Option Aa}{base:Heap}{CG CW T1 T2:Addr}
theorem W2{f0:Addr}{fd:Ae}(F:a9 K "law" "law" gj f0 fd)(B:Bi mg)(cC:bj P w K mg base 1 "_law_cell_at" ["_law_script","_law_k"] (qx K))(MD:bj P w K mg base 1 "_law_state" ["_law_cell","_law_k"] nu)(cD:bj P w K mg base 2 "_law_digit" ["_law_state_here","_law_base"] As)(cL:bj P w K mg base 4 "_law_web" ["_law_state_here"] (qt K))(MW:bj P w K mg base 4 "_law_goods" ["_law_state_here","_law_hands","_law_ties"] (ML K))(My:bj P w K mg base 1 "_law_world" ["_law_hands","_law_ties","_law_pieces"] (Ly K))(MG:bj P w K mg base 1 "_law_rules" [] RI)
  (MZ:bj P w K mg base 2 "_law_each_right" ["_law_world_here","_law_stand","_law_moves"] (kY K)) (MP:bj P w K mg base 1 "_law_many_right" ["_law_rule","_law_moves"] (kQ K)) (cJ:bj P w K mg base 5 "judged" ["goods","stand","moves"] (Ht K CG CW)) (cV:bj P w K mg base 6 "moved" ["goods","stand","moves"] (Ms K CG CW))
  (MO:pC P w K mg base CW 5 "Web" ["self","hands","ties"] (kU K CW)) (MX:pC P w K mg base CG 7 "Goods" ["self","web","pieces"] (LK K CG CW)) (MM:bj P w K mg base 9 "moves_of" ["goods","stand","rule","moment"] (Na K CG CW T1 T2)):ai P w K mg base aR 10 f0 fd ["_law_script"] (nB K T1 T2):=by
 refine F.bt mD λaL A outer s H vs Q E hr h=>?_
 ·obtain⟨ls,ns,rfl,tb,uX,h63,k⟩:=h;have sz:=bU;have hu:=eS hr;have dS:aD 1 _:=hr.mono (by decide);have cz:aD 2 _:=hr.mono (by decide);have Gg:aD 4 _:=hr.mono (by decide);have hr5:aD 5 _:=hr.mono (by decide);have PB:aD 6 _:=hr.mono (by decide);have hr8:aD 8 _:=hr.mono (by decide);have _V:=hr.xI;refine' #[_,au ?s1 (aI (ba xf)),?kk]
  case' s1=>refine' eV eM Z ?i3 (bV 1 mD.nd) ?b0
  case i3=>exact Hm (by rfl) B.range (ae (bw i4 aE (cK (hO_ Z) (by rfl) B.min PyProof.Rows.Boot.«min» (ae (cK jU (by rfl) B.len gP (ae (pv 0) af)) (ae aE af)))) af)
  case' b0=>refine' au ?b1 ?c1
  case' c1=>refine' au ?b2 ?c2
  case' c2=>refine' au ?b3 ?c3
  case' c3=>refine' au ?b4 ?c4
  case' c4=>refine' au ?b5 ?c5
  case' c5=>refine' au ?b6 ?c6
  case' c6=>refine' au ?b7 ?c7
  case' c7=>refine' au ?b8 ?c8
  case' c8=>refine' au ?b9 ?c9
  case' c9=>refine' au ?jR (aI ?BB)
  case b1=>exact bg 2 mD.nd (aX MD dS (ae (aX cC dS (ae (pv 0) (ae (pv 1) af))) (ae (pv 1) af)))
  case b2=>exact Gy (aX cL Gg (ae (pv 2) af)) (jO Z (bY (bV 3 mD.nd) (bY (bV 4 mD.nd) gR)))
  case b3=>exact Gy (aX MW Gg (ae (pv 2) (ae (pv 3) (ae (pv 4) af)))) (jO Z (bY (bV 5 mD.nd) (bY (bV 6 mD.nd) gR)))
  case b4=>exact bg 7 mD.nd (bB gQ (XS MG dS) (aX cD cz (ae (pv 2) (ae aE af))) (λ_ _=>rfl))
  case b5=>exact bg 8 mD.nd (JH MX hr8 (ae (JH MO PB (ae (pv 3) (ae (pv 4) af))) (ae (pv 5) af)))
  case b6=>exact bg 9 mD.nd (aX MM hr (ae (pv 8) (ae (pv 6) (ae (pv 7) (ae (aX cD cz (ae (pv 2) (ae aE af))) af)))))
  case b7=>exact bg 10 mD.nd (aX My dS (ae (pv 3) (ae (pv 4) (ae (pv 5) af))))
  case b8=>exact bC (tL (eI (dZ (aX MZ cz (ae (pv 10) (ae (pv 6) (ae (pv 9) af)))))) (tW (eI (dZ (aX MP dS (ae (pv 7) (ae (pv 9) af))))))).pt cq bD
  case b9=>exact bg 11 mD.nd (i_ g6_ (by rfl) B.dict sU (ae (pv 6) af))
  case jR=>exact eV eM Z (dH (pv 9)) (jO Z (bY (bV 12 mD.nd) (bY (bV 13 mD.nd) (bY (bV 14 mD.nd) gR)))) (aI (o7 hu (pv 11) (pv 12) (pv 14) Z))
  case BB=>exact bC (tL (cU (Xp (pP hr 0)) (aX cJ hr5 (ae (pv 8) (ae (pv 6) (ae (pv 9) af)))) (fA (ae dg (ae (pv 11) af))) (ak _)) (tW (cU (YE _V) (aX cV PB (ae (pv 8) (ae (pv 6) (ae (pv 9) af)))) (pv 11) (ak _)))).pt cq bD
  case' kk=>skip
  have wY:(ns.map V.int).length<=63:=by rw[aq];exact h63
  refine dq (λσ H'=>True) (λσ H' _=>k _) (λN hN=>?_)
  obtain⟨cnt,c4,ec⟩:∃c:Nat,c<=4/\(1+(if (2:Int)<((ns.map V.int).length:Int) then (2:Int) else ((ns.map V.int).length:Int)))=(c:Int):=by
   by_cases c:(2:Int)<((ns.map V.int).length:Int)
   ·rw[aC c];exact#[3,by decide,Z]
   ·rw[ao c];exact#[1+(ns.map V.int).length,by omega,by omega]
  refine#[_,Z,ls,_,Z,.inl uX,_,_,Z,_,_,Z,Z,(cnt:Int),dF (λz=>[V.int z]) ec,by omega,by omega,?_];refine gp_ (λi σ H'=>NT H H'/\Tb H' T1 T2/\∃v1 v2 v3 v4 v5 v6 v7 v8 v9 v10 v11 iT iS hZ:Option V,σ=[some (.ref ls),v1,v2,v3,v4,v5,v6,v7,v8,v9,v10,v11,iT,iS,hZ]) #[NT.refl H,tb,none,none,none,none,none,none,none,none,none,none,none,none,none,none,Z] ?_ (λσ H' _=>hN _ _ trivial);rintro i σ H0 hi ⟨Oq,UO,v1,v2,v3,v4,v5,v6,v7,v8,v9,v10,v11,iT,iS,hZ,rfl⟩;refine setG ?_;dsimp only;rw[Int.toNat_natCast] at hi;refine dq (λσ H'=>∃l,aa H0 H'/\H0 l=none/\dD H' l/\σ=[some (.ref ls),some (.int i),some (.ref l),v3,v4,v5,v6,v7,v8,v9,v10,v11,iT,iS,hZ]) ?m2 (λN1 mi=>?m1)
  case m1=>
   refine#[_,Z,_,Z,ls,ns,_,Z,by omega,XW Oq uX,λc=>?_];refine#[_,Z,c,i,by rw[Int.zero_add];rfl,by omega,λl H1 s1 nl st=>mi _ _ #[l,s1,nl,st,?_]];show [some (V.ref ls),some (V.int (0+(i:Int))),some (V.ref l),v3,v4,v5,v6,v7,v8,v9,v10,v11,iT,iS,hZ]=_;rw[Int.zero_add]
  rintro σ H1 ⟨l,s1,nl,j4,rfl⟩;refine dq (λσ H'=>∃(lh lt:Addr) (ys zs:List V) (hs:Xa) (ts:Xb),aa H0 H'/\dD H' l/\lh≠l/\lt≠l/\H' lh=some (.lst ys)/\aY K H' ys (hs.map kH)/\H' lt=some (.lst zs)/\aY K H' zs (ts.map kT)/\Good hs ts/\σ=[some (.ref ls),some (.int i),some (.ref l),some (.ref lh),some (.ref lt),v5,v6,v7,v8,v9,v10,v11,iT,iS,hZ]) ?m4 (λN1 mi=>?m3)
  case m3=>
   refine#[_,Z,l,Z,j4,λt lh lt ys zs hs ts H2 b2 d_ ht fh ft nht AM AI h1 h2 h3 h4 G=>?_];exact#[t,_,Z,.of ht,Z,_,_,Z,_,_,Z,Z,mi _ _ #[lh,lt,ys,zs,hs,ts,b2.same nl s1,d_,AM,AI,h1,h2,h3,h4,G,Z]]
  rintro σ H2 ⟨lh,lt,yh,zt,hs,ts,s2,d_,AM,AI,h1,h2,h3,h4,G,rfl⟩;refine dq (λσ H'=>∃(lp d:Addr) (yp:List V) (ps:List Pc) (f:Str->Str),aa H0 H'/\dD H' l/\lp≠l/\d≠l/\vS K H' lh lt lp d yh zt yp hs ts ps f/\Pw hs ts ps f/\σ=[some (.ref ls),some (.int i),some (.ref l),some (.ref lh),some (.ref lt),some (.ref lp),some (.ref d),v7,v8,v9,v10,v11,iT,iS,hZ]) ?m6 (λN1 mi=>?m5)
  case m5=>
   refine#[_,Z,_,Z,_,Z,l,lh,lt,yh,zt,hs,ts,Z,d_,h1,AM,h2,h3,AI,h4,G,λt lp d yp ps f H3 b3 iU ht fp fd FZ yJ h5 h6 h7 gp nd tF at_=>?_];obtain⟨Fv,tH⟩:=d_.some;exact#[t,_,Z,.of ht,Z,_,_,Z,_,_,Z,Z,mi _ _ #[lp,d,yp,ps,f,b3.same nl s2,iU,FZ,yJ,#[b3 _ _ h1 AM,ub h2 b3 tH,b3 _ _ h3 AI,ub h4 b3 tH,h5,h6,h7],#[G,gp,nd,tF,at_],Z]]
  clear h1 h2 h3 h4 j4 d_ s1 s2;rintro σ Ha ⟨lp,d,yp,ps,f,sa,Iy,FZ,yJ,Da,Pp,rfl⟩;refine dq (λσ H'=>∃r∈rl,aa H0 H'/\dD H' l/\vS K H' lh lt lp d yh zt yp hs ts ps f/\σ=[some (.ref ls),some (.int i),some (.ref l),some (.ref lh),some (.ref lt),some (.ref lp),some (.ref d),some (.str r.1),v8,v9,v10,v11,iT,iS,hZ]) ?m8 (λN1 mi=>?m7)
  case m7=>
   refine#[Z,λlr Hb sb AK er=>?_];have N9:=Iy.same sb;obtain⟨Fv,tH⟩:=Iy.some;refine#[_,Z,l,17,Z,by decide,by decide,N9,λz Hc z0 z1 bc UV=>?_];obtain⟨r,gZ,er'⟩:=Wq z0 z1;exact#[lr,_,_,_,Z,Z,.of (bc _ _ er (bI tH AK).symm),er',mi _ _ #[r,gZ,bc.same nl (sa.trans sb),UV,(Da.nt (NT.of sb)).mv bc N9 AM AI FZ yJ,Z]]
  clear Da Iy sa;rintro σ H3 ⟨r,AU,s3,iU,D3,rfl⟩;refine dq (λσ H'=>∃(g p:Addr) (qs:List Pc) (fp:List Addr),aa H3 H'/\uf K CG CW H' g p d hs ts qs fp (ps.map (·.1)) f/\Qs ps qs/\l∉fp/\σ=[some (.ref ls),some (.int i),some (.ref l),some (.ref lh),some (.ref lt),some (.ref lp),some (.ref d),some (.str r.1),some (.ref g),v9,v10,v11,iT,iS,hZ]) ?OB (λN1 mi=>?m9)
  case m9=>
   have h7:=D3.hd;refine#[_,Z,_,Z,λp dx hp Kv ne=>?_];have s4:aa H3 (upd (upd H3 dx (.own p)) p (.ins CW dx [])):=(aa.new Kv).trans (aa.new (by rw[ax ne.symm];exact hp));refine#[p,dx,lh,lt,yh,zt,hs,ts,Z,ay,s4 _ _ D3.hh,D3.th.same s4,s4 _ _ D3.ht,D3.tt.same s4,G,λbL H5 kp W fr=>#[Z,?_]];have lR:aa H3 H5:=λb o e=>kp b o (s4 _ _ e) (bI e hp)
   have dfw:d∉bL:=λm=>by
    rcases fr d m with z|z
    ·rw[z] at h7;rw[h7] at hp;cases hp
    ·rw[s4 _ _ h7] at z;cases z
   refine#[_,Z,λg xj hg Ku ne2=>?_];have s6:aa H5 (upd (upd H5 xj (.own g)) g (.ins CG xj [])):=(aa.new Ku).trans (aa.new (by rw[ax ne2.symm];exact hg));have AF:=lR.trans s6;have e6:upd (upd H5 xj (.own g)) g (.ins CG xj []) g=some (.ins CG xj []):=ay
   have gfw:g∉bL:=λm=>by
    obtain⟨o,e,_⟩:=W.vj m;rw[e] at hg;cases hg
   generalize upd (upd H5 xj (.own g)) g (.ins CG xj [])=H6 at s6 e6 AF ⊢;refine#[g,xj,p,lp,yp,ps,hs,ts,bL,Z,e6,W.same s6,gfw,G,AF _ _ D3.hp,Paired.bo D3.pc λy q x=>x.same AF,Pp.gp,Pp.nd,by have:=Pp.tF;omega,λqs fp H7 kg GA Qq fg=>#[Z,?_]];have Oe:aa H3 H7:=λb o e=>kg b o (AF _ _ e) (λz=>by rw[z] at e;rw[lR _ _ e] at hg;cases hg)
   have oz:d∉fp:=λm=>by
    rcases fg d m with z|z|z
    ·rw[z] at h7;rw[lR _ _ h7] at hg;cases hg
    ·exact dfw z
    ·rw[AF _ _ h7] at z;cases z
   obtain⟨xs3,jE⟩:=iU.some
   have lfp:l∉fp:=λm=>by
    rcases fg l m with z|z|z
    ·rw[z] at jE;rw[lR _ _ jE] at hg;cases hg
    ·rcases fr l z with z|z
     ·rw[z] at jE;rw[jE] at hp;cases hp
     ·rw[s4 _ _ jE] at z;cases z
    ·rw[AF _ _ jE] at z;cases z
   obtain⟨Ei,GA',sub,has⟩:=GA.vj;refine mi _ _ #[g,p,qs,Ei,Oe,#[GA',λm=>oz (sub d m),Oe _ _ h7,#[?_,λn hn=>Pp.at_ n hn],has],Qq,λm=>lfp (sub l m),Z];rw[Qq.pG];exact (mI _).symm
  rintro σ H4 ⟨g,p,qs,fp,gm,S,Qq,lfp,rfl⟩
  have wd:Wd hs ts qs f:=#[G,Qq.nd Pp.nd,by rw[Qq.len];have:=Pp.tF;omega,λn hn=>Pp.at_ n (by rw[Qq.pG] at hn;exact (mI _).mem_iff.mp hn),λq hq=>by
   obtain⟨p,hp,e⟩:=Qq.mem q hq;have:=Pp.gp p hp;rw[e];exact#[by have:=this.w1;show 0<=p.2.1;omega,this.w2]]
  have hw:∀n∈qs.map (·.1),1<=fN qs n:=λn hn=>by
   obtain⟨q,hq,rfl⟩:=a_.mp hn;obtain⟨p,hp,e⟩:=Qq.mem q hq;rw[A6 wd.nd hq,e];exact (Pp.gp p hp).w1
  refine dq (λσ H'=>∃(lm:Addr) (ym:List V) (ms:List Mv),NT H0 H'/\Tb H' T1 T2/\uf K CG CW H' g p d hs ts qs fp (ps.map (·.1)) f/\vS K H' lh lt lp d yh zt yp hs ts ps f/\H' lm=some (.lst ym)/\aY K H' ym (ms.map kM)/\xk r hs ts qs f ms/\(r.2.2.1="one"->ms.length<2)/\σ=[some (.ref ls),some (.int i),some (.ref l),some (.ref lh),some (.ref lt),some (.ref lp),some (.ref d),some (.str r.1),some (.ref g),some (.ref lm),v10,v11,iT,iS,hZ]) ?uR (λN1 mi=>?Jt)
  case Jt=>
   have gH:=iU.same gm;have yx:=s3.trans gm;refine#[_,Z,_,Z,_,Z,_,Z,l,3001,Z,by decide,by decide,gH,λmo H5 Wi mo1 b5 gc=>?_];have Og:=b5.same nl yx;have S5:=S.mv b5 gH lfp yJ;have NU:=UO.same Og;refine#[g,p,d,mo,hs,ts,qs,fp,_,f,r,AU,Z,Wi,S5,wd,NU,λlm ym H6 bt6 Ia nlm xg tm=>?_];have n6:=bt6.nt NU;have mo:=WJ AU wd hw mo;exact mi _ _ #[lm,ym,_,(NT.of Og).trans n6,Ia,S5.nt n6,((D3.nt (NT.of gm)).mv b5 gH AM AI FZ yJ).nt n6,xg,tm,mo.1,mo.2,Z]
  clear S gm D3 s3 iU;rintro σ H6 ⟨lm,ym,ms,n6,Ia,S6,D6,xg,tm,mo,m1,rfl⟩;have OC:=bE tm;rw[aq] at OC
  have WM:ms.length<=30:=by
   have h1:=List.Nodup.length_le_of_subset mo.nd (l₂:=qs.map (·.1)) λn hn=>by
    obtain⟨m,hm,rfl⟩:=a_.mp hn;exact (mo.all m hm).n
   rw[aq,aq,Qq.len] at h1;have:=Pp.tF;omega
  refine#[_,Z,_,Z,_,Z,lh,lt,lp,yh,zt,yp,hs,ts,ps,Z,D6.hh,D6.th,D6.ht,D6.tt,D6.hp,D6.pc,G,Pp.nd,Pp.tF,λwa H7 s7 VU WA=>?_];refine setG ?_;dsimp only;refine dq (λσ H'=>aa H6 H'/\σ=[some (.ref ls),some (.int i),some (.ref l),some (.ref lh),some (.ref lt),some (.ref lp),some (.ref d),some (.str r.1),some (.ref g),some (.ref lm),some (.ref wa),v11,iT,iS,hZ]) ?OA (λN1 mi=>?Js)
  case Js=>
   refine#[_,Z,_,Z,_,Z,wa,d,lm,hs,ts,ps,qs,f,ym,ms,Z,WA,Pp,Qq,s7 _ _ D6.hd,s7 _ _ xg,tm.same s7,mo.all,λH8 s8=>#[_,Z,aM ?_]];have IT:=s7.trans s8;refine#[_,Z,_,Z,lm,hs,ts,qs,f,ym,ms,r,AU,Z,IT _ _ xg,tm.same IT,mo,by omega,m1,λH9 s9=>#[_,Z,aM ?_]];exact mi _ _ #[IT.trans s9,Z]
  clear s7 WA VU;rintro σ H8 ⟨s8,rfl⟩;refine#[_,Z,d,_,Z,.inl (s8 _ _ D6.hd),λdl yI=>?_];obtain⟨sd,ed⟩:=aO (o:=.dK (dE (ps.map (·.1)) f)) yI;show qc _ _ _ _ (upd H8 dl (.dK (dE (ps.map (·.1)) f)));generalize upd H8 dl (.dK (dE (ps.map (·.1)) f))=H9 at sd ed ⊢;refine setG (i:=11) (v:=.ref dl) ?_;dsimp only;have Jx:lm≠dl:=bI (s8 _ _ xg) yI;have UN:=tm.same (s8.trans sd);have tF:=Pp.tF;refine dq (λσ H'=>∃iT iS hZ:Option V,σ=[some (.ref ls),some (.int i),some (.ref l),some (.ref lh),some (.ref lt),some (.ref lp),some (.ref d),some (.str r.1),some (.ref g),some (.ref lm),some (.ref wa),some (.ref dl),iT,iS,hZ]/\aV dl H9 H'/\H' dl=some (.dK (dE (ps.map (·.1)) (gE f ms)))) ?Oz (λN1 mi=>?Jr)
  case Jr=>
   refine#[_,Z,lm,Z,#[_,.of (sd _ _ (s8 _ _ xg))],gF (K:=K) (a:=lm) (xs:=ym) (λj σ H'=>∃iT iS hZ:Option V,σ=[some (.ref ls),some (.int i),some (.ref l),some (.ref lh),some (.ref lt),some (.ref lp),some (.ref d),some (.str r.1),some (.ref g),some (.ref lm),some (.ref wa),some (.ref dl),iT,iS,hZ]/\aV dl H9 H'/\H' dl=some (.dK (dE (ps.map (·.1)) (gE f (ms.take j))))) #[iT,iS,hZ,Z,aV.refl _ _,ed] (λj σ H' _ ⟨_,_,_,_,b,_⟩=>.of (b _ _ (sd _ _ (s8 _ _ xg)) Jx)) ?_ ?_]
   ·rintro j y σ H' hy ⟨iT,iS,hZ,rfl,b',e'⟩;obtain⟨m,hm,NS,rfl,gf⟩:=ij UN hy;have gf:=DE gf;have FC:NS≠dl:=bZ gf ed nofun
    have pn:m.1∈ps.map (·.1):=by
     have:=(mo.all m (cn hm)).n;rw[Qq.pG] at this;exact (mI _).mem_iff.mp this
    refine#[NS,_,Z,.of (b' _ _ gf FC),Z,_,_,Z,_,_,Z,_,_,Z,Z,?_];dsimp only;refine#[_,Z,_,Z,_,Z,dl,_,Z,.k (k:=Sum.inr m.1) e' (by rw[fP,aq];omega),?_];refine#[_,_,_,Z,b'.trans aV.upd,?_];rw[ay,Q9 pn,Fb hm,Sw]
   ·rintro σ H' ⟨iT,iS,hZ,rfl,b',e'⟩;rw[OC,dG] at e';exact mi _ _ #[_,_,_,Z,b',e']
  rintro σ HA ⟨iT,iS,hZ,rfl,bA,eA⟩;have IS:aa H6 HA:=λb o e=>bA b o (sd _ _ (s8 _ _ e)) (bI (s8 _ _ e) yI);have row:∀H',aa H6 H'->AA K CG CW H' g p d lm hs ts qs fp (ps.map (·.1)) f ms:=λH' s=>#[S6.nt (NT.of s),G.iB,wd.nd,wd.cg,#[ym,s _ _ xg,tm.same s],mo.all,mo.nd];refine#[_,Z,_,Z,_,Z,g,p,d,lm,hs,ts,qs,fp,_,f,ms,Z,row _ IS,λt dj HB sB V6 ht hdj=>?_];refine#[_,Z,by show 2<=sizeLine;decide,λt2 Dy=>?_];obtain⟨sC,eC⟩:=aO (o:=.tup [.str "good",.ref dl]) Dy;generalize upd HB t2 (.tup [.str "good",.ref dl])=HC at sC eC ⊢;refine#[t,t2,Z,Z,.inl #["good",dj,dl,_,_,_,_,.of (sC _ _ ht),.of eC,(bI eA V6).symm,sC _ _ hdj,sC _ _ (sB _ _ eA),Qg Qq _],_,Z,aM ?_];have IQ:=sB.trans sC;refine#[_,Z,_,Z,_,Z,g,p,d,lm,hs,ts,qs,fp,_,f,ms,Z,row _ (IS.trans IQ),λdm HD sD ndm vc=>?_];refine#[_,Z,dm,dl,_,_,_,_,Z,Z,vc,sD _ _ (IQ _ _ eA),Qg Qq _,_,Z,aM ?_];have Od:=IS.trans (IQ.trans sD);exact#[Oq.trans (n6.trans (NT.of Od)),Ia.same Od,_,_,_,_,_,_,_,_,_,_,_,_,_,_,Z]
structure Fd (K:ag) (mg:Str->Option Aa) (x:Str) (st:Stmt):Prop where
 ex:∃f fd,a9 K x x st f fd/\mg x=some (.ref f)/\PySem.W.keepIn K (.ref f)=true
variable{f:Addr}{h:Heap}{st:Stmt}{aL ct doc oc pm:Aa}{an od:Option Addr}{j6:Array (Option Aa)}
theorem fd_mk(X:K.In h)(G:h.Ns mainGlobals mg){kV:Aa}(a:PySem.W.nsIn K mainGlobals x=some (some (.ref f)))(l:K.lookup f=some #[oc,od,.func (PySem.W.fnOf x x (iZ st) (gM st) (aU st) .none kV doc pm an aL ct),j6])(c:PySem.W.codeIn K aL x=true)(k:PySem.W.keepIn K (.ref f)=true):Fd K mg x st:=#[_,_,KM l c k,PySem.W.mg_of X G a,k]
structure Md (K:ag) (C:Addr) (m qual:Str) (st:Stmt):Prop where
 ex:∃f fd,a9 K m qual st f fd/\Meth K C m f
variable{C:Addr}{m qual:Str}
theorem md_mk{kV:Aa}(a:PySem.W.findIn K (.ref C) m=some (some (.ref f)))(i:PySem.W.isFn K (.ref f)=true)(l:K.lookup f=some #[oc,od,.func (PySem.W.fnOf m qual (iZ st) (gM st) (aU st) .none kV doc pm an aL ct),j6])(c:PySem.W.codeIn K aL qual=true)(k:PySem.W.keepIn K (.ref f)=true):Md K C m qual st:=#[_,_,KM l c k,a,i,k]
variable{ps:List Str}
theorem cal(d:Fd K mg x st)(ok:∀f fd,a9 K x x st f fd->ai P w K mg base aR k f fd ps sp)(h:∀(kV doc pm:Aa) (an:Option Addr) (aL ct:Aa) (us:List Aa),us.length=ps.length->bindArgs (PySem.W.fnOf x x (iZ st) (gM st) (aU st) .none kV doc pm an aL ct) #[us,[]]=pure (ps.zip us)):bj P w K mg base k x ps sp:=by
 obtain⟨f,fd,F,m,kp⟩:=d.ex;exact#[f,fd,ok f fd F,m,kp,F.binds h]
theorem Mp(d:Md K C m qual st)(ok:∀f fd,a9 K m qual st f fd->ai P w K mg base aR k f fd ps sp)(h:∀(kV doc pm:Aa) (an:Option Addr) (aL ct:Aa) (us:List Aa),us.length=ps.length->bindArgs (PySem.W.fnOf m qual (iZ st) (gM st) (aU st) .none kV doc pm an aL ct) #[us,[]]=pure (ps.zip us)):bb P w K mg base C k m ps sp:=by
 obtain⟨f,fd,F,m⟩:=d.ex;exact#[f,fd,ok f fd F,m,F.binds h]
theorem Mq(d:Md K C "__init__" qual st)(hx:mg x=some (.ref C))(mk:PySem.W.makesIn K C=true)(kc:PySem.W.keepIn K (.ref C)=true)(ok:∀f fd,a9 K "__init__" qual st f fd->ai P w K mg base aR k f fd ps sp)(h:∀(kV doc pm:Aa) (an:Option Addr) (aL ct:Aa) (us:List Aa),us.length=ps.length->bindArgs (PySem.W.fnOf "__init__" qual (iZ st) (gM st) (aU st) .none kV doc pm an aL ct) #[us,[]]=pure (ps.zip us)):pC P w K mg base C k x ps sp:=by
 obtain⟨f,fd,F,m⟩:=d.ex;exact#[f,fd,ok f fd F,#[mk,m.1,m.2,kc],hx,F.binds h]
variable{q:Str}
theorem d8{a:Addr}{p:Str}{x y:Tok}{z:Aa}{u:V}{n:Nat}{sl:Array (Option Aa)}(h:K.lookup a=some #[.type "tuple",od,.seq (List.toArray [.str p x,.str q y,z]) n,sl])(r:RelV u z):∀H,fe K H a [.str p,.str q,u]:=λH=>
 .inr #[_,_,_,h,Z,Z,(show 3<=sizeLine by decide),.cons #[x,Z] (.cons #[y,Z] (.cons r .nil))]
variable{Iu Ir t8 t9:Tok}
theorem rules_at{es:Array DictEntry}{ep:Nat}{t0 t1 t2 t3 t4 t5 t6 t7 N8 N7 N4 NZ NY:Tok}{b0 b1 b2 b3 b4 b5 b6 b7 b8 b9 jR BB HG HF ud vH HE:Addr}{VQ VP VO VN VM VL VJ VI VH VG Jf Je Jd Jc Jb Ja I_:Option Addr}{x0 y0 n0 v0 x1 y1 n1 v1 x2 y2 n2 v2 x3 y3 n3 v3 x4 y4 n4 v4 x5 y5 n5 v5 x6 y6 n6 v6 x7 y7 n7 v7 x8 y8 n8 v8 x9 y9 n9 v9 Ue T6 Wh v10 Ud T5 Wg v11 Uc T4 Jp Ub T3 Jo Ua TZ Wf hZ T_ TY We Uz T9 TX Wc Uy:Nat}{Vg Vf Ve Vd Vc Vb Va U_ U9 U8 II IH IG IF IE ID IC:Array (Option Aa)}(m:mg "RULES"=some (.ref d))(hs:(d == sysModules)=false)(hl:K.lookup d=some #[.type "dict",none,.dict es ep,#[]])(he:es.toList=GV w [("least one high",t0,.ref b0),("least one fall",t1,.ref b1),("least one calm",t2,.ref b2),("least all high",t3,.ref b3),("least all fall",t4,.ref b4),("least all calm",t5,.ref b5),("below one high",t6,.ref b6),("below one fall",t7,.ref b7),("below one calm",t8,.ref b8),("below all high",t9,.ref b9),("below all fall",Iu,.ref jR),("below all calm",Ir,.ref BB),("shares one",N8,.ref HG),("shares all",N7,.ref HF),("turns high",N4,.ref ud),("turns fall",NZ,.ref vH),("turns calm",NY,.ref HE)])(u0:K.lookup b0=some #[.type "tuple",VQ,.seq (List.toArray [.str "least" x0,.str "one" y0,.str "high" v0]) n0,Vg])(u1:K.lookup b1=some #[.type "tuple",VP,.seq (List.toArray [.str "least" x1,.str "one" y1,.str "fall" v1]) n1,Vf])(u2:K.lookup b2=some #[.type "tuple",VO,.seq (List.toArray [.str "least" x2,.str "one" y2,.str "calm" v2]) n2,Ve])(u3:K.lookup b3=some #[.type "tuple",VN,.seq (List.toArray [.str "least" x3,.str "all" y3,.str "high" v3]) n3,Vd])(u4:K.lookup b4=some #[.type "tuple",VM,.seq (List.toArray [.str "least" x4,.str "all" y4,.str "fall" v4]) n4,Vc])(u5:K.lookup b5=some #[.type "tuple",VL,.seq (List.toArray [.str "least" x5,.str "all" y5,.str "calm" v5]) n5,Vb])(u6:K.lookup b6=some #[.type "tuple",VJ,.seq (List.toArray [.str "below" x6,.str "one" y6,.str "high" v6]) n6,Va])(u7:K.lookup b7=some #[.type "tuple",VI,.seq (List.toArray [.str "below" x7,.str "one" y7,.str "fall" v7]) n7,U_])(u8:K.lookup b8=some #[.type "tuple",VH,.seq (List.toArray [.str "below" x8,.str "one" y8,.str "calm" v8]) n8,U9])(u9:K.lookup b9=some #[.type "tuple",VG,.seq (List.toArray [.str "below" x9,.str "all" y9,.str "high" v9]) n9,U8])(UH:K.lookup jR=some #[.type "tuple",Jf,.seq (List.toArray [.str "below" Ue,.str "all" T6,.str "fall" v10]) Wh,II])(UG:K.lookup BB=some #[.type "tuple",Je,.seq (List.toArray [.str "below" Ud,.str "all" T5,.str "calm" v11]) Wg,IH])(UF:K.lookup HG=some #[.type "tuple",Jd,.seq (List.toArray [.str "shares" Uc,.str "one" T4,.none]) Jp,IG])(UE:K.lookup HF=some #[.type "tuple",Jc,.seq (List.toArray [.str "shares" Ub,.str "all" T3,.none]) Jo,IF])(UD:K.lookup ud=some #[.type "tuple",Jb,.seq (List.toArray [.str "turns" Ua,.str "all" TZ,.str "high" hZ]) Wf,IE])(UC:K.lookup vH=some #[.type "tuple",Ja,.seq (List.toArray [.str "turns" T_,.str "all" TY,.str "fall" Uz]) We,ID])(UB:K.lookup HE=some #[.type "tuple",I_,.seq (List.toArray [.str "turns" T9,.str "all" TX,.str "calm" Uy]) Wc,IC]) :
  Hj K w mg d [b0,b1,b2,b3,b4,b5,b6,b7,b8,b9,jR,BB,HG,HF,ud,vH,HE]:=by
 refine#[m,Z,#[hs,?_,[("least one high",t0,.ref b0),("least one fall",t1,.ref b1),("least one calm",t2,.ref b2),("least all high",t3,.ref b3),("least all fall",t4,.ref b4),("least all calm",t5,.ref b5),("below one high",t6,.ref b6),("below one fall",t7,.ref b7),("below one calm",t8,.ref b8),("below all high",t9,.ref b9),("below all fall",Iu,.ref jR),("below all calm",Ir,.ref BB),("shares one",N8,.ref HG),("shares all",N7,.ref HF),("turns high",N4,.ref ud),("turns fall",NZ,.ref vH),("turns calm",NY,.ref HE)],_,es,ep,hl,#[Z,Z,Z],Z,he,?_],?_]
 ·rw[Su Z];exact gX_
 ·exact .cons #[Z,Z] (.cons #[Z,Z] (.cons #[Z,Z] (.cons #[Z,Z] (.cons #[Z,Z] (.cons #[Z,Z] (.cons #[Z,Z] (.cons #[Z,Z] (.cons #[Z,Z] (.cons #[Z,Z] (.cons #[Z,Z] (.cons #[Z,Z] (.cons #[Z,Z] (.cons #[Z,Z] (.cons #[Z,Z] (.cons #[Z,Z] (.cons #[Z,Z] (.nil)))))))))))))))))
 ·exact .cons (d8 u0 #[_,Z]) (.cons (d8 u1 #[_,Z]) (.cons (d8 u2 #[_,Z]) (.cons (d8 u3 #[_,Z]) (.cons (d8 u4 #[_,Z]) (.cons (d8 u5 #[_,Z]) (.cons (d8 u6 #[_,Z]) (.cons (d8 u7 #[_,Z]) (.cons (d8 u8 #[_,Z]) (.cons (d8 u9 #[_,Z]) (.cons (d8 UH #[_,Z]) (.cons (d8 UG #[_,Z]) (.cons (d8 UF Z) (.cons (d8 UE Z) (.cons (d8 UD #[_,Z]) (.cons (d8 UC #[_,Z]) (.cons (d8 UB #[_,Z]) (.nil)))))))))))))))))
structure Tg (P:Ad) (w:Af) (b:Heap):Prop where
theorem bM(q:Tg P w base)(d:Fd K mg x st)(ok:∀f fd,a9 K x x st f fd->ai P w K mg base aR k f fd ps sp)(h:∀(kV doc pm:Aa) (an:Option Addr) (aL ct:Aa) (us:List Aa),us.length=ps.length->bindArgs (PySem.W.fnOf x x (iZ st) (gM st) (aU st) .none kV doc pm an aL ct) #[us,[]]=pure (ps.zip us):=by first|(exact λ_ _ _ _ _ _ us (hl:us.length=1)=>match us,hl with | [_],_=>rfl)|(exact λ_ _ _ _ _ _ us (hl:us.length=2)=>match us,hl with | [_,_],_=>rfl)|(exact λ_ _ _ _ _ _ us (hl:us.length=3)=>match us,hl with | [_,_,_],_=>rfl)|(exact λ_ _ _ _ _ _ us (hl:us.length=4)=>match us,hl with | [_,_,_,_],_=>rfl)|(exact λ_ _ _ _ _ _ us (hl:us.length=5)=>match us,hl with | [_,_,_,_,_],_=>rfl)|(exact λ_ _ _ _ _ _ us (hl:us.length=0)=>match us,hl with | [],_=>rfl)):bj P w K mg base k x ps sp:=cal d ok h
theorem mr(q:Tg P w base)(d:Md K C m qual st)(ok:∀f fd,a9 K m qual st f fd->ai P w K mg base aR k f fd ps sp)(h:∀(kV doc pm:Aa) (an:Option Addr) (aL ct:Aa) (us:List Aa),us.length=ps.length->bindArgs (PySem.W.fnOf m qual (iZ st) (gM st) (aU st) .none kV doc pm an aL ct) #[us,[]]=pure (ps.zip us):=by first|(exact λ_ _ _ _ _ _ us (hl:us.length=1)=>match us,hl with | [_],_=>rfl)|(exact λ_ _ _ _ _ _ us (hl:us.length=2)=>match us,hl with | [_,_],_=>rfl)|(exact λ_ _ _ _ _ _ us (hl:us.length=3)=>match us,hl with | [_,_,_],_=>rfl)|(exact λ_ _ _ _ _ _ us (hl:us.length=4)=>match us,hl with | [_,_,_,_],_=>rfl)|(exact λ_ _ _ _ _ _ us (hl:us.length=5)=>match us,hl with | [_,_,_,_,_],_=>rfl)|(exact λ_ _ _ _ _ _ us (hl:us.length=0)=>match us,hl with | [],_=>rfl)):bb P w K mg base C k m ps sp:=Mp d ok h
theorem Mr(q:Tg P w base)(d:Md K C "__init__" qual st)(hx:mg x=some (.ref C))(mk:PySem.W.makesIn K C=true)(kc:PySem.W.keepIn K (.ref C)=true)(ok:∀f fd,a9 K "__init__" qual st f fd->ai P w K mg base aR k f fd ps sp)(h:∀(kV doc pm:Aa) (an:Option Addr) (aL ct:Aa) (us:List Aa),us.length=ps.length->bindArgs (PySem.W.fnOf "__init__" qual (iZ st) (gM st) (aU st) .none kV doc pm an aL ct) #[us,[]]=pure (ps.zip us):=by first|(exact λ_ _ _ _ _ _ us (hl:us.length=1)=>match us,hl with | [_],_=>rfl)|(exact λ_ _ _ _ _ _ us (hl:us.length=2)=>match us,hl with | [_,_],_=>rfl)|(exact λ_ _ _ _ _ _ us (hl:us.length=3)=>match us,hl with | [_,_,_],_=>rfl)|(exact λ_ _ _ _ _ _ us (hl:us.length=4)=>match us,hl with | [_,_,_,_],_=>rfl)|(exact λ_ _ _ _ _ _ us (hl:us.length=5)=>match us,hl with | [_,_,_,_,_],_=>rfl)|(exact λ_ _ _ _ _ _ us (hl:us.length=0)=>match us,hl with | [],_=>rfl)):pC P w K mg base C k x ps sp:=Mq d hx mk kc ok h
theorem X7(r:Rl)(hs:Xa)(ts:Xb)(qs:List Pc)(f:Str->Str)(h:Str)(W:Wd hs ts qs f):(oF r hs ts qs f h).length<=1000:=by
 unfold oF;split
 ·exact oG (hM_ r hs ts qs f h) (by decide)
 ·split
  ·exact oG (gG_ r hs ts qs f h W) (by decide)
  ·exact fX_ r hs ts qs f h W
variable{l:PySem.W.OpenLaw}{as:List Addr}
theorem all_mk{fa CS fl fh fr c1 c2:Addr}{Mo:Aa}(X:K.In h)(G:h.Ns mainGlobals mg)(hfa:mg "law"=some (.ref fa))(f0:Fd K mg "is_whole" yo)(f1:Fd K mg "is_whole_from" Lg)(f2:Fd K mg "is_whole_within" lj)(f3:Fd K mg "is_name" qT)(f4:Fd K mg "lesser_first" L6)(f5:Fd K mg "is_pair_of_names" qR)(f6:Fd K mg "sorted_ties" LN)(f7:Fd K mg "greatest_divisor" IM)(f8:Fd K mg "least_multiple" IL)(f9:Fd K mg "is_hand_with_strength" rh)(f10:Fd K mg "checked_strengths" yl)(f11:Fd K mg "checked_ties" qP)(f12:Fd K mg "neighbours_of_all" qS)(f13:Fd K mg "checked_ways" lQ)(f14:Fd K mg "checked_piece" LJ)(f15:Fd K mg "checked_pieces" Mz)(f16:Fd K mg "checked_stand" Lm)(f17:Fd K mg "loads_at" Lv)(f18:Fd K mg "multiple_of_strengths" qU)(f19:Fd K mg "levels_at" LU)(f20:Fd K mg "is_rule" LO)(f21:Fd K mg "checked_words" k_)(f22:Fd K mg "fits" rp)(f23:Fd K mg "heaviest_move" yq)(f24:Fd K mg "moves_by_least" MH)(f25:Fd K mg "moves_by_below" Ng)(f26:Fd K mg "share_moves" yn)(f27:Fd K mg "moves_by_shares" L9)(f28:Fd K mg "moves_from" EC)(f29:Fd K mg "ties_anew" rD)(f30:Fd K mg "first_row_without" L_)(f31:Fd K mg "moves_by_turns" MI)(f32:Fd K mg "moves_seen" jm)(f33:Fd K mg "checked_start" LV)(f34:Fd K mg "checked_moments" M6)(f35:Fd K mg "moves_of" Lu)(f36:Fd K mg "is_of_three_texts" lE)(f37:Fd K mg "fault_of" lO)(f38:Fd K mg "judged" L4)(f39:Fd K mg "moved" lJ)(f40:Fd K mg "_law_cell_at" rC)(f41:Fd K mg "_law_mixed" lK)(f42:Fd K mg "_law_state" lF)(f43:Fd K mg "_law_digit" lP)(f44:Fd K mg "_law_named" lI)(f45:Fd K mg "_law_web" qZ)(f46:Fd K mg "_law_weight" M8)(f47:Fd K mg "_law_ways" lA)(f48:Fd K mg "_law_goods" Li)(f49:Fd K mg "_law_world" k9)(f50:Fd K mg "_law_held" rg)(f51:Fd K mg "_law_drop" rA)(f52:Fd K mg "_law_may" qW)(f53:Fd K mg "_law_rules" Lk)(f54:Fd K mg "_law_each_right" rq)(f55:Fd K mg "_law_many_right" qX)(m0:Md K CW "__init__" "Web.__init__" q_)(m1:Md K CW "has_hand" "Web.has_hand" uI)(m2:Md K CW "hands" "Web.hands" lM)(m3:Md K CW "strength" "Web.strength" M7)(m4:Md K CW "neighbours" "Web.neighbours" lH)(m5:Md K CW "are_tied" "Web.are_tied" qQ)(m6:Md K CW "ties" "Web.ties" lC)(m7:Md K CW "most_neighbours" "Web.most_neighbours" qV)(m8:Md K CW "turns" "Web.turns" lB)(m9:Md K CG "__init__" "Goods.__init__" lN)(OB:Md K CG "has_piece" "Goods.has_piece" rn)(Jt:Md K CG "names" "Goods.names" LA)(uR:Md K CG "weight" "Goods.weight" Nb)(Js:Md K CG "may_go" "Goods.may_go" rj)(OA:Md K CS "__init__" "Sight.__init__" lG)(Jr:Md K CS "lead" "Sight.lead" qY)(Oz:Md K CS "joint_strength" "Sight.joint_strength" lL){VS OP Sj Ol SI:Aa}{VE Tu:Option Addr}{U6:Array (Option Aa)}{VT YG dch Vz cth:Aa}{VF anh:Option Addr}{U7:Array (Option Aa)}{VR YF dcr Vy ctr:Aa}{VD anr:Option Addr}{U5:Array (Option Aa)}(al:PySem.W.nsIn K mainGlobals "law"=some (some (.ref fl)))(ll:K.lookup fl=some #[VS,VE,.func (PySem.W.fnOf "law" "law" (iZ gj) (gM gj) (aU gj) .none OP Sj Ol Tu Mo SI),U6])(cl:PySem.W.codeIn K Mo "law"=true)(kl:PySem.W.keepIn K (.ref fl)=true)(ah:PySem.W.nsIn K mainGlobals "heaviest_first"=some (some (.ref fh)))(lh:K.lookup fh=some #[VT,VF,.func (PySem.W.fnOf "heaviest_first" "heaviest_first" (iZ gY) (gM gY) (aU gY) .none YG dch Vz anh (.ref c1) cth),U7])(gC:PySem.W.codeIn K (.ref c1) "heaviest_first"=true)(kh:PySem.W.keepIn K (.ref fh)=true)(h1:PySem.W.codeHdIn K c1 T1=true)(aW:PySem.W.nsIn K mainGlobals "Web"=some (some (.ref CW)))(aG:PySem.W.nsIn K mainGlobals "Goods"=some (some (.ref CG)))(aS:PySem.W.nsIn K mainGlobals "Sight"=some (some (.ref CS)))(ar:PySem.W.findIn K (.ref CS) "rising_neighbours"=some (some (.ref fr)))(ir:PySem.W.isFn K (.ref fr)=true)(lr:K.lookup fr=some #[VR,VD,.func (PySem.W.fnOf "rising_neighbours" "Sight.rising_neighbours" (iZ tS) (gM tS) (aU tS) .none YF dcr Vy anr (.ref c2) ctr),U5])(Vn:PySem.W.codeIn K (.ref c2) "Sight.rising_neighbours"=true)(kr:PySem.W.keepIn K (.ref fr)=true)(h2:PySem.W.codeHdIn K c2 T2=true)(c8_:PySem.W.nsIn K mainGlobals "MOST_LETTERS"=some (some (.int 8 t8)))(c9_:PySem.W.nsIn K mainGlobals "MOST_HANDS"=some (some (.int 8 t9)))(Nf:PySem.W.nsIn K mainGlobals "MOST_STRENGTH"=some (some (.int 1000 Iu)))(Nd:PySem.W.nsIn K mainGlobals "MOST_WEIGHT"=some (some (.int 1000000000 Ir)))(Ul:PySem.W.plainGet K CW Str.empty=true)(Ut:PySem.W.hasDictIn K CW=true)(Uk:PySem.W.plainOver K CW=true)(Uj:PySem.W.findIn K (.ref CW) "__setattr__"=some (some (.builtin "object.__setattr__")))(Ur:PySem.W.makesIn K CW=true)(Us:PySem.W.keepIn K (.ref CW)=true)(Uq:PySem.W.findIn K (.ref CW) "strength_by_hand"=some none)(Uo:PySem.W.findIn K (.ref CW) "sorted_pairs"=some none)(Um:PySem.W.findIn K (.ref CW) "neighbours_by_hand"=some none)(gpg:PySem.W.plainGet K CG Str.empty=true)(ghd:PySem.W.hasDictIn K CG=true)(gpo:PySem.W.plainOver K CG=true)(gsa:PySem.W.findIn K (.ref CG) "__setattr__"=some (some (.builtin "object.__setattr__")))(gmk:PySem.W.makesIn K CG=true)(gkc:PySem.W.keepIn K (.ref CG)=true)(gn0:PySem.W.findIn K (.ref CG) "web"=some none)(gn1:PySem.W.findIn K (.ref CG) "weight_by_name"=some none)(gn2:PySem.W.findIn K (.ref CG) "ways_by_name"=some none)(UY:PySem.W.plainGet K CS Str.empty=true)(Vj:PySem.W.hasDictIn K CS=true)(UX:PySem.W.plainOver K CS=true)(UW:PySem.W.findIn K (.ref CS) "__setattr__"=some (some (.builtin "object.__setattr__")))(U3:PySem.W.makesIn K CS=true)(Vi:PySem.W.keepIn K (.ref CS)=true)(U2:PySem.W.findIn K (.ref CS) "wares"=some none)(U1:PySem.W.findIn K (.ref CS) "load_by_hand"=some none)(U0:PySem.W.findIn K (.ref CS) "level_by_hand"=some none)(UZ:PySem.W.findIn K (.ref CS) "pieces_by_hand"=some none)(_a:PySem.W.findIn K (.ref CW) "__class__"=some (some (.builtin "object.__class__")))(Z_:PySem.W.specialIn K (.builtin "object.__class__") "__get__"=some (some (.builtin "getset_descriptor.__get__")))(ZU:PySem.W.takesIn K (.builtin "object.__class__")=some true)(Z4:PySem.W.mroIn K CW (.type "object")=some true)(jc:PySem.W.nsIn K mainGlobals "enumerate"=some none)(BO:PySem.W.nsIn K mainGlobals "set"=some none)(z0:PySem.W.nsIn K mainGlobals "isinstance"=some none)(z1:PySem.W.nsIn K mainGlobals "int"=some none)(z2:PySem.W.nsIn K mainGlobals "bool"=some none)(z3:PySem.W.nsIn K mainGlobals "str"=some none)(z4:PySem.W.nsIn K mainGlobals "tuple"=some none)(z5:PySem.W.nsIn K mainGlobals "list"=some none)(z6:PySem.W.nsIn K mainGlobals "dict"=some none)(z7:PySem.W.nsIn K mainGlobals "len"=some none)(z8:PySem.W.nsIn K mainGlobals "all"=some none)(z9:PySem.W.nsIn K mainGlobals "sorted"=some none)(TV:PySem.W.nsIn K mainGlobals "max"=some none)(TU:PySem.W.nsIn K mainGlobals "range"=some none)(TR:PySem.W.nsIn K mainGlobals "any"=some none)(TQ:PySem.W.nsIn K mainGlobals "enumerate"=some none)(TN:PySem.W.nsIn K mainGlobals "min"=some none)(TM:PySem.W.nsIn K mainGlobals "abs"=some none)(R:Hj K w mg d as) :
  ∃fd:Ae,(∀(s:Ab) (v:Aa),BindsTo s fd #[[v],[]] [("_law_script",v)])/\(∀T'∈[T2,T1],isCodeTable h T')/\∀base:Heap,K.In base->base.Ns mainGlobals mg->(∀T'∈[T2,T1],base.BuiltinsAt mg T')->ai l.prog w K mg base aR 10 fa fd ["_law_script"] (nB K T1 T2):=by
 have e:=hfa.symm.trans (PySem.W.mg_of X G al);cases e;have B:Bi mg:=#[i8 X G z0,i8 X G z1,i8 X G z2,i8 X G z3,i8 X G z4,i8 X G z5,i8 X G z6,i8 X G z7,i8 X G z8,i8 X G z9,i8 X G TV,i8 X G TU,i8 X G TR,i8 X G TQ,i8 X G TN,i8 X G TM];have TW:Txt K mg CW:=#[#[Ul,Ut,Uk,Uj],Uq,Uo,Um];have TG:dz K CG:=#[#[gpg,ghd,gpo,gsa],gn0,gn1,gn2];have TS:fM K CS:=#[#[UY,Vj,UX,UW],U2,U1,U0,UZ];have IW:Fs K CW:=#[_a,Z_,ZU,Z4];have FL:=KM (st:=gj) ll cl kl;have FH:j2 K "heaviest_first" "heaviest_first" gY fh c1 _:=#[#[_,_,_,_,_,_,_,_,Z,lh,gC],kh];have FR:j2 K "rising_neighbours" "Sight.rising_neighbours" tS fr c2 _:=#[#[_,_,_,_,_,_,_,_,Z,lr,Vn],kr];refine#[PySem.W.fnOf "law" "law" (iZ gj) (gM gj) (aU gj) .none OP Sj Ol Tu Mo SI,λs v=>.of_eq Z,λT' A4=>?_,λbase KB _ sG=>?_]
 ·have cd:∀{c T0:Addr},PySem.W.codeHdIn K c T0=true->isCodeTable h T0:=λ{c _} z=>by
   obtain⟨o,Fw,file,tf,flags,tg,inF,text,tt,q1,q2,q3,q4,_⟩:=PySem.W.codeHd_of_K X z;exact#[c,o,Fw,q1,q2,q3,q4]
  have A4:T'=T2∨T'=T1:=by simpa using A4
  rcases A4 with rfl|rfl
  ·exact cd h2
  ·exact cd h1
 have q:Tg l.prog w base:=⟨⟩;have ER:=bM q f0 λ_ _ F=>XI F B;have sQ:=bM q f2 λ_ _ F=>ZE F ER;have Mw:=bM q f1 λ_ _ F=>gn_ F ER;have sR:=bM q f3 λ_ _ F=>YX F B (PySem.W.mg_of X G c8_);have Ac:=bM q f4 λ_ _ F=>hI_ F;have EL:=bM q f5 λ_ _ F=>Yk F B sR;have xu:=bM q f6 λ_ _ F=>gP_ F B EL Ac;have ET:=bM q f9 λ_ _ F=>YJ F B sR sQ (PySem.W.mg_of X G Nf);have cStr:=bM q f10 λ_ _ F=>WZ F B ET (PySem.W.mg_of X G c9_);have EI:=bM q f11 λ_ _ F=>Yx F B xu;have EN:=bM q f12 λ_ _ F=>Xt F Ac;have Mx:=Mr q m0 (PySem.W.mg_of X G aW) Ur Us λ_ _ F=>ZC F TW B cStr EI EN;have yM:=mr q m1 λ_ _ F=>Xm F TW B;have C3:=mr q m1 λ_ _ F=>Zy F TW B;have iC:=mr q m2 λ_ _ F=>Z8 F TW B;have uQ:=mr q m3 λ_ _ F=>eE_ F TW yM;have C1:=mr q m4 λ_ _ F=>_B F TW B yM;have rQ:=mr q m5 λ_ _ F=>_E F TW C3;have M3:=bM q f13 λ_ _ F=>Zr F TW xu rQ;have cCP:=bM q f14 λ_ _ F=>gv_ F B sR sQ M3 (PySem.W.mg_of X G Nd);have M4:=bM q f15 λ_ _ F=>fP_ F B cCP;have Ai:=Mr q m9 (PySem.W.mg_of X G aG) gmk gkc λ_ _ F=>_v F TG TW IW B (PySem.W.mg_of X G aW) M4;have vh:=mr q OB λ_ _ F=>Yp (CW:=CW) F TG B;have zx:=mr q Jt λ_ _ F=>gJ_ (CW:=CW) F TG B;have gg:=mr q uR λ_ _ F=>g0_ (CP:=CW) F TG vh;have zy:=mr q Js λ_ _ F=>X9 (CP:=CW) F TG TW vh rQ Ac;have MX:=bM q f7 λ_ _ F=>Wp F;have cLM:=bM q f8 λ_ _ F=>Wt F MX;have Td:=bM q f16 λ_ _ F=>hp_ F B TG TW vh yM zx;have Hl:=bM q f17 λ_ _ F=>fO_ F B TG TW iC gg;have cMu:=bM q f18 λ_ _ F=>ZA F TW cLM iC uQ;have MR:=bM q f19 λ_ _ F=>gM_ F TG TW Hl cMu uQ;have MV:bj l.prog w K mg base 6 "heaviest_first" ["goods","placed"] (nE K CG CW T1):=#[_,_,WK FH B TG TW (PySem.W.codeHd_of_K KB h1) (sG T1 Z2) iC gg,PySem.W.mg_of X G ah,kh,FH.fn.binds (λ_ _ _ _ _ _ us (hl:us.length=2)=>match us,hl with | [_,_],_=>rfl)];have zZ:=Mr q OA (PySem.W.mg_of X G aS) U3 Vi λ_ _ F=>_g F TS Hl MR MV;have FJ:=mr q Jr λ_ _ F=>YW F TS TG TW uQ;have Oc:=mr q Oz λ_ _ F=>Zj F TS TG TW uQ;have Ob:bb l.prog w K mg base CS 4 "rising_neighbours" ["self","hand"] (Et K CS CG CW T2):=#[_,_,Ye FR B TS TG TW (PySem.W.codeHd_of_K KB h2) (sG T2 Z2) C1,#[ar,ir,kr],FR.fn.binds (λ_ _ _ _ _ _ us (hl:us.length=2)=>match us,hl with | [_,_],_=>rfl)];have cIR:=bM q f20 λ_ _ F=>gV_ F B R;have Mu:=bM q f21 λ_ _ F=>Zb F R cIR;have cFi:=bM q f22 λ_ _ F=>YD F;have MU:=bM q f23 λ_ _ F=>WV F TS TG FJ Oc cFi gg zy;have cBL:=bM q f24 λ_ _ F=>fN_ F TS Ob MU;have cBB:=bM q f25 λ_ _ F=>gg_ F TS Ob FJ MU;have WB:=mr q m7 λ_ _ F=>YL F TW B;have ME:=bM q f26 λ_ _ F=>WQ F TS TG TW FJ Oc WB gg zy;have cBS:=bM q f27 λ_ _ F=>eI_ F TS TG TW C1 FJ ME;have cMF:=bM q f28 λ_ _ F=>fM_ (fV_ F cBL) (ga_ F cBB) (gf_ F cBS);have cAn:=bM q f29 λ_ _ F=>Yr F;have Wz:=mr q m6 λ_ _ F=>_G F TW cAn;have cRo:=bM q f30 λ_ _ F=>XX F B;have Wy:=mr q m8 λ_ _ F=>ZM F B TW Wz cRo;have cBT:=bM q f31 λ_ _ F=>g2_ F B TS TG TW Wy MU;have MF:=bM q f32 λ_ _ F=>Z9 (Yh F TS TG TW (λr z=>z) X7 Mu iC cMF) (ZR F Mu cBT);have MC:=bM q f33 λ_ _ F=>h2_ F Mu Td;have MN:=bM q f34 λ_ _ F=>eQ_ F Mw;have MM:=bM q f35 λ_ _ F=>_Y F MC zZ MF MN;have c3:=bM q f36 λ_ _ F=>ZF F B;have cFa:=bM q f37 λ_ _ F=>h7_ F TG TW c3 vh rQ zy;have SZ:=bM q f38 λ_ _ F=>fJ_ F B (i8 X G jc) Td cFa;have cMd:=bM q f39 λ_ _ F=>hY_ F SZ;have EV:=bM q f40 λ_ _ F=>Yu F B;have cMx:=bM q f41 λ_ _ F=>ZP F;have MB:=bM q f42 λ_ _ F=>ZS F;have o6:=bM q f43 λ_ _ F=>Zu F cMx;have SW:=bM q f44 λ_ _ F=>_o F B o6;have cLW:=bM q f45 λ_ _ F=>YB F B o6 SW;have cWt:=bM q f46 λ_ _ F=>fW_ F o6;have cWy:=bM q f47 λ_ _ F=>Zf F B o6;have MW:=bM q f48 λ_ _ F=>hj_ F B o6 SW cWt cWy;have My:=bM q f49 λ_ _ F=>ZN F B;have cHe:=bM q f50 λ_ _ F=>Yj F B;have cDr:=bM q f51 λ_ _ F=>Y2 F;have MP:=bM q f52 λ_ _ F=>YN F;have MG:=bM q f53 λ_ _ F=>_L F;have MZ:=bM q f54 λ_ _ F=>Xz F cHe cDr MP;have cMy:=bM q f55 λ_ _ F=>Za F B (i8 X G BO);exact W2 FL B EV MB o6 cLW MW My MG MZ cMy SZ cMd Mx Ai MM
theorem Po{T:Addr}(h:H T=some (.tbl #[])):eE H T q:=#[[],h,λe he=>by cases he]
theorem walk{q:Ad}{loose:List Str}{XP:(Str->Option Aa)->Heap->Prop}{d:DefRec}{K:Params->ag}{GD:∀P:Params,as=(K P).map (·.1)}(hn:l.most=some 63)(jF:d.params.defaults=[])(JW:([T2,T1].all λT=>!as.contains T)=true)(ne:T1≠T2)(F:∀(w:Af) (mg:Str->Option Aa) (fa:Addr) (h:Heap),(K w.params).In h->h.Ns mainGlobals mg->mg d.name=some (.ref fa)->
   ∃fd:Ae,(∀(s:Ab) (u:Aa),BindsTo s fd #[[u],[]] [("_law_script",u)])/\(∀T'∈[T2,T1],isCodeTable h T')/\∀base:Heap,(K w.params).In base->base.Ns mainGlobals mg->(∀T'∈[T2,T1],base.BuiltinsAt mg T')->ai l.prog w (K w.params) mg base aR 10 fa fd ["_law_script"] (nB (K w.params) T1 T2)) :
  PySem.W.WalkO q loose XP (PySem.W.kmHook K as GD [T2,T1]).says l.row.toRowW d [] (λf vs=>PySem.call f vs):=
 L2.p7 (n:=63) (k:=10) (x:="_law_script") (CX:=λ_=>aR) (sp:=λw=>nB (K w.params) T1 T2) hn (by decide) jF #[Z,by decide,by decide] JW F (λ_ _ a ns hl hT hS=>#[a,ns,Z,#[Po (hT T1 Z2),Po (hT T2 Z2),ne],hS,hl,λ_=>rfl]) λ_ _ _ _ _ z=>z
end Ev
namespace PySem.W.Fast
def tw10068267761961000864:=()
def tw2171836640285342274:=()
def tw8259678087094464386:=()
def tw9273901793448592451:=()
def tw5960366994206045347:=()
def tw14764511930547049956:=()
def tw13397927371271314853:=()
def tw13988211311294877894:=()
def tw2893939476210005894:=()
def tw17385201184209116102:=()
def tw8354152249960076458:=()
def tw6644720898898141674:=()
def tw17204074883455654059:=()
def tw10137358526265276780:=()
def tw2898932064706713965:=()
def tw15230803261712234381:=()
def tw8098020555165737006:=()
def tw9077698684097644719:=()
def tw3325454761188960623:=()
def tw11765829349910519439:=()
def tw7958409603934242767:=()
def tw13878971627023923634:=()
def tw13783296721959493202:=()
def tw16193154810338817075:=()
def tw16021384708838750420:=()
def tw15386305786850850165:=()
def tw16261965160055763573:=()
def tw3320143632933233846:=()
def tw3553517679702144758:=()
def tw3352850888018291638:=()
def tw6705162121571759479:=()
def tw4421077627740221720:=()
def tw5964905649627899544:=()
def tw1746705986097001721:=()
def tw7210064407528824345:=()
def tw5611982363679963674:=()
def tw11519733589461041050:=()
def tw5868177652267443291:=()
def tw8259379718110677149:=()
def tw14376961438487317853:=()
def tw18346131416920924734:=()
def tw1588189922145298238:=()
def tw7821618923910342654:=()
def tw1968723851029582911:=()
def tw8373527648539504351:=()
def tw7924196994130020517:=()
def tw6966829814021327963:=()
def tw17023945665110492298:=()
def tw9804193066361213823:=()
def tw8030253053935258664:=()
def tw14386865211051880770:=()
def tw9827073861473234336:=()
def tw3244534579302272603:=()
def tw8047830382220773848:=()
def tw14447741194025866915:=()
def tw11859042992636148043:=()
def tw2189921621292398404:=()
def tw12640005364731378363:=()
def tw13292405370459145395:=()
def tw2441957169847464308:=()
def tw1568426922450819620:=()
def tw12133323147699810245:=()
def tw16098566693416696072:=()
def tw4804474435992230579:=()
def tw18340920508555859684:=()
def tw17984359214307513355:=()
def tw12931936920996689057:=()
def tw7275082890651310175:=()
def tw13664709548146294419:=()
def tw4068326068740975576:=()
def tw15143995382372110654:=()
def tw16752942032916777377:=()
def tw8210394812991387667:=()
def tw2398227380310783402:=()
def tw7247588283544677948:=()
def tw16952424988407407006:=()
def tw1331602927865672573:=()
def tw6331198079232988423:=()
def tw14924107960241747119:=()
def tw13510023500764286948:=()
def tw12034615835479575060:=()
def tw2799307208910535845:=()
def tw9047308661079184323:=()
def tw12247427152290390023:=()
def tw8208600168893844719:=()
def tw9955567809900750267:=()
def tw3089231185701800196:=()
def tw1424189327643785266:=()
def tw13165993283735553088:=()
def tw5877251261714909385:=()
def tw5783986620520349058:=()
def tw351111908820617801:=()
def tw15086871666419260609:=()
def tw12198383218949414470:=()
def tw4828964021184414685:=()
def tw1750059075394614373:=()
def tw10450672923938614265:=()
def tw13764807081430605396:=()
def tw9332159189823388256:=()
def tw4236700360137867880:=()
def tw4923566952215988221:=()
def tw14040627498357242341:=()
def tw11211277711726784422:=()
def tw4418447315791843097:=()
def tw5688078248356588170:=()
def tw12529682811567269035:=()
def tw12585911673520947229:=()
def tw6115094731332896265:=()
def tw4835871351383340901:=()
def tw10260692631325090032:=()
def tw7680449766321944666:=()
def tw18202412895449539362:=()
def tw3474967243817929238:=()
def tw2431023722115576875:=()
def tw15549545962844600491:=()
def tw9067442623802835530:=()
def tw9000353710955949702:=()
def tw7738918503906028421:=()
def tw17885417107193479965:=()
def tw13870760680505404385:=()
def tw10332358362796340612:=()
def tw13456504402142915842:=()
def tw5691683151380348314:=()
def tw996336407723626785:=()
def tw1129861236146135213:=()
def tw2270460758723958700:=()
def tw18002827549567707120:=()
def tw1033284499677522346:=()
def tw14632620070103015303:=()
def tw5581773997640049442:=()
def tw5655022543654525836:=()
def tw7908716225782610056:=()
def tw4348404094497345568:=()
def tw6126203815386868563:=()
def tw9836073932698862819:=()
def tw5723406979188323696:=()
def tw1767909702374719499:=()
def tw11772757125772772301:=()
def tw8569922150842318365:=()
def tw17079603335543733003:=()
def tw2630674370556800787:=()
def tw4261426185022090603:=()
def tw12427148600602423206:=()
def tw12548025230734890982:=()
def tw2765919613112936200:=()
def tw5779432519855587518:=()
def tw5343388703039412230:=()
def tw2152382563535589158:=()
def tw13321740606883041778:=()
def tw14067963937272886003:=()
def tw12547640888646037716:=()
def tw657503719684397500:=()
def tw10934163330741764794:=()
def tw4625183431518875646:=()
def tw2858414712282265857:=()
def tw5211285455028559118:=()
def tw2802691821391175396:=()
def tw6771452325348292325:=()
def tw11182362503843415852:=()
def tw7211866189252151619:=()
def tw2563957481726285037:=()
def tw17888815670821435470:=()
def tw741924335473324730:=()
def tw6701978337076193493:=()
def tw14915502241402380799:=()
def tw12854573365246769796:=()
def tw13577756966601353561:=()
def tw1634281723230125098:=()
def tw9916183887971025857:=()
def tw4999214345091450040:=()
def tw3735581592795458061:=()
def tw4631389535674269536:=()
def tw5505960895896026030:=()
def tw5871075037372865999:=()
def tw10917290328357835573:=()
def tw7673085209691449445:=()
def tw1611822003308013815:=()
def tw11435913352884417270:=()
def tw12169359620998351892:=()
def tw15013303163579543999:=()
def tw16418517053680498439:=()
def tw12245233736579576051:=()
def tw18188180472032764448:=()
def tw12269321376471430299:=()
def tw10908261167951170841:=()
def tw2016205580038939133:=()
def tw7121514804514134939:=()
def tw14442109740122074393:=()
def tw7456285564494020056:=()
def tw9202147595337865418:=()
def tw14034850932748479616:=()
def tw5045758886257416013:=()
def tw16848420161243960996:=()
def tw3926060322627242149:=()
def tw13258839804832284884:=()
def tw11834310510217386743:=()
def tw13422640115750779033:=()
def tw16372072853835911828:=()
def tw13422385607286221994:=()
def tw14690700071584543569:=()
def tw13777738424406633770:=()
def tw3057103992338928735:=()
def tw9929107134578512622:=()
def tw13600745276055468131:=()
def tw8751980865455767220:=()
def tw3076633928016779807:=()
def tw1971473123003330591:=()
def tw6779494650339658201:=()
def tw5443960816064909406:=()
def tw2215511661444442957:=()
def tw3255533988055250836:=()
def tw1849438187072469413:=()
def tw3969834994974224666:=()
def tw2615635470652886837:=()
def tw14477569775108704298:=()
def tw3395121668958004111:=()
def tw16545958208509482949:=()
def tw12017500002009495738:=()
end PySem.W.Fast
open PySem PySem.W PyProof.Rows
set_option maxRecDepth 100000 in
theorem PySem.Challenge.cw_evenpieces_k32_moves_can_be_made_holds : PySem.Challenge.rw_evenpieces_k32_moves_can_be_made.Holds := by
 w_on;o_law;k_head;(case hw=>w_witness2)
 k_fill
 refine Ev.walk (l:=PySem.Challenge.rw_evenpieces_k32_moves_can_be_made) rfl rfl (by rfl) (by decide) ?F
 case F=>
  intro w mg fa h KX G hmg;refine' Ev.all_mk KX G hmg (Ev.fd_mk KX G ?_ ?_ ?_ ?_) (Ev.fd_mk KX G ?_ ?_ ?_ ?_) (Ev.fd_mk KX G ?_ ?_ ?_ ?_) (Ev.fd_mk KX G ?_ ?_ ?_ ?_) (Ev.fd_mk KX G ?_ ?_ ?_ ?_) (Ev.fd_mk KX G ?_ ?_ ?_ ?_) (Ev.fd_mk KX G ?_ ?_ ?_ ?_) (Ev.fd_mk KX G ?_ ?_ ?_ ?_) (Ev.fd_mk KX G ?_ ?_ ?_ ?_) (Ev.fd_mk KX G ?_ ?_ ?_ ?_) (Ev.fd_mk KX G ?_ ?_ ?_ ?_) (Ev.fd_mk KX G ?_ ?_ ?_ ?_) (Ev.fd_mk KX G ?_ ?_ ?_ ?_) (Ev.fd_mk KX G ?_ ?_ ?_ ?_) (Ev.fd_mk KX G ?_ ?_ ?_ ?_) (Ev.fd_mk KX G ?_ ?_ ?_ ?_) (Ev.fd_mk KX G ?_ ?_ ?_ ?_) (Ev.fd_mk KX G ?_ ?_ ?_ ?_) (Ev.fd_mk KX G ?_ ?_ ?_ ?_) (Ev.fd_mk KX G ?_ ?_ ?_ ?_) (Ev.fd_mk KX G ?_ ?_ ?_ ?_) (Ev.fd_mk KX G ?_ ?_ ?_ ?_) (Ev.fd_mk KX G ?_ ?_ ?_ ?_) (Ev.fd_mk KX G ?_ ?_ ?_ ?_) (Ev.fd_mk KX G ?_ ?_ ?_ ?_) (Ev.fd_mk KX G ?_ ?_ ?_ ?_) (Ev.fd_mk KX G ?_ ?_ ?_ ?_) (Ev.fd_mk KX G ?_ ?_ ?_ ?_) (Ev.fd_mk KX G ?_ ?_ ?_ ?_) (Ev.fd_mk KX G ?_ ?_ ?_ ?_) (Ev.fd_mk KX G ?_ ?_ ?_ ?_) (Ev.fd_mk KX G ?_ ?_ ?_ ?_) (Ev.fd_mk KX G ?_ ?_ ?_ ?_) (Ev.fd_mk KX G ?_ ?_ ?_ ?_) (Ev.fd_mk KX G ?_ ?_ ?_ ?_) (Ev.fd_mk KX G ?_ ?_ ?_ ?_) (Ev.fd_mk KX G ?_ ?_ ?_ ?_) (Ev.fd_mk KX G ?_ ?_ ?_ ?_) (Ev.fd_mk KX G ?_ ?_ ?_ ?_) (Ev.fd_mk KX G ?_ ?_ ?_ ?_) (Ev.fd_mk KX G ?_ ?_ ?_ ?_) (Ev.fd_mk KX G ?_ ?_ ?_ ?_) (Ev.fd_mk KX G ?_ ?_ ?_ ?_) (Ev.fd_mk KX G ?_ ?_ ?_ ?_) (Ev.fd_mk KX G ?_ ?_ ?_ ?_) (Ev.fd_mk KX G ?_ ?_ ?_ ?_) (Ev.fd_mk KX G ?_ ?_ ?_ ?_) (Ev.fd_mk KX G ?_ ?_ ?_ ?_) (Ev.fd_mk KX G ?_ ?_ ?_ ?_) (Ev.fd_mk KX G ?_ ?_ ?_ ?_) (Ev.fd_mk KX G ?_ ?_ ?_ ?_) (Ev.fd_mk KX G ?_ ?_ ?_ ?_) (Ev.fd_mk KX G ?_ ?_ ?_ ?_) (Ev.fd_mk KX G ?_ ?_ ?_ ?_) (Ev.fd_mk KX G ?_ ?_ ?_ ?_) (Ev.fd_mk KX G ?_ ?_ ?_ ?_) (Ev.md_mk ?_ ?_ ?_ ?_ ?_) (Ev.md_mk ?_ ?_ ?_ ?_ ?_) (Ev.md_mk ?_ ?_ ?_ ?_ ?_) (Ev.md_mk ?_ ?_ ?_ ?_ ?_) (Ev.md_mk ?_ ?_ ?_ ?_ ?_) (Ev.md_mk ?_ ?_ ?_ ?_ ?_) (Ev.md_mk ?_ ?_ ?_ ?_ ?_) (Ev.md_mk ?_ ?_ ?_ ?_ ?_) (Ev.md_mk ?_ ?_ ?_ ?_ ?_) (Ev.md_mk ?_ ?_ ?_ ?_ ?_) (Ev.md_mk ?_ ?_ ?_ ?_ ?_) (Ev.md_mk ?_ ?_ ?_ ?_ ?_) (Ev.md_mk ?_ ?_ ?_ ?_ ?_) (Ev.md_mk ?_ ?_ ?_ ?_ ?_) (Ev.md_mk ?_ ?_ ?_ ?_ ?_) (Ev.md_mk ?_ ?_ ?_ ?_ ?_) (Ev.md_mk ?_ ?_ ?_ ?_ ?_) ?_ ?_ ?_ ?_ ?_ ?_ ?_ ?_ ?h1 ?aW ?aG ?aS ?_ ?_ ?_ ?_ ?_ ?h2 ?_ ?_ ?_ ?_ ?_ ?_ ?_ ?_ ?_ ?_ ?_ ?_ ?_ ?_ ?_ ?_ ?_ ?_ ?_ ?_ ?_ ?_ ?_ ?_ ?_ ?_ ?_ ?_ ?_ ?_ ?_ ?_ ?_ ?_ ?_ ?_ ?_ ?_ ?_ ?_ ?_ ?_ ?_ ?_ ?_ ?_ ?_ ?_ ?_ ?_ ?_ ?_ ?_ ?_ (Ev.rules_at ?rm ?rs ?rl ?re ?_ ?_ ?_ ?_ ?_ ?_ ?_ ?_ ?_ ?_ ?_ ?_ ?_ ?_ ?_ ?_ ?_)
  (case aW=>k_is);(case aG=>k_is);(case aS=>k_is)
  any_goals k_is
  (case h1=>kernel_rfl);(case h2=>kernel_rfl)
  case' rm=>refine' PySem.W.mg_of KX G ?rmn
  (first|(case rmn=>k_is)|(case rm=>k_is))
  (try (case rl=>k_is))
  (case rs=>rfl)
  (case re=>rfl)
  any_goals k_is

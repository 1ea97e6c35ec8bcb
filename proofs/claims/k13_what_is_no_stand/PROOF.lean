import PyProof.Rows.All
import Wide.All
import OpenK.AllK
import Wide.FinOn
import Lean
import PyProof.EqAt
import PyProof.EqKinds
import PyProof.TupleCall
import KE.KLam
import PyProof.TupleOfSeq
import PySem.Challenge.RW_evenpieces_k13_what_is_no_stand
set_option maxHeartbeats 0
set_option Elab.async false
set_option linter.all false
abbrev Xa:=List (PySem.Str × Int)
abbrev Xb:=List (PySem.Str × PySem.Str)
set_option maxRecDepth 100000
theorem a__:type_of% @PySem.wpAny_bind:=@PySem.wpAny_bind
abbrev Aa:=PySem.Value
theorem a_0:type_of% @PySem.Heap.get?_push_of_some:=@PySem.Heap.get?_push_of_some
abbrev Ab:=PySem.Shared
theorem a_1:type_of% @PySem.wpAny_pure:=@PySem.wpAny_pure
theorem a_2:type_of% @PySem.Heap.lt_size:=@PySem.Heap.lt_size
theorem a_3:type_of% @PySem.Heap.get?_push_size:=@PySem.Heap.get?_push_size
abbrev Ad:=PySem.Program
theorem a_4:type_of% @PySem.Paired.length:=@PySem.Paired.length
theorem a_5:type_of% @decide_eq_true:=@decide_eq_true
theorem a_6:type_of% @if_neg:=@if_neg
abbrev Ae:=PySem.FuncData
theorem a_7:type_of% @decide_eq_false:=@decide_eq_false
theorem a_8:type_of% @if_pos:=@if_pos
theorem a_9:type_of% @Option.some.inj:=@Option.some.inj
theorem b__:type_of% @PySem.Heap.get?_update_other:=@PySem.Heap.get?_update_other
theorem b_0:type_of% @PySem.W.mg_none_of:=@PySem.W.mg_none_of
theorem b_1:type_of% @PySem.sizeLine_eq:=@PySem.sizeLine_eq
abbrev Af:=PySem.World
theorem b_2:type_of% @PySem.PassesOwn.never:=@PySem.PassesOwn.never
abbrev Ag:=PySem.DictEntry
abbrev Ah:=PySem.Around
theorem b_3:type_of% @PySem.wpAny_holding:=@PySem.wpAny_holding
theorem b_4:type_of% @PySem.wpAny_loadPart':=@PySem.wpAny_loadPart'
theorem b_5:type_of% @congrArg:=@congrArg
theorem b_6:type_of% @PySem.wpAny_newObj_type:=@PySem.wpAny_newObj_type
theorem b_7:type_of% @PySem.boot_len:=@PySem.boot_len
theorem b_8:type_of% @PySem.F.excBase_ValueError:=@PySem.F.excBase_ValueError
theorem b_9:type_of% @PySem.W.mg_of:=@PySem.W.mg_of
theorem c__:type_of% @PySem.W.kia_one:=@PySem.W.kia_one
theorem c_0:type_of% @PySem.wpAny_truthy_bool:=@PySem.wpAny_truthy_bool
theorem c_1:type_of% @Sum.inr.inj:=@Sum.inr.inj
theorem c_2:type_of% @PySem.mem_of_lookup:=@PySem.mem_of_lookup
theorem c_3:type_of% @List.cons.inj:=@List.cons.inj
theorem c_4:type_of% @PySem.Heap.get?_update_self:=@PySem.Heap.get?_update_self
theorem Z0{p:Prop}[Decidable p](h:decide p=true:=by decide +kernel):p:=of_decide_eq_true h
theorem Z1{p:Prop}(h:p:=by omega):p:=h
theorem Z2{p:Prop}(h:p:=by simp):p:=h
abbrev F__:=PySem.W.Frag
theorem aa':type_of% @List.length_map:=@List.length_map
theorem ab':type_of% @List.getElem?_eq_getElem:=@List.getElem?_eq_getElem
theorem ac':type_of% @List.getElem?_eq_some_iff:=@List.getElem?_eq_some_iff
theorem ad':type_of% @List.mem_of_getElem?:=@List.mem_of_getElem?
theorem ae':type_of% @Nat.le_refl:=@Nat.le_refl
theorem af':type_of% @List.mem_cons_of_mem:=@List.mem_cons_of_mem
theorem ag':type_of% @List.size_toArray:=@List.size_toArray
theorem ah':type_of% @List.mem_map:=@List.mem_map
theorem ai':type_of% @List.length_take:=@List.length_take
theorem aj':type_of% @Nat.ne_of_lt:=@Nat.ne_of_lt
theorem ak':type_of% @List.mem_cons_self:=@List.mem_cons_self
theorem al':type_of% @List.map_map:=@List.map_map
theorem am':type_of% @Bool.false_ne_true:=@Bool.false_ne_true
theorem an':type_of% @List.mem_cons:=@List.mem_cons
theorem ao':type_of% @List.getElem?_map:=@List.getElem?_map
theorem ap':type_of% @List.map_append:=@List.map_append
theorem aq':type_of% @Nat.lt_of_lt_of_le:=@Nat.lt_of_lt_of_le
theorem ar':type_of% @List.take_length:=@List.take_length
theorem au':type_of% @List.take_add_one:=@List.take_add_one
theorem av':type_of% @List.length_append:=@List.length_append
theorem aw':type_of% @Int.eq_ofNat_of_zero_le:=@Int.eq_ofNat_of_zero_le
theorem ax':type_of% @List.map_cons:=@List.map_cons
theorem ay':type_of% @List.mem_filterMap:=@List.mem_filterMap
theorem az':type_of% @List.getElem_of_mem:=@List.getElem_of_mem
theorem aA':type_of% @List.mem_append:=@List.mem_append
theorem aB':type_of% @List.mem_append_right:=@List.mem_append_right
theorem aC':type_of% @Nat.zero_le:=@Nat.zero_le
theorem aD':type_of% @List.length_cons:=@List.length_cons
theorem aE':type_of% @Nat.ne_of_gt:=@Nat.ne_of_gt
theorem aF':type_of% @List.take_of_length_le:=@List.take_of_length_le
theorem aG':type_of% @Option.isSome_iff_exists:=@Option.isSome_iff_exists
theorem aH':type_of% @Array.length_toList:=@Array.length_toList
theorem aI':type_of% @List.nodup_iff_pairwise_ne:=@List.nodup_iff_pairwise_ne
theorem aJ':type_of% @Array.getElem?_eq_some_iff:=@Array.getElem?_eq_some_iff
theorem aK':type_of% @List.lookup_cons:=@List.lookup_cons
theorem aL':type_of% @List.map_congr_left:=@List.map_congr_left
theorem aM':type_of% @Bool.false_eq_true:=@Bool.false_eq_true
theorem aN':type_of% @List.nodup_cons:=@List.nodup_cons
theorem aO':type_of% @List.length_replicate:=@List.length_replicate
theorem aP':type_of% @Int.le_of_lt:=@Int.le_of_lt
theorem aQ':type_of% @List.length_drop:=@List.length_drop
theorem aR':type_of% @Bool.and_eq_true:=@Bool.and_eq_true
theorem aS':type_of% @List.getElem_mem:=@List.getElem_mem
theorem aT':type_of% @Int.toNat_natCast:=@Int.toNat_natCast
theorem aU':type_of% @Nat.lt_irrefl:=@Nat.lt_irrefl
theorem aV':type_of% @Nat.le_trans:=@Nat.le_trans
namespace L2
open PySem PySem.Spec PyProof.Rows
abbrev Key:=Sum Int Str
def cL':Key->Aa->Bool
 |.inl k,v=>Value.isInt k v
 |.inr x,v=>Value.isStrOf x v
def keyH(w:Af):Key->Int
 |.inl k=>hashInt k
 |.inr x=>hashStr w x
theorem ap_:∀{k:Key} {v:Aa},cL' k v=true->(∃i t,k=Sum.inl i/\v=Value.int i t)∨(∃x t,k=Sum.inr x/\v=Value.str x t)
 |.inl i,v,h=>by
  obtain⟨t,e⟩:=Value.isInt_shape (k:=i) (v:=v) h;exact .inl ⟨i,t,rfl,e⟩
 |.inr x,v,h=>by
  obtain⟨t,e⟩:=Value.isStrOf_shape (x:=x) (v:=v) h;exact .inr ⟨x,t,rfl,e⟩
theorem g3_(i:Int)(t:Tok):cL' (.inl i) (.int i t)=true:=by simp[cL',Value.isInt]
theorem fI_(x:Str)(t:Tok):cL' (.inr x) (.str x t)=true:=by simp[cL',Value.isStrOf]
theorem j4_(a b:Int):decide ((Sum.inl a:Key)=Sum.inl b)=(a == b):=by
 by_cases e:a=b
 ·subst e;simp
 ·have h:¬(Sum.inl a:Key)=Sum.inl b:=λq=>e (Sum.inl.inj q);rw[a_7 h];exact (beq_eq_false_iff_ne.mpr e).symm
theorem jC_(a b:Str):decide ((Sum.inr a:Key)=Sum.inr b)=decide (a=b):=by
 by_cases e:a=b
 ·subst e;simp
 ·have h:¬(Sum.inr a:Key)=Sum.inr b:=λq=>e (c_1 q);rw[a_7 h,a_7 e]
theorem j2_(a:Int)(b:Str):decide ((Sum.inl a:Key)=Sum.inr b)=false:=a_7 (λq=>nomatch q)
theorem jp_(a:Str)(b:Int):decide ((Sum.inr a:Key)=Sum.inl b)=false:=a_7 (λq=>nomatch q)
def a0'(prog:Ad)(w:Af):PySem.KeyKind prog w Key where
 is:=cL'
 hash:=keyH w
 inj:=λv a b ha hb=>by
  rcases ap_ ha with⟨i,t,rfl,rfl⟩|⟨x,t,rfl,rfl⟩
  ·rcases ap_ hb with⟨j,u,rfl,e⟩|⟨y,u,rfl,e⟩
   ·injection e with e1 _;rw[e1]
   ·exact nomatch e
  ·rcases ap_ hb with⟨j,u,rfl,e⟩|⟨y,u,rfl,e⟩
   ·exact nomatch e
   ·injection e with e1 _;rw[e1]
 byValue:=λk v h=>by
  rcases ap_ h with⟨i,t,rfl,rfl⟩|⟨x,t,rfl,rfl⟩<;>rfl
 pyHash:=λhv h=>by
  rcases ap_ hv with⟨i,t,rfl,rfl⟩|⟨x,t,rfl,rfl⟩
  ·exact wpAny_pyHash_int h
  ·exact wpAny_pyHash_str h
 eqBool:=λhu hv h=>by
  rcases ap_ hu with⟨i,t,rfl,rfl⟩|⟨x,t,rfl,rfl⟩
  ·rcases ap_ hv with⟨j,u,rfl,rfl⟩|⟨y,u,rfl,rfl⟩
   ·rw[j4_] at h;exact wpAny_eqBool_int h
   ·rw[j2_] at h;exact SeqAt.EqAt.int_str i t y u _ _ _ _ h
  ·rcases ap_ hv with⟨j,u,rfl,rfl⟩|⟨y,u,rfl,rfl⟩
   ·rw[jp_] at h;exact SeqAt.EqAt.str_int x t j u _ _ _ _ h
   ·rw[jC_] at h;exact wpAny_eqBool_str h
 «strs»:=λk x t v h=>by
  rcases ap_ h with⟨i,u,rfl,e⟩|⟨y,u,rfl,e⟩
  ·exact nomatch e
  ·injection e with e1 _
   subst e1;cases v<;>rfl
theorem e9_(prog:Ad)(w:Af)(i:Int)(t:Tok):(a0' prog w).is (.inl i) (.int i t)=true:=g3_ i t
theorem el_(prog:Ad)(w:Af)(x:Str)(t:Tok):(a0' prog w).is (.inr x) (.str x t)=true:=fI_ x t
inductive V where
 |non|bl (b:Bool)|int (i:Int)|str (x:Str)|byt (b:Array UInt8)|flt (b:UInt64)|ref (a:Addr)|ty (n:String)
 deriving DecidableEq
def RelV:V->Aa->Prop
 |.non,u=>u=Value.none
 |.bl b,u=>u=Value.bool b
 |.int i,u=>∃t,u=Value.int i t
 |.str x,u=>∃t,u=Value.str x t
 |.byt b,u=>∃t,u=Value.bytes b t
 |.flt b,u=>∃t,u=Value.float b t
 |.ref a,u=>u=Value.ref a
 |.ty n,u=>u=Value.type n
abbrev Vals:List V->List Aa->Prop:=Paired RelV
theorem Vals.length{xs:List V}{us:List Aa}(r:Vals xs us):xs.length=us.length:=a_4 r
theorem Vals.get:∀{xs:List V} {us:List Aa} {i:Nat} {x:V},Vals xs us->xs[i]? = some x->∃u,us[i]? = some u/\RelV x u
 |_,_,_,_,.nil,e=>by simp at e
 |_,_,0,_,.cons r _,e=>by simp at e;subst e;exact⟨_,rfl,r⟩
 |_,_,i+1,x,.cons _ t,e=>by
  obtain⟨u,h1,h2⟩:=Vals.get (i:=i) (x:=x) t (by simpa using e);exact⟨u,by simpa using h1,h2⟩
theorem Vals.set{x:V}{u:Aa}(r:RelV x u):∀{xs:List V} {us:List Aa} (i:Nat),Vals xs us->Vals (xs.set i x) (us.set i u)
 |_,_,_,.nil=>.nil
 |_,_,0,.cons _ t=>.cons r t
 |_,_,i+1,.cons q t=>.cons q (Vals.set r i t)
theorem Vals.append:∀{xs ys:List V} {us ws:List Aa},Vals xs us->Vals ys ws->Vals (xs++ys) (us++ws)
 |_,_,_,_,.nil,s=>s
 |_,_,_,_,.cons r t,s=>.cons r (Vals.append t s)
theorem Vals.take:∀{xs:List V} {us:List Aa} (n:Nat),Vals xs us->Vals (xs.take n) (us.take n)
 |_,_,0,_=>.nil
 |_,_,_+1,.nil=>.nil
 |_,_,n+1,.cons r t=>.cons r (Vals.take n t)
theorem Vals.drop:∀{xs:List V} {us:List Aa} (n:Nat),Vals xs us->Vals (xs.drop n) (us.drop n)
 |_,_,0,r=>r
 |_,_,_+1,.nil=>.nil
 |_,_,n+1,.cons _ t=>Vals.drop n t
def RelO:Option V->Option Aa->Prop
 |some v,some u=>RelV v u
 |none,none=>True
 |_,_=>False
def KV{κ:Type}:List (κ × V)->List (κ × Aa)->Prop:=Paired λ(p:κ × V) (q:κ × Aa)=>p.1=q.1/\RelV p.2 q.2
def kV:Key->V
 |.inl i=>.int i
 |.inr x=>.str x
inductive HO where
  |lst (xs:List V)
  |tup (xs:List V)
  |dK (kvs:List (Key × V))|dT (kvs:List (List Key × V))
  |set (S:Int->Bool) (n:Nat)
  |ins (C dx:Addr) (fs:List (Str × V))
  |own (x:Addr)
  |xd (fs:List (Str × V))
  |met (f x:Addr)
  |rng (lo hi:Int)
  |frz (o:Obj) (u:HO)
  |tbl (ps:Array Aa)
  |ext (φ:Heap->Prop)
abbrev Hp:=Addr->Option HO
def upd(H:Hp)(a:Addr)(o:HO):Hp:=λb=>if b=a then some o else H b
variable{a:Addr}
theorem a1_{H:Hp}{o:HO}:upd H a o a=some o:=by unfold upd;rw[a_8 rfl]
variable{b:Addr}
theorem a7_{H:Hp}{o:HO}(h:b≠a):upd H a o b=H b:=by unfold upd;rw[a_6 h]
theorem ic_{H:Hp}{o u:HO}:upd (upd H a o) a u=upd H a u:=by
 funext b;unfold upd;split<;>rfl
theorem aD_{H:Hp}{o u:HO}(h:H a=some o)(h':H b=some u)(d:o≠u):a≠b:=by
 intro e;subst e;rw[h] at h';exact d (a_9 h')
theorem a5_{H:Hp}{o:HO}(h:H a=some o)(h':H b=none):a≠b:=by
 intro e;subst e;rw[h] at h';cases h'
section
variable(P:Ad)(w:Af)
def a4'(H:Hp)(h:Heap)(a:Addr):HO->Prop
 |.lst xs=>xs.length<=sizeLine/\∃(its:List Aa) (n:Nat),Vals xs its/\h.get? a=some { cls:=.type "list",data:=.seq its.toArray n }
 |.tup xs=>xs.length<=sizeLine/\∃its:List Aa,Vals xs its/\IsTup h a its.toArray/\∃o,h.get? a=some o/\o.dict=none
 |.dK kvs=>kvs.length<=sizeLine/\(a == sysModules)=false/\∃vs,KV kvs vs/\h.DictOf (a0' P w) a vs
 |.dT kvs=>kvs.length<=sizeLine/\(a == sysModules)=false/\∃xs:List (List Key × Addr × Aa),
   Paired (λ(p:List Key × V) (q:List Key × Addr × Aa)=>p.1=q.1/\H q.2.1=some (.tup (p.1.map kV))/\RelV p.2 q.2.2) kvs xs /\
   ∃o es ep,h.get? a=some o/\o.ExactDict/\o.data=.dict es ep/\es.toList=xs.map (entryOfKey (tupleKind (a0' P w)))/\(xs.map (·.1)).Nodup
 |.set S n=>h.SetOf (intKind P w) a S n
 |.ins C dx fs=>H dx=some (.own a)/\fs.length<=1000/\dx≠a/\h.get? a=some (PySem.W.instObj C dx) /\
   ∃mA,h.Ns1 dx mA/\(∀f,RelO (fs.lookup f) (mA f))/\PySem.Within mA (fs.map (·.1))
 |.own _=>∃o,h.get? a=some o
 |.xd fs=>∃mA,h.Ns1 a mA/\∀f,RelO (fs.lookup f) (mA f)
 |.rng lo hi=>∃t u v,h.get? a=some { cls:=.type "range",data:=.fields #[.int lo t,.int hi u,.int 1 v] }
 |.frz o u=>h.get? a=some o/\a4' H h a u
 |.tbl ps=>h.get? a=some { cls:=.none,data:=.fields ps }
 |.met f x=>h.get? a=some (PySem.W.methodObj (.ref f) (.ref x))
 |.ext φ=>φ h/\(∃o,h.get? a=some o)/\∀h1 h2:Heap,φ h1->(∀o,h1.get? a=some o->h2.get? a=some o)->φ h2
def HOk(H:Hp)(h:Heap):Prop:=∀a o,H a=some o->a4' P w H h a o
end
section
variable{P:Ad}{w:Af}{H H':Hp}{h h':Heap}{a:Addr}{o:HO}
theorem a4'.lt(x:a4' P w H h a o):a<h.objs.size:=by
 cases o with
 |lst xs=>obtain⟨_,_,_,_,e⟩:=x;exact a_2 e
 |tup xs=>obtain⟨_,_,_,p,_⟩:=x;exact p.lt
 |dK kvs=>obtain⟨_,_,_,_,o,_,_,e,_⟩:=x;exact a_2 e
 |dT kvs=>obtain⟨_,_,_,_,o,_,_,e,_⟩:=x;exact a_2 e
 |set S n=>obtain⟨o,_,_,_,e,_⟩:=x;exact a_2 e
 |ins C dx fs=>obtain⟨_,_,_,e,_⟩:=x;exact a_2 e
 |own y=>obtain⟨_,e⟩:=x;exact a_2 e
 |xd fs=>obtain⟨_,⟨_,_,_,e,_⟩,_⟩:=x;exact a_2 e
 |rng lo hi=>obtain⟨_,_,_,e⟩:=x;exact a_2 e
 |frz ob u=>obtain⟨e,_⟩:=x;exact a_2 e
 |tbl ps=>exact a_2 (show h.get? a=some _ from x)
 |met f y=>exact a_2 (show h.get? a=some _ from x)
 |ext φ=>obtain⟨_,⟨_,e⟩,_⟩:=x;exact a_2 e
theorem Paired.mapP{α β:Type}{F G:α->β->Prop}:∀{l₁:List α} {l₂:List β},Paired F l₁ l₂->(∀a b,F a b->G a b)->Paired G l₁ l₂
 |_,_,.nil,_=>.nil
 |_,_,.cons r t,f=>.cons (f _ _ r) (Paired.mapP t f)
theorem a4'.stay(x:a4' P w H h a o)(k:∀b u,(b=a∨H b=some (.own a))->h.get? b=some u->h'.get? b=some u)
  (ho:∀b,H b=some (.own a)->H' b=some (.own a)) (ht:∀b xs,H b=some (.tup xs)->H' b=some (.tup xs)):a4' P w H' h' a o:=by
 induction o with
 |lst xs=>obtain⟨z,its,n,r,e⟩:=x;exact⟨z,its,n,r,k _ _ (.inl rfl) e⟩
 |tup xs=>obtain⟨z,its,r,⟨ob,e,c⟩,o2,e2,c2⟩:=x;exact⟨z,its,r,⟨ob,k _ _ (.inl rfl) e,c⟩,o2,k _ _ (.inl rfl) e2,c2⟩
 |dK kvs=>obtain⟨z,y,vs,r,ob,es,ep,e,c⟩:=x;exact⟨z,y,vs,r,ob,es,ep,k _ _ (.inl rfl) e,c⟩
 |dT kvs=>
  obtain⟨z,y,xs,r,ob,es,ep,e,c⟩:=x;exact⟨z,y,xs,Paired.mapP r λp q z=>⟨z.1,ht _ _ z.2.1,z.2.2⟩,ob,es,ep,k _ _ (.inl rfl) e,c⟩
 |set S n=>obtain⟨ob,es,ep,t,e,c⟩:=x;exact⟨ob,es,ep,t,k _ _ (.inl rfl) e,c⟩
 |ins C dx fs=>
  obtain⟨d,z,ne,e,mA,⟨od,es,ep,e2,c⟩,r⟩:=x;exact⟨ho _ d,z,ne,k _ _ (.inl rfl) e,mA,⟨od,es,ep,k _ _ (.inr d) e2,c⟩,r⟩
 |own y=>obtain⟨ob,e⟩:=x;exact⟨ob,k _ _ (.inl rfl) e⟩
 |xd fs=>obtain⟨mA,⟨od,es,ep,e,c⟩,r⟩:=x;exact⟨mA,⟨od,es,ep,k _ _ (.inl rfl) e,c⟩,r⟩
 |rng lo hi=>obtain⟨t,u,v,e⟩:=x;exact⟨t,u,v,k _ _ (.inl rfl) e⟩
 |frz ob u ih=>obtain⟨e,q⟩:=x;exact⟨k _ _ (.inl rfl) e,ih q⟩
 |tbl ps=>
  have e:h.get? a=some { cls:=.none,data:=.fields ps }:=x;show h'.get? a=some { cls:=.none,data:=.fields ps };exact k a _ (.inl rfl) e
 |met f y=>
  have e:h.get? a=some (PySem.W.methodObj (.ref f) (.ref y)):=x;show h'.get? a=some (PySem.W.methodObj (.ref f) (.ref y));exact k a _ (.inl rfl) e
 |ext φ=>obtain⟨p,⟨o,e⟩,st⟩:=x;exact⟨st _ _ p λo q=>k _ _ (.inl rfl) q,⟨o,k _ _ (.inl rfl) e⟩,st⟩
theorem HOk.lt(x:HOk P w H h)(e:H a=some o):a<h.objs.size:=(x a o e).lt
theorem HOk.fresh(x:HOk P w H h)(e:h.objs.size<=a):H a=none:=by
 cases q:H a with
 |none=>rfl
 |some u=>exact absurd (aq' (x.lt q) e) (aU' _)
theorem HOk.kept(x:HOk P w H h)(k:∀b u,h.get? b=some u->h'.get? b=some u):HOk P w H h':=λa o e=>
 (x a o e).stay (λb u _ q=>k b u q) (λ_ q=>q) λ_ _ q=>q
theorem HOk.laid(x:HOk P w H h)(k:∀b u,h.get? b=some u->h'.get? b=some u)(hp:h.objs.size<=a)(new:a4' P w (upd H a o) h' a o):HOk P w (upd H a o) h':=λb u e=>by
 have hn:=x.fresh hp;by_cases hb:b=a
 ·subst hb;rw[a1_] at e;cases e;exact new
 ·rw[a7_ hb] at e;exact (x b u e).stay (λc v _ q=>k c v q) (λc q=>by rw[a7_ (a5_ q hn)];exact q) λc xs q=>by rw[a7_ (a5_ q hn)];exact q
end
def Rd(H:Hp)(a:Addr)(u:HO):Prop:=H a=some u∨∃o,H a=some (.frz o u)
theorem Rd.of{H:Hp}{u:HO}(h:H a=some u):Rd H a u:=.inl h
variable{P:Ad}{h:Heap}
theorem Rd.ok{w:Af}{H:Hp}{u:HO}(r:Rd H a u)(x:HOk P w H h):a4' P w H h a u:=by
 rcases r with r|⟨o,r⟩
 ·exact x a u r
 ·obtain⟨_,q⟩:=x a _ r;exact q
def Mut:Option HO->Prop
 |some (.lst _)=>True
 |some (.dK _)=>True
 |some (.dT _)=>True
 |some (.set _ _)=>True
 |some (.ins _ _ _)=>True
 |some (.ext _)=>True
 |_=>False
section
variable{P:Ad}{w:Af}{H:Hp}{h h':Heap}{x e:Addr}{o':HO}
theorem HOk.write(ok:HOk P w H h)(mu:Mut (H x))(he:e=x∨H e=some (.own x))(k:∀b u,b≠e->h.get? b=some u->h'.get? b=some u)(heo:∃u,h'.get? e=some u)
  (new:a4' P w (upd H x o') h' x o'):HOk P w (upd H x o') h':=λb u q=>by
 have nown:∀c y,H c=some (.own y)->c≠x:=λc y r z=>by subst z;rw[r] at mu;exact mu
 have ntup:∀c xs,H c=some (.tup xs)->c≠x:=λc xs r z=>by subst z;rw[r] at mu;exact mu
 by_cases hb:b=x
 ·subst hb;rw[a1_] at q;cases q;exact new
 ·rw[a7_ hb] at q;by_cases hbe:b=e
  ·have q':H b=some (.own x):=by
    rcases he with z|z
    ·exact absurd (hbe.trans z) hb
    ·rw[hbe];exact z
   rw[q] at q';cases q';obtain⟨v,hv⟩:=heo;exact⟨v,by rw[hbe];exact hv⟩
  ·refine (ok b u q).stay (λc v hc r=>k c v ?_ r) (λc r=>by rw[a7_ (nown c b r)];exact r) λc xs r=>by rw[a7_ (ntup c xs r)];exact r
   rcases hc with rfl|hc
   ·exact hbe
   ·rintro rfl;rcases he with z|z
    ·exact nown c b hc z
    ·rw[hc] at z;cases z;exact hb rfl
end
structure Un (fs ex:List Addr) (H H':Hp) (h h':Heap):Prop where
 keep:∀b o,h.get? b=some o->H b=none->b∉fs->b∉ex->h'.get? b=some o
 slot:∀b o,h.get? b=some o->H b=none->b∈fs->b∉ex->∃sl,h'.get? b=some { o with slots:=sl }
 free:∀b o,h.get? b=some o->H b=none->b∉ex->H' b=none
 there:∀b o,h.get? b=some o->b∉ex->∃o',h'.get? b=some o'
 tups:∀b xs,H b=some (.tup xs)->H' b=some (.tup xs)
 frzs:∀b o u,H b=some (.frz o u)->H' b=some (.frz o u)
 tbls:∀b ps,H b=some (.tbl ps)->∃more,H' b=some (.tbl (ps++more))
section
variable{fs fs' ex ex':List Addr}{H H1 H2:Hp}{h h1 h2 h':Heap}{a x e:Addr}{o:HO}
theorem Un.any(u:Un fs ex H H1 h h1){ob:Obj}(q:h.get? b=some ob)(n:H b=none)(hx:b∉ex):∃sl,h1.get? b=some { ob with slots:=sl }:=by
 by_cases hb:b∈fs
 ·exact u.slot b ob q n hb hx
 ·exact⟨ob.slots,u.keep b ob q n hb hx⟩
theorem Un.kept(k:∀b u,h.get? b=some u->h'.get? b=some u):Un fs ex H H h h':=
 ⟨λb ob q _ _ _=>k b ob q,λb ob q _ _ _=>⟨ob.slots,k b ob q⟩,λ_ _ _ n _=>n,λb ob q _=>⟨ob,k b ob q⟩,λ_ _ q=>q,λ_ _ _ q=>q,λ_ ps q=>⟨#[],by rw[q];simp⟩⟩
theorem Un.refl:Un fs ex H H h h:=Un.kept λ_ _ q=>q
theorem Un.laid(k:∀b u,h.get? b=some u->h'.get? b=some u)(hp:h.objs.size<=a)(hn:H a=none):Un fs ex H (upd H a o) h h' where
 keep:=λb u q _ _ _=>k b u q
 slot:=λb u q _ _ _=>⟨u.slots,k b u q⟩
 free:=λb u q n _=>by rw[a7_ (aj' (aq' (a_2 q) hp))];exact n
 there:=λb u q _=>⟨u,k b u q⟩
 tups:=λb xs q=>by rw[a7_ (a5_ q hn)];exact q
 frzs:=λb u xs q=>by rw[a7_ (a5_ q hn)];exact q
 tbls:=λb ps q=>⟨#[],by rw[a7_ (a5_ q hn),q];simp⟩
theorem Un.write(mu:Mut (H x))(he:e=x∨H e=some (.own x))(k:∀b u,b≠e->h.get? b=some u->h'.get? b=some u)(heo:∃u,h'.get? e=some u):Un fs ex H (upd H x o) h h':=by
 have hx:∀b,H b=none->b≠x:=λb n z=>by subst z;rw[n] at mu;exact mu
 have hb:∀b,H b=none->b≠e:=λb n z=>by
  subst z;rcases he with r|r
  ·exact hx b n r
  ·rw[n] at r;cases r
 have hm:∀b u,H b=some u->¬Mut (some u)->b≠x:=λb u q nm z=>by subst z;rw[q] at mu;exact nm mu
 refine⟨λb u q n _ _=>k b u (hb b n) q,λb u q n _ _=>⟨u.slots,k b u (hb b n) q⟩,λb u q n _=>by rw[a7_ (hx b n)];exact n,λb u q _=>?_,
  λb xs q=>by rw[a7_ (hm b _ q λz=>z)];exact q,λb u xs q=>by rw[a7_ (hm b _ q λz=>z)];exact q,λb ps q=>⟨#[],by rw[a7_ (hm b _ q λz=>z),q];simp⟩⟩
 by_cases hbe:b=e
 ·subst hbe;exact heo
 ·exact⟨u,k b u hbe q⟩
end
def trk(h:Heap)(H:Hp):List Addr:=(List.range h.objs.size).filter λa=>(H a).isSome
def hidT(h:Heap)(H:Hp):Heap:=PySem.W.hideAll h (trk h H)
theorem fA_(h:Heap)(H:Hp):(hidT h H).objs.size=h.objs.size:=PySem.W.hideAll_size _ _
variable{o:Obj}
theorem hp_{H:Hp}(e:h.get? b=some o)(n:H b=none):(hidT h H).get? b=some o:=
 PySem.W.hideAll_get _ e λhm=>by
  have q:(H b).isSome=true:=(List.mem_filter.mp hm).2;rw[n] at q;simp at q
theorem j1_{H:Hp}(e:(hidT h H).get? b=some o):h.get? b=some o/\H b=none:=by
 have e':h.get? b=some o:=PySem.W.of_hideAll (trk h H) e;refine⟨e',?_⟩;cases q:H b with
 |none=>rfl
 |some x=>
  have hm:b∈trk h H:=List.mem_filter.mpr ⟨List.mem_range.mpr (a_2 e'),by simp[q]⟩;have z:(hidT h H).get? b=none:=PySem.W.hideAll_none (trk h H) hm;rw[z] at e;cases e
structure Mod (K:F__) (mg:Str->Option Aa) (base:Heap):Prop where
 kin:K.In base
 glob:base.Ns mainGlobals mg
 blt:∃mb,base.Ns builtinsNs mb/\∀x:Str,x≠"__name__"->mb x=bootBuiltins x
 nolimit:base.NoLimit
structure Cx where
 prog:Ad
 w:Af
 K:F__
 mg:Str->Option Aa
 base:Heap
 A:Ah
 N:List Str
 s₀:Ab
 H₀:Hp
 env:Env
 outer:List Env
 stack:List Env
 ex:List Addr
 fn:Str->Bool
 calm:Bool
 pn:List (Addr × Obj)
 xe:Aa->Ab->Prop
def frs(l:List Env):List Addr:=l.filterMap (·.frame)
abbrev Cx.fs(X:Cx):List Addr:=frs X.outer
def Vis(sc:Scope)(x:Str):Prop:=sc.names.lookup x=some .local∨sc.names.lookup x=some .cell∨sc.names.lookup x=some .free
def Loc(sc:Scope)(x:Str):Prop:=sc.names.lookup x=some .local∨sc.names.lookup x=some .cell
def Look(env:Env)(h:Heap)(m:Str->Option Aa)(x:Str)(u:Aa):Prop:=
 (env.kindOf x=some .local/\m x=some u)∨((env.kindOf x=some .cell∨env.kindOf x=some .free)/\∃c,env.cells.lookup x=some c/\h.IsCell c (some u))
structure Cx.Ok (X:Cx):Prop where
 mod:Mod X.K X.mg X.base
 kind:X.env.scope.kind=.function
 glob:X.env.globals=mainGlobals
 blt:X.env.builtins=builtinsNs
 above:X.s₀.heap.objs.size<=X.env.locals
 inj:∀x y c,X.env.cells.lookup x=some c->X.env.cells.lookup y=some c->x=y
 has:∀x,(X.env.kindOf x=some .cell∨X.env.kindOf x=some .free)->∃c,X.env.cells.lookup x=some c
 cab:∀x c,X.fn x=true->X.env.cells.lookup x=some c->X.s₀.heap.objs.size<=c
 hd:X.calm=true->X.A.handled=none
 frames:X.A.frames=some X.stack
 stk:X.stack=X.outer∨(X.stack=X.env::X.outer/\X.env.frame=some X.env.locals)
 exf:∀b∈X.ex,b≠X.env.locals/\∀x c,X.env.cells.lookup x=some c->c≠b
 bs:∀b o,X.base.get? b=some o->X.s₀.heap.get? b=some o/\X.H₀ b=none
 bsz:X.base.objs.size<=X.s₀.heap.objs.size
 noex:∀b o,X.base.get? b=some o->b∉X.ex
 exfs:∀b∈X.ex,b∉X.fs
 funs:X.s₀.heap.FunFrames X.base X.outer
 frf:∀b∈X.fs,X.H₀ b=none
structure Inv (X:Cx) (pins:List (Addr × Obj)) (σ:List (Option V)) (H:Hp) (s:Ab):Prop where
 ok:X.Ok
 os:s.os=X.s₀.os
 bare:AllBare s.gens
 base:Un X.fs X.ex X.H₀ H X.s₀.heap s.heap
 loc:∃m,s.heap.Ns X.env.locals m/\∀(i:Nat) (x:Str) (v:V),X.N[i]? = some x->σ[i]? = some (some v)->Vis X.env.scope x->∃u,RelV v u/\Look X.env s.heap m x u
 cell:∀x c,X.env.cells.lookup x=some c->∃v,s.heap.IsCell c v
 free:H X.env.locals=none
 freeC:∀x c,X.env.cells.lookup x=some c->H c=none
 pin:∀p∈X.pn++pins,s.heap.get? p.1=some p.2/\H p.1=none/\p.1≠X.env.locals/\p.1∉X.fs/\∀v,p.2.data≠.cell v
 hok:HOk X.prog X.w H s.heap
 len:σ.length=X.N.length
section
variable{X:Cx}{pins:List (Addr × Obj)}{σ:List (Option V)}{H H':Hp}{s:Ab}{h':Heap}
theorem Cx.Ok.nofr(ok:X.Ok)(e:X.base.get? b=some o):b∉X.fs:=λhb=>by
 have:=(ok.funs.mem hb).1;rw[e] at this;cases this
theorem Inv.bs(I:Inv X pins σ H s):∀b o,X.base.get? b=some o->s.heap.get? b=some o/\H b=none:=λb o e=>
 ⟨I.base.keep b o (I.ok.bs b o e).1 (I.ok.bs b o e).2 (I.ok.nofr e) (I.ok.noex b o e),I.base.free b o (I.ok.bs b o e).1 (I.ok.bs b o e).2 (I.ok.noex b o e)⟩
theorem Inv.bk(I:Inv X pins σ H s):∀b o,X.base.get? b=some o->s.heap.get? b=some o:=λb o e=>(I.bs b o e).1
theorem Inv.mod(I:Inv X pins σ H s):Mod X.K X.mg X.base:=I.ok.mod
theorem Inv.kIn(I:Inv X pins σ H s):X.K.In s.heap:=I.ok.mod.kin.keeps I.bk
theorem Inv.lt(I:Inv X pins σ H s):X.env.locals<s.heap.objs.size:=let ⟨_,hn,_⟩:=I.loc;hn.lt
theorem Inv.sz(I:Inv X pins σ H s):X.s₀.heap.objs.size<=s.heap.objs.size:=aV' I.ok.above (Nat.le_of_lt I.lt)
theorem Inv.nofs(I:Inv X pins σ H s)(h:s.heap.objs.size<=a):a∉X.fs:=λhb=>by
 obtain⟨_,o,ho,_⟩:=I.ok.funs.mem hb;exact absurd (aq' (a_2 ho) (aV' I.sz h)) (aU' _)
theorem Inv.cne(I:Inv X pins σ H s):∀x c,X.env.cells.lookup x=some c->c≠X.env.locals:=λx c e z=>by
 obtain⟨v,o,ho,hd⟩:=I.cell x c e;obtain⟨m,⟨o',es,ep,ho',hd',_⟩,_⟩:=I.loc;rw[z,ho'] at ho;cases ho;rw[hd'] at hd;cases hd
theorem Inv.funs(I:Inv X pins σ H s):s.heap.FunFrames X.base X.outer:=by
 have all:∀(l:List Env),(∀b∈frs l,b∈X.fs)->X.s₀.heap.FunFrames X.base l->s.heap.FunFrames X.base l:=by
  intro l
  induction l with
  |nil=>intro _ _;trivial
  |cons env r ih=>
   intro hs hl;obtain⟨hk,⟨L,o,hf,hn,ho,hd⟩,hr⟩:=hl;have hL:L∈X.fs:=hs L (by unfold frs;rw[List.filterMap_cons,hf];exact ak');obtain⟨sl,e⟩:=I.base.slot L o ho (I.ok.frf L hL) hL λz=>I.ok.exfs L z hL;exact⟨hk,⟨L,_,hf,hn,e,hd⟩,ih (λb hb=>hs b (by unfold frs;rw[List.filterMap_cons,hf];exact af' _ hb)) hr⟩
 exact all X.outer (λ_ hb=>hb) I.ok.funs
theorem Inv.stack(I:Inv X pins σ H s):s.heap.FunFrames X.base X.stack:=by
 rcases I.ok.stk with e|⟨e,hf⟩
 ·rw[e];exact I.funs
 ·rw[e];obtain⟨m,hn,_⟩:=I.loc;refine .cons (by rw[I.ok.kind];decide) hf hn ?_ I.funs;exact Heap.get?_none_of_le (aV' I.ok.bsz I.ok.above)
theorem Inv.stkSub(I:Inv X pins σ H s):∀b∈frs X.stack,b∈X.env.locals::X.fs:=λb hb=>by
 rcases I.ok.stk with e|⟨e,hf⟩
 ·rw[e] at hb;exact af' _ hb
 ·rw[e] at hb;unfold frs at hb;rw[List.filterMap_cons,hf] at hb;exact hb
theorem Inv.stkFree(I:Inv X pins σ H s):∀b∈frs X.stack,H b=none:=λb hb=>by
 rcases an'.mp (I.stkSub b hb) with e|hb
 ·rw[e];exact I.free
 ·obtain⟨_,o,ho,_⟩:=I.ok.funs.mem hb;exact I.base.free b o ho (I.ok.frf b hb) λz=>I.ok.exfs b z hb
theorem Inv.step{g':Array GenState}{t':Nat}{d':Drawn}{ch:List Addr}(I:Inv X pins σ H s)
  (hch:∀b∈ch,(b∈X.ex∨X.s₀.heap.objs.size<=b)/\b≠X.env.locals/\(∀x c,X.env.cells.lookup x=some c->c≠b)/\∀p∈X.pn++pins,p.1≠b)
  (keep:∀b o,b≠X.env.locals->b∉X.fs->b∉ch->s.heap.get? b=some o->H b=none->h'.get? b=some o)
  (slot:∀b o,b≠X.env.locals->b∈X.fs->b∉ch->s.heap.get? b=some o->H b=none->∃sl,h'.get? b=some { o with slots:=sl }) (free:∀b o,b∉ch->s.heap.get? b=some o->H b=none->H' b=none)
  (there:∀b o,b∉ch->s.heap.get? b=some o->∃o',h'.get? b=some o')
  (tups:∀b xs,H b=some (.tup xs)->H' b=some (.tup xs)) (frzs:∀b o u,H b=some (.frz o u)->H' b=some (.frz o u)) (tbls:∀b ps,H b=some (.tbl ps)->∃more,H' b=some (.tbl (ps++more)))
  (ns:∀m,s.heap.Ns X.env.locals m->h'.Ns X.env.locals m) (hok:HOk X.prog X.w H' h') (hg:AllBare g') :
  Inv X pins σ H' { s with heap:=h',gens:=g',drawn:=d',toks:=t' }:=by
 have neL:∀b o,X.s₀.heap.get? b=some o->b≠X.env.locals:=λb o e=>aj' (aq' (a_2 e) I.ok.above)
 have neC:∀b o,X.s₀.heap.get? b=some o->b∉X.ex->b∉ch:=λb o e hx hb=>by
  rcases (hch b hb).1 with z|z
  ·exact hx z
  ·exact absurd (aq' (a_2 e) z) (aU' _)
 have cellK:∀x c,X.env.cells.lookup x=some c->∀v,s.heap.IsCell c v->h'.IsCell c v:=λx c e v ⟨o,ho,hd⟩=>by
  have nch:c∉ch:=λz=>(hch c z).2.2.1 x c e rfl;by_cases hc:c∈X.fs
  ·obtain⟨sl,q⟩:=slot c o (I.cne x c e) hc nch ho (I.freeC x c e);exact⟨_,q,hd⟩
  ·exact⟨o,keep c o (I.cne x c e) hc nch ho (I.freeC x c e),hd⟩
 refine⟨I.ok,I.os,hg,⟨λb o e n hb hx=>?_,λb o e n hb hx=>?_,λb o e n hx=>?_,λb o e hx=>?_,λb xs e=>tups b xs (I.base.tups b xs e),λb o xs e=>frzs b o xs (I.base.frzs b o xs e),λb ps e=>?_⟩,?_,λx c e=>?_,?_,λx c e=>?_,λp hp=>?_,hok,I.len⟩
 ·exact keep b o (neL b o e) hb (neC b o e hx) (I.base.keep b o e n hb hx) (I.base.free b o e n hx)
 ·obtain⟨sl,e1⟩:=I.base.slot b o e n hb hx;obtain⟨sl',e2⟩:=slot b _ (neL b o e) hb (neC b o e hx) e1 (I.base.free b o e n hx);exact⟨sl',e2⟩
 ·obtain⟨o',e1⟩:=I.base.there b o e hx;exact free b o' (neC b o e hx) e1 (I.base.free b o e n hx)
 ·obtain⟨o',e1⟩:=I.base.there b o e hx;exact there b o' (neC b o e hx) e1
 ·obtain⟨m1,e1⟩:=I.base.tbls b ps e;obtain⟨m2,e2⟩:=tbls b _ e1;exact⟨m1++m2,by rw[e2,Array.append_assoc]⟩
 ·obtain⟨m,hn,hl⟩:=I.loc;refine⟨m,ns m hn,λi x v e1 e2 e3=>?_⟩;obtain⟨u,r,l⟩:=hl i x v e1 e2 e3;refine⟨u,r,?_⟩;rcases l with l|⟨k,c,e,z⟩
  ·exact .inl l
  ·exact .inr ⟨k,c,e,cellK x c e _ z⟩
 ·obtain⟨v,z⟩:=I.cell x c e;exact⟨v,cellK x c e v z⟩
 ·obtain⟨m,⟨o,_,_,ho,_⟩,_⟩:=I.loc;exact free _ o (λz=>(hch _ z).2.1 rfl) ho I.free
 ·obtain⟨v,o,ho,hd⟩:=I.cell x c e;exact free c o (λz=>(hch c z).2.2.1 x c e rfl) ho (I.freeC x c e)
 ·obtain⟨e,n,ne,nf,d⟩:=I.pin p hp;have nch:p.1∉ch:=λz=>(hch p.1 z).2.2.2 p hp rfl;exact⟨keep p.1 p.2 ne nf nch e n,free p.1 p.2 nch e n,ne,nf,d⟩
theorem Inv.un{t':Nat}(I:Inv X pins σ H s)(u:Un X.fs [] H H' s.heap h')(hok:HOk X.prog X.w H' h'):Inv X pins σ H' { s with heap:=h',toks:=t' }:=by
 obtain⟨m,⟨o,es,ep,ho,r⟩,_⟩:=id I.loc;obtain⟨sl,hL⟩:=u.any ho I.free Z2
 exact I.step (g':=s.gens) (d':=s.drawn) (ch:=[]) (λ_ z=>nomatch z) (λb o _ hb _ e n=>u.keep b o e n hb Z2) (λb o _ hb _ e n=>u.slot b o e n hb Z2) (λb o _ e n=>u.free b o e n Z2) (λb o _ e=>u.there b o e Z2) u.tups u.frzs u.tbls (λm' hm=>by
  obtain⟨o',es',ep',ho',r'⟩:=hm;rw[ho] at ho';cases ho';exact⟨_,es',ep',hL,r'⟩) hok I.bare
theorem Inv.call{g':Array GenState}{t':Nat}{d':Drawn}{ch:List Addr}(I:Inv X pins σ H s)(u:Un (frs X.stack) ch H H' s.heap h')(hok:HOk X.prog X.w H' h')(hg:AllBare g')
  (hch:∀b∈ch,(b∈X.ex∨X.s₀.heap.objs.size<=b)/\b≠X.env.locals/\(∀x c,X.env.cells.lookup x=some c->c≠b)/\∀p∈X.pn++pins,p.1≠b) :
  Inv X pins σ H' { s with heap:=h',gens:=g',drawn:=d',toks:=t' }:=by
 obtain⟨m,⟨o,es,ep,ho,r⟩,_⟩:=id I.loc;obtain⟨sl,hL⟩:=u.any ho I.free λz=>(hch _ z).2.1 rfl
 exact I.step (ch:=ch) hch (λb o hL hb hc e n=>u.keep b o e n (λz=>(an'.mp (I.stkSub b z)).elim hL hb) hc) (λb o _ _ hc e n=>u.any e n hc) (λb o hc e n=>u.free b o e n hc) (λb o hc e=>u.there b o e hc) u.tups u.frzs u.tbls (λm' hm=>by
  obtain⟨o',es',ep',ho',r'⟩:=hm;rw[ho] at ho';cases ho';exact⟨_,es',ep',hL,r'⟩) hok hg
theorem Inv.turned{t':Nat}{it:Addr}(I:Inv X pins σ H s)(k:∀b o,b≠it->s.heap.get? b=some o->h'.get? b=some o)(hn:H it=none)(hL:it≠X.env.locals)
  (h1:it∈X.ex∨X.s₀.heap.objs.size<=it) (h2:∀x c,X.env.cells.lookup x=some c->c≠it) (h3:∀p∈X.pn++pins,p.1≠it):Inv X pins σ H { s with heap:=h',toks:=t' }:=by
 have nit:∀b u,H b=some u->b≠it:=λb u e z=>by rw[z,hn] at e;cases e
 refine I.step (g':=s.gens) (d':=s.drawn) (ch:=[it]) (λb hb=>?_) (λb o _ _ hc e _=>k b o (λz=>hc (by simp[z])) e) (λb o _ _ hc e _=>⟨o.slots,k b o (λz=>hc (by simp[z])) e⟩) (λ_ _ _ _ n=>n)
  (λb o hc e=>⟨o,k b o (λz=>hc (by simp[z])) e⟩) (λ_ _ e=>e) (λ_ _ _ e=>e) (λb ps e=>⟨#[],by rw[e];simp⟩) (λm hm=>?_) (λb u e=>?_) I.bare
 ·have e:b=it:=by simpa using hb
  subst e;exact⟨h1,hL,h2,h3⟩
 ·obtain⟨o,es,ep,ho,r⟩:=hm;exact⟨o,es,ep,k _ o (Ne.symm hL) ho,r⟩
 ·refine (I.hok b u e).stay (λc v hc q=>k c v ?_ q) (λ_ q=>q) λ_ _ q=>q;rcases hc with z|z
  ·rw[z];exact nit b u e
  ·exact nit c _ z
theorem Inv.tok(I:Inv X pins σ H s)(t:Nat):Inv X pins σ H { s with toks:=t }:=I.un (h':=s.heap) (t':=t) Un.refl I.hok
theorem Inv.kept{t':Nat}(I:Inv X pins σ H s)(k:∀b u,s.heap.get? b=some u->h'.get? b=some u):Inv X pins σ H { s with heap:=h',toks:=t' }:=I.un (Un.kept k) (I.hok.kept k)
theorem Inv.laid{o:HO}{t':Nat}(I:Inv X pins σ H s)(k:∀b u,s.heap.get? b=some u->h'.get? b=some u)(hp:s.heap.objs.size<=a)(new:a4' X.prog X.w (upd H a o) h' a o) :
  Inv X pins σ (upd H a o) { s with heap:=h',toks:=t' }:=I.un (Un.laid k hp (I.hok.fresh hp)) (I.hok.laid k hp new)
theorem Inv.write{x e:Addr}{o:HO}{t':Nat}(I:Inv X pins σ H s)(mu:Mut (H x))(he:e=x∨H e=some (.own x))(k:∀b u,b≠e->s.heap.get? b=some u->h'.get? b=some u)(heo:∃u,h'.get? e=some u)
  (new:a4' X.prog X.w (upd H x o) h' x o):Inv X pins σ (upd H x o) { s with heap:=h',toks:=t' }:=I.un (Un.write mu he k heo) (I.hok.write mu he k heo new)
theorem Inv.pins_of{pins':List (Addr × Obj)}(I:Inv X pins σ H s)(h:∀p∈pins',s.heap.get? p.1=some p.2/\H p.1=none/\p.1≠X.env.locals/\p.1∉X.fs/\∀v,p.2.data≠.cell v):Inv X pins' σ H s:=
 ⟨I.ok,I.os,I.bare,I.base,I.loc,I.cell,I.free,I.freeC,λp hp=>(aA'.mp hp).elim (λz=>I.pin p (List.mem_append_left _ z)) (h p),I.hok,I.len⟩
theorem dq_{N:List Str}(hN:N.Nodup){i j:Nat}{x:Str}(a:N[i]? = some x)(b:N[j]? = some x):i=j:=by
 obtain⟨h1,e1⟩:=ac'.mp a;obtain⟨h2,e2⟩:=ac'.mp b;exact (List.getElem_inj hN).mp (e1.trans e2.symm)
theorem dP_{M:Model}{A:Ah}{E:Aa->Ab->Prop}{i:Nat}{x:Str}{v:V}{u:Aa}{Q:Unit->Ab->Prop}(I:Inv X pins σ H s)(hN:X.N.Nodup)(hi:X.N[i]? = some x)(hx:Loc X.env.scope x)(r:RelV v u)
  (h:∀s',Inv X pins (σ.set i (some v)) H s'->(∃a,Heap.SameBut a s.heap s'.heap/\(a=X.env.locals∨X.env.cells.lookup x=some a))->Q () s') (hf:X.fn x=true∨X.env.scope.names.lookup x=some .local:=by first|exact .inl rfl|exact .inr rfl|assumption):wpAny M A (storeName X.env x u) Q E s:=by
 obtain⟨m,hn,hl⟩:=id I.loc;have hcls:(X.env.scope.kind == .class || (X.env.scope.kind == .module&&X.env.locals != X.env.globals))=false:=by rw[I.ok.kind];rfl
 have hiσ:i<σ.length:=by rw[I.len];exact (ac'.mp hi).1
 have cne:=I.cne
 have tracked:∀{a:Addr} {h':Heap},(∃o,s.heap.get? a=some o/\H a=none)->Heap.SameBut a s.heap h'->HOk X.prog X.w H h':=λ{a h'} ha hs b ob e=>by
  obtain⟨_,_,hfree⟩:=ha;refine (I.hok b ob e).stay (λc w' hc q=>(hs.2 c ?_).trans q) (λ_ q=>q) λ_ _ q=>q;rintro rfl;rcases hc with rfl|hc
  ·rw[hfree] at e;cases e
  ·rw[hfree] at hc;cases hc
 rcases hx with hk|hk
 ·refine wpAny_storeName_local hk hn (λh' hn' hs=>?_) hcls;obtain⟨oL,_,_,hoL,_⟩:=id hn;refine h _ ⟨I.ok,I.os,I.bare,⟨λb o e n hb hx=>?_,λb o e n hb hx=>?_,I.base.free,λb o e hx=>?_,I.base.tups,I.base.frzs,I.base.tbls⟩,⟨_,hn',λj y v' e1 e2 e3=>?_⟩,λy c e=>?_,I.free,I.freeC,λp hp=>?_,tracked ⟨oL,hoL,I.free⟩ hs,by simpa using I.len⟩ ⟨_,hs,.inl rfl⟩
  ·exact (hs.2 b (aj' (aq' (a_2 e) I.ok.above))).trans (I.base.keep b o e n hb hx)
  ·obtain⟨sl,e1⟩:=I.base.slot b o e n hb hx;exact⟨sl,(hs.2 b (aj' (aq' (a_2 e) I.ok.above))).trans e1⟩
  ·obtain⟨o',e1⟩:=I.base.there b o e hx;exact⟨o',(hs.2 b (aj' (aq' (a_2 e) I.ok.above))).trans e1⟩
  ·by_cases hj:j=i
   ·subst hj;rw[hi] at e1;cases e1;rw[List.getElem?_set_self hiσ] at e2;cases e2;exact⟨u,r,.inl ⟨hk,by simp⟩⟩
   ·rw[List.getElem?_set_ne (Ne.symm hj)] at e2;obtain⟨u',r',q⟩:=hl j y v' e1 e2 e3;refine⟨u',r',?_⟩;rcases q with⟨k,e⟩|⟨k,c,e,z⟩
    ·refine .inl ⟨k,?_⟩;have:y≠x:=λe=>hj (dq_ hN e1 (e▸hi));simp[this,e]
    ·exact .inr ⟨k,c,e,z.sameBut hs (cne y c e)⟩
  ·obtain⟨w',z⟩:=I.cell y c e;exact⟨w',z.sameBut hs (cne y c e)⟩
  ·obtain⟨e,n,ne,nf,d⟩:=I.pin p hp;exact⟨(hs.2 p.1 ne).trans e,n,ne,nf,d⟩
 ·have hfn:X.fn x=true:=by
   rcases hf with z|z
   ·exact z
   ·rw[z] at hk;cases hk
  obtain⟨c,hc⟩:=I.ok.has x (.inl hk);obtain⟨w',z⟩:=I.cell x c hc;refine wpAny_storeName_cell I.ok.kind hk hc z (λh' hc' hs=>?_);obtain⟨oc,hoc,hocd⟩:=id z;refine h { s with heap:=h' } ⟨I.ok,I.os,I.bare,⟨λb o e n hb hx=>?_,λb o e n hb hx=>?_,I.base.free,λb o e hx=>?_,I.base.tups,I.base.frzs,I.base.tbls⟩,⟨m,hn.sameBut hs (Ne.symm (cne x c hc)),λj y v' e1 e2 e3=>?_⟩,λy c' e=>?_,I.free,I.freeC,λp hp=>?_,tracked ⟨oc,hoc,I.freeC x c hc⟩ hs,by simpa using I.len⟩ ⟨c,hs,.inr hc⟩
  ·exact (hs.2 b (aj' (aq' (a_2 e) (I.ok.cab x c hfn hc)))).trans (I.base.keep b o e n hb hx)
  ·obtain⟨sl,e1⟩:=I.base.slot b o e n hb hx;exact⟨sl,(hs.2 b (aj' (aq' (a_2 e) (I.ok.cab x c hfn hc)))).trans e1⟩
  ·obtain⟨o',e1⟩:=I.base.there b o e hx;exact⟨o',(hs.2 b (aj' (aq' (a_2 e) (I.ok.cab x c hfn hc)))).trans e1⟩
  ·by_cases hj:j=i
   ·subst hj;rw[hi] at e1;cases e1;rw[List.getElem?_set_self hiσ] at e2;cases e2;exact⟨u,r,.inr ⟨.inl hk,c,hc,hc'⟩⟩
   ·rw[List.getElem?_set_ne (Ne.symm hj)] at e2;obtain⟨u',r',q⟩:=hl j y v' e1 e2 e3;refine⟨u',r',?_⟩;rcases q with q|⟨k,c',e,z'⟩
    ·exact .inl q
    ·refine .inr ⟨k,c',e,z'.sameBut hs ?_⟩;rintro rfl;exact hj (dq_ hN e1 (I.ok.inj _ _ _ e hc▸hi))
  ·by_cases hcc:c'=c
   ·subst hcc;exact⟨_,hc'⟩
   ·obtain⟨w2,z2⟩:=I.cell y c' e;exact⟨w2,z2.sameBut hs hcc⟩
  ·obtain⟨e,n,ne,nf,d⟩:=I.pin p hp;refine⟨(hs.2 p.1 ?_).trans e,n,ne,nf,d⟩;intro q;rw[q,hoc] at e;have q':oc=p.2:=a_9 e;exact d w' (by rw[<- q'];exact hocd)
theorem cl_{M:Model}{A:Ah}{E:Aa->Ab->Prop}{i:Nat}{x:Str}{v:V}{u:Aa}{Q:Unit->Ab->Prop}(I:Inv X pins σ H s)(hN:X.N.Nodup)(hi:X.N[i]? = some x)(hx:Loc X.env.scope x)(r:RelV v u)
  (h:∀s',Inv X pins (σ.set i (some v)) H s'->Q () s') (hf:X.fn x=true∨X.env.scope.names.lookup x=some .local:=by first|exact .inl rfl|exact .inr rfl|assumption):wpAny M A (storeName X.env x u) Q E s:=
 dP_ I hN hi hx r (λs' I' _=>h s' I') hf
theorem Inv.call'{s':Ab}{ch:List Addr}(I:Inv X pins σ H s)(ho:s'.os=s.os)(u:Un (frs X.stack) ch H H' s.heap s'.heap)(hok:HOk X.prog X.w H' s'.heap)(hg:AllBare s'.gens)
  (hch:∀b∈ch,(b∈X.ex∨X.s₀.heap.objs.size<=b)/\b≠X.env.locals/\(∀x c,X.env.cells.lookup x=some c->c≠b)/\∀p∈X.pn++pins,p.1≠b):Inv X pins σ H' s':=by
 obtain⟨h',g',d',t',o'⟩:=s';have e:o'=s.os:=ho;subst e;exact I.call (g':=g') (t':=t') (d':=d') u hok hg hch
end
abbrev XK:=Aa->Option Addr->Hp->Prop
abbrev St:=List (Option V)
abbrev VK:=V->Hp->Prop
abbrev TE:=St->Hp->VK->Prop
abbrev TT:=St->Hp->(Bool->Hp->Prop)->Prop
abbrev TA:=St->Hp->(List V->Hp->Prop)->Prop
structure Ends where
 nx:St->Hp->Prop
 rt:VK
 bk:St->Hp->Prop:=λ_ _=>False
 ct:St->Hp->Prop:=λ_ _=>False
abbrev TS:=Ends->St->Hp->Prop
def EP(X:Cx)(pins:List (Addr × Obj))(σ:St)(Q:VK)(u:Aa)(s':Ab):Prop:=∃v H',Inv X pins σ H' s'/\RelV v u/\Q v H'
def TP(X:Cx)(pins:List (Addr × Obj))(σ:St)(Q:Bool->Hp->Prop)(b:Bool)(s':Ab):Prop:=∃H',Inv X pins σ H' s'/\Q b H'
def AP(X:Cx)(pins:List (Addr × Obj))(σ:St)(Q:List V->Hp->Prop)(us:List Aa)(s':Ab):Prop:=∃vs H',Inv X pins σ H' s'/\Vals vs us/\Q vs H'
def SP(X:Cx)(pins:List (Addr × Obj))(D:Ends)(f:Flow)(s':Ab):Prop:=
 match f with
 |.next=>∃σ' H',Inv X pins σ' H' s'/\D.nx σ' H'
 |.brk=>∃σ' H',Inv X pins σ' H' s'/\D.bk σ' H'
 |.cont=>∃σ' H',Inv X pins σ' H' s'/\D.ct σ' H'
 |.ret u=>∃v σ' H',Inv X pins σ' H' s'/\RelV v u/\D.rt v H'
def PE(X:Cx)(e:Expr)(t:TE):Prop:=
 ∀(pins:List (Addr × Obj)) (s:Ab) (σ:St) (H:Hp) (Q:VK),Inv X pins σ H s->t σ H Q->wpAny (model X.prog X.w) X.A (eval e X.env) (EP X pins σ Q) X.xe s
def PT(X:Cx)(e:Expr)(t:TT):Prop:=
 ∀(pins:List (Addr × Obj)) (s:Ab) (σ:St) (H:Hp) (Q:Bool->Hp->Prop),Inv X pins σ H s->t σ H Q->wpAny (model X.prog X.w) X.A (isTrue e X.env (eval e X.env)) (TP X pins σ Q) X.xe s
def PW(X:Cx)(e:Expr)(t:TT):Prop:=
 ∀(whole:Sem Aa) (pins:List (Addr × Obj)) (s:Ab) (σ:St) (H:Hp) (Q:Bool->Hp->Prop),Inv X pins σ H s->t σ H Q->wpAny (model X.prog X.w) X.A (isTrue e X.env whole) (TP X pins σ Q) X.xe s
theorem PW.pt{X:Cx}{e:Expr}{t:TT}(h:PW X e t):PT X e t:=h _
def PA(X:Cx)(es:List Expr)(t:TA):Prop:=
 ∀(pos:Pos) (pins:List (Addr × Obj)) (s:Ab) (σ:St) (H:Hp) (Q:List V->Hp->Prop),Inv X pins σ H s->t σ H Q->wpAny (model X.prog X.w) X.A (spliced (backTo pos (starEach es X.env))) (AP X pins σ Q) X.xe s
def PS(X:Cx)(st:Stmt)(t:TS):Prop:=
 ∀(pins:List (Addr × Obj)) (s:Ab) (σ:St) (H:Hp) (D:Ends),Inv X pins σ H s->t D σ H->wpAny (model X.prog X.w) X.A (exec st X.env) (SP X pins D) X.xe s
def PSs(X:Cx)(st:List Stmt)(t:TS):Prop:=
 ∀(pins:List (Addr × Obj)) (s:Ab) (σ:St) (H:Hp) (D:Ends),Inv X pins σ H s->t D σ H->wpAny (model X.prog X.w) X.A (execs st X.env) (SP X pins D) X.xe s
variable{M:Model}
theorem thn{α:Type}{t:Sem α}{Q Q':α->Ab->Prop}{A:Ah}{E:Aa->Ab->Prop}{s:Ab}(h:wpAny M A t Q E s)(hQ:∀a s,Q a s->Q' a s):wpAny M A t Q' E s:=wpAny_mono h hQ λ_ _ x=>x
section
variable{X:Cx}
inductive tVar (i:Nat) (σ:St) (H:Hp) (Q:VK):Prop
 |mk:∀v,σ[i]? = some (some v)->Q v H->tVar i σ H Q
def tC(v:V):TE:=λ_ H Q=>Q v H
theorem jo_{i:Nat}{x:Str}{pos:Pos}(hN:X.N[i]? = some x)(hv:Vis X.env.scope x)(hd:(x == ("__debug__":Str))=false:=by decide)(hcd:(x == ("__classdict__":Str))=false:=by decide):PE X (.Name x pos) (tVar i):=by
 intro pins s σ H Q I h;obtain⟨v,e,h⟩:=h;obtain⟨m,hn,hl⟩:=I.loc;obtain⟨u,r,l⟩:=hl i x v hN e hv;have fin:EP X pins σ Q u s:=⟨v,H,I,r,h⟩;rcases l with⟨hk,hm⟩|⟨hk,c,hc,hcell⟩
 ·exact wpAny_Name (wpAny_loadName_local I.ok.kind hk hn hm fin) hd
 ·rcases hk with hk|hk
  ·exact wpAny_Name (wpAny_loadName_cell I.ok.kind hk hc hcell fin) hd
  ·exact wpAny_Name (wpAny_loadName_free I.ok.kind hk hc hcell fin hcd) hd
theorem a6_{i j pos}:PE X (.Constant (.int i) j pos) (tC (.int i)):=λ_ _ _ H _ I h=>wpAny_Constant_int ⟨.int i,H,I.tok _,⟨_,rfl⟩,h⟩
theorem dJ_{b j pos}:PE X (.Constant (.bool b) j pos) (tC (.bl b)):=λ_ _ _ H _ I h=>Constant_bool ⟨.bl b,H,I,rfl,h⟩
theorem d3_{j pos}:PE X (.Constant .none j pos) (tC .non):=λ_ _ _ H _ I h=>Constant_none ⟨.non,H,I,rfl,h⟩
theorem ao_{x j pos}:PE X (.Constant (.str x) j pos) (tC (.str x)):=λ_ _ _ H _ I h=>Calls.Constant_str ⟨.str x,H,I.tok _,⟨_,rfl⟩,h⟩
def Gl(X:Cx)(x:Str):Prop:=X.env.kindOf x=some .globalImplicit
theorem bO_{E:Aa->Ab->Prop}{pins:List (Addr × Obj)}{s:Ab}{σ:St}{H:Hp}{x:Str}{u:Aa}{pos:Pos}{Q:Aa->Ab->Prop}(I:Inv X pins σ H s)(hg:Gl X x)(hm:X.mg x=some u)(h:Q u s)
  (hd:(x == ("__debug__":Str))=false:=by decide):wpAny (model X.prog X.w) X.A (eval (.Name x pos) X.env) Q E s:=
 Calls.Name_function_global I.ok.kind hg (Calls.loadGlobal_global (by rw[I.ok.glob];exact I.mod.glob.keeps I.bk) hm h) hd
theorem cx_{E:Aa->Ab->Prop}{pins:List (Addr × Obj)}{s:Ab}{σ:St}{H:Hp}{x:Str}{u:Aa}{pos:Pos}{Q:Aa->Ab->Prop}(I:Inv X pins σ H s)(hg:Gl X x)(hm:X.mg x=none)(hv:bootBuiltins x=some u)(h:Q u s)
  (hn:x≠"__name__":=by decide) (hd:(x == ("__debug__":Str))=false:=by decide):wpAny (model X.prog X.w) X.A (eval (.Name x pos) X.env) Q E s:=by
 obtain⟨mb,h1,h2⟩:=I.mod.blt;exact Calls.Name_function_global I.ok.kind hg (Calls.loadGlobal_builtin (by rw[I.ok.glob];exact I.mod.glob.keeps I.bk) hm (by rw[I.ok.blt];exact h1.keeps I.bk) ((h2 x hn).trans hv) h) hd
theorem aR_{x:Str}{v:V}{u:Aa}{pos:Pos}(hg:Gl X x)(hm:X.mg x=some u)(r:RelV v u)(hd:(x == ("__debug__":Str))=false:=by decide):PE X (.Name x pos) (tC v):=
 λ_ _ _ H _ I h=>bO_ I hg hm ⟨v,H,I,r,h⟩ hd
theorem aI_{x:Str}{v:V}{u:Aa}{pos:Pos}(hg:Gl X x)(hm:X.mg x=none)(hv:bootBuiltins x=some u)(r:RelV v u)(hn:x≠"__name__":=by decide)(hd:(x == ("__debug__":Str))=false:=by decide):PE X (.Name x pos) (tC v):=
 λ_ _ _ H _ I h=>cx_ I hg hm hv ⟨v,H,I,r,h⟩ hn hd
variable{a b:Expr}{ta tb:TE}{pos:Pos}
def PC(X:Cx)(op:CmpOp)(a b:Expr)(t:TE):Prop:=
 ∀(pins:List (Addr × Obj)) (s:Ab) (σ:St) (H:Hp) (Q:VK),Inv X pins σ H s->t σ H Q->
  wpAny (model X.prog X.w) X.A (eval a X.env) (λv s₁=>wpAny (model X.prog X.w) X.A (eval b X.env) (λu s₂=>wpAny (model X.prog X.w) X.A (compareOp op v u) (EP X pins σ Q) X.xe s₂) X.xe s₁) X.xe s
theorem nobehind(b:Expr){op:CmpOp}(h:op≠.In)(h2:op≠.NotIn):behindInMarks op b=false:=by
 have e1:(op == CmpOp.In)=false:=by cases op<;>first|rfl|exact absurd rfl h
 have e2:(op == CmpOp.NotIn)=false:=by cases op<;>first|rfl|exact absurd rfl h2
 cases b<;>simp[behindInMarks,e1,e2]
def tIsN(ta:TE):TE:=λσ H Q=>ta σ H λx H1=>Q (.bl (decide (x=.non))) H1
theorem RelV.none_iff{x:V}{v:Aa}(r:RelV x v):(v == Value.none)=decide (x=.non):=by
 cases x with
 |non=>cases r;rfl
 |bl _=>cases r;rfl
 |int _=>obtain⟨t,rfl⟩:=r;rfl
 |str _=>obtain⟨t,rfl⟩:=r;rfl
 |byt _=>obtain⟨t,rfl⟩:=r;rfl
 |flt _=>obtain⟨t,rfl⟩:=r;rfl
 |ref _=>cases r;rfl
 |ty _=>cases r;rfl
theorem gO_{j pos'}(ha:PE X a ta):PC X .Is a (.Constant .none j pos') (tIsN ta):=by
 intro pins s σ H Q I h;refine thn (ha pins s σ H _ I h) λv s1 ⟨x,H1,I1,r1,q1⟩=>?_;exact Constant_none (is_none_gen ⟨.bl _,H1,I1,by rw[r1.none_iff];rfl,q1⟩)
inductive tBR (Q:Bool->Hp->Prop) (x:V) (H1:Hp):Prop
 |mk:∀c,x=.bl c->Q c H1->tBR Q x H1
def tB(t:TE):TT:=λσ H Q=>t σ H λx H1=>tBR Q x H1
theorem fT_{op:CmpOp}{t:TE}(h:PC X op a b t)(h1:behindInMarks op b=false:=by first|exact nobehind _ (by decide) (by decide)|rfl):PE X (.Compare a [op] [b] pos) t:=λpins s σ H Q I hw=>wpAny_Compare1 (h pins s σ H Q I hw) h1
theorem cg_{op:CmpOp}{t:TE}(h:PC X op a b t)(h1:behindInMarks op b=false:=by first|exact nobehind _ (by decide) (by decide)|rfl):PT X (.Compare a [op] [b] pos) (tB t):=by
 intro pins s σ H Q I hw;refine wpAny_isTrue_Compare1 (thn (h pins s σ H _ I hw) λv s1 h1=>thn h1 λu s2 h2=>thn h2 λc s3 ⟨x,H1,I1,r1,q1⟩=>?_) h1;obtain⟨d,rfl,q⟩:=q1;cases r1;exact c_0 ⟨H1,I1,q⟩
theorem aB_{e:Expr}{t:TE}(h:PE X e t)(he:∀whole,isTrue e X.env whole=(do let v <- whole;standAt e.pos;holding [v] (truthy v)):=by intro _;rfl):PT X e (tB t):=by
 intro pins s σ H Q I hw;refine isTrue_plain (thn (h pins s σ H _ I hw) λv s1 ⟨x,H1,I1,r1,q1⟩=>?_) (he _);obtain⟨d,rfl,q⟩:=q1;cases r1;exact c_0 ⟨H1,I1,q⟩
variable{tA tB':TT}{rest:List Expr}
def tAnd(t u:TT):TT:=λσ H Q=>t σ H λc H1=>if c=true then u σ H1 Q else Q false H1
def tOr(t u:TT):TT:=λσ H Q=>t σ H λc H1=>if c=true then Q true H1 else u σ H1 Q
def tNot(t:TT):TT:=λσ H Q=>t σ H λc H1=>Q (!c) H1
theorem il_(ha:PT X a tA):PW X (.BoolOp .And [a] pos) tA:=by
 intro wh pins s σ H Q I h;refine isTrue_and (thn (ha pins s σ H Q I h) λc s1 e=>?_);cases c with
 |true=>exact isTrue_and_nil e
 |false=>exact e
theorem cp_(ha:PT X a tA):PW X (.BoolOp .Or [a] pos) tA:=by
 intro wh pins s σ H Q I h;refine isTrue_or (thn (ha pins s σ H Q I h) λc s1 e=>?_);cases c with
 |false=>exact isTrue_or_nil e
 |true=>exact e
theorem hU_(ha:PT X a tA)(hb:PW X (.BoolOp .And (b::rest) pos) tB'):PW X (.BoolOp .And (a::b::rest) pos) (tAnd tA tB'):=by
 intro wh pins s σ H Q I h;refine isTrue_and (thn (ha pins s σ H _ I h) λc s1 ⟨H1,I1,q1⟩=>?_);cases c with
 |true=>exact hb wh pins s1 σ H1 Q I1 q1
 |false=>exact⟨H1,I1,q1⟩
theorem e5_(ha:PT X a tA)(hb:PW X (.BoolOp .Or (b::rest) pos) tB'):PW X (.BoolOp .Or (a::b::rest) pos) (tOr tA tB'):=by
 intro wh pins s σ H Q I h;refine isTrue_or (thn (ha pins s σ H _ I h) λc s1 ⟨H1,I1,q1⟩=>?_);cases c with
 |true=>exact⟨H1,I1,q1⟩
 |false=>exact hb wh pins s1 σ H1 Q I1 q1
theorem ay_(ha:PT X a tA):PT X (.UnaryOp .Not a pos) (tNot tA):=by
 intro pins s σ H Q I h;exact isTrue_not (ha pins s σ H (λc H1=>Q (!c) H1) I h)
inductive tAndVR (tb:TE) (σ:St) (Q:VK) (x:V) (H1:Hp):Prop
 |mk:∀c,x=.bl c->(if c=true then tb σ H1 Q else Q (.bl false) H1)->tAndVR tb σ Q x H1
def tAndV(ta tb:TE):TE:=λσ H Q=>ta σ H λx H1=>tAndVR tb σ Q x H1
inductive tOrVR (tb:TE) (σ:St) (Q:VK) (x:V) (H1:Hp):Prop
 |mk:∀c,x=.bl c->(if c=true then Q (.bl true) H1 else tb σ H1 Q)->tOrVR tb σ Q x H1
def tOrV(ta tb:TE):TE:=λσ H Q=>ta σ H λx H1=>tOrVR tb σ Q x H1
inductive tNotVR (Q:VK) (x:V) (H1:Hp):Prop
 |mk:∀c,x=.bl c->Q (.bl (!c)) H1->tNotVR Q x H1
def tNotV(ta:TE):TE:=λσ H Q=>ta σ H λx H1=>tNotVR Q x H1
theorem bp_{op}{t:TE}(h:PE X a t):PE X (.BoolOp op [a] pos) t:=λpins s σ H Q I hw=>BoolOp_one (h pins s σ H Q I hw)
theorem bF_(ha:PE X a ta)(hb:PE X (.BoolOp .And (b::rest) pos) tb):PE X (.BoolOp .And (a::b::rest) pos) (tAndV ta tb):=by
 intro pins s σ H Q I h;refine BoolOp_and (thn (ha pins s σ H _ I h) λv s1 ⟨x,H1,I1,r1,q1⟩=>?_);obtain⟨c,rfl,q1⟩:=q1;cases r1;refine c_0 ?_;cases c with
 |true=>exact hb pins s1 σ H1 Q I1 q1
 |false=>exact⟨.bl false,H1,I1,rfl,q1⟩
theorem hu_(ha:PE X a ta)(hb:PE X (.BoolOp .Or (b::rest) pos) tb):PE X (.BoolOp .Or (a::b::rest) pos) (tOrV ta tb):=by
 intro pins s σ H Q I h;refine BoolOp_or (thn (ha pins s σ H _ I h) λv s1 ⟨x,H1,I1,r1,q1⟩=>?_);obtain⟨c,rfl,q1⟩:=q1;cases r1;refine c_0 ?_;cases c with
 |false=>exact hb pins s1 σ H1 Q I1 q1
 |true=>exact⟨.bl true,H1,I1,rfl,q1⟩
theorem dT_(ha:PE X a ta):PE X (.UnaryOp .Not a pos) (tNotV ta):=by
 intro pins s σ H Q I h;refine UnaryOp_ (thn (ha pins s σ H _ I h) λv s1 ⟨x,H1,I1,r1,q1⟩=>?_);obtain⟨c,rfl,q1⟩:=q1;cases r1;exact not_of (c_0 ⟨.bl (!c),H1,I1,rfl,q1⟩)
def tIf(t:TT)(ta tb:TE):TE:=λσ H Q=>t σ H λc H1=>if c=true then ta σ H1 Q else tb σ H1 Q
theorem hg_{c:Expr}(hc:PT X c tA)(ha:PE X a ta)(hb:PE X b tb):PE X (.IfExp c a b pos) (tIf tA ta tb):=by
 intro pins s σ H Q I h;refine wpAny_IfExp (thn (hc pins s σ H _ I h) λd s1 ⟨H1,I1,q1⟩=>?_);cases d with
 |true=>exact ha pins s1 σ H1 Q I1 q1
 |false=>exact hb pins s1 σ H1 Q I1 q1
end
def SqL(K:F__)(H:Hp)(a:Addr)(xs:List V):Prop:=
 Rd H a (.lst xs) ∨
  ∃(o:Obj) (its:Array Aa) (n:Nat),K.lookup a=some o/\o.cls=.type "list"/\o.dict=none/\o.data=.seq its n/\its.size<=sizeLine/\Vals xs its.toList
def SqT(K:F__)(H:Hp)(a:Addr)(xs:List V):Prop:=
 Rd H a (.tup xs) ∨
  ∃(o:Obj) (its:Array Aa) (n:Nat),K.lookup a=some o/\o.cls=.type "tuple"/\o.data=.seq its n/\its.size<=sizeLine/\Vals xs its.toList
def absV:Aa->Option V
 |.none=>some .non
 |.bool b=>some (.bl b)
 |.int i _=>some (.int i)
 |.str x _=>some (.str x)
 |.bytes b _=>some (.byt b)
 |.float b _=>some (.flt b)
 |.ref a=>some (.ref a)
 |.type n=>some (.ty n)
 |_=>none
theorem RelV.abs{x:V}{u:Aa}(r:RelV x u):absV u=some x:=by
 cases x with
 |non=>cases r;rfl
 |bl _=>cases r;rfl
 |int _=>obtain⟨t,rfl⟩:=r;rfl
 |str _=>obtain⟨t,rfl⟩:=r;rfl
 |byt _=>obtain⟨t,rfl⟩:=r;rfl
 |flt _=>obtain⟨t,rfl⟩:=r;rfl
 |ref _=>cases r;rfl
 |ty _=>cases r;rfl
theorem RelV.inj{x y:V}{u:Aa}(r:RelV x u)(q:RelV y u):x=y:=a_9 (r.abs.symm.trans q.abs)
theorem Vals.inj:∀{xs ys:List V} {us:List Aa},Vals xs us->Vals ys us->xs=ys
 |_,_,_,.nil,.nil=>rfl
 |_,_,_,.cons r t,.cons r' t'=>by rw[r.inj r',Vals.inj t t']
section
variable{X:Cx}{pins:List (Addr × Obj)}{σ:St}{H:Hp}{s:Ab}{a:Addr}{xs ys:List V}
theorem SqL.of{K:F__}(h:H a=some (.lst xs)):SqL K H a xs:=.inl (.inl h)
theorem SqT.of{K:F__}(h:H a=some (.tup xs)):SqT K H a xs:=.inl (.inl h)
theorem Inv.list(I:Inv X pins σ H s)(h:SqL X.K H a xs):∃its:List Aa,Vals xs its/\PlainL s.heap a its.toArray/\xs.length<=sizeLine:=by
 rcases h with h|⟨o,its,n,hk,hc,hd,hs,hz,r⟩
 ·obtain⟨z,its,n,r,e⟩:=h.ok I.hok;exact⟨its,r,⟨_,n,e,rfl,rfl,rfl⟩,z⟩
 ·refine⟨its.toList,r,⟨o,n,I.kIn a o hk,hc,hd,by simpa using hs⟩,?_⟩;have e:=r.length;simp only[aH'] at e;omega
theorem Inv.tuple(I:Inv X pins σ H s)(h:SqT X.K H a xs):∃its:List Aa,Vals xs its/\IsTup s.heap a its.toArray/\xs.length<=sizeLine:=by
 rcases h with h|⟨o,its,n,hk,hc,hs,hz,r⟩
 ·obtain⟨z,its,r,p,_⟩:=h.ok I.hok;exact⟨its,r,p,z⟩
 ·refine⟨its.toList,r,⟨o,I.kIn a o hk,hc,n,by simpa using hs⟩,?_⟩;have e:=r.length;simp only[aH'] at e;omega
theorem Inv.list_inj(I:Inv X pins σ H s)(h:SqL X.K H a xs)(h':SqL X.K H a ys):xs=ys:=by
 obtain⟨its,r,⟨o,n,e,_,_,d⟩,_⟩:=I.list h;obtain⟨its',r',⟨o',n',e',_,_,d'⟩,_⟩:=I.list h';rw[e] at e';cases e';rw[d] at d'
 injection d' with d1 _
 have:its=its':=by simpa using b_5 Array.toList d1
 subst this;exact r.inj r'
theorem Inv.tuple_inj(I:Inv X pins σ H s)(h:SqT X.K H a xs)(h':SqT X.K H a ys):xs=ys:=by
 obtain⟨its,r,⟨o,e,_,n,d⟩,_⟩:=I.tuple h;obtain⟨its',r',⟨o',e',_,n',d'⟩,_⟩:=I.tuple h';rw[e] at e';cases e';rw[d] at d'
 injection d' with d1 _
 have:its=its':=by simpa using b_5 Array.toList d1
 subst this;exact r.inj r'
end
abbrev Cx.wish(X:Cx)(E:Aa->Ab->Prop):Cx:={ X with xe:=E }
abbrev Cx.nox(X:Cx):Cx:=X.wish λ_ _=>False
theorem Cx.Ok.wish{X:Cx}(ok:X.Ok)(E:Aa->Ab->Prop):(X.wish E).Ok:=
 ⟨ok.mod,ok.kind,ok.glob,ok.blt,ok.above,ok.inj,ok.has,ok.cab,ok.hd,ok.frames,ok.stk,ok.exf,ok.bs,ok.bsz,ok.noex,ok.exfs,ok.funs,ok.frf⟩
theorem Cx.Ok.unwish{X:Cx}{E:Aa->Ab->Prop}(ok:(X.wish E).Ok):X.Ok:=
 ⟨ok.mod,ok.kind,ok.glob,ok.blt,ok.above,ok.inj,ok.has,ok.cab,ok.hd,ok.frames,ok.stk,ok.exf,ok.bs,ok.bsz,ok.noex,ok.exfs,ok.funs,ok.frf⟩
section
variable{X:Cx}{pins:List (Addr × Obj)}{σ:St}{H:Hp}{s:Ab}{E:Aa->Ab->Prop}
theorem Inv.wish(I:Inv X pins σ H s)(E:Aa->Ab->Prop):Inv (X.wish E) pins σ H s:=⟨I.ok.wish E,I.os,I.bare,I.base,I.loc,I.cell,I.free,I.freeC,I.pin,I.hok,I.len⟩
theorem Inv.unwish(I:Inv (X.wish E) pins σ H s):Inv X pins σ H s:=⟨I.ok.unwish,I.os,I.bare,I.base,I.loc,I.cell,I.free,I.freeC,I.pin,I.hok,I.len⟩
theorem SP.unwish{D:Ends}{f:Flow}{s':Ab}(h:SP (X.wish E) pins D f s'):SP X pins D f s':=by
 cases f with
 |next=>obtain⟨σ',H',I,q⟩:=h;exact⟨σ',H',I.unwish,q⟩
 |brk=>obtain⟨σ',H',I,q⟩:=h;exact⟨σ',H',I.unwish,q⟩
 |cont=>obtain⟨σ',H',I,q⟩:=h;exact⟨σ',H',I.unwish,q⟩
 |ret u=>obtain⟨v,σ',H',I,r,q⟩:=h;exact⟨v,σ',H',I.unwish,r,q⟩
theorem PSs.nox{st:List Stmt}{t:TS}(h:PSs X.nox st t):PSs X st t:=λpins s σ H D I hw=>
 wpAny_mono (h pins s σ H D (I.wish _) hw) (λ_ _ q=>q.unwish) λ_ _ z=>False.elim z
end
section
variable{X:Cx}{st:Stmt}{rest:List Stmt}{t u:TS}{e:Expr}{te:TE}{pos:Pos}
def tNext:TS:=λD σ H=>D.nx σ H
def tSeq(t u:TS):TS:=λD σ H=>t { D with nx:=u D } σ H
theorem ad_:PSs X [] tNext:=λ_ _ σ H _ I h=>wpAny_execs_nil ⟨σ,H,I,h⟩
theorem a3_(h1:PS X st t)(h2:PSs X rest u):PSs X (st::rest) (tSeq t u):=by
 intro pins s σ H D I h;refine wpAny_execs_cons (thn (h1 pins s σ H { D with nx:=u D } I h) λf s1 q=>?_);cases f with
 |next=>
  obtain⟨σ',H',I',q⟩:=q;exact h2 pins s1 σ' H' D I' q
 |ret v=>exact q
 |brk=>exact q
 |cont=>exact q
theorem a4_(h1:PS X st t):PSs X [st] t:=by
 intro pins s σ H D I h;refine wpAny_execs_cons (thn (h1 pins s σ H D I h) λf s1 q=>?_);cases f with
 |next=>exact wpAny_execs_nil q
 |ret v=>exact q
 |brk=>exact q
 |cont=>exact q
theorem Inv.quiet{pins:List (Addr × Obj)}{σ:St}{H:Hp}{s:Ab}(I:Inv X pins σ H s):interactive X.env=false:=by simp[interactive,I.ok.kind]
def tDrop(te:TE):TS:=λD σ H=>te σ H λ_ H1=>D.nx σ H1
theorem aV_(he:PE X e te)(hs:swapsWith e none pos.line X.env=pure false:=by rfl):PS X (.Expr e pos) (tDrop te):=by
 intro pins s σ H D I h;exact wpAny_Expr_any (thn (he pins s σ H _ I h) λv s1 ⟨x,H1,I1,r1,q1⟩=>⟨σ,H1,I1,q1⟩) I.quiet hs
def tRet(te:TE):TS:=λD σ H=>te σ H D.rt
theorem aa_(he:PE X e te):PS X (.Return (some e) pos) (tRet te):=by
 intro pins s σ H D I h;exact wpAny_Return_some (thn (he pins s σ H _ I h) λv s1 ⟨x,H1,I1,r1,q1⟩=>⟨x,σ,H1,I1,r1,q1⟩)
def tIfS(c:TT)(t u:TS):TS:=λD σ H=>c σ H λb H1=>if b=true then t D σ H1 else u D σ H1
theorem aj_{c:Expr}{a b:List Stmt}{tc:TT}(hc:PT X c tc)(ha:PSs X a t)(hb:PSs X b u):PS X (.If c a b pos) (tIfS tc t u):=by
 intro pins s σ H D I h;refine wpAny_If (thn (hc pins s σ H _ I h) λd s1 ⟨H1,I1,q1⟩=>?_);cases d with
 |true=>exact ha pins s1 σ H1 D I1 q1
 |false=>exact hb pins s1 σ H1 D I1 q1
def tNever:TS:=λ_ _ _=>False
theorem ac_{sts:List Stmt}:PSs X sts tNever:=λ_ _ _ _ _ _ h=>h.elim
end
abbrev TG:=V->St->Hp->(St->Hp->Prop)->Prop
abbrev TGs:=List V->St->Hp->(St->Hp->Prop)->Prop
def PG(X:Cx)(target:Expr)(t:TG):Prop:=
 ∀(pins:List (Addr × Obj)) (s:Ab) (σ:St) (H:Hp) (v:V) (u:Aa) (Q:St->Hp->Prop),Inv X pins σ H s->RelV v u->t v σ H Q->
  wpAny (model X.prog X.w) X.A (assign target X.env u) (λ_ s'=>∃σ' H',Inv X pins σ' H' s'/\Q σ' H') X.xe s
def PGs(X:Cx)(ts:List Expr)(t:TGs):Prop:=
 ∀(pins:List (Addr × Obj)) (s:Ab) (σ:St) (H:Hp) (vs:List V) (us:List Aa) (Q:St->Hp->Prop),Inv X pins σ H s->Vals vs us->t vs σ H Q->
  wpAny (model X.prog X.w) X.A (assignInOrder ((assignEach ts X.env).map (·.2)) us) (λ_ s'=>∃σ' H',Inv X pins σ' H' s'/\Q σ' H') X.xe s
abbrev TSet:=V->V->V->Hp->(Hp->Prop)->Prop
def PSet(X:Cx)(t:TSet):Prop:=
 ∀(pins:List (Addr × Obj)) (s:Ab) (σ:St) (H:Hp) (o i v:V) (ov iv u:Aa) (Q:Hp->Prop),Inv X pins σ H s->RelV o ov->RelV i iv->RelV v u->t o i v H Q->
  wpAny (model X.prog X.w) X.A (setItem ov iv u) (λ_ s'=>∃H',Inv X pins σ H' s'/\Q H') X.xe s
section
variable{X:Cx}{pos:Pos}
def bM'(i:Nat):TG:=λv σ H Q=>Q (σ.set i (some v)) H
theorem a9_{i:Nat}{x:Str}(hN:X.N.Nodup)(hi:X.N[i]? = some x)(hx:Loc X.env.scope x)(hf:X.fn x=true∨X.env.scope.names.lookup x=some .local:=by first|exact .inl rfl|exact .inr rfl|assumption):PG X (.Name x pos) (bM' i):=by
 intro pins s σ H v u Q I r h;exact wpAny_assign_Name (cl_ I hN hi hx r (λs' I'=>⟨_,H,I',h⟩) hf)
def gNil:TGs:=λvs σ H Q=>vs=[]/\Q σ H
inductive cg' (t:TG) (u:TGs) (vs:List V) (σ:St) (H:Hp) (Q:St->Hp->Prop):Prop
 |mk:∀v r,vs=v::r->(t v σ H λσ' H'=>u r σ' H' Q)->cg' t u vs σ H Q
theorem aN_:PGs X [] gNil:=by
 intro pins s σ H vs us Q I r h;obtain⟨e,h⟩:=h;subst e;cases r;exact assignInOrder_nil ⟨σ,H,I,h⟩
theorem ae_{e:Expr}{es:List Expr}{t:TG}{u:TGs}(h1:PG X e t)(h2:PGs X es u)
  (hs:(assignEach (e::es) X.env).map (·.2)=assign e X.env::(assignEach es X.env).map (·.2):=by rfl):PGs X (e::es) (cg' t u):=by
 intro pins s σ H vs us Q I r h;obtain⟨v,vr,e1,h⟩:=h;subst e1;cases r with
 |cons r rr=>
  rw[hs];refine assignInOrder_cons (thn (h1 pins s σ H _ _ _ I r h) λ_ s1 ⟨σ1,H1,I1,q1⟩=>?_);exact h2 pins s1 σ1 H1 _ _ Q I1 rr q1
inductive gTup (K:F__) (n:Nat) (t:TGs) (v:V) (σ:St) (H:Hp) (Q:St->Hp->Prop):Prop
 |mk:∀a xs,v=.ref a->SqT K H a xs->xs.length=n->t xs σ H Q->gTup K n t v σ H Q
theorem bq_{es:List Expr}{k:Nat}{t:TGs}{n:Nat}(hc:X.calm=true)(h:PGs X es t)
  (hn:(assignEach es X.env).length=n:=by rfl) (hst:(assignEach es X.env).findIdx? (·.1)=none:=by rfl):PG X (.Tuple es k pos) (gTup X.K n t):=by
 intro pins s σ H v u Q I r hw;obtain⟨a,xs,e1,hq,hl,hw⟩:=hw;subst e1;cases r;obtain⟨its,rv,ht,hz⟩:=I.tuple hq;refine assign_Tuple_tuple (I.ok.hd hc) ht (by simp[hn,<- hl,rv.length]) hst λh' hx=>?_;have I1:Inv X pins σ H { s with heap:=h' }:=I.kept (t':=s.toks) λb o e=>hx b o (aj' (a_2 e)) e;exact h pins _ σ H xs _ Q I1 (by simpa using rv) hw
def gSub(to ti:TE)(t:TSet):TG:=λv σ H Q=>to σ H λo H1=>ti σ H1 λi H2=>t o i v H2 λH3=>Q σ H3
theorem gm_{o i:Expr}{to ti:TE}{t:TSet}(ho:PE X o to)(hi:PE X i ti)(hs:PSet X t)
  (ha:∀v,assign (.Subscript o i pos) X.env v=(do
   let ov <- holding [v] (eval o X.env)
   let iv <- holding [v,ov] (eval i X.env)
   standAt pos
   holding [v,ov,iv] (setItem ov iv v)
   release [v,ov,iv] []):=by intro _;rfl):PG X (.Subscript o i pos) (gSub to ti t):=by
 intro pins s σ H v u Q I r h;rw[ha];refine a__ (b_3 (thn (ho pins s σ H _ I h) λov s1 ⟨x,H1,I1,r1,q1⟩=>?_));refine a__ (b_3 (thn (hi pins s1 σ H1 _ I1 q1) λiv s2 ⟨y,H2,I2,r2,q2⟩=>?_));refine a__ (wpAny_standAt (a__ (b_3 (thn (hs pins s2 σ H2 x y v ov iv u _ I2 r1 r2 r q2) λ_ s3 ⟨H3,I3,q3⟩=>?_))));exact wpAny_release ⟨σ,H3,I3,q3⟩
def tAsg(te:TE)(g:TG):TS:=λD σ H=>te σ H λx H1=>g x σ H1 D.nx
theorem dy_{tg e:Expr}{te:TE}{g:TG}(he:PE X e te)(hg:PG X tg g)(hs:swapsWithSole [tg] e pos.line X.env=pure false:=by rfl)(hw:swappedStores [tg] e X.env=pure none:=by rfl)
  (h1:(assignEach [tg] X.env).map (·.2)=[assign tg X.env]:=by rfl):PS X (.Assign [tg] e pos) (tAsg te g):=by
 intro pins s σ H D I h;refine wpAny_Assign_stores (thn (he pins s σ H _ I h) λv s1 ⟨x,H1,I1,r1,q1⟩=>?_) hs hw;rw[h1];exact thn (hg pins s1 σ H1 x v _ I1 r1 q1) λ_ s2 q=>q
theorem ab_{i:Nat}{x:Str}{e:Expr}{te:TE}{pos':Pos}(hN:X.N.Nodup)(hi:X.N[i]? = some x)(hx:Loc X.env.scope x)(he:PE X e te)(hs:swapsWith e (some (.Name x pos')) pos.line X.env=pure false:=by rfl)(hf:X.fn x=true∨X.env.scope.names.lookup x=some .local:=by first|exact .inl rfl|exact .inr rfl|assumption) :
  PS X (.Assign [.Name x pos'] e pos) (tAsg te (bM' i)):=by
 intro pins s σ H D I h;refine wpAny_Assign_Name (thn (he pins s σ H _ I h) λv s1 ⟨y,H1,I1,r1,q1⟩=>?_) hs;exact cl_ I1 hN hi hx r1 (λs2 I2=>⟨_,H1,I2,q1⟩) hf
end
section
variable{X:Cx}{pos:Pos}
def tWhile(c:TT)(tb:TS):TS:=λD σ H=>∃W:Nat->St->Hp->Prop,(∃m,W m σ H)/\∀m σ H,W m σ H->
 c σ H λb H1=>if b=true then ∃N:St->Hp->Prop,(∀σ' H',N σ' H'->∃m',m'<m/\W m' σ' H')/\tb { D with nx:=N,ct:=N,bk:=D.nx } σ H1 else D.nx σ H1
theorem gR_{c:Expr}{body:List Stmt}{tc:TT}{tb:TS}(hp:PassesOwn (model X.prog X.w) X.A X.env X.xe)(hc:PT X c tc)(hb:PSs X body tb):PS X (.While c body [] pos) (tWhile tc tb):=by
 intro pins s σ H D I h;obtain⟨W,⟨m0,w0⟩,turn⟩:=h;refine wpAny_While (codeAny_whileLoop (λn s'=>∃σ' H',Inv X pins σ' H' s'/\W n σ' H') ?_ m0 ⟨σ,H,I,w0⟩);rintro n s1 ⟨σ1,H1,I1,w1⟩;refine wpAny_passesOwn hp (thn (hc pins s1 σ1 H1 _ I1 (turn n σ1 H1 w1)) λb s2 ⟨H2,I2,q2⟩=>?_);cases b with
 |true=>
  obtain⟨N,hN,q2⟩:=q2;rw[a_8 rfl];refine wpAny_passesOwn hp (thn (hb pins s2 σ1 H2 _ I2 q2) λf s3 q3=>?_);cases f with
  |next=>
   obtain⟨σ3,H3,I3,n3⟩:=q3;obtain⟨m',hm,w3⟩:=hN σ3 H3 n3;exact⟨m',hm,σ3,H3,I3,w3⟩
  |cont=>
   obtain⟨σ3,H3,I3,n3⟩:=q3;obtain⟨m',hm,w3⟩:=hN σ3 H3 n3;exact⟨m',hm,σ3,H3,I3,w3⟩
  |brk=>exact q3
  |ret v=>exact q3
 |false=>
  rw[a_6 am'];exact wpAny_execs_nil ⟨σ1,H2,I2,q2⟩
end
structure It where
 go:Nat->Hp->Prop
 yld:Nat->Hp->V->Hp->Prop
 stop:Nat->Hp->Prop
def FpOk(X:Cx)(pins:List (Addr × Obj))(H:Hp)(b:Addr):Prop:=
 H b=none/\b≠X.env.locals/\b∉X.fs/\(b∈X.ex∨X.s₀.heap.objs.size<=b)/\(∀x c,X.env.cells.lookup x=some c->c≠b)/\∀p∈X.pn++pins,p.1≠b
variable{σ:St}
theorem Inv.fpOk{X:Cx}{pins:List (Addr × Obj)}{H H':Hp}{s:Ab}(I:Inv X pins σ H s)(hb:s.heap.objs.size<=b)(hn:H' b=none):FpOk X pins H' b:=by
 refine⟨hn,aE' (aq' I.lt hb),I.nofs hb,.inr (aV' I.sz hb),λx c e z=>?_,λp hp z=>?_⟩
 ·obtain⟨v,q⟩:=I.cell x c e;exact absurd (aq' q.lt (by rw[z];exact hb)) (aU' _)
 ·exact absurd (aq' (a_2 (I.pin p hp).1) (by rw[z];exact hb)) (aU' _)
structure Turn (P:Ad) (w:Af) (K:F__) (tg:Expr) (J:It) (fp:List Addr) (it:Addr) (tn:Nat->Heap->Prop):Prop where
 mem:it∈fp
 obj:∀i h,tn i h->∀b∈fp,∃o,h.get? b=some o/\∀v,o.data≠.cell v
 keep:∀i h h',tn i h->(∀b∈fp,∀o,h.get? b=some o->h'.get? b=some o)->tn i h'
 item:∀(X:Cx),X.prog=P->X.w=w->X.K=K->X.calm=true->∀(i:Nat) (pins:List (Addr × Obj)) (s:Ab) (σ:St) (H:Hp) (E:Aa->Ab->Prop),Inv X pins σ H s->(∀b∈fp,FpOk X pins H b)->tn i s.heap->J.go i H->
  wpAny (model P w) X.A (pyNext (.ref it)) (λr s1=>∃u,r=some u /\
   wpAny (model P w) X.A (letOwnedTupleGo tg (.ref it) u) (λ_ s2=>∃x H',Inv X pins σ H' s2/\RelV x u/\J.yld i H x H'/\tn (i+1) s2.heap/\∀b∈fp,H' b=none) E s1) E s
 done:∀(X:Cx),X.prog=P->X.w=w->X.K=K->X.calm=true->∀(i:Nat) (pins:List (Addr × Obj)) (s:Ab) (σ:St) (H:Hp) (E:Aa->Ab->Prop),Inv X pins σ H s->(∀b∈fp,FpOk X pins H b)->tn i s.heap->J.stop i H->
  wpAny (model P w) X.A (pyNext (.ref it)) (λr s1=>r=none/\Inv X pins σ H s1) E s
 self:∀(A:Ah) (i:Nat) (s:Ab) (Q:Aa->Ab->Prop) (E:Aa->Ab->Prop),tn i s.heap->Q (.ref it) s->wpAny (model P w) A (pyIter (.ref it)) Q E s
abbrev TI:=St->Hp->(It->Hp->Prop)->Prop
def PIE(X:Cx)(pins:List (Addr × Obj))(σ:St)(tg:Expr)(R:It->Hp->Prop)(itv:Aa)(s2:Ab):Prop:=
 ∃(it:Addr) (fp:List Addr) (tn:Nat->Heap->Prop) (J:It) (H':Hp),itv=.ref it/\Inv X pins σ H' s2/\Turn X.prog X.w X.K tg J fp it tn/\tn 0 s2.heap/\(∀b∈fp,FpOk X pins H' b)/\R J H'
def PI(X:Cx)(tg iter:Expr)(wi:TI):Prop:=
 ∀(pins:List (Addr × Obj)) (s:Ab) (σ:St) (H:Hp) (R:It->Hp->Prop),Inv X pins σ H s->wi σ H R->
  wpAny (model X.prog X.w) X.A (eval iter X.env) (λv s1=>wpAny (model X.prog X.w) X.A (pyIter v) (PIE X pins σ tg R) X.xe s1) X.xe s
variable{u:Aa}{tg:Expr}
theorem fw_{A:Ah}{E:Aa->Ab->Prop}{s:Ab}{it:Addr}{n:String}{vs:Array Aa}{Q:Unit->Ab->Prop}(ho:s.heap.get? it=some o)(hc:o.cls=.type n)(hd:o.data=.fields vs)(hn:["enumerate","zip","dict_itemiterator","dict_reverseitemiterator","odict_iterator","itertools.zip_longest","itertools.pairwise"].contains n=false)(hQ:Q () s):wpAny M A (letOwnedTupleGo tg (.ref it) u) Q E s:=by
 unfold letOwnedTupleGo
 cases tg<;>first
  |exact a_1 hQ
  |(cases u<;>first
    |exact a_1 hQ
    |(refine a__ (wpAny_load ho ?_)
      rw[hc,hd];show wpAny M A (if (["enumerate","zip","dict_itemiterator","dict_reverseitemiterator","odict_iterator","itertools.zip_longest","itertools.pairwise"].contains n&&vs[0]? == some (rawInt _))=true then _ else _) Q E s;rw[a_6 (by intro h;rw[hn,Bool.false_and] at h;cases h)];exact a_1 hQ))
def Itl(K:F__)(a:Addr):It:=
 ⟨λi H=>∃xs x,SqL K H a xs/\xs[i]? = some x,λi H x H'=>H'=H/\∀xs,SqL K H a xs->xs[i]? = some x,λi H=>∃xs,SqL K H a xs/\xs.length<=i⟩
def Itr(lo:Int)(n:Nat):It:=⟨λi _=>i<n,λi H x H'=>H'=H/\x=.int (lo+i),λi _=>n<=i⟩
variable{w:Af}
theorem gw_{K:F__}(a it:Addr):Turn P w K tg (Itl K a) [it] it (λi h=>h.IsListIter it a i) where
 mem:=by simp
 obj:=λi h st b hb=>by
  have e:b=it:=by simpa using hb
  subst e;obtain⟨o,e,c,d⟩:=st;exact⟨o,e,λv z=>by rw[d] at z;cases z⟩
 keep:=λi h h' st k=>st.at λo e=>k it Z2 o e
 item:=by
  intro X hP hw hK hc i pins s σ H E I hf st hg;subst hP hw hK;obtain⟨xs,x,hq,hx⟩:=hg;obtain⟨its,rv,p,hz⟩:=I.list hq;obtain⟨u,hu,ru⟩:=rv.get hx;obtain⟨f0,f1,f2,f3,f4,f5⟩:=hf it Z2;refine wpAny_pyNext_list_item st p.isList (x:=u) (by simpa using hu) λh' st' sb=>?_;have I1:Inv X pins σ H { s with heap:=h' }:=I.turned (t':=s.toks) (λb o hb e=>(sb.2 b hb).trans e) f0 f1 f3 f4 f5;obtain⟨o,e,c,d⟩:=id st';exact⟨u,rfl,fw_ (s:={ s with heap:=h' }) e c d (by decide) ⟨x,H,I1,ru,⟨rfl,λys hy=>by rw[I.list_inj hy hq];exact hx⟩,st',λb hb=>(hf b hb).1⟩⟩
 done:=by
  intro X hP hw hK hc i pins s σ H E I hf st hg;subst hP hw hK;obtain⟨xs,hq,hx⟩:=hg;obtain⟨its,rv,p,hz⟩:=I.list hq;obtain⟨f0,f1,f2,f3,f4,f5⟩:=hf it Z2;have hl:=rv.length;exact wpAny_pyNext_list_end (I.ok.hd hc) st p.isList (by simp;omega) λh' eb=>⟨rfl,I.turned (t':=s.toks) (λb o hb e=>eb b o hb e) f0 f1 f3 f4 f5⟩
 self:=λ_ _ _ _ _ st h=>wpAny_pyIter_listiter st h
theorem f6_{K:F__}(it:Addr)(lo:Int)(n:Nat):Turn P w K tg (Itr lo n) [it] it (λi h=>IsRangeIter h it (lo+(i:Nat) * 1) ((n:Int) - (i:Nat)) 1) where
 mem:=by simp
 obj:=λi h st b hb=>by
  have e:b=it:=by simpa using hb
  subst e
  exact⟨_,st,λv z=>by
   have z':Data.fields _=Data.cell v:=z;cases z'⟩
 keep:=λi h h' st k=>k it Z2 _ st
 item:=by
  intro X hP hw hK hc i pins s σ H E I hf st hg;subst hP hw hK;obtain⟨f0,f1,f2,f3,f4,f5⟩:=hf it Z2;have W:=Walks.range (prog:=X.prog) (w:=X.w) (I.ok.hd hc) it lo 1 n;refine W.item i s _ _ hg st λv h' tk hv st' kk=>?_;obtain⟨t,rfl⟩:=hv;have I1:Inv X pins σ H { s with heap:=h',toks:=tk }:=I.turned (λb o hb e=>kk b o (by simpa using hb) e) f0 f1 f3 f4 f5;refine⟨_,rfl,fw_ (s:={ s with heap:=h',toks:=tk }) (n:="range_iterator") st' rfl rfl (by decide) ⟨.int (lo+i),H,I1,⟨t,?_⟩,⟨rfl,rfl⟩,st',λb hb=>(hf b hb).1⟩⟩;rw[Int.mul_one]
 done:=by
  intro X hP hw hK hc i pins s σ H E I hf st hg;subst hP hw hK;obtain⟨f0,f1,f2,f3,f4,f5⟩:=hf it Z2;exact wpAny_pyNext_range_end (I.ok.hd hc) st (by have:n<=i:=hg;omega) λh' eb=>⟨rfl,I.turned (t':=s.toks) (λb o hb e=>eb b o hb e) f0 f1 f3 f4 f5⟩
 self:=λ_ _ _ _ _ st h=>wpAny_pyIter_rangeiter st h
inductive iListR (K:F__) (R:It->Hp->Prop) (x:V) (H1:Hp):Prop
 |mk:∀a,x=.ref a->(∃xs,SqL K H1 a xs)->R (Itl K a) H1->iListR K R x H1
def iList(K:F__)(tl:TE):TI:=λσ H R=>tl σ H λx H1=>iListR K R x H1
variable{X:Cx}
theorem au_{l:Expr}{tl:TE}(hl:PE X l tl):PI X tg l (iList X.K tl):=by
 intro pins s σ H R I h;refine thn (hl pins s σ H _ I h) λv s1 ⟨x,H1,I1,r1,q1⟩=>?_;obtain⟨a,e,⟨xs,hq⟩,q⟩:=q1;subst e;cases r1;obtain⟨its,rv,p,hz⟩:=I1.list hq;refine wpAny_pyIter_list p.isList ?_;refine⟨s1.heap.objs.size,[s1.heap.objs.size],_,_,H1,rfl,I1.kept (t':=s1.toks) λb o e=>a_0 _ e,gw_ a _,⟨_,a_3 _ rfl,rfl,rfl⟩,λb hb=>?_,q⟩;have e:b=s1.heap.objs.size:=by simpa using hb
 subst e;exact I1.fpOk (ae' _) (I1.hok.fresh (ae' _))
variable{pins:List (Addr × Obj)}{lo:Int}
theorem eW_{H:Hp}{s:Ab}{R:It->Hp->Prop}{E:Aa->Ab->Prop}{hi:Int}{t u v:Tok}{tk:Nat}(I:Inv X pins σ H s)(h1:-(2 ^ 62)<=lo)(h2:lo<2 ^ 62)(h3:-(2 ^ 62)<=hi)(h4:hi<2 ^ 62)(q:R (Itr lo (hi - lo).toNat) H):wpAny (model X.prog X.w) X.A (pyIter (.ref s.heap.objs.size)) (PIE X pins σ tg R) E { s with heap:=s.heap.push { cls:=.type "range",data:=.fields #[.int lo t,.int hi u,.int 1 v] },toks:=tk }:=by
 refine wpAny_pyIter_range (IsRange.new ..) (small_one h1 h2 h3 h4) ?_;have I1:Inv X pins σ H { s with heap:=s.heap.push { cls:=.type "range",data:=.fields #[.int lo t,.int hi u,.int 1 v] },toks:=tk }:=I.kept λb o e=>a_0 _ e
 refine⟨(s.heap.push { cls:=.type "range",data:=.fields #[.int lo t,.int hi u,.int 1 v] }).objs.size,[(s.heap.push { cls:=.type "range",data:=.fields #[.int lo t,.int hi u,.int 1 v] }).objs.size],_,_,H,rfl,
  I1.kept (t':=tk) λb o e=>a_0 _ e,f6_ _ lo (hi - lo).toNat,?_,λb hb=>?_,q⟩
 ·have e1:lo+((0:Nat):Int) * 1=lo:=by simp
  have e2:(((hi - lo).toNat:Nat):Int) - ((0:Nat):Int)=Builtin.Range.rangeSize lo hi 1:=by rw[rangeSize_one];split<;>omega
  show IsRangeIter _ _ (lo+((0:Nat):Int) * 1) ((((hi - lo).toNat:Nat):Int) - ((0:Nat):Int)) 1;rw[e1,e2];exact a_3 _ rfl
 ·have e:b=(s.heap.push { cls:=.type "range",data:=.fields #[.int lo t,.int hi u,.int 1 v] }).objs.size:=by simpa using hb
  subst e;exact I1.fpOk (ae' _) (I1.hok.fresh (ae' _))
inductive iRng1R (R:It->Hp->Prop) (vs:List V) (H1:Hp):Prop
 |mk:∀j:Int,vs=[.int j]->-(2 ^ 62)<=j->j<2 ^ 62->R (Itr 0 j.toNat) H1->iRng1R R vs H1
def iRng1(ta:TA):TI:=λσ H R=>ta σ H λvs H1=>iRng1R R vs H1
inductive iRng2R (R:It->Hp->Prop) (vs:List V) (H1:Hp):Prop
 |mk:∀i j:Int,vs=[.int i,.int j]->(-(2 ^ 62)<=i/\i<2 ^ 62/\-(2 ^ 62)<=j/\j<2 ^ 62)->R (Itr i (j - i).toNat) H1->iRng2R R vs H1
def iRng2(ta:TA):TI:=λσ H R=>ta σ H λvs H1=>iRng2R R vs H1
variable{p pos:Pos}{ta:TA}
theorem cC_{a:Expr}(hg:Gl X "range")(hm:X.mg "range"=none)(ha:PA X [a] ta)(hs:starEach [a] X.env=[(false,eval a X.env)]:=by rfl):PI X tg (.Call (.Name "range" p) [a] [] pos) (iRng1 ta):=by
 intro pins s σ H R I h;refine Call_ (cx_ I hg hm boot_range (PyProof.Rows.callWith_type1 (thn (ha pos pins s σ H _ I h) λus s1 ⟨vs,H1,I1,r1,q1⟩=>?_) hs rfl));obtain⟨j,e,q1,q2,q⟩:=q1;subst e;cases r1 with
 |cons r rr=>
  cases rr;obtain⟨t,rfl⟩:=r;exact call_range_1 (eW_ I1 Z1 Z1 q1 q2 (by simpa using q))
theorem fV_{a b:Expr}(hg:Gl X "range")(hm:X.mg "range"=none)(ha:PA X [a,b] ta)(hs:starEach [a,b] X.env=[(false,eval a X.env),(false,eval b X.env)]:=by rfl)(hs2:starEach [b] X.env=[(false,eval b X.env)]:=by rfl) :
  PI X tg (.Call (.Name "range" p) [a,b] [] pos) (iRng2 ta):=by
 intro pins s σ H R I h;refine Call_ (cx_ I hg hm boot_range (PyProof.Rows.callWith_type1 (thn (ha pos pins s σ H _ I h) λus s1 ⟨vs,H1,I1,r1,q1⟩=>?_) (by rw[hs,hs2]) (by rw[hs2];rfl)));obtain⟨i,j,e,⟨q1,q2,q3,q4⟩,q⟩:=q1;subst e;cases r1 with
 |cons r rr=>
  cases rr with
  |cons r' rr=>
   cases rr;obtain⟨t,rfl⟩:=r;obtain⟨t',rfl⟩:=r';exact call_range_2 (eW_ I1 q1 q2 q3 q4 q)
def tFor(wi:TI)(g:TG)(tb:TS):TS:=λD σ H=>wi σ H λJ H1=>∃W:Nat->Nat->St->Hp->Prop,(∃m,W 0 m σ H1)/\∀i m σ H,W i m σ H->
 (J.stop i H/\D.nx σ H)∨(J.go i H/\∃N:St->Hp->Prop,(∀σ' H',N σ' H'->∃m',m'<m/\W (i+1) m' σ' H')/\∀x H',J.yld i H x H'->g x σ H' λσ2 H2=>tb { D with nx:=N,ct:=N,bk:=D.nx } σ2 H2)
def cO'(fp:List Addr)(h:Heap):List (Addr × Obj):=fp.filterMap λb=>(h.get? b).map λo=>(b,o)
variable{fp:List Addr}
theorem bC_(hb:b∈fp)(e:h.get? b=some o):(b,o)∈cO' fp h:=ay'.mpr ⟨b,hb,by rw[e];rfl⟩
theorem fx_{p:Addr × Obj}(hp:p∈cO' fp h):p.1∈fp/\h.get? p.1=some p.2:=by
 obtain⟨b,hb,e⟩:=ay'.mp hp;cases q:h.get? b with
 |none=>rw[q] at e;cases e
 |some o=>
  rw[q] at e;have e':(b,o)=p:=a_9 e;subst e';exact⟨hb,q⟩
theorem Inv.pinned{H:Hp}{s:Ab}(I:Inv X pins σ H s)(hf:∀b∈fp,FpOk X pins H b)(ho:∀b∈fp,∃o,s.heap.get? b=some o/\∀v,o.data≠.cell v):Inv X (pins++cO' fp s.heap) σ H s:=
 I.pins_of λp hp=>(aA'.mp hp).elim (λz=>I.pin p (aB' _ z)) λz=>by
  obtain⟨hb,e⟩:=fx_ z;obtain⟨f0,f1,f2,_⟩:=hf p.1 hb;obtain⟨o,e',d⟩:=ho p.1 hb;rw[e] at e';cases e';exact⟨e,f0,f1,f2,d⟩
theorem Inv.unpinned{pl:List (Addr × Obj)}{H:Hp}{s:Ab}(I:Inv X (pins++pl) σ H s):Inv X pins σ H s:=I.pins_of λp hp=>I.pin p (aB' _ (List.mem_append_left _ hp))
variable{body:List Stmt}{tb:TS}
theorem aM_{iter:Expr}{wi:TI}{g:TG}(hp:PassesOwn (model X.prog X.w) X.A X.env X.xe)(hc:X.calm=true)(hi:PI X tg iter wi)(hg:PG X tg g)(hb:PSs X body tb)(hs:∀x,foldedSetIterable iter X.env x=pure x:=by intro _;rfl):PS X (.For tg iter body [] pos) (tFor wi g tb):=by
 intro pins s σ H D I h;refine wpAny_For (thn (hi pins s σ H _ I h) λv s1 h1=>thn h1 λitv s2 h2=>?_) hs;obtain⟨it,fp,tn,J,H2,e,I2,T,st2,f2,W,⟨m0,w0⟩,turn⟩:=h2;subst e;have stat:∀{H':Hp},(∀b∈fp,H' b=none)->∀b∈fp,FpOk X pins H' b:=λhn b hb=>⟨hn b hb,(f2 b hb).2⟩;refine codeAny_forLoop_any (λn s'=>∃i σ' H',Inv X pins σ' H' s'/\tn i s'.heap/\(∀b∈fp,H' b=none)/\W i n σ' H') ?_ m0 ⟨0,σ,H2,I2,st2,λb hb=>(f2 b hb).1,w0⟩;rintro n s3 ⟨i,σ3,H3,I3,st3,fr3,w3⟩;rcases turn i n σ3 H3 w3 with⟨stop,qn⟩|⟨go,N,hN,step⟩
 ·refine wpAny_passesOwn hp (thn (T.done X rfl rfl rfl hc i pins s3 σ3 H3 X.xe I3 (stat fr3) st3 stop) λr s4 ⟨hr,I4⟩=>?_);subst hr;exact wpAny_execs_nil ⟨σ3,H3,I4,qn⟩
 ·refine wpAny_passesOwn hp (thn (T.item X rfl rfl rfl hc i pins s3 σ3 H3 X.xe I3 (stat fr3) st3 go) λr s4 ⟨u,hr,h4⟩=>?_);subst hr;refine wpAny_passesOwn hp (thn h4 λ_ s5 ⟨x,H5,I5,r5,y5,st5,fr5⟩=>?_);have I5':=I5.pinned (stat fr5) (T.obj _ _ st5);refine wpAny_passesOwn hp (thn (hg _ s5 σ3 H5 x u _ I5' r5 (step x H5 y5)) λ_ s6 ⟨σ6,H6,I6,q6⟩=>?_);refine wpAny_passesOwn hp (thn (hb _ s6 σ6 H6 _ I6 q6) λf s7 q7=>?_)
  have again:∀{σ7:St} {H7:Hp},Inv X (pins++cO' fp s5.heap) σ7 H7 s7->N σ7 H7->∃m,m<n/\∃i σ' H',Inv X pins σ' H' s7/\tn i s7.heap/\(∀b∈fp,H' b=none)/\W i m σ' H':=λ{σ7 H7} I7 n7=>by
   obtain⟨m',hm,w7⟩:=hN σ7 H7 n7;refine⟨m',hm,i+1,σ7,H7,I7.unpinned,T.keep _ _ _ st5 λb hb o e=>(I7.pin (b,o) (aB' _ (aB' _ (bC_ hb e)))).1,λb hb=>?_,w7⟩;obtain⟨o,e,d⟩:=T.obj _ _ st5 b hb;exact (I7.pin (b,o) (aB' _ (aB' _ (bC_ hb e)))).2.1
  cases f with
  |next=>obtain⟨σ7,H7,I7,n7⟩:=q7;exact again I7 n7
  |cont=>obtain⟨σ7,H7,I7,n7⟩:=q7;exact again I7 n7
  |brk=>obtain⟨σ7,H7,I7,q7⟩:=q7;exact⟨σ7,H7,I7.unpinned,q7⟩
  |ret v=>obtain⟨x7,σ7,H7,I7,r7,q7⟩:=q7;exact⟨x7,σ7,H7,I7.unpinned,r7,q7⟩
theorem aQ_{K:F__}{xs:List V}{g:TG}{D:Ends}{H:Hp}(Pv:Nat->St->Hp->Prop)(h0:Pv 0 σ H)(hl:∀i σ H,i<=xs.length->Pv i σ H->SqL K H a xs)(hs:∀i x σ H,xs[i]? = some x->Pv i σ H->g x σ H λσ2 H2=>tb { D with nx:=Pv (i+1),ct:=Pv (i+1),bk:=D.nx } σ2 H2)(hd:∀σ H,Pv xs.length σ H->D.nx σ H) :
  ∃W:Nat->Nat->St->Hp->Prop,(∃m,W 0 m σ H)/\∀i m σ H,W i m σ H->
   ((Itl K a).stop i H/\D.nx σ H)∨((Itl K a).go i H/\∃N:St->Hp->Prop,(∀σ' H',N σ' H'->∃m',m'<m/\W (i+1) m' σ' H')/\∀x H',(Itl K a).yld i H x H'->g x σ H' λσ2 H2=>tb { D with nx:=N,ct:=N,bk:=D.nx } σ2 H2):=by
 refine⟨λi m σ H=>m=xs.length - i/\i<=xs.length/\Pv i σ H,⟨xs.length,by simp,aC' _,h0⟩,?_⟩;rintro i m σ H ⟨rfl,hi,p⟩;have q:=hl i σ H hi p;by_cases hlt:i<xs.length
 ·refine .inr ⟨⟨xs,xs[i],q,by simp[hlt]⟩,Pv (i+1),λσ' H' p'=>⟨xs.length - (i+1),by omega,rfl,hlt,p'⟩,λx H' y=>?_⟩;obtain⟨e,y⟩:=y;subst e;exact hs i x σ _ (y xs q) p
 ·have e:i=xs.length:=by omega
  subst e;exact .inl ⟨⟨xs,q,ae' _⟩,hd σ H p⟩
variable{n:Nat}
theorem bU_{g:TG}{D:Ends}{H:Hp}(Pv:Nat->St->Hp->Prop)(h0:Pv 0 σ H)(hs:∀i σ H,i<n->Pv i σ H->g (.int (lo+i)) σ H λσ2 H2=>tb { D with nx:=Pv (i+1),ct:=Pv (i+1),bk:=D.nx } σ2 H2)(hd:∀σ H,Pv n σ H->D.nx σ H) :
  ∃W:Nat->Nat->St->Hp->Prop,(∃m,W 0 m σ H)/\∀i m σ H,W i m σ H->
   ((Itr lo n).stop i H/\D.nx σ H)∨((Itr lo n).go i H/\∃N:St->Hp->Prop,(∀σ' H',N σ' H'->∃m',m'<m/\W (i+1) m' σ' H')/\∀x H',(Itr lo n).yld i H x H'->g x σ H' λσ2 H2=>tb { D with nx:=N,ct:=N,bk:=D.nx } σ2 H2):=by
 refine⟨λi m σ H=>m=n - i/\i<=n/\Pv i σ H,⟨n,by simp,aC' _,h0⟩,?_⟩;rintro i m σ H ⟨rfl,hi,p⟩;by_cases hlt:i<n
 ·refine .inr ⟨hlt,Pv (i+1),λσ' H' p'=>⟨n - (i+1),by omega,rfl,hlt,p'⟩,λx H' y=>?_⟩;obtain⟨e,y⟩:=y;subst e y;exact hs i σ _ hlt p
 ·have e:i=n:=by omega
  subst e;exact .inl ⟨ae' _,hd σ H p⟩
theorem hx_{c:TT}{D:Ends}{H:Hp}(Pv:St->Hp->Prop)(μ:St->Hp->Nat)(h0:Pv σ H)(hs:∀σ H,Pv σ H->c σ H λb H1=>if b=true then tb { D with nx:=λσ' H'=>Pv σ' H'/\μ σ' H'<μ σ H,ct:=λσ' H'=>Pv σ' H'/\μ σ' H'<μ σ H,bk:=D.nx } σ H1 else D.nx σ H1)(mono:∀σ H Q Q',(∀b H1,Q b H1->Q' b H1)->c σ H Q->c σ H Q'):tWhile c tb D σ H:=by
 refine⟨λm σ H=>m=μ σ H/\Pv σ H,⟨_,rfl,h0⟩,?_⟩;rintro m σ H ⟨rfl,p⟩;refine mono σ H _ _ (λb H1 q=>?_) (hs σ H p);cases b with
 |true=>exact⟨_,λσ' H' ⟨p',l⟩=>⟨_,l,rfl,p'⟩,q⟩
 |false=>exact q
abbrev R2:=V->V->Hp->VK->Prop
def OpR(X:Cx)(f:Aa->Aa->Sem Aa)(r:R2):Prop:=
 ∀(pins:List (Addr × Obj)) (s:Ab) (σ:St) (H:Hp) (x y:V) (v u:Aa) (Q:VK),Inv X pins σ H s->RelV x v->RelV y u->r x y H Q->
  wpAny (model X.prog X.w) X.A (f v u) (EP X pins σ Q) X.xe s
def UnR(X:Cx)(f:Aa->Sem Aa)(r:V->Hp->VK->Prop):Prop:=
 ∀(pins:List (Addr × Obj)) (s:Ab) (σ:St) (H:Hp) (x:V) (v:Aa) (Q:VK),Inv X pins σ H s->RelV x v->r x H Q->
  wpAny (model X.prog X.w) X.A (f v) (EP X pins σ Q) X.xe s
def bc'(X:Cx)(f:Aa)(r:List V->Hp->VK->Prop):Prop:=
 ∀(pins:List (Addr × Obj)) (s:Ab) (σ:St) (H:Hp) (xs:List V) (us:List Aa) (Q:VK),Inv X pins σ H s->Vals xs us->r xs H Q->
  wpAny (model X.prog X.w) X.A (call f us) (EP X pins σ Q) X.xe s
def tOp(r:R2)(ta tb:TE):TE:=λσ H Q=>ta σ H λx H1=>tb σ H1 λy H2=>r x y H2 Q
def tUn(r:V->Hp->VK->Prop)(ta:TE):TE:=λσ H Q=>ta σ H λx H1=>r x H1 Q
inductive rI (C:Int->Int->Prop) (g:Int->Int->V) (x:V) (y:V) (H:Hp) (Q:VK):Prop
 |mk:∀i j,x=.int i->y=.int j->C i j->Q (g i j) H->rI C g x y H Q
inductive rI0 (g:Int->Int->V) (x:V) (y:V) (H:Hp) (Q:VK):Prop
 |mk:∀i j,x=.int i->y=.int j->Q (g i j) H->rI0 g x y H Q
inductive rU (g:Int->V) (x:V) (H:Hp) (Q:VK):Prop
 |mk:∀i,x=.int i->Q (g i) H->rU g x H Q
section
variable{X:Cx}{a b c:Expr}{ta tb tc:TE}{pos:Pos}
theorem binT(ha:PE X a ta)(hb:PE X b tb){s:Ab}{H:Hp}{R:V->V->Hp->Prop}(I:Inv X pins σ H s)(h:ta σ H λx H1=>tb σ H1 λy H2=>R x y H2){Q:Aa->Ab->Prop}{f:Aa->Aa->Sem Aa}(hf:∀v u s2 x y H2,Inv X pins σ H2 s2->RelV x v->RelV y u->R x y H2->wpAny (model X.prog X.w) X.A (f v u) Q X.xe s2) :
  wpAny (model X.prog X.w) X.A (eval a X.env) (λv s₁=>wpAny (model X.prog X.w) X.A (eval b X.env) (λu s₂=>wpAny (model X.prog X.w) X.A (f v u) Q X.xe s₂) X.xe s₁) X.xe s:=by
 refine thn (ha pins s σ H _ I h) λv s1 ⟨x,H1,I1,r1,q1⟩=>?_;refine thn (hb pins s1 σ H1 _ I1 q1) λu s2 ⟨y,H2,I2,r2,q2⟩=>?_;exact hf v u s2 x y H2 I2 r1 r2 q2
theorem al_{op:Operator}{r:R2}(ho:OpR X (binaryOp op) r)(ha:PE X a ta)(hb:PE X b tb):PE X (.BinOp a op b pos) (tOp r ta tb):=by
 intro pins s σ H Q I h;exact wpAny_BinOp (binT ha hb I h λv u s2 x y H2 I2 rx ry q=>ho pins s2 σ H2 x y v u Q I2 rx ry q)
theorem jF_{op:UnaryOp}{r:V->Hp->VK->Prop}(ho:UnR X (unaryOp op) r)(ha:PE X a ta):PE X (.UnaryOp op a pos) (tUn r ta):=by
 intro pins s σ H Q I h;exact UnaryOp_ (thn (ha pins s σ H _ I h) λv s1 ⟨x,H1,I1,r1,q1⟩=>ho pins s1 σ H1 x v Q I1 r1 q1)
theorem opI{f:Aa->Aa->Sem Aa}{C:Int->Int->Prop}{g:Int->Int->Int}
  (rule:∀(i j:Int) (t u:Tok) (s:Ab) (Q:Aa->Ab->Prop) (E:Aa->Ab->Prop),C i j->Q (.int (g i j) s.toks) { s with toks:=s.toks+1 }->wpAny (model X.prog X.w) X.A (f (.int i t) (.int j u)) Q E s) :
  OpR X f (rI C λi j=>.int (g i j)):=by
 intro pins s σ H x y v u Q I rx ry h;obtain⟨i,j,rfl,rfl,hc,q⟩:=h;obtain⟨t,rfl⟩:=rx;obtain⟨t',rfl⟩:=ry;exact rule i j t t' s _ _ hc ⟨.int (g i j),H,I.tok _,⟨_,rfl⟩,q⟩
theorem opI0{f:Aa->Aa->Sem Aa}{g:Int->Int->Int}
  (rule:∀(i j:Int) (t u:Tok) (s:Ab) (Q:Aa->Ab->Prop) (E:Aa->Ab->Prop),Q (.int (g i j) s.toks) { s with toks:=s.toks+1 }->wpAny (model X.prog X.w) X.A (f (.int i t) (.int j u)) Q E s) :
  OpR X f (rI0 λi j=>.int (g i j)):=by
 intro pins s σ H x y v u Q I rx ry h;obtain⟨i,j,rfl,rfl,q⟩:=h;obtain⟨t,rfl⟩:=rx;obtain⟨t',rfl⟩:=ry;exact rule i j t t' s _ _ ⟨.int (g i j),H,I.tok _,⟨_,rfl⟩,q⟩
theorem opB0{f:Aa->Aa->Sem Aa}{g:Int->Int->Bool}
  (rule:∀(i j:Int) (t u:Tok) (s:Ab) (Q:Aa->Ab->Prop) (E:Aa->Ab->Prop),Q (.bool (g i j)) s->wpAny (model X.prog X.w) X.A (f (.int i t) (.int j u)) Q E s) :
  OpR X f (rI0 λi j=>.bl (g i j)):=by
 intro pins s σ H x y v u Q I rx ry h;obtain⟨i,j,rfl,rfl,q⟩:=h;obtain⟨t,rfl⟩:=rx;obtain⟨t',rfl⟩:=ry;exact rule i j t t' s _ _ ⟨.bl (g i j),H,I,rfl,q⟩
def CDiv(i j:Int):Prop:=0<j/\j<1073741824
def CPow(i j:Int):Prop:=0<=j/\j<=1000000/\i.natAbs<2 ^ 64
def CMul(i j:Int):Prop:=(-(2 ^ 64)<i/\i<2 ^ 64)∨(-(2 ^ 64)<j/\j<2 ^ 64)
theorem CMul.ok{i j:Int}(h:CMul i j):IntMulOk i j:=by
 rcases h with⟨h1,h2⟩|⟨h1,h2⟩
 ·exact .of_left (intBits_le_64 h1 h2)
 ·exact .of_right (intBits_le_64 h1 h2)
theorem b4_:OpR X (binaryOp .Add) (rI0 λi j=>.int (i+j)):=opI0 λ_ _ _ _ _ _ _ q=>add_int q
theorem gN_:OpR X (binaryOp .Sub) (rI0 λi j=>.int (i - j)):=opI0 λ_ _ _ _ _ _ _ q=>sub_int q
theorem cd_:OpR X (binaryOp .Mult) (rI CMul λi j=>.int (i * j)):=opI λ_ _ _ _ _ _ _ hc q=>mul_int q hc.ok
theorem bm_:OpR X (binaryOp .FloorDiv) (rI CDiv λi j=>.int (i / j)):=opI λi j _ _ _ _ _ hc q=>by
 have h1:(0:Int)<j:=hc.1;have h2:j<1073741824:=hc.2;exact floordiv_int Z1 (by rw[Int.fdiv_eq_ediv_of_nonneg i Z1];exact q) (.inl (PyProof.noPylong_small Z1))
theorem bZ_:OpR X (binaryOp .Mod) (rI (λ_ j=>0<j) λi j=>.int (i % j)):=opI λi j _ _ _ _ _ hc q=>by
 have h1:(0:Int)<j:=hc;exact mod_int' Z1 (by rw[Int.fmod_eq_emod_of_nonneg i Z1];exact q)
theorem hZ_:OpR X (binaryOp .Pow) (rI CPow λi j=>.int (i ^ j.toNat)):=opI λ_ _ _ _ _ _ _ hc q=>pow_int_small hc.1 hc.2.1 hc.2.2 q
theorem unI{f:Aa->Sem Aa}{g:Int->Int}
  (rule:∀(i:Int) (t:Tok) (s:Ab) (Q:Aa->Ab->Prop) (E:Aa->Ab->Prop),Q (.int (g i) s.toks) { s with toks:=s.toks+1 }->wpAny (model X.prog X.w) X.A (f (.int i t)) Q E s) :
  UnR X f (rU λi=>.int (g i)):=by
 intro pins s σ H x v Q I rx h;obtain⟨i,rfl,q⟩:=h;obtain⟨t,rfl⟩:=rx;exact rule i t s _ _ ⟨.int (g i),H,I.tok _,⟨_,rfl⟩,q⟩
theorem i7_:UnR X (unaryOp .USub) (rU λi=>.int (-i)):=unI λ_ _ _ _ _ q=>neg_int q
end
def scal:V->V->Bool
 |.non,.non=>true | .non,.int _=>true | .int _,.non=>true | .non,.bl _=>true | .bl _,.non=>true | .non,.str _=>true | .str _,.non=>true
 |.int _,.int _=>true | .bl _,.bl _=>true | .str _,.str _=>true | .byt _,.byt _=>true
 |.int _,.str _=>true | .str _,.int _=>true | .bl _,.str _=>true | .str _,.bl _=>true
 |_,_=>false
def rEq:R2:=λx y H Q=>scal x y=true/\Q (.bl (decide (x=y))) H
def rNe:R2:=λx y H Q=>scal x y=true/\Q (.bl (!decide (x=y))) H
theorem fz_{i j:Int}:decide (V.int i=V.int j)=(i == j):=by
 rw[Bool.eq_iff_iff];simp
theorem hX_{i j:Bool}:decide (V.bl i=V.bl j)=(i == j):=by
 rw[Bool.eq_iff_iff];simp
theorem fN_{i j:Str}:decide (V.str i=V.str j)=(i == j):=by
 rw[Bool.eq_iff_iff];simp
theorem fv_{i j:Array UInt8}:decide (V.byt i=V.byt j)=(i.toList == j.toList):=by
 rw[Bool.eq_iff_iff];cases i;cases j;simp
section
variable{X:Cx}{a b c:Expr}{ta tb tc:TE}{pos:Pos}
theorem as_{H:Hp}{s:Ab}{Q:VK}{k k':Bool}(I:Inv X pins σ H s)(q:Q (.bl k) H)(e:k=k'):EP X pins σ Q (.bool k') s:=by
 subst e;exact⟨.bl k,H,I,rfl,q⟩
theorem bY_:OpR X (compareOp .Eq) rEq:=by
 intro pins s σ H x y v u Q I rx ry h;obtain⟨hs,q⟩:=h;cases x with
 |non=>
  cases rx;cases y with
  |non=>cases ry;exact PySem.EqNone.eq_none_none (as_ I q Z2)
  |bl j=>cases ry;exact PySem.EqNone.eq_none_bool (as_ I q Z2)
  |int j=>obtain⟨t',rfl⟩:=ry;exact PySem.EqNone.eq_none_int (as_ I q Z2)
  |str j=>obtain⟨t',rfl⟩:=ry;exact PySem.EqNone.eq_none_str (as_ I q Z2)
  |_=>exact absurd (show false=true from hs) am'
 |bl i=>
  cases rx;cases y with
  |non=>cases ry;exact PySem.EqNone.eq_bool_none (as_ I q Z2)
  |bl j=>cases ry;exact eq_bool (as_ I q hX_)
  |str j=>obtain⟨t',rfl⟩:=ry;exact PySem.EqMixed.eq_bool_str (as_ I q Z2)
  |_=>exact absurd (show false=true from hs) am'
 |int i=>
  obtain⟨t,rfl⟩:=rx;cases y with
  |non=>cases ry;exact PySem.EqNone.eq_int_none (as_ I q Z2)
  |int j=>obtain⟨t',rfl⟩:=ry;exact eq_int (as_ I q fz_)
  |str j=>obtain⟨t',rfl⟩:=ry;exact PySem.EqMixed.eq_int_str (as_ I q Z2)
  |_=>exact absurd (show false=true from hs) am'
 |str i=>
  obtain⟨t,rfl⟩:=rx;cases y with
  |non=>cases ry;exact PySem.EqNone.eq_str_none (as_ I q Z2)
  |bl j=>cases ry;exact PySem.EqMixed.eq_str_bool (as_ I q Z2)
  |int j=>obtain⟨t',rfl⟩:=ry;exact PySem.EqMixed.eq_str_int (as_ I q Z2)
  |str j=>obtain⟨t',rfl⟩:=ry;exact eq_str (as_ I q fN_)
  |_=>exact absurd (show false=true from hs) am'
 |byt i=>
  obtain⟨t,rfl⟩:=rx;cases y with
  |byt j=>obtain⟨t',rfl⟩:=ry;exact PySem.W.eq_bytes (as_ I q fv_)
  |_=>exact absurd (show false=true from hs) am'
 |_=>cases y<;>exact absurd (show false=true from hs) am'
theorem cL_:OpR X (compareOp .NotEq) rNe:=by
 intro pins s σ H x y v u Q I rx ry h;obtain⟨hs,q⟩:=h;cases x with
 |non=>
  cases rx;cases y with
  |non=>cases ry;exact PySem.EqNone.ne_none_none (as_ I q Z2)
  |bl j=>cases ry;exact PySem.EqNone.ne_none_bool (as_ I q Z2)
  |int j=>obtain⟨t',rfl⟩:=ry;exact PySem.EqNone.ne_none_int (as_ I q Z2)
  |str j=>obtain⟨t',rfl⟩:=ry;exact PySem.EqNone.ne_none_str (as_ I q Z2)
  |_=>exact absurd (show false=true from hs) am'
 |bl i=>
  cases rx;cases y with
  |non=>cases ry;exact PySem.EqNone.ne_bool_none (as_ I q Z2)
  |bl j=>cases ry;exact ne_bool (as_ I q (b_5 not hX_))
  |str j=>obtain⟨t',rfl⟩:=ry;exact PySem.EqMixed.ne_bool_str (as_ I q Z2)
  |_=>exact absurd (show false=true from hs) am'
 |int i=>
  obtain⟨t,rfl⟩:=rx;cases y with
  |non=>cases ry;exact PySem.EqNone.ne_int_none (as_ I q Z2)
  |int j=>obtain⟨t',rfl⟩:=ry;exact ne_int (as_ I q (b_5 not fz_))
  |str j=>obtain⟨t',rfl⟩:=ry;exact PySem.EqMixed.ne_int_str (as_ I q Z2)
  |_=>exact absurd (show false=true from hs) am'
 |str i=>
  obtain⟨t,rfl⟩:=rx;cases y with
  |non=>cases ry;exact PySem.EqNone.ne_str_none (as_ I q Z2)
  |bl j=>cases ry;exact PySem.EqMixed.ne_str_bool (as_ I q Z2)
  |int j=>obtain⟨t',rfl⟩:=ry;exact PySem.EqMixed.ne_str_int (as_ I q Z2)
  |str j=>obtain⟨t',rfl⟩:=ry;exact ne_str (as_ I q (b_5 not fN_))
  |_=>exact absurd (show false=true from hs) am'
 |byt i=>
  obtain⟨t,rfl⟩:=rx;cases y with
  |byt j=>obtain⟨t',rfl⟩:=ry;exact PySem.W.ne_bytes (as_ I q (b_5 not fv_))
  |_=>exact absurd (show false=true from hs) am'
 |_=>cases y<;>exact absurd (show false=true from hs) am'
theorem j9_:OpR X (compareOp .Lt) (rI0 λi j=>.bl (decide (i<j))):=opB0 λ_ _ _ _ _ _ _ q=>lt_int q
theorem fn_:OpR X (compareOp .LtE) (rI0 λi j=>.bl (decide (i<=j))):=opB0 λ_ _ _ _ _ _ _ q=>le_int q
theorem iy_:OpR X (compareOp .Gt) (rI0 λi j=>.bl (decide (j<i))):=opB0 λ_ _ _ _ _ _ _ q=>gt_int q
theorem jK_:OpR X (compareOp .GtE) (rI0 λi j=>.bl (decide (j<=i))):=opB0 λ_ _ _ _ _ _ _ q=>ge_int q
inductive ch' (x:V) (y:V) (H:Hp) (Q:VK):Prop
 |mk:∀i j,x=.str i->y=.str j->Q (.bl (decide (i.cps.toList<j.cps.toList))) H->ch' x y H Q
theorem g9_:OpR X (compareOp .Lt) ch':=by
 intro pins s σ H x y v u Q I rx ry h;obtain⟨i,j,rfl,rfl,q⟩:=h;obtain⟨t,rfl⟩:=rx;obtain⟨t',rfl⟩:=ry;exact lt_str (as_ I q rfl)
theorem nomark(b:Expr){op:CmpOp}(h:op≠.In:=by decide)(h2:op≠.NotIn:=by decide):behindInMarks op b=false:=by
 have e1:(op == CmpOp.In)=false:=by cases op<;>first|rfl|exact absurd rfl h
 have e2:(op == CmpOp.NotIn)=false:=by cases op<;>first|rfl|exact absurd rfl h2
 cases b<;>simp[behindInMarks,e1,e2]
theorem e6_{op:CmpOp}{r:R2}(ho:OpR X (compareOp op) r)(ha:PE X a ta)(hb:PE X b tb)(hm:behindInMarks op b=false):PE X (.Compare a [op] [b] pos) (tOp r ta tb):=by
 intro pins s σ H Q I h;exact wpAny_Compare1 (binT ha hb I h λv u s2 x y H2 I2 rx ry q=>ho pins s2 σ H2 x y v u Q I2 rx ry q) hm
inductive tTestR (Q:Bool->Hp->Prop) (x:V) (H':Hp):Prop
 |mk:∀k,x=.bl k->Q k H'->tTestR Q x H'
def tTest(t:TE):TT:=λσ H Q=>t σ H λx H'=>tTestR Q x H'
theorem ah_{op:CmpOp}{r:R2}(ho:OpR X (compareOp op) r)(ha:PE X a ta)(hb:PE X b tb)(hm:behindInMarks op b=false):PT X (.Compare a [op] [b] pos) (tTest (tOp r ta tb)):=by
 intro pins s σ H Q I h
 refine wpAny_isTrue_Compare1 (thn (ha pins s σ H _ I h) λv s1 ⟨x,H1,I1,r1,q1⟩=>thn (hb pins s1 σ H1 _ I1 q1) λu s2 ⟨y,H2,I2,r2,q2⟩=>
  thn (ho pins s2 σ H2 x y v u _ I2 r1 r2 q2) λc s3 ⟨z,H3,I3,r3,k,e,q3⟩=>?_) hm
 subst e;cases r3;exact c_0 ⟨H3,I3,q3⟩
inductive tChainR (r':R2) (tc:TE) (σ:St) (Q:VK) (y:V) (z:V) (H3:Hp):Prop
 |mk:∀k,z=.bl k->(if k=true then tc σ H3 λw' H4=>r' y w' H4 Q else Q (.bl false) H3)->tChainR r' tc σ Q y z H3
def tChain(r r':R2)(ta tb tc:TE):TE:=λσ H Q=>ta σ H λx H1=>tb σ H1 λy H2=>r x y H2 λz H3=>tChainR r' tc σ Q y z H3
theorem eQ_{op op':CmpOp}{r r':R2}(ho:OpR X (compareOp op) r)(ho':OpR X (compareOp op') r')(ha:PE X a ta)(hb:PE X b tb)(hc:PE X c tc)
  (hm:lastMarks [op,op'] [b,c]=false:=by with_unfolding_all rfl):PE X (.Compare a [op,op'] [b,c] pos) (tChain r r' ta tb tc):=by
 intro pins s σ H Q I h
 refine Compare_chain (thn (ha pins s σ H _ I h) λv s1 ⟨x,H1,I1,r1,q1⟩=>chain_link (thn (hb pins s1 σ H1 _ I1 q1) λu s2 ⟨y,H2,I2,r2,q2⟩=>
  thn (ho pins s2 σ H2 x y v u _ I2 r1 r2 q2) λd s3 ⟨z,H3,I3,r3,k,e,q3⟩=>?_)) hm
 subst e;cases r3;refine c_0 ?_;cases k with
 |false=>exact ite_ff ⟨.bl false,H3,I3,rfl,q3⟩
 |true=>exact ite_tt (chain_last (thn (hc pins s3 σ H3 _ I3 q3) λw' s4 ⟨z',H4,I4,r4,q4⟩=>ho' pins s4 σ H4 y z' u w' Q I4 r2 r4 q4))
theorem eC_{op op':CmpOp}{r r':R2}(ho:OpR X (compareOp op) r)(ho':OpR X (compareOp op') r')(ha:PE X a ta)(hb:PE X b tb)(hc:PE X c tc)
  (hm:lastMarks [op,op'] [b,c]=false:=by with_unfolding_all rfl):PT X (.Compare a [op,op'] [b,c] pos) (tTest (tChain r r' ta tb tc)):=by
 intro pins s σ H Q I h
 refine isTrue_chain (thn (ha pins s σ H _ I h) λv s1 ⟨x,H1,I1,r1,q1⟩=>test_link (thn (hb pins s1 σ H1 _ I1 q1) λu s2 ⟨y,H2,I2,r2,q2⟩=>
  thn (ho pins s2 σ H2 x y v u _ I2 r1 r2 q2) λd s3 ⟨z,H3,I3,r3,k,e,q3⟩=>?_)) hm
 subst e;cases r3;refine c_0 ?_;cases k with
 |false=>
  obtain⟨k',e',q'⟩:=q3;cases e';exact ite_ff ⟨H3,I3,q'⟩
 |true=>
  refine ite_tt (test_last (thn (hc pins s3 σ H3 _ I3 q3) λw' s4 ⟨z',H4,I4,r4,q4⟩=>thn (ho' pins s4 σ H4 y z' u w' _ I4 r2 r4 q4) λd' s5 ⟨z2,H5,I5,r5,k2,e2,q5⟩=>?_));subst e2;cases r5;exact c_0 ⟨H5,I5,q5⟩
theorem line63:(sizeLine:Nat)<2 ^ 63:=by rw[b_1];decide
inductive cb' (x:V) (y:V) (H:Hp) (Q:VK):Prop
 |mk:∀i j,x=.str i->y=.str j->i.length+j.length<=sizeLine->Q (.str (i++j)) H->cb' x y H Q
theorem c5_:OpR X (binaryOp .Add) cb':=by
 intro pins s σ H x y v u Q I rx ry h;obtain⟨i,j,rfl,rfl,hz,q⟩:=h;obtain⟨t,rfl⟩:=rx;obtain⟨t',rfl⟩:=ry;exact add_str (λt' tk=>⟨.str (i++j),H,I.tok _,⟨_,rfl⟩,q⟩) hz
theorem vals1{x:V}{us:List Aa}(r:Vals [x] us):∃u,us=[u]/\RelV x u:=by
 cases r with
 |cons r1 r2=>cases r2;exact⟨_,rfl,r1⟩
theorem vals2{x y:V}{us:List Aa}(r:Vals [x,y] us):∃u w',us=[u,w']/\RelV x u/\RelV y w':=by
 cases r with
 |cons r1 r2=>
  cases r2 with
  |cons r3 r4=>cases r4;exact⟨_,_,rfl,r1,r3⟩
inductive cS' (xs:List V) (H:Hp) (Q:VK):Prop
 |mk:∀i,xs=[.int i]->Q (.int (if i<0 then -i else i)) H->cS' xs H Q
theorem hr_:bc' X (.builtin "abs") cS':=by
 intro pins s σ H xs us Q I r h;obtain⟨i,rfl,q⟩:=h;obtain⟨u,rfl,t,rfl⟩:=vals1 r;exact call_abs_int λu tk=>⟨.int (if i<0 then -i else i),H,I.tok _,⟨_,rfl⟩,q⟩
inductive cj' (xs:List V) (H:Hp) (Q:VK):Prop
 |mk:∀i j,xs=[.int i,.int j]->Q (.int (if j > i then j else i)) H->cj' xs H Q
theorem gx_(hc:X.calm=true):bc' X (.builtin "max") cj':=by
 intro pins s σ H xs us Q I r h;obtain⟨i,j,rfl,q⟩:=h;obtain⟨u,w',rfl,⟨t,rfl⟩,⟨t',rfl⟩⟩:=vals2 r;refine max_two_ints (I.ok.hd hc) λh' tk k=>⟨_,H,I.kept k,?_,q⟩;by_cases hj:j > i
 ·rw[a_8 hj,a_8 hj];exact⟨_,rfl⟩
 ·rw[a_6 hj,a_6 hj];exact⟨_,rfl⟩
inductive ck' (xs:List V) (H:Hp) (Q:VK):Prop
 |mk:∀i j,xs=[.int i,.int j]->Q (.int (if j<i then j else i)) H->ck' xs H Q
theorem fu_(hc:X.calm=true):bc' X (.builtin "min") ck':=by
 intro pins s σ H xs us Q I r h;obtain⟨i,j,rfl,q⟩:=h;obtain⟨u,w',rfl,⟨t,rfl⟩,⟨t',rfl⟩⟩:=vals2 r;refine min_two_ints (I.ok.hd hc) λh' tk k=>⟨_,H,I.kept k,?_,q⟩;by_cases hj:j<i
 ·rw[a_8 hj,a_8 hj];exact⟨_,rfl⟩
 ·rw[a_6 hj,a_6 hj];exact⟨_,rfl⟩
theorem cH_:bc' X (.type "int") (λxs H Q=>(∃i,xs=[.int i]/\Q (.int i) H)∨∃k,xs=[.bl k]/\Q (.int (if k then 1 else 0)) H):=by
 intro pins s σ H xs us Q I r h;rcases h with⟨i,rfl,q⟩|⟨k,rfl,q⟩
 ·obtain⟨u,rfl,t,rfl⟩:=vals1 r;exact call_int_int ⟨.int i,H,I,⟨_,rfl⟩,q⟩
 ·obtain⟨u,rfl,r1⟩:=vals1 r;cases r1;exact call_int_bool ⟨.int (if k then 1 else 0),H,I.tok _,⟨_,rfl⟩,q⟩
end
structure ObjM (h:Heap) (x dx C:Addr) (mA:Str->Option Aa):Prop where
 obj:h.get? x=some (PySem.W.instObj C dx)
 ns:h.Ns1 dx mA
 ne:dx≠x
variable{mA:Str->Option Aa}
theorem gL_{dx:Addr}(n:h.Ns1 dx mA):∃od,h.get? dx=some od/\∀name,PySem.W.lookIn name od=some (mA name):=by
 obtain⟨o,es,ep,ho,hd,hk,_,hm⟩:=n;refine⟨o,ho,λname=>?_⟩;have e:=hm name;unfold nsFind findBy at e;rw[<- Array.find?_toList] at e;unfold PySem.W.lookIn;rw[hd];dsimp only;split
 ·rename_i y q
  rw[q] at e;exact b_5 some e
 ·rename_i q
  rw[q] at e
  have a:es.toList.any (·.refKey)=false:=by
   rw[List.any_eq_false];intro y hy;obtain⟨z,t,hkey⟩:=hk y (Array.mem_toList_iff.mp hy);simp[DictEntry.refKey,hkey]
  have a':¬es.toList.any (·.refKey)=true:=by rw[a];exact am'
  rw[a_6 a'];exact b_5 some e
theorem ObjM.look{x dx C:Addr}(I:ObjM h x dx C mA):∃od,PySem.W.InstAt h x (PySem.W.instObj C dx) C (some od)/\∀name,PySem.W.lookIn name od=some (mA name):=
 let ⟨od,ho,hl⟩:=gL_ I.ns
 ⟨od,⟨I.obj,rfl,rfl,ho⟩,hl⟩
section
variable{prog:Ad}{w:Af}{A:Ah}{E:Aa->Ab->Prop}{s:Ab}{K:F__}{x dx C f:Addr}{mA:Str->Option Aa}{name:Str}{v:Aa}
theorem ik_{expr:Bool}{Q:Aa->Ab->Prop}(X:K.In s.heap)(I:ObjM s.heap x dx C mA)(hg:PySem.W.plainGet K C name=true)(hh:PySem.W.hasDictIn K C=true)
  (ha:PySem.W.findIn K (.ref C) name=some none) (hv:mA name=some v) (hv':PySem.W.handedIn v=true) (h:Q v { s with toks:=s.toks+1 }) :
  wpAny (model prog w) A (getAttr (.ref x) name expr) Q E s:=by
 obtain⟨od,J,hl⟩:=I.look;exact PySem.W.get_value X J (PySem.W.plainGet_of hg).1 (PySem.W.findObj_own hh ha rfl (by rw[hl,hv])) hv' h
theorem hG_{pl:Sem Bool}{Q:Aa × List Aa->Ab->Prop}(X:K.In s.heap)(I:ObjM s.heap x dx C mA)(hg:PySem.W.plainGet K C name=true)
  (hf:PySem.W.findIn K (.ref C) name=some (some (.ref f))) (ht:PySem.W.isFn K (.ref f)=true) (hv:mA name=none) (h:Q (.ref f,[.ref x]) s) :
  wpAny (model prog w) A (getMethod (.ref x) name pl) Q E s:=by
 obtain⟨od,J,hl⟩:=I.look;exact PySem.W.method_fn X J (PySem.W.plainGet_of hg).1 (PySem.W.plainGet_of hg).2 hf (beq_iff_eq.mp ht) (by show (PySem.W.lookIn name od).map (·.isSome)=some false;rw[hl,hv];rfl) h
theorem iU_{ns:List Str}{Q:Unit->Ab->Prop}(X:K.In s.heap)(I:ObjM s.heap x dx C mA)
  (hs:PySem.W.findIn K (.ref C) "__setattr__"=some (some (.builtin "object.__setattr__"))) (hp:PySem.W.plainOver K C=true) (ht:PySem.W.takerIn K C name=some none) (hh:PySem.W.hasDictIn K C=true)
  (hw:PySem.Within mA ns) (hsz:ns.length<=sizeLine)
  (h:∀h',ObjM h' x dx C (λy=>if y=name then some v else mA y)->Heap.SameBut dx s.heap h'->Q () { s with heap:=h',toks:=s.toks+2 }) :
  wpAny (model prog w) A (setAttr (.ref x) name v) Q E s:=by
 obtain⟨od,J,hl⟩:=I.look;refine PySem.W.set_plain X J hs (PySem.W.osa_open (s:={ s with toks:=s.toks+1 }) (r:=none) X J hp ht λb=>?_);obtain⟨cd,hc,hd'⟩:=PySem.W.any_some hh;have hx:s.heap.get? x=some ⟨.ref C,some dx,.plain,#[]⟩:=I.obj;refine a__ (a_1 (a__ (a__ (wpAny_loadPart hx (a__ (PySem.W.Looks.here (s:={ s with toks:=s.toks+1 }) (PySem.W.looks_clsIn X hc) ?_))))));rw[hd'];refine a_1 (a:=some dx) (a__ (a_1 (a__ ?_)));refine wpAny_nsSet1 (s:={ s with toks:=s.toks+1 }) I.ns λh' hn2 hs2=>?_;obtain⟨oD,esD,epD,hoD,hdD,hcD⟩:=hn2.count (PySem.Within.cons name v hw);refine a__ (wpAny_lookBehind hoD (by rw[hdD];exact pastItsLine_dict (aV' hcD (by rw[aD'];omega))) ?_);exact a_1 (h _ ⟨(hs2.2 _ (Ne.symm I.ne)).trans I.obj,hn2,I.ne⟩ hs2)
theorem hK_{R:Result->Ab->Prop}{vs:List Aa}{kw:List (Str × Aa)}(X:K.In s.heap)(hm:PySem.W.makesIn K C=true)
  (hi:PySem.W.findIn K (.ref C) "__init__"=some (some (.ref f))) (hf:PySem.W.typeIn K (.ref f)=some (.type "function"))
  (h:codeAny (model prog w) (A.under (.builtin "type.__call__" ⟨.ref C::vs,kw⟩)) (.call (.ref f) ⟨.ref (s.heap.objs.size+1)::vs,kw⟩) (PySem.W.InitBack (s.heap.objs.size+1) R)
   { s with heap:=(s.heap.push PySem.W.emptyDict).push (PySem.W.instObj C s.heap.objs.size) }) :
  codeAny (model prog w) A (.call (.ref C) ⟨vs,kw⟩) R s:=by
 obtain⟨hh,g,d,t,os⟩:=s;exact PySem.W.make_core (PySem.W.makes_of X hm) (PySem.W.looks_findIn X hi) (λself=>PySem.W.bind_fn X self hf) (.inl rfl) h
end
def putF(f:Str)(v:V):List (Str × V)->List (Str × V)
 |[]=>[(f,v)]
 |(g,x)::r=>if g=f then (g,v)::r else (g,x)::putF f v r
theorem ag_(f g:Str)(v:V):∀fs:List (Str × V),(putF f v fs).lookup g=if g=f then some v else fs.lookup g
 |[]=>by
  show List.lookup g [(f,v)]=_;by_cases h:g=f
  ·have hb:(g == f)=true:=beq_iff_eq.mpr h;simp only[List.lookup,hb,a_8 h]
  ·have hb:(g == f)=false:=beq_eq_false_iff_ne.mpr h;simp only[List.lookup,hb,a_6 h]
 |(k,x)::r=>by
  have ih:=ag_ f g v r;rw[show putF f v ((k,x)::r)=(if k=f then (k,v)::r else (k,x)::putF f v r) from rfl];by_cases hk:k=f
  ·rw[a_8 hk];by_cases h:g=k
   ·have hb:(g == k)=true:=beq_iff_eq.mpr h;simp only[List.lookup,hb,a_8 (h.trans hk)]
   ·have hb:(g == k)=false:=beq_eq_false_iff_ne.mpr h;simp only[List.lookup,hb,a_6 (λe:g=f=>h (e.trans hk.symm))]
  ·rw[a_6 hk];by_cases h:g=k
   ·have hb:(g == k)=true:=beq_iff_eq.mpr h;simp only[List.lookup,hb,a_6 (λe:g=f=>hk (h.symm.trans e))]
   ·have hb:(g == k)=false:=beq_eq_false_iff_ne.mpr h;simp only[List.lookup,hb];exact ih
theorem cK_(f:Str)(v:V):∀fs:List (Str × V),f∈(putF f v fs).map (·.1)/\∀g,g∈fs.map (·.1)->g∈(putF f v fs).map (·.1)
 |[]=>⟨by simp[putF],λg h=>by simp at h⟩
 |(k,x)::r=>by
  obtain⟨i1,i2⟩:=cK_ f v r;rw[show putF f v ((k,x)::r)=(if k=f then (k,v)::r else (k,x)::putF f v r) from rfl];by_cases hk:k=f
  ·rw[a_8 hk];subst hk;exact⟨by simp,λg h=>by simpa using h⟩
  ·rw[a_6 hk];refine⟨?_,λg h=>?_⟩
   ·rw[ax'];exact af' _ i1
   ·rw[ax'] at h ⊢;rcases an'.mp h with e|e
    ·exact an'.mpr (.inl e)
    ·exact af' _ (i2 g e)
theorem cD_(f:Str)(v:V):∀fs:List (Str × V),(putF f v fs).length<=fs.length+1
 |[]=>by simp[putF]
 |(k,x)::r=>by
  have ih:=cD_ f v r;rw[show putF f v ((k,x)::r)=(if k=f then (k,v)::r else (k,x)::putF f v r) from rfl];by_cases hk:k=f
  ·rw[a_8 hk,aD',aD'];omega
  ·rw[a_6 hk,aD',aD'];omega
variable{o:Option Aa}{v:V}
theorem RelO.some_of(r:RelO (some v) o):∃u,o=some u/\RelV v u:=by
 cases o with
 |none=>exact (show False from r).elim
 |some u=>exact⟨u,rfl,r⟩
theorem RelO.none_of(r:RelO none o):o=none:=by
 cases o with
 |none=>rfl
 |some u=>exact (show False from r).elim
theorem fK_(r:RelV v u):PySem.W.handedIn u=true:=by
 cases v with
 |non=>cases (show u=Value.none from r);rfl
 |bl b=>cases (show u=Value.bool b from r);rfl
 |int i=>obtain⟨t,e⟩:=(show ∃t,u=Value.int i t from r);cases e;rfl
 |str x=>obtain⟨t,e⟩:=(show ∃t,u=Value.str x t from r);cases e;rfl
 |byt b=>obtain⟨t,e⟩:=(show ∃t,u=Value.bytes b t from r);cases e;rfl
 |flt b=>obtain⟨t,e⟩:=(show ∃t,u=Value.float b t from r);cases e;rfl
 |ref a=>cases (show u=Value.ref a from r);rfl
 |ty n=>cases (show u=Value.type n from r);rfl
section
variable{P:Ad}{w:Af}{H H':Hp}{h h':Heap}{a C dx:Addr}{fs fs':List (Str × V)}
theorem df_(hok:HOk P w H h)(e:H a=some (.ins C dx fs)):∃mA,ObjM h a dx C mA/\(∀f,RelO (fs.lookup f) (mA f))/\PySem.Within mA (fs.map (·.1))/\fs.length<=1000/\H dx=some (.own a):=by
 obtain⟨d,z,ne,ob,mA,n,r,q⟩:=(show a4' P w H h a (.ins C dx fs) from hok a _ e);exact⟨mA,⟨ob,n,ne⟩,r,q,z,d⟩
end
structure Cls (K:F__) (C:Addr):Prop where
 pg:PySem.W.plainGet K C Str.empty=true
 hd:PySem.W.hasDictIn K C=true
 po:PySem.W.plainOver K C=true
 sa:PySem.W.findIn K (.ref C) "__setattr__"=some (some (.builtin "object.__setattr__"))
theorem Cls.get{K:F__}{C:Addr}(c:Cls K C)(f:Str):PySem.W.plainGet K C f=true:=c.pg
def br'(K:F__)(C:Addr)(f:Str):Prop:=PySem.W.findIn K (.ref C) f=some none
theorem br'.taker{K:F__}{C:Addr}{f:Str}(n:br' K C f):PySem.W.takerIn K C f=some none:=by
 unfold PySem.W.takerIn;rw[show PySem.W.findIn K (.ref C) f=some none from n];rfl
structure Con (K:F__) (C:Addr) (f:Str) (v:V) (u:Aa):Prop where
 at_:PySem.W.findIn K (.ref C) f=some (some u)
 rel:RelV v u
 get:PySem.W.specialIn K u "__get__"=some none
 cp:PySem.W.copiedNames.contains f=false
structure Meth (K:F__) (C:Addr) (m:Str) (f:Addr):Prop where
 at_:PySem.W.findIn K (.ref C) m=some (some (.ref f))
 fn:PySem.W.isFn K (.ref f)=true
 kp:PySem.W.keepIn K (.ref f)=true
section
variable{X:Cx}{pins:List (Addr × Obj)}{σ:St}{H:Hp}{s:Ab}{a C dx:Addr}{fs:List (Str × V)}{f:Str}{v:V}{A:Ah}{E:Aa->Ab->Prop}
theorem f2_{b:Bool}{Q:Aa->Ab->Prop}(I:Inv X pins σ H s)(e:H a=some (.ins C dx fs))(c:Cls X.K C)(n:br' X.K C f)(l:fs.lookup f=some v)
  (h:∀u s',Inv X pins σ H s'->RelV v u->Q u s'):wpAny (model X.prog X.w) A (getAttr (.ref a) f b) Q E s:=by
 obtain⟨mA,O,r,_,_,_⟩:=df_ I.hok e;obtain⟨u,hu,ru⟩:=RelO.some_of (v:=v) (o:=mA f) (by rw[<- l];exact r f);exact ik_ I.kIn O (c.get f) c.hd n hu (fK_ ru) (h u _ (I.tok _) ru)
theorem cR_{m:Str}{g:Addr}{pl:Sem Bool}{Q:Aa × List Aa->Ab->Prop}(I:Inv X pins σ H s)(e:H a=some (.ins C dx fs))(c:Cls X.K C)(k:Meth X.K C m g)(l:fs.lookup m=none)
  (h:Q (.ref g,[.ref a]) s):wpAny (model X.prog X.w) A (getMethod (.ref a) m pl) Q E s:=by
 obtain⟨mA,O,r,_,_,_⟩:=df_ I.hok e;have hn:mA m=none:=RelO.none_of (by rw[<- l];exact r m);exact hG_ I.kIn O (c.get m) k.at_ k.fn hn h
theorem fd_{y:V}{Q:Unit->Ab->Prop}(I:Inv X pins σ H s)(e:H a=some (.ins C dx fs))(c:Cls X.K C)(n:br' X.K C f)(hl:fs.length<1000)(ry:RelV y u)(h:∀s',Inv X pins σ (upd H a (.ins C dx (putF f y fs))) s'->Q () s'):wpAny (model X.prog X.w) A (setAttr (.ref a) f u) Q E s:=by
 obtain⟨mA,O,r,wi,_,ho⟩:=df_ I.hok e;have hz:(fs.map (·.1)).length<=sizeLine:=by rw[aa',b_1];omega
 refine iU_ I.kIn O c.sa c.po n.taker c.hd wi hz λh' O' sb=>h _ ?_;have hd:∃o,h'.get? dx=some o:=let ⟨o,_,_,e',_⟩:=O'.ns;⟨o,e'⟩;refine I.write (x:=a) (e:=dx) (by rw[e];exact True.intro) (.inr ho) (λb q hb z=>(sb.2 b hb).trans z) hd ?_;refine⟨by rw[a7_ O.ne];exact ho,?_,O.ne,O'.obj,_,O'.ns,λg=>?_,λg hg=>?_⟩
 ·have:=cD_ f y fs;omega
 ·show RelO ((putF f y fs).lookup g) (if g=f then some u else mA g);rw[ag_];by_cases q:g=f
  ·rw[a_8 q,a_8 q];exact ry
  ·rw[a_6 q,a_6 q];exact r g
 ·by_cases q:g=f
  ·rw[q];exact (cK_ f y fs).1
  ·refine (cK_ f y fs).2 g (wi g λz=>hg ?_);show (if g=f then some u else mA g)=none;rw[a_6 q];exact z
theorem Inv.made(I:Inv X pins σ H s):Inv X pins σ (upd (upd H s.heap.objs.size (.own (s.heap.objs.size+1))) (s.heap.objs.size+1) (.ins C s.heap.objs.size []))
  { s with heap:=(s.heap.push PySem.W.emptyDict).push (PySem.W.instObj C s.heap.objs.size) }:=by
 have e1:(s.heap.push PySem.W.emptyDict).get? s.heap.objs.size=some PySem.W.emptyDict:=a_3 s.heap rfl
 have e2:((s.heap.push PySem.W.emptyDict).push (PySem.W.instObj C s.heap.objs.size)).get? (s.heap.objs.size+1)=some (PySem.W.instObj C s.heap.objs.size):=by
  have:=a_3 (s.heap.push PySem.W.emptyDict) (o:=PySem.W.instObj C s.heap.objs.size) rfl;rwa [Heap.size_push] at this
 have e3:(s.heap.push PySem.W.emptyDict).Ns s.heap.objs.size (λ_=>none):=⟨PySem.W.emptyDict,#[],_,e1,rfl,(λe he=>absurd he Z2),λ_=>rfl⟩;have I1:=I.laid (a:=s.heap.objs.size) (o:=.own (s.heap.objs.size+1)) (h':=s.heap.push PySem.W.emptyDict) (t':=s.toks) (λb u q=>a_0 _ q) (ae' _) ⟨_,e1⟩;refine I1.laid (a:=s.heap.objs.size+1) (o:=.ins C s.heap.objs.size []) (t':=s.toks) (λb u q=>a_0 _ q) (Nat.le_of_eq (Heap.size_push _ _)) ?_;have ne:s.heap.objs.size≠s.heap.objs.size+1:=aj' (Nat.lt_succ_self _);refine⟨by rw[a7_ ne,a1_],aC' _,ne,e2,λ_=>none,(Heap.Ns1.of_empty e3).at λo q=>a_0 _ q,λ_=>True.intro,λy hy=>absurd rfl hy⟩
theorem iP_{prog:Ad}{env:Env}{e:Expr}{f:Str}{s:Ab}{Q:Aa->Ab->Prop}(hb:attributeBase e f env (eval e env)=eval e env)(h:wpAny (model prog w) A (eval e env) (λo s₁=>wpAny (model prog w) A (getAttr o f true) Q E s₁) E s):wpAny (model prog w) A (eval (.Attribute e f pos) env) Q E s:=
 Attribute_any_ h (by rw[arm_eval_Attribute,hb])
end
inductive tFldR (K:F__) (f:Str) (Q:VK) (x:V) (H1:Hp):Prop
 |mk:∀a C dx fs v,x=.ref a->H1 a=some (.ins C dx fs)->Cls K C->br' K C f->fs.lookup f=some v->Q v H1->tFldR K f Q x H1
def tFld(K:F__)(ta:TE)(f:Str):TE:=λσ H Q=>ta σ H λx H1=>tFldR K f Q x H1
inductive sFldR (K:F__) (f:Str) (D:Ends) (σ:St) (y:V) (x:V) (H2:Hp):Prop
 |mk:∀a C dx fs,x=.ref a->H2 a=some (.ins C dx fs)->Cls K C->br' K C f->fs.length<1000->D.nx σ (upd H2 a (.ins C dx (putF f y fs)))->sFldR K f D σ y x H2
def sFld(K:F__)(ta tv:TE)(f:Str):TS:=λD σ H=>tv σ H λy H1=>ta σ H1 λx H2=>sFldR K f D σ y x H2
section
variable{X:Cx}{o e value:Expr}{f:Str}{pos pos' tpos:Pos}{ta tv:TE}
theorem aO_(he:PE X e ta)(hb:attributeBase e f X.env (eval e X.env)=eval e X.env):PE X (.Attribute e f pos) (tFld X.K ta f):=by
 intro pins s σ H Q I h;refine iP_ hb (thn (he pins s σ H _ I h) λu s1 ⟨x,H1,I1,rx,a,C,dx,fs,v,ex,ea,c,n,l,q⟩=>?_);subst ex;obtain rfl:u=Value.ref a:=rx;exact f2_ I1 ea c n l λu' s2 I2 ru=>⟨v,H1,I2,ru,q⟩
theorem cV_(ha:PE X o ta)(hv:PE X value tv)(hs:swapsWith value (some (.Attribute o f pos')) pos.line X.env=pure false):PS X (.Assign [.Attribute o f pos'] value pos) (sFld X.K ta tv f):=by
 intro pins s σ H D I h;refine plainObj_wpAny_Assign_Attribute (thn (hv pins s σ H _ I h) λu s1 ⟨y,H1,I1,ry,q⟩=>thn (ha pins s1 σ H1 _ I1 q) λov s2 ⟨x,H2,I2,rx,a,C,dx,fs,ex,ea,c,n,l,q2⟩=>?_) hs;subst ex;obtain rfl:ov=Value.ref a:=rx;exact fd_ I2 ea c n l ry λs3 I3=>⟨σ,_,I3,q2⟩
end
section
variable{X:Cx}{pins:List (Addr × Obj)}{σ:St}{H:Hp}{s:Ab}{A:Ah}{E:Aa->Ab->Prop}{Q:Aa->Ab->Prop}{c:Aa}{b:Bool}
inductive TyOf (K:F__) (H:Hp):V->Aa->Prop where
 |non:TyOf K H .non (.type "NoneType")
 |bl (x:Bool):TyOf K H (.bl x) (.type "bool")
 |int (i:Int):TyOf K H (.int i) (.type "int")
 |str (x:Str):TyOf K H (.str x) (.type "str")
 |flt (x:UInt64):TyOf K H (.flt x) (.type "float")
 |lst {a:Addr} {xs:List V} (e:H a=some (.lst xs)):TyOf K H (.ref a) (.type "list")
 |frz {a:Addr} {o:Obj} {xs:List V} (e:H a=some (.frz o (.lst xs))):TyOf K H (.ref a) (.type "list")
 |tup {a:Addr} {xs:List V} (e:H a=some (.tup xs)):TyOf K H (.ref a) (.type "tuple")
 |dK {a:Addr} {kvs:List (Key × V)} (e:H a=some (.dK kvs)):TyOf K H (.ref a) (.type "dict")
 |dT {a:Addr} {kvs:List (List Key × V)} (e:H a=some (.dT kvs)):TyOf K H (.ref a) (.type "dict")
 |ins {a C dx:Addr} {fs:List (Str × V)} (e:H a=some (.ins C dx fs)) (cl:Cls K C) (ha:PySem.W.findIn K (.ref C) "__class__"=some (some (.builtin "object.__class__")))
   (hn:PySem.W.specialIn K (.builtin "object.__class__") "__get__"=some (some (.builtin "getset_descriptor.__get__"))) (htk:PySem.W.takesIn K (.builtin "object.__class__")=some true)
   (hm:PySem.W.mroIn K C (.type "object")=some true):TyOf K H (.ref a) (.ref C)
theorem dz_{x:V}{t:Aa}(I:Inv X pins σ H s)(rx:RelV x u)(ty:TyOf X.K H x t)(e:PySem.W.kitOne X.K t c=some b)(h:∀tk,Q (.bool b) { s with toks:=tk }) :
  wpAny (model X.prog X.w) A (call (.builtin "isinstance") [u,c]) Q E s:=by
 cases ty with
 |non=>cases (show u=Value.none from rx);exact c__ PySem.W.kitx_none I.kIn True.intro e nofun h
 |bl y=>cases (show u=Value.bool y from rx);exact c__ PySem.W.kitx_bool I.kIn True.intro e nofun h
 |int i=>obtain⟨t,q⟩:=(show ∃t,u=Value.int i t from rx);cases q;exact c__ PySem.W.kitx_int I.kIn True.intro e nofun h
 |str y=>obtain⟨t,q⟩:=(show ∃t,u=Value.str y t from rx);cases q;exact c__ PySem.W.kitx_str I.kIn True.intro e nofun h
 |flt y=>obtain⟨t,q⟩:=(show ∃t,u=Value.float y t from rx);cases q;exact c__ PySem.W.kitx_float I.kIn True.intro e nofun h
 |@lst a xs ea=>
  cases (show u=Value.ref a from rx);obtain⟨_,_,n,_,h1⟩:=(show a4' X.prog X.w H s.heap a (.lst xs) from I.hok a _ ea);exact c__ PySem.W.kitx_list I.kIn ⟨_,h1,rfl⟩ e nofun h
 |@frz a ob xs ea=>
  cases (show u=Value.ref a from rx);obtain⟨_,_,_,n,_,h1⟩:=(show a4' X.prog X.w H s.heap a (.frz ob (.lst xs)) from I.hok a _ ea);exact c__ PySem.W.kitx_list I.kIn ⟨_,h1,rfl⟩ e nofun h
 |@tup a xs ea=>
  cases (show u=Value.ref a from rx);obtain⟨_,_,_,p,_⟩:=(show a4' X.prog X.w H s.heap a (.tup xs) from I.hok a _ ea);obtain⟨o,h1,h2,_⟩:=p;exact c__ PySem.W.kitx_tuple I.kIn ⟨o,h1,h2⟩ e nofun h
 |@dK a kvs ea=>
  cases (show u=Value.ref a from rx);obtain⟨_,_,vs,_,p⟩:=(show a4' X.prog X.w H s.heap a (.dK kvs) from I.hok a _ ea);obtain⟨o,es,ep,h1,h2,_⟩:=p;exact c__ PySem.W.kitx_dict I.kIn ⟨o,h1,h2.1⟩ e nofun h
 |@dT a kvs ea=>
  cases (show u=Value.ref a from rx);obtain⟨_,_,xs,_,o,es,ep,h1,h2,_⟩:=(show a4' X.prog X.w H s.heap a (.dT kvs) from I.hok a _ ea);exact c__ PySem.W.kitx_dict I.kIn ⟨o,h1,h2.1⟩ e nofun h
 |@ins a C dx fs ea cl ha hn htk hm=>
  cases (show u=Value.ref a from rx);obtain⟨mA,O,_⟩:=df_ I.hok ea;obtain⟨od,J,_⟩:=O.look;exact c__ (PySem.W.kitx_own (cl.get _) cl.hd ha hn htk hm) I.kIn J e nofun h
end
structure Room (k:Nat) (A:Ah):Prop where
 hd:A.handled=none
 dp:A.depth+3 * k+5<recursionLimit
 un:A.units+16 * k+200<cLine
variable{k:Nat}
theorem Room.mono{j:Nat}{A:Ah}(r:Room k A)(h:j<=k):Room j A:=⟨r.hd,by have:=r.dp;omega,by have:=r.un;omega⟩
theorem Room.deeper{A:Ah}(r:Room (k+1) A)(env:Env):Room k (A.deeper env):=
 ⟨r.hd,by have:=r.dp;show A.depth+1+3 * k+5<_;omega,by have:=r.un;show A.units+3+16 * k+200<_;omega⟩
variable{kw:List (Str × Aa)}
theorem fp_{A:Ah}{C:Addr}{us:List Aa}:(A.under (.builtin "type.__call__" ⟨.ref C::us,kw⟩)).depth=A.depth+1:=by
 first|rfl|simp[Around.under,Code.weight,Code.isCreation,Code.isGuard,Code.isCaller,Code.frames,Code.isFrame,guardIds]
theorem fo_{A:Ah}{C:Addr}{us:List Aa}:(A.under (.builtin "type.__call__" ⟨.ref C::us,kw⟩)).units=A.units+1:=by
 first|rfl|simp[Around.under,Code.cUnits,Code.frames,Code.isFrame]
theorem Room.make{A:Ah}(r:Room (k+1) A)(C:Addr)(us:List Aa)(kw:List (Str × Aa)):Room k (A.under (.builtin "type.__call__" ⟨.ref C::us,kw⟩)):=
 ⟨r.hd,by have:=r.dp;rw[fp_];omega,by have:=r.un;rw[fo_];omega⟩
theorem Room.depth{A:Ah}(r:Room k A):A.depth<recursionLimit:=by have:=r.dp;omega
theorem Room.units{A:Ah}(r:Room k A):A.units+64<cLine:=by have:=r.un;omega
def tNil:TA:=λ_ H Q=>Q [] H
def bm'(ta:TE)(tr:TA):TA:=λσ H Q=>ta σ H λx H1=>tr σ H1 λxs H2=>Q (x::xs) H2
section
variable{X:Cx}{e:Expr}{es:List Expr}{te:TE}{t:TA}{pos:Pos}
theorem a2_:PA X [] tNil:=λ_ _ _ _ H Q I h=>Calls.spliced_nil ⟨[],H,I,.nil,h⟩
theorem a0_(ha:PE X e te)(hr:PA X es t)(hs:starEach (e::es) X.env=(false,eval e X.env)::starEach es X.env:=by rfl):PA X (e::es) (bm' te t):=by
 intro pos pins s σ H Q I h;rw[hs];show wpAny _ _ (spliced ((false,eval e X.env)::backTo pos (starEach es X.env))) _ _ s;refine Calls.spliced_cons (thn (ha pins s σ H _ I h) λu s1 ⟨x,H1,I1,r1,q1⟩=>?_);exact thn (hr pos pins s1 σ H1 _ I1 q1) λus s2 ⟨xs,H2,I2,r2,q2⟩=>⟨x::xs,H2,I2,.cons r1 r2,q2⟩
def tTup(t:TA):TE:=λσ H Q=>t σ H λxs H1=>xs.length<=sizeLine/\∀p,H1 p=none->Q (.ref p) (upd H1 p (.tup xs))
def tLst(t:TA):TE:=λσ H Q=>t σ H λxs H1=>xs.length<=sizeLine/\∀p,H1 p=none->Q (.ref p) (upd H1 p (.lst xs))
theorem aP_{x1}(h:PA X es t):PE X (.Tuple es x1 pos) (tTup t):=by
 intro pins s σ H Q I hq;refine wpAny_Tuple_spliced (thn (h pos pins s σ H _ I hq) λus s1 ⟨xs,H1,I1,r,z,q⟩=>⟨by rw[<- r.length];exact z,?_⟩);have hf:H1 s1.heap.objs.size=none:=I1.hok.fresh (ae' _);refine⟨.ref s1.heap.objs.size,upd H1 s1.heap.objs.size (.tup xs),I1.laid (t':=s1.toks) (λb u e=>a_0 _ e) (ae' _) ?_,rfl,q _ hf⟩;exact⟨z,us,r,⟨_,a_3 _ rfl,rfl,_,rfl⟩,_,a_3 _ rfl,rfl⟩
theorem aK_(h:PA X es t):PE X (.List es pos) (tLst t):=by
 intro pins s σ H Q I hq;refine wpAny_List_spliced (thn (h pos pins s σ H _ I hq) λus s1 ⟨xs,H1,I1,r,z,q⟩=>⟨by rw[<- r.length];exact z,?_⟩);have hf:H1 s1.heap.objs.size=none:=I1.hok.fresh (ae' _);refine⟨.ref s1.heap.objs.size,upd H1 s1.heap.objs.size (.lst xs),I1.laid (t':=s1.toks) (λb u e=>a_0 _ e) (ae' _) ?_,rfl,q _ hf⟩;exact⟨z,us,0,r,a_3 _ rfl⟩
end
abbrev Sp:=List V->Hp->VK->XK->Prop
abbrev CXT:=List Env->Hp->Ab->XK->Aa->Ab->Prop
structure Env0 (P:Ad) (w:Af) (K:F__) (mg:Str->Option Aa) (base:Heap) (A:Ah) (outer:List Env) (s:Ab) (H:Hp):Prop where
 frames:A.frames=some outer
 mod:Mod K mg base
 bs:∀b o,base.get? b=some o->s.heap.get? b=some o/\H b=none
 bsz:base.objs.size<=s.heap.objs.size
 funs:s.heap.FunFrames base outer
 frf:∀b∈frs outer,H b=none
 hok:HOk P w H s.heap
 bare:AllBare s.gens
def CE(outer:List Env)(P:Ad)(w:Af)(H:Hp)(s:Ab)(Q:VK)(u:Aa)(s':Ab):Prop:=
 ∃v H',s'.os=s.os/\AllBare s'.gens/\Un (frs outer) [] H H' s.heap s'.heap/\HOk P w H' s'.heap/\RelV v u/\Q v H'
def CR(CX:CXT)(outer:List Env)(P:Ad)(w:Af)(H:Hp)(s:Ab)(Q:VK)(E:XK)(r:Result)(s':Ab):Prop:=
 match r with
 |.ok (.ret u)=>CE outer P w H s Q u s'
 |.ok _=>False
 |.error e=>CX outer H s E e s'
structure FnOk (P:Ad) (w:Af) (K:F__) (mg:Str->Option Aa) (base:Heap) (CX:CXT) (k:Nat) (f:Addr) (fd:Ae) (ps:List Str) (sp:Sp):Prop where
 len:∀vs H Q E,sp vs H Q E->vs.length=ps.length
 run:∀(A:Ah) (outer:List Env) (s:Ab) (H:Hp) (args:Args) (us:List Aa) (vs:List V) (Q:VK) (E:XK),Room k A->Env0 P w K mg base A outer s H->BindsTo s fd args (ps.zip us)->Vals vs us->sp vs H Q E->
  codeAny (model P w) A (.call (.ref f) args) (CR CX outer P w H s Q E) s
variable{H:Hp}{A:Ah}{K:F__}{mg:Str->Option Aa}{base:Heap}{outer:List Env}
theorem Env0.make{s:Ab}(e:Env0 P w K mg base A outer s H)(C:Addr)(us:List Aa)(kw:List (Str × Aa)) :
  Env0 P w K mg base (A.under (.builtin "type.__call__" ⟨.ref C::us,kw⟩)) outer s H:=⟨by first|exact e.frames|(simpa [Around.under,Code.envs,Code.isFrame,pushEnvs] using e.frames),e.mod,e.bs,e.bsz,e.funs,e.frf,e.hok,e.bare⟩
section
variable{X:Cx}{pins:List (Addr × Obj)}{σ:St}{H:Hp}{s s':Ab}
theorem Inv.env0(I:Inv X pins σ H s):Env0 X.prog X.w X.K X.mg X.base X.A X.stack s H:=
 ⟨I.ok.frames,I.ok.mod,I.bs,aV' I.ok.bsz I.sz,I.stack,I.stkFree,I.hok,I.bare⟩
theorem Inv.after{Q:VK}(I:Inv X pins σ H s)(h:CE X.stack X.prog X.w H s Q u s'):EP X pins σ Q u s':=by
 obtain⟨v,H',os,bare,un,hok,r,q⟩:=h;obtain⟨hh,g,d,t,os'⟩:=s';obtain rfl:os'=s.os:=os;exact⟨v,H',I.call (h':=hh) (g':=g) (d':=d) (t':=t) (ch:=[]) un hok bare (λb z=>absurd z Z2),r,q⟩
end
def tCall(sp:Sp)(dvs:List V)(E:XK)(t:TA):TE:=λσ H Q=>t σ H λvs H1=>sp (vs++dvs) H1 Q E
inductive tMethR (C:Addr) (m:Str) (sp:Sp) (dvs:List V) (E:XK) (t:TA) (σ:St) (Q:VK) (x:V) (H1:Hp):Prop
 |mk:∀a dx fs,x=.ref a->H1 a=some (.ins C dx fs)->fs.lookup m=none->(t σ H1 λvs H2=>sp (x::(vs++dvs)) H2 Q E)->tMethR C m sp dvs E t σ Q x H1
def tMeth(C:Addr)(m:Str)(sp:Sp)(dvs:List V)(E:XK)(ta:TE)(t:TA):TE:=λσ H Q=>ta σ H λx H1=>tMethR C m sp dvs E t σ Q x H1
def tMake(C:Addr)(sp:Sp)(dvs:List V)(E:XK)(t:TA):TE:=λσ H Q=>t σ H λvs H1=>∀x dx,H1 x=none->H1 dx=none->dx≠x->
 sp (.ref x::(vs++dvs)) (upd (upd H1 dx (.own x)) x (.ins C dx [])) (λv H2=>v=.non/\Q (.ref x) H2) E
def bL'(K:F__)(fd:Ae)(ps:List Str)(ds:List Aa):Prop:=
 ∀(s:Ab) (us:List Aa),K.In s.heap->(us++ds).length=ps.length->BindsTo s fd ⟨us,[]⟩ (ps.zip (us++ds))
variable{fd:Ae}{ps:List Str}
theorem bL'.all(h:∀us:List Aa,us.length=ps.length->bindArgs fd ⟨us,[]⟩=pure (ps.zip us)):bL' K fd ps []:=λs us _ hl=>by
 rw[List.append_nil] at hl ⊢;exact .of_eq (h us hl)
def bh'(CX:CXT)(X:Cx)(E:XK):Prop:=∀(pins:List (Addr × Obj)) (σ:St) (H:Hp) (s:Ab) (e:Aa) (s':Ab),Inv X pins σ H s->CX X.stack H s E e s'->X.xe e s'
variable{E:XK}{Q:VK}{f:Addr}{dvs vs:List V}{CX:CXT}{sp:Sp}{ds:List Aa}
theorem fs_{s:Ab}{us:List Aa}(F:FnOk X.prog X.w X.K X.mg X.base CX k f fd ps sp)(hr:Room k X.A)(hb:bL' X.K fd ps ds)(hd:Vals dvs ds)(hx:bh' CX X E)(I:Inv X pins σ H s)(r:Vals vs us)(h:sp (vs++dvs) H Q E):wpAny (model X.prog X.w) X.A (call (.ref f) us) (EP X pins σ Q) X.xe s:=by
 have r2:Vals (vs++dvs) (us++ds):=r.append hd;have hl:(us++ds).length=ps.length:=by rw[<- r2.length];exact F.len _ _ _ _ h
 refine wpAny_call (codeAny_mono (F.run X.A X.stack s H ⟨us,[]⟩ (us++ds) (vs++dvs) Q E hr I.env0 (hb s us I.kIn hl) r2 h) λr s' hq=>?_);cases r with
 |error e=>exact hx pins σ H s e s' I hq
 |ok fl=>
  cases fl with
  |ret u=>exact I.after hq
  |next=>exact False.elim hq
  |brk=>exact False.elim hq
  |cont=>exact False.elim hq
variable{x:Str}{e:Expr}{t:TA}{es:List Expr}
theorem gi_(F:FnOk X.prog X.w X.K X.mg X.base CX k f fd ps sp)(hr:Room k X.A)(hg:Gl X x)(hm:X.mg x=some (.ref f))(hk:PySem.W.keepIn X.K (.ref f)=true)(hb:bL' X.K fd ps ds)(hd:Vals dvs ds)(hx:bh' CX X E)
  (ha:PA X (e::es) t) (hdb:(x == ("__debug__":Str))=false:=by decide) (he:starEach (e::es) X.env=(false,eval e X.env)::starEach es X.env:=by rfl) (hpl:(backTo pos (starEach es X.env)).any (·.1)=false:=by rfl) :
  PE X (.Call (.Name x p) (e::es) [] pos) (tCall sp dvs E t):=by
 intro pins s σ H Q I h;refine wpAny_Call_Name_kw (bO_ I hg hm ?_ hdb);refine PySem.W.callWith_K (h₀:=X.base) I.ok.mod.kin hk (thn (ha pos pins s σ H _ I h) λus s1 ⟨vs,H1,I1,r,q⟩=>⟨I1.kIn,?_⟩) he hpl;exact fs_ F hr hb hd hx I1 r q
variable{o:Expr}{ta:TE}{pl:Sem Bool}{C:Addr}{m:Str}{apos:Pos}
theorem fL_(he:PE X o ta)(c:Cls X.K C)(hm:Meth X.K C m f)(F:FnOk X.prog X.w X.K X.mg X.base CX k f fd ps sp)(hr:Room k X.A)(hb:bL' X.K fd ps ds)(hd:Vals dvs ds)(hx:bh' CX X E)(ha:PA X (e::es) t)(hst:starEach (e::es) X.env=(false,eval e X.env)::starEach es X.env:=by rfl)(hpl:(backTo pos (starEach es X.env)).any (·.1)=false:=by rfl)(ht:eval (.Call (.Attribute o m apos) (e::es) [] pos) X.env=(do
   let ov <- eval o X.env
   standAt apos.atName
   let (f,first) <- holding [ov] (getMethod ov m pl)
   callWith pos f first (backTo pos (starEach (e::es) X.env)) (backToKw pos (keywordEach [] X.env))):=by rfl) :
  PE X (.Call (.Attribute o m apos) (e::es) [] pos) (tMeth C m sp dvs E ta t):=by
 intro pins s σ H Q I h;refine PySem.W.methodCall_KW (pl:=pl) (thn (he pins s σ H _ I h) λu s1 ⟨x,H1,I1,rx,a,dx,fs,ex,ea,l,q⟩=>?_) ht;subst ex;obtain rfl:u=Value.ref a:=rx;refine cR_ I1 ea c hm l ?_;refine PySem.W.callWith_K (first:=[.ref a]) (h₀:=X.base) I.ok.mod.kin hm.kp (thn (ha pos pins s1 σ H1 _ I1 q) λus s2 ⟨vs,H2,I2,r,q2⟩=>⟨I2.kIn,?_⟩) hst hpl;exact fs_ (us:=.ref a::us) (vs:=.ref a::vs) F hr hb hd hx I2 (.cons rfl r) q2
theorem hb_(he:PE X o ta)(c:Cls X.K C)(hm:Meth X.K C m f)(F:FnOk X.prog X.w X.K X.mg X.base CX k f fd ps sp)(hr:Room k X.A)(hb:bL' X.K fd ps ds)(hd:Vals dvs ds)(hx:bh' CX X E)(ht:eval (.Call (.Attribute o m apos) [] [] pos) X.env=(do
   let ov <- eval o X.env
   standAt apos.atName
   let (f,first) <- holding [ov] (getMethod ov m pl)
   callWith pos f first (backTo pos (starEach [] X.env)) (backToKw pos (keywordEach [] X.env))):=by rfl) :
  PE X (.Call (.Attribute o m apos) [] [] pos) (tMeth C m sp dvs E ta tNil):=by
 intro pins s σ H Q I h;refine PySem.W.methodCall_KW (pl:=pl) (thn (he pins s σ H _ I h) λu s1 ⟨x,H1,I1,rx,a,dx,fs,ex,ea,l,q⟩=>?_) ht;subst ex;obtain rfl:u=Value.ref a:=rx;refine cR_ I1 ea c hm l ?_;exact PySem.W.callWith_K0 (first:=[.ref a]) I1.kIn hm.kp (fs_ (us:=[.ref a]) (vs:=[.ref a]) F hr hb hd hx I1 (.cons rfl .nil) q)
structure Mk (K:F__) (C f:Addr):Prop where
 makes:PySem.W.makesIn K C=true
 init:PySem.W.findIn K (.ref C) "__init__"=some (some (.ref f))
 fn:PySem.W.isFn K (.ref f)=true
 kp:PySem.W.keepIn K (.ref C)=true
theorem hC_{s:Ab}{us:List Aa}(M:Mk X.K C f)(F:FnOk X.prog X.w X.K X.mg X.base CX k f fd ps sp)(hr:Room (k+1) X.A)(hb:bL' X.K fd ps ds)(hd:Vals dvs ds)(hx:bh' CX X E)(I:Inv X pins σ H s)(r:Vals vs us)(h:∀x dx,H x=none->H dx=none->dx≠x->sp (.ref x::(vs++dvs)) (upd (upd H dx (.own x)) x (.ins C dx [])) (λv H2=>v=.non/\Q (.ref x) H2) E) :
  wpAny (model X.prog X.w) X.A (call (.ref C) us) (EP X pins σ Q) X.xe s:=by
 have hq:=h (s.heap.objs.size+1) s.heap.objs.size (I.hok.fresh (Nat.le_succ _)) (I.hok.fresh (ae' _)) (aj' (Nat.lt_succ_self _));have I2:=Inv.made (C:=C) I;have r2:Vals (V.ref (s.heap.objs.size+1)::(vs++dvs)) (Value.ref (s.heap.objs.size+1)::(us++ds)):=.cons rfl (r.append hd)
 have hl:(Value.ref (s.heap.objs.size+1)::us++ds).length=ps.length:=by
  have e:=r2.length;rw[F.len _ _ _ _ hq] at e;exact e.symm
 refine wpAny_call (hK_ (f:=f) I.kIn M.makes M.init (beq_iff_eq.mp M.fn) (codeAny_mono (F.run _ X.stack _ _ ⟨Value.ref (s.heap.objs.size+1)::us,[]⟩ (Value.ref (s.heap.objs.size+1)::(us++ds)) _ _ E (hr.make C us [])
  (I2.env0.make C us []) (hb _ (Value.ref (s.heap.objs.size+1)::us) I2.kIn hl) r2 hq) λr s' hq'=>?_))
 cases r with
 |error e=>exact hx pins σ _ _ e s' I2 hq'
 |ok fl=>
  cases fl with
  |ret u=>
   obtain⟨v,H',I3,rv,ev,q3⟩:=I2.after hq';subst ev;exact⟨rv,⟨V.ref (s.heap.objs.size+1),H',I3,rfl,q3⟩⟩
  |next=>exact False.elim hq'
  |brk=>exact False.elim hq'
  |cont=>exact False.elim hq'
theorem ix_(M:Mk X.K C f)(F:FnOk X.prog X.w X.K X.mg X.base CX k f fd ps sp)(hr:Room (k+1) X.A)(hg:Gl X x)(hm:X.mg x=some (.ref C))(hb:bL' X.K fd ps ds)(hd:Vals dvs ds)(hx:bh' CX X E)
  (ha:PA X (e::es) t) (hdb:(x == ("__debug__":Str))=false:=by decide) (he:starEach (e::es) X.env=(false,eval e X.env)::starEach es X.env:=by rfl) (hpl:(backTo pos (starEach es X.env)).any (·.1)=false:=by rfl) :
  PE X (.Call (.Name x p) (e::es) [] pos) (tMake C sp dvs E t):=by
 intro pins s σ H Q I h;refine wpAny_Call_Name_kw (bO_ I hg hm ?_ hdb);refine PySem.W.callWith_K (h₀:=X.base) I.ok.mod.kin M.kp (thn (ha pos pins s σ H _ I h) λus s1 ⟨vs,H1,I1,r,q⟩=>⟨I1.kIn,?_⟩) he hpl;exact hC_ M F hr hb hd hx I1 r q
def PK(X:Cx)(kws:List Keyword)(t:TA):Prop:=
 ∀(pos:Pos) (pins:List (Addr × Obj)) (s:Ab) (σ:St) (H:Hp) (Q:List V->Hp->Prop),Inv X pins σ H s->t σ H Q->wpAny (model X.prog X.w) X.A (evalAll ((backToKw pos (keywordEach kws X.env)).map (·.2))) (AP X pins σ Q) X.xe s
theorem j8_:PK X [] tNil:=λ_ _ _ _ H Q I h=>wpAny_evalAll_nil ⟨[],H,I,.nil,h⟩
variable{te:TE}{kpos:Pos}{kws:List Keyword}{nm:Option Str}
theorem ib_(ha:PE X e te)(hr:PK X kws t):PK X (⟨nm,e,kpos⟩::kws) (bm' te t):=by
 intro pos pins s σ H Q I h;show wpAny _ _ (evalAll ((do let v <- eval e X.env;standAt pos;pure v)::(backToKw pos (keywordEach kws X.env)).map (·.2))) _ _ s;refine wpAny_evalAll_cons (a__ (thn (ha pins s σ H _ I h) λu s1 ⟨x,H1,I1,r1,q1⟩=>a__ (wpAny_standAt (a_1 ?_))));exact thn (hr pos pins s1 σ H1 _ I1 q1) λus s2 ⟨xs,H2,I2,r2,q2⟩=>⟨x::xs,H2,I2,.cons r1 r2,q2⟩
structure KBinds (K:F__) (fd:Ae) (ps ks:List Str) (g:List Aa->List Aa->List Aa) (gV:List V->List V->List V):Prop where
 to:∀(s:Ab) (us ws:List Aa),K.In s.heap->(g us ws).length=ps.length->BindsTo s fd ⟨us,ks.zip ws⟩ (ps.zip (g us ws))
 rel:∀{vs:List V} {us:List Aa} {zs:List V} {ws:List Aa},Vals vs us->Vals zs ws->Vals (gV vs zs) (g us ws)
structure aX' (N P:List Str) (sc:Scope):Prop where
 kind:sc.kind=.function
 co:sc.isCoroutine=false
 gen:sc.isGenerator=false
 nd:N.Nodup
 pre:N.take P.length=P
 par:∀x∈P,sc.names.lookup x=some .local∨sc.names.lookup x=some .cell
 nofree:∀y∈sc.names,y.2≠.free
theorem dx_{kindOf:Str->Option NameKind}{x:Str}:∀{binds:List (Str × Aa)} {m:Str->Option Aa},(∀v,(x,v)∉binds)->bindL kindOf binds m x=m x
 |[],_,_=>rfl
 |(n,v)::r,m,h=>by
  unfold bindL;rw[dx_ λw hw=>h w (af' _ hw)];split
  ·have:x≠n:=by rintro rfl;exact h v ak'
   simp[this]
  ·rfl
theorem dV_{kindOf:Str->Option NameKind}{x:Str}:∀{binds:List (Str × Aa)} {m:Str->Option Aa},(∀v,(x,v)∉binds)->bindC kindOf binds m x=m x
 |[],_,_=>rfl
 |(n,v)::r,m,h=>by
  unfold bindC;rw[dV_ λw hw=>h w (af' _ hw)];split
  ·rfl
  ·have:x≠n:=by rintro rfl;exact h v ak'
   simp[this]
theorem dQ_{kindOf:Str->Option NameKind}{x:Str}{v:Aa}:∀{P:List Str} {vs:List Aa} {i:Nat} {m:Str->Option Aa},P.Nodup->P[i]? = some x->vs[i]? = some v->kindOf x=some .local->
  bindL kindOf (P.zip vs) m x=some v
 |[],_,_,_,_,h,_,_=>by simp at h
 |_::_,[],_,_,_,_,h,_=>by simp at h
 |p::P,w::vs,0,m,nd,h1,h2,hk=>by
  simp at h1 h2;subst h1;subst h2;show bindL kindOf ((p,w)::P.zip vs) m p=_;unfold bindL;rw[dx_ λv hv=>(aN'.mp nd).1 (List.of_mem_zip hv).1,a_8 hk];simp
 |p::P,w::vs,i+1,m,nd,h1,h2,hk=>by
  show bindL kindOf ((p,w)::P.zip vs) m x=_;unfold bindL;exact dQ_ (i:=i) (aN'.mp nd).2 (by simpa using h1) (by simpa using h2) hk
theorem dS_{kindOf:Str->Option NameKind}{x:Str}{v:Aa}:∀{P:List Str} {vs:List Aa} {i:Nat} {m:Str->Option Aa},P.Nodup->P[i]? = some x->vs[i]? = some v->kindOf x≠some .local->
  bindC kindOf (P.zip vs) m x=some v
 |[],_,_,_,_,h,_,_=>by simp at h
 |_::_,[],_,_,_,_,h,_=>by simp at h
 |p::P,w::vs,0,m,nd,h1,h2,hk=>by
  simp at h1 h2;subst h1;subst h2;show bindC kindOf ((p,w)::P.zip vs) m p=_;unfold bindC;rw[dV_ λv hv=>(aN'.mp nd).1 (List.of_mem_zip hv).1,a_6 hk];simp
 |p::P,w::vs,i+1,m,nd,h1,h2,hk=>by
  show bindC kindOf ((p,w)::P.zip vs) m x=_;unfold bindC;exact dS_ (i:=i) (aN'.mp nd).2 (by simpa using h1) (by simpa using h2) hk
def start(N:List Str)(vs:List V):St:=vs.map some++List.replicate (N.length - vs.length) none
def cxOf(CX:CXT)(P:Ad)(w:Af)(K:F__)(mg:Str->Option Aa)(base:Heap)(N:List Str)(qual:Str)(scope:Scope)(f:Addr)(cd:Aa)(A:Ah)(outer:List Env)(s:Ab)(H:Hp)(E:XK):Cx where
 prog:=P
 w:=w
 K:=K
 mg:=mg
 base:=base
 A:=A.deeper (envOfC qual scope s.heap.objs.size f cd)
 N:=N
 s₀:=s
 H₀:=H
 env:=envOfC qual scope s.heap.objs.size f cd
 outer:=outer
 stack:=envOfC qual scope s.heap.objs.size f cd::outer
 ex:=[]
 calm:=true
 fn:=λ_=>true
 pn:=[]
 xe:=λe s'=>wpAny (model P w) (A.deeper (envOfC qual scope s.heap.objs.size f cd)) (leaving (envOfC qual scope s.heap.objs.size f cd) e) (λ_ s''=>CX outer H s E e s'') (λe' s''=>CX outer H s E e' s'') s'
theorem eD_{sc:Scope}(h:sc.names.lookup x=some .cell):∃c,(cellsFrom n sc.names []).lookup x=some c:=by
 have q:=PySem.W.cellsFrom_some sc.names n [] (.inl h);exact aG'.mp q
variable{N:List Str}{qual:Str}{scope:Scope}
theorem gD_{cd:Aa}{s s1:Ab}{us:List Aa}(S:aX' N ps scope)(hd:A.handled=none)(e0:Env0 P w K mg base A outer s H)(hl:vs.length=ps.length)(r:Vals vs us)(x:InCallC s s.heap.objs.size (bindL (envOfC qual scope s.heap.objs.size f cd).kindOf (ps.zip us) λ_=>none) (cellsFrom (s.heap.objs.size+1) scope.names []) (bindC (envOfC qual scope s.heap.objs.size f cd).kindOf (ps.zip us) λ_=>none) s1) :
  Inv (cxOf CX P w K mg base N qual scope f cd A outer s H E) [] (start N vs) H s1:=by
 have hpl:ps.length<=N.length:=by have:=b_5 List.length S.pre;rw[ai'] at this;omega
 obtain⟨h1,tk,rfl,hk⟩:=x.done;have noA:∀b:Addr,b∉(cxOf CX P w K mg base N qual scope f cd A outer s H E).ex:=λb z=>absurd (show b∈([]:List Addr) from z) Z2
 refine⟨⟨e0.mod,S.kind,rfl,rfl,ae' _,λy z c h1 h2=>?_,λy hy=>?_,λy c _ h=>?_,λ_=>hd,Around.frames_deeper e0.frames,.inr ⟨rfl,rfl⟩,λb z=>absurd z (noA b),e0.bs,e0.bsz,λb _ _=>noA b,λb z=>absurd z (noA b),e0.funs,e0.frf⟩,
  rfl,e0.bare,Un.kept hk,⟨_,x.toInCall.ns,λi y v h1 h2 h3=>?_⟩,λy c h=>⟨_,x.cell y c h⟩,e0.hok.fresh (ae' _),λy c h=>?_,λp hp=>absurd (show p∈([]:List (Addr × Obj)) from hp) Z2,e0.hok.kept hk,?_⟩
 ·exact name_of_addr x.apart (c_2 h1) (c_2 h2)
 ·have hy:scope.names.lookup y=some .cell∨scope.names.lookup y=some .free:=hy;rcases hy with hy|hy
  ·exact eD_ hy
  ·exact absurd rfl (S.nofree _ (c_2 hy))
 ·exact Nat.le_of_lt (x.above y c (c_2 h))
 ·have hi:i<vs.length:=by
   unfold start at h2;by_cases hi:i<vs.length
   ·exact hi
   ·rw[List.getElem?_append_right (by simpa using hi)] at h2;rw[List.getElem?_replicate] at h2;split at h2<;>cases h2
  have ha:vs[i]? = some v:=by
   unfold start at h2;rw[List.getElem?_append_left (by simpa using hi),ao'] at h2;cases e:vs[i]? with
   |none=>rw[e] at h2;cases h2
   |some a=>rw[e] at h2;cases h2;rfl
  obtain⟨u,hu,rv⟩:=r.get ha
  have hp:ps[i]? = some y:=by
   rw[<- S.pre,List.getElem?_take_of_lt Z1];exact h1
  have ndP:ps.Nodup:=by rw[<- S.pre];exact S.nd.sublist (List.take_sublist _ _)
  refine⟨u,rv,?_⟩;rcases S.par y (ad' hp) with k|k
  ·exact .inl ⟨k,dQ_ ndP hp hu k⟩
  ·obtain⟨c,e⟩:=eD_ (n:=s.heap.objs.size+1) k;refine .inr ⟨.inl k,c,e,?_⟩;have q:=x.cell y c e;rw[dS_ ndP hp hu (by show scope.names.lookup y≠_;rw[k];decide)] at q;exact q
 ·exact e0.hok.fresh (Nat.le_of_lt (x.above y c (c_2 h)))
 ·unfold start;show _=N.length;rw[av',aa',aO'];omega
theorem iM_{name:Str}{params:Arguments}{dV kV doc pm cdv ct oc:Aa}{an od:Option Addr}{osl:Array (Option Aa)}(lk:K.lookup f=some ⟨oc,od,.func (PySem.W.fnOf name qual params body scope dV kV doc pm an cdv ct),osl⟩)(hcd:PySem.W.codeIn K cdv qual=true)(S:aX' N ps scope)(len:∀vs H Q E,sp vs H Q E->vs.length=ps.length)(hbody:∀(A:Ah) (outer:List Env) (s:Ab) (H:Hp) (vs:List V) (Q:VK) (E:XK),Room k (A.deeper (envOfC qual scope s.heap.objs.size f cdv))->sp vs H Q E->
   ∃t,PSs (cxOf CX P w K mg base N qual scope f cdv A outer s H E) body t/\t { nx:=λ_ H'=>Q .non H',rt:=Q } (start N vs) H) :
  FnOk P w K mg base CX (k+1) f (PySem.W.fnOf name qual params body scope dV kV doc pm an cdv ct) ps sp:=by
 refine⟨len,λA outer s H args us vs Q E hr e0 hb r hsp=>?_⟩;have hl:=len _ _ _ _ hsp;have KX:K.In s.heap:=e0.mod.kin.keeps λb o e=>(e0.bs b o e).1;have lim:s.heap.NoLimit:=e0.mod.nolimit.keeps λb o e=>(e0.bs b o e).1
 have hkind:∀y∈ps.zip us,scope.names.lookup y.1=some .local∨(scope.names.lookup y.1=some .cell/\((cellsFrom (s.heap.objs.size+1) scope.names []).lookup y.1).isSome=true):=λ⟨n,v⟩ hy=>by
  rcases S.par n (List.of_mem_zip hy).1 with q|q
  ·exact .inl q
  ·exact .inr ⟨q,PySem.W.cellsFrom_some _ _ _ (.inl q)⟩
 refine codeAny_call_function hr.depth (KX _ _ lk) rfl S.co S.gen rfl (PySem.W.codeRec_of KX hcd) (hb _ _ _ _ ?_);refine wpAny_newFunctionEnv_cells S.kind hkind λenv he s1 x=>?_;subst he;refine⟨lim.keeps x.toInCall.keep,codeAny_func ?_⟩;obtain⟨t,ht,hq⟩:=hbody A outer s H vs Q E (hr.deeper _) hsp;have I:Inv (cxOf CX P w K mg base N qual scope f cdv A outer s H E) [] (start N vs) H s1:=gD_ S hr.hd e0 hl r x;refine wpAny_mono (ht [] s1 (start N vs) H _ I hq) (λfl s' hs=>?_) λe s' hs=>hs
 have fin:∀{σ':St} {H':Hp} {v:V} {u:Aa},Inv (cxOf CX P w K mg base N qual scope f cdv A outer s H E) [] σ' H' s'->RelV v u->Q v H'->CE outer P w H s Q u s':=
  λ{σ' H' v u} J rv q=>⟨v,H',J.os,J.bare,J.base,J.hok,rv,q⟩
 cases fl with
 |ret u=>
  obtain⟨v,σ',H',J,rv,q⟩:=hs;exact fin J rv q
 |next=>
  obtain⟨σ',H',J,q⟩:=hs;exact fin (v:=V.non) (u:=Value.none) J rfl q
 |brk=>
  obtain⟨_,_,_,q⟩:=hs;exact False.elim q
 |cont=>
  obtain⟨_,_,_,q⟩:=hs;exact False.elim q
def tCB(r:List V->Hp->VK->Prop)(t:TA):TE:=λσ H Q=>t σ H λvs H1=>r vs H1 Q
variable{r:List V->Hp->VK->Prop}{id:String}
theorem a8_(hc:bc' X (.builtin id) r)(hg:Gl X x)(hm:X.mg x=none)(hv:bootBuiltins x=some (.builtin id))(ha:PA X (e::es) t)(hn:x≠"__name__":=by decide)(hdb:(x == ("__debug__":Str))=false:=by decide)
  (he:starEach (e::es) X.env=(false,eval e X.env)::starEach es X.env:=by rfl) (hpl:(backTo pos (starEach es X.env)).any (·.1)=false:=by rfl):PE X (.Call (.Name x p) (e::es) [] pos) (tCB r t):=by
 intro pins s σ H Q I h;refine wpAny_Call_Name_kw (cx_ I hg hm hv ?_ hn hdb);exact PyProof.Rows.callWith_builtin1 (thn (ha pos pins s σ H _ I h) λus s1 ⟨vs,H1,I1,r1,q1⟩=>hc pins s1 σ H1 vs us Q I1 r1 q1) he hpl
variable{T:String}
theorem am_(hc:bc' X (.type T) r)(hg:Gl X x)(hm:X.mg x=none)(hv:bootBuiltins x=some (.type T))(ha:PA X (e::es) t)(hn:x≠"__name__":=by decide)(hdb:(x == ("__debug__":Str))=false:=by decide)
  (he:starEach (e::es) X.env=(false,eval e X.env)::starEach es X.env:=by rfl) (hpl:(backTo pos (starEach es X.env)).any (·.1)=false:=by rfl):PE X (.Call (.Name x p) (e::es) [] pos) (tCB r t):=by
 intro pins s σ H Q I h;refine wpAny_Call_Name_kw (cx_ I hg hm hv ?_ hn hdb);exact PyProof.Rows.callWith_type1 (thn (ha pos pins s σ H _ I h) λus s1 ⟨vs,H1,I1,r1,q1⟩=>hc pins s1 σ H1 vs us Q I1 r1 q1) he hpl
end L2
namespace HT
open PySem PyProof.Rows
section
open PySem.SeqAt
open PySem.AutoSeq1 (wpAny_loadPart')
open PySem.MeetsSeq PySem.MeetsSeq2 PySem.MeetsSeq3
end
def sIx(n d:Nat):Option Int->Nat
 |none=>d
 |some v=>if v<0 then (v+(n:Int)).toNat else min v.toNat n
theorem sIx_none(n d:Nat):sIx n d none=d:=rfl
theorem sIx_nat(n d k:Nat):sIx n d (some (k:Int))=min k n:=by
 show (if (k:Int)<0 then ((k:Int)+(n:Int)).toNat else min (k:Int).toNat n)=min k n;rw[a_6 Z1,aT']
end HT
namespace L2
open PySem PySem.Spec PyProof.Rows
abbrev TO:=St->Hp->(Option Int->Hp->Prop)->Prop
def PO(X:Cx)(e:Option Expr)(t:TO):Prop:=
 ∀(pins:List (Addr × Obj)) (s:Ab) (σ:St) (H:Hp) (Q:Option Int->Hp->Prop),Inv X pins σ H s->t σ H Q->
  wpAny (model X.prog X.w) X.A (evalPart e X.env) (λu s'=>∃o H',Inv X pins σ H' s'/\IsPart u o/\Q o H') X.xe s
def tNoPart:TO:=λ_ H Q=>Q none H
inductive tPartR (Q:Option Int->Hp->Prop) (x:V) (H1:Hp):Prop
 |mk:∀i,x=.int i->Q (some i) H1->tPartR Q x H1
def tPart(t:TE):TO:=λσ H Q=>t σ H λx H1=>tPartR Q x H1
section
variable{X:Cx}{e:Expr}{te:TE}{lo hi:Option Expr}{tl th:TO}{pos p2:Pos}
theorem bs_:PO X none tNoPart:=by
 intro pins s σ H Q I h;rw[evalPart_none];exact a_1 ⟨none,H,I,.none,h⟩
theorem bu_(h:PE X e te):PO X (some e) (tPart te):=by
 intro pins s σ H Q I hw;rw[evalPart_some];refine thn (h pins s σ H _ I hw) λu s1 ⟨x,H1,I1,r1,q1⟩=>?_;obtain⟨i,rfl,q⟩:=q1;obtain⟨t,rfl⟩:=r1;exact⟨some i,H1,I1,.int i t,q⟩
def SlR(X:Cx)(r:V->Option Int->Option Int->Hp->VK->Prop):Prop:=
 ∀(pins:List (Addr × Obj)) (s:Ab) (σ:St) (H:Hp) (x:V) (v vl vu:Aa) (lo hi:Option Int) (sl:Addr) (Q:VK),Inv X pins σ H s->RelV x v->s.heap.IsSliceOf sl vl vu .none->IsPart vl lo->IsPart vu hi->r x lo hi H Q->
  ∃T id,typeLookup (.type T) "__getitem__"=pure (some (.builtin id))/\s.TypeIs v T/\wpAny (model X.prog X.w) X.A (getItem v (.ref sl)) (EP X pins σ Q) X.xe s
def tSl(r:V->Option Int->Option Int->Hp->VK->Prop)(te:TE)(tl th:TO):TE:=λσ H Q=>te σ H λx H1=>tl σ H1 λl H2=>th σ H2 λu H3=>r x l u H3 Q
theorem b1_{r:V->Option Int->Option Int->Hp->VK->Prop}(hr:SlR X r)(he:PE X e te)(hl:PO X lo tl)(hu:PO X hi th):PE X (.Subscript e (.Slice lo hi none p2) pos) (tSl r te tl th):=by
 intro pins s σ H Q I h;refine Subscript_ (thn (he pins s σ H _ I h) λv s1 ⟨x,H1,I1,r1,q1⟩=>?_);refine wpAny_Slice (thn (hl pins s1 σ H1 _ I1 q1) λvl s2 ⟨l,H2,I2,pl,q2⟩=>thn (hu pins s2 σ H2 _ I2 q2) λvu s3 ⟨u,H3,I3,pu,q3⟩=>?_);rw[evalPart_none];refine a_1 ?_;have I4:Inv X pins σ H3 { s3 with heap:=s3.heap.push { cls:=.type "slice",data:=.fields #[vl,vu,.none] } }:=I3.kept (t':=s3.toks) λb ob q=>a_0 _ q;obtain⟨T,id,hT,ht,hg⟩:=hr pins { s3 with heap:=s3.heap.push { cls:=.type "slice",data:=.fields #[vl,vu,.none] } } σ H3 x v vl vu l u s3.heap.objs.size Q I4 r1 (Heap.IsSliceOf.new ..) pl pu q3;show wpAny (model X.prog X.w) X.A (subscriptTail e (.Slice lo hi none p2) v (.ref s3.heap.objs.size)) (EP X pins σ Q) X.xe { s3 with heap:=s3.heap.push { cls:=.type "slice",data:=.fields #[vl,vu,.none] } };exact tail_any (ops:=[.ref s3.heap.objs.size,v]) ht hT hg (by with_unfolding_all rfl)
def cutV(xs:List V)(lo hi:Option Int):List V:=(xs.drop (HT.sIx xs.length 0 lo)).take (HT.sIx xs.length xs.length hi - HT.sIx xs.length 0 lo)
theorem eu_(xs:List V)(lo hi:Option Int):(cutV xs lo hi).length<=xs.length:=by
 unfold cutV;rw[ai',aQ'];omega
end
def ixN(n:Nat)(i:Int):Option Nat:=if 0<=i then (if i<n then some i.toNat else none) else if -(n:Int)<=i then some (i+n).toNat else none
def atI{α:Type}(xs:List α)(i:Int):Option α:=(ixN xs.length i).bind λj=>xs[j]?
variable{n:Nat}
theorem g1_{i:Int}{j:Nat}(h:ixN n i=some j):seqIndex? i n=some j/\j<n/\-(n:Int)<=i/\i<n:=by
 unfold ixN at h;by_cases h0:0<=i
 ·rw[a_8 h0] at h;by_cases h1:i<n
  ·rw[a_8 h1] at h;have e:i.toNat=j:=a_9 h;exact⟨by rw[seqIndex_of h0 h1,e],by omega,by omega,h1⟩
  ·rw[a_6 h1] at h;cases h
 ·rw[a_6 h0] at h;by_cases h1:-(n:Int)<=i
  ·rw[a_8 h1] at h;have e:(i+n).toNat=j:=a_9 h;exact⟨by rw[seqIndex_neg Z1 h1,e],by omega,h1,by omega⟩
  ·rw[a_6 h1] at h;cases h
theorem es_{α:Type}{xs:List α}{i:Int}{v:α}(h:atI xs i=some v):∃j,seqIndex? i xs.length=some j/\xs[j]? = some v/\j<xs.length/\-(xs.length:Int)<=i/\i<xs.length:=by
 unfold atI at h;cases e:ixN xs.length i with
 |none=>rw[e] at h;cases h
 |some j=>
  rw[e] at h;obtain⟨h1,h2,h3,h4⟩:=g1_ e;exact⟨j,h1,h,h2,h3,h4⟩
def PlainIx(b:Expr):Prop:=∀o i,subscripted b false o i=operate [o,i] (getItem o i)
def IxR(X:Cx)(r:R2):Prop:=
 ∀(value slice:Expr) (pins:List (Addr × Obj)) (s:Ab) (σ:St) (H:Hp) (x y:V) (v u:Aa) (Q:VK),Inv X pins σ H s->RelV x v->RelV y u->r x y H Q->
  subscripted slice false v u=operate [v,u] (getItem v u)->wpAny (model X.prog X.w) X.A (subscriptTail value slice v u) (EP X pins σ Q) X.xe s
def MtR(X:Cx)(id:String)(r:V->List V->Hp->VK->Prop):Prop:=
 ∀(pins:List (Addr × Obj)) (s:Ab) (σ:St) (H:Hp) (x:V) (xs:List V) (v:Aa) (us:List Aa) (Q:VK),Inv X pins σ H s->RelV x v->Vals xs us->r x xs H Q->
  wpAny (model X.prog X.w) X.A (call (.builtin id) (v::us)) (EP X pins σ Q) X.xe s
section
variable{X:Cx}{a b:Expr}{ta tb:TE}{pos:Pos}
theorem an_{r:R2}(hr:IxR X r)(ha:PE X a ta)(hb:PE X b tb)(hs:PlainIx b):PE X (.Subscript a b pos) (tOp r ta tb):=by
 intro pins s σ H Q I h;exact Subscript_ (binT ha hb I h λv u s2 x y H2 I2 rx ry q=>hr a b pins s2 σ H2 x y v u Q I2 rx ry q (hs _ _))
inductive rIxL (K:F__) (x:V) (y:V) (H:Hp) (Q:VK):Prop
 |mk:∀p xs i v,x=.ref p->y=.int i->SqL K H p xs->atI xs i=some v->Q v H->rIxL K x y H Q
inductive rIxT (K:F__) (x:V) (y:V) (H:Hp) (Q:VK):Prop
 |mk:∀p xs i v,x=.ref p->y=.int i->SqT K H p xs->atI xs i=some v->Q v H->rIxT K x y H Q
inductive rIxS (x:V) (y:V) (H:Hp) (Q:VK):Prop
 |mk:∀z i c,x=.str z->y=.int i->z.length<=sizeLine->atI z.cps.toList i=some c->Q (.str ⟨#[c]⟩) H->rIxS x y H Q
theorem ar_:IxR X (rIxL X.K):=by
 intro value slice pins s σ H x y v u Q I rx ry h hs;obtain⟨p,xs,i,z,rfl,rfl,hq,he,q⟩:=h;cases rx;obtain⟨t,rfl⟩:=ry;obtain⟨its,r,pl,hz⟩:=I.list hq;obtain⟨j,h1,h2,h3,h4,h5⟩:=es_ he;obtain⟨w,ew,rw'⟩:=r.get h2;have hl:=r.length;have hn:=line63;have fin:EP X pins σ Q w s:=⟨z,H,I,rw',q⟩;by_cases h0:0<=i
 ·have hj:i.toNat=j:=by
   rw[seqIndex_of h0 h5] at h1;exact a_9 h1
  exact item_listR pl.isList h0 Z1 (by rw[hj];simpa using ew) fin hs
 ·have hj:(i+(its.toArray.size:Int)).toNat=j:=by
   rw[seqIndex_neg Z1 h4] at h1;rw[ag',<- hl];exact a_9 h1
  exact subscriptTail_builtinR (x:=w) pl.isList.typeIs slot_list_getitem.lookup
   (wpAny_getItem_list_neg (Q:=λr s'=>r=w/\EP X pins σ Q r s') pl.isList Z1 (by rw[ag']<;>omega) Z1 (by rw[hj];simpa using ew) ⟨rfl,fin⟩) hs
theorem aC_:IxR X (rIxT X.K):=by
 intro value slice pins s σ H x y v u Q I rx ry h hs;obtain⟨p,xs,i,z,rfl,rfl,hq,he,q⟩:=h;cases rx;obtain⟨t,rfl⟩:=ry;obtain⟨its,r,pl,hz⟩:=I.tuple hq;obtain⟨j,h1,h2,h3,h4,h5⟩:=es_ he;obtain⟨w,ew,rw'⟩:=r.get h2;have hl:=r.length;have hn:=line63;have fin:EP X pins σ Q w s:=⟨z,H,I,rw',q⟩
 exact subscriptTail_builtinR (x:=w) pl.typeIs slot_tuple_getitem.lookup
  (getItem_tuple (j:=j) (Q:=λr s'=>r=w/\EP X pins σ Q r s') pl Z1 Z1 (by rw[ag',<- hl];exact h1) (by simpa using ew) ⟨rfl,fin⟩) hs
theorem gr_:IxR X rIxS:=by
 intro value slice pins s σ H x y v u Q I rx ry h hs;obtain⟨z,i,c,rfl,rfl,hz,he,q⟩:=h;obtain⟨t,rfl⟩:=rx;obtain⟨t',rfl⟩:=ry;obtain⟨j,h1,h2,h3,h4,h5⟩:=es_ he;have hl:z.cps.toList.length=z.length:=by simp[Str.length]
 rw[hl] at h1 h4 h5;have hn:=line63
 exact tail_any (typeIs_str s z t) slot_str_getitem.lookup (getItem_str (c:=c) (by
  have e1:decide (i < -(2 ^ 63:Int))=false:=a_7 Z1;have e2:decide (i ≥ 2 ^ 63)=false:=a_7 Z1;rw[e1,e2,Bool.or_false]) (by rw[h1];simpa using h2) ⟨.str ⟨#[c]⟩,H,I.tok _,⟨_,rfl⟩,q⟩) hs
theorem ff_(its:List Aa)(n j:Nat)(u:Aa):Obj.mapSeq (·.setIfInBounds j u) { cls:=.type "list",data:=.seq its.toArray n }={ cls:=.type "list",data:=.seq (its.set j u).toArray n }:=by
 simp[Obj.mapSeq]
theorem Inv.lst{pins:List (Addr × Obj)}{σ:St}{H:Hp}{s:Ab}{p:Addr}{xs:List V}(I:Inv X pins σ H s)(h:H p=some (.lst xs)) :
  ∃(its:List Aa) (n:Nat),Vals xs its/\s.heap.get? p=some { cls:=.type "list",data:=.seq its.toArray n }/\xs.length<=sizeLine:=by
 obtain⟨z,its,n,r,e⟩:=I.hok p _ h;exact⟨its,n,r,e,z⟩
theorem Inv.lstUpd{pins:List (Addr × Obj)}{σ:St}{H:Hp}{s:Ab}{p:Addr}{xs ys:List V}{its its':List Aa}{n':Nat}{f:Obj->Obj}(I:Inv X pins σ H s)(h:H p=some (.lst xs))(ho:s.heap.get? p=some { cls:=.type "list",data:=.seq its.toArray n })(hf:f { cls:=.type "list",data:=.seq its.toArray n }={ cls:=.type "list",data:=.seq its'.toArray n' })(r:Vals ys its')(hz:ys.length<=sizeLine)(t:Nat) :
  Inv X pins σ (upd H p (.lst ys)) { s with heap:=s.heap.update p f,toks:=t }:=by
 have e:(s.heap.update p f).get? p=some { cls:=.type "list",data:=.seq its'.toArray n' }:=by
  rw[c_4 f ho (by rw[hf]<;>rfl),hf]
 refine I.write (x:=p) (e:=p) (by rw[h];trivial) (.inl rfl) (λb u hb q=>(b__ _ _ (Ne.symm hb)).trans q) ⟨_,e⟩ ?_;exact⟨hz,its',n',r,e⟩
inductive rSetL (o:V) (i:V) (v:V) (H:Hp) (Q:Hp->Prop):Prop
 |mk:∀p xs k j,o=.ref p->i=.int k->H p=some (.lst xs)->ixN xs.length k=some j->Q (upd H p (.lst (xs.set j v)))->rSetL o i v H Q
theorem dh_:PSet X rSetL:=by
 intro pins s σ H o i v ov iv u Q I ro ri rv h;obtain⟨p,xs,k,j,rfl,rfl,hp,hj,q⟩:=h;cases ro;obtain⟨t,rfl⟩:=ri;obtain⟨its,n,r,ho,hz⟩:=I.lst hp;obtain⟨h1,h2,h3,h4⟩:=g1_ hj;have hl:=r.length;have hn:=line63
 have I':Inv X pins σ (upd H p (.lst (xs.set j v))) { s with heap:=s.heap.update p (Obj.mapSeq (·.setIfInBounds j u)) }:=
  I.lstUpd hp ho (ff_ its n j u) (r.set rv j) (by rw[List.length_set];exact hz) s.toks
 by_cases h0:0<=k
 ·have hk:k.toNat=j:=by
   rw[seqIndex_of h0 h4] at h1;exact a_9 h1
  exact PySem.W.ki_setAt ho h0 Z1 (by rw[ag',<- hl];exact h4) (by rw[hk];exact⟨_,I',q⟩)
 ·have hk:(k+(its.toArray.size:Int)).toNat=j:=by
   rw[seqIndex_neg Z1 h3] at h1;rw[ag',<- hl];exact a_9 h1
  exact PySem.W.ki_setBack ho Z1 (by rw[ag',<- hl];exact h3) Z1 (by rw[hk];exact⟨_,I',q⟩)
theorem dB_(lo hi:Option Int)(n:Nat):(sliceBounds lo hi none n).1=((HT.sIx n 0 lo:Nat):Int)/\(sliceBounds lo hi none n).2.1=((HT.sIx n n hi:Nat):Int)/\(sliceBounds lo hi none n).2.2=1:=by
 refine⟨?_,?_,rfl⟩
 ·cases lo with
  |none=>simp[sliceBounds,HT.sIx]
  |some i=>
   simp only[sliceBounds,HT.sIx,Option.getD_none,show (1:Int) > 0 by decide,if_true];by_cases h:i<0
   ·simp only[h,if_true]<;>omega
   ·simp only[h,if_false]<;>omega
 ·cases hi with
  |none=>simp[sliceBounds,HT.sIx]
  |some i=>
   simp only[sliceBounds,HT.sIx,Option.getD_none,show (1:Int) > 0 by decide,if_true];by_cases h:i<0
   ·simp only[h,if_true]<;>omega
   ·simp only[h,if_false]<;>omega
theorem dr_(its:List Aa)(lo hi:Option Int):slicePick its.toArray lo hi none=((its.drop (HT.sIx its.length 0 lo)).take (HT.sIx its.length its.length hi - HT.sIx its.length 0 lo)).toArray:=by
 obtain⟨h1,h2,h3⟩:=dB_ lo hi its.toArray.size;unfold slicePick;rw[h1,h2,h3];simp only[sliceRange_one,pick_run,ag']<;>rfl
inductive rSlL (K:F__) (x:V) (lo:Option Int) (hi:Option Int) (H:Hp) (Q:VK):Prop
 |mk:∀a xs,x=.ref a->SqL K H a xs->(∀p,H p=none->Q (.ref p) (upd H p (.lst (cutV xs lo hi))))->rSlL K x lo hi H Q
theorem bt_:SlR X (rSlL X.K):=by
 intro pins s σ H x v vl vu lo hi sl Q I rx hs pl pu h;obtain⟨a,xs,rfl,hx,q⟩:=h;cases rx;obtain⟨its,r,ht,hz⟩:=I.list hx;have hlen:=r.length;refine⟨"list",_,slot_list_getitem.lookup,ht.isList.typeIs,?_⟩;refine wpAny_getItem_list_slice ht.isList hs pl pu .none Z2 ?_ (by rw[ag']<;>omega)
 rw[dr_,<- hlen];refine⟨.ref s.heap.objs.size,_,I.laid (t':=s.toks) (o:=.lst (cutV xs lo hi)) (λb ob q=>a_0 _ q) (ae' _) ?_,rfl,q _ (I.hok.fresh (ae' _))⟩;exact⟨aV' (eu_ xs lo hi) hz,_,0,(r.drop (HT.sIx xs.length 0 lo)).take (HT.sIx xs.length xs.length hi - HT.sIx xs.length 0 lo),a_3 _ rfl⟩
def flatV:V->Bool
 |.non=>true
 |.bl _=>true
 |.int _=>true
 |.str _=>true
 |_=>false
def eqV:V->V->Bool
 |.non,.non=>true
 |.bl a,.bl b=>a == b
 |.bl a,.int b=>(if a then 1 else 0) == b
 |.int a,.bl b=>a == (if b then 1 else 0)
 |.int a,.int b=>a == b
 |.str a,.str b=>a == b
 |_,_=>false
theorem fX_{A:Ah}{s:Ab}{y x:V}{u v:Aa}(ry:RelV y u)(rx:RelV x v)(fy:flatV y=true)(fx:flatV x=true):SeqAt.EqAt A s u v (eqV y x):=by
 cases y with
 |non=>
  cases ry;cases x with
  |non=>cases rx;exact SeqAt.EqAt.same _
  |bl b=>cases rx;exact SeqAt.EqAt.none_bool b
  |int b=>obtain⟨t,rfl⟩:=rx;exact SeqAt.EqAt.none_int b t
  |str b=>obtain⟨t,rfl⟩:=rx;exact SeqAt.EqAt.none_str b t
  |_=>exact absurd (show false=true from fx) am'
 |bl a=>
  cases ry;cases x with
  |non=>cases rx;exact SeqAt.EqAt.bool_none a
  |bl b=>cases rx;exact SeqAt.EqAt.bool_bool a b
  |int b=>obtain⟨t,rfl⟩:=rx;exact SeqAt.EqAt.bool_int a b t
  |str b=>obtain⟨t,rfl⟩:=rx;exact SeqAt.EqAt.bool_str a b t
  |_=>exact absurd (show false=true from fx) am'
 |int a=>
  obtain⟨t',rfl⟩:=ry;cases x with
  |non=>cases rx;exact SeqAt.EqAt.int_none a t'
  |bl b=>cases rx;exact SeqAt.EqAt.int_bool a t' b
  |int b=>obtain⟨t,rfl⟩:=rx;exact SeqAt.EqAt.int_int a t' b t
  |str b=>obtain⟨t,rfl⟩:=rx;exact SeqAt.EqAt.int_str a t' b t
  |_=>exact absurd (show false=true from fx) am'
 |str a=>
  obtain⟨t',rfl⟩:=ry;cases x with
  |non=>cases rx;exact SeqAt.EqAt.str_none a t'
  |bl b=>cases rx;exact SeqAt.EqAt.str_bool a t' b
  |int b=>obtain⟨t,rfl⟩:=rx;exact SeqAt.EqAt.str_int a t' b t
  |str b=>obtain⟨t,rfl⟩:=rx;exact SeqAt.EqAt.str_str a t' b t
  |_=>exact absurd (show false=true from fx) am'
 |_=>exact absurd (show false=true from fy) am'
inductive bE' (K:F__) (xs:List V) (H:Hp) (Q:VK):Prop
 |mk:∀p ys,xs=[.ref p]->(SqL K H p ys∨SqT K H p ys)->Q (.int ys.length) H->bE' K xs H Q
theorem ai_:bc' X (.builtin "len") (bE' X.K):=by
 intro pins s σ H xs us Q I r h;obtain⟨p,ys,rfl,hq,q⟩:=h;obtain⟨u,rfl,rx⟩:=vals1 r;cases rx;have hn:=line63;rcases hq with hq|hq
 ·obtain⟨its,r',pl,hz⟩:=I.list hq;have hlen:=r'.length;exact Calls.call_len_list pl.isList (by simp only[ag']<;>omega) ⟨.int ys.length,H,I.tok _,⟨s.toks+1,by rw[ag',hlen]⟩,q⟩
 ·obtain⟨its,r',pl,hz⟩:=I.tuple hq;have hlen:=r'.length;exact len_tuple pl (by simp only[ag']<;>omega) ⟨.int ys.length,H,I.tok _,⟨s.toks+1,by rw[ag',hlen]⟩,q⟩
inductive bG' (xs:List V) (H:Hp) (Q:VK):Prop
 |mk:∀z,xs=[.str z]->z.length<=sizeLine->Q (.int z.length) H->bG' xs H Q
theorem dK_:bc' X (.builtin "len") bG':=by
 intro pins s σ H xs us Q I r h;obtain⟨z,rfl,hz,q⟩:=h;obtain⟨u,rfl,t,rfl⟩:=vals1 r;have hn:=line63;exact len_str Z1 ⟨.int z.length,H,I.tok _,⟨_,rfl⟩,q⟩
def tyV(K:F__)(T:String)(x:V)(H:Hp):Prop:=match x with
 |.str _=>T="str"
 |.int _=>T="int"
 |.ref p=>(T="list"/\∃xs,SqL K H p xs)∨(T="tuple"/\∃o,K.lookup p=some o/\o.cls=.type "tuple"/\o.dict=none) ∨
   (T="dict"/\((∃kvs,H p=some (.dK kvs))∨∃kvs,H p=some (.dT kvs)))∨(T="set"/\∃S n,H p=some (.set S n))
 |_=>False
theorem i0_{pins:List (Addr × Obj)}{σ:St}{H:Hp}{s:Ab}{T:String}{x:V}{v:Aa}(I:Inv X pins σ H s)(r:RelV x v)(ty:tyV X.K T x H) :
  s.TypeIs v T/\∀a,v=.ref a->∃ob,s.heap.get? a=some ob/\ob.dict=none:=by
 cases x with
 |str z=>
  obtain⟨t,rfl⟩:=r;cases (show T="str" from ty);exact⟨typeIs_str s z t,λ_ e=>nomatch e⟩
 |int i=>
  obtain⟨t,rfl⟩:=r;cases (show T="int" from ty);exact⟨typeIs_int s i t,λ_ e=>nomatch e⟩
 |ref p=>
  cases r;rcases ty with⟨rfl,xs,hq⟩|⟨rfl,o,hk,hc,hd⟩|⟨rfl,hk⟩|⟨rfl,S,n,hk⟩
  ·obtain⟨its,_,pl,_⟩:=I.list hq;refine⟨pl.isList.typeIs,λa e=>?_⟩;cases e;obtain⟨o,n,e,c,hd,_⟩:=pl;exact⟨o,e,hd⟩
  ·refine⟨⟨o,I.kIn p o hk,hc⟩,λa e=>?_⟩;cases e;exact⟨o,I.kIn _ o hk,hd⟩
  ·have z:∃o,s.heap.get? p=some o/\o.ExactDict:=by
    rcases hk with⟨kvs,hk⟩|⟨kvs,hk⟩
    ·obtain⟨_,_,_,_,o,_,_,e,ex,_⟩:=I.hok p _ hk;exact⟨o,e,ex⟩
    ·obtain⟨_,_,_,_,o,_,_,e,ex,_⟩:=I.hok p _ hk;exact⟨o,e,ex⟩
   obtain⟨o,e,ex⟩:=z;refine⟨⟨o,e,ex.1⟩,λa e2=>?_⟩;cases e2;exact⟨o,e,ex.2.1⟩
  ·obtain⟨o,_,_,_,e,ex,_⟩:=I.hok p _ hk;refine⟨⟨o,e,ex.1⟩,λa e2=>?_⟩;cases e2;exact⟨o,e,ex.2.1⟩
 |_=>exact False.elim ty
def tBM0(K:F__)(T:String)(r:V->List V->Hp->VK->Prop)(to:TE):TE:=λσ H Q=>to σ H λx H1=>tyV K T x H1/\r x [] H1 Q
def tBM(K:F__)(T:String)(r:V->List V->Hp->VK->Prop)(to:TE)(t:TA):TE:=λσ H Q=>to σ H λx H1=>tyV K T x H1/\t σ H1 λxs H2=>r x xs H2 Q
variable{o e:Expr}{es:List Expr}{to:TE}{t:TA}{name:Str}{apos cpos:Pos}{T id:String}{r:V->List V->Hp->VK->Prop}
theorem jx_(pa:PlainAttrs T)(slot:Slot T name id)(hty:typeOf (.builtin id)=pure (.type "method_descriptor"))(hm:MtR X id r)(ho:PE X o to)
  (hbase:attributeBase o name X.env (eval o X.env)=eval o X.env:=by rfl) (hline:(apos.endLine == cpos.line)=true:=by rfl):PE X (.Call (.Attribute o name apos) [] [] cpos) (tBM0 X.K T r to):=by
 intro pins s σ H Q I h;refine wpAny_Call_method0_late hbase hline (thn (ho pins s σ H _ I h) λv s1 ⟨x,H1,I1,r1,ty,q1⟩=>?_);obtain⟨h1,h2⟩:=i0_ I1 r1 ty;exact⟨T,id,pa,slot,hty,h1,h2,Calls.callWith_builtin rfl (PySem.evalArgs_none (hm pins s1 σ H1 x [] v [] Q I1 r1 .nil q1))⟩
theorem gj_(pa:PlainAttrs T)(slot:Slot T name id)(hty:typeOf (.builtin id)=pure (.type "method_descriptor"))(hm:MtR X id r)(ho:PE X o to)(ha:PA X (e::es) t)
  (hbase:attributeBase o name X.env (eval o X.env)=eval o X.env:=by rfl)
  (hfew:((backTo cpos (starEach (e::es) X.env)).all (λx=>!x.1)&&(backToKw cpos (keywordEach [] X.env)).all (λx=>x.1.isSome)
   && decide ((e::es).length+([]:List Keyword).length+(if ([]:List Keyword).isEmpty then 0 else 1)<30))=true:=by rfl)
  (hline:(apos.endLine == cpos.line)=true:=by rfl) (hs:starEach (e::es) X.env=(false,eval e X.env)::starEach es X.env:=by rfl) (hplain:(backTo cpos (starEach es X.env)).any (·.1)=false:=by rfl) :
  PE X (.Call (.Attribute o name apos) (e::es) [] cpos) (tBM X.K T r to t):=by
 intro pins s σ H Q I h;refine wpAny_Call_method_late hbase hfew hline rfl (thn (ho pins s σ H _ I h) λv s1 ⟨x,H1,I1,r1,ty,q1⟩=>?_);obtain⟨h1,h2⟩:=i0_ I1 r1 ty;refine⟨T,id,pa,slot,hty,h1,h2,?_⟩;have hA:=ha cpos pins s1 σ H1 _ I1 q1;rw[hs] at hA ⊢;refine Calls.callWith_builtin (by show (false || (backTo cpos (starEach es X.env)).any (·.1))=false;rw[hplain]<;>rfl) (Calls.evalArgs_plain ?_)
 exact thn hA λus s2 ⟨vs,H2,I2,r2,q2⟩=>hm pins s2 σ H2 x vs v us Q I2 r1 r2 q2
end
def MtM(X:Cx)(id:String)(r:V->List V->Hp->VK->Prop):Prop:=
 ∀(pins:List (Addr × Obj)) (s:Ab) (σ:St) (H:Hp) (x:V) (xs:List V) (v:Aa) (us:List Aa) (Q:VK),Inv X pins σ H s->RelV x v->Vals xs us->r x xs H Q->
  wpAny (model X.prog X.w) X.A (call (.builtin id) (v::us)) (EP X pins σ Q) X.xe s
theorem Vals.one:∀{x:V} {us:List Aa},Vals [x] us->∃u,us=[u]/\RelV x u
 |_,_,.cons r .nil=>⟨_,rfl,r⟩
theorem Vals.two:∀{x y:V} {us:List Aa},Vals [x,y] us->∃u v,us=[u,v]/\RelV x u/\RelV y v
 |_,_,_,.cons r (.cons q .nil)=>⟨_,_,rfl,r,q⟩
section
variable{X:Cx}{pins:List (Addr × Obj)}{σ:St}{H:Hp}{s:Ab}{l b:Addr}{xs ys zs:List V}
theorem Inv.lset{its its':List Aa}{f:Array Aa->Array Aa}{t':Nat}(I:Inv X pins σ H s)(hH:H l=some (.lst xs))(e:s.heap.get? l=some { cls:=.type "list",data:=.seq its.toArray n })(hf:f its.toArray=its'.toArray)(hv:Vals ys its')(hz:ys.length<=sizeLine) :
  Inv X pins σ (upd H l (.lst ys)) { s with heap:=s.heap.update l (Obj.mapSeq f),toks:=t' }:=by
 have q:=PySem.IsL.update e f;rw[hf] at q;refine I.write (x:=l) (e:=l) (by rw[hH];exact trivial) (.inl rfl) (λb' u hb hu=>(b__ s.heap (Obj.mapSeq f) (Ne.symm hb)).trans hu) ⟨_,q⟩ ?_;exact⟨hz,its',_,hv,q⟩
theorem Inv.lnew{its:List Aa}{t':Nat}(I:Inv X pins σ H s)(hv:Vals ys its)(hz:ys.length<=sizeLine) :
  Inv X pins σ (upd H s.heap.objs.size (.lst ys)) { s with heap:=s.heap.push { cls:=.type "list",data:=.seq its.toArray },toks:=t' }:=
 I.laid (λ_ _ q=>a_0 _ q) (ae' _) ⟨hz,its,0,hv,a_3 _ rfl⟩
theorem Inv.fresh(I:Inv X pins σ H s):H s.heap.objs.size=none:=I.hok.fresh (ae' _)
theorem Inv.lstM(I:Inv X pins σ H s)(hH:H l=some (.lst xs)):xs.length<=sizeLine/\∃(its:List Aa) (n:Nat),Vals xs its/\xs.length=its.length/\s.heap.get? l=some { cls:=.type "list",data:=.seq its.toArray n }:=by
 obtain⟨z,its,n,r,e⟩:=I.hok l _ hH;exact⟨z,its,n,r,r.length,e⟩
theorem notLongL(h:n<=sizeLine):Builtin.List.listTooLong n=false:=by
 unfold Builtin.List.listTooLong;exact a_7 Z1
end
inductive rAppend (x:V) (vs:List V) (H:Hp) (Q:VK):Prop
 |mk:∀l xs y,x=.ref l->vs=[y]->H l=some (.lst xs)->xs.length<sizeLine->Q .non (upd H l (.lst (xs++[y])))->rAppend x vs H Q
variable{X:Cx}
theorem c0_:MtM X "list.append" rAppend:=by
 intro pins s σ H x vs v us Q I rx rv h;obtain⟨l,xs,y,rfl,rfl,hH,hz,q⟩:=h;cases rx;obtain⟨u,rfl,ru⟩:=rv.one;obtain⟨z,its,n,r,hl,e⟩:=I.lstM hH;refine call_meets F.slot_list_append ⟨_,e,rfl⟩ F.entry_list_append (F.args_list_append_2 _ _) (PySem.list_append l its.toArray n u (by rw[ag'];omega)) ⟨e,?_⟩;refine⟨.non,_,I.lset (its':=its++[u]) hH e Z2 (r.append (.cons ru .nil)) ?_,rfl,q⟩;rw[av',List.length_singleton];omega
inductive rExtend (x:V) (vs:List V) (H:Hp) (Q:VK):Prop
 |mk:∀l b xs zs,x=.ref l->vs=[.ref b]->H l=some (.lst xs)->H b=some (.lst zs)->xs.length+zs.length<=sizeLine->Q .non (upd H l (.lst (xs++zs)))->rExtend x vs H Q
theorem fJ_:MtM X "list.extend" rExtend:=by
 intro pins s σ H x vs v us Q I rx rv h;obtain⟨l,b,xs,zs,rfl,rfl,hH,hB,hz,q⟩:=h;cases rx;obtain⟨u,rfl,ru⟩:=rv.one;cases ru;obtain⟨z,its,n,r,hl,e⟩:=I.lstM hH;obtain⟨z2,its2,n2,r2,hl2,e2⟩:=I.lstM hB;have hsz:its.toArray.size+its2.toArray.size<=sizeLine:=by rw[ag',ag'];omega
 have hlong:¬(!its.toArray.isEmpty&&Builtin.List.listTooLong (its.toArray.size+its2.toArray.size))=true:=by
  rw[notLongL hsz,Bool.and_false];exact am'
 refine call_meets F.slot_list_extend ⟨_,e,rfl⟩ F.entry_list_extend (F.args_list_extend_2 _ _)
  (AutoSeq1.list_extend_list_list_0 l its.toArray n b its2.toArray n2 hlong (by rw[ag'];omega) Z1) ⟨e,e2,?_⟩
 refine⟨.non,_,I.lset (its':=its++its2) hH e Z2 (r.append r2) ?_,rfl,q⟩;rw[av'];omega
inductive rCat (x:V) (y:V) (H:Hp) (Q:VK):Prop
 |mk:∀l b xs zs,x=.ref l->y=.ref b->H l=some (.lst xs)->H b=some (.lst zs)->xs.length+zs.length<=sizeLine->(∀p,H p=none->Q (.ref p) (upd H p (.lst (xs++zs))))->rCat x y H Q
theorem fG_:OpR X (binaryOp .Add) rCat:=by
 intro pins s σ H x y v u Q I rx ry h;obtain⟨l,b,xs,zs,rfl,rfl,hH,hB,hz,q⟩:=h;cases rx;cases ry;obtain⟨z,its,n,r,hl,e⟩:=I.lstM hH;obtain⟨z2,its2,n2,r2,hl2,e2⟩:=I.lstM hB;refine PySem.P.add_list e e2 ?_ (by rw[ag',ag'];omega);have ea:its.toArray++its2.toArray=(its++its2).toArray:=by simp
 rw[ea];exact⟨.ref _,_,I.lnew (t':=s.toks) (r.append r2) (by rw[av'];omega),rfl,q _ I.fresh⟩
section
variable{κ:Type}[DecidableEq κ]
def valV(kvs:List (κ × V))(k:κ):Option V:=(kvs.find? λkv=>decide (kv.1=k)).map (·.2)
def putK(kvs:List (κ × V))(k:κ)(v:V):List (κ × V):=
 if (kvs.any λkv=>decide (kv.1=k))=true then kvs.map (λkv=>if kv.1=k then (kv.1,v) else kv) else kvs++[(k,v)]
def cR'(kvs:List (κ × V))(k:κ):List (κ × V):=kvs.filter λkv=>decide (kv.1≠k)
theorem bo_{p:κ × V}{r:List (κ × V)}{k:κ}(e:p.1=k):valV (p::r) k=some p.2:=by simp[valV,List.find?_cons,e]
theorem bn_{p:κ × V}{r:List (κ × V)}{k:κ}(e:¬p.1=k):valV (p::r) k=valV r k:=by simp[valV,List.find?_cons,e]
theorem bR_(k:κ):∀kvs:List (κ × V),(kvs.any λkv=>decide (kv.1=k))=(valV kvs k).isSome
 |[]=>rfl
 |p::r=>by
  rw[List.any_cons];by_cases e:p.1=k
  ·simp only[bo_ e,a_5 e,Bool.true_or,Option.isSome_some]
  ·rw[bn_ e,a_7 e,Bool.false_or];exact bR_ k r
theorem bH_(kvs:List (κ × V))(k:κ)(v:V):(putK kvs k v).length<=kvs.length+1:=by
 unfold putK;split
 ·rw[aa'];omega
 ·rw[av',aD',List.length_nil];omega
theorem bB_{kvs:List (κ × V)}{k:κ}(v:V)(h:valV kvs k=none):putK kvs k v=kvs++[(k,v)]:=by
 unfold putK;rw[bR_,h];exact a_6 (by decide)
theorem RelO.isSome_eq{o:Option V}{u:Option Aa}(r:RelO o u):o.isSome=u.isSome:=by
 cases o with
 |none=>cases u with
  |none=>rfl
  |some _=>exact (show False from r).elim
 |some _=>cases u with
  |none=>exact (show False from r).elim
  |some _=>rfl
theorem KV.val{kvs:List (κ × V)}{vs:List (κ × Aa)}(r:KV kvs vs)(k:κ):RelO (valV kvs k) (valueAt vs k):=by
 unfold KV at r
 induction r with
 |nil=>exact True.intro
 |@cons p q ps qs h t ih=>
  obtain⟨h1,h2⟩:=h;by_cases e:p.1=k
  ·have e':q.1=k:=h1.symm.trans e;have b:valueAt (q::qs) k=some q.2:=by simp[valueAt,List.find?_cons,e']
   rw[bo_ e,b];exact h2
  ·have e':¬q.1=k:=λz=>e (h1.trans z);have b:valueAt (q::qs) k=valueAt qs k:=by simp[valueAt,List.find?_cons,e']
   rw[bn_ e,b];exact ih
theorem KV.any{kvs:List (κ × V)}{vs:List (κ × Aa)}(r:KV kvs vs)(k:κ):(kvs.any λkv=>decide (kv.1=k))=vs.any λkv=>decide (kv.1=k):=by
 unfold KV at r
 induction r with
 |nil=>rfl
 |cons h t ih=>rw[List.any_cons,List.any_cons,ih,h.1]
theorem KV.repl{kvs:List (κ × V)}{vs:List (κ × Aa)}(r:KV kvs vs)(k:κ){y:V}{u:Aa}(ry:RelV y u) :
  KV (kvs.map λkv=>if kv.1=k then (kv.1,y) else kv) (vs.map λkv=>if kv.1=k then (kv.1,u) else kv):=by
 unfold KV at r ⊢
 induction r with
 |nil=>exact .nil
 |@cons p q ps qs h t ih=>
  rw[ax',ax'];refine .cons ?_ ih;obtain⟨h1,h2⟩:=h;by_cases e:p.1=k
  ·rw[a_8 e,a_8 (h1.symm.trans e)];exact⟨h1,ry⟩
  ·rw[a_6 e,a_6 (λz=>e (h1.trans z))];exact⟨h1,h2⟩
theorem KV.put{kvs:List (κ × V)}{vs:List (κ × Aa)}(r:KV kvs vs)(k:κ){y:V}{u:Aa}(ry:RelV y u):KV (putK kvs k y) (stored vs k u):=by
 unfold putK stored;rw[r.any k];by_cases e:(vs.any λkv=>decide (kv.1=k))=true
 ·rw[a_8 e,a_8 e];exact r.repl k ry
 ·rw[a_6 e,a_6 e];exact Paired.snoc r ⟨rfl,ry⟩
theorem KV.drop{kvs:List (κ × V)}{vs:List (κ × Aa)}(r:KV kvs vs)(k:κ):KV (cR' kvs k) (without vs k):=by
 unfold KV at r ⊢;unfold cR' without
 induction r with
 |nil=>exact .nil
 |@cons p q ps qs h t ih=>
  obtain⟨h1,h2⟩:=h;rw[List.filter_cons,List.filter_cons];by_cases e:p.1=k
  ·have a:¬decide (p.1≠k)=true:=by simp[e]
   have b:¬decide (q.1≠k)=true:=by simp[h1.symm.trans e]
   rw[a_6 a,a_6 b];exact ih
  ·have e':¬q.1=k:=λz=>e (h1.trans z);have a:decide (p.1≠k)=true:=by simp[e]
   have b:decide (q.1≠k)=true:=by simp[e']
   rw[a_8 a,a_8 b];exact .cons ⟨h1,h2⟩ ih
theorem KV.keys{kvs:List (κ × V)}{vs:List (κ × Aa)}(r:KV kvs vs):kvs.map (·.1)=vs.map (·.1):=by
 unfold KV at r
 induction r with
 |nil=>rfl
 |cons h t ih=>rw[ax',ax',ih,h.1]
theorem KV.length{kvs:List (κ × V)}{vs:List (κ × Aa)}(r:KV kvs vs):kvs.length=vs.length:=a_4 r
theorem hQ_(kvs:List (κ × V))(k:κ):(cR' kvs k).length<=kvs.length:=List.length_filter_le _ _
end
variable{u:Aa}{P:Ad}{w:Af}
theorem et_{k:Key}(r:RelV (kV k) u):(a0' P w).is k u=true:=by
 cases k with
 |inl i=>obtain⟨t,e⟩:=(show ∃t,u=Value.int i t from r);subst e;exact e9_ P w i t
 |inr x=>obtain⟨t,e⟩:=(show ∃t,u=Value.str x t from r);subst e;exact el_ P w x t
theorem dR_{P:Ad}{w:Af}:∀{ks:List Key} {us:List Aa},Vals (ks.map kV) us->ItemsAre (a0' P w) ks us
 |[],_,r=>by rw[List.map_nil] at r;cases r;exact .nil
 |k::ks,_,r=>by
  rw[ax'] at r;cases r with
  |cons h t=>exact .cons (et_ h) (dR_ t)
abbrev KT(H:Hp):List (List Key × V)->List (List Key × Addr × Aa)->Prop:=Paired λp q=>p.1=q.1/\H q.2.1=some (.tup (p.1.map kV))/\RelV p.2 q.2.2
variable{H:Hp}{xs:List (List Key × Addr × Aa)}{kvs:List (List Key × V)}
theorem KT.val(r:KT H kvs xs)(k:List Key):RelO (valV kvs k) ((atKey xs k).map (·.2)):=by
 induction r with
 |nil=>exact True.intro
 |@cons p q ps qs h t ih=>
  obtain⟨h1,_,h2⟩:=h;by_cases e:p.1=k
  ·have e':q.1=k:=h1.symm.trans e;have b:atKey (q::qs) k=some q.2:=by simp[atKey,List.find?_cons,e']
   rw[bo_ e,b];exact h2
  ·have e':¬q.1=k:=λz=>e (h1.trans z);have b:atKey (q::qs) k=atKey qs k:=by simp[atKey,List.find?_cons,e']
   rw[bn_ e,b];exact ih
theorem KT.repl(r:KT H kvs xs)(k:List Key){y:V}(ry:RelV y u) :
  KT H (kvs.map λkv=>if kv.1=k then (kv.1,y) else kv) (xs.map (putAt k u)):=by
 induction r with
 |nil=>exact .nil
 |@cons p q ps qs h t ih=>
  rw[ax',ax'];refine .cons ?_ ih;obtain⟨h1,h2,h3⟩:=h;unfold putAt;by_cases e:p.1=k
  ·rw[a_8 e,a_8 (h1.symm.trans e)];exact⟨h1,h2,ry⟩
  ·rw[a_6 e,a_6 (λz=>e (h1.trans z))];exact⟨h1,h2,h3⟩
variable{b:Addr}
theorem KT.put(r:KT H kvs xs)(k:List Key){y:V}(hb:H b=some (.tup (k.map kV)))(ry:RelV y u) :
  KT H (putK kvs k y) (storedH xs k b u):=by
 have e:(kvs.any λkv=>decide (kv.1=k))=(atKey xs k).isSome:=by
  rw[bR_,(r.val k).isSome_eq,Option.isSome_map]
 unfold putK storedH;rw[e];by_cases q:(atKey xs k).isSome=true
 ·rw[a_8 q,a_8 q];exact r.repl k ry
 ·rw[a_6 q,a_6 q];exact Paired.snoc r ⟨rfl,hb,ry⟩
variable{H':Hp}
theorem KT.keeps(r:KT H kvs xs)(ht:∀b ys,H b=some (.tup ys)->H' b=some (.tup ys)):KT H' kvs xs:=
 Paired.mapP r λ_ _ z=>⟨z.1,ht _ _ z.2.1,z.2.2⟩
variable{h:Heap}{a:Addr}
theorem jz_{u:HO}(ok:HOk P w H h)(e:Rd H a u):a4' P w H h a u:=e.ok ok
theorem bN_{kvs:List (Key × V)}(ok:HOk P w H h)(e:Rd H a (.dK kvs)):kvs.length<=sizeLine/\(a == sysModules)=false/\∃vs,KV kvs vs/\h.DictOf (a0' P w) a vs:=
 show a4' P w H h a (.dK kvs) from jz_ ok e
theorem do_{kvs:List (Key × V)}(ok:HOk P w H h)(e:H a=some (.dK kvs)):kvs.length<=sizeLine/\(a == sysModules)=false/\∃vs,KV kvs vs/\h.DictOf (a0' P w) a vs:=bN_ ok (.inl e)
theorem cT_{ks:List Key}(ok:HOk P w H h)(e:H a=some (.tup (ks.map kV))):(tupleKind (a0' P w)).is h ks a:=by
 obtain⟨_,its,r,⟨o,h1,h2,n,h3⟩,_⟩:=(show a4' P w H h a (.tup (ks.map kV)) from ok a _ e);exact⟨o,its.toArray,n,h1,h2,h3,by simpa using dR_ r⟩
theorem f3_(ok:HOk P w H h)(e:Rd H a (.dT kvs)):kvs.length<=sizeLine/\(a == sysModules)=false /\
  ∃xs,KT H kvs xs/\h.DictOfH (tupleKind (a0' P w)) a xs:=by
 obtain⟨z,y,xs,r,o,es,ep,h1,h2,h3,h4,h5⟩:=(show a4' P w H h a (.dT kvs) from jz_ ok e);refine⟨z,y,xs,r,o,es,ep,h1,h2,h3,h4,λx hx=>?_,h5⟩
 have all:∀{l:List (List Key × V)} {m:List (List Key × Addr × Aa)},KT H l m->∀x∈m,(tupleKind (a0' P w)).is h x.1 x.2.1:=by
  intro l m q
  induction q with
  |nil=>intro x hx;exact nomatch hx
  |@cons p q ps qs hq t ih=>
   intro x hx;rcases an'.mp hx with e|hx
   ·subst e;exact cT_ ok (by rw[<- hq.1];exact hq.2.1)
   ·exact ih x hx
 exact all r x hx
theorem jO_(ok:HOk P w H h)(e:H a=some (.dT kvs)):kvs.length<=sizeLine/\(a == sysModules)=false /\
  ∃xs,KT H kvs xs/\h.DictOfH (tupleKind (a0' P w)) a xs:=f3_ ok (.inl e)
def DGet(H:Hp)(a:Addr)(y:V)(r:Option V):Prop:=
 (∃kvs k,Rd H a (.dK kvs)/\y=kV k/\r=valV kvs k)∨∃kvs k b,Rd H a (.dT kvs)/\y=.ref b/\H b=some (.tup (k.map kV))/\r=valV kvs k
def DPut(H:Hp)(a:Addr)(y v:V)(H':Hp):Prop:=
 (∃kvs k,H a=some (.dK kvs)/\y=kV k/\kvs.length<sizeLine/\H'=upd H a (.dK (putK kvs k v))) ∨
 ∃kvs k b,H a=some (.dT kvs)/\y=.ref b/\H b=some (.tup (k.map kV))/\kvs.length<sizeLine/\H'=upd H a (.dT (putK kvs k v))
theorem DGet.k{kvs:List (Key × V)}{k:Key}(e:H a=some (.dK kvs)):DGet H a (kV k) (valV kvs k):=.inl ⟨kvs,k,.inl e,rfl,rfl⟩
theorem DGet.t{k:List Key}(e:H a=some (.dT kvs))(eb:H b=some (.tup (k.map kV))):DGet H a (.ref b) (valV kvs k):=.inr ⟨kvs,k,b,.inl e,rfl,eb,rfl⟩
variable{kvs:List (Key × V)}
theorem DPut.k{k:Key}{v:V}(e:H a=some (.dK kvs))(hl:kvs.length<sizeLine):DPut H a (kV k) v (upd H a (.dK (putK kvs k v))):=.inl ⟨kvs,k,e,rfl,hl,rfl⟩
theorem DPut.t{kvs:List (List Key × V)}{k:List Key}{v:V}(e:H a=some (.dT kvs))(eb:H b=some (.tup (k.map kV)))(hl:kvs.length<sizeLine) :
  DPut H a (.ref b) v (upd H a (.dT (putK kvs k v))):=.inr ⟨kvs,k,b,e,rfl,eb,hl,rfl⟩
section
variable{X:Cx}{pins:List (Addr × Obj)}{σ:St}{H:Hp}{s:Ab}{a:Addr}{y v:V}{u r:Aa}{o:Option V}{A:Ah}{E:Aa->Ab->Prop}
theorem Inv.big(I:Inv X pins σ H s):sysModules<s.heap.objs.size:=by
 have h:mainGlobals<s.heap.objs.size:=(I.mod.glob.keeps I.bk).lt;exact Nat.lt_trans (by decide) h
theorem gn_{Q:Aa->Ab->Prop}(hu:A.units+1<cLine)(I:Inv X pins σ H s)(g:DGet H a y (some v))(ry:RelV y u)(h:∀w' s',Inv X pins σ H s'->RelV v w'->Q w' s') :
  wpAny (model X.prog X.w) A (getItem (.ref a) u) Q E s:=by
 rcases g with⟨kvs,k,e,ey,l⟩|⟨kvs,k,b,e,ey,eb,l⟩
 ·subst ey;obtain⟨z,hd,vs,rel,dd⟩:=bN_ I.hok e;obtain⟨w',hw,rw'⟩:=RelO.some_of (v:=v) (o:=valueAt vs k) (by rw[l];exact rel.val k);exact wpAny_getItem_of (et_ ry) dd.mapOf hw (h w' _ (I.tok _) rw')
 ·subst ey;cases (show u=Value.ref b from ry);obtain⟨z,hd,xs,rel,dd⟩:=f3_ I.hok e;obtain⟨w',hw,rw'⟩:=RelO.some_of (v:=v) (o:=(atKey xs k).map (·.2)) (by rw[l];exact rel.val k);obtain⟨p,hp,hp2⟩:=Option.map_eq_some_iff.mp hw;refine wpAny_getItem_heap (tupleKind_room_in1 hu) (cT_ I.hok eb) dd hp ?_;rw[hp2];exact h w' _ (I.tok _) rw'
theorem d_in{Q:Aa->Ab->Prop}(hu:A.units+1<cLine)(I:Inv X pins σ H s)(g:DGet H a y o)(ry:RelV y u)(h:∀s',Inv X pins σ H s'->Q (.bool o.isSome) s') :
  wpAny (model X.prog X.w) A (compareOp .In u (.ref a)) Q E s:=by
 rcases g with⟨kvs,k,e,ey,l⟩|⟨kvs,k,b,e,ey,eb,l⟩
 ·subst ey;obtain⟨z,hd,vs,rel,dd⟩:=bN_ I.hok e;refine wpAny_in_of (et_ ry) hd dd.mapOf ?_;rw[<- (rel.val k).isSome_eq,<- l];exact h _ (I.tok _)
 ·subst ey;cases (show u=Value.ref b from ry);obtain⟨z,hd,xs,rel,dd⟩:=f3_ I.hok e;refine wpAny_in_heap (tupleKind_room_in1 hu) (cT_ I.hok eb) hd dd ?_;have q:=(rel.val k).isSome_eq;rw[Option.isSome_map] at q;rw[<- q,<- l];exact h _ (I.tok _)
theorem ir_{Q:Aa->Ab->Prop}(hu:A.units+1<cLine)(I:Inv X pins σ H s)(g:DGet H a y o)(ry:RelV y u)(h:∀s',Inv X pins σ H s'->Q (.bool (!o.isSome)) s') :
  wpAny (model X.prog X.w) A (compareOp .NotIn u (.ref a)) Q E s:=by
 rcases g with⟨kvs,k,e,ey,l⟩|⟨kvs,k,b,e,ey,eb,l⟩
 ·subst ey;obtain⟨z,hd,vs,rel,dd⟩:=bN_ I.hok e;refine wpAny_notIn_of (et_ ry) hd dd.mapOf ?_;rw[<- (rel.val k).isSome_eq,<- l];exact h _ (I.tok _)
 ·subst ey;cases (show u=Value.ref b from ry);obtain⟨z,hd,xs,rel,dd⟩:=f3_ I.hok e;refine wpAny_notIn_heap (tupleKind_room_in1 hu) (cT_ I.hok eb) hd dd ?_;have q:=(rel.val k).isSome_eq;rw[Option.isSome_map] at q;rw[<- q,<- l];exact h _ (I.tok _)
theorem dg_{h':Heap}{t':Nat}{ob:HO}(I:Inv X pins σ H s)(mu:Mut (H a))(hs:Heap.SameBut a s.heap h')(he:∃q,h'.get? a=some q)(new:a4' X.prog X.w (upd H a ob) h' a ob) :
  Inv X pins σ (upd H a ob) { s with heap:=h',toks:=t' }:=
 I.write (x:=a) (e:=a) mu (.inl rfl) (λb q hb z=>(hs.2 b hb).trans z) he new
theorem eF_{h':Heap}{vs:List (Key × Aa)}(z:kvs.length<=sizeLine)(hd:(a == sysModules)=false)(rel:KV kvs vs)(dd:h'.DictOf (a0' P w) a vs) :
  a4' P w H' h' a (.dK kvs):=⟨z,hd,vs,rel,dd⟩
theorem dW_{Q:Unit->Ab->Prop}(hu:A.units+1<cLine)(I:Inv X pins σ H s)(g:DPut H a y v H')(ry:RelV y u)(rv:RelV v r)(h:∀s',Inv X pins σ H' s'->Q () s') :
  wpAny (model X.prog X.w) A (setItem (.ref a) u r) Q E s:=by
 rcases g with⟨kvs,k,e,ey,l,eH⟩|⟨kvs,k,b,e,ey,eb,l,eH⟩
 ·subst ey eH;obtain⟨z,hd,vs,rel,dd⟩:=do_ I.hok e;have hz:vs.length<=sizeLine:=by rw[<- rel.length];exact z
  have hl:(putK kvs k v).length<=sizeLine:=by have:=bH_ kvs k v;omega
  refine wpAny_setItem_pairs (hsz:=hz) (et_ ry) dd λh' dd' hs=>h _ ?_;have he:∃q,h'.get? a=some q:=let ⟨q,_,_,hq,_⟩:=dd';⟨q,hq⟩;exact dg_ I (by rw[e];exact True.intro) hs he (eF_ hl hd (rel.put k rv) dd')
 ·subst ey eH;cases (show u=Value.ref b from ry);obtain⟨z,hd,xs,rel,dd⟩:=jO_ I.hok e;have hz:xs.length<=sizeLine:=by rw[<- a_4 rel];exact z
  have hl:(putK kvs k v).length<=sizeLine:=by have:=bH_ kvs k v;omega
  refine wpAny_setItem_heap (hsz:=hz) (tupleKind_room_in1 hu) (cT_ I.hok eb) dd λh' dd' hs=>h _ ?_;obtain⟨q,es,ep,hq,h2,h3,h4,_,h5⟩:=dd';refine dg_ I (by rw[e];exact True.intro) hs ⟨q,hq⟩ ⟨hl,hd,_,(rel.put k eb rv).keeps λc ys ec=>?_,q,es,ep,hq,h2,h3,h4,h5⟩;rw[a7_ (aD_ ec e nofun)];exact ec
end
variable{pins:List (Addr × Obj)}{σ:St}{s:Ab}{A:Ah}{k:Key}{E:Aa->Ab->Prop}
theorem jM_{v:V}{more:List Aa}{Q:Aa->Ab->Prop}(I:Inv X pins σ H s)(e:H a=some (.dK kvs))(ry:RelV (kV k) u)(l:valV kvs k=some v)(hm:more=[]∨∃x,more=[x])
  (h:∀w' s',Inv X pins σ (upd H a (.dK (cR' kvs k))) s'->RelV v w'->Q w' s'):wpAny (model X.prog X.w) A (call (.builtin "dict.pop") (.ref a::u::more)) Q E s:=by
 obtain⟨z,hd,vs,rel,dd⟩:=do_ I.hok e;obtain⟨w',hw,rw'⟩:=RelO.some_of (v:=v) (o:=valueAt vs k) (by rw[<- l];exact rel.val k)
 have hp:(keyPart u).isSome=true:=by
  cases k with
  |inl i=>obtain⟨t,q⟩:=(show ∃t,u=Value.int i t from ry);subst q;rfl
  |inr x=>obtain⟨t,q⟩:=(show ∃t,u=Value.str x t from ry);subst q;rfl
 have ha:argsOk "dict.pop" ⟨.ref a::u::more,[]⟩:=by
  rcases hm with q|⟨x,q⟩
  ·subst q;exact PySem.F.args_dict_pop_2 _ _
  ·subst q;exact PySem.F.args_dict_pop_3 _ _ _
 refine call_meetsIn PySem.F.slot_dict_pop dd.typeIs PySem.F.entry_dict_pop ha (meets_dict_pop_there (a0' X.prog X.w) a (et_ ry) more hm hp)
  ⟨vs,w',dd,by rw[<- rel.length];exact z,hw,λh' dd' hs=>h w' _ ?_ rw'⟩
 have he:∃q,h'.get? a=some q:=let ⟨q,_,_,hq,_⟩:=dd';⟨q,hq⟩;exact dg_ I (by rw[e];exact True.intro) hs he (eF_ (aV' (hQ_ kvs k) z) hd (rel.drop k) dd')
theorem jI_{Q:Aa->Ab->Prop}(I:Inv X pins σ H s)(e:Rd H a (.dK kvs))(h:∀t s',Inv X pins σ H s'->Q (.int kvs.length t) s'):wpAny (model X.prog X.w) A (call (.builtin "len") [.ref a]) Q E s:=by
 obtain⟨z,hd,vs,rel,dd⟩:=bN_ I.hok e;refine call_len_dict hd dd (by rw[<- rel.length];rw[b_1] at z;omega) ?_;rw[<- rel.length];exact h _ _ (I.tok _)
def NoSl(i:Expr):Prop:=∀ov iv,subscripted i false ov iv=operate [ov,iv] (getItem ov iv)
variable{value:Expr}{pos:Pos}
theorem j0_{prog:Ad}{env:Env}{slice:Expr}{T id:String}{Q:Aa->Ab->Prop}(hl:typeLookup (.type T) "__getitem__"=pure (some (.builtin id)))(hs:NoSl slice)(h:wpAny (model prog w) A (eval value env) (λo s₁=>wpAny (model prog w) A (eval slice env) (λi s₂=>s₂.TypeIs o T/\wpAny (model prog w) A (getItem o i) Q E s₂) E s₁) E s) :
  wpAny (model prog w) A (eval (.Subscript value slice pos) env) Q E s:=by
 refine Subscript_ (wpAny_mono h (λo s₁ h₁=>wpAny_mono h₁ (λi s₂ h₂=>?_) λ_ _ x=>x) λ_ _ x=>x);obtain⟨hT,h₂⟩:=h₂;unfold subscriptTail;refine a__ ?_;rw[getitemInPython_of_ne hT.not_modules];refine a__ (wpAny_specialOf hT hl ?_)
 have fin:wpAny (model prog w) A (subscripted slice false o i) (λr s₃=>wpAny (model prog w) A (letTemporaryGo value o r >>= λ_=>pure r) Q E s₃) E s₂:=by
  rw[hs o i];exact wpAny_operating (wpAny_mono h₂ (λr s₃ h₃=>a__ (wpAny_letTemporaryGo (a_1 h₃))) λ_ _ x=>x)
 first
  |exact a_1 (a__ fin)
  |exact a__ (a_1 (a__ fin))
  |exact a__ fin
theorem e4_{y:V}{o:Option V}(I:Inv X pins σ H s)(g:DGet H a y o):s.TypeIs (.ref a) "dict":=by
 rcases g with⟨kvs,k,e,_,_⟩|⟨kvs,k,b,e,_,_,_⟩
 ·obtain⟨_,_,vs,_,dd⟩:=bN_ I.hok e;exact dd.typeIs
 ·obtain⟨_,_,xs,_,dd⟩:=f3_ I.hok e;exact dd.typeIs
inductive tDGetR (Q:VK) (x:V) (y:V) (H2:Hp):Prop
 |mk:∀a v,x=.ref a->DGet H2 a y (some v)->Q v H2->tDGetR Q x y H2
def tDGet(td ty:TE):TE:=λσ H Q=>td σ H λx H1=>ty σ H1 λy H2=>tDGetR Q x y H2
inductive tDInR (Q:VK) (y:V) (x:V) (H2:Hp):Prop
 |mk:∀a o,x=.ref a->DGet H2 a y o->Q (.bl o.isSome) H2->tDInR Q y x H2
def tDIn(ty td:TE):TE:=λσ H Q=>ty σ H λy H1=>td σ H1 λx H2=>tDInR Q y x H2
inductive dl' (Q:VK) (y:V) (x:V) (H2:Hp):Prop
 |mk:∀a o,x=.ref a->DGet H2 a y o->Q (.bl (!o.isSome)) H2->dl' Q y x H2
def tDNotIn(ty td:TE):TE:=λσ H Q=>ty σ H λy H1=>td σ H1 λx H2=>dl' Q y x H2
inductive sDPutR (D:Ends) (σ:St) (v:V) (x:V) (y:V) (H3:Hp):Prop
 |mk:∀a H4,x=.ref a->DPut H3 a y v H4->D.nx σ H4->sDPutR D σ v x y H3
def sDPut(td ty tv:TE):TS:=λD σ H=>tv σ H λv H1=>td σ H1 λx H2=>ty σ H2 λy H3=>sDPutR D σ v x y H3
variable{i o:Expr}{td ty:TE}
theorem b8_(hu:X.A.units+1<cLine)(ho:PE X o td)(hi:PE X i ty)(hs:NoSl i):PE X (.Subscript o i pos) (tDGet td ty):=by
 intro pins s σ H Q I h;refine j0_ PySem.F.slot_dict_getitem.lookup hs (thn (ho pins s σ H _ I h) λu s1 ⟨x,H1,I1,rx,q1⟩=>thn (hi pins s1 σ H1 _ I1 q1) λiv s2 ⟨y,H2,I2,ry,a,v,ex,g,q2⟩=>?_);subst ex;obtain rfl:u=Value.ref a:=rx;exact⟨e4_ I2 g,gn_ hu I2 g ry λw' s3 I3 rw'=>⟨v,H2,I3,rw',q2⟩⟩
theorem cZ_(hu:X.A.units+1<cLine)(hi:PE X i ty)(ho:PE X o td):PC X .In i o (tDIn ty td):=by
 intro pins s σ H Q I h;refine thn (hi pins s σ H _ I h) λiv s1 ⟨y,H1,I1,ry,q1⟩=>thn (ho pins s1 σ H1 _ I1 q1) λu s2 ⟨x,H2,I2,rx,a,ov,ex,g,q2⟩=>?_;subst ex;obtain rfl:u=Value.ref a:=rx;exact d_in hu I2 g ry λs3 I3=>⟨.bl ov.isSome,H2,I3,rfl,q2⟩
theorem dN_(hu:X.A.units+1<cLine)(hi:PE X i ty)(ho:PE X o td):PC X .NotIn i o (tDNotIn ty td):=by
 intro pins s σ H Q I h;refine thn (hi pins s σ H _ I h) λiv s1 ⟨y,H1,I1,ry,q1⟩=>thn (ho pins s1 σ H1 _ I1 q1) λu s2 ⟨x,H2,I2,rx,a,ov,ex,g,q2⟩=>?_;subst ex;obtain rfl:u=Value.ref a:=rx;exact ir_ hu I2 g ry λs3 I3=>⟨.bl (!ov.isSome),H2,I3,rfl,q2⟩
variable{pos':Pos}{tv:TE}
theorem b7_(hu:X.A.units+1<cLine)(ho:PE X o td)(hi:PE X i ty)(hv:PE X value tv)(hs:swapsWith value (some (.Subscript o i pos')) pos.line X.env=pure false) :
  PS X (.Assign [.Subscript o i pos'] value pos) (sDPut td ty tv):=by
 intro pins s σ H D I h;refine wpAny_Assign_Subscript (thn (hv pins s σ H _ I h) λr s1 ⟨v,H1,I1,rv,q1⟩=>thn (ho pins s1 σ H1 _ I1 q1) λu s2 ⟨x,H2,I2,rx,q2⟩=>thn (hi pins s2 σ H2 _ I2 q2) λiv s3 ⟨y,H3,I3,ry,a,H4,ex,g,q3⟩=>?_) hs;subst ex;obtain rfl:u=Value.ref a:=rx;exact dW_ hu I3 g ry rv λs4 I4=>⟨σ,H4,I4,q3⟩
theorem hI_(h:Heap)(hb:sysModules<h.objs.size):a4' P w H (h.push { cls:=.type "dict",data:=.dict #[] }) h.objs.size (.dK []):=
 ⟨aC' _,beq_eq_false_iff_ne.mpr (Ne.symm (aj' hb)),[],.nil,Heap.DictOf.new h⟩
theorem hM_(h:Heap)(hb:sysModules<h.objs.size):a4' P w H (h.push { cls:=.type "dict",data:=.dict #[] }) h.objs.size (.dT []):=
 ⟨aC' _,beq_eq_false_iff_ne.mpr (Ne.symm (aj' hb)),[],.nil,_,#[],0,a_3 _ rfl,⟨rfl,rfl,rfl⟩,rfl,rfl,List.nodup_nil⟩
def tDNewK:TE:=λ_ H Q=>∀p,H p=none->Q (.ref p) (upd H p (.dK []))
def tDNewT:TE:=λ_ H Q=>∀p,H p=none->Q (.ref p) (upd H p (.dT []))
theorem be_:PE X (.Dict [] [] pos) tDNewK:=λpins s σ H Q I h=>
 wpAny_Dict_empty ⟨.ref s.heap.objs.size,_,I.laid (a:=s.heap.objs.size) (o:=.dK []) (t':=s.toks) (λ_ _ q=>a_0 _ q) (ae' _) (hI_ s.heap I.big),rfl,h _ (I.hok.fresh (ae' _))⟩
theorem hh_:PE X (.Dict [] [] pos) tDNewT:=λpins s σ H Q I h=>
 wpAny_Dict_empty ⟨.ref s.heap.objs.size,_,I.laid (a:=s.heap.objs.size) (o:=.dT []) (t':=s.toks) (λ_ _ q=>a_0 _ q) (ae' _) (hM_ s.heap I.big),rfl,h _ (I.hok.fresh (ae' _))⟩
def ca'(kvs more:List (Key × V)):List (Key × V):=more.foldl (λacc kv=>putK acc kv.1 kv.2) kvs
theorem bS_:∀(more kvs:List (Key × V)),(ca' kvs more).length<=kvs.length+more.length
 |[],kvs=>by show kvs.length<=kvs.length+0;omega
 |p::r,kvs=>by
  have h1:=bS_ r (putK kvs p.1 p.2);have h2:=bH_ kvs p.1 p.2;show (ca' (putK kvs p.1 p.2) r).length<=_;rw[aD'];omega
structure M1 (X:Cx) (o:Expr) (m:Str) (apos:Pos) (e:Expr) (cpos:Pos):Prop where
 base:attributeBase o m X.env (eval o X.env)=eval o X.env
 few:((backTo cpos (starEach [e] X.env)).all (λx=>!x.1)&&(backToKw cpos (keywordEach [] X.env)).all (λx=>x.1.isSome)
  && decide (([e]:List Expr).length+([]:List Keyword).length+(if ([]:List Keyword).isEmpty then 0 else 1)<30))=true
 line:(apos.endLine == cpos.line)=true
 trees:backTo cpos (starEach [e] X.env)=[(false,eval e X.env)]
structure M2 (X:Cx) (o:Expr) (m:Str) (apos:Pos) (e f:Expr) (cpos:Pos):Prop where
 base:attributeBase o m X.env (eval o X.env)=eval o X.env
 few:((backTo cpos (starEach [e,f] X.env)).all (λx=>!x.1)&&(backToKw cpos (keywordEach [] X.env)).all (λx=>x.1.isSome)
  && decide (([e,f]:List Expr).length+([]:List Keyword).length+(if ([]:List Keyword).isEmpty then 0 else 1)<30))=true
 line:(apos.endLine == cpos.line)=true
 trees:backTo cpos (starEach [e,f] X.env)=[(false,eval e X.env),(false,eval f X.env)]
def IsD(H:Hp)(a:Addr):Prop:=(∃kvs,Rd H a (.dK kvs))∨∃kvs,Rd H a (.dT kvs)
theorem fE_(I:Inv X pins σ H s)(d:IsD H a) :
  s.TypeIs (.ref a) "dict"/\(∀b,Value.ref a=.ref b->∃ob,s.heap.get? b=some ob/\ob.dict=none)/\(a == sysModules)=false:=by
 rcases d with⟨kvs,e⟩|⟨kvs,e⟩
 ·obtain⟨_,hd,vs,_,dd⟩:=bN_ I.hok e;refine⟨dd.typeIs,λb q=>?_,hd⟩;cases q;obtain⟨ob,_,_,h1,h2,_⟩:=dd;exact⟨ob,h1,h2.2.1⟩
 ·obtain⟨_,hd,xs,_,dd⟩:=f3_ I.hok e;refine⟨dd.typeIs,λb q=>?_,hd⟩;cases q;obtain⟨ob,_,_,h1,h2,_⟩:=dd;exact⟨ob,h1,h2.2.1⟩
def tDPop1(td ty:TE):TE:=λσ H Q=>td σ H λx H1=>∃a,x=.ref a/\IsD H1 a/\ty σ H1 λy H2=>∃kvs k v,H2 a=some (.dK kvs)/\y=kV k/\valV kvs k=some v/\Q v (upd H2 a (.dK (cR' kvs k)))
variable{e:Expr}{apos cpos:Pos}
theorem eT_(ho:PE X o td)(he:PE X e ty)(m:M1 X o "pop" apos e cpos):PE X (.Call (.Attribute o "pop" apos) [e] [] cpos) (tDPop1 td ty):=by
 intro pins s σ H Q I h;refine wpAny_Call_method m.base m.few m.line PySem.F.plainAttrs_dict PySem.F.slot_dict_pop PySem.F.type_dict_pop (thn (ho pins s σ H _ I h) λu s1 ⟨x,H1,I1,rx,a,ex,d,q1⟩=>?_);subst ex;obtain rfl:u=Value.ref a:=rx;obtain⟨t1,t2,_⟩:=fE_ I1 d;refine⟨t1,t2,?_⟩;rw[m.trees];refine Calls.callWith_builtin rfl (Calls.evalArgs_plain (Calls.spliced_cons (thn (he pins s1 σ H1 _ I1 q1) λiv s2 ⟨y,H2,I2,ry,kvs,k,v,ea,ey,l,q2⟩=>Calls.spliced_nil ?_)));subst ey;exact jM_ I2 ea ry l (.inl rfl) λw' s3 I3 rw'=>⟨v,_,I3,rw',q2⟩
theorem hJ_{Q:Aa->Ab->Prop}(I:Inv X pins σ H s)(e:Rd H a (.dK kvs))(h:∀p s',H p=none->Inv X pins σ (upd H p (.dK kvs)) s'->Q (.ref p) s'):wpAny (model X.prog X.w) A (call (.type "dict") [.ref a]) Q E s:=by
 obtain⟨z,hd,vs,rel,dd⟩:=bN_ I.hok e;refine kt_call_dict hd dd (by rw[<- rel.length];exact z) λh' dd' hs=>?_;refine h _ _ (I.hok.fresh (ae' _)) (I.laid (a:=s.heap.objs.size) (o:=.dK kvs) (t':=s.toks) (λb q hq=>?_) (ae' _) (eF_ z (beq_eq_false_iff_ne.mpr (Ne.symm (aj' I.big))) rel dd'));exact (hs.2 b (aj' (a_2 hq))).trans (a_0 _ hq)
end L2
namespace Att
open PySem PySem.W PySem.Calls PyProof.Rows
variable{P:Params}{h:Heap}
theorem cv_:∀(ns:List Int) (vs:List Aa),WellAll P h vs (ns.map WData.int)->IntsAre vs ns:=by
 intro ns
 induction ns with
 |nil=>
  intro vs w;rw[List.map_nil] at w;cases w;exact .nil
 |cons n ns ih=>
  intro vs w;rw[ax'] at w;cases w with
  |cons a b=>
   cases a;exact .cons _ _ (ih _ b)
variable{l:OpenLaw}{n:Nat}
theorem fy_(hn:l.most=some n){args:List WData}{vals:List Aa}(hpre:l.row.toRowW.claim.pre args=true)(hwl:WellAll P h vals args) :
  ∃a vs ns,vals=[Value.ref a]/\args=[WData.list (ns.map WData.int)]/\h.get? a=some { cls:=.type "list",data:=.seq vs.toArray }/\IntsAre vs ns/\ns.length<=n:=by
 have hsh:WShape.hasAll [] args [.list .int]=true:=(pre_splitW hpre).1;have hc:l.pre.holds [] { args:=args }=true:=(pre_splitW hpre).2;obtain⟨d,r,rfl,h1,h2⟩:=hasAllW_cons hsh;obtain rfl:=hasAllW_nil h2;obtain⟨xs,rfl,h3⟩:=hasW_list h1;obtain⟨ns,rfl⟩:=items_int h3
 have hlen:ns.length<=n:=by
  unfold OpenLaw.pre at hc
  have h4:(WTm.not (.lt (.lit (.int (n:Int))) (.len (.arg 0)))).holds [] { args:=[.list (ns.map .int)] }=true:=by
   have h4:=(holds_andW hc).1;rw[hn] at h4;exact h4
  have h5:=condW_of h4 (w_not (w_lt w_lit (w_len_list (w_arg rfl))));rw[aa'] at h5;refine Nat.le_of_not_lt λq=>?_;have q':(n:Int)<((ns.length:Nat):Int):=by omega
  first
   |(rw[a_5 q'] at h5;exact absurd h5 (by decide))
   |(simp at h5;omega)
 cases hwl with
 |cons w1 w2=>
  cases w2;cases w1 with
  |list ho hall=>exact⟨_,_,ns,rfl,rfl,ho,cv_ ns _ hall,hlen⟩
theorem gf_(l:OpenLaw)(args:List WData):l.row.toRowW.claim.post args (.bool true) args=true:=
 postW_of (r:=l.row.toRowW) (X:=(true == true))
  (show WShape.has [] (.bool true) .bool=true by first|rfl|decide|simp[WShape.has,WShape.arms,WShape.armsAll])
  (show (WTm.eq .res (.lit (.bool true))).value [] { args:=args,res:=some (.bool true),after:=args }=some (.bool (true == true)) from w_eq_bool (w_res rfl) w_lit) rfl
theorem attach_call{q:Ad}{loose:List Str}{XP:(Str->Option Aa)->Heap->Prop}{YP:Af->Heap->Prop}{d:DefRec}(hn:l.most=some n)(hdf:d.params.defaults=[])(call:∀(w:Af) (s₀ s₁:Ab) (mg mb:Str->Option Aa) (fa:Addr) (o:Obj) (pm cd doc:Aa) (a:Addr) (vs:List Aa) (ns:List Int),
   Ground q loose [] XP w s₀ mg mb s₁.heap->YP w s₁.heap->
   s₁.heap.get? fa=some o->o.data=.func (docDef d.name d.params d.body d.scope pm cd doc)->s₁.heap.CodeRec cd d.name->mg d.name=some (.ref fa)->
   s₁.heap.get? a=some { cls:=.type "list",data:=.seq vs.toArray }->IntsAre vs ns->ns.length<=n->s₁.gens=#[]->
   codeAny (model l.prog w) callerA (.call (.ref fa) ⟨[.ref a],[]⟩) (λr s'=>r=.ok (.ret (.bool true))/\OldK s₁.heap s'.heap/\s'.os=s₁.os/\AllBare s'.gens) s₁) :
  WalkO q loose XP YP l.row.toRowW d [] (λf vs=>PySem.call f vs):=by
 intro w s₀ s₁ mg mb G Y fa o pm cd doc dV kV ho hd hcd hD hmg hg args vals as hpre hlay hrd hwl hlo;obtain rfl:dV=.none:=Dflts.none hD hdf;obtain rfl:kV=.none:=Dflts.noKw hD;obtain⟨a,vs,ns,rfl,rfl,hobj,hints,hlen⟩:=fy_ hn hpre hwl;refine enter_call (codeAny_mono (call w s₀ s₁ mg mb fa o pm cd doc a vs ns G Y ho (fd_plain hd) hcd hmg hobj hints hlen hg) λr s' hq=>?_);obtain⟨rfl,h2,h3,h4⟩:=hq;exact⟨.inl ⟨.bool true,.bool true,[],rfl,λ_=>rfl,.bool true,gf_ l _,λ_=>⟨List.Pairwise.nil,λ_ hm=>(nomatch hm)⟩⟩,h2,h3,h4⟩
end Att
namespace L2
open PySem PySem.Spec PyProof.Rows
theorem dF_:∀{vs:List Aa} {ns:List Int},IntsAre vs ns->Vals (ns.map V.int) vs
 |_,_,.nil=>.nil
 |_,_,.cons n t h=>.cons ⟨t,rfl⟩ (dF_ h)
def Only(H:Hp):Prop:=∀b,H b=none∨∃o xs,H b=some (.frz o (.lst xs))
variable{k:Nat}{a:Addr}{fd:Ae}{sp:Sp}
theorem hi_{P:Ad}{w:Af}{K:F__}{mg mb:Str->Option Aa}{CX:CXT}{fa:Addr}{x:Str}{s₁:Ab}{vs:List Aa}{ns:List Int}(KX:K.In s₁.heap)(hns:s₁.heap.Ns mainGlobals mg)(hb:s₁.heap.Ns builtinsNs mb)(hbb:∀x:Str,x≠"__name__"->mb x=bootBuiltins x)(hlim:s₁.heap.NoLimit)(hg:s₁.gens=#[])(ha:s₁.heap.get? a=some { cls:=.type "list",data:=.seq vs.toArray })(hi:IntsAre vs ns)(hl:ns.length<=sizeLine)(hr:Room k callerA)(F:∀base:Heap,K.In base->base.Ns mainGlobals mg->FnOk P w K mg base CX k fa fd [x] sp)(hbind:∀(s:Ab) (u:Aa),BindsTo s fd ⟨[u],[]⟩ [(x,u)])(hsp:∀H:Hp,Only H->SqL K H a (ns.map V.int)->sp [.ref a] H (λv _=>v=.bl true) λ_ _ _=>False)(hCX:∀H e s',CX [] H s₁ (λ_ _ _=>False) e s'->False) :
  codeAny (model P w) callerA (.call (.ref fa) ⟨[.ref a],[]⟩) (λr s'=>r=.ok (.ret (.bool true))/\OldK s₁.heap s'.heap/\s'.os=s₁.os/\AllBare s'.gens) s₁:=by
 have rv:=dF_ hi;have lenV:=hi.length
 have core:∀H:Hp,Only H->SqL K H a (ns.map V.int)->HOk P w H s₁.heap->(∀b,H b≠none->b=a)->(H a≠none->K.lookup a=none)->
   codeAny (model P w) callerA (.call (.ref fa) ⟨[.ref a],[]⟩) (λr s'=>r=.ok (.ret (.bool true))/\OldK s₁.heap s'.heap/\s'.os=s₁.os/\AllBare s'.gens) s₁:=by
  intro H hO hS hok hA hK;have base_of:∀{b:Addr} {o:Obj},s₁.heap.get? b=some o->H b=none->(hidT s₁.heap H).get? b=some o:=λe n=>hp_ e n
  have noA:∀{b:Addr} {o:Obj} {es:Array Ag} {ep:Nat},s₁.heap.get? b=some o->o.data=.dict es ep->H b=none:=λ{b o es ep} e d=>by
   cases q:H b with
   |none=>rfl
   |some u=>
    have e':b=a:=hA b (by rw[q];simp);subst e';rw[ha] at e;cases e;have d':Data.seq vs.toArray _=Data.dict es ep:=d;cases d'
  have nsK:∀{b:Addr} {m:Str->Option Aa},s₁.heap.Ns b m->(hidT s₁.heap H).Ns b m:=λ{b m} ⟨o,es,ep,e,d,r⟩=>⟨o,es,ep,base_of e (noA e d),d,r⟩
  have hKb:K.In (hidT s₁.heap H):=λb o e=>base_of (KX b o e) (by
   cases q:H b with
   |none=>rfl
   |some u=>
    have e':b=a:=hA b (by rw[q];simp);subst e';rw[hK (by rw[q];simp)] at e;cases e)
  have hM:Mod K mg (hidT s₁.heap H):=⟨hKb,nsK hns,⟨mb,nsK hb,hbb⟩,let ⟨mc,h1,h2⟩:=hlim;⟨mc,nsK h1,h2⟩⟩;have e0:Env0 P w K mg (hidT s₁.heap H) callerA [] s₁ H:=⟨rfl,hM,λb o e=>j1_ e,Nat.le_of_eq (fA_ _ _),trivial,λb hb=>absurd (show b∈([]:List Addr) from hb) Z2,hok,.of_eq hg⟩;refine codeAny_mono ((F _ hKb (nsK hns)).run callerA [] s₁ H ⟨[.ref a],[]⟩ [.ref a] [.ref a] _ _ hr e0 (hbind s₁ (.ref a)) (.cons rfl .nil) (hsp H hO hS)) λr s' h=>?_;cases r with
  |error e=>exact (hCX H e s' h).elim
  |ok fl=>
   cases fl with
   |next=>exact False.elim h
   |brk=>exact False.elim h
   |cont=>exact False.elim h
   |ret u=>
    obtain⟨v,H',os,bare,un,hok',r',q⟩:=h;have q':v=.bl true:=q;subst q';obtain rfl:u=Value.bool true:=r';refine⟨rfl,OldK.of_keep λb o e=>?_,os,bare⟩;cases q:H b with
    |none=>exact un.keep b o e q (by intro z;exact absurd (show b∈([]:List Addr) from z) Z2) Z2
    |some u=>
     rcases hO b with z|⟨ob,xs,z⟩
     ·rw[q] at z;cases z
     ·have z2:=un.frzs b ob _ z;obtain⟨e1,_⟩:=hok b _ z;obtain⟨e2,_⟩:=hok' b _ z2;rw[e] at e1;cases e1;exact e2
 cases hk:K.lookup a with
 |some o=>
  have e:=KX a o hk;rw[ha] at e;cases e;refine core (λ_=>none) (λ_=>.inl rfl) (.inr ⟨_,vs.toArray,_,hk,rfl,rfl,rfl,by rw[ag',lenV];exact hl,by simpa using rv⟩) (λb u z=>by have z':(none:Option HO)=some u:=z;cases z') (λb z=>absurd rfl z) λz=>absurd rfl z
 |none=>
  refine core (λb=>if b=a then some (.frz { cls:=.type "list",data:=.seq vs.toArray } (.lst (ns.map V.int))) else none) (λb=>?_) (.inl (.inr ⟨{ cls:=.type "list",data:=.seq vs.toArray },a_8 rfl⟩)) (λb u z=>?_) (λb z=>?_) λ_=>hk
  ·by_cases hb:b=a
   ·exact .inr ⟨_,_,a_8 hb⟩
   ·exact .inl (a_6 hb)
  ·by_cases hb:b=a
   ·have z':=(a_8 hb).symm.trans z;cases z';subst hb;exact⟨ha,by rw[aa'];exact hl,vs,_,rv,ha⟩
   ·have z':=(a_6 hb).symm.trans z;cases z'
  ·by_cases hb:b=a
   ·exact hb
   ·exact absurd (a_6 hb) z
theorem walk_of{l:PySem.W.OpenLaw}{n:Nat}{q:Ad}{loose:List Str}{XP:(Str->Option Aa)->Heap->Prop}{YP:Af->Heap->Prop}{d:DefRec}{K:Params->F__}{CX:Af->CXT}{sp:Af->Sp}{x:Str}(hn:l.most=some n)(hn2:n<=sizeLine)(hdf:d.params.defaults=[])(hr:Room k callerA)(hY:∀(w:Af) (h:Heap),YP w h->(K w.params).In h)(F:∀(w:Af) (mg:Str->Option Aa) (fa:Addr) (h:Heap),(K w.params).In h->h.Ns mainGlobals mg->mg d.name=some (.ref fa)->
   ∃fd:Ae,(∀(s:Ab) (u:Aa),BindsTo s fd ⟨[u],[]⟩ [(x,u)]) /\
    ∀base:Heap,(K w.params).In base->base.Ns mainGlobals mg->FnOk l.prog w (K w.params) mg base (CX w) k fa fd [x] (sp w))(hsp:∀(w:Af) (H:Hp) (a:Addr) (ns:List Int),ns.length<=n->Only H->SqL (K w.params) H a (ns.map V.int)->sp w [.ref a] H (λv _=>v=.bl true) λ_ _ _=>False)(hCX:∀(w:Af) (H:Hp) (s:Ab) (e:Aa) (s':Ab),CX w [] H s (λ_ _ _=>False) e s'->False) :
  PySem.W.WalkO q loose XP YP l.row.toRowW d [] (λf vs=>PySem.call f vs):=by
 refine Att.attach_call hn hdf λw s₀ s₁ mg mb fa o pm cd doc a vs ns G Y ho hd hcd hmg hobj hints hlen hg=>?_;have KX:=hY w _ Y;obtain⟨fd,hb,hF⟩:=F w mg fa _ KX G.T.g hmg;exact hi_ KX G.T.g G.T.b G.T.builtins G.T.nolimit hg hobj hints (aV' hlen hn2) hr hF hb (λH hO hS=>hsp w H a ns hlen hO hS) λH e s'=>hCX w H s₁ e s'
def bn'(s:Stmt)(j:Nat):Stmt:=match s with
 |.ClassDef _ _ _ body _ _ _ _ _ _ _=>body.getD j (.Pass ⟨0,0,0,0⟩)
 |_=>.Pass ⟨0,0,0,0⟩
def bd'(s:Stmt):Arguments:=match s with
 |.FunctionDef _ a _ _ _ _ _ _ _ _=>a
 |_=>{ posonlyargs:=[],args:=[],vararg:=none,kwonlyargs:=[],kw_defaults:=[],kwarg:=none,defaults:=[] }
def a6'(s:Stmt):List Stmt:=match s with
 |.FunctionDef _ _ b _ _ _ _ _ _ _=>b
 |_=>[]
def aW'(s:Stmt):Scope:=match s with
 |.FunctionDef _ _ _ _ _ _ sc _ _ _=>sc
 |_=>{ kind:=.function,names:=[],isGenerator:=false,isCoroutine:=false }
abbrev CX0:CXT:=λ_ _ _ _ _ _=>False
abbrev E0:XK:=λ_ _ _=>False
variable{X:Cx}
theorem pass0:bh' CX0 X E0:=λ_ _ _ _ _ _ _ h=>h.elim
structure Fun (K:F__) (x qual:Str) (st:Stmt) (f:Addr) (fd:Ae):Prop where
 ex:∃(oc:Aa) (od:Option Addr) (kV doc pm:Aa) (an:Option Addr) (cdv ct:Aa) (osl:Array (Option Aa)),
  fd=PySem.W.fnOf x qual (bd' st) (a6' st) (aW' st) .none kV doc pm an cdv ct/\K.lookup f=some ⟨oc,od,.func fd,osl⟩/\PySem.W.codeIn K cdv qual=true
 kp:PySem.W.keepIn K (.ref f)=true
section
variable{P:Ad}{w:Af}{K:F__}{mg:Str->Option Aa}{base:Heap}
theorem Fun.ok{x qual:Str}{st:Stmt}{f:Addr}{N ps:List Str}(F:Fun K x qual st f fd)(S:aX' N ps (aW' st))(len:∀vs H Q E,sp vs H Q E->vs.length=ps.length)(hbody:∀(cdv:Aa) (A:Ah) (outer:List Env) (s:Ab) (H:Hp) (vs:List V) (Q:VK) (E:XK),Room k (A.deeper (envOfC qual (aW' st) s.heap.objs.size f cdv))->sp vs H Q E->
   ∃t,PSs (cxOf CX0 P w K mg base N qual (aW' st) f cdv A outer s H E).nox (a6' st) t/\t { nx:=λ_ H'=>Q .non H',rt:=Q } (start N vs) H):FnOk P w K mg base CX0 (k+1) f fd ps sp:=by
 obtain⟨oc,od,kV,doc,pm,an,cdv,ct,osl,rfl,lk,hcd⟩:=F.ex;refine iM_ lk hcd S len λA outer s H vs Q E hr hsp=>?_;obtain⟨t,h,q⟩:=hbody cdv A outer s H vs Q E hr hsp;exact⟨t,h.nox,q⟩
theorem Fun.binds{x qual:Str}{st:Stmt}{f:Addr}{ps:List Str}(F:Fun K x qual st f fd)(h:∀(kV doc pm:Aa) (an:Option Addr) (cdv ct:Aa) (us:List Aa),us.length=ps.length->bindArgs (PySem.W.fnOf x qual (bd' st) (a6' st) (aW' st) .none kV doc pm an cdv ct) ⟨us,[]⟩=pure (ps.zip us)):bL' K fd ps []:=by
 obtain⟨oc,od,kV,doc,pm,an,cdv,ct,osl,rfl,lk,hcd⟩:=F.ex;exact .all (h kV doc pm an cdv ct)
theorem g7_{x qual:Str}{st:Stmt}{f:Addr}{oc:Aa}{od an:Option Addr}{osl:Array (Option Aa)}{kV doc pm cdv ct:Aa}(l:K.lookup f=some ⟨oc,od,.func (PySem.W.fnOf x qual (bd' st) (a6' st) (aW' st) .none kV doc pm an cdv ct),osl⟩)
  (c:PySem.W.codeIn K cdv qual=true) (k:PySem.W.keepIn K (.ref f)=true):Fun K x qual st f (PySem.W.fnOf x qual (bd' st) (a6' st) (aW' st) .none kV doc pm an cdv ct):=⟨⟨oc,od,kV,doc,pm,an,cdv,ct,osl,rfl,l,c⟩,k⟩
end
theorem b2_{A:Ah}(hr:Room k A):A.units+1<cLine:=Nat.lt_of_le_of_lt (Nat.add_le_add_left (by decide:1<=64) _) hr.units
variable{pos:Pos}
theorem pv(i:Nat){x:Str}(hN:X.N[i]? = some x:=by rfl)(hv:Vis X.env.scope x:=by first|exact Or.inl rfl|exact Or.inr (Or.inl rfl)|exact Or.inr (Or.inr rfl))(hd:(x == ("__debug__":Str))=false:=by decide)(hcd:(x == ("__classdict__":Str))=false:=by decide):PE X (.Name x pos) (tVar i):=jo_ hN hv hd hcd
inductive co' (xs:List V) (H:Hp) (Q:VK):Prop
 |mk:∀a kvs,xs=[V.ref a]->H a=some (.dK kvs)->Q (.int kvs.length) H->co' xs H Q
theorem dH_:bc' X (.builtin "len") co':=by
 intro pins s σ H xs us Q I r h;obtain⟨a,kvs,rfl,ha,q⟩:=h;obtain⟨u,rfl,ru⟩:=vals1 r;cases ru;exact jI_ I (.inl ha) λt s' I'=>⟨.int kvs.length,H,I',⟨t,rfl⟩,q⟩
variable{A B:Prop}
theorem iteF(h:B):if false=true then A else B:=by
 rw[a_6 am'];exact h
theorem iteT(h:A):if true=true then A else B:=by
 rw[a_8 rfl];exact h
variable{c:Prop}
theorem ite2[Decidable c](h1:c->A)(h2:¬c->B):if c then A else B:=by
 by_cases h:c
 ·rw[a_8 h];exact h1 h
 ·rw[a_6 h];exact h2 h
theorem iteNS[Decidable c](hc:c)(h:B):if (!decide c)=true then A else B:=by
 rw[a_5 hc];exact iteF h
def Same(H H':Hp):Prop:=∀b o,H b=some o->H' b=some o
theorem Same.refl(H:Hp):Same H H:=λ_ _ h=>h
variable{H1:Hp}
theorem Same.trans{H H2:Hp}(a:Same H H1)(b:Same H1 H2):Same H H2:=λc o h=>b c o (a c o h)
variable{H':Hp}
theorem Same.free{H:Hp}(e:Same H H'){l:Addr}(h:H' l=Option.none):H l=Option.none:=by
 cases q:H l with
 |none=>rfl
 |some o=>
  rw[e l o q] at h;cases h
variable{xs:List V}
theorem Same.seq{K:F__}{H:Hp}(e:Same H H')(h:SqL K H a xs):SqL K H' a xs:=by
 rcases h with (h|⟨o,h⟩)|h
 ·exact .inl (.inl (e _ _ h))
 ·exact .inl (.inr ⟨o,e _ _ h⟩)
 ·exact .inr h
section
variable{κ:Type}[DecidableEq κ]
theorem iW_{kvs:List (κ × V)}{k:κ}{v:V}(h:valV kvs k=some v):k∈kvs.map (·.1):=by
 have q:(kvs.any λkv=>decide (kv.1=k))=true:=by
  rw[bR_,h]
  all_goals rfl
 obtain⟨p,hp,e⟩:=List.any_eq_true.mp q;exact ah'.mpr ⟨p,hp,of_decide_eq_true e⟩
theorem gl_:∀{l:List κ} {k:κ},l.Nodup->¬k∈l->(l++[k]).Nodup
 |[],k,_,_=>by simp
 |a::r,k,h,hk=>by
  obtain⟨h1,h2⟩:=aN'.mp h;show (a::(r++[k])).Nodup;refine aN'.mpr ⟨λm=>?_,gl_ h2 λm=>hk (an'.mpr (Or.inr m))⟩;rcases aA'.mp m with q|q
  ·exact h1 q
  ·exact hk (an'.mpr (Or.inl (List.mem_singleton.mp q).symm))
end
def bb'(env:Env):List (Str × NameKind)->List (Str × Addr)->List (Str × Addr)
 |[],cs=>cs
 |(n,k)::r,cs=>bb' env r (if k == .free then (n,(env.cells.lookup n).getD 0)::cs else cs)
theorem bf_{env:Env}(f:Str × NameKind->List (Str × Addr)->Sem (ForInStep (List (Str × Addr))))
  (hf:∀n k cs,f (n,k) cs=if (k == .free)=true then (do let a <- cellOf env n;pure (.yield ((n,a)::cs))) else pure (.yield cs)) :
  ∀(names:List (Str × NameKind)) (cs:List (Str × Addr)),(∀x∈names,x.2=.free->∃c,env.cells.lookup x.1=some c)->forIn names cs f=(pure (bb' env names cs):Sem _)
 |[],cs,_=>by rw[List.forIn_nil];rfl
 |(n,k)::r,cs,h=>by
  rw[List.forIn_cons,hf];have hr:∀x∈r,x.2=.free->∃c,env.cells.lookup x.1=some c:=λx hx=>h x (af' _ hx);unfold bb';by_cases hk:(k == NameKind.free)=true
  ·obtain⟨c,hc⟩:=h (n,k) ak' (by simpa using hk);have hc:env.cells.lookup n=some c:=hc;rw[a_8 hk,a_8 hk];have e:cellOf env n=pure c:=by unfold cellOf;rw[hc]
   rw[e];simp only[pure_bind];rw[bf_ f hf r _ hr,hc];rfl
  ·rw[a_6 hk,a_6 hk];simp only[pure_bind];exact bf_ f hf r _ hr
variable{scope:Scope}{env:Env}
theorem bX_(h:∀x∈scope.names,x.2=.free->∃c,env.cells.lookup x.1=some c):closureFor scope env=pure (bb' env scope.names []):=by
 simp only[closureFor];rw[bf_ (env:=env) _ (λn k cs=>by by_cases hk:(k == NameKind.free)=true<;>simp[hk]) scope.names [] h]
 simp only[pure_bind]
theorem d0_{env:Env}:∀{names:List (Str × NameKind)} {cs:List (Str × Addr)} {x:Str} {c:Addr},(x,c)∈bb' env names cs->(x,c)∈cs∨((x,NameKind.free)∈names/\c=(env.cells.lookup x).getD 0)
 |[],cs,x,c,h=>.inl h
 |(n,k)::r,cs,x,c,h=>by
  unfold bb' at h;rcases d0_ h with h|⟨h,e⟩
  ·by_cases hk:(k == NameKind.free)=true
   ·rw[a_8 hk] at h;rcases an'.mp h with q|q
    ·cases q;have:k=.free:=by simpa using hk
     subst this;exact .inr ⟨ak',rfl⟩
    ·exact .inl q
   ·rw[a_6 hk] at h;exact .inl h
  ·exact .inr ⟨af' _ h,e⟩
theorem c6_{env:Env}:∀{names:List (Str × NameKind)} {cs:List (Str × Addr)} {x:Str},(x,NameKind.free)∈names∨(∃c,(x,c)∈cs)->∃c,(x,c)∈bb' env names cs
 |[],cs,x,h=>by
  rcases h with h|h
  ·cases h
  ·exact h
 |(n,k)::r,cs,x,h=>by
  unfold bb';refine c6_ ?_;rcases h with h|⟨c,h⟩
  ·rcases an'.mp h with e|h
   ·cases e;exact .inr ⟨(env.cells.lookup n).getD 0,by rw[a_8 (by decide)];exact ak'⟩
   ·exact .inl h
  ·refine .inr ⟨c,?_⟩;split
   ·exact af' _ h
   ·exact h
theorem bh_:∀(names:List (Str × NameKind)) (n:Nat) (acc cl:List (Str × Addr)),cellsFrom n names (acc++cl)=cellsFrom n names acc++cl
 |[],_,_,_=>rfl
 |(x,k)::r,n,acc,cl=>by
  unfold cellsFrom;split
  ·exact bh_ r (n+1) ((x,n)::acc) cl
  ·exact bh_ r n acc cl
theorem bk_:∀{names:List (Str × NameKind)} {n:Nat} {acc:List (Str × Addr)} {x:Str} {c:Addr},(x,c)∈cellsFrom n names acc->(x,c)∈acc∨(x,NameKind.cell)∈names
 |[],_,_,_,_,h=>.inl h
 |(y,k)::r,n,acc,x,c,h=>by
  unfold cellsFrom at h;by_cases hk:(k == NameKind.cell)=true
  ·rw[a_8 hk] at h;rcases bk_ h with h|h
   ·rcases an'.mp h with e|h
    ·cases e;have:k=.cell:=by simpa using hk
     subst this;exact .inr ak'
    ·exact .inl h
   ·exact .inr (af' _ h)
  ·rw[a_6 hk] at h;rcases bk_ h with h|h
   ·exact .inl h
   ·exact .inr (af' _ h)
theorem bi_{α:Type}:∀{l:List (Str × α)} {x:Str} {c:α},(x,c)∈l->∃c',l.lookup x=some c'
 |(k,v)::r,x,c,h=>by
  rw[aK'];cases hb:x == k with
  |true=>exact⟨v,rfl⟩
  |false=>
   rcases an'.mp h with e|h
   ·cases e;simp at hb
   ·exact bi_ h
def cpEnv(scope:Scope)(C:Addr)(env:Env):Env:=
 { scope:=relabel scope env,locals:=C,globals:=env.globals,cells:=cellsFrom (C+1) scope.names (bb' env scope.names []),qual:=env.qual,func:=none,code:=env.code,frame:=env.frame,builtins:=env.builtins }
theorem cE_{M:Model}{A:Ah}{E:Aa->Ab->Prop}{s:Ab}{cl:List (Str × Addr)}{Q:Env->Ab->Prop}(h:Q { scope:=scope,locals:=s.heap.objs.size,globals:=env.globals,cells:=cellsFrom (s.heap.objs.size+1) scope.names cl,qual:=env.qual,func:=none,code:=env.code,frame:=env.frame,builtins:=env.builtins }
   { s with heap:=pushCells (s.heap.push { cls:=.type "dict",data:=.dict #[] }) scope.names }) :
  wpAny M A (newFunctionEnv scope env.globals cl [] env.qual none .none (some env)) Q E s:=by
 simp only[newFunctionEnv,Option.isSome_some,if_true];refine a__ (wpAny_alloc ?_);refine a__ (wpAny_layCells _ (λname kind cells=>by cases hkc:kind == NameKind.cell<;>simp[hkc]) _ _ _ _ ?_)
 rw[show ({ s with heap:=s.heap.push { cls:=.type "dict",data:=.dict #[] } }:Ab).heap.objs.size=s.heap.objs.size+1 from Heap.size_push ..];rw[List.forIn_nil];exact a__ (a_1 (a_1 h))
def cv'(PN:List Str)(ps:Scope)(N:List Str)(own:Nat)(fr:List Nat)(scope:Scope):Bool:=
 decide (scope.kind=.function)&&decide N.Nodup&&decide (own+fr.length=N.length)
 && (scope.names.all λy=>decide (scope.names.lookup y.1=some y.2))
 && (scope.names.all λy=>if y.2=.free then decide (ps.names.lookup y.1=some .cell) || decide (ps.names.lookup y.1=some .free) else true)
 && ((fr.map λj=>PN[j]?) == (N.drop own).map some)
 && ((N.drop own).all λx=>decide (scope.names.lookup x=some .free))
structure CpOk (PN:List Str) (ps:Scope) (N:List Str) (own:Nat) (fr:List Nat) (scope:Scope):Prop where
 kind:scope.kind=.function
 nd:N.Nodup
 len:own+fr.length=N.length
 look:∀y∈scope.names,scope.names.lookup y.1=some y.2
 par:∀y∈scope.names,y.2=.free->ps.names.lookup y.1=some .cell∨ps.names.lookup y.1=some .free
 frs:(fr.map λj=>PN[j]?)=(N.drop own).map some
 frk:∀x∈N.drop own,scope.names.lookup x=some .free
variable{N:List Str}{own:Nat}
theorem CpOk.of{PN:List Str}{ps:Scope}{fr:List Nat}(h:cv' PN ps N own fr scope=true):CpOk PN ps N own fr scope:=by
 unfold cv' at h;simp only[aR',decide_eq_true_eq,List.all_eq_true,beq_iff_eq] at h;obtain⟨⟨⟨⟨⟨⟨h1,h2⟩,h3⟩,h4⟩,h5⟩,h6⟩,h7⟩:=h;refine⟨h1,h2,h3,h4,λy hy e=>?_,h6,h7⟩;have q:=h5 y hy;rw[a_8 e] at q;simpa using q
def bA'(own:Nat)(fr:List Nat)(σ:St):St:=List.replicate own none++fr.map λj=>(σ[j]?).join
def a7'(X:Cx)(N:List Str)(scope:Scope)(fp:List Addr)(s:Ab)(H:Hp):Cx where
 prog:=X.prog
 w:=X.w
 K:=X.K
 mg:=X.mg
 base:=X.base
 A:=X.A
 N:=N
 s₀:=s
 H₀:=H
 env:=cpEnv scope s.heap.objs.size X.env
 outer:=X.stack
 stack:=X.stack
 ex:=fp
 fn:=λx=>decide (scope.names.lookup x=some .local) || decide (scope.names.lookup x=some .cell)
 calm:=X.calm
 pn:=[]
 xe:=λ_ _=>False
theorem cf_{ps:Scope}{env:Env}(he:env.scope=ps){x:Str}:∀{names:List (Str × NameKind)} {k:NameKind},names.lookup x=some k->
  (names.map λ(n,k)=>if (k == NameKind.free&&env.scope.kind == .function&&env.kindOf n == some .cell) then (n,NameKind.cell) else (n,k)).lookup x =
   some (if (k == NameKind.free&&env.scope.kind == .function&&env.kindOf x == some .cell) then .cell else k)
 |(n,k')::r,k,h=>by
  rw[aK'] at h;rw[ax'];cases hb:x == n with
  |true=>
   rw[hb] at h;cases h;have e:x=n:=by simpa using hb
   subst e;dsimp only;split<;>simp[aK']
  |false=>
   rw[hb] at h;have ih:=cf_ he (env:=env) h;dsimp only;split<;>(rw[aK',hb];exact ih)
theorem c8_{env:Env}{x:Str}:∀{names:List (Str × NameKind)} {k:NameKind},(names.map λ(n,k)=>if (k == NameKind.free&&env.scope.kind == .function&&env.kindOf n == some .cell) then (n,NameKind.cell) else (n,k)).lookup x=some k->∃k',names.lookup x=some k'/\(k'=k∨(k'=.free/\k=.cell))
 |(n,k')::r,k,h=>by
  rw[ax'] at h;rw[aK'];dsimp only at h;cases hb:x == n with
  |true=>
   refine⟨k',rfl,?_⟩;by_cases hc:(k' == NameKind.free&&env.scope.kind == .function&&env.kindOf n == some .cell)=true
   ·rw[a_8 hc,aK',hb] at h;cases h;simp only[aR',beq_iff_eq] at hc;exact .inr ⟨hc.1.1,rfl⟩
   ·rw[a_6 hc,aK',hb] at h;cases h;exact .inl rfl
  |false=>
   have h':(r.map λ(n,k)=>if (k == NameKind.free&&env.scope.kind == .function&&env.kindOf n == some .cell) then (n,NameKind.cell) else (n,k)).lookup x=some k:=by
    split at h<;>(rw[aK',hb] at h;exact h)
   exact c8_ h'
theorem dc_{α:Type}{x:Str}{c:α}:∀{l r:List (Str × α)},(l++r).lookup x=some c->(x,c)∈l∨(x,c)∈r:=λh=>aA'.mp (c_2 h)
section
variable{X:Cx}{pins:List (Addr × Obj)}{σ:St}{H:Hp}{s:Ab}{N:List Str}{own:Nat}{fr:List Nat}{scope:Scope}{fp:List Addr}
theorem dj'(I:Inv X pins σ H s)(S:CpOk X.N X.env.scope N own fr scope){x:Str}{c:Addr}(h:(x,c)∈bb' X.env scope.names []):X.env.cells.lookup x=some c/\(x,NameKind.free)∈scope.names:=by
 rcases d0_ h with h|⟨h,e⟩
 ·cases h
 ·obtain⟨c',hc⟩:=I.ok.has x (S.par _ h rfl);refine⟨?_,h⟩;rw[e,hc];rfl
theorem Inv.block(I:Inv X pins σ H s)(S:CpOk X.N X.env.scope N own fr scope)(hfp:∀b∈fp,FpOk X pins H b)(hfo:∀b∈fp,∃o,s.heap.get? b=some o) :
  Inv (a7' X N scope fp s H) [] (bA' own fr σ) H { s with heap:=pushCells (s.heap.push { cls:=.type "dict",data:=.dict #[] }) scope.names }:=by
 have kept:∀b o,s.heap.get? b=some o->(pushCells (s.heap.push { cls:=.type "dict",data:=.dict #[] }) scope.names).get? b=some o:=λb o e=>pushCells_keeps _ _ b o (a_0 _ e);have cok:=cellsFrom_ok scope.names (s.heap.push { cls:=.type "dict",data:=.dict #[] }) (s.heap.objs.size+1) [] ⟨λ_ _ hm=>(nomatch hm),List.Pairwise.nil⟩ (by rw[Heap.size_push];exact ae' _);rw[Heap.size_push] at cok;have ecs:cellsFrom (s.heap.objs.size+1) scope.names (bb' X.env scope.names [])=cellsFrom (s.heap.objs.size+1) scope.names []++bb' X.env scope.names []:=bh_ _ _ [] _
 have lookC:∀{x c},(cellsFrom (s.heap.objs.size+1) scope.names (bb' X.env scope.names [])).lookup x=some c->((x,c)∈cellsFrom (s.heap.objs.size+1) scope.names []/\(x,NameKind.cell)∈scope.names/\s.heap.objs.size+1<=c)∨(X.env.cells.lookup x=some c/\(x,NameKind.free)∈scope.names):=λ{x c} h=>by
  rw[ecs] at h;rcases dc_ h with h|h
  ·refine .inl ⟨h,?_,(cok.empty _ _ h).2⟩;rcases bk_ h with q|q
   ·cases q
   ·exact q
  ·exact .inr (dj' I S h)
 have oldC:∀{x c},X.env.cells.lookup x=some c->c<s.heap.objs.size:=λ{x c} h=>by
  obtain⟨v,hv⟩:=I.cell x c h;exact hv.lt
 have hb:∀b∈fp,b<s.heap.objs.size:=λb hb=>let ⟨o,e⟩:=hfo b hb;a_2 e
 refine⟨⟨I.ok.mod,S.kind,I.ok.glob,I.ok.blt,ae' _,λx y c h1 h2=>?_,λx hx=>?_,λx c hf h=>?_,I.ok.hd,I.ok.frames,.inl rfl,λb hb'=>⟨aj' (hb b hb'),λx c h=>?_⟩,I.bs,?_,λb o e hb'=>?_,λb hb' hs=>?_,I.stack,I.stkFree⟩,
  rfl,I.bare,Un.kept kept,⟨_,(Heap.Ns.new s.heap (.type "dict")).keeps (pushCells_keeps _ _),λi x v h1 h2 h3=>?_⟩,λx c h=>?_,I.hok.fresh (ae' _),λx c h=>?_,λp hp=>absurd (show p∈([]:List (Addr × Obj)) from hp) Z2,I.hok.kept kept,?_⟩
 ·-- inj
  rcases lookC h1 with⟨m1,k1,l1⟩|⟨m1,k1⟩<;>rcases lookC h2 with⟨m2,k2,l2⟩|⟨m2,k2⟩
  ·exact name_of_addr cok.apart m1 m2
  ·exact absurd (oldC m2) (Nat.not_lt.mpr (Nat.le_of_succ_le l1))
  ·exact absurd (oldC m1) (Nat.not_lt.mpr (Nat.le_of_succ_le l2))
  ·exact I.ok.inj x y c m1 m2
 ·-- has
  have key:(x,NameKind.cell)∈scope.names∨(x,NameKind.free)∈scope.names:=by
   rcases hx with hx|hx
   ·obtain⟨k',e,q⟩:=c8_ (env:=X.env) (show _=some NameKind.cell from hx);have m:=c_2 e;rcases q with q|⟨q,_⟩
    ·exact .inl (q▸m)
    ·exact .inr (q▸m)
   ·obtain⟨k',e,q⟩:=c8_ (env:=X.env) (show _=some NameKind.free from hx);have m:=c_2 e;rcases q with q|⟨_,q⟩
    ·exact .inr (q▸m)
    ·cases q
  show ∃c,(cellsFrom (s.heap.objs.size+1) scope.names (bb' X.env scope.names [])).lookup x=some c
  have:((cellsFrom (s.heap.objs.size+1) scope.names (bb' X.env scope.names [])).lookup x).isSome=true:=by
   refine PySem.W.cellsFrom_some _ _ _ ?_;rcases key with q|q
   ·exact .inl (S.look _ q)
   ·obtain⟨c,m⟩:=c6_ (env:=X.env) (names:=scope.names) (cs:=[]) (x:=x) (.inl q);obtain⟨c',e⟩:=bi_ m;exact .inr (by rw[e];rfl)
  exact aG'.mp this
 ·-- cab
  rcases lookC h with⟨_,_,l⟩|⟨_,k⟩
  ·exact Nat.le_of_succ_le l
  ·have e:=S.look _ k;have hf:(decide (scope.names.lookup x=some .local) || decide (scope.names.lookup x=some .cell))=true:=hf;rw[show scope.names.lookup x=some .free from e] at hf;exact absurd hf (by decide)
 ·rcases lookC h with⟨_,_,l⟩|⟨q,_⟩
  ·exact aE' (aq' (hb b hb') (Nat.le_of_succ_le l))
  ·exact (hfp b hb').2.2.2.2.1 x c q
 ·exact aV' I.ok.bsz I.sz
 ·rcases (hfp b hb').2.2.2.1 with q|q
  ·exact I.ok.noex b o e q
  ·exact absurd (aq' (a_2 e) I.ok.bsz) Z1
 ·rcases an'.mp (I.stkSub b hs) with q|q
  ·exact (hfp b hb').2.1 q
  ·exact (hfp b hb').2.2.1 q
 ·-- names
  have hi:own<=i:=by
   refine Nat.le_of_not_lt λhlt=>?_;unfold bA' at h2;rw[List.getElem?_append_left (by rw[aO'];exact hlt),List.getElem?_replicate,a_8 hlt] at h2;cases h2
  have h2':(fr.map λj=>(σ[j]?).join)[i - own]? = some (some v):=by
   unfold bA' at h2;rw[List.getElem?_append_right (by rw[aO'];exact hi),aO'] at h2;exact h2
  have h1:N[i]? = some x:=h1;have hx:(N.drop own)[i - own]? = some x:=by rw[List.getElem?_drop,show own+(i - own)=i by omega];exact h1
  rw[ao'] at h2';cases ej:fr[i - own]? with
  |none=>rw[ej] at h2';cases h2'
  |some j=>
   rw[ej] at h2';have h2':(σ[j]?).join=some v:=a_9 h2'
   have hσ:σ[j]? = some (some v):=by
    cases q:σ[j]? with
    |none=>rw[q] at h2';cases h2'
    |some o=>rw[q] at h2';exact b_5 some h2'
   have hN:X.N[j]? = some x:=by
    have q:=b_5 (λl=>l[i - own]?) S.frs;simp only[ao',ej,hx,Option.map_some] at q;exact a_9 q
   have kf:=S.frk x (ad' hx);have mf:=c_2 kf;obtain⟨m,hm,hv⟩:=I.loc;have pk:=S.par _ mf rfl;obtain⟨u,ru,lk⟩:=hv j x v hN hσ (pk.elim (λq=>.inr (.inl q)) λq=>.inr (.inr q));refine⟨u,ru,?_⟩;have pk':X.env.kindOf x=some .cell∨X.env.kindOf x=some .free:=pk;rcases lk with⟨k,_⟩|⟨_,c,hc,hcell⟩
   ·rw[k] at pk';rcases pk' with q|q<;>cases q
   ·obtain⟨c',m1⟩:=c6_ (env:=X.env) (names:=scope.names) (cs:=[]) (x:=x) (.inl mf);have e1:=(dj' I S m1).1;rw[hc] at e1;cases e1;refine .inr ⟨?_,c,?_,hcell.keeps kept⟩
    ·have q:=cf_ (env:=X.env) rfl kf;show (relabel scope X.env).names.lookup x=some .cell∨(relabel scope X.env).names.lookup x=some .free;unfold relabel;rw[q];split
     ·exact .inl rfl
     ·exact .inr rfl
    ·obtain⟨c2,e2⟩:=aG'.mp (PySem.W.cellsFrom_some (x:=x) scope.names (s.heap.objs.size+1) (bb' X.env scope.names []) (.inr (by obtain⟨c',e⟩:=bi_ m1;rw[e];rfl)));show (cellsFrom (s.heap.objs.size+1) scope.names (bb' X.env scope.names [])).lookup x=some c;rcases lookC e2 with⟨_,q,_⟩|⟨q,_⟩
     ·have:=S.look _ q;rw[show scope.names.lookup x=some .free from kf] at this;cases this
     ·rw[hc] at q;cases q;exact e2
 ·-- cells
  rcases lookC h with⟨q,_,_⟩|⟨q,_⟩
  ·exact⟨_,(cok.empty _ _ q).1⟩
  ·obtain⟨v,hv⟩:=I.cell x c q;exact⟨v,hv.keeps kept⟩
 ·rcases lookC h with⟨q,_,l⟩|⟨q,_⟩
  ·exact I.hok.fresh Z1
  ·exact I.freeC x c q
 ·show (bA' own fr σ).length=N.length;unfold bA';rw[av',aO',aa'];exact S.len
end
def PTs(X:Cx)(ifs:List Expr)(t:TT):Prop:=
 ∀(pins:List (Addr × Obj)) (s:Ab) (σ:St) (H:Hp) (Q:Bool->Hp->Prop),Inv X pins σ H s->t σ H Q->
  wpAny (model X.prog X.w) X.A (forIn ifs true λc r=>if r=true then do let ok <- isTrue c X.env (eval c X.env);pure (ForInStep.yield ok) else pure (ForInStep.yield r)) (TP X pins σ Q) X.xe s
def tYes:TT:=λ_ H Q=>Q true H
variable{σ:St}
theorem yesT{H:Hp}{A B:Hp->Prop}(h:A H):tYes σ H λb H4=>if b=true then A H4 else B H4:=by
 unfold tYes;exact iteT h
theorem aX_:PTs X [] tYes:=λ_ _ _ H _ I h=>wpAny_tests_nil ⟨H,I,h⟩
theorem ef_{c:Expr}{t:TT}(h:PT X c t):PTs X [c] t:=λpins s σ H Q I q=>wpAny_tests_one (h pins s σ H Q I q)
def c0'(J:It)(g:TG)(tc:TT)(te:TE)(σ0:St)(D:Addr)(H1:Hp)(Q:VK):Prop:=∃W:Nat->Nat->St->Hp->Prop,
 (∃m,W 0 m σ0 (upd H1 D (.lst [])))/\∀i m σ' H',W i m σ' H'->(J.stop i H'/\Q (.ref D) H') ∨
  (J.go i H'/\∃Nx:St->Hp->Prop,(∀σ2 H2,Nx σ2 H2->∃m',m'<m/\W (i+1) m' σ2 H2) /\
   ∀x H2,J.yld i H' x H2->g x σ' H2 λσ3 H3=>tc σ3 H3 λb H4=>if b=true then te σ3 H4 λy H5=>∃out,H5 D=some (.lst out)/\out.length<sizeLine/\Nx σ3 (upd H5 D (.lst (out++[y]))) else Nx σ3 H4)
def tComp(wi:TI)(own:Nat)(fr:List Nat)(g:TG)(tc:TT)(te:TE):TE:=λσ H Q=>wi σ H λJ H1=>∀D,H1 D=none->c0' J g tc te (bA' own fr σ) D H1 Q
variable{Q:VK}{J:It}{D:Addr}{elt iter tg:Expr}{ifs:List Expr}{g:TG}{tc:TT}{te:TE}
theorem gb_{R:Result->Ab->Prop}{fr:List Nat}{pins:List (Addr × Obj)}{s2:Ab}{it:Addr}{fp:List Addr}{tn:Nat->Heap->Prop}(S:CpOk X.N X.env.scope N own fr scope)(hc:X.calm=true)(hg:∀fp s H,PG (a7' X N scope fp s H) tg g)(ht:∀fp s H,PTs (a7' X N scope fp s H) ifs tc)(he:∀fp s H,PE (a7' X N scope fp s H) elt te)(I3:Inv X pins σ (upd H1 D (.lst [])) s2)(T:Turn X.prog X.w X.K tg J fp it tn)(st:tn 0 s2.heap)(f2:∀b∈fp,FpOk X pins (upd H1 D (.lst [])) b)(k:c0' J g tc te (bA' own fr σ) D H1 Q)(hR:∀H' s',Inv X pins σ H' s'->(∃m,s'.heap.Ns s2.heap.objs.size m)->H' s2.heap.objs.size=none->Q (.ref D) H'->R (.ok .next) s') :
  codeAny (model X.prog X.w) X.A (.compStart (.ListComp elt [⟨tg,iter,ifs,0⟩] scope pos) 0 (.ref it) (.ref D) (cpEnv scope s2.heap.objs.size X.env)) R
   { s2 with heap:=pushCells (s2.heap.push { cls:=.type "dict",data:=.dict #[] }) scope.names }:=by
 obtain⟨W,⟨m0,w0⟩,turn⟩:=k;have I4:=I3.block (N:=N) S f2 (λb hb=>let ⟨o,e,_⟩:=T.obj _ _ st b hb;⟨o,e⟩);have kept:∀b o,s2.heap.get? b=some o->(pushCells (s2.heap.push { cls:=.type "dict",data:=.dict #[] }) scope.names).get? b=some o:=λb o e=>pushCells_keeps _ _ b o (a_0 _ e);have st4:tn 0 (pushCells (s2.heap.push { cls:=.type "dict",data:=.dict #[] }) scope.names):=T.keep _ _ _ st λb hb o e=>kept b o e
 have fx:∀{H':Hp},(∀b∈fp,H' b=none)->∀b∈fp,FpOk (a7' X N scope fp s2 (upd H1 D (.lst []))) [] H' b:=λhn b hb=>
  ⟨hn b hb,(I4.ok.exf b hb).1,I4.ok.exfs b hb,.inl hb,(I4.ok.exf b hb).2,λp hp=>absurd (show p∈([]:List (Addr × Obj)) from hp) Z2⟩
 have loop:codeAny (model X.prog X.w) X.A (.compLoop (.ListComp elt [⟨tg,iter,ifs,0⟩] scope pos) 0 (.ref it) (.ref D) (cpEnv scope s2.heap.objs.size X.env)) R
   { s2 with heap:=pushCells (s2.heap.push { cls:=.type "dict",data:=.dict #[] }) scope.names }:=by
  refine codeAny_loop rfl (λn s'=>∃i σ' H',Inv (a7' X N scope fp s2 (upd H1 D (.lst []))) [] σ' H' s'/\tn i s'.heap/\(∀b∈fp,H' b=none)/\W i n σ' H') (λn s' hI=>?_) m0 ⟨0,_,_,I4,st4,λb hb=>(f2 b hb).1,w0⟩;obtain⟨i,σ',H',I5,st5,fr5,w5⟩:=hI;show wpAny _ X.A ((compTurn (.ListComp elt [⟨tg,iter,ifs,0⟩] scope pos) 0 (.ref it) (.ref D) (cpEnv scope s2.heap.objs.size X.env)).onRaise (λx=>do noteFrame x (cpEnv scope s2.heap.objs.size X.env);theTreesLotGoes x)) _ _ s';refine wpAny_noted (wpAny_mono (E:=λ_ _=>False) ?_ (λ_ _ q=>q) λ_ _ q=>q.elim);rw[compTurn_list];refine a__ (wpAny_standAt (a__ ?_));rcases turn i n σ' H' w5 with⟨stop,q⟩|⟨go,Nx,hN,step⟩
  ·refine thn (T.done (a7' X N scope fp s2 (upd H1 D (.lst []))) rfl rfl rfl hc i [] s' σ' H' _ I5 (fx fr5) st5 stop) λr s6 ⟨hr,I6⟩=>?_;subst hr;refine a_1 (hR H' s6 (I3.call' I6.os I6.base I6.hok I6.bare λb hb=>?_) ?_ I6.free q)
   ·exact⟨(f2 b hb).2.2.2.1,(f2 b hb).2.1,(f2 b hb).2.2.2.2.1,(f2 b hb).2.2.2.2.2⟩
   ·obtain⟨m,hm,_⟩:=I6.loc;exact⟨m,hm⟩
  ·refine thn (T.item (a7' X N scope fp s2 (upd H1 D (.lst []))) rfl rfl rfl hc i [] s' σ' H' _ I5 (fx fr5) st5 go) λr s6 ⟨u,hr,h6⟩=>?_;subst hr;refine a__ (thn h6 λ_ s7 ⟨x,H7,I7,r7,y7,st7,fr7⟩=>?_);have I7':=I7.pinned (fx fr7) (T.obj _ _ st7)
   have back:∀{σ8:St} {H8:Hp} {s8:Ab},Inv (a7' X N scope fp s2 (upd H1 D (.lst []))) ([]++cO' fp s7.heap) σ8 H8 s8->Nx σ8 H8->∃m,m<n/\∃i σ' H',Inv (a7' X N scope fp s2 (upd H1 D (.lst []))) [] σ' H' s8/\tn i s8.heap/\(∀b∈fp,H' b=none)/\W i m σ' H':=λ{σ8 H8 s8} I8 n8=>by
    obtain⟨m',hm,w8⟩:=hN σ8 H8 n8;refine⟨m',hm,i+1,σ8,H8,I8.unpinned,T.keep _ _ _ st7 λb hb o e=>(I8.pin (b,o) (aB' _ (aB' _ (bC_ hb e)))).1,λb hb=>?_,w8⟩;obtain⟨o,e,d⟩:=T.obj _ _ st7 b hb;exact (I8.pin (b,o) (aB' _ (aB' _ (bC_ hb e)))).2.1
   refine a__ (thn (hg fp s2 (upd H1 D (.lst [])) _ s7 σ' H7 x u _ I7' r7 (step x H7 y7)) λ_ s8 ⟨σ8,H8,I8,q8⟩=>?_);refine a__ (thn (ht fp s2 (upd H1 D (.lst [])) _ s8 σ8 H8 _ I8 q8) λb s9 ⟨H9,I9,q9⟩=>?_);cases b with
   |false=>
    simp only[aM',if_false] at q9 ⊢;exact a_1 ⟨rfl,back I9 q9⟩
   |true=>
    simp only[if_true] at q9 ⊢;refine a__ (a__ (thn (he fp s2 (upd H1 D (.lst [])) _ s9 σ8 H9 _ I9 q9) λy s10 ⟨yv,H10,I10,r10,out,hD,hz,q10⟩=>?_));refine a__ (thn (c0_ (X:=a7' X N scope fp s2 (upd H1 D (.lst []))) _ s10 σ8 H10 (.ref D) [yv] (.ref D) [y] (λ_ H'=>Nx σ8 H') I10 rfl (.cons r10 .nil) ⟨D,out,yv,rfl,rfl,hD,hz,q10⟩) λ_ s11 ⟨_,H11,I11,_,q11⟩=>?_);exact a_1 (a_1 ⟨rfl,back I11 q11⟩)
 exact codeAny_compStart_list loop (T.self _ 0 _ _ _ st4 loop)
variable{wi:TI}
theorem aZ_(N:List Str)(own:Nat)(fr:List Nat)(hi:PI X tg iter wi)(hg:∀fp s H,PG (a7' X N scope fp s H) tg g)(ht:∀fp s H,PTs (a7' X N scope fp s H) ifs tc)(he:∀fp s H,PE (a7' X N scope fp s H) elt te)
  (S:cv' X.N X.env.scope N own fr scope=true:=by kernel_rfl) (hc:X.calm=true:=by rfl) (hs:∀x,foldedSetIterable iter X.env x=pure x:=by intro _;rfl) :
  PE X (.ListComp elt [⟨tg,iter,ifs,0⟩] scope pos) (tComp wi own fr g tc te):=by
 intro pins s σ H Q I h;have S':=CpOk.of S;rw[eval_ListComp];have hclos:closureFor scope X.env=pure (bb' X.env scope.names []):=bX_ λx hx e=>I.ok.has x.1 (S'.par x hx e);refine wpAny_comprehension_free (use:=none) rfl hs hclos S'.kind (λx hx e=>by rw[S'.look x hx,e]) (thn (hi pins s σ H _ I h) λv s1 h1=>thn h1 λitv s2 h2=>?_);obtain⟨it,fp,tn,J,H1,rfl,I2,T,st2,f2,k⟩:=h2;refine b_6 (cE_ ?_);have hD:H1 s2.heap.objs.size=none:=I2.fresh;have I3:=I2.lnew (ys:=[]) (its:=[]) (t':=s2.toks) .nil (aC' _);have kept:∀b o,s2.heap.get? b=some o->(s2.heap.push { cls:=.type "list",data:=.seq ([]:List Aa).toArray }).get? b=some o:=λb o e=>a_0 _ e;refine gb_ (own:=own) (fr:=fr) (Q:=Q) S' hc hg ht he I3 T (T.keep _ _ _ st2 λb hb o e=>kept b o e) (λb hb=>?_) (k _ hD) ?_
 ·refine⟨?_,(f2 b hb).2⟩;obtain⟨o,e,_⟩:=T.obj _ _ st2 b hb;rw[a7_ (aj' (a_2 e))];exact (f2 b hb).1
 ·rintro H' s' I' ⟨m,hm⟩ hn q;refine⟨m,hm,λh' hs'=>⟨.ref s2.heap.objs.size,H',?_,rfl,q⟩⟩
  exact I'.turned (t':=s'.toks) (λb o hb e=>hs'.extBut b o hb e) hn (aE' I3.lt) (.inr I3.sz) (λx c hcx e=>by
   obtain⟨v,hv⟩:=I3.cell x c hcx
   exact absurd hv.lt (by rw[e];exact aU' _)) λp hp e=>by
    have:=(I3.pin p hp).1;rw[e] at this;exact absurd (a_2 this) (aU' _)
def tAsgC(i:Nat)(te:TE):TS:=λD σ H=>te σ H λx H1=>D.nx (σ.set i (some x)) H1
theorem ei_{i:Nat}{x:Str}{px:Pos}(N:List Str)(own:Nat)(fr:List Nat)(hN:X.N.Nodup)(hi':X.N[i]? = some x)(hx:Loc X.env.scope x)
  (hi:PI X tg iter wi) (hg:∀fp s H,PG (a7' X N scope fp s H) tg g) (ht:∀fp s H,PTs (a7' X N scope fp s H) ifs tc) (he:∀fp s H,PE (a7' X N scope fp s H) elt te) {pos':Pos}
  (S:cv' X.N X.env.scope N own fr scope=true:=by kernel_rfl) (hc:X.calm=true:=by rfl) (hs:∀x,foldedSetIterable iter X.env x=pure x:=by intro _;rfl)
  (hf:X.fn x=true∨X.env.scope.names.lookup x=some .local:=by first|exact .inl rfl|exact .inr rfl|assumption)
  (hsw:swapsWith (.ListComp elt [⟨tg,iter,ifs,0⟩] scope pos) (some (.Name x px)) pos'.line X.env=pure true:=by rfl) :
  PS X (.Assign [.Name x px] (.ListComp elt [⟨tg,iter,ifs,0⟩] scope pos) pos') (tAsgC i (tComp wi own fr g tc te)):=by
 intro pins s σ H E I h;have S':=CpOk.of S;rw[exec_Assign_Name_used _ _ _ _ hsw];refine a__ (wpAny_standAt (a__ ?_));show wpAny _ X.A (do let _ <- comprehension (.ListComp elt [⟨tg,iter,ifs,0⟩] scope pos) scope X.env _ (newList []) false (eval iter X.env) (some (assign (.Name x px) X.env))) _ _ s;have hclos:closureFor scope X.env=pure (bb' X.env scope.names []):=bX_ λx hx e=>I.ok.has x.1 (S'.par x hx e)
 refine a__ (wpAny_mono (wpAny_comprehension_free (use:=some (assign (.Name x px) X.env)) (Q:=λ_ s'=>SP X pins E .next s') rfl hs hclos S'.kind (λx hx e=>by rw[S'.look x hx,e]) (thn (hi pins s σ H _ I h) λv s1 h1=>thn h1 λitv s2 h2=>?_))
  (λ_ s' hq=>a_1 (a_1 hq)) λ_ _ e=>e)
 obtain⟨it,fp,tn,J,H1,rfl,I2,T,st2,f2,k⟩:=h2;refine b_6 (cE_ ?_);have hD:H1 s2.heap.objs.size=none:=I2.fresh;have I3:=I2.lnew (ys:=[]) (its:=[]) (t':=s2.toks) .nil (aC' _);have kept:∀b o,s2.heap.get? b=some o->(s2.heap.push { cls:=.type "list",data:=.seq ([]:List Aa).toArray }).get? b=some o:=λb o e=>a_0 _ e;refine gb_ (own:=own) (fr:=fr) (Q:=λx H1=>E.nx (σ.set i (some x)) H1) S' hc hg ht he I3 T (T.keep _ _ _ st2 λb hb o e=>kept b o e) (λb hb=>?_) (k _ hD) ?_
 ·refine⟨?_,(f2 b hb).2⟩;obtain⟨o,e,_⟩:=T.obj _ _ st2 b hb;rw[a7_ (aj' (a_2 e))];exact (f2 b hb).1
 ·rintro H' s' I' ⟨m,hm⟩ hn q
  have cne:∀y c,X.env.cells.lookup y=some c->c≠(s2.heap.push { cls:=.type "list",data:=.seq ([]:List Aa).toArray }).objs.size:=λy c hcx e=>by
   obtain⟨v,hv⟩:=I3.cell y c hcx;exact absurd hv.lt (by rw[e];exact aU' _)
  show wpAny _ X.A (assign (.Name x px) X.env (.ref s2.heap.objs.size)) _ _ s';refine wpAny_assign_Name (dP_ (v:=V.ref s2.heap.objs.size) I' hN hi' hx rfl (λs'' I'' ⟨a,hs2,ha⟩=>?_) hf)
  have hCa:(s2.heap.push { cls:=.type "list",data:=.seq ([]:List Aa).toArray }).objs.size≠a:=by
   rcases ha with e|e
   ·rw[e];exact aE' I3.lt
   ·exact (cne x a e).symm
  refine⟨m,hm.sameBut hs2 hCa,λh' hs'=>⟨_,H',?_,q⟩⟩
  exact I''.turned (t':=s''.toks) (λb o hb e=>hs'.extBut b o hb e) hn (aE' I3.lt) (.inr I3.sz) cne λp hp e=>by
    have:=(I3.pin p hp).1;rw[e] at this;exact absurd (a_2 this) (aU' _)
def GOk(g:TG)(own:Nat)(fv:List (Option V))(dec:V->Hp->List (Option V)->Prop):Prop:=
 ∀(x:V) (o:List (Option V)) (H:Hp) (k:St->Hp->Prop) (o3:List (Option V)),o.length=own->dec x H o3->k (o3++fv) H->g x (o++fv) H k
variable{fv:List (Option V)}
theorem gok1:GOk (bM' 0) 1 fv (λx _ o3=>o3=[some x]):=λx o H k o3 hl e h=>by
 subst e
 match o,hl with
 |[a],_=>exact h
inductive dec2 (K:F__) (x:V) (H:Hp) (o3:List (Option V)):Prop
 |mk:∀p u v,x=.ref p->SqT K H p [u,v]->o3=[some u,some v]->dec2 K x H o3
inductive dec3 (K:F__) (x:V) (H:Hp) (o3:List (Option V)):Prop
 |mk:∀p u v w,x=.ref p->SqT K H p [u,v,w]->o3=[some u,some v,some w]->dec3 K x H o3
variable{K:F__}
theorem gok2:GOk (gTup K 2 (cg' (bM' 0) (cg' (bM' 1) gNil))) 2 fv (dec2 K):=λx o H k o3 hl e h=>by
 obtain⟨p,u,v,rfl,hp,rfl⟩:=e
 match o,hl with
 |[a,b],_=>exact⟨p,[u,v],rfl,hp,rfl,u,[v],rfl,v,[],rfl,rfl,h⟩
theorem gok3:GOk (gTup K 3 (cg' (bM' 0) (cg' (bM' 1) (cg' (bM' 2) gNil)))) 3 fv (dec3 K):=λx o H k o3 hl e h=>by
 obtain⟨p,u,v,w,rfl,hp,rfl⟩:=e
 match o,hl with
 |[a,b,c],_=>exact⟨p,[u,v,w],rfl,hp,rfl,u,[v,w],rfl,v,[w],rfl,w,[],rfl,rfl,h⟩
variable{H:Hp}{dec:V->Hp->List (Option V)->Prop}{σ0:St}
theorem da_(hσ:σ0=List.replicate own none++fv)(G:GOk g own fv dec)(n:Nat)(Pv:Nat->List V->Hp->Prop)(h0:Pv 0 [] (upd H D (.lst [])))(hstop:∀out H',Pv n out H'->J.stop n H'/\Q (.ref D) H')(hgo:∀i out H',i<n->Pv i out H'->J.go i H'/\∀x H2,J.yld i H' x H2->∃o3,dec x H2 o3/\o3.length=own/\∀Nx:Hp->Prop,(∀out' H2,Pv (i+1) out' H2->Nx H2)->
   tc (o3++fv) H2 λb H4=>if b=true then te (o3++fv) H4 λy H5=>∃out2,H5 D=some (.lst out2)/\out2.length<sizeLine/\Nx (upd H5 D (.lst (out2++[y]))) else Nx H4) :
  c0' J g tc te σ0 D H Q:=by
 subst hσ;refine⟨λi m σ' H'=>m=n - i/\i<=n/\(∃o:List (Option V),σ'=o++fv/\o.length=own)/\∃out,Pv i out H',⟨n,by simp,aC' _,⟨_,rfl,aO'⟩,_,h0⟩,?_⟩;rintro i m σ' H' ⟨rfl,hi,⟨o,rfl,ho⟩,out,p⟩;by_cases hlt:i<n
 ·obtain⟨go,k⟩:=hgo i out H' hlt p;refine .inr ⟨go,λσ2 H2=>(∃o:List (Option V),σ2=o++fv/\o.length=own)/\∃out,Pv (i+1) out H2,λσ2 H2 q=>⟨n - (i+1),by omega,rfl,hlt,q⟩,λx H2 y=>?_⟩;obtain⟨o3,d,l3,q⟩:=k x H2 y;exact G x o H2 _ o3 ho d (q (λH2=>(∃o:List (Option V),o3++fv=o++fv/\o.length=own)/\∃out,Pv (i+1) out H2) λout' H2 z=>⟨⟨o3,rfl,l3⟩,out',z⟩)
 ·have e:i=n:=by omega
  subst e;exact .inl (hstop out H' p)
theorem aJ_(hσ:σ0=List.replicate own none++fv)(G:GOk g own fv dec)(Pv:Nat->List V->Hp->Prop)(h0:Pv 0 [] (upd H D (.lst [])))(hl:∀i out H',i<=xs.length->Pv i out H'->SqL K H' a xs)(hd:∀out H',Pv xs.length out H'->Q (.ref D) H')(hgo:∀i x out H',xs[i]? = some x->Pv i out H'->∃o3,dec x H' o3/\o3.length=own/\∀Nx:Hp->Prop,(∀out' H2,Pv (i+1) out' H2->Nx H2)->
   tc (o3++fv) H' λb H4=>if b=true then te (o3++fv) H4 λy H5=>∃out2,H5 D=some (.lst out2)/\out2.length<sizeLine/\Nx (upd H5 D (.lst (out2++[y]))) else Nx H4) :
  c0' (Itl K a) g tc te σ0 D H Q:=by
 refine da_ hσ G xs.length Pv h0 (λout H' p=>⟨⟨xs,hl _ _ _ (ae' _) p,ae' _⟩,hd out H' p⟩) λi out H' hi p=>?_;have q:=hl i out H' (Nat.le_of_lt hi) p;refine⟨⟨xs,xs[i],q,by simp[hi]⟩,λx H2 y=>?_⟩;obtain⟨e,y⟩:=y;subst e;exact hgo i x out _ (y xs q) p
end L2
namespace EvS
open PySem PySem.W PyProof.Rows
def Ok{α:Type}(f:Nat->Nat->Bool)(n:Nat):KasT α->(α->Prop)->Prop
 |.ret a,Q=>Q a
 |.ask i j k,Q=>i<n/\j<n/\Ok f n (k (f i j)) Q
theorem Ok.bind{α β:Type}{f:Nat->Nat->Bool}{n:Nat}{g:α->KasT β}{Q:β->Prop}:∀{t:KasT α} {R:α->Prop},Ok f n t R->(∀a,R a->Ok f n (g a) Q)->Ok f n (t.bind g) Q
 |.ret a,R,h,k=>k a h
 |.ask i j t,R,h,k=>⟨h.1,h.2.1,Ok.bind h.2.2 k⟩
theorem Ok.imp{α:Type}{f:Nat->Nat->Bool}{n:Nat}{Q R:α->Prop}(k:∀a,Q a->R a):∀{t:KasT α},Ok f n t Q->Ok f n t R
 |.ret a,h=>k a h
 |.ask i j t,h=>⟨h.1,h.2.1,Ok.imp k h.2.2⟩
theorem Ok.wp{α:Type}{f:Nat->Nat->Bool}{n:Nat}{cmp:Nat->Nat->(Bool->Ab->Prop)->Ab->Prop}{s:Ab}(hc:∀i j C,i<n->j<n->C (f i j) s->cmp i j C s){Q:α->Prop}{G:α->Ab->Prop}(k:∀a,Q a->G a s) :
  ∀{t:KasT α},Ok f n t Q->t.kasWp cmp G s
 |.ret a,h=>k a h
 |.ask i j t,h=>hc i j _ h.1 h.2.1 (Ok.wp hc k h.2.2)
structure Ord (f:Nat->Nat->Bool):Prop where
 rfl':∀i,f i i=false
 trans:∀{i j k},f j i=false->f k j=false->f k i=false
 tot:∀{i j},f i j=true->f j i=false
section
variable{f:Nat->Nat->Bool}(O:Ord f){N:Nat}
abbrev at'(p:Array Nat)(i:Nat):Nat:=p.getD i 0
def Up(f:Nat->Nat->Bool)(p:Array Nat)(k:Nat):Prop:=∀i j,i<=j->j<k->f (at' p j) (at' p i)=false
def Down(f:Nat->Nat->Bool)(p:Array Nat)(k:Nat):Prop:=∀i j,i<=j->j<k->f (at' p i) (at' p j)=false
def Like(f:Nat->Nat->Bool)(p:Array Nat)(lo k:Nat):Prop:=∀i,lo<=i->i<k->f (at' p i) (at' p (k - 1))=false/\f (at' p (k - 1)) (at' p i)=false
def Good(N:Nat)(p:Array Nat):Prop:=p.Perm (List.range N).toArray
theorem Good.size{p:Array Nat}(h:Good N p):p.size=N:=by
 have:=h.size_eq;simpa using this
theorem Good.lt{p:Array Nat}(h:Good N p)(hN:0<N)(i:Nat):at' p i<N:=by
 unfold at';by_cases hi:i<p.size
 ·have e:p.getD i 0=p[i]:=by simp[Array.getD,hi]
  rw[e];have m:p[i]∈(List.range N).toArray:=h.mem_iff.mp (Array.getElem_mem hi);simpa using m
 ·have e:p.getD i 0=0:=by simp[Array.getD,hi]
  rw[e];exact hN
theorem Good.rev{p:Array Nat}(h:Good N p)(i j:Nat):Good N (kas_rev p i j):=(mirror_perm _ _ _ _).trans h
theorem Good.bub{p:Array Nat}(h:Good N p)(i j:Nat):Good N (bubble p i j):=(bubble_perm _ _ _).trans h
theorem cm_{p q:Array Nat}{i j:Nat}(h:p[i]? = q[j]?):at' p i=at' q j:=by
 unfold at';rw[Array.getD_eq_getD_getElem?,Array.getD_eq_getD_getElem?,h]
theorem cG_{p:Array Nat}{i j:Nat}(hj:j<=p.size)(k:Nat):at' (kas_rev p i j) k=if i<=k/\k<j then at' p (i+j - 1 - k) else at' p k:=by
 have e:=getElem?_mirror_all (i:=i) hj k;unfold kas_rev;split
 ·rename_i c
  rw[a_8 c] at e;exact cm_ e
 ·rename_i c
  rw[a_6 c] at e;exact cm_ e
theorem hY_{p:Array Nat}{k l:Nat}(hk:k<p.size)(hl:l<=k)(i:Nat):at' (bubble p k (k - l)) i=if i=l then at' p k else if l<i/\i<=k then at' p (i - 1) else at' p i:=by
 have e:=getElem?_bubble hk (k - l) Z1 i;rw[show k - (k - l)=l by omega] at e;by_cases c:i=l
 ·rw[a_8 c] at e ⊢;exact cm_ e
 ·rw[a_6 c] at e ⊢;split
  ·rename_i d
   rw[a_8 d] at e;exact cm_ e
  ·rename_i d
   rw[a_6 d] at e;exact cm_ e
include O
theorem Up.more{p:Array Nat}{n:Nat}(h:Up f p n)(h1:1<=n)(c:f (at' p n) (at' p (n - 1))=false):Up f p (n+1):=λi j hij hj=>by
 by_cases e:j<n
 ·exact h i j hij e
 ·have e:j=n:=by omega
  subst e;by_cases e2:i=j
  ·subst e2;exact O.rfl' _
  ·exact O.trans (h i (j - 1) Z1 Z1) c
theorem Down.more{p:Array Nat}{n:Nat}(h:Down f p n)(h1:1<=n)(c:f (at' p (n - 1)) (at' p n)=false):Down f p (n+1):=λi j hij hj=>by
 by_cases e:j<n
 ·exact h i j hij e
 ·have e:j=n:=by omega
  subst e;by_cases e2:i=j
  ·subst e2;exact O.rfl' _
  ·exact O.trans c (h i (j - 1) Z1 Z1)
theorem fD_{p:Array Nat}(g:Good N p)(hN:0<N):∀(m n:Nat),1<=n->Up f p n->Ok f N (kas_asc p m n) λr=>n<=r/\r<=n+m/\Up f p r/\(r<n+m->f (at' p r) (at' p (r - 1))=true)
 |0,n,_,h=>⟨ae' _,ae' _,h,λq=>absurd q Z1⟩
 |m+1,n,h1,h=>by
  refine⟨g.lt hN _,g.lt hN _,?_⟩;dsimp only;by_cases c:f (at' p n) (at' p (n - 1))=true
  ·rw[a_8 c];exact⟨ae' _,by omega,h,λ_=>c⟩
  ·rw[a_6 c];refine (fD_ g hN m (n+1) Z1 (h.more O h1 (by simpa using c))).imp λr ⟨a,b,u,z⟩=>⟨by omega,by omega,u,λq=>z Z1⟩
theorem Like.rev{p:Array Nat}{lo k:Nat}(h:Like f p lo k)(hk:k<=p.size)(i:Nat):f (at' (kas_rev p lo k) i) (at' p i)=false/\f (at' p i) (at' (kas_rev p lo k) i)=false:=by
 rw[cG_ hk];split
 ·rename_i c
  obtain⟨a1,a2⟩:=h i c.1 c.2;obtain⟨b1,b2⟩:=h (lo+k - 1 - i) Z1 Z1;exact⟨O.trans a2 b1,O.trans b2 a1⟩
 ·exact⟨O.rfl' _,O.rfl' _⟩
theorem Down.rev{p:Array Nat}{lo k n:Nat}(h:Down f p n)(l:Like f p lo k)(hk:k<=p.size):Down f (kas_rev p lo k) n:=λi j hij hj=>by
 obtain⟨a1,_⟩:=l.rev O hk i;obtain⟨_,b2⟩:=l.rev O hk j;exact O.trans (O.trans b2 (h i j hij hj)) a1
theorem du_(hN:0<N):∀(m:Nat) (p:Array Nat) (n q:Nat),Good N p->1<=n->q+1<=n->n+m<=N->Down f p n->Like f p (n - (q+1)) n->
  Ok f N (kas_desc m p n q) λr=>Good N r.1/\n<=r.2.1/\r.2.1<=n+m/\Down f r.1 r.2.1/\r.2.2+1<=r.2.1/\Like f r.1 (r.2.1 - (r.2.2+1)) r.2.1
 |0,p,n,q,g,h1,hq,hn,d,l=>⟨g,ae' _,ae' _,d,hq,l⟩
 |m+1,p,n,q,g,h1,hq,hn,d,l=>by
  refine⟨g.lt hN _,g.lt hN _,?_⟩;dsimp only;by_cases c:f (at' p n) (at' p (n - 1))=true
  ·rw[a_8 c];have d2:Down f p (n+1):=d.more O h1 (O.tot c)
   have one:∀p':Array Nat,Like f p' (n+1 - (0+1)) (n+1):=λp' i h2 h3=>by
    have e:i=n+1 - 1:=by omega
    subst e;exact⟨O.rfl' _,O.rfl' _⟩
   by_cases hq0:q > 0
   ·rw[a_8 hq0];have hk:n<=p.size:=by rw[g.size];omega
    exact (du_ hN m _ (n+1) 0 (g.rev _ _) Z1 Z1 Z1 (d2.rev O l hk) (one _)).imp λr ⟨a,b,b2,z⟩=>⟨a,by omega,by omega,z⟩
   ·rw[a_6 hq0];exact (du_ hN m _ (n+1) 0 g Z1 Z1 Z1 d2 (one _)).imp λr ⟨a,b,b2,z⟩=>⟨a,by omega,by omega,z⟩
  ·rw[a_6 c];refine⟨g.lt hN _,g.lt hN _,?_⟩;dsimp only;have c:f (at' p n) (at' p (n - 1))=false:=by simpa using c
   by_cases e:f (at' p (n - 1)) (at' p n)=true
   ·rw[a_8 e];exact⟨g,ae' _,by show n<=n+(m+1);omega,d,hq,l⟩
   ·rw[a_6 e];have e:f (at' p (n - 1)) (at' p n)=false:=by simpa using e
    refine (du_ hN m p (n+1) (q+1) g Z1 Z1 Z1 (d.more O h1 e) λi h2 h3=>?_).imp λr ⟨a,b,b2,z⟩=>⟨a,by omega,by omega,z⟩;show f (at' p i) (at' p n)=false/\f (at' p n) (at' p i)=false;by_cases ei:i=n
    ·subst ei;exact⟨O.rfl' _,O.rfl' _⟩
    ·obtain⟨a1,a2⟩:=l i Z1 Z1;exact⟨O.trans e a1,O.trans a2 c⟩
def c1'(f:Nat->Nat->Bool)(N nrem:Nat)(r:Nat × Array Nat):Prop:=Good N r.2/\1<=r.1/\r.1<=nrem/\Up f r.2 r.1
theorem go_(hN:0<N){p:Array Nat}{n nrem:Nat}(g:Good N p)(h1:1<=n)(hn:n<=nrem)(hr:nrem<=N)(d:Down f p n):Ok f N (kas_tail3 n nrem p) (c1' f N nrem):=by
 unfold kas_tail3
 have u:Up f (kas_rev p 0 n) n:=λi j hij hj=>by
  rw[cG_ (by rw[g.size];omega),cG_ (by rw[g.size];omega),a_8 Z1,a_8 Z1];exact d _ _ Z1 Z1
 exact (fD_ O (g.rev _ _) hN (nrem - n) n h1 u).bind λm ⟨a,b,u,_⟩=>⟨g.rev _ _,by show 1<=m;omega,by show m<=nrem;omega,u⟩
theorem cq_(hN:0<N){p:Array Nat}{n nrem:Nat}(g:Good N p)(hn:n+1<=nrem)(hr:nrem<=N)(d:Down f p (n+1)):Ok f N (kas_descPart n nrem p) (c1' f N nrem):=by
 unfold kas_descPart;refine (du_ O hN (nrem - (n+1)) p (n+1) 0 g Z1 Z1 Z1 d λi h2 h3=>?_).bind λr ⟨g',a,b,d',hq,l⟩=>?_
 ·have e:i=n+1 - 1:=by omega
  subst e;exact⟨O.rfl' _,O.rfl' _⟩
 ·split
  ·exact go_ O hN (g'.rev _ _) Z1 Z1 hr (d'.rev O l (by rw[g'.size];omega))
  ·exact go_ O hN g' Z1 Z1 hr d'
theorem hO_(hN:0<N){p:Array Nat}{nrem:Nat}(g:Good N p)(h1:1<=nrem)(hr:nrem<=N):Ok f N (kas_count nrem p) (c1' f N nrem):=by
 unfold kas_count;refine (fD_ O g hN (nrem - 1) 1 (ae' _) λi j hij hj=>?_).bind λn ⟨a,b,u,st⟩=>?_
 ·have e:i=j:=by omega
  subst e;exact O.rfl' _
 ·by_cases e:(n == nrem)=true
  ·rw[a_8 e];exact⟨g,a,by show n<=nrem;omega,u⟩
  ·rw[a_6 e];have e:n≠nrem:=by simpa using e
   have c:=st Z1;by_cases h2:n > 1
   ·rw[a_8 h2];refine⟨g.lt hN _,g.lt hN _,?_⟩;dsimp only;by_cases c2:f (at' p 0) (at' p (n - 1))=true
    ·rw[a_8 c2];exact⟨g,a,by show n<=nrem;omega,u⟩
    ·rw[a_6 c2];have c2:f (at' p 0) (at' p (n - 1))=false:=by simpa using c2
     refine cq_ O hN (g.rev _ _) Z1 hr λi j hij hj=>?_;by_cases ej:j<n
     ·rw[cG_ (by rw[g.size];omega),cG_ (by rw[g.size];omega),a_8 Z1,a_8 Z1];exact u _ _ Z1 Z1
     ·have ej:j=n:=by omega
      subst ej;by_cases ei:i=j
      ·subst ei;exact O.rfl' _
      ·rw[cG_ (by rw[g.size];omega),cG_ (by rw[g.size];omega),a_8 Z1,a_6 Z1];exact O.trans (O.trans (O.tot c) c2) (u 0 _ Z1 Z1)
   ·rw[a_6 h2];have e1:n=1:=by omega
    subst e1;refine cq_ O hN g Z1 hr λi j hij hj=>?_;by_cases ei:i=j
    ·subst ei;exact O.rfl' _
    ·have q1:i=0:=by omega
     have q2:j=1:=by omega
     subst q1;subst q2;exact O.tot c
theorem dd_(hN:0<N){p:Array Nat}{k:Nat}(g:Good N p)(u:Up f p k):∀(m l r:Nat),r - l<=m->l<=r->r<=k->(∀i,i<l->f (at' p k) (at' p i)=false)->(∀i,r<=i->i<k->f (at' p k) (at' p i)=true)->
  Ok f N (kas_place p k m l r) λx=>x<=k/\(∀i,i<x->f (at' p k) (at' p i)=false)/\∀i,x<=i->i<k->f (at' p k) (at' p i)=true
 |0,l,r,hm,hl,hr,h1,h2=>by
  have e:l=r:=by omega
  subst e;exact⟨hr,h1,h2⟩
 |m+1,l,r,hm,hl,hr,h1,h2=>by
  unfold kas_place;by_cases e:l ≥ r
  ·rw[a_8 e];have e:l=r:=by omega
   subst e;exact⟨hr,h1,h2⟩
  ·rw[a_6 e];refine⟨g.lt hN _,g.lt hN _,?_⟩;dsimp only;by_cases c:f (at' p k) (at' p ((l+r) / 2))=true
   ·rw[a_8 c];refine dd_ hN g u m l _ Z1 Z1 Z1 h1 λi h3 h4=>?_;by_cases ei:f (at' p k) (at' p i)=true
    ·exact ei
    ·have ei:f (at' p k) (at' p i)=false:=by simpa using ei
     have:=O.trans (u _ i h3 h4) ei;rw[c] at this;cases this
   ·rw[a_6 c];have c:f (at' p k) (at' p ((l+r) / 2))=false:=by simpa using c
    exact dd_ hN g u m _ r Z1 Z1 hr (λi h3=>O.trans (u i _ Z1 Z1) c) h2
theorem i5_(hN:0<N):∀(m:Nat) (p:Array Nat) (k:Nat),Good N p->k+m=N->Up f p k->Ok f N (kas_bin m p k) λr=>Good N r/\Up f r N
 |0,p,k,g,e,u=>by
  have e:k=N:=by omega
  subst e;exact⟨g,u⟩
 |m+1,p,k,g,e,u=>by
  unfold kas_bin;refine (dd_ O hN g u k 0 k Z1 Z1 (ae' _) (λi h=>absurd h Z1) λi h1 h2=>absurd h2 Z1).bind λl ⟨hl,h1,h2⟩=>?_;have hk:k<p.size:=by rw[g.size];omega
  refine i5_ hN m _ (k+1) (g.bub _ _) Z1 λi j hij hj=>?_;rw[hY_ hk hl,hY_ hk hl];by_cases ej:j=l
  ·rw[a_8 ej];by_cases ei:i=l
   ·rw[a_8 ei];exact O.rfl' _
   ·rw[a_6 ei,a_6 Z1];exact h1 i Z1
  ·rw[a_6 ej];by_cases ej2:l<j/\j<=k
   ·rw[a_8 ej2];by_cases ei:i=l
    ·rw[a_8 ei];exact O.tot (h2 (j - 1) Z1 Z1)
    ·rw[a_6 ei];by_cases ei2:l<i/\i<=k
     ·rw[a_8 ei2];exact u _ _ Z1 Z1
     ·rw[a_6 ei2];exact u _ _ Z1 Z1
   ·rw[a_6 ej2];rw[a_6 (show ¬i=l by omega),a_6 (show ¬(l<i/\i<=k) by omega)];exact u _ _ Z1 Z1
theorem iJ_(hN:0<N):Ok f N (kas_sort N) λp=>Good N p/\Up f p N:=by
 unfold kas_sort;refine (hO_ O hN (p:=(List.range N).toArray) (Array.Perm.refl _) hN (ae' _)).bind λr ⟨g,h1,h2,u⟩=>?_;split
 ·rename_i c
  rw[show max r.1 1=r.1 by omega];exact i5_ O hN _ _ _ g Z1 u
 ·rename_i c
  have e:r.1=N:=by omega
  exact⟨g,e▸u⟩
end
def Asks(prog:Ad)(w:Af)(A:Ah)(f:Nat->Nat->Bool)(vs:List Aa)(s:Ab):Prop:=
 ∃κ,(∀Q:SortKind->Ab->Prop,Q κ s->wpAny (model prog w) A (keyKind' vs.toArray) Q (λ_ _=>False) s)/\∀i j C,i<vs.length->j<vs.length->C (f i j) s->kas_ask prog w A κ vs i j C s
def cc'(a:Addr)(h h':Heap):Prop:=∀b o,b≠a->h.get? b=some o->h'.get? b=some o
def bV'(p:Array Nat)(vs:List Aa):List Aa:=p.toList.map λi=>vs.getD i Value.none
theorem eq_(vs:List Aa):bV' (List.range vs.length).toArray vs=vs:=by
 unfold bV';apply List.ext_getElem?;intro i;simp only[ao'];by_cases h:i<vs.length
 ·simp[h]
 ·simp[Nat.le_of_not_lt h]
variable{f:Nat->Nat->Bool}{prog:Ad}{w:Af}{A:Ah}{E:Aa->Ab->Prop}{s:Ab}
theorem hF_{a:Addr}{vs:List Aa}{n:Nat}{P:Fin->Ab->Prop}(O:Ord f)(ho:s.heap.get? a=some (seqObj "list" vs.toArray n))(h64:vs.length<64)(hask:2<=vs.length->∀h',cc' a s.heap h'->Asks prog w A f vs { s with heap:=h' })(h:∀(p:Array Nat) (h':Heap) (e:Nat),Good vs.length p->Up f p vs.length->h'.get? a=some (seqObj "list" (bV' p vs).toArray e)->cc' a s.heap h'->P (.done (.ret .none)) { s with heap:=h' }) :
  wpAny (model prog w) A (Builtin.«list.sort» ⟨[.ref a],[]⟩) P E s:=by
 have haz:a<s.heap.objs.size:=a_2 ho;obtain⟨e1,ho1⟩:∃e1,(s.heap.update a (Obj.mapSeq λ_=>(#[]:Array Aa))).get? a=some (seqObj "list" #[] e1):=⟨_,get?_update_seq ho (λ_=>#[])⟩
 have l64:vs.length<=sizeLine:=by
  have:=b_1;omega
 rw[list_sort_plain];refine a__ (listItems_at ho rfl (a__ (listUpdate_at ho rfl (a__ (seqEpoch_at ho1 rfl (a__ (wpAny_newTuple (a__ (wpAny_newList (b_3 ?_) (aC' _))) l64)))) (by simpa using l64) (aC' _))))
 have keep:∀g:Array Aa->Array Aa,cc' a s.heap ((((s.heap.update a (Obj.mapSeq λ_=>(#[]:Array Aa))).push (seqObj "tuple" vs.toArray 0)).push (seqObj "list" #[] 0)).update a (Obj.mapSeq g)):=λg b o hb e=>by
  refine (b__ _ _ (Ne.symm hb)).trans (a_0 _ (a_0 _ ?_));exact (b__ _ _ (Ne.symm hb)).trans e
 have keep0:cc' a s.heap (((s.heap.update a (Obj.mapSeq λ_=>(#[]:Array Aa))).push (seqObj "tuple" vs.toArray 0)).push (seqObj "list" #[] 0)):=λb o hb e=>
  a_0 _ (a_0 _ ((b__ _ _ (Ne.symm hb)).trans e))
 have hoB:(((s.heap.update a (Obj.mapSeq λ_=>(#[]:Array Aa))).push (seqObj "tuple" vs.toArray 0)).push (seqObj "list" #[] 0)).get? a=some (seqObj "list" #[] e1):=a_0 _ (a_0 _ ho1);show wpAny (model prog w) A _ P E { s with heap:=((s.heap.update a (Obj.mapSeq λ_=>(#[]:Array Aa))).push (seqObj "tuple" vs.toArray 0)).push (seqObj "list" #[] 0) };dsimp only;by_cases h2:vs.toArray.size<2
 ·rw[a_8 h2,a_8 h2];refine a__ (a_1 ?_);rw[StateT.run_pure]
  have eout:((vs.toArray.zip vs.toArray).map λx:Keyed=>x.2)=(bV' (List.range vs.length).toArray vs).toArray:=by
   rw[eq_];apply Array.ext';simp[List.map_snd_zip]
  refine a__ (a_1 (a__ (seqEpoch_at hoB rfl (a__ (listUpdate_at hoB rfl ?_ (aC' _) ?_)))))
  ·simp only[bne_self_eq_false,aM',if_false];refine a_1 (h (List.range vs.length).toArray _ _ (Array.Perm.refl _) (λi j hij hj=>?_) ((get?_update_seq hoB _).trans (b_5 (λz=>some (seqObj "list" z _)) eout)) (keep _))
   ·have e:i=j:=by
     simp only[ag'] at h2;omega
    subst e;exact O.rfl' _
  ·have e:((vs.toArray.zip vs.toArray).map λx:Keyed=>x.2).size<=sizeLine+1:=by
    simp only[Array.size_map,Array.size_zip,ag'];omega
   exact e
 ·rw[a_6 h2,a_6 h2]
  have h2':2<=vs.length:=by
   simp only[ag'] at h2;omega
  obtain⟨κ,hk,hc⟩:=hask h2' _ keep0;refine a__ (wpAny_mono (hk (λk s'=>k=κ/\s'=_) ⟨rfl,rfl⟩) (λk s' hks=>?_) λ_ _ x=>x.elim);obtain⟨rfl,rfl⟩:=hks
  refine a__ (wpAny_mono (kat_run (ks:=vs) (vs:=vs) (G:=λp s'=>s'={ s with heap:=((s.heap.update a (Obj.mapSeq λ_=>(#[]:Array Aa))).push (seqObj "tuple" vs.toArray 0)).push (seqObj "list" #[] 0) }/\Good vs.length p/\Up f p vs.length)
   (Q:=λst' s'=>∃p:Array Nat,arrOf st'=p.map (kas_item (vs.toArray.zip vs.toArray))/\failedOf st'=none/\s'={ s with heap:=((s.heap.update a (Obj.mapSeq λ_=>(#[]:Array Aa))).push (seqObj "tuple" vs.toArray 0)).push (seqObj "list" #[] 0) }/\Good vs.length p/\Up f p vs.length)
   rfl h2' h64 (λp st' s' _ q1 q2 q3=>⟨p,q1,q2,q3⟩) (Ok.wp hc (λp q=>⟨rfl,q⟩) (iJ_ O Z1))) ?_ λ_ _ x=>x)
  rintro⟨⟨⟩,st'⟩ s' ⟨p,har,hf,hs',g,u⟩;have hs':s'={ s with heap:=((s.heap.update a (Obj.mapSeq λ_=>(#[]:Array Aa))).push (seqObj "tuple" vs.toArray 0)).push (seqObj "list" #[] 0) }:=hs';subst hs'
  have eout:((arrOf st').map λx:Keyed=>x.2)=(bV' p vs).toArray:=by
   rw[har];apply Array.ext';unfold bV';simp only[Array.map_map,Array.toList_map,List.toList_toArray];refine aL' λi _=>?_;show (kas_item (vs.toArray.zip vs.toArray) i).2=_;unfold kas_item;by_cases hi:i<vs.length
   ·simp[Array.getD,hi]
   ·simp[Array.getD,hi,Nat.le_of_not_lt hi]
  have esz:((arrOf st').map λx:Keyed=>x.2).size=vs.length:=by
   rw[eout];unfold bV';simp only[ag',aa',aH'];exact g.size
  refine a__ (seqEpoch_at hoB rfl (a__ (listUpdate_at hoB rfl ?_ (aC' _) (by rw[esz];omega))));rw[hf];simp only[bne_self_eq_false,aM',if_false];exact a_1 (h p _ _ g u ((get?_update_seq hoB _).trans (b_5 (λz=>some (seqObj "list" z _)) eout)) (keep _))
theorem cS_{x:Aa}{Q:Aa->Ab->Prop}(O:Ord f)(hcol:wpAny (model prog w) A.in1 (collect x) (λvs s1=>vs.length<64/\(2<=vs.length->∀h':Heap,(∀b o,s1.heap.get? b=some o->h'.get? b=some o)->Asks prog w A.in1.in1 f vs { s1 with heap:=h' }) /\
   ∀(p:Array Nat) (h':Heap) (e:Nat),Good vs.length p->Up f p vs.length->h'.get? s1.heap.objs.size=some (seqObj "list" (bV' p vs).toArray e)->(∀b o,s1.heap.get? b=some o->h'.get? b=some o)->Q (.ref s1.heap.objs.size) { s1 with heap:=h' }) E s) :
  wpAny (model prog w) A (call (.builtin "sorted") [x]) Q E s:=by
 refine Calls.call_function_entry kind_sorted plain_sorted entry_sorted (args_sorted1 _) ?_;unfold Builtin.«sorted»;refine a__ (m:=checkCount "sorted" 1 1 _) (a_1 (a__ (wpAny_mono hcol (λvs s1 q=>?_) λ_ _ z=>z)));obtain⟨h64,hask,hQ⟩:=q;refine a__ (wpAny_newList ?_ (by have:=b_1;omega));have hn:(s1.heap.push (seqObj "list" vs.toArray 0)).get? s1.heap.objs.size=some (seqObj "list" vs.toArray 0):=a_3 _ rfl
 have old:∀h',cc' s1.heap.objs.size (s1.heap.push (seqObj "list" vs.toArray 0)) h'->∀b o,s1.heap.get? b=some o->h'.get? b=some o:=λh' k b o e=>
  k b o (aj' (a_2 e)) (a_0 _ e)
 refine a__ (b_3 (wpAny_call_entry slot_list_sort ⟨_,hn,rfl⟩ entry_list_sort (hF_ O hn h64 (λh2 h' k=>hask h2 h' (old h' k)) λp h' e g u q k=>⟨_,rfl,?_⟩) (args_list_sort _)));exact a_1 ⟨_,rfl,hQ p h' e g u q (old h' k)⟩
end EvS
namespace L2
open PySem PySem.Spec PyProof.Rows PySem.W EvS
def kLt:Key->Key->Bool
 |.inl i,.inl j=>decide (i<j)
 |.inl _,.inr _=>true
 |.inr _,.inl _=>false
 |.inr x,.inr y=>decide (x.cps.toList<y.cps.toList)
def lexK:List Key->List Key->Bool
 |[],[]=>false
 |[],_::_=>true
 |_::_,[]=>false
 |a::r,b::q=>if a=b then lexK r q else kLt a b
theorem iH_:∀a:Key,kLt a a=false
 |.inl i=>by simp[kLt]
 |.inr x=>by simp[kLt,List.lt_irrefl]
theorem dv_:∀{a b:Key},kLt a b=true->kLt b a=false
 |.inl i,.inl j,h=>by
  simp only[kLt,decide_eq_true_eq,decide_eq_false_iff_not] at *;omega
 |.inl _,.inr _,_=>rfl
 |.inr _,.inl _,h=>by cases h
 |.inr x,.inr y,h=>by
  simp only[kLt,decide_eq_true_eq,decide_eq_false_iff_not] at *;exact λq=>List.lt_irrefl _ (List.lt_trans h q)
theorem fC_:∀{a b:Key},kLt a b=false->kLt b a=false->a=b
 |.inl i,.inl j,h,h2=>by
  simp only[kLt,decide_eq_false_iff_not] at *;rw[show i=j by omega]
 |.inl _,.inr _,h,_=>by cases h
 |.inr _,.inl _,_,h=>by cases h
 |.inr x,.inr y,h,h2=>by
  simp only[kLt,decide_eq_false_iff_not] at *;rw[ext_toList (List.le_antisymm (List.not_lt.mp h2) (List.not_lt.mp h))]
theorem fW_:∀{a b c:Key},kLt a b=true->kLt b c=true->kLt a c=true
 |.inl i,.inl j,.inl k,h,h2=>by
  simp only[kLt,decide_eq_true_eq] at *;omega
 |.inl _,.inl _,.inr _,_,_=>rfl
 |.inl _,.inr _,.inr _,_,_=>rfl
 |.inl _,.inr _,.inl _,_,h=>by cases h
 |.inr _,.inl _,_,h,_=>by cases h
 |.inr _,.inr _,.inl _,_,h=>by cases h
 |.inr x,.inr y,.inr z,h,h2=>by
  simp only[kLt,decide_eq_true_eq] at *;exact List.lt_trans h h2
theorem eJ_:∀a:List Key,lexK a a=false
 |[]=>rfl
 |a::r=>by
  unfold lexK;rw[a_8 rfl];exact eJ_ r
theorem ca_:∀{a b:List Key},lexK a b=true->lexK b a=false
 |[],[],h=>by cases h
 |[],_::_,_=>rfl
 |_::_,[],h=>by cases h
 |a::r,b::q,h=>by
  unfold lexK at h ⊢;by_cases e:a=b
  ·rw[a_8 e] at h;rw[a_8 e.symm];exact ca_ h
  ·rw[a_6 e] at h;rw[a_6 (Ne.symm e)];exact dv_ h
theorem dk_:∀{a b:List Key},lexK a b=false->lexK b a=false->a=b
 |[],[],_,_=>rfl
 |[],_::_,h,_=>by cases h
 |_::_,[],_,h=>by cases h
 |a::r,b::q,h,h2=>by
  unfold lexK at h h2;by_cases e:a=b
  ·rw[a_8 e] at h;rw[a_8 e.symm] at h2;rw[e,dk_ h h2]
  ·rw[a_6 e] at h;rw[a_6 (Ne.symm e)] at h2;exact absurd (fC_ h h2) e
theorem ci_:∀{a b c:List Key},lexK a b=true->lexK b c=true->lexK a c=true
 |[],_,[],h,h2=>by
  rename_i b
  cases b with
  |nil=>cases h
  |cons _ _=>cases h2
 |[],_,_::_,_,_=>rfl
 |_::_,[],_,h,_=>by cases h
 |_::_,_::_,[],_,h=>by cases h
 |a::r,b::q,c::t,h,h2=>by
  unfold lexK at h h2 ⊢;by_cases e:a=b
  ·subst e;rw[a_8 rfl] at h;by_cases e2:a=c
   ·rw[a_8 e2] at h2 ⊢;exact ci_ h h2
   ·rw[a_6 e2] at h2 ⊢;exact h2
  ·rw[a_6 e] at h;by_cases e2:b=c
   ·subst e2;rw[a_6 e];exact h
   ·rw[a_6 e2] at h2;have h3:=fW_ h h2;rw[a_6 (λq=>by rw[q,iH_] at h3;cases h3)];exact h3
theorem d1_{a b c:List Key}(h:lexK b a=false)(h2:lexK c b=false):lexK c a=false:=by
 cases e:lexK c a with
 |false=>rfl
 |true=>
  by_cases e1:lexK a b=true
  ·have:=ci_ e e1;rw[h2] at this;cases this
  ·have e1:lexK a b=false:=by simpa using e1
   have:=dk_ e1 h;subst this;rw[h2] at e;cases e
def Asc(ks:List (List Key)):Prop:=ks.Pairwise λa b=>lexK b a=false
theorem cX_:∀{a b:List (List Key)},a.Perm b->Asc a->Asc b->a=b
 |[],b,p,_,_=>by
  have:=p.length_eq;cases b with
  |nil=>rfl
  |cons _ _=>cases this
 |x::r,[],p,_,_=>by
  have:=p.length_eq;cases this
 |x::r,y::q,p,h1,h2=>by
  obtain⟨a1,a2⟩:=List.pairwise_cons.mp h1;obtain⟨b1,b2⟩:=List.pairwise_cons.mp h2
  have e:x=y:=by
   rcases an'.mp (p.mem_iff.mp ak') with m|m
   ·exact m
   ·rcases an'.mp (p.mem_iff.mpr ak') with m2|m2
    ·exact m2.symm
    ·exact dk_ (b1 _ m) (a1 _ m2)
  subst e;rw[cX_ ((List.perm_cons _).mp p) a2 b2]
def sortKs(ks:List (List Key)):List (List Key):=ks.mergeSort λa b=>!lexK b a
theorem aq_(ks:List (List Key)):(sortKs ks).Perm ks:=List.mergeSort_perm _ _
theorem fr_(ks:List (List Key)):Asc (sortKs ks):=by
 have:=List.pairwise_mergeSort (le:=λa b=>!lexK b a) (λa b c h1 h2=>by
  simp only[Bool.not_eq_true'] at *;exact d1_ h1 h2) (λa b=>by
  simp only[Bool.or_eq_true,Bool.not_eq_true'];by_cases e:lexK b a=true
  ·exact .inr (ca_ e)
  ·exact .inl (by simpa using e)) ks
 exact this.imp λh=>by simpa using h
variable{ks:List (List Key)}
theorem dZ_{ks':List (List Key)}(p:ks'.Perm ks)(h:Asc ks'):ks'=sortKs ks:=cX_ (p.trans (aq_ ks).symm) h (fr_ ks)
variable{p:Array Nat}
theorem bv_{α:Type}{n:Nat}(g:Good n p)(F:Nat->α):(p.toList.map F).Perm ((List.range n).map F):=by
 have e:p.toList.Perm (List.range n):=by
  have:=Array.perm_iff_toList_perm.mp g;simpa using this
 exact e.map F
theorem g0_{f:Nat->Nat->Bool}(hf:∀i j,i<ks.length->j<ks.length->f i j=lexK (ks.getD i []) (ks.getD j []))(g:Good ks.length p)(u:Up f p ks.length):Asc (p.toList.map λi=>ks.getD i []):=by
 unfold Asc;rw[List.pairwise_map,List.pairwise_iff_getElem];intro i j hi hj hij;have hs:=g.size;rw[aH'] at hi hj;have hj':j<ks.length:=by omega
 have q:=u i j (Nat.le_of_lt hij) hj';have hN:0<ks.length:=by omega
 rw[hf _ _ (g.lt hN _) (g.lt hN _)] at q;have e1:at' p i=p.toList[i]:=by simp[at',Array.getD,hi]
 have e2:at' p j=p.toList[j]:=by simp[at',Array.getD,hj]
 rw[e1,e2] at q;exact q
theorem ey_(ks:List (List Key)):Ord λi j=>lexK (ks.getD i []) (ks.getD j []):=⟨λ_=>eJ_ _,λh h2=>d1_ h h2,λh=>ca_ h⟩
theorem b9_{α:Type}(d:α)(l:List α):((List.range l.length).map λi=>l.getD i d)=l:=by
 apply List.ext_getElem?;intro i;simp only[ao'];by_cases h:i<l.length
 ·simp[h]
 ·simp[Nat.le_of_not_lt h]
variable{ys:List V}{vs:List Aa}
theorem eP_(r:Vals ys vs)(g:Good vs.length p):Vals (p.toList.map λi=>ys.getD i .non) (bV' p vs):=by
 unfold bV'
 have key:∀l:List Nat,(∀i∈l,i<vs.length)->Vals (l.map λi=>ys.getD i .non) (l.map λi=>vs.getD i Value.none):=λl=>by
  induction l with
  |nil=>exact λ_=>.nil
  |cons i l ih=>
   intro h;refine .cons ?_ (ih λj hj=>h j (af' _ hj));have hi:=h i ak';have hy:i<ys.length:=by rw[r.length];exact hi
   obtain⟨u,hu,ru⟩:=r.get (ab' hy);have e1:ys.getD i .non=ys[i]:=by simp[hy]
   have e2:vs.getD i Value.none=u:=by simp[hu]
   show RelV (ys.getD i .non) (vs.getD i Value.none);rw[e1,e2];exact ru
 refine key p.toList λi hi=>?_;have m:i∈(List.range vs.length).toArray:=g.mem_iff.mp (by simpa using hi);simpa using m
theorem ft_:∀{ss:List Str} {vs:List Aa},Vals (ss.map V.str) vs->StrsAre vs ss
 |[],_,.nil=>.nil
 |x::r,_,.cons h t=>by
  obtain⟨tk,rfl⟩:=h;exact .cons x tk (ft_ t)
def bt'(ss:List Str):List Str:=(sortKs (ss.map λx=>[Sum.inr x])).map λk=>match k with
 |[.inr x]=>x
 |_=>⟨#[]⟩
def keyS(x:Str):List Key:=[Sum.inr x]
variable{prog:Ad}{w:Af}{A:Ah}{s:Ab}
theorem ga_{ss:List Str}(r:StrsAre vs ss)(h2:2<=vs.length):Asks prog w A (λi j=>lexK ((ss.map keyS).getD i []) ((ss.map keyS).getD j [])) vs s:=by
 refine⟨oneType',λQ q=>?_,λi j C hi hj hC=>?_⟩
 ·match vs,h2 with
  |v₁::v₂::t,_=>
   rw[keyKind_strs r];exact a_1 q
 ·unfold kas_ask;rw[keyLt'_oneType]
  have look:∀k,k<vs.length->∃x t,vs.getD k Value.none=.str x t/\(ss.map keyS).getD k []=[Sum.inr x]:=λk hk=>by
   have e:=r.strs;obtain⟨x,t,q⟩:=r.all vs[k] (aS' hk);refine⟨x,t,by simp[hk,q],?_⟩
   have hk':k<ss.length:=by
    rw[<- e,aa'];exact hk
   have e2:ss[k]=x:=by
    have e3:(vs.map strOf)[k]? = ss[k]?:=by rw[e]
    rw[ao',ab' hk,ab' hk',q] at e3;exact (a_9 e3).symm
   simp[hk',e2,keyS]
  obtain⟨x,t,e1,e2⟩:=look i hi;obtain⟨y,u,e3,e4⟩:=look j hj;rw[e1,e3];dsimp only at hC;rw[e2,e4] at hC;refine oneLt_str ?_;unfold lexK at hC;by_cases e:x=y
  ·subst e;rw[a_8 rfl] at hC;have:decide (x.cps.toList<x.cps.toList)=false:=by simp[List.lt_irrefl]
   rw[this];exact hC
  ·rw[a_6 (λq=>e (c_1 q))] at hC;exact hC
def isS:Key->Bool
 |.inl _=>false
 |.inr _=>true
variable{a b:Key}
theorem fM_{E:Aa->Ab->Prop}{c:Bool}{p q:Aa}{Q:Bool->Ab->Prop}(ra:RelV (kV a) p)(rb:RelV (kV b) q)(hk:isS a=isS b)(h:Q (kLt a b) s) :
  wpAny (model prog w) A (oneLt' c p q) Q E s:=by
 cases a with
 |inl i=>
  cases b with
  |inr y=>cases hk
  |inl j=>
   obtain⟨t,rfl⟩:=ra;obtain⟨u,rfl⟩:=rb;cases c with
   |true=>exact oneLt_int h
   |false=>exact kat_one _ _ (lt_int (show PySem.W.BoolBack Q (.bool _) s from h))
 |inr x=>
  cases b with
  |inl j=>cases hk
  |inr y=>
   obtain⟨t,rfl⟩:=ra;obtain⟨u,rfl⟩:=rb;cases c with
   |true=>exact oneLt_str h
   |false=>exact kat_one _ _ (PyProof.Rows.lt_str (show PySem.W.BoolBack Q (.bool _) s from h))
theorem iD_(hk:isS a=isS b):eqV (kV a) (kV b)=decide (a=b):=by
 cases a with
 |inl i=>
  cases b with
  |inr y=>cases hk
  |inl j=>
   show (i == j)=_;by_cases e:i=j
   ·subst e;simp
   ·rw[a_7 (λq=>e (Sum.inl.inj q))];simpa using e
 |inr x=>
  cases b with
  |inl j=>cases hk
  |inr y=>
   show (x == y)=_;by_cases e:x=y
   ·subst e;simp
   ·rw[a_7 (λq=>e (c_1 q))];simpa using e
theorem f0_(a:Key):flatV (kV a)=true:=by cases a<;>rfl
theorem cJ_{prog:Ad}{w:Af}{A:Ah}{s:Ab}{Q:Bool->Ab->Prop}:∀{k1 k2:List Key} {us vs:List Aa} (i:Nat),Vals (k1.map kV) us->Vals (k2.map kV) vs->k1.map isS=k2.map isS->Q (lexK k1 k2) s->KatLex prog w A true false Q (us.zip vs) i s
 |[],[],_,_,i,.nil,.nil,_,h=>h
 |[],_::_,_,_,_,_,_,h,_=>by cases h
 |_::_,[],_,_,_,_,_,h,_=>by cases h
 |a::k1,b::k2,u::us,v::vs,i,.cons ra r1,.cons rb r2,hk,h=>by
  obtain⟨e1,e2⟩:=c_3 hk;refine kat_cons ?_;refine fX_ ra rb (f0_ a) (f0_ b) prog w _ _ ?_;rw[iD_ e1];unfold lexK at h;by_cases e:a=b
  ·rw[a_8 e] at h;rw[a_5 e];exact kat_yes (cJ_ (i+1) r1 r2 e2 h)
  ·rw[a_6 e] at h;rw[a_7 e];exact kat_no (fM_ ra rb e1 h)
def aZ'(K:F__)(H:Hp):List V->List (List Key)->Prop:=Paired λy k=>∃a,y=V.ref a/\H a=some (.tup (k.map kV))
def Alike(ks:List (List Key))(sh:List Bool):Prop:=sh≠[]/\∀k∈ks,k.map isS=sh
theorem fS_{X:Cx}{pins:List (Addr × Obj)}{σ:St}{H:Hp}{s':Ab}{sh:List Bool}(I:Inv X pins σ H s)(r:Vals ys vs)(t:aZ' X.K H ys ks)(al:Alike ks sh)(h2:2<=vs.length)(kp:∀b o,s.heap.get? b=some o->s'.heap.get? b=some o):Asks X.prog X.w A (λi j=>lexK (ks.getD i []) (ks.getD j [])) vs s':=by
 have look:∀k,k<vs.length->∃a its,vs.getD k Value.none=.ref a/\Vals ((ks.getD k []).map kV) its/\IsTup s'.heap a its.toArray/\ks.getD k []∈ks:=λk hk=>by
  have hy:k<ys.length:=by rw[r.length];exact hk
  have hk2:k<ks.length:=by rw[<- a_4 t];exact hy
  obtain⟨u,hu,ru⟩:=r.get (ab' hy)
  have gen:∀{ys:List V} {ks:List (List Key)} (k:Nat) (hy:k<ys.length) (hk2:k<ks.length),aZ' X.K H ys ks->∃a,ys[k]=V.ref a/\H a=some (.tup (ks[k].map kV)):=λ{ys ks} k hy hk2 t=>by
   induction t generalizing k with
   |nil=>exact absurd hy Z2
   |cons h t ih=>
    cases k with
    |zero=>exact h
    |succ k=>exact ih k (by simpa using hy) (by simpa using hk2)
  obtain⟨a,e,sq⟩:=gen k hy hk2 t;obtain⟨its,ri,ti,_⟩:=I.tuple (SqT.of sq);rw[e] at ru;cases ru;have e2:ks.getD k []=ks[k]:=by simp[hk2]
  refine⟨a,its,by simp[hu],by rw[e2];exact ri,ti.keeps kp,?_⟩;rw[e2];exact aS' hk2
 obtain⟨hne,hal⟩:=al
 obtain⟨c,sh',rfl⟩:∃c sh',sh=c::sh':=by
  cases sh with
  |nil=>exact absurd rfl hne
  |cons c sh'=>exact⟨c,sh',rfl⟩
 refine⟨tuples' true,λQ q=>?_,λi j C hi hj hC=>?_⟩
 ·have firsts:∀l:List Aa,(∀v∈l,∃(a:Addr) (its:List Aa) (k:List Key),v=.ref a/\Vals (k.map kV) its/\IsTup s'.heap a its.toArray/\k.map isS=c::sh')->∃fs,KatTups s'.heap l fs/\fs.length=l.length/\∀v∈fs,Looks (model X.prog X.w) s'.heap (typeOf v) (.type (if c then "str" else "int")):=λl=>by
   induction l with
   |nil=>exact λ_=>⟨[],.nil,rfl,λ_ h=>nomatch h⟩
   |cons v l ih=>
    intro h;obtain⟨fs,h1,h2,h3⟩:=ih λv hv=>h v (af' _ hv);obtain⟨a,its,k,rfl,rv,⟨o,ho,hc,n,hd⟩,hk⟩:=h v ak'
    match k,its,rv,hk with
    |k0::k,u::its,.cons r0 _,hk=>
     refine⟨u::fs,.cons ho hc hd Z2 h1,by simp[h2],λv hv=>?_⟩;rcases an'.mp hv with e|hv
     ·subst e;have e0:=(c_3 hk).1;cases k0 with
      |inl i=>
       obtain⟨t,rfl⟩:=r0;rw[<- e0];exact .now
      |inr x=>
       obtain⟨t,rfl⟩:=r0;rw[<- e0];exact .now
     ·exact h3 v hv
  obtain⟨fs,h1,h3,h4⟩:=firsts vs λv hv=>by
   obtain⟨k,hk,rfl⟩:=az' hv;obtain⟨a,its,e,rv,ti,m⟩:=look k hk;refine⟨a,its,_,?_,rv,ti,hal _ m⟩;rw[<- e];simp[hk]
  refine kat_kind h1 Z1 h4 (by cases c<;>decide) ?_
  have e:((Value.type (if c then "str" else "int")) != Value.type "tuple")=true:=by cases c<;>decide
  rw[e];exact q
 ·unfold kas_ask;obtain⟨a,its,e1,r1,⟨o,ho,_,n,hd⟩,m1⟩:=look i hi;obtain⟨b,its2,e2,r2,⟨o2,ho2,_,n2,hd2⟩,m2⟩:=look j hj;rw[e1,e2];refine kat_lt ho hd ho2 hd2 ?_;have l1:=r1.length;have l2:=r2.length;have l3:=b_5 List.length ((hal _ m1).trans (hal _ m2).symm);simp only[aa'] at l1 l2 l3;rw[show decide (its.toArray.size<its2.toArray.size)=false by simp;omega];exact cJ_ 0 r1 r2 ((hal _ m1).trans (hal _ m2).symm) hC
end L2
namespace EvD
open PySem PySem.W PyProof.Rows
def Raw(h:Heap)(d:Addr)(es:Array Ag)(ep:Nat):Prop:=∃o,h.get? d=some o/\o.ExactDict/\o.data=.dict es ep
variable{h h':Heap}{d:Addr}{es:Array Ag}{ep:Nat}
theorem Raw.stay(x:Raw h d es ep)(k:∀o,h.get? d=some o->h'.get? d=some o):Raw h' d es ep:=let ⟨o,e,r⟩:=x;⟨o,k o e,r⟩
variable{s:Ab}
theorem Raw.ty(x:Raw s.heap d es ep):s.TypeIs (.ref d) "dict":=let ⟨o,e,c,_⟩:=x;⟨o,e,c.1⟩
variable{prog:Ad}{w:Af}{A:Ah}{E:Aa->Ab->Prop}
theorem hm_{Q:Aa->Ab->Prop}(hd:(d == sysModules)=false)(x:Raw s.heap d es ep)(q:Q (.ref s.heap.objs.size) { s with heap:=s.heap.push { cls:=.type "dict_keyiterator",data:=.fields #[.ref d,.int 0 0,.int es.size 0,.int ep 0] } }) :
  wpAny (model prog w) A (pyIter (.ref d)) Q E s:=by
 obtain⟨o,ho,hc,hdat⟩:=id x;refine wpAny_pyIter_slot x.ty F.slot_dict_iter (wpAny_call_entry F.slot_dict_iter x.ty F.entry_dict_iter ?_ (F.args_dict_iter_1 _));unfold Builtin.«dict.__iter__» Builtin.Dict.dictSlotNone;refine a__ (a__ (wpAny_notOrdered_dict x.ty (show wpAny _ _ (pure (Value.ref d)) _ _ s from a_1 (show wpAny _ _ (Builtin.Dict.showsAll d >>= _) _ _ s from ?_))));unfold Builtin.Dict.showsAll;rw[a_6 (by rw[hd];decide)];refine a__ (a_1 (a__ (wpAny_dictEntries ho hdat (a__ (wpAny_dictEpoch ho hdat (a__ (b_6 (a_1 ⟨_,rfl,"dict_keyiterator",_,⟨_,a_3 _ rfl,rfl⟩,F.slot_dict_keyiterator_next.lookup,?_⟩))))))));exact q
variable{Q:Option Aa->Ab->Prop}{it:Addr}{i:Nat}
theorem hE_(hit:s.heap.IsKeyIter it d i es.size ep)(x:Raw s.heap d es ep)(hi:i<es.size)(q:∀h',h'.IsKeyIter it d (i+1) es.size ep->Heap.SameBut it s.heap h'->Q (some es[i].key) { s with heap:=h' }):wpAny (model prog w) A (pyNext (.ref it)) Q E s:=by
 obtain⟨o,ho,hc,hd⟩:=id hit;obtain⟨od,hod,hcd,hdd⟩:=id x;unfold pyNext;refine a__ (wpAny_attempt (wpAny_callSpecial?_slot (name:=Str.ofString "__next__") hit.typeIs F.slot_dict_keyiterator_next (wpAny_call_entry F.slot_dict_keyiterator_next hit.typeIs F.entry_dict_keyiterator_next ?_ (F.args_dict_keyiterator_next_1 _))));refine a__ (a_1 (a__ (a__ ?_)))
 first|refine a__ (wpAny_typeNameOfWhole_keyiter hit.typeIs (a_1 (a__ (wpAny_fieldsOf ho hd ?_))))|refine a__ (wpAny_typeNameOf_keyiter hit.typeIs (a_1 (a__ (wpAny_fieldsOf ho hd ?_))))
 simp only[show Builtin.Dict_items.ownsTuple "dict_keyiterator"=false by decide,aM',if_false];refine (show wpAny _ _ (if (Value.ref d == Value.none)=true then _ else _) _ _ s from ?_);rw[a_6 (λz=>by cases z)];refine a__ (a_1 (a__ (wpAny_dictEntries hod hdd ?_)));rw[a_6 Z2];refine a__ (a_1 (a__ (wpAny_dictEpoch hod hdd ?_)));rw[a_6 Z2];refine a_1 ?_;simp only[show ¬((i:Int)<0) from by omega,if_false,aT',Array.getElem?_eq_getElem hi];refine a__ ?_
 first|refine a__ (wpAny_typeNameOfWhole_keyiter hit.typeIs (a_1 (a__ (wpAny_isOneOf_keyiter hit.typeIs ?_))))|refine a__ (wpAny_typeNameOf_keyiter hit.typeIs (a_1 (a__ (wpAny_isOneOf_keyiter hit.typeIs ?_))))
 refine (show wpAny _ _ (setField (.ref it) 1 (rawInt ((i:Int)+1)) >>= _) _ _ s from a__ (wpAny_setField ho hd Z2 ?_))
 have turned:(s.heap.update it (Obj.mapFields (·.setIfInBounds 1 (rawInt ((i:Int)+1))))).IsKeyIter it d (i+1) es.size ep:=
  ⟨_,c_4 _ ho (Obj.isFreed_of_fields (Obj.data_mapFields hd _)),(Obj.cls_mapFields ..).trans hc,by rw[Obj.data_mapFields hd];simp[rawInt]⟩
 refine a__ (b_3 (a__ (wpAny_isOneOf_keyiter (s:={ s with heap:=s.heap.update it (Obj.mapFields (·.setIfInBounds 1 (rawInt ((i:Int)+1)))) }) turned.typeIs ?_)));exact (show wpAny _ _ (pure es[i].key) _ _ _ from a_1 (a_1 ⟨_,rfl,a_1 (q _ turned (Heap.SameBut.update ..))⟩))
theorem hj_(hh:A.handled=none)(hit:s.heap.IsKeyIter it d es.size es.size ep)(x:Raw s.heap d es ep)(q:∀h',Heap.ExtBut it s.heap h'->Q none { s with heap:=h' }):wpAny (model prog w) A (pyNext (.ref it)) Q E s:=by
 obtain⟨o,ho,hc,hd⟩:=id hit;obtain⟨od,hod,hcd,hdd⟩:=id x;unfold pyNext;refine a__ (wpAny_attempt (wpAny_callSpecial?_slot (name:=Str.ofString "__next__") hit.typeIs F.slot_dict_keyiterator_next (wpAny_call_entry F.slot_dict_keyiterator_next hit.typeIs F.entry_dict_keyiterator_next ?_ (F.args_dict_keyiterator_next_1 _))));refine a__ (a_1 (a__ (a__ ?_)))
 first|refine a__ (wpAny_typeNameOfWhole_keyiter hit.typeIs (a_1 (a__ (wpAny_fieldsOf ho hd ?_))))|refine a__ (wpAny_typeNameOf_keyiter hit.typeIs (a_1 (a__ (wpAny_fieldsOf ho hd ?_))))
 simp only[show Builtin.Dict_items.ownsTuple "dict_keyiterator"=false by decide,aM',if_false];refine (show wpAny _ _ (if (Value.ref d == Value.none)=true then _ else _) _ _ s from ?_);rw[a_6 (λz=>by cases z)];refine a__ (a_1 (a__ (wpAny_dictEntries hod hdd ?_)));rw[a_6 Z2];refine a__ (a_1 (a__ (wpAny_dictEpoch hod hdd ?_)));rw[a_6 Z2];refine a_1 ?_;simp only[show ¬((es.size:Int)<0) from by omega,if_false,aT',Array.getElem?_eq_none (ae' _)];refine a__ ?_
 first|refine a__ (wpAny_typeNameOfWhole_keyiter hit.typeIs (a_1 ?g))|refine a__ (wpAny_typeNameOf_keyiter hit.typeIs (a_1 ?g))
 refine (show wpAny _ _ (setField (.ref it) 0 .none >>= _) _ _ s from a__ (wpAny_setField ho hd Z2 (show wpAny _ _ (newExc (.type "StopIteration") [] >>= _) _ _ _ from a__ ?_)));simp only[newExc,newTuple];refine a__ (b_6 (a__ (m:=firstArgMember _ _) (wpAny_of_eq (a:=Value.none) (by first|rfl|(simp only[firstArgMember];rfl)) (b_6 ?_ (by size_fits)))) (by size_fits));simp only[raiseNew];refine a__ (wpAny_handled ?_);rw[show A.in1.handled=none from hh];refine a__ (a_1 (wpAny_throw ?_));exact a__ (wpAny_isInstance (T:="StopIteration") (b:=true) ⟨_,a_3 _ rfl,rfl⟩ isSubtype_stop (a_1 (q _ (((Heap.SameBut.update ..).extBut.push _).push _))))
theorem gF_(hh:A.handled=none)(I d:Addr)(hne:d≠I)(es:Array Ag)(ep:Nat) :
  Walks prog w A I [I,d] [I] es.size (λi v=>∃h:i<es.size,v=es[i].key) (λi h=>h.IsKeyIter I d i es.size ep/\Raw h d es ep) where
 sub:=λb hb=>by simp only[List.mem_singleton] at hb;simp[hb]
 frame:=λ_ _ _ st k=>⟨st.1.at λo e=>k I Z2 o e,st.2.stay λo e=>k d Z2 o e⟩
 item:=λi s Q E hi st hQ=>hE_ st.1 st.2 hi λh' hit' hs'=>hQ _ h' s.toks ⟨hi,rfl⟩ ⟨hit',st.2.stay λo e=>hs'.extBut d o hne e⟩ λb o hb e=>hs'.extBut b o (λh=>hb (by simp[h])) e
 done:=λs Q E st hQ=>hj_ hh st.1 st.2 λh' he'=>hQ h' s.toks λb o hb e=>he' b o (λh=>hb (by simp[h])) e
 self:=λ_ _ _ _ st hQ=>wpAny_pyIter_keyiter st.1 hQ
theorem iT_(lo:(d == sysModules)=false):KdlSrc prog w "dict" d d es.size (λi v=>∃h:i<es.size,v=es[i].key) (λh=>Raw h d es ep) where
 type:=λs x=>x.ty
 there:=λh x=>let ⟨o,e,_⟩:=x;⟨a_2 e,a_2 e⟩
 keep:=λh h' x k=>x.stay λo e=>k d (.inl rfl) o e
 notList:=by decide
 notTuple:=by decide
 hint:=λ_ _ s _ x q=>kdl_hint_dict x.ty q
 iter:=λA s hh x=>⟨_,_,λE Q q=>hm_ lo x q,gF_ hh _ d (let ⟨o,e,_⟩:=x;aj' (a_2 e)) es ep,⟨⟨_,a_3 _ rfl,rfl,rfl⟩,x.stay λo e=>a_0 _ e⟩⟩
theorem cN_:typeLookup (.type "list") "keys"=pure none:=by rw[typeLookup_type,builtinLookup_eq_fast];kernel_rfl
variable{a:Addr}{xs:Array Aa}{k:Nat}{tk:Tok}{R:Result->Ab->Prop}
theorem fO_(hx:s.heap.get? a=some (seqObj "list" xs k))(h:raisesAttr (.ref a) "keys" A R s) :
  codeAny (model prog w) A (.call (.builtin "list.__getattribute__") ⟨[.ref a,.str "keys" tk],[]⟩) R s:=by
 refine codeAny_call_builtin F.slot_list_getattribute.plain am_entry_list_getattribute (F.slot_list_getattribute.check _ _ _ _ _ _ _ _ ⟨_,hx,rfl⟩ (F.args_list_getattribute_2 _ _) ?_);exact meets_getattribute_miss_list a xs k #[] "keys" tk cN_ (by decide) (by size_fits) prog w A R s ⟨hx,h⟩
theorem noKeys(hx:s.heap.get? a=some (seqObj "list" xs k))(hA:A.handled=none)(h:∀h' tk,(∀b o,s.heap.get? b=some o->h'.get? b=some o)->Q none { s with heap:=h',toks:=tk }):wpAny (model prog w) A (getAttr? (.ref a) "keys") Q E s:=by
 obtain⟨hp,g,d,tk,os⟩:=s;have ty:∀tk',(⟨hp,g,d,tk',os⟩:Ab).TypeIs (.ref a) "list":=λ_=>⟨_,hx,rfl⟩;have f1:=sub_AttributeError;have f2:=F.slot_list_getattribute.lookup;have f3:=F.slot_list_getattribute.bind (.ref a);have f4:=am_list_getattr_none;unfold getAttr? getAttrBy? getAttrBy
 repeat (any_goals (first|assumption|exact ty _|wp_step))
 refine fO_ hx ⟨hA,λh' tk' e hx'=>?_⟩;obtain⟨t',u',he⟩:=hx'.there;show wpAny _ _ (getattributeRaised _ _ _ _ _ _ _) _ _ _;unfold getattributeRaised
 repeat (any_goals (first|assumption|wp_step))
 exact h _ _ hx'.keeps
theorem dU_:entryFor table "dict.update.loop"=some Builtin.«dict.update.loop»:=entryFor_of_tree (by kernel_rfl)
theorem c4_:plainId "dict.update.loop"=true:=by decide +kernel
theorem i1_(d it:Addr)(i:Int)(tk:Tok):Builtin.«dict.update.loop» ⟨[.ref d,.ref it,.int i tk,.none],[]⟩=(do
  let r <- pyNext (.ref it)
  match r with
  |none=>do Builtin.Dict.addKeywords d [];ret .none
  |some item=>do
   holding [item] (do
    let pair <- (Builtin.Dict.pairItems item).tryCatch λe=>do
     if !(<- isInstance e (.type "TypeError")) then throw e
     rule "dict.update.element-no-sequence"
     raiseError "TypeError" s!"cannot convert dictionary update sequence element #{i} to a sequence"
    match pair with
    |[k,v]=>holding [k,v] (dictSet d k v)
    |l=>do
     rule "dict.update.element-length"
     raiseError "ValueError" s!"dictionary update sequence element #{i} has length {l.length}; 2 is required")
   again (.builtin "dict.update.loop" ⟨[.ref d,.ref it,rawInt (i+1),.none],[]⟩)):=by
 unfold Builtin.«dict.update.loop»;refine b_5 (λf=>pyNext (.ref it) >>= f) (funext λr=>?_);cases r<;>rfl
section
variable{prog:Ad}{w:Af}{K:Type}[DecidableEq K]{knd:PySem.KeyKind prog w K}{A:Ah}
def c5'(knd:PySem.KeyKind prog w K)(h:Heap):List Aa->List (K × Aa)->Prop:=Paired λv p=>∃a key,v=.ref a/\IsTup h a #[key,p.2]/\knd.is p.1 key=true
def mergeP(kvs:List (K × Aa))(ps:List (K × Aa)):List (K × Aa):=ps.foldl (λacc p=>stored acc p.1 p.2) kvs
theorem fl_(kvs:List (K × Aa))(k:K)(v:Aa):(stored kvs k v).length<=kvs.length+1:=by
 unfold stored;split
 ·simp
 ·simp
theorem cw_{b l:Addr}{ys:Array Aa}(t:IsTup h b ys)(q:h.IsListIter it l i):b≠it:=λz=>by
 obtain⟨o,ho,hc,_⟩:=t;obtain⟨o2,ho2,hc2,_⟩:=q;subst z;rw[ho] at ho2;cases ho2;rw[hc] at hc2;exact absurd hc2 (by decide)
theorem ek_{b:Addr}{ys:Array Aa}{kvs:List (K × Aa)}(t:IsTup h b ys)(q:h.DictOf knd d kvs):b≠d:=λz=>by
 obtain⟨o,ho,hc,_⟩:=t;obtain⟨o2,es,ep,ho2,hc2,_⟩:=q;subst z;rw[ho] at ho2;cases ho2;have hc3:=hc2.1;rw[hc] at hc3;exact absurd hc3 (by decide)
theorem dE_{kvs:List (K × Aa)}(q:h.DictOf knd d kvs)(k:∀o,h.get? d=some o->h'.get? d=some o):h'.DictOf knd d kvs:=by
 obtain⟨o,es,ep,ho,r⟩:=q;exact⟨o,es,ep,k _ ho,r⟩
theorem hR_{l:Addr}{its:List Aa}{key x:Aa}{k:K}{kvs:List (K × Aa)}(hdi:d≠it)(hi:its.toArray[i]? = some (.ref a))(ht:IsTup s.heap a #[key,x])(hk:knd.is k key=true)(hit:s.heap.IsListIter it l i)(hl:s.heap.IsList l its.toArray)(hd:s.heap.DictOf knd d kvs)(hz:kvs.length<=1000)(hR:∀h2,h2.DictOf knd d (stored kvs k x)->(∀b o,b≠d->b≠it->s.heap.get? b=some o->h2.get? b=some o)->h2.IsListIter it l (i+1)->codeAny (model prog w) A (.builtin "dict.update.loop" ⟨[.ref d,.ref it,rawInt ((i:Int)+1),.none],[]⟩) R { s with heap:=h2,toks:=s.toks+1 }) :
  codeAny (model prog w) A (.builtin "dict.update.loop" ⟨[.ref d,.ref it,.int i tk,.none],[]⟩) R s:=by
 refine codeAny_builtin dU_ ?_;rw[Around.under_plainId c4_ _,i1_];refine a__ (wpAny_pyNext_list_item hit hl hi λh1 hit1 hs1=>?_);obtain⟨ot,hot,hct,nt,hdt⟩:=id ht;have hot1:h1.get? a=some ot:=hs1.extBut _ _ (cw_ ht hit) hot;refine a__ (b_3 (a__ (wpAny_tryCatch ?_)));unfold Builtin.Dict.pairItems;refine a__ (wpAny_typeOf (T:="tuple") ⟨ot,hot1,hct⟩ ?_);rw[a_8 (by decide)];unfold seqItems?;refine a__ (a__ (wpAny_load hot1 ?_));rw[hdt];refine a_1 (a_1 ?_);refine (show wpAny _ _ (holding [key,x] (dictSet d key x)) _ _ _ from b_3 (wpAny_dictSet_pairs hk (dE_ hd λo q=>hs1.extBut _ _ hdi q) (λh2 hd2 hs2=>?_) (by have:=b_1;omega)));exact a_1 ⟨plainId_quiet c4_ _,hR h2 hd2 (λb o h3 h4 q=>hs2.extBut _ _ h3 (hs1.extBut _ _ h4 q)) (hit1.extBut hs2.extBut (Ne.symm hdi))⟩
theorem i9_{l:Addr}{its:List Aa}{kvs:List (K × Aa)}(hdi:d≠it)(hh:A.handled=none)(hi:its.toArray[i]? = none)(hit:s.heap.IsListIter it l i)(hl:s.heap.IsList l its.toArray)(hd:s.heap.DictOf knd d kvs)(hR:∀h',h'.DictOf knd d kvs->(∀b o,b≠it->s.heap.get? b=some o->h'.get? b=some o)->R (.ok (.ret .none)) { s with heap:=h' }) :
  codeAny (model prog w) A (.builtin "dict.update.loop" ⟨[.ref d,.ref it,.int i tk,.none],[]⟩) R s:=by
 refine codeAny_builtin dU_ ?_;rw[Around.under_plainId c4_ _,i1_];refine a__ (wpAny_pyNext_list_end hh hit hl hi λh' he=>?_);exact a__ (m:=Builtin.Dict.addKeywords d []) (a_1 (a_1 (hR h' (dE_ hd λo q=>he _ _ hdi q) λb o hb q=>he b o hb q)))
theorem ja_{l:Addr}(hil:l≠it)(hdi:d≠it)(hdl:d≠l)(hh:A.handled=none){its:List Aa}(rest:List Aa):∀(ps:List (K × Aa)) (i:Nat) (kvs:List (K × Aa)) (s:Ab) (R:Result->Ab->Prop) (tk:Tok),its.drop i=rest->c5' knd s.heap rest ps->
  s.heap.IsListIter it l i->s.heap.IsList l its.toArray->s.heap.DictOf knd d kvs->kvs.length+ps.length<=1000->
  (∀h' tk',h'.DictOf knd d (mergeP kvs ps)->(∀b o,b≠d->b≠it->s.heap.get? b=some o->h'.get? b=some o)->R (.ok (.ret .none)) { s with heap:=h',toks:=tk' })->
  codeAny (model prog w) A (.builtin "dict.update.loop" ⟨[.ref d,.ref it,.int i tk,.none],[]⟩) R s:=by
 induction rest with
 |nil=>
  intro ps i kvs s R tk e hp hit hl hd hz hR;cases hp
  have hi:its.toArray[i]? = none:=by
   have:=b_5 List.length e;simp only[aQ',List.length_nil] at this;simp;omega
  exact i9_ hdi hh hi hit hl hd λh' hd' kp=>hR h' s.toks hd' λb o _ hb q=>kp b o hb q
 |cons v rest ih=>
  intro ps i kvs s R tk e hp hit hl hd hz hR;cases hp with
  |@cons _ p _ ps h0 hr=>
  obtain⟨a,key,hv,ht,hk⟩:=h0;obtain⟨k,x⟩:=p;subst hv
  have hi:its.toArray[i]? = some (.ref a):=by
   have q:(its.drop i)[0]? = some (.ref a):=by rw[e];rfl
   rw[List.getElem?_drop] at q;simpa using q
  have e':its.drop (i+1)=rest:=by
   rw[<- List.drop_drop,e];rfl
  simp only[aD'] at hz;refine hR_ hdi hi ht hk hit hl hd Z1 λh2 hd2 kp hit2=>?_;have c1:((i:Int)+1)=((i+1:Nat):Int):=by omega
  rw[c1];refine ih ps (i+1) (stored kvs k x) _ R 0 e' (L2.Paired.mapP hr λv p ⟨b,ky,e1,t1,k1⟩=>⟨b,ky,e1,?_,k1⟩) hit2 (hl.at λo q=>kp _ _ (Ne.symm hdl) hil q) hd2 (by have:=fl_ kvs k x;omega) λh' tk' hd' kp'=>hR h' tk' hd' λb o h3 h4 q=>kp' b o h3 h4 (kp b o h3 h4 q);obtain⟨o,ho,r⟩:=id t1;exact⟨o,kp _ _ (ek_ t1 hd) (cw_ t1 hit) ho,r⟩
theorem dw_{l:Addr}{its:List Aa}{n:Nat}{ps:List (K × Aa)}{Q:Aa->Ab->Prop}(hh:A.handled=none)(ho:s.heap.get? l=some (seqObj "list" its.toArray n))(hp:c5' knd s.heap its ps)(hz:ps.length<=1000)(h:∀h' tk',h'.DictOf knd s.heap.objs.size (mergeP [] ps)->(∀b o,s.heap.get? b=some o->h'.get? b=some o)->Q (.ref s.heap.objs.size) { s with heap:=h',toks:=tk' }) :
  wpAny (model prog w) A (call (.type "dict") [.ref l]) Q E s:=by
 refine callType_codes (Q₁:=λobj s₁=>obj=.ref s.heap.objs.size/\s₁={ s with heap:=s.heap.push { cls:=.type "dict",data:=.dict #[] } }) F.kt_called_dict (F.kt_typeCall_dict_1 _) F.entry_dict_init (kt_code_dict_new _ ⟨rfl,rfl⟩) ?_;rintro obj s₁ ⟨rfl,rfl⟩;have hnew:(s.heap.push { cls:=.type "dict",data:=.dict #[] }).DictOf knd s.heap.objs.size []:=Heap.DictOf.new s.heap;have hl1:(s.heap.push { cls:=.type "dict",data:=.dict #[] }).get? l=some (seqObj "list" its.toArray n):=a_0 _ ho;refine⟨hnew.typeIs,F.args_dict_init_2 _ _,?_⟩;unfold Builtin.«dict.__init__» Builtin.Dict.selfAndRest;refine a__ (a__ (wpAny_notOrdered_dict hnew.typeIs ?_));refine (show wpAny _ _ (pure (s.heap.objs.size,[Value.ref l])) _ _ _ from a_1 ?_);refine (show wpAny _ _ (Builtin.Dict.updateFrom "dict.__init__" s.heap.objs.size (.ref l) [] .none) _ _ _ from ?_);unfold Builtin.Dict.updateFrom;refine a__ (wpAny_typeOf (T:="list") ⟨_,hl1,rfl⟩ ?_);rw[a_8 (by decide)];refine a__ (noKeys hl1 hh λh2 tk2 k2=>?_);simp only[Option.isNone_none,if_true];have hl2:h2.get? l=some (seqObj "list" its.toArray n):=k2 _ _ hl1;refine a__ (wpAny_rule (a__ (wpAny_pyIter_list ⟨_,hl2,rfl,_,rfl⟩ ?_)));refine a_1 ⟨plainId_quiet c4_ _,?_⟩;have all:∀{b o},s.heap.get? b=some o->(h2.push { cls:=.type "list_iterator",data:=.fields #[.ref l,.int 0 0] }).get? b=some o:=λq=>a_0 _ (k2 _ _ (a_0 _ q))
 have hd2:h2.DictOf knd s.heap.objs.size []:=by
  obtain⟨o,es,ep,ho,r⟩:=hnew;exact⟨o,es,ep,k2 _ _ ho,r⟩
 have sz2:s.heap.objs.size<h2.objs.size:=by
  obtain⟨o,es,ep,ho,r⟩:=hd2;exact a_2 ho
 have lz:l<s.heap.objs.size:=a_2 ho
 refine ja_ (A:=A.in1) (knd:=knd) (its:=its) (it:=h2.objs.size) (l:=l) (d:=s.heap.objs.size) (aj' (Nat.lt_trans lz sz2)) (aj' sz2) (aE' lz) hh its ps 0 [] _ _ 0 rfl (L2.Paired.mapP hp λv p ⟨b,ky,e1,t1,k1⟩=>⟨b,ky,e1,t1.keeps λb o q=>all q,k1⟩)
  ⟨_,a_3 _ rfl,rfl,rfl⟩ ⟨_,a_0 _ hl2,rfl,_,rfl⟩ (by
   obtain⟨o,es,ep,ho,r⟩:=hd2;exact⟨o,es,ep,a_0 _ ho,r⟩) (by simpa using hz) λh' tk' hd' kp=>⟨rfl,h h' tk' hd' λb o q=>?_⟩
 have bl:b<s.heap.objs.size:=a_2 q;exact kp b o (aj' bl) (aj' (Nat.lt_trans bl sz2)) (all q)
end
end EvD
namespace L2
open PySem PySem.Spec PyProof.Rows PySem.W EvS EvD
variable{ys:List V}
theorem aZ'.same{K:F__}{H H':Hp}{ks:List (List Key)}(t:aZ' K H ys ks)(e:Same H H'):aZ' K H' ys ks:=Paired.mapP t λy k ⟨a,z,q⟩=>⟨a,z,e _ _ q⟩
theorem Same.new{H:Hp}{l:Addr}{o:HO}(h:H l=none):Same H (upd H l o):=λb u e=>by rw[a7_ (a5_ e h)];exact e
section
variable{X:Cx}{pins:List (Addr × Obj)}{σ:St}{H H':Hp}{s:Ab}{h':Heap}{t':Nat}
theorem Inv.many(I:Inv X pins σ H s)(k:∀b o,s.heap.get? b=some o->h'.get? b=some o)(hold:Same H H')(hnew:∀b,H b=none->b<s.heap.objs.size->H' b=none)
  (hob:∀b o,H' b=some o->H b=none->∃xs its,o=.tup xs/\xs.length<=sizeLine/\Vals xs its/\IsTup h' b its.toArray/\∃o,h'.get? b=some o/\o.dict=none):Inv X pins σ H' { s with heap:=h',toks:=t' }:=by
 refine I.un ⟨λb o q _ _ _=>k b o q,λb o q _ _ _=>⟨o.slots,k b o q⟩,λb o q n _=>hnew b n (a_2 q),λb o q _=>⟨o,k b o q⟩,λb xs q=>hold b _ q,λb o u q=>hold b _ q,λb ps q=>⟨#[],by rw[Array.append_empty];exact hold b _ q⟩⟩ λb o q=>?_;cases e:H b with
 |some u=>
  have e2:=hold b u e;rw[q] at e2;cases e2;exact (I.hok b o e).stay (λc v _ z=>k c v z) (λc z=>hold c _ z) λc xs z=>hold c _ z
 |none=>
  obtain⟨xs,its,rfl,z,r,t⟩:=hob b o q e;exact⟨z,its,r,t⟩
end
section
variable{X:Cx}{pins:List (Addr × Obj)}{σ:St}{H:Hp}{s:Ab}{A:Ah}{E:Aa->Ab->Prop}
theorem c7_{P:Nat->Aa->Prop}{acc:Array Aa}(h:ItemsOf P acc ys.length)(hp:∀(j:Nat) v,P j v->∀y,ys[j]? = some y->RelV y v):Vals ys acc.toList:=by
 have gen:∀(ys:List V) (vs:List Aa),ys.length=vs.length->(∀(j:Nat) y v,ys[j]? = some y->vs[j]? = some v->RelV y v)->Vals ys vs:=λys=>by
  induction ys with
  |nil=>
   intro vs hl _;cases vs with
   |nil=>exact .nil
   |cons _ _=>cases hl
  |cons y ys ih=>
   intro vs hl h;cases vs with
   |nil=>cases hl
   |cons v vs=>exact .cons (h 0 y v rfl rfl) (ih vs (by simpa using hl) λj y v a b=>h (j+1) y v (by simpa using a) (by simpa using b))
 refine gen ys acc.toList (by rw[aH'];exact h.1.symm) λj y v a b=>hp j v (h.2 j v ?_) y a;rw[<- Array.getElem?_toList];exact b
theorem i2_{d:Addr}{kvs:List (Key × V)}(I:Inv X pins σ H s)(h:Rd H d (.dK kvs)):∃(P:Nat->Aa->Prop) (OK:Heap->Prop),KdlSrc X.prog X.w "dict" d d (kvs.map λkv=>kV kv.1).length P OK/\OK s.heap/\∀(j:Nat) v,P j v->∀y,(kvs.map λkv=>kV kv.1)[j]? = some y->RelV y v:=by
 obtain⟨z,hd,vs,rel,dd⟩:=bN_ I.hok h;obtain⟨ep,dat⟩:=dd.dictAt;have hl:=rel.length;refine⟨λi v=>∃k x,vs[i]? = some (k,x)/\(a0' X.prog X.w).is k v=true,λh=>h.DictAt (a0' X.prog X.w) d vs ep,(by rw[aa',hl];exact kdl_dict (knd:=a0' X.prog X.w) (kvs:=vs) (ep:=ep) hd),dat,λj v ⟨k,x,e,hk⟩ y hy=>?_⟩;rw[ao'] at hy;have ek:kvs.map (·.1)=vs.map (·.1):=rel.keys;have e2:(kvs.map (·.1))[j]? = (vs.map (·.1))[j]?:=by rw[ek]
 rw[ao',ao',e] at e2;cases e3:kvs[j]? with
 |none=>rw[e3] at e2;cases e2
 |some kv=>
  rw[e3] at e2 hy;have e4:kv.1=k:=a_9 e2;have e5:kV kv.1=y:=a_9 hy;rw[<- e5,e4];have hk:cL' k v=true:=hk;rcases ap_ hk with⟨i,t,rfl,rfl⟩|⟨x,t,rfl,rfl⟩
  ·exact⟨t,rfl⟩
  ·exact⟨t,rfl⟩
theorem i4_{d:Addr}{kvs:List (Key × V)}{R:List Aa->Ab->Prop}(hh:A.handled=none)(I:Inv X pins σ H s)(h:Rd H d (.dK kvs))(q:∀vs s1,Inv X pins σ H s1->Vals (kvs.map λkv=>kV kv.1) vs->R vs s1):wpAny (model X.prog X.w) A (collect (.ref d)) R E s:=by
 obtain⟨P,OK,S,ok,hp⟩:=i2_ I h;refine kdu_collect S hh ok ?_ λh' tk acc k a=>q _ _ (I.kept k) (c7_ a hp);rw[aa'];exact (bN_ I.hok h).1
theorem j7_{d:Addr}{kvs:List (List Key × V)}(I:Inv X pins σ H s)(h:Rd H d (.dT kvs)):∃(ys:List V) (P:Nat->Aa->Prop) (OK:Heap->Prop),aZ' X.K H ys (kvs.map (·.1))/\ys.length<=sizeLine/\KdlSrc X.prog X.w "dict" d d ys.length P OK/\OK s.heap/\∀(j:Nat) v,P j v->∀y,ys[j]? = some y->RelV y v:=by
 obtain⟨z,hd,xs,rel,o,es,ep,ho,hc,hdat,hes,nd⟩:=h.ok I.hok
 have l1:es.size=xs.length:=by
  have:=b_5 List.length hes;simpa using this
 have l2:=a_4 rel;refine⟨xs.map λx=>V.ref x.2.1,λi v=>∃h:i<es.size,v=es[i].key,λh=>Raw h d es ep,?_,by rw[aa'];omega,(by rw[aa',<- l1];exact iT_ (es:=es) (ep:=ep) hd),⟨o,ho,hc,hdat⟩,λj v ⟨hj,e⟩ y hy=>?_⟩
 ·have gen:∀{kvs:List (List Key × V)} {xs:List (List Key × Addr × Aa)},KT H kvs xs->aZ' X.K H (xs.map λx=>V.ref x.2.1) (kvs.map (·.1)):=λ{kvs xs} r=>by
   induction r with
   |nil=>exact .nil
   |cons h _ ih=>exact .cons ⟨_,rfl,h.2.1⟩ ih
  exact gen rel
 ·rw[ao'] at hy;have hx:j<xs.length:=by omega
  rw[ab' hx] at hy;have e1:V.ref xs[j].2.1=y:=a_9 hy
  have e2:es[j]=entryOfKey (tupleKind (a0' X.prog X.w)) xs[j]:=by
   have e3:es.toList[j]? = (xs.map (entryOfKey (tupleKind (a0' X.prog X.w))))[j]?:=by rw[hes]
   rw[ao',ab' hx,Array.getElem?_toList,Array.getElem?_eq_getElem hj] at e3;exact a_9 e3
  rw[<- e1,e,e2];rfl
theorem ji_{d:Addr}{kvs:List (List Key × V)}{R:List Aa->Ab->Prop}(hh:A.handled=none)(I:Inv X pins σ H s)(h:Rd H d (.dT kvs))(q:∀ys vs s1,Inv X pins σ H s1->Vals ys vs->aZ' X.K H ys (kvs.map (·.1))->R vs s1):wpAny (model X.prog X.w) A (collect (.ref d)) R E s:=by
 obtain⟨ys,P,OK,t,z,S,ok,hp⟩:=j7_ I h;exact kdu_collect S hh ok z λh' tk acc k a=>q ys _ _ (I.kept k) (c7_ a hp) t
def a1'(v d:Addr):HO:=.ext λh=>h.IsItemsView v d
def bj'(v d:Addr):HO:=.ext λh=>h.IsValuesView v d
def a5'(K:F__)(H:Hp):List V->List (Key × V)->Prop:=Paired λy p=>∃a,y=V.ref a/\H a=some (.tup [kV p.1,p.2])
theorem gP_{v d:Addr}{kvs:List (Key × V)}{R:List Aa->Ab->Prop}(hh:A.handled=none)(I:Inv X pins σ H s)(hv:H v=some (a1' v d))(h:Rd H d (.dK kvs))(q:∀H1 ys vs s1,Inv X pins σ H1 s1->Same H H1->Vals ys vs->a5' X.K H1 ys kvs->R vs s1) :
  wpAny (model X.prog X.w) A (collect (.ref v)) R E s:=by
 obtain⟨z,hd,vs,rel,dd⟩:=bN_ I.hok h;obtain⟨ep,dat⟩:=dd.dictAt;obtain⟨iv,_,_⟩:=I.hok v _ hv;have hl:=rel.length;refine kdx_collect (knd:=a0' X.prog X.w) (kvs:=vs) (ep:=ep) hh iv dat Z1 λh' tk as k la G=>?_;have up:∀b,b∈as->s.heap.objs.size<b:=G.above
 have at1:∀(j:Nat) b p,as[j]? = some b->kvs[j]? = some p->∃its,Vals [kV p.1,p.2] its/\IsTup h' b its.toArray/\∃o,h'.get? b=some o/\o.dict=none:=λj b p hj hp=>by
  obtain⟨key,kk,x,e1,e2,e3⟩:=G.pairs j b hj
  have gen:∀{kvs:List (Key × V)} {vs:List (Key × Aa)},KV kvs vs->∀(j:Nat),vs[j]? = some (kk,x)->kvs[j]? = some p->p.1=kk/\RelV p.2 x:=λ{kvs vs} r=>by
   induction r with
   |nil=>intro j e;simp at e
   |@cons p' q _ _ h _ ih=>
    intro j e e';cases j with
    |zero=>
     have e:q=(kk,x):=by simpa using e
     have e':p'=p:=by simpa using e'
     subst e';rw[e] at h;exact h
    |succ j=>exact ih j (by simpa using e) (by simpa using e')
  obtain⟨g1,g2⟩:=gen rel j e1 hp;refine⟨[key,x],.cons ?_ (.cons g2 .nil),⟨_,e3,rfl,_,rfl⟩,_,e3,rfl⟩;rw[g1];have e2:cL' kk key=true:=e2;rcases ap_ e2 with⟨i,t,rfl,rfl⟩|⟨x,t,rfl,rfl⟩
  ·exact⟨t,rfl⟩
  ·exact⟨t,rfl⟩
 have look:∀{as:List Addr} {kvs:List (Key × V)},as.Pairwise (· < ·)->∀(j:Nat) b p,as[j]? = some b->kvs[j]? = some p->(as.zip kvs).lookup b=some p:=λ{as}=>by
  induction as with
  |nil=>intro kvs _ j b p e;simp at e
  |cons a as ih=>
   intro kvs pw j b p e e';cases kvs with
   |nil=>simp at e'
   |cons q kvs=>
    obtain⟨p1,p2⟩:=List.pairwise_cons.mp pw;show ((a,q)::as.zip kvs).lookup b=some p;cases j with
    |zero=>
     have e:a=b:=by simpa using e
     have e':q=p:=by simpa using e'
     subst e;subst e';rw[List.lookup_cons_self]
    |succ j=>
     have e:as[j]? = some b:=by simpa using e
     have e':kvs[j]? = some p:=by simpa using e'
     have lt:=p1 b (ad' e);rw[aK',show (b == a)=false by simp only[beq_eq_false_iff_ne];exact aE' lt];exact ih p2 j b p e e'
 have lk:as.length=kvs.length:=by omega
 let H1:Hp:=λb=>if b∈as then ((as.zip kvs).lookup b).map λp=>HO.tup [kV p.1,p.2] else H b
 have h1in:∀(j:Nat) b p,as[j]? = some b->kvs[j]? = some p->H1 b=some (.tup [kV p.1,p.2]):=λj b p e e'=>by
  show (if b∈as then _ else _)=_;rw[a_8 (ad' e),look G.rise j b p e e'];rfl
 have h1out:∀b,b∉as->H1 b=H b:=λb hb=>a_6 hb;have old:∀b,b<s.heap.objs.size->b∉as:=λb hb m=>absurd (up b m) Z1;refine q H1 (as.map V.ref) _ _ (I.many (t':=tk) k (λb o e=>by rw[h1out b (old b (I.hok.lt e))];exact e) (λb e hb=>by rw[h1out b (old b hb)];exact e) λb o e e0=>?_) (λb o e=>by rw[h1out b (old b (I.hok.lt e))];exact e) ?_ ?_
 ·by_cases m:b∈as
  ·obtain⟨j,hj⟩:=List.mem_iff_getElem?.mp m
   have jl:j<kvs.length:=by
    have:=(ac'.mp hj).1;omega
   have e':=h1in j b kvs[j] hj (ab' jl);rw[e] at e';cases e';obtain⟨its,r,t⟩:=at1 j b _ hj (ab' jl);exact⟨_,its,rfl,by show 2<=sizeLine;decide,r,t⟩
  ·rw[h1out b m,e0] at e;cases e
 ·have gen:∀as:List Addr,Vals (as.map V.ref) (as.map Value.ref):=λas=>by
   induction as with
   |nil=>exact .nil
   |cons a as ih=>exact .cons rfl ih
  exact gen as
 ·have gen:∀(as':List Addr) (kvs':List (Key × V)),as'.length=kvs'.length->(∀(j:Nat) b p,as'[j]? = some b->kvs'[j]? = some p->H1 b=some (.tup [kV p.1,p.2]))->a5' X.K H1 (as'.map V.ref) kvs':=λas'=>by
   induction as' with
   |nil=>
    intro kvs' hl _;cases kvs' with
    |nil=>exact .nil
    |cons _ _=>cases hl
   |cons a as' ih=>
    intro kvs' hl h;cases kvs' with
    |nil=>cases hl
    |cons p kvs'=>exact .cons ⟨a,rfl,h 0 a p rfl rfl⟩ (ih kvs' (by simpa using hl) λj b p e e'=>h (j+1) b p (by simpa using e) (by simpa using e'))
  exact gen as kvs lk h1in
end
theorem h4_{a b:List Str}(h:a.map keyS=b.map keyS):a=b:=by
 induction a generalizing b with
 |nil=>
  cases b with
  |nil=>rfl
  |cons _ _=>cases h
 |cons x a ih=>
  cases b with
  |nil=>cases h
  |cons y b=>
   obtain⟨h1,h2⟩:=c_3 h;have h1:[(Sum.inr x:Key)]=[Sum.inr y]:=h1;cases h1;rw[ih h2]
theorem d7_(ss:List Str):(bt' ss).map keyS=sortKs (ss.map keyS):=by
 have all:∀k∈sortKs (ss.map keyS),∃x,k=keyS x:=λk hk=>by
  obtain⟨x,_,e⟩:=ah'.mp ((aq_ _).mem_iff.mp hk);exact⟨x,e.symm⟩
 have gen:∀l:List (List Key),(∀k∈l,∃x,k=keyS x)->(l.map λk=>match k with | [.inr x]=>x|_=>(⟨#[]⟩:Str)).map keyS=l:=λl=>by
  induction l with
  |nil=>exact λ_=>rfl
  |cons k l ih=>
   intro h;obtain⟨x,rfl⟩:=h k ak';rw[ax',ax',ih λk hk=>h k (af' _ hk)];rfl
 exact gen _ all
theorem aF_(ss:List Str):(bt' ss).Perm ss:=by
 have p:((bt' ss).map keyS).Perm (ss.map keyS):=by rw[d7_];exact aq_ _
 have back:∀l:List Str,(l.map keyS).map (λk=>match k with | [.inr x]=>x|_=>(⟨#[]⟩:Str))=l:=λl=>by
  rw[al']
  induction l with
  |nil=>rfl
  |cons x l ih=>rw[ax',ih];rfl
 have q:=p.map (λk=>match k with | [.inr x]=>x|_=>(⟨#[]⟩:Str));rwa [back,back] at q
section
variable{X:Cx}{pins:List (Addr × Obj)}{σ:St}{H:Hp}{s:Ab}
theorem dD_{u:Aa}{ss:List Str}{Q:VK}(h64:ss.length<64)(hcol:wpAny (model X.prog X.w) X.A.in1 (collect u) (λvs s1=>∃H1,Inv X pins σ H1 s1/\Vals (ss.map V.str) vs/\∀l,H1 l=none->Q (.ref l) (upd H1 l (.lst ((bt' ss).map V.str)))) X.xe s) :
  wpAny (model X.prog X.w) X.A (call (.builtin "sorted") [u]) (EP X pins σ Q) X.xe s:=by
 refine cS_ (ey_ (ss.map keyS)) (thn hcol λvs s1 ⟨H1,I1,r,q⟩=>?_);have hl:vs.length=ss.length:=by rw[<- r.length,aa']
 refine⟨by omega,λh2 h' _=>ga_ (ft_ r) h2,λp h' e g up hD kp=>?_⟩;have g':Good (ss.map keyS).length p:=by rw[aa',<- hl];exact g
 have asc:=g0_ (ks:=ss.map keyS) (λi j _ _=>rfl) g' (by rw[aa',<- hl];exact up)
 have perm:(p.toList.map λi=>(ss.map keyS).getD i []).Perm (ss.map keyS):=by
  have:=bv_ g' λi=>(ss.map keyS).getD i [];rwa [b9_] at this
 have es:=dZ_ perm asc
 have inr:∀i∈p.toList,i<ss.length:=λi hi=>by
  have m:i∈(List.range vs.length).toArray:=g.mem_iff.mp (by simpa using hi);rw[hl] at m;simpa using m
 have e1:(p.toList.map λi=>ss.getD i ⟨#[]⟩)=bt' ss:=by
  refine h4_ ?_;rw[d7_,<- es,al'];refine aL' λi hi=>?_;have:=inr i hi;simp[this]
 have rv:=eP_ r g
 have e2:(p.toList.map λi=>(ss.map V.str).getD i .non)=(bt' ss).map V.str:=by
  rw[<- e1,al'];refine aL' λi hi=>?_;have:=inr i hi;simp[this]
 rw[e2] at rv;refine⟨.ref s1.heap.objs.size,_,I1.laid (t':=s1.toks) kp (ae' _) (show a4' X.prog X.w _ h' _ (.lst ((bt' ss).map V.str)) from ⟨?_,bV' p vs,e,rv,hD⟩),rfl,q _ (I1.hok.fresh (ae' _))⟩;rw[aa',(aF_ ss).length_eq];have:=b_1;omega
theorem he_{K:F__}{H:Hp}{ks:List (List Key)}(t:aZ' K H ys ks):∀l:List Nat,(∀i∈l,i<ys.length)->aZ' K H (l.map λi=>ys.getD i .non) (l.map λi=>ks.getD i []):=λl=>by
 induction l with
 |nil=>exact λ_=>.nil
 |cons i l ih=>
  intro h;refine .cons ?_ (ih λj hj=>h j (af' _ hj));have hi:=h i ak'
  have gen:∀{ys:List V} {ks:List (List Key)} (i:Nat),i<ys.length->aZ' K H ys ks->∃a,ys.getD i .non=V.ref a/\H a=some (.tup ((ks.getD i []).map kV)):=λ{ys ks} i hy t=>by
   induction t generalizing i with
   |nil=>exact absurd hy Z2
   |cons h t ih=>
    cases i with
    |zero=>exact h
    |succ i=>exact ih i (by simpa using hy)
  exact gen i hi t
theorem cc_{u:Aa}{ks:List (List Key)}{sh:List Bool}{Q:VK}(h64:ks.length<64)(al:Alike ks sh)
  (hcol:wpAny (model X.prog X.w) X.A.in1 (collect u) (λvs s1=>∃H1 ys,Inv X pins σ H1 s1/\Vals ys vs/\aZ' X.K H1 ys ks/\∀l zs,H1 l=none->aZ' X.K H1 zs (sortKs ks)->zs.Perm ys->Q (.ref l) (upd H1 l (.lst zs))) X.xe s) :
  wpAny (model X.prog X.w) X.A (call (.builtin "sorted") [u]) (EP X pins σ Q) X.xe s:=by
 refine cS_ (ey_ ks) (thn hcol λvs s1 ⟨H1,ys,I1,r,t,q⟩=>?_);have l1:=r.length;have l2:=a_4 t;have hl:vs.length=ks.length:=by omega
 refine⟨by omega,λh2 h' k=>fS_ I1 r t al h2 k,λp h' e g up hD kp=>?_⟩;have g':Good ks.length p:=by rw[<- hl];exact g
 have asc:=g0_ (ks:=ks) (λi j _ _=>rfl) g' (by rw[<- hl];exact up)
 have perm:(p.toList.map λi=>ks.getD i []).Perm ks:=by
  have:=bv_ g' λi=>ks.getD i [];rwa [b9_] at this
 have es:=dZ_ perm asc
 have inr:∀i∈p.toList,i<ys.length:=λi hi=>by
  have m:i∈(List.range vs.length).toArray:=g.mem_iff.mp (by simpa using hi);rw[<- l1] at m;simpa using m
 have tz:=he_ t p.toList inr;rw[es] at tz;have rv:=eP_ r g
 have pz:(p.toList.map λi=>ys.getD i .non).Perm ys:=by
  have:=bv_ (n:=ys.length) (by rw[l1];exact g) λi=>ys.getD i .non;rwa [b9_] at this
 refine⟨.ref s1.heap.objs.size,_,I1.laid (t':=s1.toks) kp (ae' _) (show a4' X.prog X.w _ h' _ (.lst (p.toList.map λi=>ys.getD i .non)) from ⟨?_,bV' p vs,e,rv,hD⟩),rfl,q _ _ (I1.hok.fresh (ae' _)) tz pz⟩;rw[pz.length_eq];have:=b_1;omega
end
inductive rSortDT (K:F__) (xs:List V) (H:Hp) (Q:VK):Prop
 |mk:∀d kvs sh,xs=[.ref d]->H d=some (.dT kvs)->Alike (kvs.map (·.1)) sh->kvs.length<64->(∀l zs,H l=none->aZ' K H zs (sortKs (kvs.map (·.1)))->Q (.ref l) (upd H l (.lst zs)))->rSortDT K xs H Q
variable{X:Cx}
theorem eb_(hc:X.calm=true):bc' X (.builtin "sorted") (rSortDT X.K):=by
 intro pins s σ H xs us Q I r h;obtain⟨d,kvs,sh,rfl,hd,al,h64,q⟩:=h;obtain⟨u,rfl,ru⟩:=vals1 r;cases ru;exact cc_ (by rw[aa'];exact h64) al (ji_ (I.ok.hd hc) I (.inl hd) λys vs s1 I1 r1 t=>⟨H,ys,I1,r1,t,λl zs n t' _=>q l zs n t'⟩)
inductive rSortDS (xs:List V) (H:Hp) (Q:VK):Prop
 |mk:∀d kvs ss,xs=[.ref d]->H d=some (.dK kvs)->kvs.map (·.1)=ss.map Sum.inr->ss.length<64->(∀l,H l=none->Q (.ref l) (upd H l (.lst ((bt' ss).map V.str))))->rSortDS xs H Q
theorem ea_(hc:X.calm=true):bc' X (.builtin "sorted") rSortDS:=by
 intro pins s σ H xs us Q I r h;obtain⟨d,kvs,ss,rfl,hd,ek,h64,q⟩:=h;obtain⟨u,rfl,ru⟩:=vals1 r;cases ru;refine dD_ h64 (i4_ (I.ok.hd hc) I (.inl hd) λvs s1 I1 r1=>⟨H,I1,?_,q⟩)
 have e:(kvs.map λkv=>kV kv.1)=ss.map V.str:=by
  rw[show (kvs.map λkv=>kV kv.1)=(kvs.map (·.1)).map kV by rw[al'];rfl,ek,al'];rfl
 rwa [e] at r1
inductive rSortI (K:F__) (xs:List V) (H:Hp) (Q:VK):Prop
 |mk:∀(v d:Addr) (kvs:List (Key × V)) (ks:List (Key × Key)) (sh:List Bool),xs=[.ref v]->H v=some (a1' v d)->H d=some (.dK kvs)->kvs=ks.map (λk:Key × Key=>(k.1,kV k.2))->Alike (ks.map λk=>[k.1,k.2]) sh->ks.length<64->(∀l H1 zs,Same H H1->H1 l=none->aZ' K H1 zs (sortKs (ks.map λk=>[k.1,k.2]))->Q (.ref l) (upd H1 l (.lst zs)))->rSortI K xs H Q
theorem fe_(hc:X.calm=true):bc' X (.builtin "sorted") (rSortI X.K):=by
 intro pins s σ H xs us Q I r h;obtain⟨v,d,kvs,ks,sh,rfl,hv,hd,ek,al,h64,q⟩:=h;obtain⟨u,rfl,ru⟩:=vals1 r;cases ru;refine cc_ (by rw[aa'];exact h64) al (gP_ (I.ok.hd hc) I hv (.inl hd) λH1 ys vs s1 I1 sm r1 t=>⟨H1,ys,I1,r1,?_,λl zs n t' _=>q l H1 zs sm n t'⟩);subst ek
 have gen:∀(ks:List (Key × Key)) (ys:List V),a5' X.K H1 ys (ks.map (λk:Key × Key=>(k.1,kV k.2)))->aZ' X.K H1 ys (ks.map λk=>[k.1,k.2]):=λks=>by
  induction ks with
  |nil=>
   intro ys t;cases t;exact .nil
  |cons k ks ih=>
   intro ys t;cases t with
   |cons h t=>exact .cons h (ih _ t)
 exact gen ks ys t
inductive rListD (xs:List V) (H:Hp) (Q:VK):Prop
 |mk:∀d kvs,xs=[.ref d]->Rd H d (.dK kvs)->(∀l,H l=none->Q (.ref l) (upd H l (.lst (kvs.map λkv=>kV kv.1))))->rListD xs H Q
theorem bz_(hc:X.calm=true):bc' X (.type "list") rListD:=by
 intro pins s σ H xs us Q I r h;obtain⟨d,kvs,rfl,hd,q⟩:=h;obtain⟨u,rfl,ru⟩:=vals1 r;cases ru;obtain⟨P,OK,S,ok,hp⟩:=i2_ I hd;have z:=(bN_ I.hok hd).1;refine kdl_call S (I.ok.hd hc) ok (by rw[aa'];exact z) λh' tk acc c k hD a=>?_;refine⟨.ref s.heap.objs.size,_,I.laid (t':=tk) k (ae' _) (show a4' X.prog X.w _ h' _ (.lst (kvs.map λkv=>kV kv.1)) from ⟨by rw[aa'];exact z,acc.toList,c,c7_ a hp,by rw[Array.toArray_toList];exact hD⟩),rfl,q _ I.fresh⟩
theorem KV.mergeP{κ:Type}[DecidableEq κ]:∀{more:List (κ × V)} {rs:List (κ × Aa)} {kvs:List (κ × V)} {vs:List (κ × Aa)},KV more rs->KV kvs vs->KV (more.foldl (λacc kv=>putK acc kv.1 kv.2) kvs) (EvD.mergeP vs rs):=λ{more rs kvs vs} h=>by
 induction h generalizing kvs vs with
 |nil=>exact λh=>h
 |@cons p q _ _ h _ ih=>
  intro h2;obtain⟨k,y⟩:=p;obtain⟨k',u⟩:=q;obtain⟨h1,h3⟩:=h;have h1:k=k':=h1;subst h1;exact ih (h2.put k h3)
inductive rDictOf (K:F__) (xs:List V) (H:Hp) (Q:VK):Prop
 |mk:∀p ys kvs,xs=[.ref p]->H p=some (.lst ys)->a5' K H ys kvs->kvs.length<=1000->(∀l,H l=none->Q (.ref l) (upd H l (.dK (ca' [] kvs))))->rDictOf K xs H Q
theorem b3_(hc:X.calm=true):bc' X (.type "dict") (rDictOf X.K):=by
 intro pins s σ H xs us Q I r h;obtain⟨p,ys,kvs,rfl,hp,t,hz,q⟩:=h;obtain⟨u,rfl,ru⟩:=vals1 r;cases ru;obtain⟨z,its,n,rv,hl,ho⟩:=I.lstM hp
 have gen:∀{ys:List V} {its:List Aa} {kvs:List (Key × V)},Vals ys its->a5' X.K H ys kvs->∃ps,KV kvs ps/\c5' (a0' X.prog X.w) s.heap its ps:=λ{ys its kvs} rv t=>by
  induction t generalizing its with
  |nil=>
   cases rv;exact⟨[],.nil,.nil⟩
  |@cons y p ys kvs h t ih=>
   cases rv with
   |cons r0 rv=>
    obtain⟨ps,h1,h2⟩:=ih rv;obtain⟨a,e,sq⟩:=h;subst e;cases r0;obtain⟨tv,rt,it,_⟩:=I.tuple (SqT.of sq);obtain⟨key,x,e2,rk,rx⟩:=vals2 rt;subst e2;refine⟨(p.1,x)::ps,Paired.cons (show p.1=p.1/\RelV p.2 x from ⟨rfl,rx⟩) h1,Paired.cons (show ∃a' key',Value.ref a=.ref a'/\IsTup s.heap a' #[key',x]/\(a0' X.prog X.w).is p.1 key'=true from ⟨a,key,rfl,it,et_ rk⟩) h2⟩
 obtain⟨ps,h1,h2⟩:=gen rv t;have lp:=KV.length h1;refine dw_ (knd:=a0' X.prog X.w) (I.ok.hd hc) ho h2 Z1 λh' tk hd kp=>?_;refine⟨.ref s.heap.objs.size,_,I.laid (t':=tk) kp (ae' _) (eF_ ?_ (beq_eq_false_iff_ne.mpr (Ne.symm (aj' I.big))) (KV.mergeP h1 .nil) hd),rfl,q _ I.fresh⟩;have:=bS_ kvs [];have:=b_1;simp only[List.length_nil] at *;show (ca' [] kvs).length<=sizeLine;omega
theorem eU_:∀{bs:List Bool} {vs:List Aa},Vals (bs.map V.bl) vs->vs=bs.map Value.bool
 |[],_,.nil=>rfl
 |b::bs,_,.cons h t=>by
  cases h;rw[eU_ t];rfl
inductive rAll (K:F__) (g:List Bool->Bool) (xs:List V) (H:Hp) (Q:VK):Prop
 |mk:∀p bs,xs=[.ref p]->SqL K H p (bs.map V.bl)->Q (.bl (g bs)) H->rAll K g xs H Q
theorem hP_(hc:X.calm=true):bc' X (.builtin "all") (rAll X.K λbs=>bs.all id):=by
 intro pins s σ H xs us Q I r h;obtain⟨p,bs,rfl,hp,q⟩:=h;obtain⟨u,rfl,ru⟩:=vals1 r;cases ru;obtain⟨its,rv,pl,z⟩:=I.list hp;obtain rfl:=eU_ rv;have hl:=pl.isList;have lt:p<s.heap.objs.size:=by obtain⟨_,e,_⟩:=hl;exact a_2 e
 refine call_all_walk (wpAny_pyIter_list hl ⟨s.heap.objs.size,[s.heap.objs.size,p],[s.heap.objs.size],(bs.map Value.bool).toArray.size,_,_,λi=>(bs[i]?).getD true,rfl,Walks.list (A:=X.A.in1) (I.ok.hd hc) _ p (aj' lt) _,⟨⟨_,a_3 _ rfl,rfl,rfl⟩,hl.push _⟩,λi v s' Q' E' hP hQ=>?_,λh' tk hk=>?_⟩)
 ·have hP:(bs.map Value.bool).toArray[i]? = some v:=hP;simp only[List.getElem?_toArray,ao'] at hP;cases e:bs[i]? with
  |none=>rw[e] at hP;cases hP
  |some b=>
   have hQ:Q' ((bs[i]?).getD true) s':=hQ;rw[e] at hP hQ;cases hP;exact c_0 hQ
 ·have e:((List.range (bs.map Value.bool).toArray.size).all λi=>(bs[i]?).getD true)=bs.all id:=by
   rw[ag',aa'];exact LSm.range_all bs
  rw[e];exact⟨.bl _,H,I.kept (LSm.kept_iter hk),rfl,q⟩
end L2
namespace EvN
open PySem PySem.SeqAt PyProof.Rows
open AutoSeq1 (wpAny_loadPart')
open MeetsSeq MeetsSeq2 MeetsSeq3 SeqRoads2
theorem jN_(l b:Addr)(xs ys:Array Aa)(n m:Nat)(dl db:Option Addr)(sl sb:Array (Option Aa))(hs:xs.size=ys.size)(e:Nat->Bool)(k:Nat) :
  ∀i:Nat,xs.size - i=k->Meets (Builtin.«list.__eq__.loop» ⟨[.ref l,.ref b,rawInt i,rawInt 3],[]⟩)
   (λA R s=>(s.heap.get? l=some { cls:=.type "list",dict:=dl,data:=.seq xs n,slots:=sl }/\s.heap.get? b=some { cls:=.type "list",dict:=db,data:=.seq ys m,slots:=sb }) /\
    (∀j (h1:j<xs.size) (h2:j<ys.size),EqAt A.in1 s xs[j] ys[j] (e j))/\R (.ok (.ret (.bool (!((List.range xs.size).drop i).all e)))) s):=by
 induction k with
 |zero=>
  intro i hk prog w A R s ⟨⟨gl,gb⟩,he,h⟩;obtain⟨hp,g,d,tk,os⟩:=s
  wp_walk using b_4 gl,b_4 gb
  rw[show xs[((i:Nat):Int).toNat]? = none by simp;omega,show ys[((i:Nat):Int).toNat]? = none by simp;omega];rw[show (List.range xs.size).drop i=[] by simp;omega] at h
  wp_walk using b_4 gl,b_4 gb
  refine (show R (.ok (.ret (.bool (xs.size != ys.size)))) _ from ?_);rw[show (xs.size != ys.size)=false by simp[hs]];exact h
 |succ k ih=>
  intro i hk prog w A R s ⟨⟨gl,gb⟩,he,h⟩;obtain⟨hp,g,d,tk,os⟩:=s
  wp_walk using b_4 gl,b_4 gb
  have z1:i<xs.size:=by omega
  have z2:i<ys.size:=by omega
  have q1:xs[((i:Nat):Int).toNat]? = some xs[i]:=by simp[z1]
  have q2:ys[((i:Nat):Int).toNat]? = some ys[i]:=by simp[z2]
  rw[show (List.range xs.size).drop i=i::(List.range xs.size).drop (i+1) by simp[List.drop_eq_getElem_cons,z1],List.all_cons] at h;rw[q1,q2];refine a__ (he i z1 z2 prog w _ _ ?_);cases c:e i with
  |true=>
   rw[c] at h
   wp_walk
   rw[show ((i:Int)+1)=((i+1:Nat):Int) by omega];refine⟨plainId_quiet plain_eq_loop _,codeAny_builtin entry_eq_loop ?_⟩;rw[Around.under_plainId plain_eq_loop _];exact ih (i+1) Z1 prog w A R _ ⟨⟨gl,gb⟩,he,by simpa using h⟩
  |false=>
   rw[c] at h
   wp_walk using b_4 gl,b_4 gb
   rw[q1,q2]
   wp_walk
   simpa using h
theorem h2_(l b:Addr)(xs ys:Array Aa)(n m:Nat)(dl db:Option Addr)(sl sb:Array (Option Aa))(hs:xs.size=ys.size)(e:Nat->Bool) :
  Meets (Builtin.«list.__ne__» ⟨[.ref l,.ref b],[]⟩)
   (λA R s=>(s.heap.get? l=some { cls:=.type "list",dict:=dl,data:=.seq xs n,slots:=sl }/\s.heap.get? b=some { cls:=.type "list",dict:=db,data:=.seq ys m,slots:=sb }) /\
    (∀j (h1:j<xs.size) (h2:j<ys.size),EqAt A.in1 s xs[j] ys[j] (e j))/\R (.ok (.ret (.bool (!(List.range xs.size).all e)))) s):=by
 intro prog w A R s ⟨⟨gl,gb⟩,he,h⟩;obtain⟨hp,g,d,tk,os⟩:=s;have f3:=AutoSeq1.sub_list_list;have no:¬(xs.size != ys.size)=true:=by simp[hs]
 wp_walk using b_4 gl,b_4 gb
 refine⟨plainId_quiet plain_eq_loop _,codeAny_builtin entry_eq_loop ?_⟩;rw[Around.under_plainId plain_eq_loop _];exact jN_ l b xs ys n m dl db sl sb hs e _ 0 rfl prog w A R _ ⟨⟨gl,gb⟩,he,by simpa using h⟩
theorem gT_(l b:Addr)(xs ys:Array Aa)(n m:Nat)(dl db:Option Addr)(sl sb:Array (Option Aa))(hs:(xs.size != ys.size)=true) :
  Meets (Builtin.«list.__ne__» ⟨[.ref l,.ref b],[]⟩)
   (λA R s=>(s.heap.get? l=some { cls:=.type "list",dict:=dl,data:=.seq xs n,slots:=sl }/\s.heap.get? b=some { cls:=.type "list",dict:=db,data:=.seq ys m,slots:=sb })/\R (.ok (.ret (.bool true))) s):=
 .of_wp λprog w A R s ⟨⟨gl,gb⟩,h⟩=>by
  obtain⟨hp,g,d,tk,os⟩:=s;have f3:=AutoSeq1.sub_list_list
  wp_walk using b_4 gl,b_4 gb
  exact⟨_,rfl,h⟩
variable{b l:Addr}{xs ys:Array Aa}{E Q:Aa->Ab->Prop}{prog:Ad}{w:Af}{A:Ah}{s:Ab}
theorem ne_listAt{e:Nat->Bool}(hl:s.heap.IsList l xs)(hb:s.heap.IsList b ys)(hs:xs.size=ys.size)(hu:A.units<cLine)(he:∀j (h1:j<xs.size) (h2:j<ys.size),EqAt A.in1 s xs[j] ys[j] (e j))(h:Q (.bool (!(List.range xs.size).all e)) s):wpAny (model prog w) A (compareOp .NotEq (.ref l) (.ref b)) Q E s:=by
 obtain⟨⟨c1,d1,t1,l1⟩,o1,k1,n1,z1⟩:=id hl;obtain⟨⟨c2,d2,t2,l2⟩,o2,k2,n2,z2⟩:=id hb;simp only at k1 z1 k2 z2;subst k1 z1 k2 z2;exact richCompare_meets_room (op:=.NotEq) ⟨_,o1,rfl⟩ ⟨_,o2,rfl⟩ F.slot_list_ne F.entry_list_ne (F.args_list_ne_2 _ _) (h2_ l b xs ys n1 n2 d1 d2 l1 l2 hs e) ⟨⟨o1,o2⟩,he,show Value.bool (!(List.range xs.size).all e)≠Value.notImplemented/\Q (.bool (!(List.range xs.size).all e)) s from ⟨(λx=>nomatch x),h⟩⟩ hu
theorem ne_sizesAt(hl:s.heap.IsList l xs)(hb:s.heap.IsList b ys)(hs:(xs.size != ys.size)=true)(hu:A.units<cLine)(h:Q (.bool true) s):wpAny (model prog w) A (compareOp .NotEq (.ref l) (.ref b)) Q E s:=by
 obtain⟨⟨c1,d1,t1,l1⟩,o1,k1,n1,z1⟩:=id hl;obtain⟨⟨c2,d2,t2,l2⟩,o2,k2,n2,z2⟩:=id hb;simp only at k1 z1 k2 z2;subst k1 z1 k2 z2;exact richCompare_meets_room (op:=.NotEq) ⟨_,o1,rfl⟩ ⟨_,o2,rfl⟩ F.slot_list_ne F.entry_list_ne (F.args_list_ne_2 _ _) (gT_ l b xs ys n1 n2 d1 d2 l1 l2 hs) ⟨⟨o1,o2⟩,show Value.bool true≠Value.notImplemented/\Q (.bool true) s from ⟨(λx=>nomatch x),h⟩⟩ hu
end EvN
namespace L2
open PySem PySem.Spec PyProof.Rows PySem.W EvS EvD
abbrev Rp(D:Type):=Hp->V->D->Prop
structure Cmp (X:Cx) (n:Nat) {D:Type} [DecidableEq D] (R:Rp D):Prop where
 eq:∀{pins:List (Addr × Obj)} {σ:St} {H:Hp} {s:Ab} {A:Ah} {x y:V} {u v:Aa} {d e:D},Inv X pins σ H s->RelV x u->RelV y v->R H x d->R H y e->A.units+n<cLine->SeqAt.EqAt A s u v (decide (d=e))
 one:∀{pins:List (Addr × Obj)} {σ:St} {H:Hp} {s:Ab} {x:V} {d e:D},Inv X pins σ H s->R H x d->R H x e->d=e
def rS:Rp Str:=λ_ x d=>x=.str d
def r2(K:F__){D1 D2:Type}(R1:Rp D1)(R2:Rp D2):Rp (D1 × D2):=λH x d=>∃a u v,x=.ref a/\SqT K H a [u,v]/\R1 H u d.1/\R2 H v d.2
def rL(K:F__){D:Type}(R:Rp D):Rp (List D):=λH x ds=>∃a xs,x=.ref a/\SqL K H a xs/\Paired (R H) xs ds
variable{X:Cx}
theorem cmpS:Cmp X 0 rS where
 eq:=λ{pins σ H s A x y u v d e} I ru rv hx hy hu=>by
  have hx:x=.str d:=hx;have hy:y=.str e:=hy;subst hx;subst hy;have q:=fX_ (A:=A) (s:=s) ru rv rfl rfl
  have e2:eqV (.str d) (.str e)=decide (d=e):=by
   show (d == e)=_;by_cases h:d=e
   ·subst h;simp
   ·simp[h]
  rwa [e2] at q
 one:=λ{pins σ H s x d e} I hx hy=>by
  have hx:x=.str d:=hx;have hy:x=.str e:=hy;rw[hx] at hy;exact V.str.inj hy
theorem d9_{h:Heap}{a:Addr}{its:Array Aa}(t:IsTup h a its):h.IsTuple a its:=t
variable{n:Nat}
theorem cmp2{m:Nat}{D1 D2:Type}[DecidableEq D1][DecidableEq D2]{R1:Rp D1}{R2:Rp D2}(c1:Cmp X n R1)(c2:Cmp X m R2):Cmp X (max n m+1) (r2 X.K R1 R2) where
 one:=λ{pins σ H s x d e} I hx hy=>by
  obtain⟨a,u,v,rfl,t,q1,q2⟩:=hx;obtain⟨b,u',v',e0,t',q1',q2'⟩:=hy;cases e0;have e1:=I.tuple_inj t t';cases e1;exact Prod.ext (c1.one I q1 q1') (c2.one I q2 q2')
 eq:=λ{pins σ H s A x y u v d e} I ru rv hx hy hu=>by
  have hx':=hx;have hy':=hy;obtain⟨a,x1,x2,rfl,t,q1,q2⟩:=hx;obtain⟨b,y1,y2,rfl,t',q1',q2'⟩:=hy;cases ru;cases rv;by_cases hab:a=b
  ·subst hab;have e1:=I.tuple_inj t t';cases e1;have:d=e:=Prod.ext (c1.one I q1 q1') (c2.one I q2 q2');rw[a_5 this];exact SeqAt.EqAt.same _
  ·obtain⟨its,r,it,_⟩:=I.tuple t;obtain⟨its',r',it',_⟩:=I.tuple t';obtain⟨u1,u2,rfl,r1,r2⟩:=vals2 r;obtain⟨w1,w2,rfl,r1',r2'⟩:=vals2 r'
   have key:=SeqAt.EqAt.of_refs hab (SeqAt.RcAt.tuples (A:=A) (s:=s) (e:=λj=>if j=0 then decide (d.1=e.1) else decide (d.2=e.2)) (d9_ it) (d9_ it') Z1 λj h1 h2=>by
    match j,h1,h2 with
    |0,_,_=>exact c1.eq I r1 r1' q1 q1' (by show A.units+1+n<cLine;omega)
    |1,_,_=>exact c2.eq I r2 r2' q2 q2' (by show A.units+1+m<cLine;omega))
   have e3:((List.range (min [u1,u2].toArray.size [w1,w2].toArray.size)).all (λj=>if j=0 then decide (d.1=e.1) else decide (d.2=e.2))&&[u1,u2].toArray.size == [w1,w2].toArray.size)=decide (d=e):=by
    show (decide (d.1=e.1)&&(decide (d.2=e.2)&&true)&&true)=_;by_cases h1:d.1=e.1
    ·by_cases h2:d.2=e.2
     ·have:d=e:=Prod.ext h1 h2;simp[this]
     ·have:¬d=e:=λz=>h2 (by rw[z]);simp[h1,h2,this]
    ·have:¬d=e:=λz=>h1 (by rw[z]);simp[h1,this]
   rw[e3] at key;exact key
theorem ak_{α β:Type}{F:α->β->Prop}:∀{l:List α} {m:List β},Paired F l m->∀(i:Nat) (h1:i<l.length) (h2:i<m.length),F l[i] m[i]
 |_,_,.cons h t,0,_,_=>h
 |_,_,.cons h t,i+1,h1,h2=>ak_ t i (by simpa using h1) (by simpa using h2)
theorem ch_{D:Type}[DecidableEq D]:∀{ds es:List D},ds.length=es.length->((List.range ds.length).all λj=>decide (ds[j]? = es[j]?))=decide (ds=es):=λ{ds es} hl=>by
 by_cases h:ds=es
 ·subst h;simp
 ·rw[a_7 h]
  have:∃i,i<ds.length/\ds[i]?≠es[i]?:=by
   refine Classical.byContradiction λhn=>h ?_;apply List.ext_getElem?;intro i;by_cases hi:i<ds.length
   ·exact Classical.byContradiction λq=>hn ⟨i,hi,q⟩
   ·rw[List.getElem?_eq_none Z1,List.getElem?_eq_none Z1]
  obtain⟨i,hi,q⟩:=this;rw[List.all_eq_false];exact⟨i,by simpa using hi,by simpa using q⟩
variable{pins:List (Addr × Obj)}{σ:St}{s:Ab}{A:Ah}
theorem eL_{D:Type}[DecidableEq D]{R:Rp D}(c:Cmp X n R){H:Hp}(I:Inv X pins σ H s){xs ys:List V}{us vs:List Aa}{ds es:List D}(ru:Vals xs us)(rv:Vals ys vs)(hx:Paired (R H) xs ds)(hy:Paired (R H) ys es)(hu:A.units+n<cLine) :
  ∀j (h1:j<us.toArray.size) (h2:j<vs.toArray.size),SeqAt.EqAt A s us.toArray[j] vs.toArray[j] (decide (ds[j]? = es[j]?)):=λj h1 h2=>by
 have l1:=ru.length;have l2:=rv.length;have l3:=a_4 hx;have l4:=a_4 hy;simp only[ag'] at h1 h2;have q:=c.eq (A:=A) I (ak_ ru j Z1 h1) (ak_ rv j Z1 h2) (ak_ hx j Z1 Z1) (ak_ hy j Z1 Z1) hu
 have e:decide (ds[j]? = es[j]?)=decide (ds[j]' Z1=es[j]' Z1):=by
  rw[ab' Z1,ab' Z1];by_cases z:ds[j]' Z1=es[j]' Z1
  ·simp[z]
  ·simp[z]
 rw[e];exact q
def rEqD{D:Type}[DecidableEq D](R:Rp D)(neg:Bool):V->V->Hp->VK->Prop:=λx y H Q=>∃d e,R H x d/\R H y e/\Q (.bl (if neg then !decide (d=e) else decide (d=e))) H
theorem jw_{D:Type}[DecidableEq D]{R:Rp D}(c:Cmp X n R)(hu:X.A.units+n+1<cLine):OpR X (compareOp .Eq) (rEqD (rL X.K R) false):=by
 intro pins s σ H x y v u Q I rx ry h;obtain⟨d,e,⟨a,xs,rfl,t,q⟩,⟨b,ys,rfl,t',q'⟩,hq⟩:=h;cases rx;cases ry;obtain⟨us,r,pl,_⟩:=I.list t;obtain⟨vs,r',pl',_⟩:=I.list t';have l1:=r.length;have l2:=r'.length;have l3:=a_4 q;have l4:=a_4 q';by_cases hl:d.length=e.length
 ·refine SeqAt.eq_listAt pl.isList pl'.isList (by simp only[ag'];omega) Z1 (eL_ c I r r' q q' (A:=X.A.in1) (by show X.A.units+1+n<cLine;omega)) ⟨.bl _,H,I,rfl,?_⟩;rw[show us.toArray.size=d.length by simp only[ag'];omega,ch_ hl];exact hq
 ·refine SeqAt.eq_list_lengthsAt pl.isList pl'.isList (by simp only[ag',bne_iff_ne];omega) Z1 ⟨.bl _,H,I,rfl,?_⟩;have hq:Q (.bl (decide (d=e))) H:=hq;rwa [a_7 (λz=>hl (by rw[z]))] at hq
theorem jy_{D:Type}[DecidableEq D]{R:Rp D}(c:Cmp X n R)(hu:X.A.units+n+1<cLine):OpR X (compareOp .NotEq) (rEqD (rL X.K R) true):=by
 intro pins s σ H x y v u Q I rx ry h;obtain⟨d,e,⟨a,xs,rfl,t,q⟩,⟨b,ys,rfl,t',q'⟩,hq⟩:=h;cases rx;cases ry;obtain⟨us,r,pl,_⟩:=I.list t;obtain⟨vs,r',pl',_⟩:=I.list t';have l1:=r.length;have l2:=r'.length;have l3:=a_4 q;have l4:=a_4 q';have hq:Q (.bl (!decide (d=e))) H:=hq;by_cases hl:d.length=e.length
 ·refine EvN.ne_listAt pl.isList pl'.isList (by simp only[ag'];omega) Z1 (eL_ c I r r' q q' (A:=X.A.in1) (by show X.A.units+1+n<cLine;omega)) ⟨.bl _,H,I,rfl,?_⟩;rw[show us.toArray.size=d.length by simp only[ag'];omega,ch_ hl];exact hq
 ·refine EvN.ne_sizesAt pl.isList pl'.isList (by simp only[ag',bne_iff_ne];omega) Z1 ⟨.bl _,H,I,rfl,?_⟩;rwa [a_7 (λz=>hl (by rw[z]))] at hq
def rInD(K:F__){D:Type}[DecidableEq D](R:Rp D)(neg:Bool):V->V->Hp->VK->Prop:=λx y H Q=>∃d es,R H x d/\rL K R H y es/\Q (.bl (if neg then !decide (d∈es) else decide (d∈es))) H
theorem jd_{D:Type}[DecidableEq D]{R:Rp D}(c:Cmp X n R){H:Hp}(I:Inv X pins σ H s){x:V}{u:Aa}{d:D}(ru:RelV x u)(hx:R H x d)(hu:A.units+n<cLine):∀{ys:List V} {vs:List Aa} {es:List D},Vals ys vs->Paired (R H) ys es->
  ∃f:Aa->Bool,(∀w∈vs,SeqAt.EqAt A s w u (f w))/\vs.any f=decide (d∈es):=λ{ys vs es} rv hy=>by
 let f:Aa->Bool:=λw=>@decide (∃y e,RelV y w/\R H y e/\e=d) (Classical.propDecidable _)
 have sound:∀y w e,RelV y w->R H y e->f w=decide (e=d):=λy w e h1 h2=>by
  by_cases z:e=d
  ·rw[a_5 z];exact @a_5 _ (Classical.propDecidable _) ⟨y,e,h1,h2,z⟩
  ·rw[a_7 z];refine @a_7 _ (Classical.propDecidable _) λ⟨y',e',g1,g2,g3⟩=>z ?_;have:y'=y:=RelV.inj g1 h1;subst this;rw[<- g3];exact c.one I h2 g2
 refine⟨f,?_,?_⟩
 ·induction rv generalizing es with
  |nil=>exact λw hw=>nomatch hw
  |cons h t ih=>
   cases hy with
   |cons g t'=>
    intro w hw;rcases an'.mp hw with rfl|hw
    ·rw[sound _ _ _ h g];exact c.eq I h ru g hx hu
    ·exact ih t' w hw
 ·induction rv generalizing es with
  |nil=>
   cases hy;simp
  |cons h t ih=>
   cases hy with
   |@cons _ e _ es g t'=>
    rw[List.any_cons,ih t',sound _ _ _ h g];by_cases z:e=d
    ·subst z;simp
    ·by_cases z2:d∈es
     ·simp[z2]
     ·have:¬d∈e::es:=λq=>by
       rcases an'.mp q with q|q
       ·exact z q.symm
       ·exact z2 q
      rw[a_7 z,a_7 z2,a_7 this];rfl
theorem hW_{D:Type}[DecidableEq D]{R:Rp D}(c:Cmp X n R)(hu:X.A.units+n+1<cLine):OpR X (compareOp .In) (rInD X.K R false):=by
 intro pins s σ H x y v u Q I rx ry h;obtain⟨d,es,hx,⟨a,ys,rfl,t,q⟩,hq⟩:=h;cases ry;obtain⟨us,r,pl,_⟩:=I.list t;obtain⟨f,h1,h2⟩:=jd_ c I (A:=X.A.in1) rx hx (by show X.A.units+1+n<cLine;omega) r q;refine SeqAt.in_listAt f pl.isList (λw hw=>h1 w (by simpa using hw)) ⟨.bl _,H,I,rfl,?_⟩;rw[show us.toArray.any f=us.any f by simp,h2];exact hq
inductive rIsi (K:F__) (xs:List V) (H:Hp) (Q:VK):Prop
 |mk:∀x T t b,xs=[x,.ty T]->TyOf K H x t->PySem.W.kitOne K t (.type T)=some b->Q (.bl b) H->rIsi K xs H Q
theorem aH_:bc' X (.builtin "isinstance") (rIsi X.K):=by
 intro pins s σ H xs us Q I r h;obtain⟨x,T,t,b,rfl,ty,e,q⟩:=h;obtain⟨u,w',rfl,ru,rw'⟩:=vals2 r;cases (show w'=Value.type T from rw');exact dz_ I ru ty e λtk=>⟨.bl b,H,I.tok tk,rfl,q⟩
inductive cp' (x:V) (y:V) (H:Hp) (Q:VK):Prop
 |mk:∀i j,x=.str i->y=.str j->Q (.bl (!decide (j.cps.toList<i.cps.toList))) H->cp' x y H Q
theorem dC_:OpR X (compareOp .LtE) cp':=by
 intro pins s σ H x y v u Q I rx ry h;obtain⟨i,j,rfl,rfl,q⟩:=h;obtain⟨t,rfl⟩:=rx;obtain⟨t',rfl⟩:=ry;exact PySem.P.le_str ⟨.bl _,H,I,rfl,q⟩
inductive tViewR (mk:Addr->Addr->HO) (Q:VK) (x:V) (H1:Hp):Prop
 |mk:∀d kvs,x=.ref d->H1 d=some (.dK kvs)->(∀v,H1 v=none->Q (.ref v) (upd H1 v (mk v d)))->tViewR mk Q x H1
def tView(mk:Addr->Addr->HO)(td:TE):TE:=λσ H Q=>td σ H λx H1=>tViewR mk Q x H1
variable{H:Hp}{d:Addr}
theorem ep_{cls:String}(I:Inv X pins σ H s)(φ:Heap->Prop)(hφ:φ (s.heap.push { cls:=.type cls,data:=.fields #[.ref d] }))(hs:∀h1 h2:Heap,φ h1->(∀o,h1.get? s.heap.objs.size=some o->h2.get? s.heap.objs.size=some o)->φ h2) :
  Inv X pins σ (upd H s.heap.objs.size (.ext φ)) { s with heap:=s.heap.push { cls:=.type cls,data:=.fields #[.ref d] } }:=
 I.laid (t':=s.toks) (λ_ _ q=>a_0 _ q) (ae' _) ⟨hφ,⟨_,a_3 _ rfl⟩,hs⟩
variable{o:Expr}{td:TE}{apos cpos:Pos}
theorem aT_(ho:PE X o td)(hbase:attributeBase o "items" X.env (eval o X.env)=eval o X.env:=by rfl)(hline:(apos.endLine == cpos.line)=true:=by rfl):PE X (.Call (.Attribute o "items" apos) [] [] cpos) (tView a1' td):=by
 intro pins s σ H Q I h;refine wpAny_Call_method0_late hbase hline (thn (ho pins s σ H _ I h) λv s1 ⟨x,H1,I1,r1,d,kvs,e,hd,q⟩=>?_);subst e;cases r1;obtain⟨t1,t2,t3⟩:=fE_ I1 (.inl ⟨kvs,.inl hd⟩);obtain⟨_,_,vs,rel,dd⟩:=do_ I1.hok hd;refine⟨"dict","dict.items",PySem.F.plainAttrs_dict,PySem.F.slot_dict_items,PySem.F.type_dict_items,t1,t2,Calls.callWith_builtin rfl (PySem.evalArgs_none ?_)⟩;refine call_meetsIn PySem.F.slot_dict_items t1 PySem.F.entry_dict_items (PySem.F.args_dict_items_1 _) (meets_dict_items (a0' X.prog X.w) d t3) ⟨⟨vs,dd⟩,?_⟩;exact⟨.ref _,_,ep_ I1 _ ⟨_,a_3 _ rfl,rfl,rfl⟩ λh1 h2 ⟨o,e,r⟩ k=>⟨o,k o e,r⟩,rfl,q _ I1.fresh⟩
theorem dY_(ho:PE X o td)(hbase:attributeBase o "values" X.env (eval o X.env)=eval o X.env:=by rfl)(hline:(apos.endLine == cpos.line)=true:=by rfl):PE X (.Call (.Attribute o "values" apos) [] [] cpos) (tView bj' td):=by
 intro pins s σ H Q I h;refine wpAny_Call_method0_late hbase hline (thn (ho pins s σ H _ I h) λv s1 ⟨x,H1,I1,r1,d,kvs,e,hd,q⟩=>?_);subst e;cases r1;obtain⟨t1,t2,t3⟩:=fE_ I1 (.inl ⟨kvs,.inl hd⟩);obtain⟨_,_,vs,rel,dd⟩:=do_ I1.hok hd;refine⟨"dict","dict.values",PySem.F.plainAttrs_dict,PySem.F.slot_dict_values,PySem.F.type_dict_values,t1,t2,Calls.callWith_builtin rfl (PySem.evalArgs_none ?_)⟩;refine call_meetsIn PySem.F.slot_dict_values t1 PySem.F.entry_dict_values (PySem.F.args_dict_values_1 _) (meets_dict_values (a0' X.prog X.w) d t3) ⟨⟨vs,dd⟩,?_⟩;exact⟨.ref _,_,ep_ I1 _ ⟨_,a_3 _ rfl,rfl,rfl⟩ λh1 h2 ⟨o,e,r⟩ k=>⟨o,k o e,r⟩,rfl,q _ I1.fresh⟩
variable{kvs:List (Key × V)}
theorem Inv.freeze(I:Inv X pins σ H s)(h:H d=some (.dK kvs)):∃o,s.heap.get? d=some o/\Inv X pins σ (upd H d (.frz o (.dK kvs))) s:=by
 obtain⟨z,hd,vs,rel,dd⟩:=do_ I.hok h;obtain⟨o,es,ep,ho,r⟩:=id dd;have other:∀{b u},H b=some u->u≠.dK kvs->upd H d (.frz o (.dK kvs)) b=some u:=λ{b u} e ne=>by rw[a7_ (aD_ e h ne)];exact e
 refine⟨o,ho,I.un (h':=s.heap) (t':=s.toks) ⟨λb u q _ _ _=>q,λb u q _ _ _=>⟨u.slots,q⟩,λb u q n _=>?_,λb u q _=>⟨u,q⟩,λb xs q=>other q Z2,λb u v q=>other q Z2,λb ps q=>⟨#[],by rw[Array.append_empty];exact other q Z2⟩⟩ λb u q=>?_⟩
 ·by_cases e:b=d
  ·subst e;rw[h] at n;cases n
  ·rw[a7_ e];exact n
 ·by_cases e:b=d
  ·subst e;rw[a1_] at q;cases q;exact⟨ho,z,hd,vs,rel,dd⟩
  ·rw[a7_ e] at q;exact (I.hok b u q).stay (λc v _ z=>z) (λc z=>other z Z2) λc xs z=>other z Z2
variable{o:Obj}
theorem Inv.thaw(I:Inv X pins σ H s)(h:H d=some (.frz o (.dK kvs)))(h0:∀o u,X.H₀ d≠some (.frz o u)):Inv X pins σ (upd H d (.dK kvs)) s:=by
 have other:∀{b u},H b=some u->(∀o v,u≠.frz o v)->upd H d (.dK kvs) b=some u:=λ{b u} e ne=>by rw[a7_ (aD_ e h (ne _ _))];exact e
 have none':∀{b},H b=none->upd H d (.dK kvs) b=none:=λ{b} e=>by
  rw[a7_ (λz=>by subst z;rw[h] at e;cases e)];exact e
 refine⟨I.ok,I.os,I.bare,⟨I.base.keep,I.base.slot,λb u q n hx=>none' (I.base.free b u q n hx),I.base.there,λb xs q=>other (I.base.tups b xs q) Z2,λb u v q=>?_,λb ps q=>?_⟩,I.loc,I.cell,none' I.free,λx c e=>none' (I.freeC x c e),λp hp=>?_,λb u q=>?_,I.len⟩
 ·have:=I.base.frzs b u v q;rw[a7_ (λz=>by subst z;exact h0 _ _ q)];exact this
 ·obtain⟨more,e⟩:=I.base.tbls b ps q;exact⟨more,other e Z2⟩
 ·obtain⟨a1,a2,a3⟩:=I.pin p hp;exact⟨a1,none' a2,a3⟩
 ·by_cases e:b=d
  ·subst e;rw[a1_] at q;cases q;obtain⟨ho,z,hd,vs,rel,dd⟩:=I.hok b _ h;exact⟨z,hd,vs,rel,dd⟩
  ·rw[a7_ e] at q;exact (I.hok b u q).stay (λc v _ z=>z) (λc z=>other z Z2) λc xs z=>other z Z2
theorem bD_{es:Array Ag}{ep:Nat}(I:Inv X pins σ H s)(h:H d=some (.frz o (.dK kvs)))(ho:o.data=.dict es ep):∃vs,KV kvs vs/\s.heap.DictAt (a0' X.prog X.w) d vs ep:=by
 obtain⟨e,z,hd,vs,rel,o',es',ep',e',c',d',r⟩:=I.hok d _ h;rw[e] at e';cases e';rw[ho] at d';cases d';exact⟨vs,rel,o,es,e,c',ho,r⟩
theorem eO_{κ:Type}{kvs:List (κ × V)}{vs:List (κ × Aa)}(r:KV kvs vs):∀(i:Nat) {k:κ} {x:V},kvs[i]? = some (k,x)->∃u,vs[i]? = some (k,u)/\RelV x u:=by
 induction r with
 |nil=>intro i k x e;simp at e
 |@cons p q _ _ h _ ih=>
  intro i k x e;cases i with
  |zero=>
   have e:p=(k,x):=by simpa using e
   subst e;refine⟨q.2,?_,h.2⟩;rw[List.getElem?_cons_zero];have h1:k=q.1:=h.1;rw[h1]
  |succ i=>exact ih i (by simpa using e)
def Its(x:Str):It:=⟨λi _=>i<x.cps.size,λi H v H'=>H'=H/\∃c,x.cps[i]? = some c/\v=.str ⟨#[c]⟩,λi _=>x.cps.size<=i⟩
variable{P:Ad}{w:Af}{K:F__}{tg:Expr}
theorem f8_(it:Addr)(x:Str)(t:Tok):Turn P w K tg (Its x) [it] it (λi h=>i<=x.cps.size/\h.IsStrIter it "str_ascii_iterator" x t i) where
 mem:=by simp
 obj:=λi h st b hb=>by
  obtain rfl:b=it:=by simpa using hb
  obtain⟨o,e,c,d⟩:=st.2;exact⟨o,e,λv z=>by rw[d] at z;cases z⟩
 keep:=λi h h' st k=>⟨st.1,let ⟨o,ho,r⟩:=st.2;⟨o,k it Z2 o ho,r⟩⟩
 item:=by
  intro X hP hw hK hc i pins s σ H E I hf st hg;subst hP hw hK;have hg:i<x.cps.size:=hg;obtain⟨f0,f1,f2,f3,f4,f5⟩:=hf it Z2;refine wpAny_pyNext_ascii_item st.2 (c:=x.cps[i]) (by simp[hg]) λh' st' sb=>?_;have I1:Inv X pins σ H { s with heap:=h',toks:=s.toks+1 }:=I.turned (t':=s.toks+1) (λb o hb e=>(sb.2 b hb).trans e) f0 f1 f3 f4 f5;obtain⟨o',e,c,dd⟩:=id st';exact⟨_,rfl,fw_ (s:={ s with heap:=h',toks:=s.toks+1 }) e c dd (by decide) ⟨.str ⟨#[x.cps[i]]⟩,H,I1,⟨_,rfl⟩,⟨rfl,_,by simp[hg],rfl⟩,⟨hg,st'⟩,λb hb=>(hf b hb).1⟩⟩
 done:=by
  intro X hP hw hK hc i pins s σ H E I hf st hg;subst hP hw hK;have hg:x.cps.size<=i:=hg;obtain⟨f0,f1,f2,f3,f4,f5⟩:=hf it Z2;exact wpAny_pyNext_ascii_end (I.ok.hd hc) st.2 (by simp[hg]) λh' eb=>⟨rfl,I.turned (t':=s.toks) (λb o hb e=>eb b o hb e) f0 f1 f3 f4 f5⟩
 self:=λ_ _ _ _ _ st h=>wpAny_pyIter_striter_ascii st.2 h
theorem gM_(it:Addr)(x:Str)(t:Tok):Turn P w K tg (Its x) [it] it (λi h=>i<=x.cps.size/\h.IsStrIter it "str_iterator" x t i) where
 mem:=by simp
 obj:=λi h st b hb=>by
  obtain rfl:b=it:=by simpa using hb
  obtain⟨o,e,c,d⟩:=st.2;exact⟨o,e,λv z=>by rw[d] at z;cases z⟩
 keep:=λi h h' st k=>⟨st.1,let ⟨o,ho,r⟩:=st.2;⟨o,k it Z2 o ho,r⟩⟩
 item:=by
  intro X hP hw hK hc i pins s σ H E I hf st hg;subst hP hw hK;have hg:i<x.cps.size:=hg;obtain⟨f0,f1,f2,f3,f4,f5⟩:=hf it Z2;refine wpAny_pyNext_wide_item st.2 (c:=x.cps[i]) (by simp[hg]) λh' st' sb=>?_;have I1:Inv X pins σ H { s with heap:=h',toks:=s.toks+1 }:=I.turned (t':=s.toks+1) (λb o hb e=>(sb.2 b hb).trans e) f0 f1 f3 f4 f5;obtain⟨o',e,c,dd⟩:=id st';exact⟨_,rfl,fw_ (s:={ s with heap:=h',toks:=s.toks+1 }) e c dd (by decide) ⟨.str ⟨#[x.cps[i]]⟩,H,I1,⟨_,rfl⟩,⟨rfl,_,by simp[hg],rfl⟩,⟨hg,st'⟩,λb hb=>(hf b hb).1⟩⟩
 done:=by
  intro X hP hw hK hc i pins s σ H E I hf st hg;subst hP hw hK;have hg:x.cps.size<=i:=hg;obtain⟨f0,f1,f2,f3,f4,f5⟩:=hf it Z2;exact wpAny_pyNext_wide_end (I.ok.hd hc) st.2 (by simp[hg]) λh' eb=>⟨rfl,I.turned (t':=s.toks) (λb o hb e=>eb b o hb e) f0 f1 f3 f4 f5⟩
 self:=λ_ _ _ _ _ st h=>wpAny_pyIter_striter_wide st.2 h
inductive iStrR (R:It->Hp->Prop) (v:V) (H1:Hp):Prop
 |mk:∀x,v=.str x->R (Its x) H1->iStrR R v H1
def iStr(tl:TE):TI:=λσ H R=>tl σ H λv H1=>iStrR R v H1
theorem j6_{l:Expr}{tl:TE}(hl:PE X l tl):PI X tg l (iStr tl):=by
 intro pins s σ H R I h;refine thn (hl pins s σ H _ I h) λv s1 ⟨y,H1,I1,r1,x,e,q⟩=>?_;subst e;obtain⟨t,rfl⟩:=r1
 have fp:∀b∈[s1.heap.objs.size],FpOk X pins H1 b:=λb hb=>by
  obtain rfl:b=s1.heap.objs.size:=by simpa using hb
  exact I1.fpOk (ae' _) (I1.hok.fresh (ae' _))
 cases ha:x.cps.all (· < 128)
 ·refine wpAny_pyIter_wide ha ?_;exact⟨s1.heap.objs.size,[s1.heap.objs.size],_,_,H1,rfl,I1.kept (t':=s1.toks) λb o e=>a_0 _ e,gM_ _ x t,⟨aC' _,_,a_3 _ rfl,rfl,rfl⟩,fp,q⟩
 ·refine wpAny_pyIter_ascii ha ?_;exact⟨s1.heap.objs.size,[s1.heap.objs.size],_,_,H1,rfl,I1.kept (t':=s1.toks) λb o e=>a_0 _ e,f8_ _ x t,⟨aC' _,_,a_3 _ rfl,rfl,rfl⟩,fp,q⟩
theorem opK{f:Aa->Aa->Sem Aa}(r:F__->R2)(h:OpR X f (r X.K))(hK:X.K=K:=by rfl):OpR X f (r K):=by
 subst hK;exact h
theorem dq'{f:Aa}(r:F__->List V->Hp->VK->Prop)(h:bc' X f (r X.K))(hK:X.K=K:=by rfl):bc' X f (r K):=by
 subst hK;exact h
theorem ixK(r:F__->R2)(h:IxR X (r X.K))(hK:X.K=K:=by rfl):IxR X (r K):=by
 subst hK;exact h
theorem cr_{N:List Str}{scope:Scope}{fp:List Addr}{es:List Expr}{k:Nat}{pos:Pos}{t:TGs}(h:PGs (a7' X N scope fp s H) es t)(hc:X.calm=true:=by rfl)(hn:(assignEach es (a7' X N scope fp s H).env).length=n:=by rfl)(hst:(assignEach es (a7' X N scope fp s H).env).findIdx? (·.1)=none:=by rfl):PG (a7' X N scope fp s H) (.Tuple es k pos) (gTup X.K n t):=bq_ (X:=a7' X N scope fp s H) hc h hn hst
end L2
namespace Ev
open PySem L2
def top(i:Nat):Stmt:=PySem.Challenge.pw_evenpieces_k13_what_is_no_stand.main.body.getD i (.Pass ⟨0,0,0,0⟩)
abbrev sIsW:Stmt:=top 10
abbrev sWhole:Stmt:=top 11
abbrev sName:Stmt:=top 12
abbrev cY':Stmt:=top 13
abbrev sPair:Stmt:=top 14
abbrev c4':Stmt:=top 15
abbrev sAnew:Stmt:=top 16
abbrev sHand:Stmt:=top 38
abbrev sStr:Stmt:=top 39
abbrev sTies:Stmt:=top 40
abbrev sNear:Stmt:=top 41
abbrev sWeb:Stmt:=top 42
def ltS(a b:Str):Bool:=decide (a.cps.toList<b.cps.toList)
def ord2(a b:Str):Str × Str:=if ltS a b=true then (a,b) else (b,a)
section
variable{P:Ad}{w:Af}{K:F__}{mg:Str->Option Aa}{base:Heap}
theorem f__{N p:List Str}{c:Scope}(h:aX' N p c:=by exact⟨rfl,rfl,rfl,by decide +kernel,rfl,by decide +kernel,by decide +kernel⟩):aX' N p c:=h
theorem scLesser:aX' ["one","other"] ["one","other"] (aW' cY'):=f__
def bY':Sp:=λvs H Q _=>∃a b,vs=[.str a,.str b]/\∀t,H t=none->Q (.ref t) (upd H t (.tup [.str (ord2 a b).1,.str (ord2 a b).2]))
theorem gJ_{f:Addr}{fd:Ae}(F:Fun K "lesser_first" "lesser_first" cY' f fd):FnOk P w K mg base CX0 1 f fd ["one","other"] bY':=by
 refine F.ok scLesser (λvs H Q E h=>?_) (λcdv A outer s H vs Q E hr h=>?_)
 ·obtain⟨a,b,rfl,_⟩:=h;rfl
 ·obtain⟨a,b,rfl,k⟩:=h;refine⟨_,a4_ (aa_ (hg_ (ah_ g9_ (pv 0) (pv 1) (nomark _)) (aP_ (a0_ (pv 0) (a0_ (pv 1) a2_))) (aP_ (a0_ (pv 1) (a0_ (pv 0) a2_))))),?_⟩;refine⟨_,rfl,_,rfl,a,b,rfl,rfl,_,rfl,?_⟩;refine ite2 (λc=>?_) (λc=>?_)
  ·refine⟨_,rfl,_,rfl,by show 2<=sizeLine;decide,λt ht=>?_⟩;have:=k t ht;rwa [show ord2 a b=(a,b) from a_8 c] at this
  ·refine⟨_,rfl,_,rfl,by show 2<=sizeLine;decide,λt ht=>?_⟩;have:=k t ht;rwa [show ord2 a b=(b,a) from a_6 c] at this
theorem scWhole:aX' ["thing","least","most"] ["thing","least","most"] (aW' sWhole):=f__
def cx':Sp:=λvs H Q _=>∃i a b:Int,vs=[.int i,.int a,.int b]/\Q (.bl (decide (a<=i)&&decide (i<=b))) H
structure Bi (mg:Str->Option Aa):Prop where
 isi:mg "isinstance"=none
 int:mg "int"=none
 bool:mg "bool"=none
 str:mg "str"=none
 tuple:mg "tuple"=none
 list:mg "list"=none
 dict:mg "dict"=none
 len:mg "len"=none
 all:mg "all"=none
 sorted:mg "sorted"=none
 max:mg "max"=none
 range:mg "range"=none
 any:mg "any"=none
 enum:mg "enumerate"=none
structure Cal (P:Ad) (w:Af) (K:F__) (mg:Str->Option Aa) (base:Heap) (k:Nat) (x:Str) (ps:List Str) (sp:Sp):Prop where
 ex:∃f fd,FnOk P w K mg base CX0 k f fd ps sp/\mg x=some (.ref f)/\PySem.W.keepIn K (.ref f)=true/\bL' K fd ps []
theorem af_{X:Cx}{k:Nat}{x:Str}{ps:List Str}{sp:Sp}{p pos:Pos}{e:Expr}{es:List Expr}{t:TA}(c:Cal X.prog X.w X.K X.mg X.base k x ps sp)(hr:Room k X.A)(ha:PA X (e::es) t)(hg:Gl X x:=by rfl)(hdb:(x == ("__debug__":Str))=false:=by decide)
  (he:starEach (e::es) X.env=(false,eval e X.env)::starEach es X.env:=by rfl) (hpl:(backTo pos (starEach es X.env)).any (·.1)=false:=by rfl):PE X (.Call (.Name x p) (e::es) [] pos) (tCall sp [] E0 t):=by
 obtain⟨f,fd,F,m,kp,b⟩:=c.ex;exact gi_ F hr hg m kp b .nil pass0 ha hdb he hpl
theorem scIsW:aX' ["thing"] ["thing"] (aW' sIsW):=f__
def spIsW:Sp:=λvs H Q _=>∃i:Int,vs=[.int i]/\Q (.bl true) H
theorem jn_{f:Addr}{fd:Ae}(F:Fun K "is_whole" "is_whole" sIsW f fd)(B:Bi mg):FnOk P w K mg base CX0 1 f fd ["thing"] spIsW:=by
 refine F.ok scIsW (λvs H Q E h=>?_) (λcdv A outer s H vs Q E hr h=>?_)
 ·obtain⟨i,rfl,_⟩:=h;rfl
 ·obtain⟨i,rfl,k⟩:=h;refine⟨_,a4_ (aa_ (bF_ (a8_ aH_ (by rfl) B.isi PyProof.Rows.Boot.«isinstance» (a0_ (pv 0) (a0_ (aI_ (v:=.ty "int") (by rfl) B.int PyProof.Rows.Boot.«int» rfl) a2_))) (bp_ (dT_ (a8_ aH_ (by rfl) B.isi PyProof.Rows.Boot.«isinstance» (a0_ (pv 0) (a0_ (aI_ (v:=.ty "bool") (by rfl) B.bool PyProof.Rows.Boot.«bool» rfl) a2_))))))),?_⟩;exact⟨_,rfl,_,_,_,_,rfl,.int i,rfl,_,rfl,iteT ⟨_,rfl,_,_,_,_,rfl,.int i,rfl,_,rfl,k⟩⟩
theorem hD_{f:Addr}{fd:Ae}(F:Fun K "is_whole_within" "is_whole_within" sWhole f fd)(cI:Cal P w K mg base 1 "is_whole" ["thing"] spIsW):FnOk P w K mg base CX0 2 f fd ["thing","least","most"] cx':=by
 refine F.ok scWhole (λvs H Q E h=>?_) (λcdv A outer s H vs Q E hr h=>?_)
 ·obtain⟨i,a,b,rfl,_⟩:=h;rfl
 ·obtain⟨i,a,b,rfl,k⟩:=h;refine⟨_,a4_ (aa_ (bF_ (af_ cI hr (a0_ (pv 0) a2_)) (bp_ (eQ_ fn_ fn_ (pv 1) (pv 0) (pv 2))))),?_⟩;refine⟨_,rfl,i,rfl,_,rfl,iteT ?_⟩;refine⟨_,rfl,_,rfl,_,_,rfl,rfl,_,rfl,?_⟩;refine ite2 (λc=>?_) (λc=>?_)
  ·refine⟨_,rfl,_,_,rfl,rfl,?_⟩;rw[c] at k;exact k
  ·rw[show decide (a<=i)=false by simpa using c] at k;exact k
def okc(c:Nat):Bool:=decide (97<=c)&&decide (c<=122)
def a8'(x:Str):Bool:=decide (1<=x.length)&&decide (x.length<=8)&&x.cps.toList.all okc
theorem scName:aX' ["thing"] ["thing"] (aW' sName):=f__
def cV':Sp:=λvs H Q _=>∃x:Str,vs=[.str x]/\x.length<=100000/\∀H',Same H H'->Q (.bl (a8' x)) H'
theorem ie_{c:Nat}:(!decide ((⟨#[c]⟩:Str).cps.toList<("a":Str).cps.toList))=decide (97<=c):=by
 have e:("a":Str).cps.toList=[97]:=by decide +kernel
 rw[e];show (!decide ([c] < [97]))=decide (97<=c);by_cases h:97<=c
 ·have:¬[c] < [97]:=by simp[List.cons_lt_cons_iff];omega
  simp[this,h]
 ·have:[c] < [97]:=by simp[List.cons_lt_cons_iff];omega
  simp[this,h]
theorem iN_{c:Nat}:(!decide (("z":Str).cps.toList<(⟨#[c]⟩:Str).cps.toList))=decide (c<=122):=by
 have e:("z":Str).cps.toList=[122]:=by decide +kernel
 rw[e];show (!decide ([122] < [c]))=decide (c<=122);by_cases h:c<=122
 ·have:¬[122] < [c]:=by simp[List.cons_lt_cons_iff];omega
  simp[this,h]
 ·have:[122] < [c]:=by simp[List.cons_lt_cons_iff];omega
  simp[this,h]
theorem iS_{f:Addr}{fd:Ae}(F:Fun K "is_name" "is_name" sName f fd)(B:Bi mg){t8:Tok}(m8:mg "MOST_LETTERS"=some (.int 8 t8)):FnOk P w K mg base CX0 1 f fd ["thing"] cV':=by
 refine F.ok scName (λvs H Q E h=>?_) (λcdv A outer s H vs Q E hr h=>?_)
 ·obtain⟨x,rfl,_⟩:=h;rfl
 ·obtain⟨x,rfl,hz,k⟩:=h;have sz:=b_1
  refine⟨_,a3_ (aj_ (e5_ (ay_ (aB_ (a8_ aH_ (by rfl) B.isi PyProof.Rows.Boot.«isinstance» (a0_ (pv 0) (a0_ (aI_ (v:=.ty "str") (by rfl) B.str PyProof.Rows.Boot.«str» rfl) a2_)))))
    (cp_ (ay_ (eC_ fn_ fn_ a6_ (a8_ dK_ (by rfl) B.len b_7 (a0_ (pv 0) a2_)) (aR_ (v:=.int 8) (by rfl) m8 ⟨t8,rfl⟩))))).pt (a4_ (aa_ dJ_)) ad_)
   (a4_ (aa_ (a8_ (hP_ rfl) (by rfl) B.all PyProof.Rows.Boot.«all» (a0_
    (aZ_ ["letter"] 1 [] (j6_ (pv 0)) (λfp s H=>a9_ (i:=0) (show (["letter"]:List Str).Nodup by decide +kernel) rfl (Or.inl rfl)) (λfp s H=>aX_) (λfp s H=>eQ_ dC_ dC_ ao_ (pv 0) ao_)) a2_)))),?_⟩
  refine⟨_,rfl,_,_,_,_,rfl,.str x,rfl,_,rfl,?_⟩;refine iteF ?_;refine⟨_,rfl,x,rfl,by omega,_,_,rfl,rfl,_,rfl,?_⟩
  have fin:(decide (1<=x.length)&&decide (x.length<=8))=false->∀H',Same H H'->Q (.bl false) H':=λe H' sm=>by
   have:=k H' sm;rwa [show a8' x=false by unfold a8';rw[e];rfl] at this
  refine ite2 (λc=>?_) (λc=>?_)
  ·have c1:1<=x.length:=by
    have:(1:Int)<=(x.length:Int):=by simpa using c
    omega
   refine⟨_,_,rfl,rfl,_,rfl,?_⟩;refine ite2 (λc2=>?_) (λc2=>?_)
   ·-- too long
    have c3:¬x.length<=8:=by
     have:¬((x.length:Int)<=8):=by simpa using c2
     omega
    exact fin (by rw[a_7 c3,Bool.and_false]) H (Same.refl H)
   ·have c3:x.length<=8:=by
     have:(x.length:Int)<=8:=by simpa using c2
     omega
    refine⟨_,rfl,x,rfl,λD hD=>?_⟩;refine da_ (own:=1) (fv:=[]) rfl gok1 x.cps.size (λi out H'=>H'=upd H D (.lst out)/\out=((x.cps.toList.take i).map okc).map V.bl) ⟨rfl,by simp⟩ (λout H' ⟨e1,e2⟩=>?_) (λi out H' hi ⟨e1,e2⟩=>?_)
    ·refine⟨ae' _,D,x.cps.toList.map okc,rfl,.of ?_,?_⟩
     ·rw[e1,a1_,e2,aF' Z2]
     ·have:=k H' (by rw[e1];exact Same.new hD);rwa [show a8' x=(x.cps.toList.map okc).all id by unfold a8';rw[a_5 c1,a_5 c3,List.all_map];rfl] at this
    ·refine⟨hi,λv H2 y=>?_⟩;obtain⟨eH,c,hc,rfl⟩:=y;subst eH;refine⟨_,rfl,rfl,λNx hN=>yesT ?_⟩
     have lo:out.length<sizeLine:=by
      rw[e2];have hs:x.length=x.cps.size:=rfl;simp only[aa',ai',aH'];omega
     have nx:Nx (upd H2 D (.lst (out++[V.bl (okc c)]))):=hN (out++[V.bl (okc c)]) _ ⟨by rw[e1,ic_],by
      rw[e2,au'];simp[hc]⟩
     have atD:H2 D=some (.lst out):=by rw[e1,a1_]
     refine⟨_,rfl,_,_,rfl,rfl,_,rfl,?_⟩;rw[ie_];refine ite2 (λc2=>?_) (λc2=>?_)
     ·refine⟨_,_,rfl,rfl,out,atD,lo,?_⟩;rw[iN_];rwa [show okc c=decide (c<=122) by unfold okc;rw[c2];rfl] at nx
     ·refine⟨out,atD,lo,?_⟩;rwa [show okc c=false by unfold okc;rw[show decide (97<=c)=false by simpa using c2];rfl] at nx
  ·have c1:¬1<=x.length:=by
    have:¬((1:Int)<=(x.length:Int)):=by simpa using c
    omega
   exact⟨_,rfl,iteT (fin (by rw[a_7 c1];rfl) H (Same.refl H))⟩
end
def kT(t:Str × Str):List Key:=[.inr t.1,.inr t.2]
def cW'(t:Str × Str):Prop:=a8' t.1=true/\a8' t.2=true/\t.1≠t.2
theorem c1_{x:Str}(h:a8' x=true):x.length<=8:=by
 unfold a8' at h;simp only[aR',decide_eq_true_eq] at h;exact h.1.2
theorem hpT{H:Hp}{p:Addr}{t:Str × Str}(h:H p=some (.tup ((kT t).map kV))):H p=some (.tup [.str t.1,.str t.2]):=h
section
variable{P:Ad}{w:Af}{K:F__}{mg:Str->Option Aa}{base:Heap}
theorem scPair:aX' ["thing"] ["thing"] (aW' sPair):=f__
def spPair:Sp:=λvs H Q _=>∃(p:Addr) (a b:Str),vs=[.ref p]/\H p=some (.tup [.str a,.str b])/\a.length<=100000/\b.length<=100000/\∀H',Same H H'->Q (.bl (a8' a&&a8' b&&!decide (a=b))) H'
theorem iO_{f:Addr}{fd:Ae}(F:Fun K "is_pair_of_names" "is_pair_of_names" sPair f fd)(B:Bi mg)(cN:Cal P w K mg base 1 "is_name" ["thing"] cV'):FnOk P w K mg base CX0 2 f fd ["thing"] spPair:=by
 refine F.ok scPair (λvs H Q E h=>?_) (λcdv A outer s H vs Q E hr h=>?_)
 ·obtain⟨p,a,b,rfl,_⟩:=h;rfl
 ·obtain⟨p,a,b,rfl,hp,la,lb,k⟩:=h
  refine⟨_,a3_ (aj_ (e5_ (ay_ (aB_ (a8_ aH_ (by rfl) B.isi PyProof.Rows.Boot.«isinstance» (a0_ (pv 0) (a0_ (aI_ (v:=.ty "tuple") (by rfl) B.tuple PyProof.Rows.Boot.«tuple» rfl) a2_)))))
    (cp_ (ah_ cL_ (a8_ ai_ (by rfl) B.len b_7 (a0_ (pv 0) a2_)) a6_ (nomark _)))).pt (a4_ (aa_ dJ_)) ad_)
   (a4_ (aa_ (bF_ (af_ cN hr (a0_ (an_ aC_ (pv 0) a6_ (λ_ _=>rfl)) a2_)) (bF_ (af_ cN hr (a0_ (an_ aC_ (pv 0) a6_ (λ_ _=>rfl)) a2_))
    (bp_ (e6_ cL_ (an_ aC_ (pv 0) a6_ (λ_ _=>rfl)) (an_ aC_ (pv 0) a6_ (λ_ _=>rfl)) (nomark _))))))),?_⟩
  refine⟨_,rfl,_,_,_,_,rfl,.tup hp,rfl,_,rfl,iteF ?_⟩;refine⟨_,rfl,p,_,rfl,.inr (.of hp),rfl,_,rfl,?_⟩;refine iteNS (show V.int ((2:Nat):Int)=V.int 2 from rfl) ?_;refine⟨_,rfl,p,_,_,_,rfl,rfl,.of hp,rfl,a,rfl,la,λH1 s1=>⟨_,rfl,?_⟩⟩;have hp1:=s1 _ _ hp;refine ite2 (λc=>?_) (λc=>?_)
  ·refine⟨_,rfl,p,_,_,_,rfl,rfl,.of hp1,rfl,b,rfl,lb,λH2 s2=>⟨_,rfl,?_⟩⟩;have hp2:=s2 _ _ hp1;have kk:=k H2 (s1.trans s2);refine ite2 (λc2=>?_) (λc2=>?_)
   ·refine⟨_,rfl,p,_,_,_,rfl,rfl,.of hp2,rfl,_,rfl,p,_,_,_,rfl,rfl,.of hp2,rfl,rfl,?_⟩;rw[c,c2] at kk
    have e:decide (V.str a=V.str b)=decide (a=b):=by
     by_cases z:a=b
     ·simp[z]
     ·simp[z]
    show Q (.bl (!decide (V.str a=V.str b))) H2;rw[e];exact kk
   ·rw[c,show a8' b=false by simpa using c2] at kk;exact kk
  ·have kk:=k H1 s1;rw[show a8' a=false by simpa using c] at kk;exact kk
theorem b2':aX' ["ties","found","pair","tie"] ["ties"] (aW' c4'):=f__
def b1'(K:F__):Sp:=λvs H Q _=>∃(l:Addr) (ys:List V) (ts:Xb),vs=[.ref l]/\H l=some (.lst ys)/\aZ' K H ys (ts.map kT)/\(∀t∈ts,cW' t)/\(ts.map λt=>kT (ord2 t.1 t.2)).Nodup/\ts.length<64 /\
 ∀l' zs H',Same H H'->H l'=none->H' l'=some (.lst zs)->aZ' K H' zs (sortKs (ts.map λt=>kT (ord2 t.1 t.2)))->Q (.ref l') H'
theorem aG_{α β γ:Type}{F:α->γ->Prop}{g:β->γ}{ys:List α}{ts:List β}(t:Paired F ys (ts.map g)){i:Nat}{y:α}(h:ys[i]? = some y):∃x,ts[i]? = some x/\F y (g x):=by
 have hi:i<ys.length:=(ac'.mp h).1;have hl:=a_4 t;rw[aa'] at hl;have:=ak_ t i hi (by rw[aa'];omega);rw[List.getElem_map] at this;refine⟨ts[i],ab' Z1,?_⟩;rw[(ac'.mp h).2] at this;exact this
theorem aA_{κ:Type}[DecidableEq κ]{kvs:List (κ × V)}{k:κ}(h:k∉kvs.map (·.1)):valV kvs k=none:=by
 cases e:valV kvs k with
 |none=>rfl
 |some v=>exact absurd (iW_ e) h
theorem b0_{α β:Type}(g:α->β){ts:List α}{i:Nat}{x:α}(h:ts[i]? = some x):(ts.take (i+1)).map g=(ts.take i).map g++[g x]:=by
 rw[au',h,ap'];rfl
theorem bc_{α β:Type}{g:α->β}{ts:List α}{i:Nat}{x:α}(h:(ts.map g).Nodup)(hx:ts[i]? = some x):g x∉(ts.take i).map g:=by
 intro m;have hi:i<ts.length:=(ac'.mp hx).1;obtain⟨y,hy,e⟩:=ah'.mp m;obtain⟨j,hj,e2⟩:=az' hy;rw[ai'] at hj;rw[List.getElem_take] at e2;rw[aI',List.pairwise_map,List.pairwise_iff_getElem] at h;refine h j i Z1 hi Z1 ?_;rw[e2,e,(ac'.mp hx).2]
theorem gp_{f:Addr}{fd:Ae}(F:Fun K "sorted_ties" "sorted_ties" c4' f fd)(B:Bi mg)(cP:Cal P w K mg base 2 "is_pair_of_names" ["thing"] spPair)(cL:Cal P w K mg base 1 "lesser_first" ["one","other"] bY'):FnOk P w K mg base CX0 3 f fd ["ties"] (b1' K):=by
 refine F.ok b2' (λvs H Q E h=>?_) (λcdv A outer s H vs Q E hr h=>?_)
 ·obtain⟨l,ys,ts,rfl,_⟩:=h;rfl
 ·obtain⟨l,ys,ts,rfl,hl,tu,good,nd,h64,k⟩:=h;have hu:=b2_ hr;have hr1:Room 1 _:=hr.mono (by decide);have sz:=b_1
  refine⟨_,a3_ (aj_ (ay_ (aB_ (a8_ aH_ (by rfl) B.isi PyProof.Rows.Boot.«isinstance» (a0_ (pv 0) (a0_ (aI_ (v:=.ty "list") (by rfl) B.list PyProof.Rows.Boot.«list» rfl) a2_))))) ac_ ad_)
   (a3_ (ab_ (i:=1) b2'.nd rfl (Or.inl rfl) hh_)
   (a3_ (aM_ b_2 rfl (au_ (pv 0)) (a9_ (i:=2) b2'.nd rfl (Or.inl rfl))
    (a3_ (aj_ (ay_ (aB_ (af_ cP hr (a0_ (pv 2) a2_)))) ac_ ad_)
    (a3_ (ab_ (i:=3) b2'.nd rfl (Or.inl rfl) (af_ cL hr1 (a0_ (an_ aC_ (pv 2) a6_ (λ_ _=>rfl)) (a0_ (an_ aC_ (pv 2) a6_ (λ_ _=>rfl)) a2_))))
    (a3_ (aj_ (cg_ (cZ_ hu (pv 3) (pv 1))) ac_ ad_)
    (a4_ (b7_ hu (pv 1) (pv 3) dJ_ rfl))))))
   (a4_ (aa_ (a8_ (eb_ rfl) (by rfl) B.sorted PyProof.Rows.Boot.«sorted» (a0_ (pv 1) a2_)))))),?_⟩
  refine⟨_,rfl,_,_,_,_,rfl,.lst hl,rfl,_,rfl,iteF ?_⟩;intro d hd;have s0:Same H (upd H d (.dT [])):=Same.new hd;refine⟨_,rfl,l,rfl,⟨_,.of (s0 _ _ hl)⟩,aQ_ (K:=K) (a:=l) (xs:=ys) (λi σ H2=>∃(v3 v4:Option V),σ=[some (.ref l),some (.ref d),v3,v4]/\Same H H2/\H2 d=some (.dT ((ts.take i).map λt=>(kT (ord2 t.1 t.2),V.bl true)))) ⟨none,none,rfl,s0,a1_⟩ (λi σ H2 _ ⟨_,_,_,s2,_⟩=>.of (s2 _ _ hl)) ?_ ?_⟩
  ·rintro i y σ H2 hy ⟨v3,v4,rfl,s2,hd2⟩;obtain⟨t,ht,a,rfl,ha⟩:=aG_ tu hy;obtain⟨g1,g2,g3⟩:=good t (ad' ht);have ha2:=s2 _ _ (hpT ha);refine⟨_,rfl,a,t.1,t.2,rfl,ha2,by have:=c1_ g1;omega,by have:=c1_ g2;omega,λH3 s3=>⟨_,rfl,?_⟩⟩;have ha3:=s3 _ _ ha2;have hd3:=s3 _ _ hd2;rw[g1,g2,a_7 g3];refine iteF ?_;refine⟨_,rfl,a,_,_,_,rfl,rfl,.of ha3,rfl,_,rfl,a,_,_,_,rfl,rfl,.of ha3,rfl,t.1,t.2,rfl,λb hb=>?_⟩;have s4:Same H3 (upd H3 b (.tup [.str (ord2 t.1 t.2).1,.str (ord2 t.1 t.2).2])):=Same.new hb;have hd4:=s4 _ _ hd3;have hb4:upd H3 b (.tup [.str (ord2 t.1 t.2).1,.str (ord2 t.1 t.2).2]) b=some (.tup ((kT (ord2 t.1 t.2)).map kV)):=a1_
   have nov:valV ((ts.take i).map λt=>(kT (ord2 t.1 t.2),V.bl true)) (kT (ord2 t.1 t.2))=none:=aA_ (by
    rw[al'];exact bc_ (g:=λt=>kT (ord2 t.1 t.2)) nd ht)
   refine⟨_,rfl,_,rfl,d,_,rfl,.t (k:=kT (ord2 t.1 t.2)) hd4 hb4,_,rfl,?_⟩;rw[nov];refine iteF ?_;refine⟨_,rfl,_,rfl,d,_,rfl,.t (k:=kT (ord2 t.1 t.2)) hd4 hb4 (by rw[aa',ai'];omega),?_⟩;refine⟨_,_,rfl,λc o e=>?_,?_⟩
   ·rw[a7_ (a5_ e hd)];exact s4 _ _ (s3 _ _ (s2 _ _ e))
   ·rw[a1_,bB_ _ nov,b0_ _ ht]
  ·rintro σ H2 ⟨v3,v4,rfl,s2,hd2⟩;have le:=a_4 tu;rw[aa'] at le;rw[le,ar'] at hd2;refine⟨_,rfl,d,_,[true,true],rfl,hd2,⟨by decide,λk hk=>?_⟩,by rw[aa'];exact h64,λl' zs hn tz=>?_⟩
   ·rw[al'] at hk;obtain⟨t,_,rfl⟩:=ah'.mp hk;rfl
   ·rw[al'] at tz;exact k l' zs _ (s2.trans (Same.new hn)) (s2.free hn) a1_ (tz.same (Same.new hn))
theorem scAnew:aX' ["ties"] ["ties"] (aW' sAnew):=f__
def spAnew(K:F__):Sp:=λvs H Q _=>∃(l:Addr) (ys:List V) (ts:Xb),vs=[.ref l]/\H l=some (.lst ys)/\aZ' K H ys (ts.map kT)/\ts.length<=1000 /\
 ∀l' zs H',Same H H'->H l'=none->H' l'=some (.lst zs)->aZ' K H' zs (ts.map kT)->Q (.ref l') H'
theorem bx_{K:F__}{H:Hp}{ys:List V}{ks:List (List Key)}{a:Addr}{k:List Key}(t:aZ' K H ys ks)(h:H a=some (.tup (k.map kV))):aZ' K H (ys++[.ref a]) (ks++[k]):=Paired.snoc t ⟨a,rfl,h⟩
theorem az_{H H1:Hp}{D:Addr}{o:HO}(h:Same H H1)(hD:H D=none):Same H (upd H1 D o):=λb u e=>by rw[a7_ (a5_ e hD)];exact h b u e
theorem bl_{K:F__}{H:Hp}{ys:List V}{ks:List (List Key)}{D:Addr}{o:HO}{xs:List V}(t:aZ' K H ys ks)(hD:H D=some (.lst xs)):aZ' K (upd H D o) ys ks:=Paired.mapP t λy k ⟨a,z,q⟩=>⟨a,z,by rw[a7_ (aD_ q hD nofun)];exact q⟩
theorem ip_{f:Addr}{fd:Ae}(F:Fun K "ties_anew" "ties_anew" sAnew f fd):FnOk P w K mg base CX0 1 f fd ["ties"] (spAnew K):=by
 refine F.ok scAnew (λvs H Q E h=>?_) (λcdv A outer s H vs Q E hr h=>?_)
 ·obtain⟨l,ys,ts,rfl,_⟩:=h;rfl
 ·obtain⟨l,ys,ts,rfl,hl,tu,hz,k⟩:=h;have sz:=b_1
  refine⟨_,a4_ (aa_ (aZ_ ["one","other"] 2 [] (au_ (pv 0)) (λfp s H=>cr_ (n:=2) (ae_ (a9_ (i:=0) (show (["one","other"]:List Str).Nodup by decide +kernel) rfl (Or.inl rfl)) (ae_ (a9_ (i:=1) (show (["one","other"]:List Str).Nodup by decide +kernel) rfl (Or.inl rfl)) aN_)))
   (λfp s H=>aX_) (λfp s H=>aP_ (a0_ (pv 0) (a0_ (pv 1) a2_))))),?_⟩
  refine⟨_,rfl,l,rfl,⟨_,.of hl⟩,λD hD=>?_⟩;have le:=a_4 tu;rw[aa'] at le;refine aJ_ (own:=2) (fv:=[]) (xs:=ys) rfl gok2 (λi out H'=>Same H H'/\H' D=some (.lst out)/\aZ' K H' out ((ts.take i).map kT)) ⟨Same.new hD,a1_,.nil⟩ (λi out H' _ ⟨sm,_,_⟩=>.of (sm _ _ hl)) (λout H' ⟨sm,hd,tz⟩=>?_) (λi x out H' hx ⟨sm,hd,tz⟩=>?_)
  ·rw[le,ar'] at tz;exact k D out H' sm hD hd tz
  ·obtain⟨t,ht,a,rfl,ha⟩:=aG_ tu hx;refine⟨_,⟨a,_,_,rfl,.of (sm _ _ (hpT ha)),rfl⟩,rfl,λNx hN=>yesT ?_⟩;refine⟨_,rfl,_,rfl,by show 2<=sizeLine;decide,λp hp=>⟨out,(Same.new hp) _ _ hd,?_,?_⟩⟩
   ·have:=a_4 tz;rw[aa',ai'] at this;omega
   ·have hp2:upd H' p (.tup [.str t.1,.str t.2]) p=some (.tup ((kT t).map kV)):=a1_;refine hN (out++[.ref p]) _ ⟨az_ (sm.trans (Same.new hp)) hD,a1_,?_⟩;rw[b0_ _ ht];exact bl_ (bx_ (tz.same (Same.new hp)) hp2) ((Same.new hp) _ _ hd)
end
def kH(h:Str × Int):List Key:=[.inr h.1,.inl h.2]
def goodH(h:Str × Int):Prop:=a8' h.1=true/\1<=h.2/\h.2<=1000
def kvOf:List Key->Key × V
 |[k,v]=>(k,kV v)
 |_=>(.inl 0,.non)
def sortH(hs:Xa):List (Key × V):=(sortKs (hs.map kH)).map kvOf
theorem hpH{H:Hp}{p:Addr}{t:Str × Int}(h:H p=some (.tup ((kH t).map kV))):H p=some (.tup [.str t.1,.int t.2]):=h
theorem d8_:∀(more kvs:List (Key × V)),(kvs.map (·.1)++more.map (·.1)).Nodup->ca' kvs more=kvs++more
 |[],kvs,_=>by
  show kvs=kvs++[];rw[List.append_nil]
 |p::more,kvs,h=>by
  show ca' (putK kvs p.1 p.2) more=kvs++p::more
  have hn:valV kvs p.1=none:=aA_ λm=>by
   rw[ax',List.nodup_append] at h;exact h.2.2 p.1 m p.1 ak' rfl
  rw[bB_ _ hn,d8_ more (kvs++[(p.1,p.2)])]
  ·simp
  ·simpa using h
theorem ba_{more:List (Key × V)}(h:(more.map (·.1)).Nodup):ca' [] more=more:=by
 rw[d8_ more [] (by simpa using h)];rfl
theorem cY_(hs:Xa):((sortH hs).map (·.1)).Perm (hs.map λh=>Sum.inr h.1):=by
 unfold sortH;rw[al'];have p:=(aq_ (hs.map kH)).map λk=>(kvOf k).1;rw[al'] at p;exact p
theorem cs_{hs:Xa}(h:(hs.map (·.1)).Nodup):((sortH hs).map (·.1)).Nodup:=by
 refine (cY_ hs).nodup_iff.mpr ?_;have:(hs.map λh=>(Sum.inr h.1:Key))=(hs.map (·.1)).map Sum.inr:=by rw[al'];rfl
 rw[this,aI',List.pairwise_map];exact h.imp λn e=>n (c_1 e)
variable{k:Nat}
theorem roomU{A:Ah}(hr:Room k A)(n:Nat)(h:n+1<=64:=by decide):A.units+n+1<cLine:=by
 have:=hr.units;omega
section
variable{P:Ad}{w:Af}{K:F__}{mg:Str->Option Aa}{base:Heap}
theorem scHand:aX' ["thing"] ["thing"] (aW' sHand):=f__
def spHand:Sp:=λvs H Q _=>∃(p:Addr) (a:Str) (n:Int),vs=[.ref p]/\H p=some (.tup [.str a,.int n])/\a.length<=100000/\∀H',Same H H'->Q (.bl (a8' a&&(decide (1<=n)&&decide (n<=1000)))) H'
theorem ii_{f:Addr}{fd:Ae}(F:Fun K "is_hand_with_strength" "is_hand_with_strength" sHand f fd)(B:Bi mg)(cN:Cal P w K mg base 1 "is_name" ["thing"] cV')(cW:Cal P w K mg base 2 "is_whole_within" ["thing","least","most"] cx'){tk:Tok}(mS:mg "MOST_STRENGTH"=some (.int 1000 tk)) :
  FnOk P w K mg base CX0 3 f fd ["thing"] spHand:=by
 refine F.ok scHand (λvs H Q E h=>?_) (λcdv A outer s H vs Q E hr h=>?_)
 ·obtain⟨p,a,b,rfl,_⟩:=h;rfl
 ·obtain⟨p,a,n,rfl,hp,la,k⟩:=h;have hr1:Room 1 _:=hr.mono (by decide)
  refine⟨_,a3_ (aj_ (e5_ (ay_ (aB_ (a8_ aH_ (by rfl) B.isi PyProof.Rows.Boot.«isinstance» (a0_ (pv 0) (a0_ (aI_ (v:=.ty "tuple") (by rfl) B.tuple PyProof.Rows.Boot.«tuple» rfl) a2_)))))
    (cp_ (ah_ cL_ (a8_ ai_ (by rfl) B.len b_7 (a0_ (pv 0) a2_)) a6_ (nomark _)))).pt (a4_ (aa_ dJ_)) ad_)
   (a4_ (aa_ (bF_ (af_ cN hr1 (a0_ (an_ aC_ (pv 0) a6_ (λ_ _=>rfl)) a2_)) (bp_ (af_ cW hr (a0_ (an_ aC_ (pv 0) a6_ (λ_ _=>rfl)) (a0_ a6_ (a0_ (aR_ (v:=.int 1000) (by rfl) mS ⟨tk,rfl⟩) a2_)))))))),?_⟩
  refine⟨_,rfl,_,_,_,_,rfl,.tup hp,rfl,_,rfl,iteF ?_⟩;refine⟨_,rfl,p,_,rfl,.inr (.of hp),rfl,_,rfl,?_⟩;refine iteNS (show V.int ((2:Nat):Int)=V.int 2 from rfl) ?_;refine⟨_,rfl,p,_,_,_,rfl,rfl,.of hp,rfl,a,rfl,la,λH1 s1=>⟨_,rfl,?_⟩⟩;have hp1:=s1 _ _ hp;have kk:=k H1 s1;refine ite2 (λc=>?_) (λc=>?_)
  ·refine⟨_,rfl,p,_,_,_,rfl,rfl,.of hp1,rfl,n,1,1000,rfl,?_⟩;rw[c] at kk;exact kk
  ·rw[show a8' a=false by simpa using c] at kk;exact kk
theorem scStr:aX' ["hands","found","hand"] ["hands"] (aW' sStr):=f__
def spStr(K:F__):Sp:=λvs H Q _=>∃(l:Addr) (ys:List V) (hs:Xa),vs=[.ref l]/\H l=some (.lst ys)/\aZ' K H ys (hs.map kH)/\(∀h∈hs,goodH h)/\(hs.map (·.1)).Nodup/\1<=hs.length/\hs.length<=8 /\
 ∀d H',Same H H'->H d=none->H' d=some (.dK (sortH hs))->Q (.ref d) H'
theorem jj_{f:Addr}{fd:Ae}(F:Fun K "checked_strengths" "checked_strengths" sStr f fd)(B:Bi mg)(cH:Cal P w K mg base 3 "is_hand_with_strength" ["thing"] spHand){tk:Tok}(mH:mg "MOST_HANDS"=some (.int 8 tk)):FnOk P w K mg base CX0 4 f fd ["hands"] (spStr K):=by
 refine F.ok scStr (λvs H Q E h=>?_) (λcdv A outer s H vs Q E hr h=>?_)
 ·obtain⟨l,ys,hs,rfl,_⟩:=h;rfl
 ·obtain⟨l,ys,hs,rfl,hl,tu,good,nd,h1,h8,k⟩:=h;have hu:=b2_ hr;have sz:=b_1;have le:=a_4 tu;rw[aa'] at le
  refine⟨_,a3_ (aj_ (e5_ (ay_ (aB_ (a8_ aH_ (by rfl) B.isi PyProof.Rows.Boot.«isinstance» (a0_ (pv 0) (a0_ (aI_ (v:=.ty "list") (by rfl) B.list PyProof.Rows.Boot.«list» rfl) a2_)))))
    (cp_ (ay_ (eC_ fn_ fn_ a6_ (a8_ ai_ (by rfl) B.len b_7 (a0_ (pv 0) a2_)) (aR_ (v:=.int 8) (by rfl) mH ⟨tk,rfl⟩))))).pt ac_ ad_)
   (a3_ (ab_ (i:=1) scStr.nd rfl (Or.inl rfl) be_)
   (a3_ (aM_ b_2 rfl (au_ (pv 0)) (a9_ (i:=2) scStr.nd rfl (Or.inl rfl))
    (a3_ (aj_ (ay_ (aB_ (af_ cH hr (a0_ (pv 2) a2_)))) ac_ ad_)
    (a3_ (aj_ (cg_ (cZ_ hu (an_ aC_ (pv 2) a6_ (λ_ _=>rfl)) (pv 1))) ac_ ad_)
    (a4_ (b7_ hu (pv 1) (an_ aC_ (pv 2) a6_ (λ_ _=>rfl)) (an_ aC_ (pv 2) a6_ (λ_ _=>rfl)) rfl)))))
   (a4_ (aa_ (am_ (b3_ rfl) (by rfl) B.dict PyProof.Rows.Boot.«dict» (a0_ (a8_ (fe_ rfl) (by rfl) B.sorted PyProof.Rows.Boot.«sorted» (a0_ (aT_ (pv 1)) a2_)) a2_)))))),?_⟩
  refine⟨_,rfl,_,_,_,_,rfl,.lst hl,rfl,_,rfl,iteF ?_⟩;refine⟨_,rfl,l,_,rfl,.inl (.of hl),_,_,rfl,rfl,_,rfl,?_⟩;rw[a_5 (show (1:Int)<=(ys.length:Int) by omega)];refine iteT ⟨_,_,rfl,rfl,_,rfl,?_⟩;rw[a_5 (show (ys.length:Int)<=8 by omega)];refine iteF ?_;intro d hd;have s0:Same H (upd H d (.dK [])):=Same.new hd;refine⟨_,rfl,l,rfl,⟨_,.of (s0 _ _ hl)⟩,aQ_ (K:=K) (a:=l) (xs:=ys) (λi σ H2=>∃(v2:Option V),σ=[some (.ref l),some (.ref d),v2]/\Same H H2/\H2 d=some (.dK ((hs.take i).map λh=>(Sum.inr h.1,V.int h.2)))) ⟨none,rfl,s0,a1_⟩ (λi σ H2 _ ⟨_,_,s2,_⟩=>.of (s2 _ _ hl)) ?_ ?_⟩
  ·rintro i y σ H2 hy ⟨v2,rfl,s2,hd2⟩;obtain⟨t,ht,a,rfl,ha⟩:=aG_ tu hy;obtain⟨g1,g2,g3⟩:=good t (ad' ht);have ha2:=s2 _ _ (hpH ha);refine⟨_,rfl,a,t.1,t.2,rfl,ha2,by have:=c1_ g1;omega,λH3 s3=>⟨_,rfl,?_⟩⟩;have ha3:=s3 _ _ ha2;have hd3:=s3 _ _ hd2;rw[g1,a_5 g2,a_5 g3];refine iteF ?_
   have nov:valV ((hs.take i).map λh=>((Sum.inr h.1:Key),V.int h.2)) (Sum.inr t.1)=none:=aA_ (by
    rw[al'];have q:=bc_ (g:=λh:Str × Int=>h.1) nd ht;intro m;obtain⟨h,hh,e⟩:=ah'.mp m;exact q (ah'.mpr ⟨h,hh,c_1 e⟩))
   refine⟨_,rfl,a,_,_,_,rfl,rfl,.of ha3,rfl,_,rfl,d,_,rfl,.k (k:=Sum.inr t.1) hd3,_,rfl,?_⟩;rw[nov];refine iteF ?_;refine⟨_,rfl,a,_,_,_,rfl,rfl,.of ha3,rfl,_,rfl,_,rfl,a,_,_,_,rfl,rfl,.of ha3,rfl,d,_,rfl,.k (k:=Sum.inr t.1) hd3 (by rw[aa',ai'];omega),?_⟩;refine⟨_,rfl,λc o e=>?_,?_⟩
   ·rw[a7_ (a5_ e hd)];exact s3 _ _ (s2 _ _ e)
   ·rw[a1_,bB_ _ nov,b0_ _ ht]
  ·rintro σ H2 ⟨v2,rfl,s2,hd2⟩;rw[le,ar'] at hd2;refine⟨_,rfl,d,_,rfl,hd2,λv hv=>?_⟩;have s3:Same H2 (upd H2 v (a1' v d)):=Same.new hv;refine⟨v,d,_,hs.map λh=>(Sum.inr h.1,Sum.inl h.2),[true,false],rfl,a1_,s3 _ _ hd2,by rw[al'];rfl,⟨by decide,λq hq=>?_⟩,by rw[aa'];omega,λl' H4 zs s4 hn tz=>?_⟩
   ·rw[al'] at hq;obtain⟨h,_,rfl⟩:=ah'.mp hq;rfl
   ·have ez:((hs.map λh=>((Sum.inr h.1:Key),(Sum.inl h.2:Key))).map λk=>[k.1,k.2])=hs.map kH:=by rw[al'];rfl
    rw[ez] at tz
    have pz:a5' K (upd H4 l' (.lst zs)) zs (sortH hs):=by
     have shape:∀k∈sortKs (hs.map kH),∃a b,k=[a,b]:=λk hk=>by
      obtain⟨h,_,e⟩:=ah'.mp ((aq_ _).mem_iff.mp hk);exact⟨_,_,e.symm⟩
     have gen:∀(ks:List (List Key)) (zs:List V),(∀k∈ks,∃a b,k=[a,b])->aZ' K (upd H4 l' (.lst zs)) zs ks->a5' K (upd H4 l' (.lst zs)) zs (ks.map kvOf):=λks=>by
      intro zs;generalize upd H4 l' (.lst zs)=HH;intro sh t
      induction t with
      |nil=>exact .nil
      |cons h t ih=>
       obtain⟨a,b,rfl⟩:=sh _ ak';exact .cons h (ih λk hk=>sh k (af' _ hk))
     exact gen _ _ shape (tz.same (Same.new hn))
    refine⟨l',zs,_,rfl,a1_,pz,?_,λd' hd'=>?_⟩
    ·have:=(cY_ hs).length_eq;simp only[aa'] at this;omega
    ·rw[ba_ (cs_ nd)];have sAll:Same H (upd H4 l' (.lst zs)):=(s2.trans (s3.trans s4)).trans (Same.new hn);exact k d' _ (sAll.trans (Same.new hd')) (sAll.free hd') a1_
theorem df':aX' ["ties","strengths","found","one","other"] ["ties","strengths"] (aW' sTies):=f__
inductive da' (K:F__) (vs:List V) (H:Hp) (Q:VK) (E:XK):Prop
 |mk:∀(l d:Addr) (ys:List V) (ts:Xb) (kvs:List (Key × V)),vs=[.ref l,.ref d]->H l=some (.lst ys)->aZ' K H ys (ts.map kT)->(∀t∈ts,cW' t)->(ts.map λt=>kT (ord2 t.1 t.2)).Nodup->ts.length<64->H d=some (.dK kvs)->(∀t∈ts,(valV kvs (Sum.inr t.1)).isSome=true/\(valV kvs (Sum.inr t.2)).isSome=true)->(∀l' zs H',Same H H'->H l'=none->H' l'=some (.lst zs)->aZ' K H' zs (sortKs (ts.map λt=>kT (ord2 t.1 t.2)))->Q (.ref l') H')->da' K vs H Q E
theorem cF_(a b:Str):ord2 a b=(a,b)∨ord2 a b=(b,a):=by
 unfold ord2;split
 ·exact .inl rfl
 ·exact .inr rfl
theorem iG_{f:Addr}{fd:Ae}(F:Fun K "checked_ties" "checked_ties" sTies f fd)(B:Bi mg)(cS:Cal P w K mg base 3 "sorted_ties" ["ties"] (b1' K)):FnOk P w K mg base CX0 4 f fd ["ties","strengths"] (da' K):=by
 refine F.ok df' (λvs H Q E h=>?_) (λcdv A outer s H vs Q E hr h=>?_)
 ·obtain⟨l,d,ys,ts,kvs,rfl,_⟩:=h;rfl
 ·obtain⟨l,d,ys,ts,kvs,rfl,hl,tu,good,nd,h64,hd,there,k⟩:=h;have hu:=b2_ hr
  refine⟨_,a3_ (ab_ (i:=2) df'.nd rfl (Or.inl rfl) (af_ cS hr (a0_ (pv 0) a2_)))
   (a3_ (aj_ (cg_ (gO_ (pv 2))) ac_ ad_)
   (a3_ (aM_ b_2 rfl (au_ (pv 2)) (bq_ rfl (ae_ (a9_ (i:=3) df'.nd rfl (Or.inl rfl)) (ae_ (a9_ (i:=4) df'.nd rfl (Or.inl rfl)) aN_)))
    (a4_ (aj_ (e5_ (cg_ (dN_ hu (pv 3) (pv 1))) (cp_ (cg_ (dN_ hu (pv 4) (pv 1))))).pt ac_ ad_)))
   (a4_ (aa_ (pv 2))))),?_⟩
  refine⟨_,rfl,l,ys,ts,rfl,hl,tu,good,nd,h64,λl' zs H1 s1 hf hl1 tz=>?_⟩;refine⟨_,rfl,_,rfl,iteF ?_⟩;refine⟨_,rfl,l',rfl,⟨_,.of hl1⟩,aQ_ (K:=K) (a:=l') (xs:=zs) (λi σ H2=>∃(v3 v4:Option V),σ=[some (.ref l),some (.ref d),some (.ref l'),v3,v4]/\H2=H1) ⟨none,none,rfl,rfl⟩ (λi σ H2 _ ⟨_,_,_,e⟩=>by subst e;exact .of hl1) ?_ ?_⟩
  ·rintro i y σ H2 hy ⟨v3,v4,rfl,rfl⟩;have ez:=a_4 tz;have hi:i<zs.length:=(ac'.mp hy).1;obtain⟨a,e,ha⟩:=ak_ tz i hi Z1;rw[(ac'.mp hy).2] at e;subst e;obtain⟨t,ht,e⟩:=ah'.mp ((aq_ _).mem_iff.mp (aS' (show i<(sortKs (ts.map λt=>kT (ord2 t.1 t.2))).length by omega)));rw[<- e] at ha;obtain⟨t1,t2⟩:=there t ht
   have both:(valV kvs (Sum.inr (ord2 t.1 t.2).1)).isSome=true/\(valV kvs (Sum.inr (ord2 t.1 t.2).2)).isSome=true:=by
    rcases cF_ t.1 t.2 with q|q
    ·rw[q];exact⟨t1,t2⟩
    ·rw[q];exact⟨t2,t1⟩
   have hd1:=s1 _ _ hd;refine⟨a,_,rfl,.of (hpT ha),rfl,_,_,rfl,_,_,rfl,rfl,?_⟩;refine⟨_,rfl,_,rfl,d,_,rfl,.k (k:=Sum.inr (ord2 t.1 t.2).1) hd1,_,rfl,?_⟩;rw[both.1];refine iteF ?_;refine⟨_,rfl,_,rfl,d,_,rfl,.k (k:=Sum.inr (ord2 t.1 t.2).2) hd1,_,rfl,?_⟩;rw[both.2];refine iteF ?_;exact⟨_,_,rfl,rfl⟩
  ·rintro σ H2 ⟨v3,v4,rfl,rfl⟩;exact⟨_,rfl,k l' zs _ s1 hf hl1 tz⟩
def near(ns:List Str)(ts:Xb)(n:Str):List Str:=ns.filter λo=>decide (ord2 n o∈ts)
theorem scNear:aX' ["names","ties","found","hand"] ["names","ties"] (aW' sNear):=f__
def bs'(ns:List Str)(as:List Addr):List (Key × V):=(ns.zip as).map λp=>(Sum.inr p.1,V.ref p.2)
inductive di' (K:F__) (vs:List V) (H:Hp) (Q:VK) (E:XK):Prop
 |mk:∀(l1 l2:Addr) (ns:List Str) (zs:List V) (ts:Xb),vs=[.ref l1,.ref l2]->H l1=some (.lst (ns.map V.str))->H l2=some (.lst zs)->aZ' K H zs (ts.map kT)->ns.Nodup->ns.length<=1000->l1≠l2->(∀d as H',Same H H'->H d=none->as.length=ns.length->H' d=some (.dK (bs' ns as))->(∀(i:Nat) n a,ns[i]? = some n->as[i]? = some a->H a=none/\H' a=some (.lst ((near ns ts n).map V.str)))->Q (.ref d) H')->di' K vs H Q E
theorem gz_{K:F__}{H:Hp}:∀{ts:Xb} {zs:List V},aZ' K H zs (ts.map kT)->Paired (r2 K rS rS H) zs ts
 |[],_,.nil=>.nil
 |t::ts,_,.cons ⟨a,e,h⟩ r=>.cons ⟨a,_,_,e,.of (hpT h),rfl,rfl⟩ (gz_ r)
theorem ax_{ns:List Str}{i:Nat}{x:V}(h:(ns.map V.str)[i]? = some x):∃n,ns[i]? = some n/\x=.str n:=by
 rw[ao'] at h;cases e:ns[i]? with
 |none=>rw[e] at h;cases h
 |some n=>rw[e] at h;exact⟨n,rfl,(a_9 h).symm⟩
theorem cI_{α:Type}(p:α->Bool){l:List α}{i:Nat}{x:α}(h:l[i]? = some x):(l.take (i+1)).filter p=(l.take i).filter p++(if p x then [x] else []):=PySem.take_succ_filter p l i x h
theorem ij_{f:Addr}{fd:Ae}(F:Fun K "neighbours_of_all" "neighbours_of_all" sNear f fd)(cL:Cal P w K mg base 1 "lesser_first" ["one","other"] bY'):FnOk P w K mg base CX0 2 f fd ["names","ties"] (di' K):=by
 refine F.ok scNear (λvs H Q E h=>?_) (λcdv A outer s H vs Q E hr h=>?_)
 ·obtain⟨l1,l2,ns,zs,ts,rfl,_⟩:=h;rfl
 ·obtain⟨l1,l2,ns,zs,ts,rfl,hl1,hl2,tz,nd,h8,hne,k⟩:=h;have hu:=b2_ hr;have hu3:=hr.units;have sz:=b_1
  refine⟨_,a3_ (ab_ (i:=2) scNear.nd rfl (Or.inl rfl) be_)
   (a3_ (aM_ b_2 rfl (au_ (pv 0)) (a9_ (i:=3) scNear.nd rfl (Or.inr rfl))
    (a4_ (b7_ hu (pv 2) (pv 3) (aZ_ ["other","hand","ties"] 1 [3,1] (au_ (pv 0)) (λfp s H=>a9_ (i:=0) (show (["other","hand","ties"]:List Str).Nodup by decide +kernel) rfl (Or.inl rfl))
     (λfp s H=>ef_ (ah_ (opK (K:=K) (λK=>rInD K (r2 K rS rS) false) (hW_ (cmp2 cmpS cmpS) (roomU hr _))) (af_ cL hr (a0_ (pv 1) (a0_ (pv 0) a2_))) (pv 2) (by with_unfolding_all rfl))) (λfp s H=>pv 0)) rfl)))
   (a4_ (aa_ (pv 2)))),?_⟩
  intro d hd;have s0:Same H (upd H d (.dK [])):=Same.new hd
  refine⟨_,rfl,l1,rfl,⟨_,.of (s0 _ _ hl1)⟩,aQ_ (K:=K) (a:=l1) (xs:=ns.map V.str) (λi σ H2=>∃(v3:Option V) (as:List Addr),σ=[some (.ref l1),some (.ref l2),some (.ref d),v3]/\Same H H2/\as.length=i/\H2 d=some (.dK (bs' (ns.take i) as)) /\
   ∀(j:Nat) n a,ns[j]? = some n->as[j]? = some a->H a=none/\a≠d/\H2 a=some (.lst ((near ns ts n).map V.str))) ⟨none,[],rfl,s0,rfl,a1_,λj n a _ e=>by simp at e⟩ (λi σ H2 _ ⟨_,_,_,s2,_⟩=>.of (s2 _ _ hl1)) ?_ ?_⟩
  ·rintro i y σ H2 hy ⟨v3,as,rfl,s2,la,hd2,lists⟩;obtain⟨n,hn,rfl⟩:=ax_ hy;have hi:i<ns.length:=(ac'.mp hn).1
   have lk:(bs' (ns.take i) as).length=i:=by
    unfold bs';rw[aa',List.length_zip,ai'];omega
   refine⟨_,rfl,l1,rfl,⟨_,.of (s2 _ _ hl1)⟩,λD hD=>?_⟩;refine aJ_ (own:=1) (fv:=[some (.str n),some (.ref l2)]) (xs:=ns.map V.str) rfl gok1 (λj out H'=>Same H2 H'/\H' D=some (.lst out)/\out=((ns.take j).filter λo=>decide (ord2 n o∈ts)).map V.str) ⟨Same.new hD,a1_,rfl⟩ (λj out H' _ ⟨sm,_,_⟩=>.of (sm _ _ (s2 _ _ hl1))) (λout H' ⟨sm,hD',eo⟩=>?_) (λj x out H' hx ⟨sm,hD',eo⟩=>?_)
   ·rw[aa',ar'] at eo
    have nov:valV (bs' (ns.take i) as) (Sum.inr n)=none:=aA_ λm=>by
     unfold bs' at m;rw[al'] at m;obtain⟨p,hp,e⟩:=ah'.mp m;have e:p.1=n:=c_1 e;have q:=bc_ (g:=id) (by rw[List.map_id];exact nd) hn;rw[List.map_id] at q;exact q (e▸(List.of_mem_zip hp).1)
    have neD:D≠d:=λz=>by subst z;rw[hD] at hd2;cases hd2
    refine⟨_,rfl,_,rfl,d,_,rfl,.k (k:=Sum.inr n) (sm _ _ hd2) Z1,?_⟩;refine⟨_,as++[D],rfl,λc o e=>?_,by rw[av',la];rfl,?_,λj n' a hn' ha=>?_⟩
    ·rw[a7_ (a5_ e hd)];exact sm _ _ (s2 _ _ e)
    ·rw[a1_,bB_ _ nov];congr 2;unfold bs';rw[au',hn,List.zip_append (by rw[ai'];omega),ap'];rfl
    ·by_cases hj:j<as.length
     ·rw[List.getElem?_append_left hj] at ha;obtain⟨q1,q2,q3⟩:=lists j n' a hn' ha;refine⟨q1,q2,?_⟩;rw[a7_ q2];exact sm _ _ q3
     ·have hj2:j=i:=by
       have:=(ac'.mp ha).1;rw[av'] at this;simp only[List.length_singleton] at this;omega
      subst hj2;rw[List.getElem?_append_right Z1,la,Nat.sub_self] at ha;have ha:D=a:=by simpa using ha
      subst ha;rw[hn] at hn';cases hn';refine⟨s2.free hD,neD,?_⟩;rw[a7_ neD,hD',eo];rfl
   ·obtain⟨o,ho,rfl⟩:=ax_ hx;refine⟨_,rfl,rfl,λNx hN=>?_⟩;refine⟨_,rfl,_,rfl,n,o,rfl,λt ht=>?_⟩;have s3:Same H' (upd H' t (.tup [.str (ord2 n o).1,.str (ord2 n o).2])):=Same.new ht;have tz':=((tz.same s2).same sm).same s3
    have lo:out.length<sizeLine:=by
     rw[eo,aa'];have:=List.length_filter_le (λo=>decide (ord2 n o∈ts)) (ns.take j);rw[ai'] at this;omega
    refine⟨_,rfl,ord2 n o,ts,⟨t,_,_,rfl,.of a1_,rfl,rfl⟩,⟨l2,zs,rfl,.of (s3 _ _ (sm _ _ (s2 _ _ hl2))),gz_ tz'⟩,_,rfl,?_⟩;refine ite2 (λc=>?_) (λc=>?_)
    ·refine⟨_,rfl,out,s3 _ _ hD',lo,hN _ _ ⟨az_ (sm.trans s3) hD,a1_,?_⟩⟩;have c:decide (ord2 n o∈ts)=true:=by simpa using c
     rw[cI_ _ ho,a_8 c,ap',eo];rfl
    ·refine hN _ _ ⟨sm.trans s3,s3 _ _ hD',?_⟩;have c:¬decide (ord2 n o∈ts)=true:=by simpa using c
     rw[cI_ _ ho,a_6 c,List.append_nil,eo]
  ·rintro σ H2 ⟨v3,as,rfl,s2,la,hd2,lists⟩;rw[aa'] at la hd2;rw[ar'] at hd2;exact⟨_,rfl,k d as _ s2 hd la hd2 λj n a h1 h2=>⟨(lists j n a h1 h2).1,(lists j n a h1 h2).2.2⟩⟩
end
abbrev sInit:Stmt:=bn' sWeb 0
abbrev sHas:Stmt:=bn' sWeb 1
abbrev sHands:Stmt:=bn' sWeb 2
abbrev b8':Stmt:=bn' sWeb 3
abbrev sTied:Stmt:=bn' sWeb 5
abbrev sTiesM:Stmt:=bn' sWeb 6
def fstK:List Key->Str
 |.inr a::_=>a
 |_=>⟨#[]⟩
def twoK:List Key->Str × Str
 |[.inr a,.inr b]=>(a,b)
 |_=>(⟨#[]⟩,⟨#[]⟩)
def aY'(hs:Xa):List Str:=(sortKs (hs.map kH)).map fstK
def tsOf(ts:Xb):Xb:=(sortKs (ts.map λt=>kT (ord2 t.1 t.2))).map twoK
theorem cA_(ts:Xb):(tsOf ts).map kT=sortKs (ts.map λt=>kT (ord2 t.1 t.2)):=by
 unfold tsOf;rw[al']
 have all:∀k∈sortKs (ts.map λt=>kT (ord2 t.1 t.2)),∃t:Str × Str,k=kT t:=λk hk=>by
  obtain⟨t,_,e⟩:=ah'.mp ((aq_ _).mem_iff.mp hk);exact⟨_,e.symm⟩
 generalize sortKs (ts.map λt=>kT (ord2 t.1 t.2))=l at all
 induction l with
 |nil=>rfl
 |cons k l ih=>
  obtain⟨t,rfl⟩:=all k ak';rw[ax',ih λk hk=>all k (af' _ hk)];rfl
theorem d2_(hs:Xa):∀k∈sortKs (hs.map kH),∃h:Str × Int,h∈hs/\k=kH h:=λk hk=>by
 obtain⟨t,ht,e⟩:=ah'.mp ((aq_ _).mem_iff.mp hk);exact⟨t,ht,e.symm⟩
theorem eA_(hs:Xa):((sortH hs).map λkv=>kV kv.1)=(aY' hs).map V.str:=by
 unfold sortH aY';rw[al',al'];refine aL' λk hk=>?_;obtain⟨h,_,rfl⟩:=d2_ hs k hk;rfl
theorem eN_(hs:Xa):(sortH hs).map (·.1)=(aY' hs).map Sum.inr:=by
 unfold sortH aY';rw[al',al'];refine aL' λk hk=>?_;obtain⟨h,_,rfl⟩:=d2_ hs k hk;rfl
theorem aL_(hs:Xa):(aY' hs).Perm (hs.map (·.1)):=by
 unfold aY';have p:=(aq_ (hs.map kH)).map fstK;rw[al'] at p;exact p
theorem dG_{κ:Type}[DecidableEq κ]{kvs:List (κ × V)}{k:κ}(h:k∈kvs.map (·.1)):(valV kvs k).isSome=true:=by
 rw[<- bR_];obtain⟨p,hp,e⟩:=ah'.mp h;exact List.any_eq_true.mpr ⟨p,hp,a_5 e⟩
theorem dj_{hs:Xa}{n:Str}:(valV (sortH hs) (Sum.inr n)).isSome=decide (n∈hs.map (·.1)):=by
 by_cases h:n∈hs.map (·.1)
 ·rw[a_5 h];refine dG_ ?_;rw[eN_];exact ah'.mpr ⟨n,(aL_ hs).mem_iff.mpr h,rfl⟩
 ·rw[a_7 h,aA_]
  ·rfl
  ·rw[eN_];intro m;obtain⟨x,hx,e⟩:=ah'.mp m;cases e;exact h ((aL_ hs).mem_iff.mp hx)
theorem n12:¬(("strength_by_hand":Str)="sorted_pairs"):=by decide +kernel
theorem n13:¬(("strength_by_hand":Str)="neighbours_by_hand"):=by decide +kernel
theorem n23:¬(("sorted_pairs":Str)="neighbours_by_hand"):=by decide +kernel
def flds(d1 l2 d3:Addr):List (Str × V):=putF "neighbours_by_hand" (.ref d3) (putF "sorted_pairs" (.ref l2) (putF "strength_by_hand" (.ref d1) []))
theorem eH_(d1 l2 d3:Addr):(flds d1 l2 d3).lookup ("strength_by_hand":Str)=some (.ref d1):=by
 unfold flds;rw[ag_,a_6 n13,ag_,a_6 n12,ag_,a_8 rfl]
theorem jh_(d1 l2 d3:Addr):(flds d1 l2 d3).lookup ("sorted_pairs":Str)=some (.ref l2):=by
 unfold flds;rw[ag_,a_6 n23,ag_,a_8 rfl]
theorem ju_(d1 l2 d3:Addr):(flds d1 l2 d3).lookup ("neighbours_by_hand":Str)=some (.ref d3):=by
 unfold flds;rw[ag_,a_8 rfl]
variable{m:Str}
theorem aS_(d1 l2 d3:Addr)(h1:¬m="strength_by_hand")(h2:¬m="sorted_pairs")(h3:¬m="neighbours_by_hand"):(flds d1 l2 d3).lookup m=none:=by
 unfold flds;rw[ag_,a_6 h3,ag_,a_6 h2,ag_,a_6 h1]
 all_goals rfl
structure bl' (K:F__) (C:Addr) (H:Hp) (p:Addr) (hs:Xa) (ts:Xb) (fp:List Addr):Prop where
 ex:∃(dx d1 l2 d3:Addr) (zs:List V) (as:List Addr),fp=p::d1::l2::d3::as/\H p=some (.ins C dx (flds d1 l2 d3))/\H d1=some (.dK (sortH hs))/\H l2=some (.lst zs)/\aZ' K H zs ((tsOf ts).map kT)/\H d3=some (.dK (bs' (aY' hs) as))/\as.length=(aY' hs).length /\
  ∀(i:Nat) n a,(aY' hs)[i]? = some n->as[i]? = some a->H a=some (.lst ((near (aY' hs) (tsOf ts) n).map V.str))
variable{H':Hp}
theorem bl'.keep{K:F__}{C:Addr}{H:Hp}{p:Addr}{hs:Xa}{ts:Xb}{fp:List Addr}(W:bl' K C H p hs ts fp)(k:∀b∈fp,∀o,H b=some o->H' b=some o)(kt:∀b xs,H b=some (.tup xs)->H' b=some (.tup xs)):bl' K C H' p hs ts fp:=by
 obtain⟨dx,d1,l2,d3,zs,as,rfl,h1,h2,h3,h4,h5,h6,h7⟩:=W.ex;refine⟨dx,d1,l2,d3,zs,as,rfl,k _ Z2 _ h1,k _ Z2 _ h2,k _ Z2 _ h3,Paired.mapP h4 λy q ⟨a,e,z⟩=>⟨a,e,kt _ _ z⟩,k _ Z2 _ h5,h6,λi n a e1 e2=>k _ ?_ _ (h7 i n a e1 e2)⟩;have:=ad' e2;simp[this]
theorem bl'.same{K:F__}{C:Addr}{H:Hp}{p:Addr}{hs:Xa}{ts:Xb}{fp:List Addr}(W:bl' K C H p hs ts fp)(s:Same H H'):bl' K C H' p hs ts fp:=W.keep (λb _ o e=>s b o e) λb xs e=>s b _ e
structure Good (hs:Xa) (ts:Xb):Prop where
 hok:∀h∈hs,goodH h
 hnd:(hs.map (·.1)).Nodup
 h1:1<=hs.length
 h8:hs.length<=8
 tok:∀t∈ts,cW' t
 tnd:(ts.map λt=>kT (ord2 t.1 t.2)).Nodup
 t64:ts.length<64
 tin:∀t∈ts,t.1∈hs.map (·.1)/\t.2∈hs.map (·.1)
theorem Good.nnd{hs:Xa}{ts:Xb}(G:Good hs ts):(aY' hs).Nodup:=(aL_ hs).nodup_iff.mpr G.hnd
theorem Good.nlen{hs:Xa}{ts:Xb}(G:Good hs ts):(aY' hs).length=hs.length:=by
 rw[(aL_ hs).length_eq,aa']
theorem dn_(ts:Xb):(tsOf ts).length=ts.length:=by
 unfold tsOf;rw[aa',(aq_ _).length_eq,aa']
structure Txt (K:F__) (mg:Str->Option Aa) (C:Addr):Prop where
 cl:Cls K C
 nS:br' K C "strength_by_hand"
 nP:br' K C "sorted_pairs"
 nN:br' K C "neighbours_by_hand"
section
variable{P:Ad}{w:Af}{K:F__}{mg:Str->Option Aa}{base:Heap}
theorem scInit:aX' ["self","hands","ties","strengths","checked"] ["self","hands","ties"] (aW' sInit):=f__
inductive c8' (K:F__) (C:Addr) (vs:List V) (H:Hp) (Q:VK) (E:XK):Prop
 |mk:∀(p dx lh lt:Addr) (ys zs:List V) (hs:Xa) (ts:Xb),vs=[.ref p,.ref lh,.ref lt]->H p=some (.ins C dx [])->H lh=some (.lst ys)->aZ' K H ys (hs.map kH)->H lt=some (.lst zs)->aZ' K H zs (ts.map kT)->Good hs ts->(∀fp H',(∀b o,H b=some o->b≠p->H' b=some o)->bl' K C H' p hs ts fp->(∀b∈fp,b=p∨H b=none)->Q .non H')->c8' K C vs H Q E
theorem iq_{f C:Addr}{fd:Ae}(F:Fun K "__init__" "Web.__init__" sInit f fd)(T:Txt K mg C)(B:Bi mg)(cS:Cal P w K mg base 4 "checked_strengths" ["hands"] (spStr K))(cT:Cal P w K mg base 4 "checked_ties" ["ties","strengths"] (da' K))(cN:Cal P w K mg base 2 "neighbours_of_all" ["names","ties"] (di' K)) :
  FnOk P w K mg base CX0 5 f fd ["self","hands","ties"] (c8' K C):=by
 refine F.ok scInit (λvs H Q E h=>?_) (λcdv A outer s H vs Q E hr h=>?_)
 ·obtain⟨p,dx,lh,lt,ys,zs,hs,ts,rfl,_⟩:=h;rfl
 ·obtain⟨p,dx,lh,lt,ys,zs,hs,ts,rfl,hp,hlh,th,hlt,tt,G,k⟩:=h;have hr3:Room 3 _:=hr.mono (by decide);have hr2:Room 2 _:=hr.mono (by decide)
  refine⟨_,a3_ (ab_ (i:=3) scInit.nd rfl (Or.inl rfl) (af_ cS hr (a0_ (pv 1) a2_)))
   (a3_ (ab_ (i:=4) scInit.nd rfl (Or.inl rfl) (af_ cT hr (a0_ (pv 2) (a0_ (pv 3) a2_))))
   (a3_ (cV_ (pv 0) (pv 3) rfl) (a3_ (cV_ (pv 0) (pv 4) rfl)
   (a4_ (cV_ (pv 0) (af_ cN hr2 (a0_ (am_ (bz_ rfl) (by rfl) B.list PyProof.Rows.Boot.«list» (a0_ (pv 3) a2_)) (a0_ (pv 4) a2_))) rfl))))),?_⟩
  refine⟨_,rfl,lh,ys,hs,rfl,hlh,th,G.hok,G.hnd,G.h1,G.h8,λd1 H1 s1 f1 hd1=>?_⟩;refine⟨_,rfl,_,rfl,lt,d1,zs,ts,_,rfl,s1 _ _ hlt,tt.same s1,G.tok,G.tnd,G.t64,hd1,λt ht=>?_,λl2 zs2 H2 s2 f2 hl2 tz=>?_⟩
  ·rw[dj_,dj_];exact⟨a_5 (G.tin t ht).1,a_5 (G.tin t ht).2⟩
  have hd12:=s2 _ _ hd1;have hp2:=s2 _ _ (s1 _ _ hp);have p1:p≠d1:=aD_ hp2 hd12 nofun;have p2:p≠l2:=aD_ hp2 hl2 nofun;refine⟨_,rfl,_,rfl,p,C,dx,[],rfl,hp2,T.cl,T.nS,by show 0<1000;decide,?_⟩;refine⟨_,rfl,_,rfl,p,C,dx,_,rfl,a1_,T.cl,T.nP,by show 1<1000;decide,?_⟩
  let H3:Hp:=upd (upd H2 p (.ins C dx (putF "strength_by_hand" (.ref d1) []))) p (.ins C dx (putF "sorted_pairs" (.ref l2) (putF "strength_by_hand" (.ref d1) [])))
  have h3:∀{b o},H2 b=some o->b≠p->H3 b=some o:=λe ne=>by
   show upd (upd H2 p _) p _ _=_;rw[a7_ ne,a7_ ne];exact e
  have h3p:H3 p=some (.ins C dx (putF "sorted_pairs" (.ref l2) (putF "strength_by_hand" (.ref d1) []))):=a1_
  have none3:∀{b},H3 b=none->H2 b=none:=λ{b} e=>by
   by_cases z:b=p
   ·subst z;rw[h3p] at e;cases e
   ·have e:upd (upd H2 p _) p _ b=none:=e;rw[a7_ z,a7_ z] at e;exact e
  have tz3:aZ' K H3 zs2 ((tsOf ts).map kT):=by
   rw[cA_];exact Paired.mapP tz λy q ⟨a,e,z⟩=>⟨a,e,h3 z (aD_ z hp2 nofun)⟩
  refine⟨_,rfl,d1,_,rfl,.inl (h3 hd12 p1.symm),λl1 hl1=>?_⟩;rw[eA_];have s4:Same H3 (upd H3 l1 (.lst ((aY' hs).map V.str))):=Same.new hl1;have ne12:l1≠l2:=(a5_ (H:=H3) (h3 hl2 p2.symm) hl1).symm;refine⟨_,rfl,l1,l2,aY' hs,zs2,tsOf ts,rfl,a1_,s4 _ _ (h3 hl2 p2.symm),tz3.same s4,G.nnd,by rw[G.nlen];have:=G.h8;omega,ne12,λd3 as H5 s5 f5 la hd3 lists=>?_⟩;have hp5:=s5 _ _ (s4 _ _ h3p);refine⟨_,rfl,p,C,dx,_,rfl,hp5,T.cl,T.nN,by show 2<1000;decide,?_⟩
  have up:∀{b o},H2 b=some o->b≠p->upd H5 p (.ins C dx (flds d1 l2 d3)) b=some o:=λe ne=>by
   rw[a7_ ne];exact s5 _ _ (s4 _ _ (h3 e ne))
  have fr5:∀{b},upd H3 l1 (.lst ((aY' hs).map V.str)) b=none->H b=none:=λe=>s1.free (s2.free (none3 (s4.free e)));have hd3p:d3≠p:=(a5_ (s4 _ _ h3p) f5).symm;refine k (p::d1::l2::d3::as) _ (λb o e ne=>up (s2 _ _ (s1 _ _ e)) ne) ⟨dx,d1,l2,d3,zs2,as,rfl,a1_,up hd12 p1.symm,up hl2 p2.symm,?_,?_,la,λi n a e1 e2=>?_⟩ λb hb=>?_
  ·exact Paired.mapP (tz3.same (s4.trans s5)) λy q ⟨a,e,z⟩=>⟨a,e,by rw[a7_ (aD_ z hp5 nofun)];exact z⟩
  ·rw[a7_ hd3p];exact hd3
  ·obtain⟨q1,q2⟩:=lists i n a e1 e2;rw[a7_ (aD_ q2 hp5 nofun)];exact q2
  ·simp only[an'] at hb;rcases hb with rfl|rfl|rfl|rfl|hb
   ·exact .inl rfl
   ·exact .inr f1
   ·exact .inr (s1.free f2)
   ·exact .inr (fr5 f5)
   ·obtain⟨i,hi,e⟩:=az' hb;have e1:as[i]? = some b:=by rw[ab' hi,e]
    have hn:i<(aY' hs).length:=by omega
    exact .inr (fr5 (lists i _ b (ab' hn) e1).1)
end
structure CalM (P:Ad) (w:Af) (K:F__) (mg:Str->Option Aa) (base:Heap) (C:Addr) (k:Nat) (m:Str) (ps:List Str) (sp:Sp):Prop where
 ex:∃f fd,FnOk P w K mg base CX0 k f fd ps sp/\Meth K C m f/\bL' K fd ps []
variable{X:Cx}{ps:List Str}{sp:Sp}{apos pos:Pos}{o:Expr}{ta:TE}{pl:Sem Bool}
theorem bE_{C:Addr}{e:Expr}{es:List Expr}{t:TA}(c:CalM X.prog X.w X.K X.mg X.base C k m ps sp)(cl:Cls X.K C)(hr:Room k X.A)(he:PE X o ta)(ha:PA X (e::es) t)(hst:starEach (e::es) X.env=(false,eval e X.env)::starEach es X.env:=by rfl)(hpl:(backTo pos (starEach es X.env)).any (·.1)=false:=by rfl)(ht:eval (.Call (.Attribute o m apos) (e::es) [] pos) X.env=(do
   let ov <- eval o X.env
   standAt apos.atName
   let (f,first) <- holding [ov] (getMethod ov m pl)
   callWith pos f first (backTo pos (starEach (e::es) X.env)) (backToKw pos (keywordEach [] X.env))):=by rfl) :
  PE X (.Call (.Attribute o m apos) (e::es) [] pos) (tMeth C m sp [] E0 ta t):=by
 obtain⟨f,fd,F,hm,b⟩:=c.ex;exact fL_ he cl hm F hr b .nil pass0 ha hst hpl ht
theorem e2_{C:Addr}(c:CalM X.prog X.w X.K X.mg X.base C k m ps sp)(cl:Cls X.K C)(hr:Room k X.A)(he:PE X o ta)(ht:eval (.Call (.Attribute o m apos) [] [] pos) X.env=(do
   let ov <- eval o X.env
   standAt apos.atName
   let (f,first) <- holding [ov] (getMethod ov m pl)
   callWith pos f first (backTo pos (starEach [] X.env)) (backToKw pos (keywordEach [] X.env))):=by rfl) :
  PE X (.Call (.Attribute o m apos) [] [] pos) (tMeth C m sp [] E0 ta tNil):=by
 obtain⟨f,fd,F,hm,b⟩:=c.ex;exact hb_ he cl hm F hr b .nil pass0 ht
theorem fm_{hs:Xa}(nd:(hs.map (·.1)).Nodup){x:Str}{n:Int}(h:(x,n)∈hs):valV (sortH hs) (Sum.inr x)=some (.int n):=by
 have m:((Sum.inr x:Key),V.int n)∈sortH hs:=by
  unfold sortH;refine ah'.mpr ⟨kH (x,n),(aq_ _).mem_iff.mpr (ah'.mpr ⟨_,h,rfl⟩),rfl⟩
 have nk:=cs_ nd;generalize sortH hs=kvs at m nk
 induction kvs with
 |nil=>cases m
 |cons p r ih=>
  obtain⟨n1,n2⟩:=aN'.mp nk;rcases an'.mp m with e|m
  ·rw[<- e];exact bo_ rfl
  ·rw[bn_ (λe:p.1=Sum.inr x=>n1 (ah'.mpr ⟨_,m,e.symm⟩))];exact ih m n2
variable{as:List Addr}
theorem fP_{ns:List Str}(nd:ns.Nodup)(la:as.length=ns.length){i:Nat}{n:Str}(hn:ns[i]? = some n):∃a,as[i]? = some a/\valV (bs' ns as) (Sum.inr n)=some (.ref a):=by
 induction ns generalizing as i with
 |nil=>simp at hn
 |cons x ns ih=>
  cases as with
  |nil=>cases la
  |cons b as=>
   obtain⟨n1,n2⟩:=aN'.mp nd;cases i with
   |zero=>
    have e:x=n:=by simpa using hn
    subst e;exact⟨b,rfl,bo_ rfl⟩
   |succ i=>
    have hn:ns[i]? = some n:=by simpa using hn
    obtain⟨a,h1,h2⟩:=ih n2 (by simpa using la) hn;refine⟨a,by simpa using h1,?_⟩;show valV ((Sum.inr x,V.ref b)::bs' ns as) (Sum.inr n)=_;rw[bn_ λe=>n1 (by rw[show x=n from c_1 e];exact ad' hn)];exact h2
section
variable{P:Ad}{w:Af}{K:F__}{mg:Str->Option Aa}{base:Heap}
theorem scHas:aX' ["self","thing"] ["self","thing"] (aW' sHas):=f__
inductive do' (K:F__) (C:Addr) (vs:List V) (H:Hp) (Q:VK) (E:XK):Prop
 |mk:∀(p:Addr) (x:Str) (hs:Xa) (ts:Xb) (fp:List Addr),vs=[.ref p,.str x]->bl' K C H p hs ts fp->Q (.bl (decide (x∈hs.map (·.1)))) H->do' K C vs H Q E
theorem jt_{f C:Addr}{fd:Ae}(F:Fun K "has_hand" "Web.has_hand" sHas f fd)(T:Txt K mg C)(B:Bi mg):FnOk P w K mg base CX0 1 f fd ["self","thing"] (do' K C):=by
 refine F.ok scHas (λvs H Q E h=>?_) (λcdv A outer s H vs Q E hr h=>?_)
 ·obtain⟨p,x,hs,ts,fp,rfl,_⟩:=h;rfl
 ·obtain⟨p,x,hs,ts,fp,rfl,W,k⟩:=h;have hu:=b2_ hr;obtain⟨dx,d1,l2,d3,zs,as,rfl,h1,h2,h3,h4,h5,h6,h7⟩:=W.ex;refine⟨_,a4_ (aa_ (bF_ (a8_ aH_ (by rfl) B.isi PyProof.Rows.Boot.«isinstance» (a0_ (pv 1) (a0_ (aI_ (v:=.ty "str") (by rfl) B.str PyProof.Rows.Boot.«str» rfl) a2_))) (bp_ (fT_ (cZ_ hu (pv 1) (aO_ (pv 0) rfl)))))),?_⟩;refine⟨_,rfl,_,_,_,_,rfl,.str x,rfl,_,rfl,iteT ?_⟩;refine⟨_,rfl,_,rfl,p,C,dx,_,_,rfl,h1,T.cl,T.nS,eH_ _ _ _,d1,_,rfl,.k (k:=Sum.inr x) h2,?_⟩;rw[dj_];exact k
theorem scHands:aX' ["self"] ["self"] (aW' sHands):=f__
inductive b6' (K:F__) (C:Addr) (vs:List V) (H:Hp) (Q:VK) (E:XK):Prop
 |mk:∀(p:Addr) (hs:Xa) (ts:Xb) (fp:List Addr),vs=[.ref p]->bl' K C H p hs ts fp->(∀l,H l=none->Q (.ref l) (upd H l (.lst ((aY' hs).map V.str))))->b6' K C vs H Q E
theorem hv_{f C:Addr}{fd:Ae}(F:Fun K "hands" "Web.hands" sHands f fd)(T:Txt K mg C)(B:Bi mg):FnOk P w K mg base CX0 1 f fd ["self"] (b6' K C):=by
 refine F.ok scHands (λvs H Q E h=>?_) (λcdv A outer s H vs Q E hr h=>?_)
 ·obtain⟨p,hs,ts,fp,rfl,_⟩:=h;rfl
 ·obtain⟨p,hs,ts,fp,rfl,W,k⟩:=h;obtain⟨dx,d1,l2,d3,zs,as,rfl,h1,h2,h3,h4,h5,h6,h7⟩:=W.ex;refine⟨_,a4_ (aa_ (am_ (bz_ rfl) (by rfl) B.list PyProof.Rows.Boot.«list» (a0_ (aO_ (pv 0) rfl) a2_))),?_⟩;refine⟨_,rfl,p,C,dx,_,_,rfl,h1,T.cl,T.nS,eH_ _ _ _,d1,_,rfl,.inl h2,λl hl=>?_⟩;rw[eA_];exact k l hl
theorem dn':aX' ["self","hand"] ["self","hand"] (aW' b8'):=f__
inductive bg' (K:F__) (C:Addr) (vs:List V) (H:Hp) (Q:VK) (E:XK):Prop
 |mk:∀(p:Addr) (x:Str) (n:Int) (hs:Xa) (ts:Xb) (fp:List Addr),vs=[.ref p,.str x]->bl' K C H p hs ts fp->(hs.map (·.1)).Nodup->(x,n)∈hs->Q (.int n) H->bg' K C vs H Q E
theorem e3_{f C:Addr}{fd:Ae}(F:Fun K "strength" "Web.strength" b8' f fd)(T:Txt K mg C)(cH:CalM P w K mg base C 1 "has_hand" ["self","thing"] (do' K C)):FnOk P w K mg base CX0 2 f fd ["self","hand"] (bg' K C):=by
 refine F.ok dn' (λvs H Q E h=>?_) (λcdv A outer s H vs Q E hr h=>?_)
 ·obtain⟨p,x,n,hs,ts,fp,rfl,_⟩:=h;rfl
 ·obtain⟨p,x,n,hs,ts,fp,rfl,W,nd,hx,k⟩:=h;have hu:=b2_ hr;obtain⟨dx,d1,l2,d3,zs,as,rfl,h1,h2,h3,h4,h5,h6,h7⟩:=id W.ex;refine⟨_,a3_ (aj_ (ay_ (aB_ (bE_ cH T.cl hr (pv 0) (a0_ (pv 1) a2_)))) ac_ ad_) (a4_ (aa_ (b8_ hu (aO_ (pv 0) rfl) (pv 1) (λ_ _=>rfl)))),?_⟩;refine⟨_,rfl,p,dx,_,rfl,h1,aS_ _ _ _ Z0 Z0 Z0,_,rfl,p,x,hs,ts,_,rfl,W,_,rfl,?_⟩;rw[a_5 (ah'.mpr ⟨_,hx,rfl⟩)];refine iteF ?_;refine⟨_,rfl,p,C,dx,_,_,rfl,h1,T.cl,T.nS,eH_ _ _ _,_,rfl,d1,_,rfl,?_,k⟩;rw[<- fm_ nd hx];exact .k (k:=Sum.inr x) h2
theorem jf_{H:Hp}{hs:Xa}{ts:Xb}{x:Str}(nd:(aY' hs).Nodup)(hx:x∈hs.map (·.1))(la:as.length=(aY' hs).length)(h7:∀(i:Nat) n a,(aY' hs)[i]? = some n->as[i]? = some a->H a=some (.lst ((near (aY' hs) (tsOf ts) n).map V.str))):∃a,valV (bs' (aY' hs) as) (Sum.inr x)=some (.ref a)/\H a=some (.lst ((near (aY' hs) (tsOf ts) x).map V.str)):=by
 obtain⟨i,hi,e⟩:=az' ((aL_ hs).mem_iff.mpr hx);have hn:(aY' hs)[i]? = some x:=by rw[ab' hi,e]
 obtain⟨a,h1,h2⟩:=fP_ nd la hn;exact⟨a,h2,h7 i x a hn h1⟩
theorem scTied:aX' ["self","one","other"] ["self","one","other"] (aW' sTied):=f__
theorem f1_{H:Hp}:∀ns:List Str,Paired (rS H) (ns.map V.str) ns
 |[]=>.nil
 |_::ns=>.cons rfl (f1_ ns)
theorem scTiesM:aX' ["self"] ["self"] (aW' sTiesM):=f__
inductive cJ' (K:F__) (C:Addr) (vs:List V) (H:Hp) (Q:VK) (E:XK):Prop
 |mk:∀(p:Addr) (hs:Xa) (ts:Xb) (fp:List Addr),vs=[.ref p]->bl' K C H p hs ts fp->ts.length<64->(∀l zs H',Same H H'->H l=none->H' l=some (.lst zs)->aZ' K H' zs ((tsOf ts).map kT)->Q (.ref l) H')->cJ' K C vs H Q E
theorem hs_{f C:Addr}{fd:Ae}(F:Fun K "ties" "Web.ties" sTiesM f fd)(T:Txt K mg C)(cA:Cal P w K mg base 1 "ties_anew" ["ties"] (spAnew K)):FnOk P w K mg base CX0 2 f fd ["self"] (cJ' K C):=by
 refine F.ok scTiesM (λvs H Q E h=>?_) (λcdv A outer s H vs Q E hr h=>?_)
 ·obtain⟨p,hs,ts,fp,rfl,_⟩:=h;rfl
 ·obtain⟨p,hs,ts,fp,rfl,W,h64,k⟩:=h;obtain⟨dx,d1,l2,d3,zs,as,rfl,h1,h2,h3,h4,h5,h6,h7⟩:=W.ex;refine⟨_,a4_ (aa_ (af_ cA hr (a0_ (aO_ (pv 0) rfl) a2_))),?_⟩;exact⟨_,rfl,p,C,dx,_,_,rfl,h1,T.cl,T.nP,jh_ _ _ _,l2,zs,tsOf ts,rfl,h3,h4,by rw[dn_];omega,k⟩
end
end Ev
namespace L2
open PySem PySem.Spec PyProof.Rows PySem.W
def Ite(K:F__)(a:Addr):It:=
 ⟨λi H=>∃xs x,SqL K H a xs/\xs[i]? = some x,λi H y H'=>∃t x,y=.ref t/\H t=none/\(∀xs,SqL K H a xs->xs[i]? = some x)/\H'=upd H t (.tup [.int i,x]),λi H=>∃xs,SqL K H a xs/\xs.length=i⟩
variable{X:Cx}{pins:List (Addr × Obj)}{σ:St}{s:Ab}{h':Heap}{t':Nat}{fp:List Addr}
theorem Inv.turnedN{H:Hp}{T:Addr}{xs:List V}{its:List Aa}(I:Inv X pins σ H s)(k:∀b o,b∉fp->s.heap.get? b=some o->h'.get? b=some o)(hf:∀b∈fp,FpOk X pins H b)(hT:s.heap.objs.size<=T)(hz:xs.length<=sizeLine)(r:Vals xs its)(ht:IsTup h' T its.toArray/\∃o,h'.get? T=some o/\o.dict=none):Inv X pins σ (upd H T (.tup xs)) { s with heap:=h',toks:=t' }:=by
 have fT:H T=none:=I.hok.fresh hT;have nf:∀b u,H b=some u->b∉fp:=λb u e hb=>by rw[(hf b hb).1] at e;cases e
 have old:∀{b u},H b=some u->upd H T (.tup xs) b=some u:=λe=>by rw[a7_ (a5_ e fT)];exact e
 refine I.step (g':=s.gens) (d':=s.drawn) (ch:=fp) (λb hb=>?_) (λb o _ _ hc e _=>k b o hc e) (λb o _ _ hc e _=>⟨o.slots,k b o hc e⟩) (λb o _ e n=>?_)
  (λb o hc e=>⟨o,k b o hc e⟩) (λb ys e=>old e) (λb o u e=>old e) (λb ps e=>⟨#[],by rw[Array.append_empty];exact old e⟩) (λm hm=>?_) (λb u e=>?_) I.bare
 ·obtain⟨f0,f1,f2,f3,f4,f5⟩:=hf b hb;exact⟨f3,f1,f4,f5⟩
 ·rw[a7_ (λz=>by subst z;exact absurd (a_2 e) (Nat.not_lt.mpr hT))];exact n
 ·obtain⟨o,es,ep,ho,r⟩:=hm;exact⟨o,es,ep,k _ o (λhb=>(hf _ hb).2.1 rfl) ho,r⟩
 ·by_cases z:b=T
  ·subst z;rw[a1_] at e;cases e;exact⟨hz,its,r,ht⟩
  ·rw[a7_ z] at e;refine (I.hok b u e).stay (λc v hc q=>k c v ?_ q) (λ_ q=>old q) λ_ _ q=>old q;rcases hc with z|z
   ·rw[z];exact nf b u e
   ·exact nf c _ z
theorem Inv.turnedF{H:Hp}(I:Inv X pins σ H s)(k:∀b o,b∉fp->s.heap.get? b=some o->h'.get? b=some o)(hf:∀b∈fp,FpOk X pins H b):Inv X pins σ H { s with heap:=h',toks:=t' }:=by
 have nf:∀b u,H b=some u->b∉fp:=λb u e hb=>by rw[(hf b hb).1] at e;cases e
 refine I.step (g':=s.gens) (d':=s.drawn) (ch:=fp) (λb hb=>?_) (λb o _ _ hc e _=>k b o hc e) (λb o _ _ hc e _=>⟨o.slots,k b o hc e⟩) (λb o _ e n=>n)
  (λb o hc e=>⟨o,k b o hc e⟩) (λb ys e=>e) (λb o u e=>e) (λb ps e=>⟨#[],by rw[Array.append_empty];exact e⟩) (λm hm=>?_) (λb u e=>?_) I.bare
 ·obtain⟨f0,f1,f2,f3,f4,f5⟩:=hf b hb;exact⟨f3,f1,f4,f5⟩
 ·obtain⟨o,es,ep,ho,r⟩:=hm;exact⟨o,es,ep,k _ o (λhb=>(hf _ hb).2.1 rfl) ho,r⟩
 ·refine (I.hok b u e).stay (λc v hc q=>k c v ?_ q) (λ_ q=>q) λ_ _ q=>q;rcases hc with z|z
  ·rw[z];exact nf b u e
  ·exact nf c _ z
variable{P:Ad}{w:Af}{elts:List Expr}{k:Nat}{pos:Pos}
theorem g2_{K:F__}(a e it:Addr)(h1:e≠it)(h2:a≠e)(h3:a≠it):Turn P w K (.Tuple elts k pos) (Ite K a) [e,it] e (λi h=>(∃old,IsEnum h e it i old)/\h.IsListIter it a i) where
 mem:=by simp
 obj:=λi h st b hb=>by
  obtain⟨⟨old,q⟩,o,e2,c,d⟩:=st;rcases an'.mp hb with rfl|hb
  ·exact⟨_,q,λv z=>by cases z⟩
  ·obtain rfl:b=it:=by simpa using hb
   exact⟨o,e2,λv z=>by rw[d] at z;cases z⟩
 keep:=λi h h' st kk=>by
  obtain⟨⟨old,q⟩,st2⟩:=st;exact⟨⟨old,kk e Z2 _ q⟩,st2.at λo q2=>kk it Z2 o q2⟩
 item:=by
  intro X hP hw hK hc i pins s σ H E I hf st hg;subst hP hw hK;obtain⟨xs,x,hq,hx⟩:=hg;obtain⟨its,rv,p,hz⟩:=I.list hq;obtain⟨u,hu,ru⟩:=rv.get hx;have W:=WalksT.enumerate (prog:=X.prog) (w:=X.w) (A:=X.A) (I.ok.hd hc) e it a h1 h2 h3 its.toArray
  have hi:i<its.toArray.size:=by
   simp only[ag'];exact (ac'.mp hu).1
  obtain⟨old,he⟩:=st.1;have hit:=st.2;refine wpAny_pyNext_enum_item he hit p.isList (x:=u) (by rw[List.getElem?_toArray];exact hu) h1 λh' ho hit' hTo hsz hk=>?_;have helt:e<s.heap.objs.size:=a_2 he;have hilt:it<s.heap.objs.size:=by obtain⟨_,x,_⟩:=hit;exact a_2 x
  have mid:(∃x,IsEnumOut h' e it ((i:Int)+1) x s.heap.objs.size)/\h'.IsListIter it a (i+1)/\h'.IsList a its.toArray/\s.heap.objs.size≠e/\s.heap.objs.size≠it:=⟨⟨_,ho⟩,hit',p.isList.at λo x=>hk a o h2 h3 x,aE' helt,aE' hilt⟩;have kk:∀b o,b∉[e,it]->s.heap.get? b=some o->h'.get? b=some o:=λb o hb x=>hk b o (λe'=>hb (by simp[e'])) (λe'=>hb (by simp[e'])) x;have isT:h'.IsTuple s.heap.objs.size #[.int i s.toks,u]:=⟨_,hTo,rfl,_,rfl⟩;obtain⟨T,eT⟩:∃T,T=s.heap.objs.size:=⟨_,rfl⟩;obtain⟨t,et⟩:∃t,t=s.toks:=⟨_,rfl⟩;obtain⟨tk,htk⟩:∃tk,tk=s.toks+1:=⟨_,rfl⟩;rw[<- eT] at isT mid hTo ⊢;have hT:s.heap.objs.size<=T:=Nat.le_of_eq eT.symm;rw[<- et] at isT hTo;rw[<- htk];refine⟨_,rfl,W.go elts k pos i T { s with heap:=h',toks:=tk } _ _ mid λh2' st' kk2=>?_⟩;have nT:T∉[e,it]:=W.apart i T h' mid
  have isT2:h2'.IsTuple T #[.int i t,u]:=by
   obtain⟨o,q,r⟩:=isT;exact⟨o,kk2 T o nT q,r⟩
  have I1:Inv X pins σ (upd H T (.tup [.int i,x])) { s with heap:=h2',toks:=tk }:=I.turnedN (t':=tk) (fp:=[e,it]) (its:=[.int i t,u]) (λb o hb q=>kk2 b o hb (kk b o hb q)) hf hT (by show 2<=sizeLine;decide) (.cons ⟨t,rfl⟩ (.cons ru .nil)) ⟨isT2,_,kk2 T _ nT hTo,rfl⟩;refine⟨.ref T,_,I1,rfl,⟨T,x,rfl,I.hok.fresh hT,λys hy=>by rw[I.list_inj hy hq];exact hx,rfl⟩,⟨?_,st'.2.1⟩,λb hb=>?_⟩
  ·obtain⟨old,q⟩:=st'.1;exact⟨old,by simpa using q⟩
  ·rw[a7_ (λz:b=T=>nT (by rw[<- z];exact hb))];exact (hf b hb).1
 done:=by
  intro X hP hw hK hc i pins s σ H E I hf st hg;subst hP hw hK;obtain⟨xs,hq,hx⟩:=hg;obtain⟨its,rv,p,hz⟩:=I.list hq;have W:=WalksT.enumerate (prog:=X.prog) (w:=X.w) (A:=X.A) (I.ok.hd hc) e it a h1 h2 h3 its.toArray
  have hn:its.toArray.size=i:=by
   have:=rv.length;simp only[ag'];omega
  refine W.done s _ _ (by rw[hn];exact⟨st.1,st.2,p.isList⟩) λh' tk kk=>⟨rfl,I.turnedF (t':=tk) (fp:=[e,it]) kk hf⟩
 self:=λA i s Q E st h=>by
  obtain⟨old,q⟩:=st.1;exact wpAny_pyIter_enum q h
inductive iEnumR (K:F__) (R:It->Hp->Prop) (vs:List V) (H1:Hp):Prop
 |mk:∀a,vs=[.ref a]->(∃xs,SqL K H1 a xs)->R (Ite K a) H1->iEnumR K R vs H1
def iEnum(K:F__)(ta:TA):TI:=λσ H R=>ta σ H λvs H1=>iEnumR K R vs H1
theorem iw_{kk:Nat}{p2:Pos}{a:Expr}{ta:TA}{p:Pos}(hg:Gl X "enumerate")(hm:X.mg "enumerate"=none)(ha:PA X [a] ta)(hs:starEach [a] X.env=[(false,eval a X.env)]:=by rfl):PI X (.Tuple elts kk p2) (.Call (.Name "enumerate" p) [a] [] pos) (iEnum X.K ta):=by
 intro pins s σ H R I h;refine Call_ (cx_ I hg hm boot_enumerate (PyProof.Rows.callWith_type1 (thn (ha pos pins s σ H _ I h) λus s1 ⟨vs,H1,I1,r1,q1⟩=>?_) hs rfl));obtain⟨l,e,⟨xs,hq⟩,q⟩:=q1;subst e;cases r1 with
 |cons r rr=>
  cases rr;cases r;obtain⟨its,rv,pl,hz⟩:=I1.list hq;have ll:l<s1.heap.objs.size:=by obtain⟨_,e,_⟩:=pl.isList;exact a_2 e
  refine call_enumerate_list pl.isList λh' he hi hn kp=>?_;refine wpAny_pyIter_enum he ?_;refine⟨s1.heap.objs.size+1,[s1.heap.objs.size+1,s1.heap.objs.size],_,_,H1,rfl,I1.kept (t':=s1.toks) kp,g2_ l _ _ (Nat.succ_ne_self _) (aj' (Nat.lt_succ_of_lt ll)) (aj' ll),⟨⟨_,he⟩,hi⟩,λb hb=>?_,q⟩
  have e:s1.heap.objs.size<=b:=by
   rcases an'.mp hb with rfl|hb
   ·exact Nat.le_succ _
   ·obtain rfl:b=s1.heap.objs.size:=by simpa using hb
    exact ae' _
  exact I1.fpOk e (I1.hok.fresh e)
variable{a:Addr}
theorem hw_{K:F__}{xs:List V}{g:TG}{tb:TS}{D:Ends}{H:Hp}(Pv:Nat->St->Hp->Prop)(h0:Pv 0 σ H)(hl:∀i σ H,i<=xs.length->Pv i σ H->SqL K H a xs)(hs:∀i x σ H,xs[i]? = some x->Pv i σ H->∀t,H t=none->g (.ref t) σ (upd H t (.tup [.int i,x])) λσ2 H2=>tb { D with nx:=Pv (i+1),ct:=Pv (i+1),bk:=D.nx } σ2 H2)(hd:∀σ H,Pv xs.length σ H->D.nx σ H) :
  ∃W:Nat->Nat->St->Hp->Prop,(∃m,W 0 m σ H)/\∀i m σ H,W i m σ H->
   ((Ite K a).stop i H/\D.nx σ H)∨((Ite K a).go i H/\∃N:St->Hp->Prop,(∀σ' H',N σ' H'->∃m',m'<m/\W (i+1) m' σ' H')/\∀x H',(Ite K a).yld i H x H'->g x σ H' λσ2 H2=>tb { D with nx:=N,ct:=N,bk:=D.nx } σ2 H2):=by
 refine⟨λi m σ H=>m=xs.length - i/\i<=xs.length/\Pv i σ H,⟨xs.length,by simp,aC' _,h0⟩,?_⟩;rintro i m σ H ⟨rfl,hi,p⟩;have q:=hl i σ H hi p;by_cases hlt:i<xs.length
 ·refine .inr ⟨⟨xs,xs[i],q,by simp[hlt]⟩,Pv (i+1),λσ' H' p'=>⟨xs.length - (i+1),by omega,rfl,hlt,p'⟩,λx H' y=>?_⟩;obtain⟨t,x,rfl,ht,y,rfl⟩:=y;exact hs i x σ H (y xs q) p t ht
 ·have e:i=xs.length:=by omega
  subst e;exact .inl ⟨⟨xs,q,rfl⟩,hd σ H p⟩
variable{h:Heap}
theorem a4'.here{H:Hp}{o:HO}(x:a4' P w H h a o):∃u,h.get? a=some u:=by
 cases o with
 |lst xs=>obtain⟨_,_,_,_,e⟩:=x;exact⟨_,e⟩
 |tup xs=>obtain⟨_,_,_,⟨o,e,_⟩,_⟩:=x;exact⟨_,e⟩
 |dK kvs=>obtain⟨_,_,_,_,o,_,_,e,_⟩:=x;exact⟨_,e⟩
 |dT kvs=>obtain⟨_,_,_,_,o,_,_,e,_⟩:=x;exact⟨_,e⟩
 |set S n=>obtain⟨o,_,_,_,e,_⟩:=x;exact⟨_,e⟩
 |ins C dx fs=>obtain⟨_,_,_,e,_⟩:=x;exact⟨_,e⟩
 |own y=>exact x
 |xd fs=>obtain⟨_,⟨_,_,_,e,_⟩,_⟩:=x;exact⟨_,e⟩
 |rng lo hi=>obtain⟨_,_,_,e⟩:=x;exact⟨_,e⟩
 |frz ob u=>obtain⟨e,_⟩:=x;exact⟨_,e⟩
 |tbl ps=>exact⟨_,show h.get? a=some _ from x⟩
 |met f y=>exact⟨_,show h.get? a=some _ from x⟩
 |ext φ=>obtain⟨_,e,_⟩:=x;exact e
def InB(B:Heap)(l:List Env)(H:Hp)(h0 h:Heap):Prop:=
 ∀b o,h.get? b=some o->b∉frs l->((H b).isSome=true∨∃o0,h0.get? b=some o0)->B.get? b=some o
section
variable{P:Ad}{w:Af}{H H':Hp}{B h0 h h1:Heap}{l:List Env}
theorem aU_(hok:HOk P w H' h)(fr:∀b∈frs l,H' b=none)(i:InB B l H' h0 h)(st:B.StaysIn h1):HOk P w H' h1:=λb o e=>
 (hok b o e).stay (λc u hc q=>by
  have hs:∃x,H' c=some x:=by
   rcases hc with z|z
   ·exact⟨o,z▸e⟩
   ·exact⟨_,z⟩
  obtain⟨x,hx⟩:=hs;exact st c u (i c u q (λm=>by rw[fr c m] at hx;cases hx) (.inl (by rw[hx];rfl)))) (λ_ q=>q) (λ_ _ q=>q)
theorem b5_(un:Un (frs l) [] H H' h0 h)(ff:h.FunFrames B l)(i:InB B l H' h0 h)(st:B.StaysIn h1)(up:h.UpToSlots h1):Un (frs l) [] H H' h0 h1 where
 keep:=λb o q n hb hx=>st b o (i b o (un.keep b o q n hb hx) hb (.inr ⟨o,q⟩))
 slot:=λb o q n hb hx=>by
  obtain⟨sl,e⟩:=un.slot b o q n hb hx;obtain⟨_,o',e',d⟩:=ff.mem hb;rw[e] at e';cases e';obtain⟨sl2,e2⟩:=up b _ e d;exact⟨sl2,e2⟩
 free:=un.free
 there:=λb o q hx=>by
  obtain⟨o',e⟩:=un.there b o q hx;by_cases hb:b∈frs l
  ·obtain⟨_,o2,e',d⟩:=ff.mem hb;rw[e] at e';cases e';obtain⟨sl2,e2⟩:=up b _ e d;exact⟨_,e2⟩
  ·exact⟨o',st b o' (i b o' e hb (.inr ⟨o,q⟩))⟩
 tups:=un.tups
 frzs:=un.frzs
 tbls:=un.tbls
theorem b6_(hok:HOk P w H' h)(un:Un (frs l) [] H H' h0 h)(i:InB B l H' h0 h)(st:B.StaysIn h1):InB B l H' h0 h1:=λb o e hb c=>by
 have:∃u,h.get? b=some u:=by
  rcases c with z|⟨o0,z⟩
  ·obtain⟨x,hx⟩:=aG'.mp z;exact (hok b x hx).here
  ·exact un.there b o0 z Z2
 obtain⟨u,hu⟩:=this;have q:=i b u hu hb c;have:=st b u q;rw[e] at this;cases this;exact q
end
def CX1(P:Ad)(w:Af):CXT:=λl H s E e s'=>
 ∃a cls H' B a0,e=Value.ref a/\s'.os=s.os/\AllBare s'.gens/\Un (frs l) [] H H' s.heap s'.heap/\HOk P w H' s'.heap/\Heap.FlyingW B l a cls a0 s'.heap/\InB B l H' s.heap s'.heap/\E cls none H'
section
variable{X:Cx}{pins:List (Addr × Obj)}{σ:St}{H H':Hp}{s s1:Ab}{B h:Heap}{a:Addr}{cls a0:Aa}{E:XK}
theorem c3_(I:Inv X pins σ H s)(un:Un (frs X.stack) [] H H' s.heap h):∀b∈frs X.stack,H' b=none:=λb hb=>by
 obtain⟨_,o,ho,_⟩:=I.stack.mem hb;exact un.free b o ho (I.stkFree b hb) Z2
theorem cu_(I:Inv X pins σ H s)(hex:X.ex=[])(os:s1.os=s.os)(bare:AllBare s1.gens)(un:Un (frs X.stack) [] H H' s.heap h)(hok:HOk X.prog X.w H' h)(i:InB B X.stack H' s.heap h)(ff:h.FunFrames B X.stack)(up:h.UpToSlots s1.heap)
  (fl:Heap.FlyingW B X.outer a cls a0 s1.heap) (hE:E cls none H'):CX1 X.prog X.w X.outer X.H₀ X.s₀ E (.ref a) s1:=by
 have un1:=b5_ un ff i fl.1 up;have hok1:=aU_ hok (c3_ I un) i fl.1;have I1:Inv X pins σ H' s1:=I.call' os un1 hok1 bare (λb z=>absurd z Z2);have bs:=I1.base;rw[hex] at bs;refine⟨a,cls,H',B,a0,rfl,I1.os,I1.bare,bs,I1.hok,fl,λb o e hb c=>?_,hE⟩
 have nL:b≠X.env.locals:=by
  rcases c with z|⟨o0,z⟩
  ·intro q;rw[q,I1.free] at z;cases z
  ·exact aj' (aq' (a_2 z) I.ok.above)
 refine b6_ hok un i fl.1 b o e (λhm=>?_) (c.imp id λ⟨o0,z⟩=>I.base.there b o0 z (by rw[hex];simp));rcases an'.mp (I.stkSub b hm) with z|z
 ·exact nL z
 ·exact hb z
end
section
variable{P:Ad}{w:Af}{K:F__}{mg:Str->Option Aa}{base:Heap}{N:List Str}{qual:Str}{scope:Scope}{f:Addr}{cd:Aa}{A:Ah}{outer:List Env}{s:Ab}{H:Hp}{E:XK}
theorem passes1:bh' (CX1 P w) (cxOf (CX1 P w) P w K mg base N qual scope f cd A outer s H E) E:=by
 intro pins σ H1 s1 e s' I hc;obtain⟨a,cls,H',B,a0,rfl,os,bare,un,hok,fl,i,hE⟩:=hc;refine wpAny_leaves_onW (base:=B) I.ok.frames rfl fl λh1 fl1 up=>?_;exact cu_ (s1:={ s' with heap:=h1 }) I rfl os bare un hok i fl.2.2.1 up fl1 hE
def ci'(X:Cx)(E:XK):Prop:=∀(pins:List (Addr × Obj)) (σ:St) (H:Hp) (s:Ab) (h':Heap) (e:Addr) (cls:Aa) (vs:List Aa),Inv X pins σ H s->Heap.MadeExcOf s.heap h' e cls vs->E cls none H->X.xe (.ref e) { s with heap:=h' }
theorem raises1:ci' (cxOf (CX1 P w) P w K mg base N qual scope f cd A outer s H E) E:=by
 intro pins σ H1 s1 h' e cls vs I hx hE;have ff:=PySem.W.funFrames_hide (as:=frs (cxOf (CX1 P w) P w K mg base N qual scope f cd A outer s H E).stack) I.stack (λenv he b hb=>ay'.mpr ⟨env,he,hb⟩);refine wpAny_leaves_madeW (base:=PySem.W.hideAll s1.heap (frs (cxOf (CX1 P w) P w K mg base N qual scope f cd A outer s H E).stack)) (h:=s1.heap) I.ok.frames rfl (λb o q=>PySem.W.of_hideAll _ q) ff hx λh1 t fl tup nt up=>?_;exact cu_ (s1:={ s1 with heap:=h1 }) I rfl rfl I.bare Un.refl I.hok (λb o q hb _=>PySem.W.hideAll_get _ q hb) ff ((Heap.UpToSlots.of_keeps hx.keeps).trans up) fl hE
end
variable{x:Str}{C:Addr}{newId:String}
theorem jl_{K:F__}{mg:Str->Option Aa}{bmB:List Aa}(X:K.In h)(hm:mg x=some (.ref C))(q:PySem.W.excIn K C bmB newId=true):OwnCls x C bmB newId mg h:=by
 refine⟨hm,?_⟩;unfold PySem.W.excIn at q;split at q
 ·rename_i dd cd sl ho
  split at q
  ·rename_i C' bm k0 k1 k2 k3 n k5 hm' hs
   simp only[aR',beq_iff_eq,Bool.not_eq_true'] at q;obtain⟨⟨⟨⟨⟨rfl,rfl⟩,hdel⟩,ht⟩,hok⟩,hni⟩:=q;obtain⟨nm,bs,mro,ns,qn,hd,sn,sub,ab,col,del⟩:=cd;dsimp only at hm' hdel hok hni;subst hm' hdel
   have hsl:sl=#[k0,k1,k2,k3,some (.builtin n),k5]:=by
    obtain⟨l⟩:=sl;simp only at hs;rw[hs]
   subst hsl;exact⟨bm,ns,nm,qn,bs,hd,sn,sub,ab,col,dd,k0,k1,k2,k3,k5,_,X _ _ ho,.of_isNs (PySem.W.isNs_of_in X hok),PySem.W.nsMap_none_of_in X hok hni,PySem.W.tail_of_in X ht⟩
  ·cases q
 ·cases q
def tRaise(cls:Aa)(E:XK)(t:TA):TS:=λ_ σ H=>t σ H λvs H1=>vs.length<=sizeLine/\E cls none H1
variable{bm:List Aa}{B initId:String}{cpos np:Pos}{e₀:Expr}{t:TA}{E:XK}
theorem bj_(hh:X.calm=true)(R:ci' X E)(hm:X.mg x=some (.ref C))(qx:PySem.W.excIn X.K C bm newId=true)(FB:ExcBaseFacts B newId initId bm)(hg:Gl X x)(ha:PA X [e₀] t)
  (he:starEach [e₀] X.env=(false,eval e₀ X.env)::starEach [] X.env:=by rfl) (hpl:(backTo cpos (starEach [e₀] X.env)).any (·.1)=false:=by rfl) (hd:(x == ("__debug__":Str))=false:=by decide) :
  PS X (.Raise (some (.Call (.Name x np) [e₀] [] cpos)) none pos) (tRaise (.ref C) E t):=by
 intro pins s σ H D I h;have O:=jl_ I.ok.mod.kin hm qx;obtain⟨tl,N,nm,q,bs,hdct,sn,sub,ab,col,dd,k0,k1,k2,k3,k5,mN,hC,hN,hni,T⟩:=O.obj
 refine wpAny_Raise_call_subT (C:=C) (nm:=nm) (q:=q) (N:=N) (bs:=bs) (bm:=tl) (hdct:=hdct) (sn:=sn) (sub:=sub) (ab:=ab) (col:=col) (dd:=dd) (k0:=k0) (k1:=k1) (k2:=k2) (k3:=k3) (k5:=k5)
  FB (mN:=mN) (T.hasType FB.hasBase) (I.ok.hd hh) hpl hni (bO_ I hg O.bound ⟨rfl,?_⟩ hd)
 have ha':=ha cpos pins s σ H _ I h;rw[he] at ha' ⊢;refine Calls.evalArgs_plain (wpAny_mono ha' (λus s₂ ⟨vs,H1,I1,r,z,q⟩=>⟨rfl,by rw[<- r.length];exact z,I1.bk _ _ hC,hN.keeps I1.bk,T.keeps I1.bk,λh' e hm=>R pins σ H1 s₂ h' e _ _ I1 hm q⟩) λ_ _ y=>y)
section
variable{P:Ad}{w:Af}{K:F__}{mg:Str->Option Aa}{base:Heap}
theorem Fun.okX{qual:Str}{st:Stmt}{f:Addr}{fd:Ae}{N ps:List Str}{sp:Sp}(F:Fun K x qual st f fd)(S:aX' N ps (aW' st))(len:∀vs H Q E,sp vs H Q E->vs.length=ps.length)(hbody:∀(cdv:Aa) (A:Ah) (outer:List Env) (s:Ab) (H:Hp) (vs:List V) (Q:VK) (E:XK),Room k (A.deeper (envOfC qual (aW' st) s.heap.objs.size f cdv))->sp vs H Q E->
   ∃t,PSs (cxOf (CX1 P w) P w K mg base N qual (aW' st) f cdv A outer s H E) (a6' st) t/\t { nx:=λ_ H'=>Q .non H',rt:=Q } (start N vs) H):FnOk P w K mg base (CX1 P w) (k+1) f fd ps sp:=by
 obtain⟨oc,od,kV,doc,pm,an,cdv,ct,osl,rfl,lk,hcd⟩:=F.ex;refine iM_ lk hcd S len λA outer s H vs Q E hr hsp=>?_;obtain⟨t,h,q⟩:=hbody cdv A outer s H vs Q E hr hsp;exact⟨t,h,q⟩
theorem FnOk.up{CX:CXT}{f:Addr}{fd:Ae}{ps:List Str}{sp:Sp}(F:FnOk P w K mg base CX0 k f fd ps sp):FnOk P w K mg base CX k f fd ps sp:=
 ⟨F.len,λA outer s H args us vs Q E hr he hb hv hs=>codeAny_mono (F.run A outer s H args us vs Q E hr he hb hv hs) λr s' h=>by
  cases r with
  |error e=>exact h.elim
  |ok fl=>cases fl<;>exact h⟩
end
open PySem.Calls Builtin Builtin.ObjectAttr Builtin.Getset_descriptor
structure ExcK (K:F__) (C:Addr):Prop where
 cl:(clsIn K C).isSome=true
 ga:findIn K (.ref C) "__getattribute__"=some (some (.builtin "BaseException.__getattribute__"))
 ha:findIn K (.ref C) "__getattr__"=some none
 ca:findIn K (.ref C) "__class__"=some (some (.builtin "object.__class__"))
 gt:specialIn K (.builtin "object.__class__") "__get__"=some (some (.builtin "getset_descriptor.__get__"))
 tk:takesIn K (.builtin "object.__class__")=some true
 mo:mroIn K C (.type "object")=some true
 mb:mroIn K C (.type "BaseException")=some true
section
variable{prog:Ad}{w:Af}{A:Ah}{E:Aa->Ab->Prop}{s:Ab}{K:F__}{x C:Addr}
theorem dl_{R:Result->Ab->Prop}{tp:Aa}(X:K.In s.heap)(L0:Looks (model prog w) s.heap (typeOf (.ref x)) (.ref C))(hm:mroIn K C (.type "object")=some true)
  (h:R (.ok (.ret (.ref C))) s):codeAny (model prog w) A (.call (.builtin "getset_descriptor.__get__") ⟨[.builtin "object.__class__",.ref x,tp],[]⟩) R s:=by
 obtain⟨hh,g,dr,t,os⟩:=s;have L1:=looks_mroIn (M:=model prog w) X hm;refine codeAny_call_builtin KF.slot_gs.plain KF.entry_gs (KF.slot_gs.check _ _ _ _ _ _ _ _ KF.type_class (KF.args_gs _ _ _) ?_);unfold Builtin.«getset_descriptor.__get__» descrGet;rw[dga_obj];refine a__ (a_1 ?_);unfold descrGetter descrCheckInstance descrNameAndClass isInstance;simp only[KF.owner_class]
 repeat lk
 refine⟨Code.quiet_builtin _ Z0,codeAny_builtin KF.entry_class ?_⟩;unfold Builtin.«object.__class__» shownTypeOf
 repeat lk
 exact h
theorem hA_{M:Model}(k:ExcK K C)(X:K.In h):Looks M h (find (.ref x) (.ref C) "__class__") (.bind (.builtin "getset_descriptor.__get__") (.builtin "object.__class__")):=by
 refine (looks_findIn X k.ca).andThen ((show Looks M h (getOf (some (.builtin "object.__class__"))) _ from looks_specialIn X k.gt).andThen ?_);exact (show Looks M h (dataDescriptor? (some _) (some _)) (some (_,_)) from (looks_takesIn X k.tk).andThen .now).andThen (Looks.tag .now)
theorem fH_{tk:Tok}{Q:Fin->Ab->Prop}(k:ExcK K C)(X:K.In s.heap)(L0:Looks (model prog w) s.heap (typeOf (.ref x)) (.ref C))(hq:Q (.done (.ret (.ref C))) s) :
  wpAny (model prog w) A (Builtin.«object.__getattribute__» ⟨[.ref x,.str "__class__" tk],[]⟩) Q E s:=by
 obtain⟨hh,g,dr,t,os⟩:=s;have L1:=hA_ (M:=model prog w) (x:=x) k X;unfold Builtin.«object.__getattribute__»;refine a__ (a_1 ?_);refine a__ (a_1 ?_);refine a__ (L0.at ?_);refine a__ (L1.at ?_);show wpAny _ _ (holding [_] (call _ [_,.ref x,.ref C]) >>= ret) _ _ _;exact a__ (b_3 (wpAny_call (dl_ X L0 k.mo (a_1 hq))))
theorem cQ_{Q:Option Aa->Ab->Prop}(k:ExcK K C)(X:K.In s.heap)(L0:∀M,Looks M s.heap (typeOf (.ref x)) (.ref C))(h:Q (some (.ref C)) { s with toks:=s.toks+1 }) :
  wpAny (model prog w) A (getAttr? (.ref x) "__class__") Q E s:=by
 obtain⟨hh,g,d,t,os⟩:=s;have L0':=L0 (model prog w);have L1:=looks_findIn (M:=model prog w) X k.ga;have L2:=looks_findIn (M:=model prog w) X k.ha;have LB:Looks (model prog w) hh (isInstance (.ref x) (.type "BaseException")) true:=L0'.andThen (looks_mroIn X k.mb);have hk:builtinKind "BaseException.__getattribute__"=some .slot:=by decide +kernel
 have hsplit:splitId "BaseException.__getattribute__"=some ("BaseException","__getattribute__"):=by decide +kernel
 unfold getAttr? getAttrBy? getAttrBy;refine a__ (wpAny_mkText (a__ (wpAny_attempt (b_3 (a__ (L0'.at (a__ (L1.at ?_))))))));show wpAny _ _ (getAttrByItsOwn _ _ _ _ _ _) _ _ _;unfold getAttrByItsOwn hookBefore;refine a__ (L2.at ?_);refine a__ (wpAny_attempt (b_3 ?_));show wpAny _ _ (boundAndCalled _ _ _) _ _ _;unfold boundAndCalled;refine a__ (wpAny_of_eq (PySem.F.attr_ValueError.ga.bind (.ref x)) ?_);refine wpAny_call (codeAny_call_builtin PySem.F.attr_ValueError.ga.plain PySem.F.entry_bexc_ga ?_);simp only[checkBuiltinCall,hk,hsplit];refine a__ (LB.at ?_);have ha:=PySem.F.args_bexc_ga (.ref x) (.str "__class__" t)
 have key:∀{A':Ah} {E':Aa->Ab->Prop} {R:Unit->Ab->Prop},R () ⟨hh,g,d,t+1,os⟩->wpAny (model prog w) A' (match Manifest.signature? "BaseException.__getattribute__" with
   |some sig=>Bind.checkArgs "BaseException.__getattribute__" sig { pos:=[Value.ref x]++[Value.str (Str.ofString "__class__") t] }
   |x=>pure ()) R E' ⟨hh,g,d,t+1,os⟩:=by
  intro A' E' R hR
  have ha':(match Manifest.signature? "BaseException.__getattribute__" with
   |some sig=>Bind.checkArgs "BaseException.__getattribute__" sig { pos:=[Value.ref x]++[Value.str (Str.ofString "__class__") t] }
   |x=>pure ())=pure ():=ha
  rw[ha'];exact a_1 hR
 rw[a_6 (by decide)];refine key ?_;refine fH_ (C:=C) k X L0' ?_;exact a_1 (a_1 h)
theorem eX_(k:ExcK K C):KitX K (.ref a) (.ref C) (λh=>∃o,h.get? a=some o/\o.cls=.ref C) where
 ty:=λM h _ ⟨o,h1,h2⟩=>h2▸(Looks.ld h1).andThen .now
 it:=λ_ _ X _=>by
  obtain⟨cdD,hcD⟩:=aG'.mp k.cl;unfold clsIn at hcD;split at hcD
  ·rename_i c' d' cd' sl' ho
   intro A' Q' E' s' kk q;unfold isType loadHead;exact a__ (wpAny_loadPart (kk _ _ (X _ _ ho)) (a_1 q))
  ·cases hcD
 ne:=λh tp dd its n sl X htp=>by
  obtain⟨cdD,hcD⟩:=aG'.mp k.cl;refine Bool.eq_false_iff.mpr λq=>?_;have e:C=tp:=Value.ref.inj (beq_iff_eq.mp q);subst e;unfold clsIn at hcD;split at hcD
  ·rename_i c' d' cd' sl' ho
   have z:=(X _ _ ho).symm.trans htp;cases z
  ·cases hcD
 ca:=λX ⟨o,h1,h2⟩ q=>cQ_ k X (λM=>h2▸(Looks.ld h1).andThen .now) q
end
def clsV:V->Option Aa
 |.ref C=>some (.ref C)
 |.ty T=>some (.type T)
 |_=>none
theorem ez_{c:V}{u v:Aa}(r:RelV c u)(h:clsV c=some v):u=v:=by
 cases c with
 |ref C=>cases h;exact r
 |ty T=>cases h;exact r
 |_=>cases h
inductive rIsiC (K:F__) (xs:List V) (H:Hp) (Q:VK):Prop
 |mk:∀x C t b,xs=[x,.ref C]->TyOf K H x t->PySem.W.kitOne K t (.ref C)=some b->Q (.bl b) H->rIsiC K xs H Q
theorem gI_:bc' X (.builtin "isinstance") (rIsiC X.K):=by
 intro pins s σ H xs us Q I r h;obtain⟨x,C,t,b,rfl,ty,e,q⟩:=h;obtain⟨u,w',rfl,ru,rw'⟩:=vals2 r;cases (show w'=Value.ref C from rw');exact dz_ I ru ty e λtk=>⟨.bl b,H,I.tok tk,rfl,q⟩
abbrev Cx.inX(X:Cx)(a:Addr):Cx:={ X with A:=X.A.mark (some (.ref a)),calm:=false }
theorem Cx.Ok.inX(ok:X.Ok)(a:Addr):(X.inX a).Ok:=
 ⟨ok.mod,ok.kind,ok.glob,ok.blt,ok.above,ok.inj,ok.has,ok.cab,λz=>absurd z Z2,ok.frames,ok.stk,ok.exf,ok.bs,ok.bsz,ok.noex,ok.exfs,ok.funs,ok.frf⟩
variable{H:Hp}
theorem Inv.inX(I:Inv X pins σ H s)(a:Addr):Inv (X.inX a) pins σ H s:=⟨I.ok.inX a,I.os,I.bare,I.base,I.loc,I.cell,I.free,I.freeC,I.pin,I.hok,I.len⟩
theorem Inv.outX(ok:X.Ok)(I:Inv (X.inX a) pins σ H s):Inv X pins σ H s:=⟨ok,I.os,I.bare,I.base,I.loc,I.cell,I.free,I.freeC,I.pin,I.hok,I.len⟩
theorem br_{M:Model}{A:Ah}{E:Aa->Ab->Prop}{i:Nat}{n:Str}{Q:Unit->Ab->Prop}(I:Inv X pins σ H s)(hN:X.N.Nodup)(hi:X.N[i]? = some n)(hl:X.env.scope.names.lookup n=some .local)(h:∀s',Inv X pins (σ.set i none) H s'->Q () s'):wpAny M A (do bindName X.env n .none;unbindBehindTheSuite X.env n pos) Q E s:=by
 obtain⟨m,hn,hl'⟩:=id I.loc;have hcls:(X.env.scope.kind == .class || (X.env.scope.kind == .module&&X.env.locals != X.env.globals))=false:=by rw[I.ok.kind];rfl
 have hiσ:i<σ.length:=by rw[I.len];exact (ac'.mp hi).1
 have cne:=I.cne;refine wpAny_nameGoes_keeps hl hn hcls λh' v hn' hs=>?_;obtain⟨oL,_,_,hoL,_⟩:=id hn;refine h _ ⟨I.ok,I.os,I.bare,⟨λb o e n hb hx=>?_,λb o e n hb hx=>?_,I.base.free,λb o e hx=>?_,I.base.tups,I.base.frzs,I.base.tbls⟩,⟨_,hn',λj y v' e1 e2 e3=>?_⟩,λy c e=>?_,I.free,I.freeC,λp hp=>?_,λb ob e=>?_,by simpa using I.len⟩
 ·exact (hs.2 b (aj' (aq' (a_2 e) I.ok.above))).trans (I.base.keep b o e n hb hx)
 ·obtain⟨sl,e1⟩:=I.base.slot b o e n hb hx;exact⟨sl,(hs.2 b (aj' (aq' (a_2 e) I.ok.above))).trans e1⟩
 ·obtain⟨o',e1⟩:=I.base.there b o e hx;exact⟨o',(hs.2 b (aj' (aq' (a_2 e) I.ok.above))).trans e1⟩
 ·by_cases hj:j=i
  ·subst hj;rw[List.getElem?_set_self hiσ] at e2;cases e2
  ·rw[List.getElem?_set_ne (Ne.symm hj)] at e2;obtain⟨u',r',q⟩:=hl' j y v' e1 e2 e3;refine⟨u',r',?_⟩;rcases q with⟨k,e⟩|⟨k,c,e,z⟩
   ·refine .inl ⟨k,?_⟩;have:y≠n:=λe=>hj (dq_ hN e1 (e▸hi));simp[this,e]
   ·exact .inr ⟨k,c,e,z.sameBut hs (cne y c e)⟩
 ·obtain⟨w',z⟩:=I.cell y c e;exact⟨w',z.sameBut hs (cne y c e)⟩
 ·obtain⟨e,n,ne,nf,d⟩:=I.pin p hp;exact⟨(hs.2 p.1 ne).trans e,n,ne,nf,d⟩
 ·refine (I.hok b ob e).stay (λc w' hc q=>(hs.2 c ?_).trans q) (λ_ q=>q) λ_ _ q=>q;rintro rfl;rcases hc with z|hc
  ·rw[<- z,I.free] at e;cases e
  ·rw[I.free] at hc;cases hc
def Ends.gone(D:Ends)(i:Nat):Ends:={ nx:=λσ H=>D.nx (σ.set i none) H,rt:=D.rt,bk:=λσ H=>D.bk (σ.set i none) H,ct:=λσ H=>D.ct (σ.set i none) H }
end L2
namespace Ev
open PySem L2
abbrev sCWays:Stmt:=top 45
abbrev cZ':Stmt:=top 46
abbrev cu':Stmt:=top 47
abbrev dc':Stmt:=top 48
abbrev sCell:Stmt:=top 50
abbrev sDigit:Stmt:=top 51
abbrev sNames:Stmt:=top 52
abbrev sLWeb:Stmt:=top 53
abbrev sWays:Stmt:=top 54
abbrev c6':Stmt:=top 55
abbrev sGd:Stmt:=top 17
abbrev sLM:Stmt:=top 18
abbrev bQ':Stmt:=top 21
abbrev cG':Stmt:=top 22
abbrev sMult:Stmt:=top 23
abbrev cX':Stmt:=top 24
abbrev bR':Stmt:=top 25
abbrev c9':Stmt:=top 29
abbrev b0':Stmt:=top 30
abbrev bH':Stmt:=top 31
abbrev sSumAt:Stmt:=top 28
abbrev sFrac:Stmt:=top 19
abbrev sRise:Stmt:=top 26
abbrev b5':Stmt:=top 27
abbrev cM':Stmt:=top 33
abbrev db':Stmt:=top 34
abbrev dg':Stmt:=top 32
abbrev sStand:Stmt:=top 56
abbrev sMade:Stmt:=top 57
abbrev sAsked:Stmt:=top 58
abbrev sSpoil:Stmt:=top 59
abbrev sLaw:Stmt:=top 60
def But(l:Addr)(H H':Hp):Prop:=∀b o,H b=some o->b≠l->H' b=some o
theorem But.refl(l:Addr)(H:Hp):But l H H:=λ_ _ e _=>e
variable{l:Addr}{H H1:Hp}
theorem But.trans{H2:Hp}(h:But l H H1)(h2:But l H1 H2):But l H H2:=λb o e n=>h2 b o (h b o e n) n
theorem But.of(h:Same H H1):But l H H1:=λb o e _=>h b o e
theorem But.upd{o:HO}:But l H (upd H l o):=λb u e n=>by rw[a7_ n];exact e
def stt(H:Hp)(l:Addr):Prop:=(∃n:Int,H l=some (.lst [.int n]))∨∃n m c:Int,H l=some (.lst [.int n,.int m,.int c])
theorem stt.some(h:stt H l):∃xs,H l=some (.lst xs):=by
 rcases h with⟨n,e⟩|⟨n,m,c,e⟩
 ·exact⟨_,e⟩
 ·exact⟨_,e⟩
variable{H':Hp}
theorem But.free{b:Addr}(h:But l H H')(s:stt H' l)(e:H' b=none):H b=none:=by
 cases z:H b with
 |none=>rfl
 |some o=>
  by_cases q:b=l
  ·subst q;obtain⟨xs,e2⟩:=s.some;rw[e] at e2;cases e2
  ·rw[h b o z q] at e;cases e
theorem bG_{α:Type}{xs:List α}{i:Int}(h0:0<=i)(h1:i<xs.length):atI xs i=xs[i.toNat]?:=by
 unfold atI ixN;rw[a_8 h0,a_8 h1];rfl
def bv':Sp:=λvs H Q _=>∃(l:Addr) (b:Int),vs=[.ref l,.int b]/\0<b/\b<1073741824/\stt H l/\∀r H',0<=r->r<b->But l H H'->stt H' l->Q (.int r) H'
theorem small(x:Int):-(2 ^ 64)<x % 2147483647/\x % 2147483647<2 ^ 64:=by
 have h1:=Int.emod_nonneg x (b:=2147483647) (by decide);have h2:=Int.emod_lt_of_pos x (b:=2147483647) (by decide);exact⟨by omega,by omega⟩
theorem eK_:("abcdefghijklmnopqrstuvwxyz":Str).cps.toList=[97,98,99,100,101,102,103,104,105,106,107,108,109,110,111,112,113,114,115,116,117,118,119,120,121,122]:=by decide +kernel
variable{r:Int}
theorem jv_(h0:0<=r)(h1:r<26):∃c,atI ("abcdefghijklmnopqrstuvwxyz":Str).cps.toList r=some c/\okc c=true:=by
 rw[eK_,bG_ h0 (by simpa using h1)];have hn:r.toNat<26:=by omega
 refine⟨_,ab' (by simpa using hn),?_⟩;have all:∀c∈[97,98,99,100,101,102,103,104,105,106,107,108,109,110,111,112,113,114,115,116,117,118,119,120,121,122],okc c=true:=by decide +kernel
 exact all _ (aS' _)
theorem hit2{α:Type}{a b:α}(h0:0<=r)(h1:r<2):atI [a,b] r=some a∨atI [a,b] r=some b:=by
 have:r=0∨r=1:=by omega
 rcases this with rfl|rfl
 ·exact .inl rfl
 ·exact .inr rfl
variable{K:F__}
theorem aw_{ys:List V}{ks:List (List Key)}(t:aZ' K H ys ks)(b:But l H H'){xs:List V}(hl:H l=some (.lst xs)):aZ' K H' ys ks:=Paired.mapP t λy k ⟨a,z,q⟩=>⟨a,z,b _ _ q (aD_ q hl nofun)⟩
def kO(t:Str × Str):List Key:=kT (ord2 t.1 t.2)
structure TI (ns:List Str) (k j:Nat) (ts:Xb):Prop where
 at':∀t∈ts,∃(a b:Nat) (x y:Str),b<a/\(a<k∨(a=k/\b<j))/\ns[a]? = some x/\ns[b]? = some y/\(t=(x,y)∨t=(y,x))
 nd:(ts.map kO).Nodup
 len:ts.length<=7 * k+j
theorem eY_{a b:Str × Str}(h:kT a=kT b):a=b:=by
 unfold kT at h;obtain⟨h1,h2⟩:=c_3 h;obtain⟨h2,_⟩:=c_3 h2;exact Prod.ext (c_1 h1) (c_1 h2)
variable{i j:Nat}{ns:List Str}
theorem co_(nd:ns.Nodup){x:Str}(h:ns[i]? = some x)(h2:ns[j]? = some x):i=j:=by
 obtain⟨hi,e1⟩:=ac'.mp h;obtain⟨hj,e2⟩:=ac'.mp h2;exact (List.getElem_inj nd).mp (e1.trans e2.symm)
theorem j3_{a b c d:Str}(h:kO (a,b)=kO (c,d)):(a=c/\b=d)∨(a=d/\b=c):=by
 have h:=eY_ h;dsimp only at h;rcases cF_ a b with e|e<;>rcases cF_ c d with e2|e2<;>rw[e,e2] at h<;>have h1:=(Prod.mk.inj h).1<;>have h2:=(Prod.mk.inj h).2
 ·exact .inl ⟨h1,h2⟩
 ·exact .inr ⟨h1,h2⟩
 ·exact .inr ⟨h2,h1⟩
 ·exact .inl ⟨h2,h1⟩
theorem eZ_(ns:List Str)(k:Nat):cutV (ns.map V.str) none (some (k:Int))=(ns.take k).map V.str:=by
 unfold cutV;rw[HT.sIx_none,HT.sIx_nat,List.drop_zero,Nat.sub_zero,List.map_take,aa'];by_cases h:k<=ns.length
 ·rw[Nat.min_eq_left h]
 ·rw[Nat.min_eq_right Z1,aF' (by rw[aa'];omega),aF' (by rw[aa'];omega)]
theorem stt.same(h:stt H l)(s:Same H H'):stt H' l:=by
 rcases h with⟨n,e⟩|⟨n,m,c,e⟩
 ·exact .inl ⟨n,s _ _ e⟩
 ·exact .inr ⟨n,m,c,s _ _ e⟩
theorem gk_{a b:Str}(h:ltS a b=true):ltS b a=false:=dv_ (a:=Sum.inr a) (b:=Sum.inr b) h
theorem iv_{a b:Str}(h:ltS a b=false)(h2:ltS b a=false):a=b:=c_1 (fC_ (a:=Sum.inr a) (b:=Sum.inr b) h h2)
theorem dA_(a b:Str):ord2 a b=ord2 b a:=by
 unfold ord2;by_cases h:ltS a b=true
 ·rw[a_8 h,a_6 (by rw[gk_ h];decide)]
 ·by_cases h2:ltS b a=true
  ·rw[a_6 h,a_8 h2]
  ·have:=iv_ (by simpa using h) (by simpa using h2);subst this;rw[a_6 h]
variable{ts:Xb}
theorem cD'{x:Str × Str}:x∈tsOf ts ↔ ∃t∈ts,ord2 t.1 t.2=x:=by
 have e:kT x∈(tsOf ts).map kT ↔ x∈tsOf ts:=⟨λh=>by
  obtain⟨y,hy,e⟩:=ah'.mp h;rw[<- eY_ e];exact hy,λh=>ah'.mpr ⟨x,h,rfl⟩⟩
 rw[<- e,cA_,(aq_ _).mem_iff,ah'];exact⟨λ⟨t,ht,q⟩=>⟨t,ht,eY_ q⟩,λ⟨t,ht,q⟩=>⟨t,ht,by rw[q]⟩⟩
theorem iV_(a b:Str):kO (a,b)=kO (b,a):=by
 show kT (ord2 a b)=kT (ord2 b a);rw[dA_]
theorem scCell:aX' ["_law_script","_law_k"] ["_law_script","_law_k"] (aW' sCell):=f__
def de'(K:F__):Sp:=λvs H Q _=>∃(l:Addr) (ns:List Int) (k:Int),vs=[.ref l,.int k]/\0<=k/\SqL K H l (ns.map V.int)/\∀n,Q (.int n) H
variable{f:Addr}{fd:Ae}{P:Ad}{w:Af}{mg:Str->Option Aa}{base:Heap}
theorem is_(F:Fun K "_law_cell_at" "_law_cell_at" sCell f fd)(B:Bi mg):FnOk P w K mg base CX0 1 f fd ["_law_script","_law_k"] (de' K):=by
 refine F.ok scCell (λvs H Q E h=>?_) (λcdv A outer s H vs Q E hr h=>?_)
 ·obtain⟨l,ns,k,rfl,_⟩:=h;rfl
 ·obtain⟨l,ns,i,rfl,h0,hl,k⟩:=h;refine⟨_,a3_ (aj_ (ah_ j9_ (pv 1) (a8_ ai_ (by rfl) B.len b_7 (a0_ (pv 0) a2_)) (nomark _)) (a4_ (aa_ (an_ ar_ (pv 0) (pv 1) (λ_ _=>rfl)))) ad_) (a4_ (aa_ a6_)),?_⟩;refine⟨_,rfl,_,rfl,l,_,rfl,.inl hl,_,_,rfl,rfl,_,rfl,?_⟩;refine ite2 (λc=>?_) (λc=>?_)
  ·have c:i<(ns.map V.int).length:=by simpa using c
   have e:atI (ns.map V.int) i=some (.int (ns[i.toNat]'(by rw[aa'] at c;omega))):=by
    rw[bG_ h0 c,ao',ab' (by rw[aa'] at c;omega)];rfl
   exact⟨_,rfl,_,rfl,l,_,_,_,rfl,rfl,hl,e,k _⟩
  ·exact k 0
theorem cf':aX' ["_law_state","_law_base","_law_cell","_law_found","_law_number"] ["_law_state","_law_base"] (aW' sDigit):=f__
theorem pick2{n:Int}(b:Bool):∃m:Int,atI [V.int 0,V.int n] (if b then 1 else 0)=some (.int m):=by
 cases b
 ·exact⟨0,rfl⟩
 ·exact⟨n,rfl⟩
theorem hL_(F:Fun K "_law_digit" "_law_digit" sDigit f fd)(B:Bi mg):FnOk P w K mg base CX0 1 f fd ["_law_state","_law_base"] bv':=by
 refine F.ok cf' (λvs H Q E h=>?_) (λcdv A outer s H vs Q E hr h=>?_)
 ·obtain⟨l,b,rfl,_⟩:=h;rfl
 ·obtain⟨l,b,rfl,h0,h1,st,k⟩:=h
  refine⟨_,a3_ (aj_ (ah_ bY_ (a8_ ai_ (by rfl) B.len b_7 (a0_ (pv 0) a2_)) a6_ (nomark _))
    (a3_ (ab_ (i:=2) cf'.nd rfl (Or.inl rfl) (an_ ar_ (pv 0) a6_ (λ_ _=>rfl)))
    (a3_ (dy_ (an_ ar_ (aK_ (a0_ a6_ (a0_ (pv 2) a2_))) (am_ cH_ (by rfl) B.int PyProof.Rows.Boot.«int» (a0_ (e6_ jK_ (pv 2) (al_ hZ_ a6_ a6_) (nomark _)) a2_)) (λ_ _=>rfl)) (gm_ (pv 0) a6_ dh_))
    (a4_ (aV_ (gj_ PySem.F.plainAttrs_list PySem.F.slot_list_extend PySem.F.type_list_extend fJ_ (pv 0) (a0_ (aK_ (a0_ (al_ bZ_ (pv 2) a6_) (a0_ a6_ a2_))) a2_)))))) ad_)
   (a3_ (aj_ (ah_ iy_ (an_ ar_ (pv 0) a6_ (λ_ _=>rfl)) a6_ (nomark _))
    (a3_ (ab_ (i:=3) cf'.nd rfl (Or.inl rfl) (al_ bZ_ (an_ ar_ (pv 0) a6_ (λ_ _=>rfl)) (pv 1)))
    (a3_ (dy_ (al_ bm_ (an_ ar_ (pv 0) a6_ (λ_ _=>rfl)) (pv 1)) (gm_ (pv 0) a6_ dh_))
    (a4_ (aa_ (pv 3))))) ad_)
   (a3_ (dy_ (al_ b4_ (an_ ar_ (pv 0) a6_ (λ_ _=>rfl)) a6_) (gm_ (pv 0) a6_ dh_))
   (a3_ (ab_ (i:=4) cf'.nd rfl (Or.inl rfl) (al_ bZ_ (al_ cd_ (al_ b4_ (al_ b4_ (an_ ar_ (pv 0) a6_ (λ_ _=>rfl)) (al_ cd_ a6_ (an_ ar_ (pv 0) a6_ (λ_ _=>rfl)))) a6_) a6_) a6_))
   (a3_ (ab_ (i:=4) cf'.nd rfl (Or.inl rfl) (al_ bZ_ (al_ cd_ (pv 4) (al_ b4_ (al_ bm_ (pv 4) a6_) a6_)) a6_))
   (a4_ (aa_ (al_ bZ_ (al_ bZ_ (al_ cd_ (pv 4) (al_ b4_ (al_ bm_ (pv 4) a6_) a6_)) a6_) (pv 1)))))))),?_⟩
  rcases st with⟨n,hl0⟩|⟨n,m,c,hl⟩
  case' inl=>
   refine⟨_,rfl,l,_,rfl,.inl (.of hl0),rfl,_,rfl,iteT ?_⟩;refine⟨_,rfl,l,_,_,_,rfl,rfl,.of hl0,rfl,?_⟩;refine⟨_,rfl,by show 2<=sizeLine;decide,λp hp=>?_⟩;have lp:l≠p:=a5_ hl0 hp;refine⟨_,rfl,_,_,rfl,rfl,⟨by decide,by decide,by decide⟩,_,_,rfl,rfl,.inr ⟨_,rfl,?_⟩⟩;obtain⟨n',hn'⟩:=pick2 (n:=n) (decide ((10:Int) ^ (18:Int).toNat<=n));refine⟨p,_,_,_,rfl,rfl,.of a1_,hn',?_⟩;refine⟨_,rfl,l,_,_,0,rfl,rfl,by rw[a7_ lp];exact hl0,rfl,?_⟩;have hl1:(upd (upd H p (.lst [.int 0,.int n])) l (.lst ([V.int n].set 0 (.int n')))) l=some (.lst [.int n']):=a1_;have bt1:But l H (upd (upd H p (.lst [.int 0,.int n])) l (.lst ([V.int n].set 0 (.int n')))):=(But.of (Same.new hp)).trans But.upd;generalize (upd (upd H p (.lst [.int 0,.int n])) l (.lst ([V.int n].set 0 (.int n'))))=Ha at hl1 bt1 ⊢;refine⟨_,rfl,.inl ⟨rfl,_,.of hl1⟩,_,rfl,_,_,rfl,rfl,by show (0:Int)<2147483647;decide,by show 2<=sizeLine;decide,λq hq=>?_⟩;refine⟨l,q,_,_,rfl,rfl,Same.new hq _ _ hl1,a1_,by show 1+2<=sizeLine;decide,?_⟩;have bt:But l H (upd (upd Ha q (.lst [.int (n % 2147483647),.int 0])) l (.lst ([.int n']++[.int (n % 2147483647),.int 0]))):=bt1.trans ((But.of (Same.new hq)).trans But.upd);have hl:(upd (upd Ha q (.lst [.int (n % 2147483647),.int 0])) l (.lst ([.int n']++[.int (n % 2147483647),.int 0]))) l=some (.lst [.int n',.int (n % 2147483647),.int 0]):=a1_;generalize (upd (upd Ha q (.lst [.int (n % 2147483647),.int 0])) l (.lst ([.int n']++[.int (n % 2147483647),.int 0])))=H1 at bt hl ⊢
  case' inr=>
   refine⟨_,rfl,l,_,rfl,.inl (.of hl),rfl,_,rfl,iteF ?_⟩;have bt:=But.refl l H
  all_goals
   refine⟨_,rfl,l,_,_,_,rfl,rfl,.of hl,rfl,_,_,rfl,rfl,_,rfl,?_⟩;refine ite2 (λc=>?_) (λc=>?_)
   ·refine⟨_,rfl,l,_,_,_,rfl,rfl,.of hl,rfl,_,rfl,_,_,rfl,rfl,h0,?_⟩;refine⟨_,rfl,l,_,_,_,rfl,rfl,.of hl,rfl,_,rfl,_,_,rfl,rfl,⟨h0,h1⟩,_,rfl,l,_,_,0,rfl,rfl,hl,rfl,?_⟩;exact⟨_,rfl,k _ _ (Int.emod_nonneg _ Z1) (Int.emod_lt_of_pos _ h0) (bt.trans But.upd) (.inr ⟨_,_,_,a1_⟩)⟩
   ·refine⟨_,rfl,l,_,_,_,rfl,rfl,.of hl,rfl,_,_,rfl,rfl,_,rfl,l,_,_,2,rfl,rfl,hl,rfl,?_⟩;refine⟨_,rfl,l,_,_,_,rfl,rfl,.of a1_,rfl,_,rfl,l,_,_,_,rfl,rfl,.of a1_,rfl,_,_,rfl,rfl,.inl ⟨by decide,by decide⟩,_,_,rfl,rfl,_,_,rfl,rfl,_,_,rfl,rfl,.inr ⟨by decide,by decide⟩,_,_,rfl,rfl,by show (0:Int)<2147483647;decide,?_⟩;refine⟨_,rfl,_,rfl,_,_,rfl,rfl,⟨by decide,by decide⟩,_,_,rfl,rfl,_,_,rfl,rfl,.inl (small _),_,_,rfl,rfl,by show (0:Int)<2147483647;decide,?_⟩;refine⟨_,rfl,_,rfl,_,_,rfl,rfl,⟨by decide,by decide⟩,_,_,rfl,rfl,_,_,rfl,rfl,.inl (small _),_,_,rfl,rfl,by show (0:Int)<2147483399;decide,_,rfl,_,_,rfl,rfl,h0,?_⟩;exact k _ _ (Int.emod_nonneg _ Z1) (Int.emod_lt_of_pos _ h0) (bt.trans But.upd) (.inr ⟨_,_,_,a1_⟩)
theorem pa_s{X:Cx}{x:Str}{pos:Pos}{es:List Expr}{t:TA}(hr:PA X es t):PA X (.Constant (.str x) j pos::es) (bm' (tC (.str x)) t):=a0_ ao_ hr (by rfl)
def strC:Expr->Option Str
 |.Constant (.str x) _ _=>some x
 |_=>none
def tStrs(xs:List Str):TA:=λ_ H Q=>Q (xs.map V.str) H
theorem eh_{X:Cx}:∀{es:List Expr} {xs:List Str},es.map strC=xs.map some->PA X es (tStrs xs)
 |[],[],_=>a2_
 |[],_::_,h=>by cases h
 |_::_,[],h=>by cases h
 |e::es,x::xs,h=>by
  rw[ax',ax'] at h;obtain⟨h1,h2⟩:=c_3 h;have ih:=eh_ (X:=X) h2;unfold strC at h1;split at h1
  ·cases h1;exact pa_s ih
  ·cases h1
def a3':List Str:=["hand","tie","piece","yard","free","fixed","none","tick","come","go","rest","run","show","ok"]
theorem h5_:a3'.Nodup:=by decide +kernel
theorem h0_:∀n∈a3',a8' n=true:=by decide +kernel
structure Nm (m:Nat) (ns:List Str):Prop where
 len:ns.length=m
 nd:ns.Nodup
 ok:∀n∈ns,a8' n=true
 end_:∀n∈ns,n∈a3'∨∃k,k<m/\n.cps.toList.getLast? = some (97+k % 26)
theorem eM_(ns:List Str)(k:Nat)(h:k<=ns.length):cutV (ns.map V.str) (some (k:Int)) none=(ns.drop k).map V.str:=by
 unfold cutV;rw[HT.sIx_nat,HT.sIx_none,aa',Nat.min_eq_left h,List.map_drop,aF'];rw[aQ',aa'];omega
variable{m:Nat}
theorem hk_{t:Nat}(hm:m<15)(ht:t<=14):Nm m ((a3'.drop t++a3'.take t).take m):=by
 have p:(a3'.drop t++a3'.take t).Perm a3':=List.perm_append_comm.trans (by rw[List.take_append_drop]);have sub:=List.take_sublist m (a3'.drop t++a3'.take t);have hl:(a3'.drop t++a3'.take t).length=14:=p.length_eq;refine⟨?_,sub.nodup (p.nodup_iff.mpr h5_),λn hn=>h0_ n (p.mem_iff.mp (sub.subset hn)),λn hn=>.inl (p.mem_iff.mp (sub.subset hn))⟩;rw[ai',hl];omega
def Tl(m k:Nat)(n:Str):Prop:=a8' n=true/\∃w:List Nat,n.cps.toList=w++(if 26<m then [97+k / 26] else [])++[97+k % 26]
theorem jA_{n:Str}(hm:m<=676)(hi:i<m)(hj:j<m)(a:Tl m i n)(b:Tl m j n):i=j:=by
 obtain⟨_,w1,e1⟩:=a;obtain⟨_,w2,e2⟩:=b;rw[e1] at e2;have l:=b_5 List.getLast? e2;rw[List.getLast?_append,List.getLast?_append] at l;simp at l;by_cases h:26<m
 ·rw[a_8 h,a_8 h] at e2;have z:=List.append_inj' e2 rfl;have z2:=List.append_inj' z.1 rfl;have:=(c_3 z2.2).1;omega
 ·omega
theorem hc_(hm:m<=676)(hl:ns.length=m)(h:∀k n,ns[k]? = some n->Tl m k n):Nm m ns:=by
 refine⟨hl,?_,λn hn=>?_,λn hn=>?_⟩
 ·rw[aI',List.pairwise_iff_getElem];intro i j hi hj lt e;have a:=h i _ (ab' hi);have b:=h j _ (ab' hj);rw[e] at a;have:=jA_ hm Z1 Z1 a b;omega
 ·obtain⟨k,hk,e⟩:=az' hn;exact (h k n (by rw[ab' hk,e])).1
 ·obtain⟨k,hk,e⟩:=az' hn;obtain⟨_,w,e2⟩:=h k n (by rw[ab' hk,e]);refine .inr ⟨k,by omega,?_⟩;rw[e2,List.getLast?_append];rfl
variable{q:Nat}
theorem gt_(h:q<26):atI ("abcdefghijklmnopqrstuvwxyz":Str).cps.toList (q:Int)=some (97+q):=by
 rw[eK_,bG_ Z1 (by show (q:Int)<((26:Nat):Int);omega),aT'];have all:∀i:Fin 26,[97,98,99,100,101,102,103,104,105,106,107,108,109,110,111,112,113,114,115,116,117,118,119,120,121,122][i.val]? = some (97+i.val):=by decide +kernel
 exact all ⟨q,h⟩
theorem bV_(x:Str)(c:Nat):(x++(⟨#[c]⟩:Str)).cps.toList=x.cps.toList++[c]:=PySem.W.KT.app_list _ _
theorem bd_(x:Str):x.length=x.cps.toList.length:=by rw[aH'];rfl
theorem g6_(h:q<26):okc (97+q)=true:=by
 unfold okc;rw[a_5 Z1,a_5 Z1];rfl
theorem bk':aX' ["_law_state","_law_many","_law_letters","_law_words","_law_turn","_law_names_here","_law_k","_law_word","_law_j"] ["_law_state","_law_many"] (aW' sNames):=f__
def cI':Sp:=λvs H Q _=>∃(l:Addr) (m:Nat),vs=[.ref l,.int m]/\m<=30/\stt H l/\∀(a:Addr) (ns:List Str) (H':Hp),But l H H'->stt H' l->H a=none->H' a=some (.lst (ns.map V.str))->Nm m ns->Q (.ref a) H'
theorem hl_(F:Fun K "_law_names" "_law_names" sNames f fd)(B:Bi mg)(cD:Cal P w K mg base 1 "_law_digit" ["_law_state","_law_base"] bv'):FnOk P w K mg base CX0 2 f fd ["_law_state","_law_many"] cI':=by
 refine F.ok bk' (λvs H Q E h=>?_) (λcdv A outer s H vs Q E hr h=>?_)
 ·obtain⟨l,m,rfl,_⟩:=h;rfl
 ·obtain⟨l,m,rfl,m30,st,k⟩:=h;have sz:=b_1;refine' ⟨_,?u0,?kk⟩
  case' u0=>refine' a3_ ?u1 ?u2
  case u1=>exact ab_ (i:=2) bk'.nd rfl (Or.inl rfl) ao_
  case' u2=>refine' a3_ ?u3 ?u4
  case' u3=>refine' ab_ (i:=3) ?u5 ?u6 ?u7 ?u8
  case u5=>exact bk'.nd
  case u6=>exact rfl
  case u7=>exact Or.inl rfl
  case' u8=>refine' aK_ ?u9
  first|(case' u9=>refine' eh_ (xs:=a3') ?u10)|(case' u8=>refine' eh_ (xs:=a3') ?u10)
  first|(case u10=>exact by decide +kernel)|(case u9=>exact by decide +kernel)
  case' u4=>refine' a3_ ?u11 ?u12
  case' u11=>refine' aj_ ?u13 ?u14 ?u15
  case' u13=>refine' PW.pt ?u16
  first|(case' u16=>refine' hU_ ?u17 ?u18)|(case' u13=>refine' hU_ ?u17 ?u18)
  case u17=>exact ah_ j9_ (pv 1) a6_ (nomark _)
  case u18=>exact il_ (ah_ bY_ (af_ cD hr (a0_ (pv 0) (a0_ a6_ a2_))) a6_ (nomark _))
  case' u14=>refine' a3_ ?u19 ?u20
  case u19=>exact ab_ (i:=4) bk'.nd rfl (Or.inl rfl) (af_ cD hr (a0_ (pv 0) (a0_ a6_ a2_)))
  case' u20=>refine' a4_ ?u21
  first|(case' u21=>refine' aa_ ?u22)|(case' u20=>refine' aa_ ?u22)
  first|(case' u22=>refine' b1_ ?u23 ?u24 ?u25 ?u26)|(case' u21=>refine' b1_ ?u23 ?u24 ?u25 ?u26)
  case u23=>exact bt_
  case u24=>exact al_ fG_ (b1_ bt_ (pv 3) (bu_ (pv 4)) bs_) (b1_ bt_ (pv 3) bs_ (bu_ (pv 4)))
  case u25=>exact bs_
  case u26=>exact bu_ (pv 1)
  case u15=>exact ad_
  case' u12=>refine' a3_ ?u27 ?u28
  case u27=>exact ab_ (i:=5) bk'.nd rfl (Or.inl rfl) (aK_ a2_)
  case' u28=>refine' a3_ ?u29 ?u30
  case' u29=>refine' aM_ ?u31 ?u32 ?u33 ?u34 ?u35
  case u31=>exact b_2
  case u32=>exact rfl
  case u33=>exact cC_ (by rfl) B.range (a0_ (pv 1) a2_)
  case u34=>exact a9_ (i:=6) bk'.nd rfl (Or.inl rfl)
  case' u35=>refine' a3_ ?u36 ?u37
  case u36=>exact ab_ (i:=7) bk'.nd rfl (Or.inl rfl) ao_
  case' u37=>refine' a3_ ?u38 ?u39
  case' u38=>refine' aM_ ?u40 ?u41 ?u42 ?u43 ?u44
  case u40=>exact b_2
  case u41=>exact rfl
  case' u42=>refine' cC_ ?u45 ?u46 ?u47
  case u45=>exact by rfl
  case u46=>exact B.range
  case u47=>exact a0_ (af_ cD hr (a0_ (pv 0) (a0_ (al_ gN_ a6_ (al_ bm_ (pv 1) a6_)) a2_))) a2_
  case u43=>exact a9_ (i:=8) bk'.nd rfl (Or.inl rfl)
  case' u44=>refine' a4_ ?u48
  first|(case' u48=>refine' ab_ (i:=7) ?u49 ?u50 ?u51 ?u52)|(case' u44=>refine' ab_ (i:=7) ?u49 ?u50 ?u51 ?u52)
  case u49=>exact bk'.nd
  case u50=>exact rfl
  case u51=>exact Or.inl rfl
  case u52=>exact al_ c5_ (pv 7) (an_ gr_ (pv 2) (af_ cD hr (a0_ (pv 0) (a0_ a6_ a2_))) (λ_ _=>rfl))
  case' u39=>refine' a3_ ?u53 ?u54
  case' u53=>refine' aj_ ?u55 ?u56 ?u57
  case u55=>exact ah_ iy_ (pv 1) a6_ (nomark _)
  case' u56=>refine' a4_ ?u58
  first|(case' u58=>refine' ab_ (i:=7) ?u59 ?u60 ?u61 ?u62)|(case' u56=>refine' ab_ (i:=7) ?u59 ?u60 ?u61 ?u62)
  case u59=>exact bk'.nd
  case u60=>exact rfl
  case u61=>exact Or.inl rfl
  case u62=>exact al_ c5_ (pv 7) (an_ gr_ (pv 2) (al_ bm_ (pv 6) a6_) (λ_ _=>rfl))
  case u57=>exact ad_
  case' u54=>refine' a4_ ?u63
  first|(case' u63=>refine' aV_ ?u64)|(case' u54=>refine' aV_ ?u64)
  first|(case' u64=>refine' gj_ ?u65 ?u66 ?u67 ?u68 ?u69 ?u70)|(case' u63=>refine' gj_ ?u65 ?u66 ?u67 ?u68 ?u69 ?u70)
  case u65=>exact PySem.F.plainAttrs_list
  case u66=>exact PySem.F.slot_list_append
  case u67=>exact PySem.F.type_list_append
  case u68=>exact c0_
  case u69=>exact pv 5
  case u70=>exact a0_ (al_ c5_ (pv 7) (an_ gr_ (pv 2) (al_ bZ_ (pv 6) a6_) (λ_ _=>rfl))) a2_
  case u30=>exact a4_ (aa_ (pv 5))
  case' kk=>skip
  refine⟨by show 14<=sizeLine;decide,λlw hlw=>?_⟩;have hw0:upd H lw (.lst (a3'.map V.str)) lw=some (.lst (a3'.map V.str)):=a1_;have s0:Same H (upd H lw (.lst (a3'.map V.str))):=Same.new hlw
  have lwl:lw≠l:=by
   obtain⟨xs,e⟩:=st.some;exact (a5_ e hlw).symm
  have st0:=st.same s0;show tSeq _ _ _ _ (upd H lw (.lst (a3'.map V.str)));generalize upd H lw (.lst (a3'.map V.str))=H0 at hw0 s0 st0 ⊢;refine⟨_,rfl,_,_,rfl,rfl,_,rfl,?_⟩;refine ite2 (λc=>?yes) (λc=>?no)
  case' yes=>
   refine⟨_,rfl,l,8,rfl,by decide,by decide,st0,λr H1 r0 r8 b1 st1=>⟨rfl,_,rfl,?_⟩⟩;refine ite2 (λc2=>?words) (λc2=>?more)
  case words=>
   have c:m<15:=by
    have:(m:Int)<15:=by simpa using c
    omega
   have hw1:=b1 _ _ hw0 lwl;refine⟨_,rfl,l,14,rfl,by decide,by decide,st1,λt H2 t0 t14 b2 st2=>?_⟩;have hw2:=b2 _ _ hw1 lwl;obtain⟨t,rfl⟩:=aw' t0;have t14:t<14:=by omega
   refine⟨_,rfl,_,rfl,_,rfl,lw,_,rfl,.of hw2,λp1 hp1=>?_⟩;rw[eM_ _ _ (by show t<=14;omega)];have s3:=Same.new (o:=.lst ((a3'.drop t).map V.str)) hp1;refine⟨_,rfl,_,rfl,_,rfl,lw,_,rfl,.of (s3 _ _ hw2),λp2 hp2=>?_⟩;rw[eZ_];have s4:=Same.new (o:=.lst ((a3'.take t).map V.str)) hp2;refine⟨p1,p2,_,_,rfl,rfl,s4 _ _ a1_,a1_,?_,λp3 hp3=>?_⟩
   ·rw[aa',aa',aQ',ai'];show 14 - t+min t 14<=sizeLine;omega
   have s5:=Same.new (o:=.lst ((a3'.drop t).map V.str++(a3'.take t).map V.str)) hp3;refine⟨_,rfl,_,rfl,p3,_,rfl,.of a1_,λp4 hp4=>?_⟩
   have e:cutV ((a3'.drop t).map V.str++(a3'.take t).map V.str) none (some (m:Int))=((a3'.drop t++a3'.take t).take m).map V.str:=by
    rw[<- ap',eZ_]
   rw[e];have s6:=s3.trans (s4.trans s5);have b6:=(But.of s0).trans (b1.trans (b2.trans (But.of s6)));have st6:=st2.same s6;exact k p4 _ _ (b6.trans (But.of (Same.new hp4))) (st6.same (Same.new hp4)) (b6.free st6 hp4) a1_ (hk_ c Z1)
  case' no=>
   generalize hH:H0=H1;have b1:But l H0 H1:=by rw[hH];exact But.refl l H1
   have st1:stt H1 l:=by rw[<- hH];exact st0
  all_goals
   refine⟨by show 0<=sizeLine;decide,λa ha=>?_⟩;have s2:=Same.new (o:=.lst []) ha;have b0:But l H H1:=(But.of s0).trans b1;have ha0:H a=none:=b0.free st1 ha
   have hla:l≠a:=by
    obtain⟨xs,e⟩:=st1.some;exact a5_ e ha
   refine⟨_,rfl,_,rfl,by show (-(2 ^ 62):Int)<=(m:Int);omega,by show (m:Int)<(2 ^ 62:Int);omega,?_⟩
   refine bU_ (lo:=0) (n:=(m:Int).toNat) (λi σ H2=>∃(v4 v6 v7 v8:Option V) (ns:List Str),σ=[some (.ref l),some (.int m),some (.str "abcdefghijklmnopqrstuvwxyz"),some (.ref lw),v4,some (.ref a),v6,v7,v8]/\But l H H2/\stt H2 l/\H2 a=some (.lst (ns.map V.str))/\ns.length=i/\∀k n,ns[k]? = some n->Tl m k n)
    ⟨_,_,_,_,[],rfl,b0.trans (But.of s2),st1.same s2,a1_,rfl,λk n e=>by simp at e⟩ ?_ ?_
   ·rintro i σ H2 hi ⟨v4,v6,v7,v8,ns,rfl,b2,st2,ha2,ln,tl⟩;rw[Int.zero_add];have hi:i<m:=by omega
    refine⟨_,rfl,_,rfl,_,_,rfl,rfl,⟨by decide,by decide⟩,_,_,rfl,rfl,l,8 - (m:Int) / 27,rfl,by omega,by omega,st2,λr H3 r0 rb b3 st3=>⟨_,rfl,by show (-(2 ^ 62):Int)<=r;omega,by show r<(2 ^ 62:Int);omega,?_⟩⟩
    refine bU_ (lo:=0) (n:=r.toNat) (λj σ H4=>∃(x:Str) (v8:Option V),σ=[some (.ref l),some (.int m),some (.str "abcdefghijklmnopqrstuvwxyz"),some (.ref lw),v4,some (.ref a),some (.int i),some (.str x),v8]/\But l H H4/\stt H4 l/\H4 a=some (.lst (ns.map V.str))/\x.length=j/\x.cps.toList.all okc=true)
     ⟨"",_,rfl,b2.trans b3,st3,b3 _ _ ha2 hla.symm,rfl,rfl⟩ ?_ ?_
    ·rintro j σ H4 hj ⟨x,v8,rfl,b4,st4,ha4,hx,ho⟩;refine⟨_,rfl,_,rfl,_,rfl,l,26,rfl,by decide,by decide,st4,λq H5 q0 q26 b5 st5=>?_⟩;obtain⟨c,hc,oc⟩:=jv_ q0 q26;refine⟨_,_,_,rfl,rfl,by decide +kernel,hc,_,_,rfl,rfl,?_,_,_,rfl,b4.trans b5,st5,b5 _ _ ha4 hla.symm,?_,?_⟩
     ·have:(⟨#[c]⟩:Str).length=1:=rfl;omega
     ·rw[bd_,bV_,av',<- bd_,hx];rfl
     ·rw[bV_,List.all_append,ho];simp[oc]
    ·rintro σ H4 ⟨x,v8,rfl,b4,st4,ha4,hx,ho⟩;refine⟨_,rfl,_,_,rfl,rfl,_,rfl,?_⟩;refine ite2 (λc3=>?_) (λc3=>?_)
     have c3:26<m:=by
      have:(26:Int)<(m:Int):=by simpa using c3
      omega
     have hc3:atI ("abcdefghijklmnopqrstuvwxyz":Str).cps.toList ((i:Int) / 26)=some (97+i / 26):=by
      have:=gt_ (q:=i / 26) Z1;rw[<- this];congr 1
     refine⟨_,rfl,_,rfl,_,rfl,_,_,rfl,rfl,⟨by decide,by decide⟩,_,_,_,rfl,rfl,by decide +kernel,hc3,_,_,rfl,rfl,by show x.length+1<=sizeLine;omega,?_⟩;have ex:(x++(⟨#[97+i / 26]⟩:Str)).cps.toList=x.cps.toList++(if 26<m then [97+i / 26] else []):=by rw[a_8 c3];exact bV_ _ _
     generalize x++(⟨#[97+i / 26]⟩:Str)=x' at ex ⊢;rotate_left 1
     have c3:¬26<m:=by
      have:¬(26:Int)<(m:Int):=by simpa using c3
      omega
     have ex:x.cps.toList=x.cps.toList++(if 26<m then [97+i / 26] else []):=by rw[a_6 c3,List.append_nil]
     obtain⟨x',hx'⟩:∃x':Str,x'=x:=⟨_,rfl⟩;rw[<- hx'];have ex:x'.cps.toList=x.cps.toList++(if 26<m then [97+i / 26] else []):=by rw[hx'];exact ex
     all_goals
      have hc4:atI ("abcdefghijklmnopqrstuvwxyz":Str).cps.toList ((i:Int) % 26)=some (97+i % 26):=by
       have:=gt_ (q:=i % 26) (Nat.mod_lt _ (by decide));rw[<- this];congr 1
      have lx:x'.length<=7:=by
       rw[bd_,ex,av',<- bd_,hx];by_cases hm:26<m
       ·rw[a_8 hm];show r.toNat+1<=7;omega
       ·rw[a_6 hm];show r.toNat+0<=7;omega
      refine⟨_,rfl,.inl ⟨rfl,_,.of ha4⟩,_,rfl,_,rfl,_,rfl,_,_,rfl,rfl,by show (0:Int)<26;decide,_,_,_,rfl,rfl,by decide +kernel,hc4,_,_,rfl,rfl,?_,a,_,_,rfl,rfl,ha4,?_,?_⟩
      ·have:(⟨#[97+i % 26]⟩:Str).length=1:=rfl;omega
      ·rw[aa'];omega
      ·refine⟨_,_,_,_,ns++[x'++(⟨#[97+i % 26]⟩:Str)],rfl,λb o e ne=>?_,?_,?_,?_,λkk n hn=>?_⟩
       ·rw[a7_ (a5_ e ha0)];exact b4 _ _ e ne
       ·unfold stt;rw[a7_ hla];exact st4
       ·rw[a1_,ap'];rfl
       ·rw[av',ln];rfl
       ·by_cases hk:kk<ns.length
        ·rw[List.getElem?_append_left hk] at hn;exact tl kk n hn
        ·have hk2:kk=i:=by
          have:=(ac'.mp hn).1;rw[av'] at this;simp only[List.length_singleton] at this;omega
         subst hk2;rw[List.getElem?_append_right Z1,ln,Nat.sub_self] at hn;have hn:x'++(⟨#[97+kk % 26]⟩:Str)=n:=by simpa using hn
         subst hn;have ey:(x'++(⟨#[97+kk % 26]⟩:Str)).cps.toList=x'.cps.toList++[97+kk % 26]:=bV_ _ _;refine⟨?_,x.cps.toList,by rw[ey,ex]⟩;unfold a8';rw[bd_,ey,av',<- bd_,a_5 (by show 1<=x'.length+1;omega),a_5 (by show x'.length+1<=8;omega),List.all_append,ex,List.all_append,ho];have o1:([97+kk % 26]:List Nat).all okc=true:=by simp[g6_ (Nat.mod_lt kk (show 0<26 by decide))]
         have o2:(if 26<m then [97+kk / 26] else ([]:List Nat)).all okc=true:=by
          by_cases hm:26<m
          ·rw[a_8 hm];simp[g6_ (show kk / 26<26 by omega)]
          ·rw[a_6 hm];rfl
         rw[o1,o2];rfl
   ·rintro σ H2 ⟨v4,v6,v7,v8,ns,rfl,b2,st2,ha2,ln,tl⟩;exact⟨_,rfl,k a ns H2 b2 st2 ha0 ha2 (hc_ Z1 Z1 tl)⟩
theorem dM_(ys:List V)(k:Nat):cutV ys none (some (k:Int))=ys.take k:=by
 unfold cutV;rw[HT.sIx_none,HT.sIx_nat,List.drop_zero,Nat.sub_zero];by_cases h:k<=ys.length
 ·rw[Nat.min_eq_left h]
 ·rw[Nat.min_eq_right Z1,aF' (ae' _),aF' Z1]
theorem e1_(ys:List V)(k:Nat):cutV ys (some (k:Int)) none=ys.drop k:=by
 unfold cutV;rw[HT.sIx_nat,HT.sIx_none];by_cases h:k<=ys.length
 ·rw[Nat.min_eq_left h,aF' (by rw[aQ'];omega)]
 ·rw[Nat.min_eq_right Z1,List.drop_eq_nil_of_le (ae' _),List.drop_eq_nil_of_le Z1,List.take_nil]
theorem bM_{α β:Type}{F:α->β->Prop}:∀{ys:List α} {ks:List β} (n:Nat),Paired F ys ks->Paired F (ys.take n) (ks.take n)
 |_,_,0,_=>.nil
 |_,_,_+1,.nil=>.nil
 |_,_,n+1,.cons a t=>.cons a (bM_ n t)
theorem bJ_{α β:Type}{F:α->β->Prop}:∀{ys:List α} {ks:List β} (n:Nat),Paired F ys ks->Paired F (ys.drop n) (ks.drop n)
 |_,_,0,h=>h
 |_,_,_+1,.nil=>.nil
 |_,_,n+1,.cons _ t=>bJ_ n t
theorem aE_{α β:Type}{F:α->β->Prop}:∀{ys ys':List α} {ks ks':List β},Paired F ys ks->Paired F ys' ks'->Paired F (ys++ys') (ks++ks')
 |_,_,_,_,.nil,h=>h
 |_,_,_,_,.cons a t,h=>.cons a (aE_ t h)
theorem eI_{α:Type}(l:List α)(t:Nat):(l.drop t++l.take t).Perm l:=List.perm_append_comm.trans (by rw[List.take_append_drop])
theorem hit3{α:Type}{p:α->Prop}{a b c:α}(h0:0<=r)(h1:r<3)(ha:p a)(hb:p b)(hc:p c):∃x,atI [a,b,c] r=some x/\p x:=by
 have:r=0∨r=1∨r=2:=by omega
 rcases this with rfl|rfl|rfl
 ·exact⟨_,rfl,ha⟩
 ·exact⟨_,rfl,hb⟩
 ·exact⟨_,rfl,hc⟩
structure TJ (ns:List Str) (k q:Nat) (ts:Xb):Prop where
 at':∀t∈ts,∃(a b:Nat) (x y:Str),a<b/\(a<k∨(a=k/\b<k+1+q))/\ns[a]? = some x/\ns[b]? = some y/\(t=(x,y)∨t=(y,x))
 nd:(ts.map kO).Nodup
 len:ts.length<=7 * k+q
variable{k:Nat}
theorem TJ.skip(h:TJ ns k j ts):TJ ns k (j+1) ts:=
 ⟨λt ht=>let ⟨a,b,x,y,h1,h2,h3,h4,h5⟩:=h.at' t ht;⟨a,b,x,y,h1,by omega,h3,h4,h5⟩,h.nd,by have:=h.len;omega⟩
theorem TJ.next(h:TJ ns k q ts)(h7:q<=7):TJ ns (k+1) 0 ts:=
 ⟨λt ht=>let ⟨a,b,x,y,h1,h2,h3,h4,h5⟩:=h.at' t ht;⟨a,b,x,y,h1,by omega,h3,h4,h5⟩,h.nd,by have:=h.len;omega⟩
theorem TJ.add(h:TJ ns k q ts)(nd:ns.Nodup){x y:Str}{t:Str × Str}(hx:ns[k]? = some x)(hy:ns[k+1+q]? = some y)(ht:t=(x,y)∨t=(y,x)):TJ ns k (q+1) (ts++[t]):=by
 refine⟨λu hu=>?_,?_,by have:=h.len;rw[av'];simp only[List.length_singleton];omega⟩
 ·rcases aA'.mp hu with hu|hu
  ·exact h.skip.at' u hu
  ·obtain rfl:u=t:=by simpa using hu
   exact⟨k,k+1+q,x,y,by omega,.inr ⟨rfl,by omega⟩,hx,hy,ht⟩
 ·rw[ap'];refine gl_ h.nd λm=>?_;obtain⟨u,hu,e⟩:=ah'.mp m;obtain⟨a,b,c,d,h1,h2,h3,h4,h5⟩:=h.at' u hu
  have key:(c=x/\d=y)∨(c=y/\d=x):=by
   rcases h5 with rfl|rfl<;>rcases ht with rfl|rfl<;>rcases j3_ e with⟨q1,q2⟩|⟨q1,q2⟩<;>simp_all
  rcases key with⟨rfl,rfl⟩|⟨rfl,rfl⟩
  ·have:=co_ nd h3 hx;have:=co_ nd h4 hy;omega
  ·have:=co_ nd h3 hy;have:=co_ nd h4 hx;omega
theorem TJ.good(h:TJ ns k j ts)(nd:ns.Nodup)(ok:∀n∈ns,a8' n=true):∀t∈ts,cW' t/\t.1∈ns/\t.2∈ns:=λt ht=>by
 obtain⟨a,b,x,y,h1,h2,h3,h4,h5⟩:=h.at' t ht;have mx:=ad' h3;have my:=ad' h4
 have ne:x≠y:=λe=>by
  subst e;have:=co_ nd h3 h4;omega
 rcases h5 with rfl|rfl
 ·exact⟨⟨ok _ mx,ok _ my,ne⟩,mx,my⟩
 ·exact⟨⟨ok _ my,ok _ mx,ne.symm⟩,my,mx⟩
def EndB(m:Nat)(n:Str):Prop:=n∈a3'∨∃k,k<m/\n.cps.toList.getLast? = some (97+k % 26)
theorem bI':aX' ["_law_state","_law_most","_law_names_here","_law_hands","_law_thin","_law_ties","_law_k","_law_one","_law_other","_law_turn"] ["_law_state","_law_most"] (aW' sLWeb):=f__
def spLWeb(K:F__):Sp:=λvs H Q _=>∃(l:Addr),vs=[.ref l,.int 8]/\stt H l/\∀(t lh lt:Addr) (ys zs:List V) (hs:Xa) (ts:Xb) (H':Hp),But l H H'->stt H' l->H' t=some (.tup [.ref lh,.ref lt])->H lh=none->H lt=none->lh≠lt->
 H' lh=some (.lst ys)->aZ' K H' ys (hs.map kH)->H' lt=some (.lst zs)->aZ' K H' zs (ts.map kT)->Good hs ts->(∀n∈hs.map (·.1),EndB 8 n)->Q (.ref t) H'
theorem iz_(F:Fun K "_law_web" "_law_web" sLWeb f fd)(B:Bi mg)(cD:Cal P w K mg base 1 "_law_digit" ["_law_state","_law_base"] bv')(cN:Cal P w K mg base 2 "_law_names" ["_law_state","_law_many"] cI'):FnOk P w K mg base CX0 3 f fd ["_law_state","_law_most"] (spLWeb K):=by
 refine F.ok bI' (λvs H Q E h=>?_) (λcdv A outer s H vs Q E hr h=>?_)
 ·obtain⟨l,rfl,_⟩:=h;rfl
 ·obtain⟨l,rfl,st,k⟩:=h;have sz:=b_1;have hr1:Room 1 _:=hr.mono (by decide)
  refine' ⟨_,a3_ (ab_ (i:=2) bI'.nd rfl (Or.inl rfl) (af_ cN hr (a0_ (pv 0) (a0_ (al_ b4_ a6_ (af_ cD hr1 (a0_ (pv 0) (a0_ (pv 1) a2_)))) a2_))))
   (a3_ (ei_ (i:=3) ["_law_name","_law_state"] 1 [0] bI'.nd rfl (Or.inl rfl) (au_ (pv 2)) (λfp s H=>a9_ (i:=0) (show (["_law_name","_law_state"]:List Str).Nodup by decide +kernel) rfl (Or.inl rfl)) (λfp s H=>aX_)
    (λfp s H=>?he))
   (a3_ (ab_ (i:=4) bI'.nd rfl (Or.inl rfl) (al_ b4_ a6_ (af_ cD hr1 (a0_ (pv 0) (a0_ a6_ a2_)))))
   (a3_ (ab_ (i:=5) bI'.nd rfl (Or.inl rfl) (aK_ a2_))
   (a3_ (aM_ b_2 rfl (iw_ (by rfl) B.enum (a0_ (pv 2) a2_)) (bq_ rfl (ae_ (a9_ (i:=6) bI'.nd rfl (Or.inl rfl)) (ae_ (a9_ (i:=7) bI'.nd rfl (Or.inl rfl)) aN_)))
    (a4_ (aM_ b_2 rfl (au_ (b1_ bt_ (pv 2) (bu_ (al_ b4_ (pv 6) a6_)) bs_)) (a9_ (i:=8) bI'.nd rfl (Or.inl rfl))
     (a4_ (aj_ (ah_ bY_ (af_ cD hr1 (a0_ (pv 0) (a0_ (pv 4) a2_))) a6_ (nomark _))
      (a4_ (aV_ (gj_ PySem.F.plainAttrs_list PySem.F.slot_list_append PySem.F.type_list_append c0_ (pv 5) (a0_ (an_ ar_ (aK_ (a0_ (aP_ (a0_ (pv 7) (a0_ (pv 8) a2_))) (a0_ (aP_ (a0_ (pv 8) (a0_ (pv 7) a2_))) a2_))) (af_ cD hr1 (a0_ (pv 0) (a0_ a6_ a2_))) (λ_ _=>rfl)) a2_))))
      ad_)))))
   (a3_ (ab_ (i:=9) bI'.nd rfl (Or.inl rfl) (af_ cD hr1 (a0_ (pv 0) (a0_ (a8_ ai_ (by rfl) B.len b_7 (a0_ (pv 3) a2_)) a2_))))
   (a4_ (aa_ (aP_ (a0_ (al_ fG_ (b1_ bt_ (pv 3) (bu_ (pv 9)) bs_) (b1_ bt_ (pv 3) bs_ (bu_ (pv 9)))) (a0_ (pv 5) a2_)))))))))),?_⟩
  case he=>exact aP_ (a0_ (pv 0) (a0_ (al_ b4_ a6_ (af_ cD hr1 (a0_ (pv 1) (a0_ (an_ (ixK (K:=K) rIxL ar_) (aK_ (a0_ a6_ (a0_ a6_ (a0_ a6_ a2_)))) (af_ cD hr1 (a0_ (pv 1) (a0_ a6_ a2_))) (λ_ _=>rfl)) a2_)))) a2_))
  refine⟨_,rfl,_,rfl,_,rfl,l,8,rfl,by decide,by decide,st,λr H1 r0 r8 b1 st1=>⟨_,_,rfl,rfl,?_⟩⟩;obtain⟨r,rfl⟩:=aw' r0;refine⟨l,1+r,by show [V.ref l,V.int (1+(r:Int))]=[V.ref l,V.int ((1+r:Nat):Int)];rw[Int.natCast_add];rfl,by omega,st1,λln ns H2 b2 st2 fn hn2 N=>?_⟩;have n8:ns.length<=8:=by rw[N.len];omega
  have n1:1<=ns.length:=by rw[N.len];omega
  have lnl:ln≠l:=λe=>by
   subst e;obtain⟨xs,e2⟩:=st1.some;rw[fn] at e2;cases e2
  refine⟨_,rfl,ln,rfl,⟨_,.of hn2⟩,λlh0 hlh0=>?_⟩
  have lh0l:lh0≠l:=by
   obtain⟨xs,e⟩:=st2.some;exact (a5_ e hlh0).symm
  refine aJ_ (own:=1) (fv:=[some (.ref l)]) (xs:=ns.map V.str) rfl gok1 (λi out H'=>∃hs:Xa,But l H2 H'/\stt H' l/\H' lh0=some (.lst out)/\aZ' K H' out (hs.map kH)/\hs.map (·.1)=ns.take i/\∀h∈hs,1<=h.2/\h.2<=1000) ⟨[],But.of (Same.new hlh0),st2.same (Same.new hlh0),a1_,.nil,rfl,by simp⟩ (λi out H' _ ⟨_,b,_⟩=>.of (b _ _ hn2 lnl)) (λys0 H3 ⟨hs0,b3,st3,hh3,tu3,en,gh⟩=>?_) (λi x out H' hx ⟨hs,b,stx,hD,tu,en,gh⟩=>?_);rotate_left 1
  ·obtain⟨n,hn,rfl⟩:=ax_ hx
   have li:out.length=i:=by
    have h1:=a_4 tu;rw[aa'] at h1;have h2:=b_5 List.length en;rw[aa',ai'] at h2;have:=(ac'.mp hn).1;omega
   have hi:=(ac'.mp hn).1;refine⟨_,rfl,rfl,λNx hN=>yesT ?_⟩;refine⟨_,rfl,_,rfl,by show 3<=sizeLine;decide,λp hp=>?_⟩;have s4:=Same.new (o:=.lst [.int 3,.int 12,.int 1000]) hp
   have lp:p≠l:=by
    obtain⟨xs,e⟩:=stx.some;exact (a5_ e hp).symm
   refine⟨_,rfl,l,3,rfl,by decide,by decide,stx.same s4,λr1 H5 q0 q1 b5 st5=>?_⟩;obtain⟨y,hy,bb,eb,e1,e2⟩:=hit3 (p:=λy:V=>∃n:Int,y=.int n/\0<n/\n<=1000) (a:=V.int 3) (b:=.int 12) (c:=.int 1000) q0 q1 ⟨3,rfl,by decide,by decide⟩ ⟨12,rfl,by decide,by decide⟩ ⟨1000,rfl,by decide,by decide⟩;subst eb;refine⟨p,_,_,_,rfl,rfl,.of (b5 _ _ a1_ lp),hy,l,bb,rfl,e1,by omega,st5,λr2 H6 q2 q3 b6 st6=>⟨_,_,rfl,rfl,by show 2<=sizeLine;decide,λt ht=>?_⟩⟩;have b36:But l H' H6:=(But.of s4).trans (b5.trans b6);have hD6:=b36 _ _ hD lh0l;have s7:=Same.new (o:=.tup [.str n,.int (1+r2)]) ht;obtain⟨xs0,hlx⟩:=stx.some;have tu6:=aw_ tu b36 hlx;have tt:upd H6 t (.tup [.str n,.int (1+r2)]) t=some (.tup ((kH (n,1+r2)).map kV)):=a1_;refine⟨out,s7 _ _ hD6,by omega,hN _ _ ⟨hs++[(n,1+r2)],λb' o e ne=>?_,?_,a1_,?_,?_,λh hh=>?_⟩⟩
   ·rw[a7_ (a5_ e hlh0)];exact s7 _ _ (b36 _ _ (b _ _ e ne) ne)
   ·have:=st6.same s7;unfold stt;rw[a7_ lh0l.symm];exact this
   ·rw[ap'];exact bl_ (bx_ (tu6.same s7) tt) (s7 _ _ hD6)
   ·rw[ap',en,au',hn];rfl
   ·rcases aA'.mp hh with hh|hh
    ·exact gh h hh
    ·obtain rfl:h=(n,1+r2):=by simpa using hh
     exact⟨by show 1<=1+r2;omega,by show 1+r2<=1000;omega⟩
  rw[aa',ar'] at en;have ln3:=b3 _ _ hn2 lnl;have lh0n:H2 lh0=none:=hlh0;refine⟨_,rfl,l,4,rfl,by decide,by decide,st3,λr3 H4 q0 q1 b4 st4=>⟨_,_,rfl,rfl,?_⟩⟩;refine⟨by show 0<=sizeLine;decide,λa ha=>?_⟩;have s5:=Same.new (o:=.lst []) ha
  have hla:l≠a:=by
   obtain⟨xs,e⟩:=st4.some;exact a5_ e ha
  have ln4:=b4 _ _ ln3 lnl;have hh4:=b4 _ _ hh3 lh0l;have lna:ln≠a:=a5_ ln4 ha;have lha:lh0≠a:=a5_ hh4 ha;have B4:But l H H4:=b1.trans (b2.trans (b3.trans b4));have ha0:H a=none:=B4.free st4 ha;have hlh00:H lh0=none:=(b1.trans b2).free st2 hlh0;obtain⟨xs3,hl3⟩:=st3.some;have tu4:=aw_ tu3 b4 hl3
  let Iv:Nat->Nat->Hp->Prop:=λkk q H'=>∃zs ts,But l H H'/\stt H' l/\H' ln=some (.lst (ns.map V.str))/\H' lh0=some (.lst ys0)/\aZ' K H' ys0 (hs0.map kH)/\H' a=some (.lst zs)/\aZ' K H' zs (ts.map kT)/\TJ ns kk q ts
  refine⟨_,rfl,ln,rfl,⟨_,.of (s5 _ _ ln4)⟩,hw_ (K:=K) (a:=ln) (xs:=ns.map V.str) (λi σ H'=>∃(v6 v7 v8 v9:Option V),σ=[some (.ref l),some (.int 8),some (.ref ln),some (.ref lh0),some (.int (1+r3)),some (.ref a),v6,v7,v8,v9]/\Iv i 0 H')
   ⟨none,none,none,none,rfl,[],[],B4.trans (But.of s5),st4.same s5,s5 _ _ ln4,s5 _ _ hh4,tu4.same s5,a1_,.nil,⟨by simp,.nil,aC' _⟩⟩ (λi σ H' _ ⟨_,_,_,_,_,_,_,_,_,q,_⟩=>.of q) ?_ ?_⟩
  ·rintro i x σ H6 hx ⟨v6,v7,v8,v9,rfl,zs6,ts6,b6,st6,hn6,hh6,th6,ha6,tu6,tj6⟩ u hu;obtain⟨one,hone,rfl⟩:=ax_ hx;have hi:i<ns.length:=(ac'.mp hone).1;have s7:Same H6 (upd H6 u (.tup [.int i,.str one])):=Same.new hu;have hu7:upd H6 u (.tup [.int i,.str one]) u=some (.tup [.int i,.str one]):=a1_;refine⟨u,_,rfl,.of hu7,rfl,_,_,rfl,_,_,rfl,rfl,?_⟩;generalize upd H6 u (.tup [.int i,.str one])=H7 at s7 hu7 ⊢;refine⟨_,rfl,_,rfl,_,_,rfl,rfl,_,rfl,ln,_,rfl,.of (s7 _ _ hn6),λp hp=>?_⟩;have ec:cutV (ns.map V.str) (some ((i:Int)+1)) none=(ns.drop (i+1)).map V.str:=eM_ ns (i+1) Z1;rw[ec];have s8:Same H7 (upd H7 p (.lst ((ns.drop (i+1)).map V.str))):=Same.new hp
   have lp:l≠p:=by
    obtain⟨xs,e⟩:=(st6.same s7).some;exact a5_ e hp
   have pa:p≠a:=(a5_ (s7 _ _ ha6) hp).symm;have s78:=s7.trans s8
   refine⟨p,rfl,⟨_,.of a1_⟩,aQ_ (K:=K) (a:=p) (xs:=(ns.drop (i+1)).map V.str) (λj σ H'=>∃(v8 v9:Option V),σ=[some (.ref l),some (.int 8),some (.ref ln),some (.ref lh0),some (.int (1+r3)),some (.ref a),some (.int i),some (.str one),v8,v9]/\H' p=some (.lst ((ns.drop (i+1)).map V.str))/\Iv i j H')
    ⟨_,_,rfl,a1_,zs6,ts6,b6.trans (But.of s78),st6.same s78,s78 _ _ hn6,s78 _ _ hh6,th6.same s78,s78 _ _ ha6,tu6.same s78,tj6⟩ (λj σ H' _ ⟨_,_,_,q,_⟩=>.of q) ?_ ?_⟩
   ·rintro j y σ H9 hy ⟨v8,v9,rfl,hp9,zs9,ts9,b9,st9,hn9,hh9,th9,ha9,tu9,tj9⟩;obtain⟨o,ho,rfl⟩:=ax_ hy;rw[List.getElem?_drop] at ho;refine⟨_,rfl,_,rfl,l,1+r3,rfl,by omega,by omega,st9,λr4 H10 q2 q3 b10 st10=>⟨rfl,_,rfl,?_⟩⟩;obtain⟨xs9,hl9⟩:=st9.some;have hn10:=b10 _ _ hn9 lnl;have hh10:=b10 _ _ hh9 lh0l;have ha10:=b10 _ _ ha9 hla.symm;have hp10:=b10 _ _ hp9 lp.symm;have tu10:=aw_ tu9 b10 hl9;have th10:=aw_ th9 b10 hl9;refine ite2 (λc=>?_) (λc=>?_)
    ·refine⟨_,rfl,.inl ⟨rfl,_,.of ha10⟩,_,rfl,_,rfl,by show 2<=sizeLine;decide,λt1 ht1=>?_⟩;have s11:=Same.new (o:=.tup [.str one,.str o]) ht1;refine⟨_,rfl,_,rfl,by show 2<=sizeLine;decide,λt2 ht2=>?_⟩;have s12:=Same.new (o:=.tup [.str o,.str one]) ht2;refine⟨by show 2<=sizeLine;decide,λlx hlx=>?_⟩;have s13:=Same.new (o:=.lst [.ref t1,.ref t2]) hlx;have s14:=(s11.trans s12).trans s13;have st13:=st10.same s14;refine⟨_,rfl,l,2,rfl,by decide,by decide,st13,λr5 H14 q4 q5 b14 st14=>?_⟩
     have lxl:lx≠l:=by
      obtain⟨xs,e⟩:=(st10.same (s11.trans s12)).some;exact (a5_ e hlx).symm
     have hlx14:=b14 _ _ (show upd (upd (upd H10 t1 (.tup [.str one,.str o])) t2 (.tup [.str o,.str one])) lx (.lst [.ref t1,.ref t2]) lx=_ from a1_) lxl;obtain⟨xs13,hl13⟩:=st13.some;have ht1':=s13 _ _ (s12 _ _ (show upd H10 t1 (.tup [.str one,.str o]) t1=_ from a1_));have ht2':=s13 _ _ (show upd (upd H10 t1 (.tup [.str one,.str o])) t2 (.tup [.str o,.str one]) t2=_ from a1_);have ht1'':=b14 _ _ ht1' (aD_ ht1' hl13 nofun);have ht2'':=b14 _ _ ht2' (aD_ ht2' hl13 nofun)
     have pick:∃(t:Addr) (tt:Str × Str),atI [V.ref t1,V.ref t2] r5=some (.ref t)/\H14 t=some (.tup ((kT tt).map kV))/\(tt=(one,o)∨tt=(o,one)):=by
      rcases hit2 (a:=V.ref t1) (b:=V.ref t2) q4 q5 with e|e
      ·exact⟨t1,(one,o),e,ht1'',.inl rfl⟩
      ·exact⟨t2,(o,one),e,ht2'',.inr rfl⟩
     obtain⟨t,tt,et,ht,etc⟩:=pick;have b1014:But l H10 H14:=(But.of s14).trans b14;obtain⟨xs10,hl10⟩:=st10.some;have ha14:=b1014 _ _ ha10 hla.symm;have hn14:=b1014 _ _ hn10 lnl;have hh14:=b1014 _ _ hh10 lh0l;have hp14:=b1014 _ _ hp10 lp.symm;have tu14:=aw_ tu10 b1014 hl10;have th14:=aw_ th10 b1014 hl10;have lz:=a_4 tu9;rw[aa'] at lz;have tl:=tj9.len
     have hj:j<8:=by
      have:=(ac'.mp ho).1;omega
     refine⟨lx,_,_,_,rfl,rfl,.of hlx14,et,a,_,_,rfl,rfl,ha14,by omega,?_⟩;refine⟨_,_,rfl,by rw[a7_ pa];exact hp14,_,ts9++[tt],λb o e ne=>?_,?_,by rw[a7_ lna];exact hn14,by rw[a7_ lha];exact hh14,bl_ th14 ha14,a1_,?_,tj9.add N.nd hone ho etc⟩
     ·rw[a7_ (a5_ e ha0)];exact b1014 _ _ (b10 _ _ (b9 _ _ e ne) ne) ne
     ·unfold stt;rw[a7_ hla];exact st14
     ·rw[ap'];exact bl_ (bx_ tu14 ht) ha14
    ·exact⟨_,_,rfl,hp10,zs9,ts9,b9.trans b10,st10,hn10,hh10,th10,ha10,tu10,tj9.skip⟩
   ·rintro σ H9 ⟨v8,v9,rfl,hp9,zs9,ts9,b9,st9,hn9,hh9,th9,ha9,tu9,tj9⟩;exact⟨_,_,_,_,rfl,zs9,ts9,b9,st9,hn9,hh9,th9,ha9,tu9,tj9.next (by rw[aa',aQ'];omega)⟩
  ·rintro σ H6 ⟨v6,v7,v8,v9,rfl,zs6,ts6,b6,st6,hn6,hh6,th6,ha6,tu6,tj6⟩;rw[aa'] at tj6
   have ly:ys0.length=ns.length:=by
    have h1:=a_4 th6;rw[aa'] at h1;have h2:=b_5 List.length en;rw[aa'] at h2;omega
   refine⟨_,rfl,_,rfl,lh0,_,rfl,.inl (.of hh6),l,_,rfl,by show (0:Int)<(ys0.length:Int);omega,by show (ys0.length:Int)<1073741824;omega,st6,λtn H7 q0 q1 b7 st7=>?_⟩;obtain⟨tn,rfl⟩:=aw' q0;obtain⟨xs6,hl6⟩:=st6.some;have hh7:=b7 _ _ hh6 lh0l;have ha7:=b7 _ _ ha6 hla.symm;have tu7:=aw_ tu6 b7 hl6;have th7:=aw_ th6 b7 hl6;refine⟨_,rfl,_,rfl,_,rfl,lh0,_,rfl,.of hh7,λp1 hp1=>?_⟩;rw[e1_];have s8:=Same.new (o:=.lst (ys0.drop tn)) hp1;refine⟨_,rfl,_,rfl,_,rfl,lh0,_,rfl,.of (s8 _ _ hh7),λp2 hp2=>?_⟩;rw[dM_];have s9:=Same.new (o:=.lst (ys0.take tn)) hp2;refine⟨p1,p2,_,_,rfl,rfl,s9 _ _ a1_,a1_,by rw[aQ',ai'];omega,λp3 hp3=>?_⟩;have s10:=Same.new (o:=.lst (ys0.drop tn++ys0.take tn)) hp3;have s710:=s8.trans (s9.trans s10);refine⟨_,rfl,by show 2<=sizeLine;decide,λt ht=>?_⟩;have s11:=Same.new (o:=.tup [.ref p3,.ref a]) ht;have s711:=s710.trans s11;have b67:=b6.trans b7;have perm:=eI_ hs0 tn;have pm:=perm.map (·.1);have gt:=tj6.good N.nd N.ok;have mem:∀n,n∈(hs0.drop tn++hs0.take tn).map (·.1) ↔ n∈ns:=λn=>by rw[pm.mem_iff,en]
   refine k t p3 a _ zs6 (hs0.drop tn++hs0.take tn) ts6 _ (b67.trans (But.of s711)) (st7.same s711) a1_ ((b67.trans (But.of (s8.trans s9))).free (st7.same (s8.trans s9)) hp3) ha0 (λe=>?_) (s11 _ _ a1_) ?_ (s711 _ _ ha7) (tu7.same s711) ⟨λh hh=>?_,?_,?_,?_,λt ht=>(gt t ht).1,tj6.nd,by have:=tj6.len;omega,λt ht=>⟨(mem _).mpr (gt t ht).2.1,(mem _).mpr (gt t ht).2.2⟩⟩ λn hn=>?_
   ·subst e;rw[(s8.trans s9) _ _ ha7] at hp3;cases hp3
   ·rw[ap',List.map_drop,List.map_take];have tt7:aZ' K H7 (ys0.drop tn++ys0.take tn) ((hs0.map kH).drop tn++(hs0.map kH).take tn):=aE_ (bJ_ tn th7) (bM_ tn th7);exact tt7.same s711
   ·have hm:=perm.mem_iff.mp hh;obtain⟨g1,g2⟩:=gh h hm;exact⟨N.ok _ (by rw[<- en];exact ah'.mpr ⟨h,hm,rfl⟩),g1,g2⟩
   ·refine pm.nodup_iff.mpr ?_;rw[en];exact N.nd
   ·have:=pm.length_eq;rw[aa',en] at this;omega
   ·have:=pm.length_eq;rw[aa',en] at this;omega
   ·rcases N.end_ n ((mem n).mp hn) with z|⟨kk,h1,h2⟩
    ·exact .inl z
    ·exact .inr ⟨kk,by omega,h2⟩
end Ev
namespace HT
open PySem PySem.Spec PyProof.Rows
variable{prog:Ad}{w:Af}{A:Ah}{E:Aa->Ab->Prop}{s:Ab}
theorem getItem_rev2{t sl:Addr}{a b:Aa}{u:Tok}{Q:Aa->Ab->Prop}(ht:IsTup s.heap t #[a,b])(hs:s.heap.IsSliceOf sl .none .none (.int (-1) u))
  (h:Q (.ref s.heap.objs.size) { s with heap:=s.heap.push { cls:=.type "tuple",data:=.seq #[b,a] } }):wpAny (model prog w) A (getItem (.ref t) (.ref sl)) Q E s:=by
 have htake:sizeOk (.seq #[b,a]):=by
  show 2<=sizeLine;decide
 obtain⟨os,hos,hcs,hds⟩:=id hs;have hTs:s.TypeIs (.ref sl) "slice":=⟨os,hos,hcs⟩;unfold getItem
 try with_reducible refine b_3 ?_
 first|refine a__ (a_1 ?_)|skip
 refine a__ (wpAny_sequenceKey ht.typeIs (by decide) ?_)
 refine a__ (wpAny_callSpecial?_slot (name:=Str.ofString "__getitem__") ht.typeIs PyProof.Rows.slot_tuple_getitem
  (wpAny_call_entry PyProof.Rows.slot_tuple_getitem ht.typeIs entry_tuple_getitem ?_ (args_tuple_getitem _ _)))
 show wpAny _ _ (Builtin.Tuple.tupleItemsOf (.ref t) >>= _) _ _ s;refine a__ (tupleItemsOf_ ht ?_);refine a__ (wpAny_typeOf hTs ?_);rw[a_8 (by decide)]
 have ap:∀{A':Ah} {E':Aa->Ab->Prop} {R:Int × Int × Nat->Ab->Prop},R (1,-1,2) s->wpAny (model prog w) A' (Builtin.Slice.sliceApplied (.ref sl) (pure ((#[a,b]:Array Aa).size:Int))) R E' s:=by
  intro A' E' R hR;unfold Builtin.Slice.sliceApplied Builtin.Slice.sliceFields;refine a__ (a__ (wpAny_field hos hds (x:=.none) rfl (a__ (wpAny_field hos hds (x:=.none) rfl (a__ (wpAny_field hos hds (x:=.int (-1) u) rfl (a_1 ?_)))))));refine a__ (slicePart_int ?_);show wpAny _ _ (if ((-1:Int) == 0)=true then _ else _) _ _ s;rw[a_6 (by decide)];exact a__ (slicePart_none (a__ (slicePart_none (a__ (a_1 (a_1 (by with_unfolding_all exact hR)))))))
 refine a__ (ap ?_);show wpAny _ _ (if ((1:Int) == 0&&(-1:Int) == 1&&(2:Nat) == 2)=true then _ else _) _ _ s;rw[a_6 (by decide)];have e:(List.filterMap (λ(k:Nat)=>(#[a,b]:Array Aa)[((1:Int)+(k:Int) * -1).toNat]?) (List.range 2)).toArray=#[b,a]:=by with_unfolding_all rfl
 rw[e]
 first
  |exact a__ (m:=Builtin.Tuple.tupleExact _) (b_6 (a_1 ⟨_,rfl,a_1 h⟩) htake)
  |exact a__ (m:=Builtin.Tuple.tupleExact _) (b_6 (a__ (a_1 (a_1 ⟨_,rfl,a_1 h⟩))) htake)
  |exact a__ (a__ (m:=Builtin.Tuple.tupleExact _) (b_6 (a_1 (a_1 ⟨_,rfl,a_1 h⟩)) htake))
  |exact a__ (a__ (m:=Builtin.Tuple.tupleExact _) (b_6 (a_1 ⟨_,rfl,a_1 h⟩) htake))
end HT
namespace L2
open PySem PySem.Spec PyProof.Rows
def tRev2(K:F__)(te ts:TE):TE:=λσ H Q=>te σ H λx H1=>ts σ H1 λy H2=>y=.int (-1)/\∃a u v,x=.ref a/\SqT K H2 a [u,v]/\∀p,H2 p=none->Q (.ref p) (upd H2 p (.tup [v,u]))
variable{X:Cx}{e st:Expr}{te ts:TE}{p2 pos:Pos}
theorem iI_(he:PE X e te)(hs:PE X st ts):PE X (.Subscript e (.Slice none none (some st) p2) pos) (tRev2 X.K te ts):=by
 intro pins s σ H Q I h;refine Subscript_ (thn (he pins s σ H _ I h) λv s1 ⟨x,H1,I1,r1,q1⟩=>?_);refine wpAny_Slice ?_;rw[evalPart_none];refine a_1 (a_1 ?_);rw[evalPart_some];refine thn (hs pins s1 σ H1 _ I1 q1) λvs s3 ⟨y,H3,I3,ry,ey,a,u,v',ex,hx,q⟩=>?_;subst ex ey;obtain⟨t,rfl⟩:=ry;cases r1;have I4:Inv X pins σ H3 { s3 with heap:=s3.heap.push { cls:=.type "slice",data:=.fields #[.none,.none,.int (-1) t] } }:=I3.kept (t':=s3.toks) λb ob q=>a_0 _ q;obtain⟨its,r,ht,hz⟩:=I4.tuple hx;obtain⟨x1,x2,rfl,rx1,rx2⟩:=Vals.two r;show wpAny (model X.prog X.w) X.A (subscriptTail e (.Slice none none (some st) p2) (.ref a) (.ref s3.heap.objs.size)) (EP X pins σ Q) X.xe { s3 with heap:=s3.heap.push { cls:=.type "slice",data:=.fields #[.none,.none,.int (-1) t] } };refine tail_any (ops:=[.ref a,.ref s3.heap.objs.size]) ht.typeIs PyProof.Rows.slot_tuple_getitem.lookup (HT.getItem_rev2 ht (Heap.IsSliceOf.new ..) ?_) (by with_unfolding_all rfl);refine⟨.ref _,upd H3 _ (.tup [v',u]),I4.laid (t':=s3.toks) (λb o e=>a_0 _ e) (ae' _) ?_,rfl,q _ (I4.hok.fresh (ae' _))⟩;exact⟨by show 2<=sizeLine;decide,[x2,x1],.cons rx2 (.cons rx1 .nil),⟨_,a_3 _ rfl,rfl,_,rfl⟩,_,a_3 _ rfl,rfl⟩
theorem h7_{K:F__}(he:PE X e te)(hs:PE X st ts)(hK:X.K=K:=by rfl):PE X (.Subscript e (.Slice none none (some st) p2) pos) (tRev2 K te ts):=by
 subst hK;exact iI_ he hs
end L2
namespace Ev
open PySem L2
structure cP' (ts ws:Xb):Prop where
 good:∀w∈ws,cW' w
 nd:(ws.map kO).Nodup
 inn:∀w∈ws,kO w∈ts.map kO
 len:ws.length<=ts.length
theorem iC_{ts us ws:Xb}(good:∀t∈ts,cW' t)(nd:(ts.map kO).Nodup)(sub:us.Sublist ts)(p:Paired (λw u=>w=u∨w=(u.2,u.1)) ws us):cP' ts ws:=by
 have e:ws.map kO=us.map kO:=by
  clear sub
  induction p with
  |nil=>rfl
  |cons h _ ih=>
   rw[ax',ax',ih];rcases h with rfl|rfl
   ·rfl
   ·exact b_5 (·::_) (iV_ _ _)
 refine⟨λw hw=>?_,?_,λw hw=>?_,?_⟩
 ·obtain⟨i,hi,ew⟩:=az' hw;have hl:=a_4 p;have q:=ak_ p i hi Z1;rw[ew] at q;have g:=good _ (sub.subset (aS' (show i<us.length by omega)));rcases q with q|q
  ·rw[q];exact g
  ·rw[q];exact⟨g.2.1,g.1,g.2.2.symm⟩
 ·rw[e];exact (sub.map kO).nodup nd
 ·have:kO w∈ws.map kO:=ah'.mpr ⟨w,hw,rfl⟩;rw[e] at this;exact (sub.map kO).subset this
 ·rw[a_4 p];exact sub.length_le
def WyAt(K:F__)(H:Hp)(v:V):Option (Xb)->Prop
 |none=>v=.non
 |some ws=>∃a ys,v=.ref a/\H a=some (.lst ys)/\aZ' K H ys (ws.map kT)
theorem WyAt.same{K:F__}{H H':Hp}{v:V}{o:Option (Xb)}(h:WyAt K H v o)(s:Same H H'):WyAt K H' v o:=by
 cases o with
 |none=>exact h
 |some ws=>
  obtain⟨a,ys,e,ha,t⟩:=h;exact⟨a,ys,e,s _ _ ha,t.same s⟩
section
variable{P:Ad}{w:Af}{K:F__}{mg:Str->Option Aa}{base:Heap}
theorem scWays:aX' ["_law_state","_law_ties","_law_some"] ["_law_state","_law_ties"] (aW' sWays):=f__
inductive dh' (K:F__) (vs:List V) (H:Hp) (Q:VK) (E:XK):Prop
 |mk:∀(l lt:Addr) (zs:List V) (ts:Xb),vs=[.ref l,.ref lt]->stt H l->H lt=some (.lst zs)->aZ' K H zs (ts.map kT)->lt≠l->ts.length<64->(∀t∈ts,cW' t)->(ts.map kO).Nodup->(∀(v:V) (o:Option (Xb)) (H':Hp),But l H H'->stt H' l->WyAt K H' v o->(∀a,v=.ref a->H a=none)->(∀ws,o=some ws->cP' ts ws)->Q v H')->dh' K vs H Q E
theorem in_{f:Addr}{fd:Ae}(F:Fun K "_law_ways" "_law_ways" sWays f fd)(B:Bi mg)(cD:Cal P w K mg base 1 "_law_digit" ["_law_state","_law_base"] bv'):FnOk P w K mg base CX0 2 f fd ["_law_state","_law_ties"] (dh' K):=by
 refine F.ok scWays (λvs H Q E h=>?_) (λcdv A outer s H vs Q E hr h=>?_)
 ·obtain⟨l,lt,zs,ts,rfl,_⟩:=h;rfl
 ·obtain⟨l,lt,zs,ts,rfl,st,hlt,tu,ltl,h64,good,nd,k⟩:=h;have sz:=b_1;have lz:=a_4 tu;rw[aa'] at lz
  refine' ⟨_,a3_ (aj_ (ah_ iy_ (af_ cD hr (a0_ (pv 0) (a0_ a6_ a2_))) a6_ (nomark _)) (a4_ (aa_ d3_)) ad_)
   (a3_ (ei_ (i:=2) ["_law_tie","_law_state"] 1 [0] scWays.nd rfl (Or.inl rfl) (au_ (pv 1)) (λfp s H=>a9_ (i:=0) (show (["_law_tie","_law_state"]:List Str).Nodup by decide +kernel) rfl (Or.inl rfl))
    (λfp s H=>?ht) (λfp s H=>?he1))
   (a4_ (aa_ (aZ_ ["_law_tie","_law_state"] 1 [0] (au_ (pv 2)) (λfp s H=>a9_ (i:=0) (show (["_law_tie","_law_state"]:List Str).Nodup by decide +kernel) rfl (Or.inl rfl)) (λfp s H=>aX_)
    (λfp s H=>?he))))),?_⟩
  case ht=>exact ef_ (ah_ bY_ (af_ cD hr (a0_ (pv 1) (a0_ a6_ a2_))) a6_ (nomark _))
  case he1=>exact pv 0
  case he=>exact an_ (ixK (K:=K) rIxL ar_) (aK_ (a0_ (pv 0) (a0_ (h7_ (K:=K) (pv 0) (jF_ i7_ a6_)) a2_))) (af_ cD hr (a0_ (pv 1) (a0_ a6_ a2_))) (λ_ _=>rfl)
  refine⟨_,rfl,l,3,rfl,by decide,by decide,st,λr H1 r0 r3 b1 st1=>⟨_,_,rfl,rfl,_,rfl,?_⟩⟩;refine ite2 (λc=>?_) (λc=>?_)
  ·exact k .non none H1 b1 st1 rfl (λa z=>by cases z) (λws z=>by cases z)
  obtain⟨xs,hl⟩:=st.some;have hlt1:=b1 _ _ hlt ltl;have tu1:=aw_ tu b1 hl;refine⟨_,rfl,lt,rfl,⟨_,.of hlt1⟩,λD hD=>?_⟩
  have Dl:D≠l:=by
   obtain⟨xs,e⟩:=st1.some;exact (a5_ e hD).symm
  refine aJ_ (own:=1) (fv:=[some (.ref l)]) (xs:=zs) rfl gok1 (λi out H'=>∃us:Xb,But l H1 H'/\stt H' l/\H' D=some (.lst out)/\aZ' K H' out (us.map kT)/\us.Sublist (ts.take i)) ⟨[],But.of (Same.new hD),st1.same (Same.new hD),a1_,.nil,List.nil_sublist _⟩ (λi out H' _ ⟨_,b,_⟩=>.of (b _ _ hlt1 ltl)) (λys2 H2 ⟨us,b2,st2,hD2,tu2,sub⟩=>?_) (λi x out H' hx ⟨us,b,stx,hDx,tux,sub⟩=>?_);rotate_left 1
  ·obtain⟨t,ht,p,rfl,hp⟩:=aG_ tu1 hx;refine⟨_,rfl,rfl,λNx hN=>?_⟩;refine⟨_,rfl,l,2,rfl,by decide,by decide,stx,λr2 H4 q0 q1 b4 st4=>⟨rfl,_,rfl,?_⟩⟩;obtain⟨xsx,hlx⟩:=stx.some;have tu4:=aw_ tux b4 hlx;have hD4:=b4 _ _ hDx Dl;refine ite2 (λc2=>?_) (λc2=>?_)
   ·have lo:=a_4 tux;rw[aa'] at lo;have ls:=sub.length_le;rw[ai'] at ls
    have hp4:=b4 _ _ (b _ _ hp (aD_ hp (show H1 l=some _ from st1.some.choose_spec) nofun)) (by
     obtain⟨xs1,e1⟩:=st1.some;exact aD_ hp e1 nofun)
    refine⟨_,rfl,out,hD4,by omega,hN _ _ ⟨us++[t],λb' o e ne=>?_,?_,a1_,?_,?_⟩⟩
    ·rw[a7_ (a5_ e hD)];exact b4 _ _ (b _ _ e ne) ne
    ·unfold stt;rw[a7_ Dl.symm];exact st4
    ·rw[ap'];exact bl_ (bx_ tu4 hp4) hD4
    ·rw[au',ht];exact sub.append (List.Sublist.refl _)
   ·refine hN _ _ ⟨us,b.trans b4,st4,hD4,tu4,sub.trans ?_⟩;rw[au'];exact List.sublist_append_left _ _
  rw[lz,ar'] at sub;have lu:=a_4 tu2;rw[aa'] at lu;have ls:=sub.length_le;refine⟨_,rfl,D,rfl,⟨_,.of hD2⟩,λa ha=>?_⟩
  have al:a≠l:=by
   obtain⟨xs,e⟩:=st2.some;exact (a5_ e ha).symm
  have Da:D≠a:=a5_ hD2 ha;refine aJ_ (own:=1) (fv:=[some (.ref l)]) (xs:=ys2) rfl gok1 (λi out H'=>∃ws:Xb,But l H2 H'/\stt H' l/\H' a=some (.lst out)/\aZ' K H' out (ws.map kT)/\Paired (λw u=>w=u∨w=(u.2,u.1)) ws (us.take i)) ⟨[],But.of (Same.new ha),st2.same (Same.new ha),a1_,.nil,.nil⟩ (λi out H' _ ⟨_,b,_⟩=>.of (b _ _ hD2 Dl)) (λys3 H3 ⟨ws,b3,st3,ha3,tu3,pw⟩=>?_) (λi x out H' hx ⟨ws,b,stx,hax,tux,pw⟩=>?_)
  ·rw[lu,ar'] at pw;have b0:=b1.trans b2;exact k (.ref a) (some ws) H3 (b0.trans b3) st3 ⟨a,ys3,rfl,ha3,tu3⟩ (λc z=>by cases z;exact b0.free st2 ha) (λws' z=>by cases z;exact iC_ good nd sub pw)
  ·obtain⟨t,ht,p,rfl,hp⟩:=aG_ tu2 hx;have hi:i<us.length:=(ac'.mp ht).1;obtain⟨xs2,hl2⟩:=st2.some;obtain⟨xsx,hlx⟩:=stx.some;have hpx:=b _ _ hp (aD_ hp hl2 nofun);refine⟨_,rfl,rfl,λNx hN=>yesT ?_⟩;refine⟨_,rfl,_,rfl,_,rfl,rfl,p,_,_,rfl,.of (hpT hpx),λq hq=>?_⟩;have s4:=Same.new (o:=.tup [.str t.2,.str t.1]) hq;refine⟨by show 2<=sizeLine;decide,λlx hlx'=>?_⟩;have s5:=Same.new (o:=.lst [.ref p,.ref q]) hlx';have s45:=s4.trans s5;have st5:=stx.same s45
   have lxl:lx≠l:=by
    obtain⟨xs,e⟩:=(stx.same s4).some;exact (a5_ e hlx').symm
   refine⟨_,rfl,l,2,rfl,by decide,by decide,st5,λr2 H6 q0 q1 b6 st6=>?_⟩;obtain⟨xs5,hl5⟩:=st5.some;have hp5:=s45 _ _ hpx;have hq5:=s5 _ _ (show upd H' q (.tup [.str t.2,.str t.1]) q=_ from a1_);have hp6:=b6 _ _ hp5 (aD_ hp5 hl5 nofun);have hq6:=b6 _ _ hq5 (aD_ hq5 hl5 nofun);have hlx6:=b6 _ _ (show upd (upd H' q (.tup [.str t.2,.str t.1])) lx (.lst [.ref p,.ref q]) lx=_ from a1_) lxl
   have pick:∃(c:Addr) (tt:Str × Str),atI [V.ref p,V.ref q] r2=some (.ref c)/\H6 c=some (.tup ((kT tt).map kV))/\(tt=t∨tt=(t.2,t.1)):=by
    rcases hit2 (a:=V.ref p) (b:=V.ref q) q0 q1 with e|e
    ·exact⟨p,t,e,hp6,.inl rfl⟩
    ·exact⟨q,(t.2,t.1),e,hq6,.inr rfl⟩
   obtain⟨c,tt,et,hc,etc⟩:=pick;have b16:But l H' H6:=(But.of s45).trans b6;have ha6:=b16 _ _ hax al;have lo:=a_4 tux;rw[aa'] at lo;have lp:=a_4 pw;rw[ai'] at lp;refine⟨lx,_,_,_,rfl,rfl,.of hlx6,et,out,ha6,by omega,hN _ _ ⟨ws++[tt],λb' o e ne=>?_,?_,a1_,?_,?_⟩⟩
   ·rw[a7_ (a5_ e ha)];exact b16 _ _ (b _ _ e ne) ne
   ·unfold stt;rw[a7_ al.symm];exact st6
   ·rw[ap'];exact bl_ (bx_ (aw_ tux b16 hlx) hc) ha6
   ·rw[au',ht];exact aE_ pw (.cons etc .nil)
end
abbrev Pc:=Str × Int × Option (Xb)
def PcAt(K:F__)(H:Hp)(y:V)(p:Pc):Prop:=∃t v,y=.ref t/\H t=some (.tup [.str p.1,.int p.2.1,v])/\WyAt K H v p.2.2
abbrev b9'(K:F__)(H:Hp)(ys:List V)(ps:List Pc):Prop:=Paired (PcAt K H) ys ps
structure dp' (ts:Xb) (p:Pc):Prop where
 nm:a8' p.1=true
 w1:1<=p.2.1
 w2:p.2.1<=1000000000
 ws:∀ws,p.2.2=some ws->cP' ts ws
theorem io_{K:F__}{H:Hp}{a l:Addr}{ys:List V}{ks:List (List Key)}(t:aZ' K H ys ks)(ha:H a=some (.lst ys))(st:stt H l):a≠l:=λe=>by
 subst e;rcases st with⟨n,e⟩|⟨n,m,c,e⟩
 all_goals
  rw[ha] at e;have e:ys=_:=HO.lst.inj (a_9 e);subst e;cases t with
  |cons h _=>
   obtain⟨b,z,_⟩:=h;cases z
theorem WyAt.but{K:F__}{H H':Hp}{l:Addr}{v:V}{o:Option (Xb)}(h:WyAt K H v o)(b:But l H H')(st:stt H l):WyAt K H' v o:=by
 cases o with
 |none=>exact h
 |some ws=>
  obtain⟨a,ys,e,ha,t⟩:=h;obtain⟨xs,hl⟩:=st.some;exact⟨a,ys,e,b _ _ ha (io_ t ha st),aw_ t b hl⟩
theorem PcAt.but{K:F__}{H H':Hp}{l:Addr}{y:V}{p:Pc}(h:PcAt K H y p)(b:But l H H')(st:stt H l):PcAt K H' y p:=by
 obtain⟨t,v,e,ht,hv⟩:=h;obtain⟨xs,hl⟩:=st.some;exact⟨t,v,e,b _ _ ht (aD_ ht hl nofun),hv.but b st⟩
theorem PcAt.same{K:F__}{H H':Hp}{y:V}{p:Pc}(h:PcAt K H y p)(s:Same H H'):PcAt K H' y p:=by
 obtain⟨t,v,e,ht,hv⟩:=h;exact⟨t,v,e,s _ _ ht,hv.same s⟩
variable{D:Addr}
theorem WyAt.put{K:F__}{H:Hp}{xs:List V}{v:V}{o:Option (Xb)}{u:HO}(h:WyAt K H v o)(hD:H D=some (.lst xs))(ne:v≠.ref D):WyAt K (upd H D u) v o:=by
 cases o with
 |none=>exact h
 |some ws=>
  obtain⟨a,ys,e,ha,t⟩:=h;subst e;exact⟨a,ys,rfl,by rw[a7_ λz=>ne (by rw[z])];exact ha,bl_ t hD⟩
section
variable{P:Ad}{w:Af}{K:F__}{mg:Str->Option Aa}{base:Heap}
theorem bJ':aX' ["_law_state","_law_ties","_law_most","_law_pieces_here","_law_name","_law_weight","_law_turn"] ["_law_state","_law_ties","_law_most"] (aW' c6'):=f__
inductive bX' (K:F__) (vs:List V) (H:Hp) (Q:VK) (E:XK):Prop
 |mk:∀(l lt:Addr) (m:Nat) (zs:List V) (ts:Xb),vs=[.ref l,.ref lt,.int m]->m<=30->stt H l->H lt=some (.lst zs)->aZ' K H zs (ts.map kT)->lt≠l->ts.length<64->(∀t∈ts,cW' t)->(ts.map kO).Nodup->(∀(a:Addr) (ys:List V) (ps:List Pc) (H':Hp),But l H H'->stt H' l->H a=none->H' a=some (.lst ys)->b9' K H' ys ps->(∀p∈ps,dp' ts p)->(ps.map (·.1)).Nodup->ps.length<=m->(∀p∈ps,EndB m p.1)->Q (.ref a) H')->bX' K vs H Q E
theorem gA_{f:Addr}{fd:Ae}(F:Fun K "_law_pieces" "_law_pieces" c6' f fd)(B:Bi mg)(cD:Cal P w K mg base 1 "_law_digit" ["_law_state","_law_base"] bv')(cN:Cal P w K mg base 2 "_law_names" ["_law_state","_law_many"] cI')(cW:Cal P w K mg base 2 "_law_ways" ["_law_state","_law_ties"] (dh' K)) :
  FnOk P w K mg base CX0 3 f fd ["_law_state","_law_ties","_law_most"] (bX' K):=by
 refine F.ok bJ' (λvs H Q E h=>?_) (λcdv A outer s H vs Q E hr h=>?_)
 ·obtain⟨l,lt,m,zs,ts,rfl,_⟩:=h;rfl
 ·obtain⟨l,lt,m,zs,ts,rfl,m30,st,hlt,tu,ltl,h64,good,nd,k⟩:=h;have sz:=b_1;have hr1:Room 1 _:=hr.mono (by decide)
  refine⟨_,a3_ (ab_ (i:=3) bJ'.nd rfl (Or.inl rfl) (aK_ a2_))
   (a3_ (aM_ b_2 rfl (au_ (af_ cN hr (a0_ (pv 0) (a0_ (af_ cD hr1 (a0_ (pv 0) (a0_ (al_ b4_ (pv 2) a6_) a2_))) a2_)))) (a9_ (i:=4) bJ'.nd rfl (Or.inl rfl))
    (a3_ (ab_ (i:=5) bJ'.nd rfl (Or.inl rfl) (al_ b4_ a6_ (af_ cD hr1 (a0_ (pv 0) (a0_ (an_ ar_ (aK_ (a0_ a6_ (a0_ a6_ (a0_ (al_ hZ_ a6_ a6_) a2_)))) (af_ cD hr1 (a0_ (pv 0) (a0_ a6_ a2_))) (λ_ _=>rfl)) a2_)))))
    (a4_ (aV_ (gj_ PySem.F.plainAttrs_list PySem.F.slot_list_append PySem.F.type_list_append c0_ (pv 3) (a0_ (aP_ (a0_ (pv 4) (a0_ (pv 5) (a0_ (af_ cW hr (a0_ (pv 0) (a0_ (pv 1) a2_))) a2_)))) a2_))))))
   (a3_ (ab_ (i:=6) bJ'.nd rfl (Or.inl rfl) (af_ cD hr1 (a0_ (pv 0) (a0_ (al_ b4_ (a8_ ai_ (by rfl) B.len b_7 (a0_ (pv 3) a2_)) a6_) a2_))))
   (a4_ (aa_ (al_ fG_ (b1_ bt_ (pv 3) (bu_ (pv 6)) bs_) (b1_ bt_ (pv 3) bs_ (bu_ (pv 6)))))))),?_⟩
  refine⟨by show 0<=sizeLine;decide,λa ha=>?_⟩;have s1:=Same.new (o:=.lst []) ha
  have hla:l≠a:=by
   obtain⟨xs,e⟩:=st.some;exact a5_ e ha
  have lta:lt≠a:=a5_ hlt ha;refine⟨_,rfl,_,rfl,_,rfl,_,_,rfl,rfl,l,(m:Int)+1,rfl,by omega,by omega,st.same s1,λr H2 r0 rm b2 st2=>?_⟩;obtain⟨r,rfl⟩:=aw' r0;refine⟨l,r,rfl,by omega,st2,λln ns H3 b3 st3 fn hn3 N=>?_⟩
  have lnl:ln≠l:=λe=>by
   subst e;obtain⟨xs,e2⟩:=st2.some;rw[fn] at e2;cases e2
  have ha2:=b2 _ _ (show upd H a (.lst []) a=_ from a1_) hla.symm
  have lna:ln≠a:=λe=>by
   subst e;rw[fn] at ha2;cases ha2
  have B3:But l H H3:=(But.of s1).trans (b2.trans b3);have ha3:=b3 _ _ ha2 hla.symm;have hlt3:=B3 _ _ hlt ltl;obtain⟨xs0,hl0⟩:=st.some;have tu3:=aw_ tu B3 hl0
  refine⟨ln,rfl,⟨_,.of hn3⟩,aQ_ (K:=K) (a:=ln) (xs:=ns.map V.str) (λi σ H'=>∃(v4 v5 v6:Option V) (ys:List V) (ps:List Pc),σ=[some (.ref l),some (.ref lt),some (.int m),some (.ref a),v4,v5,v6]/\But l H H'/\stt H' l/\H' ln=some (.lst (ns.map V.str))/\H' a=some (.lst ys)/\b9' K H' ys ps/\(∀y v,y∈ys->∀t n q,y=.ref t->H' t=some (.tup [n,q,v])->v≠.ref a)/\(∀p∈ps,dp' ts p)/\ps.map (·.1)=ns.take i)
   ⟨none,none,none,[],[],rfl,B3,st3,hn3,ha3,.nil,λy v hy=>(by simp at hy),by simp,rfl⟩ (λi σ H' _ ⟨_,_,_,_,_,_,_,_,q,_⟩=>.of q) ?_ ?_⟩
  ·rintro i x σ H4 hx ⟨v4,v5,v6,ys,ps,rfl,b4,st4,hn4,ha4,pc4,far,gp,en⟩;obtain⟨n,hn,rfl⟩:=ax_ hx;have hi:i<ns.length:=(ac'.mp hn).1;refine⟨_,rfl,_,_,rfl,rfl,⟨by decide,by decide,by decide⟩,by show 3<=sizeLine;decide,λp hp=>?_⟩;have s5:=Same.new (o:=.lst [.int 3,.int 100,.int ((10:Int) ^ (9:Int).toNat)]) hp
   have pl:p≠l:=by
    obtain⟨xs,e⟩:=st4.some;exact (a5_ e hp).symm
   refine⟨_,rfl,l,3,rfl,by decide,by decide,st4.same s5,λr1 H6 q0 q1 b6 st6=>?_⟩;obtain⟨y,hy,bb,eb,e1,e2⟩:=hit3 (p:=λy:V=>∃n:Int,y=.int n/\0<n/\n<=1000000000) (a:=V.int 3) (b:=.int 100) (c:=.int ((10:Int) ^ (9:Int).toNat)) q0 q1 ⟨3,rfl,by decide,by decide⟩ ⟨100,rfl,by decide,by decide⟩ ⟨_,rfl,by decide,by decide⟩;subst eb;refine⟨p,_,_,_,rfl,rfl,.of (b6 _ _ a1_ pl),hy,l,bb,rfl,e1,by omega,st6,λr2 H7 q2 q3 b7 st7=>⟨_,_,rfl,rfl,?_⟩⟩;have b47:But l H4 H7:=(But.of s5).trans (b6.trans b7);have ha7:=b47 _ _ ha4 hla.symm;have hlt7:=(b4.trans b47) _ _ hlt ltl;have tu7:=aw_ tu (b4.trans b47) hl0;refine⟨_,rfl,.inl ⟨rfl,_,.of ha7⟩,_,rfl,_,rfl,_,rfl,_,rfl,l,lt,zs,ts,rfl,st7,hlt7,tu7,ltl,h64,good,nd,λv o H8 b8 st8 wy fresh gw=>?_⟩;have b48:=b47.trans b8;have ha8:=b8 _ _ ha7 hla.symm;have hn8:=b48 _ _ hn4 lnl;refine⟨by show 3<=sizeLine;decide,λt ht=>?_⟩;have s9:=Same.new (o:=.tup [.str n,.int (1+r2),v]) ht
   have va:v≠.ref a:=λz=>by
    have:=fresh a z;rw[ha7] at this;cases this
   have ly:=a_4 pc4;have lp:=b_5 List.length en;rw[aa',ai'] at lp;have hlen:=N.len;have ta:t≠a:=(a5_ ha8 ht).symm;refine⟨a,_,_,rfl,rfl,s9 _ _ ha8,by omega,?_⟩;refine⟨_,_,_,_,ps++[(n,1+r2,o)],rfl,λb' o' e ne=>?_,?_,?_,a1_,?_,?_,?_,?_⟩
   ·rw[a7_ (a5_ e ha)];exact s9 _ _ ((b4.trans b48) _ _ e ne)
   ·unfold stt;rw[a7_ hla];exact st8.same s9
   ·rw[a7_ lna];exact s9 _ _ hn8
   ·have old:b9' K (upd (upd H8 t (.tup [.str n,.int (1+r2),v])) a (.lst (ys++[.ref t]))) ys ps:=by
     have gen:∀(ys':List V) (ps':List Pc),(∀y∈ys',y∈ys)->b9' K H4 ys' ps'->b9' K (upd (upd H8 t (.tup [.str n,.int (1+r2),v])) a (.lst (ys++[.ref t]))) ys' ps':=λys' ps' sub h=>by
      induction h with
      |nil=>exact .nil
      |@cons y q ys1 ps1 h _ ih=>
       refine .cons ?_ (ih λz hz=>sub z (af' _ hz));obtain⟨t',v',e,ht',hv'⟩:=h;have nv:=far y v' (sub y ak') t' _ _ e ht';obtain⟨xs4,hl4⟩:=st4.some;have ht8:=s9 _ _ (b48 _ _ ht' (aD_ ht' hl4 nofun));exact⟨t',v',e,by rw[a7_ (aD_ ht8 (s9 _ _ ha8) nofun)];exact ht8,((hv'.but b48 st4).same s9).put (s9 _ _ ha8) nv⟩
     exact gen ys ps (λ_ h=>h) pc4
    exact aE_ old (.cons ⟨t,v,rfl,by rw[a7_ ta];exact a1_,(wy.same s9).put (s9 _ _ ha8) va⟩ .nil)
   ·intro y v' hy' t' n' q' e ht';rcases aA'.mp hy' with hy'|hy'
    ·obtain⟨j,hj,ej⟩:=az' hy';obtain⟨t2,v2,e2',ht2,_⟩:=ak_ pc4 j hj Z1;rw[ej] at e2';subst e2';cases e;obtain⟨xs4,hl4⟩:=st4.some;have ht8:=s9 _ _ (b48 _ _ ht2 (aD_ ht2 hl4 nofun));rw[a7_ (aD_ ht8 (s9 _ _ ha8) nofun),ht8] at ht';have z:=HO.tup.inj (a_9 ht');have:v2=v':=(c_3 (c_3 (c_3 z).2).2).1;subst this;exact far _ v2 hy' _ _ _ rfl ht2
    ·obtain rfl:y=.ref t:=by simpa using hy'
     cases e;rw[a7_ ta,a1_] at ht';have z:=HO.tup.inj (a_9 ht');have:v=v':=(c_3 (c_3 (c_3 z).2).2).1;subst this;exact va
   ·intro q hq;rcases aA'.mp hq with hq|hq
    ·exact gp q hq
    ·obtain rfl:q=(n,1+r2,o):=by simpa using hq
     exact⟨N.ok n (ad' hn),by show 1<=1+r2;omega,by show 1+r2<=1000000000;omega,gw⟩
   ·rw[ap',en,au',hn];rfl
  ·rintro σ H4 ⟨v4,v5,v6,ys,ps,rfl,b4,st4,hn4,ha4,pc4,far,gp,en⟩;rw[aa',ar'] at en;have ly:=a_4 pc4;have lp:=b_5 List.length en;rw[aa'] at lp;have hlen:=N.len;refine⟨_,rfl,_,rfl,a,_,rfl,.inl (.of ha4),_,_,rfl,rfl,l,_,rfl,by show (0:Int)<(ys.length:Int)+1;omega,by show (ys.length:Int)+1<1073741824;omega,st4,λtn H5 q0 q1 b5 st5=>?_⟩;obtain⟨tn,rfl⟩:=aw' q0;have ha5:=b5 _ _ ha4 hla.symm;refine⟨_,rfl,_,rfl,_,rfl,a,_,rfl,.of ha5,λp1 hp1=>?_⟩;rw[e1_];have s6:=Same.new (o:=.lst (ys.drop tn)) hp1;refine⟨_,rfl,_,rfl,_,rfl,a,_,rfl,.of (s6 _ _ ha5),λp2 hp2=>?_⟩;rw[dM_];have s7:=Same.new (o:=.lst (ys.take tn)) hp2;refine⟨p1,p2,_,_,rfl,rfl,s7 _ _ a1_,a1_,by rw[aQ',ai'];omega,λp3 hp3=>?_⟩;have s57:=s6.trans s7;have s8:=Same.new (o:=.lst (ys.drop tn++ys.take tn)) hp3;have b45:=b4.trans b5;have perm:=eI_ ps tn;have pm:=perm.map (·.1);have all:=s57.trans s8;refine k p3 _ (ps.drop tn++ps.take tn) _ (b45.trans (But.of all)) (st5.same all) ((b45.trans (But.of s57)).free (st5.same s57) hp3) a1_ ?_ (λq hq=>gp q (perm.mem_iff.mp hq)) ?_ ?_ λq hq=>?_
   ·have h5:b9' K _ ys ps:=Paired.mapP pc4 λy q h=>(h.but b5 st4).same all;exact aE_ (bJ_ tn h5) (bM_ tn h5)
   ·refine pm.nodup_iff.mpr ?_;rw[en];exact N.nd
   ·rw[perm.length_eq];omega
   ·have hm:=perm.mem_iff.mp hq
    have:q.1∈ns:=by
     rw[<- en];exact ah'.mpr ⟨q,hm,rfl⟩
    rcases N.end_ _ this with z|⟨kk,h1,h2⟩
    ·exact .inl z
    ·exact .inr ⟨kk,by omega,h2⟩
end
def StrV(K:F__)(H:Hp)(v:V):Option Str->Prop
 |some x=>v=.str x
 |none=>∃t,TyOf K H v t/\PySem.W.kitOne K t (.type "str")=some false
def inB(ns:List Str):Option Str->Bool
 |some x=>decide (x∈ns)
 |none=>false
def tiedB(hs:Xa)(ts:Xb):Option Str->Option Str->Bool
 |some x,some y=>decide (x∈hs.map (·.1))&&(decide (y∈hs.map (·.1))&&decide (y∈near (aY' hs) (tsOf ts) x))
 |_,_=>false
theorem cb_(hs:Xa)(ts:Xb)(x y:Str):tiedB hs ts (some x) (some y)=(decide (x∈hs.map (·.1))&&(decide (y∈hs.map (·.1))&&decide (y∈near (aY' hs) (tsOf ts) x))):=rfl
section
variable{P:Ad}{w:Af}{K:F__}{mg:Str->Option Aa}{base:Heap}
inductive bS' (K:F__) (C:Addr) (vs:List V) (H:Hp) (Q:VK) (E:XK):Prop
 |mk:∀(p:Addr) (v:V) (x:Option Str) (hs:Xa) (ts:Xb) (fp:List Addr),vs=[.ref p,v]->bl' K C H p hs ts fp->StrV K H v x->Q (.bl (inB (hs.map (·.1)) x)) H->bS' K C vs H Q E
theorem iQ_{f C:Addr}{fd:Ae}(F:Fun K "has_hand" "Web.has_hand" sHas f fd)(T:Txt K mg C)(B:Bi mg):FnOk P w K mg base CX0 1 f fd ["self","thing"] (bS' K C):=by
 refine F.ok scHas (λvs H Q E h=>?_) (λcdv A outer s H vs Q E hr h=>?_)
 ·obtain⟨p,v,x,hs,ts,fp,rfl,_⟩:=h;rfl
 ·obtain⟨p,v,x,hs,ts,fp,rfl,W,sv,k⟩:=h;have hu:=b2_ hr;obtain⟨dx,d1,l2,d3,zs,as,rfl,h1,h2,h3,h4,h5,h6,h7⟩:=W.ex;refine⟨_,a4_ (aa_ (bF_ (a8_ aH_ (by rfl) B.isi PyProof.Rows.Boot.«isinstance» (a0_ (pv 1) (a0_ (aI_ (v:=.ty "str") (by rfl) B.str PyProof.Rows.Boot.«str» rfl) a2_))) (bp_ (fT_ (cZ_ hu (pv 1) (aO_ (pv 0) rfl)))))),?_⟩;cases x with
  |some x=>
   cases (show v=.str x from sv);refine⟨_,rfl,_,_,_,_,rfl,.str x,rfl,_,rfl,iteT ?_⟩;refine⟨_,rfl,_,rfl,p,C,dx,_,_,rfl,h1,T.cl,T.nS,eH_ _ _ _,d1,_,rfl,.k (k:=Sum.inr x) h2,?_⟩;rw[dj_];exact k
  |none=>
   obtain⟨t,ty,e⟩:=sv;exact⟨_,rfl,_,_,_,_,rfl,ty,e,_,rfl,iteF k⟩
inductive cy' (K:F__) (C:Addr) (vs:List V) (H:Hp) (Q:VK) (E:XK):Prop
 |mk:∀(p:Addr) (v u:V) (x y:Option Str) (hs:Xa) (ts:Xb) (fp:List Addr),vs=[.ref p,v,u]->bl' K C H p hs ts fp->(aY' hs).Nodup->StrV K H v x->StrV K H u y->Q (.bl (tiedB hs ts x y)) H->cy' K C vs H Q E
theorem hH_{f C:Addr}{fd:Ae}(F:Fun K "are_tied" "Web.are_tied" sTied f fd)(T:Txt K mg C)(cH:CalM P w K mg base C 1 "has_hand" ["self","thing"] (bS' K C)):FnOk P w K mg base CX0 2 f fd ["self","one","other"] (cy' K C):=by
 refine F.ok scTied (λvs H Q E h=>?_) (λcdv A outer s H vs Q E hr h=>?_)
 ·obtain⟨p,v,u,x,y,hs,ts,fp,rfl,_⟩:=h;rfl
 ·obtain⟨p,v,u,x,y,hs,ts,fp,rfl,W,nd,sv,su,k⟩:=h;have hu:=b2_ hr;obtain⟨dx,d1,l2,d3,zs,as,rfl,h1,h2,h3,h4,h5,h6,h7⟩:=id W.ex;have hno:(flds d1 l2 d3).lookup ("has_hand":Str)=none:=aS_ _ _ _ Z0 Z0 Z0;refine⟨_,a4_ (aa_ (bF_ (bE_ cH T.cl hr (pv 0) (a0_ (pv 1) a2_)) (bF_ (bE_ cH T.cl hr (pv 0) (a0_ (pv 2) a2_)) (bp_ (e6_ (hW_ cmpS (roomU hr 0)) (pv 2) (b8_ hu (aO_ (pv 0) rfl) (pv 1) (λ_ _=>rfl)) (by with_unfolding_all rfl)))))),?_⟩;refine⟨_,rfl,p,dx,_,rfl,h1,hno,_,rfl,p,v,x,hs,ts,_,rfl,W,sv,_,rfl,?_⟩;cases x with
  |none=>exact iteF k
  |some x=>
   cases (show v=.str x from sv);refine ite2 (λc=>?_) (λc=>?_)
   ·have hx:x∈hs.map (·.1):=of_decide_eq_true c;obtain⟨a,e1,ha⟩:=jf_ nd hx h6 h7;refine⟨_,rfl,p,dx,_,rfl,h1,hno,_,rfl,p,u,y,hs,ts,_,rfl,W,su,_,rfl,?_⟩;cases y with
    |none=>exact iteF k
    |some y=>
     cases (show u=.str y from su);rw[cb_,a_5 hx,Bool.true_and] at k;refine ite2 (λc2=>?_) (λc2=>?_)
     ·have hy:y∈hs.map (·.1):=of_decide_eq_true c2;rw[a_5 hy,Bool.true_and] at k;refine⟨_,rfl,_,rfl,p,C,dx,_,_,rfl,h1,T.cl,T.nN,ju_ _ _ _,_,rfl,d3,.ref a,rfl,?_,y,_,rfl,⟨a,_,rfl,.of ha,f1_ _⟩,k⟩;rw[<- e1];exact .k (k:=Sum.inr x) h5
     ·have hy:¬y∈hs.map (·.1):=λz=>c2 (a_5 z);rw[a_7 hy,Bool.false_and] at k;exact k
   ·have hx:¬x∈hs.map (·.1):=λz=>c (a_5 z);cases y with
    |none=>exact k
    |some y=>
     rw[cb_,a_7 hx,Bool.false_and] at k;exact k
theorem gX_{hs:Xa}{ts ws:Xb}(G:Good hs ts)(W:cP' ts ws){t:Str × Str}(ht:t∈tsOf ws):tiedB hs ts (some t.1) (some t.2)=true:=by
 obtain⟨x,hx,ex⟩:=cD'.mp ht;obtain⟨u,hu,eu⟩:=ah'.mp (W.inn x hx);have eo:ord2 u.1 u.2=t:=(eY_ eu).trans ex
 have both:t.1∈hs.map (·.1)/\t.2∈hs.map (·.1)/\ord2 t.1 t.2=t:=by
  obtain⟨g1,g2⟩:=G.tin u hu;rcases cF_ u.1 u.2 with e|e
  ·rw[<- eo,e];exact⟨g1,g2,e⟩
  ·rw[<- eo,e];exact⟨g2,g1,(dA_ _ _).trans e⟩
 obtain⟨m1,m2,m3⟩:=both;have m4:t.2∈near (aY' hs) (tsOf ts) t.1:=List.mem_filter.mpr ⟨(aL_ hs).mem_iff.mpr m2,a_5 (by rw[m3];exact cD'.mpr ⟨u,hu,eo⟩)⟩;rw[cb_,a_5 m1,a_5 m2,a_5 m4];rfl
theorem cF':aX' ["web","ways","found","one","other"] ["web","ways"] (aW' sCWays):=f__
inductive cs' (K:F__) (C:Addr) (vs:List V) (H:Hp) (Q:VK) (E:XK):Prop
 |mk:∀(p:Addr) (v:V) (o:Option (Xb)) (hs:Xa) (ts:Xb) (fp:List Addr),vs=[.ref p,v]->bl' K C H p hs ts fp->Good hs ts->WyAt K H v o->(∀ws,o=some ws->cP' ts ws)->(∀v' H',Same H H'->WyAt K H' v' (o.map tsOf)->(∀a,v'=.ref a->H a=none)->Q v' H')->cs' K C vs H Q E
theorem hB_{f C:Addr}{fd:Ae}(F:Fun K "checked_ways" "checked_ways" sCWays f fd)(T:Txt K mg C)(cS:Cal P w K mg base 3 "sorted_ties" ["ties"] (b1' K))(cT:CalM P w K mg base C 2 "are_tied" ["self","one","other"] (cy' K C)):FnOk P w K mg base CX0 4 f fd ["web","ways"] (cs' K C):=by
 refine F.ok cF' (λvs H Q E h=>?_) (λcdv A outer s H vs Q E hr h=>?_)
 ·obtain⟨p,v,o,hs,ts,fp,rfl,_⟩:=h;rfl
 ·obtain⟨p,v,o,hs,ts,fp,rfl,W,G,wy,gw,k⟩:=h;have hu:=b2_ hr;have hr2:Room 2 _:=hr.mono (by decide)
  refine⟨_,a3_ (aj_ (cg_ (gO_ (pv 1))) (a4_ (aa_ d3_)) ad_)
   (a3_ (ab_ (i:=2) cF'.nd rfl (Or.inl rfl) (af_ cS hr (a0_ (pv 1) a2_)))
   (a3_ (aj_ (cg_ (gO_ (pv 2))) ac_ ad_)
   (a3_ (aM_ b_2 rfl (au_ (pv 2)) (bq_ rfl (ae_ (a9_ (i:=3) cF'.nd rfl (Or.inl rfl)) (ae_ (a9_ (i:=4) cF'.nd rfl (Or.inl rfl)) aN_)))
    (a4_ (aj_ (ay_ (aB_ (bE_ cT T.cl hr2 (pv 0) (a0_ (pv 3) (a0_ (pv 4) a2_))))) ac_ ad_)))
   (a4_ (aa_ (pv 2)))))),?_⟩
  cases o with
  |none=>
   cases (show v=.non from wy);exact⟨_,rfl,_,rfl,iteT (k .non H (Same.refl H) rfl (λa z=>by cases z))⟩
  |some ws=>
   obtain⟨a,ys,rfl,ha,tu⟩:=wy;have Wo:=gw ws rfl;refine⟨_,rfl,_,rfl,iteF ?_⟩;refine⟨_,rfl,a,ys,ws,rfl,ha,tu,Wo.good,Wo.nd,by have:=Wo.len;have:=G.t64;omega,λl' zs H1 s1 hf hl1 tz=>?_⟩;refine⟨_,rfl,_,rfl,iteF ?_⟩;have W1:=W.same s1;obtain⟨dx,d1,l2,d3,zs0,as,rfl,h1,h2,h3,h4,h5,h6,h7⟩:=id W1.ex;have hno:(flds d1 l2 d3).lookup ("are_tied":Str)=none:=aS_ _ _ _ Z0 Z0 Z0;rw[<- cA_] at tz;refine⟨_,rfl,l',rfl,⟨_,.of hl1⟩,aQ_ (K:=K) (a:=l') (xs:=zs) (λi σ H2=>∃(v3 v4:Option V),σ=[some (.ref p),some (.ref a),some (.ref l'),v3,v4]/\H2=H1) ⟨none,none,rfl,rfl⟩ (λi σ H2 _ ⟨_,_,_,e⟩=>by subst e;exact .of hl1) ?_ ?_⟩
   ·rintro i y σ H2 hy ⟨v3,v4,rfl,rfl⟩;obtain⟨t,ht,q,rfl,hq⟩:=aG_ tz hy;refine⟨q,_,rfl,.of (hpT hq),rfl,_,_,rfl,_,_,rfl,rfl,?_⟩;refine⟨_,rfl,p,dx,_,rfl,h1,hno,_,rfl,_,rfl,p,_,_,some t.1,some t.2,hs,ts,_,rfl,W1,G.nnd,rfl,rfl,_,rfl,?_⟩;rw[gX_ G Wo (ad' ht)];refine iteF ?_;exact⟨_,_,rfl,rfl⟩
   ·rintro σ H2 ⟨v3,v4,rfl,rfl⟩;exact⟨_,rfl,k (.ref l') _ s1 ⟨l',zs,rfl,hl1,tz⟩ (λc z=>by cases z;exact hf)⟩
def nrm(p:Pc):Pc:=(p.1,p.2.1,p.2.2.map tsOf)
def bW'(K:F__)(H0 H:Hp)(y:V)(p:Pc):Prop:=∃t v,y=.ref t/\H t=some (.tup [.str p.1,.int p.2.1,v])/\WyAt K H v p.2.2/\∀a,v=.ref a->H0 a=none
theorem bW'.same{K:F__}{H0 H H':Hp}{y:V}{p:Pc}(h:bW' K H0 H y p)(s:Same H H'):bW' K H0 H' y p:=by
 obtain⟨t,v,e,ht,hv,hn⟩:=h;exact⟨t,v,e,s _ _ ht,hv.same s,hn⟩
theorem WyAt.up{K:F__}{H:Hp}{u:HO}{v:V}{o:Option (Xb)}(h:WyAt K H v o)(n1:∀xs,H D≠some (.lst xs))(n2:∀xs,H D≠some (.tup xs)):WyAt K (upd H D u) v o:=by
 cases o with
 |none=>exact h
 |some ws=>
  obtain⟨a,ys,e,ha,t⟩:=h;exact⟨a,ys,e,by rw[a7_ (λz:a=D=>n1 ys (z▸ha))];exact ha,Paired.mapP t λy k ⟨b,z,q⟩=>⟨b,z,by rw[a7_ (λz:b=D=>n2 _ (z▸q))];exact q⟩⟩
theorem bW'.up{K:F__}{H0 H:Hp}{u:HO}{y:V}{p:Pc}(h:bW' K H0 H y p)(n1:∀xs,H D≠some (.lst xs))(n2:∀xs,H D≠some (.tup xs)):bW' K H0 (upd H D u) y p:=by
 obtain⟨t,v,e,ht,hv,hn⟩:=h;exact⟨t,v,e,by rw[a7_ (λz:t=D=>n2 _ (z▸ht))];exact ht,hv.up n1 n2,hn⟩
theorem eR_{ps:List Pc}{cs:List V}(nd:(ps.map (·.1)).Nodup)(hl:cs.length=ps.length):∀{j:Nat} {q:Pc} {c:V},ps[j]? = some q->cs[j]? = some c->valV ((ps.zip cs).map λq=>((Sum.inr q.1.1:Key),q.2)) (Sum.inr q.1)=some c:=by
 induction ps generalizing cs with
 |nil=>
  intro j q c h;simp at h
 |cons p ps ih=>
  intro j q c h1 h2;cases cs with
  |nil=>cases hl
  |cons b cs=>
   rw[ax'] at nd;obtain⟨n1,n2⟩:=aN'.mp nd;cases j with
   |zero=>
    have e1:p=q:=by simpa using h1
    have e2:b=c:=by simpa using h2
    subst e1 e2;exact bo_ rfl
   |succ j=>
    have h1:ps[j]? = some q:=by simpa using h1
    have h2:cs[j]? = some c:=by simpa using h2
    show valV ((Sum.inr p.1,b)::((ps.zip cs).map λq=>((Sum.inr q.1.1:Key),q.2))) (Sum.inr q.1)=_;rw[bn_ λe=>n1 (by rw[show p.1=q.1 from c_1 e];exact ah'.mpr ⟨q,ad' h1,rfl⟩)];exact ih n2 (by simpa using hl) h1 h2
theorem scCPiece:aX' ["web","piece"] ["web","piece"] (aW' cZ'):=f__
inductive bZ' (K:F__) (C:Addr) (vs:List V) (H:Hp) (Q:VK) (E:XK):Prop
 |mk:∀(p:Addr) (y:V) (q:Pc) (hs:Xa) (ts:Xb) (fp:List Addr),vs=[.ref p,y]->bl' K C H p hs ts fp->Good hs ts->PcAt K H y q->dp' ts q->(∀y' H',Same H H'->bW' K H H' y' (nrm q)->Q y' H')->bZ' K C vs H Q E
theorem gH_{f C:Addr}{fd:Ae}(F:Fun K "checked_piece" "checked_piece" cZ' f fd)(B:Bi mg)(cN:Cal P w K mg base 1 "is_name" ["thing"] cV')(cW:Cal P w K mg base 2 "is_whole_within" ["thing","least","most"] cx')(cC:Cal P w K mg base 4 "checked_ways" ["web","ways"] (cs' K C)){tk:Tok}(mW:mg "MOST_WEIGHT"=some (.int 1000000000 tk)) :
  FnOk P w K mg base CX0 5 f fd ["web","piece"] (bZ' K C):=by
 refine F.ok scCPiece (λvs H Q E h=>?_) (λcdv A outer s H vs Q E hr h=>?_)
 ·obtain⟨p,y,q,hs,ts,fp,rfl,_⟩:=h;rfl
 ·obtain⟨p,y,q,hs,ts,fp,rfl,W,G,⟨t,v,rfl,ht,wy⟩,gp,k⟩:=h;have hr1:Room 1 _:=hr.mono (by decide);have hr2:Room 2 _:=hr.mono (by decide)
  refine⟨_,a3_ (aj_ (e5_ (ay_ (aB_ (a8_ aH_ (by rfl) B.isi PyProof.Rows.Boot.«isinstance» (a0_ (pv 1) (a0_ (aI_ (v:=.ty "tuple") (by rfl) B.tuple PyProof.Rows.Boot.«tuple» rfl) a2_)))))
    (cp_ (ah_ cL_ (a8_ ai_ (by rfl) B.len b_7 (a0_ (pv 1) a2_)) a6_ (nomark _)))).pt ac_ ad_)
   (a3_ (aj_ (ay_ (aB_ (af_ cN hr1 (a0_ (an_ aC_ (pv 1) a6_ (λ_ _=>rfl)) a2_)))) ac_ ad_)
   (a3_ (aj_ (ay_ (aB_ (af_ cW hr2 (a0_ (an_ aC_ (pv 1) a6_ (λ_ _=>rfl)) (a0_ a6_ (a0_ (aR_ (v:=.int 1000000000) (by rfl) mW ⟨tk,rfl⟩) a2_)))))) ac_ ad_)
   (a4_ (aa_ (aP_ (a0_ (an_ aC_ (pv 1) a6_ (λ_ _=>rfl)) (a0_ (an_ aC_ (pv 1) a6_ (λ_ _=>rfl)) (a0_ (af_ cC hr (a0_ (pv 0) (a0_ (an_ aC_ (pv 1) a6_ (λ_ _=>rfl)) a2_))) a2_)))))))),?_⟩
  refine⟨_,rfl,_,_,_,_,rfl,.tup ht,rfl,_,rfl,iteF ?_⟩;refine⟨_,rfl,t,_,rfl,.inr (.of ht),rfl,_,rfl,?_⟩;refine iteNS (show V.int ((3:Nat):Int)=V.int 3 from rfl) ?_;refine⟨_,rfl,t,_,_,_,rfl,rfl,.of ht,rfl,q.1,rfl,by have:=c1_ gp.nm;omega,λH1 s1=>⟨_,rfl,?_⟩⟩;rw[gp.nm];refine iteF ?_;have ht1:=s1 _ _ ht;refine⟨_,rfl,t,_,_,_,rfl,rfl,.of ht1,rfl,q.2.1,1,1000000000,rfl,_,rfl,?_⟩;rw[a_5 gp.w1,a_5 gp.w2];refine iteF ?_;refine⟨_,rfl,t,_,_,_,rfl,rfl,.of ht1,rfl,_,rfl,t,_,_,_,rfl,rfl,.of ht1,rfl,_,rfl,_,rfl,t,_,_,_,rfl,rfl,.of ht1,rfl,p,v,q.2.2,hs,ts,fp,rfl,W.same s1,G,wy.same s1,gp.ws,λv' H2 s2 wy2 hf=>?_⟩;refine⟨by show 3<=sizeLine;decide,λt' ht'=>?_⟩;exact k (.ref t') _ (s1.trans (s2.trans (Same.new ht'))) ⟨t',v',rfl,a1_,wy2.same (Same.new ht'),λa z=>s1.free (hf a z)⟩
theorem bB':aX' ["web","pieces","found","piece","checked"] ["web","pieces"] (aW' cu'):=f__
structure Qs (ps qs:List Pc):Prop where
 nms:qs.map (·.1)=bt' (ps.map (·.1))
 mem:∀q∈qs,∃p∈ps,q=nrm p
inductive bC' (K:F__) (C:Addr) (vs:List V) (H:Hp) (Q:VK) (E:XK):Prop
 |mk:∀(p l:Addr) (ys:List V) (ps:List Pc) (hs:Xa) (ts:Xb) (fp:List Addr),vs=[.ref p,.ref l]->bl' K C H p hs ts fp->Good hs ts->H l=some (.lst ys)->b9' K H ys ps->(∀q∈ps,dp' ts q)->(ps.map (·.1)).Nodup->ps.length<64->(∀l' zs qs H',Same H H'->H' l'=some (.lst zs)->Paired (bW' K H H') zs qs->Qs ps qs->Q (.ref l') H')->bC' K C vs H Q E
theorem nw__{H:Hp}{a:Addr}{o:HO}(n:H a=none):Same H (upd H a o)/\upd H a o a=some o:=⟨Same.new n,a1_⟩
theorem fj_{f C:Addr}{fd:Ae}(F:Fun K "checked_pieces" "checked_pieces" cu' f fd)(B:Bi mg)(cP:Cal P w K mg base 5 "checked_piece" ["web","piece"] (bZ' K C)):FnOk P w K mg base CX0 6 f fd ["web","pieces"] (bC' K C):=by
 refine F.ok bB' (λvs H Q E h=>?_) (λcdv A outer s H vs Q E hr h=>?_)
 ·obtain⟨p,l,ys,ps,hs,ts,fp,rfl,_⟩:=h;rfl
 ·obtain⟨p,l,ys,ps,hs,ts,fp,rfl,W,G,hl,pc,gp,nd,h64,k⟩:=h;have hu:=b2_ hr;have sz:=b_1;have le:=a_4 pc
  refine⟨_,a3_ (aj_ (ay_ (aB_ (a8_ aH_ (by rfl) B.isi PyProof.Rows.Boot.«isinstance» (a0_ (pv 1) (a0_ (aI_ (v:=.ty "list") (by rfl) B.list PyProof.Rows.Boot.«list» rfl) a2_))))) ac_ ad_)
   (a3_ (ab_ (i:=2) bB'.nd rfl (Or.inr rfl) be_)
   (a3_ (aM_ b_2 rfl (au_ (pv 1)) (a9_ (i:=3) bB'.nd rfl (Or.inl rfl))
    (a3_ (ab_ (i:=4) bB'.nd rfl (Or.inl rfl) (af_ cP hr (a0_ (pv 0) (a0_ (pv 3) a2_))))
    (a3_ (aj_ (cg_ (cZ_ hu (an_ aC_ (pv 4) a6_ (λ_ _=>rfl)) (pv 2))) ac_ ad_)
    (a4_ (b7_ hu (pv 2) (an_ aC_ (pv 4) a6_ (λ_ _=>rfl)) (pv 4) rfl)))))
   (a4_ (aa_ (aZ_ ["name","found"] 1 [2] (au_ (a8_ (ea_ rfl) (by rfl) B.sorted PyProof.Rows.Boot.«sorted» (a0_ (pv 2) a2_))) (λfp s H=>a9_ (i:=0) (show (["name","found"]:List Str).Nodup by decide +kernel) rfl (Or.inl rfl)) (λfp s H=>aX_)
    (λfp s H=>b8_ hu (pv 1) (pv 0) (λ_ _=>rfl))))))),?_⟩
  refine⟨_,rfl,_,_,_,_,rfl,.lst hl,rfl,_,rfl,iteF ?_⟩;intro d hd;have s0:Same H (upd H d (.dK [])):=Same.new hd;refine⟨_,rfl,l,rfl,⟨_,.of (s0 _ _ hl)⟩,aQ_ (K:=K) (a:=l) (xs:=ys) (λi σ H2=>∃(v3 v4:Option V) (cs:List V),σ=[some (.ref p),some (.ref l),some (.ref d),v3,v4]/\Same H H2/\Paired (bW' K H H2) cs ((ps.take i).map nrm)/\H2 d=some (.dK (((ps.take i).zip cs).map λq=>(Sum.inr q.1.1,q.2)))) ⟨none,none,[],rfl,s0,.nil,a1_⟩ (λi σ H2 _ ⟨_,_,_,_,s2,_⟩=>.of (s2 _ _ hl)) ?_ ?_⟩
  ·rintro i y σ H2 hy ⟨v3,v4,cs,rfl,s2,pn,hd2⟩;have hi:i<ys.length:=(ac'.mp hy).1;have hq:ps[i]? = some (ps[i]' Z1):=ab' Z1;have py:=ak_ pc i hi Z1;rw[(ac'.mp hy).2] at py;generalize ps[i]' Z1=q at hq py;refine⟨_,rfl,_,rfl,p,y,q,hs,ts,fp,rfl,W.same s2,G,py.same s2,gp q (ad' hq),λy' H3 s3 pw=>?_⟩;obtain⟨t,v,rfl,ht,wy,hf⟩:=pw;have hd3:=s3 _ _ hd2;have lc:=a_4 pn;rw[aa',ai'] at lc
   have keys:((((ps.take i).zip cs).map λq=>((Sum.inr q.1.1:Key),q.2)).map (·.1))=((ps.take i).map (·.1)).map Sum.inr:=by
    rw[al'];have:((λx:Key × V=>x.1) ∘ λq:Pc × V=>((Sum.inr q.1.1:Key),q.2))=(λp:Pc=>(Sum.inr p.1:Key)) ∘ Prod.fst:=rfl;rw[this,<- al',List.map_fst_zip (by rw[ai'];omega),al'];rfl
   have nov:valV (((ps.take i).zip cs).map λq=>((Sum.inr q.1.1:Key),q.2)) (Sum.inr q.1)=none:=aA_ (by
    rw[keys];intro m;obtain⟨x,hx,e⟩:=ah'.mp m;cases e;exact bc_ (g:=λp:Pc=>p.1) nd hq hx)
   refine⟨_,rfl,t,_,_,_,rfl,rfl,.of ht,rfl,_,rfl,d,_,rfl,.k (k:=Sum.inr q.1) hd3,_,rfl,?_⟩;rw[nov];refine iteF ?_;refine⟨_,rfl,_,rfl,_,rfl,t,_,_,_,rfl,rfl,.of ht,rfl,d,_,rfl,.k (k:=Sum.inr q.1) hd3 (by rw[aa',List.length_zip,ai'];omega),?_⟩;have s23:=s2.trans s3;have n1:∀xs,H3 d≠some (.lst xs):=λxs z=>by rw[hd3] at z;cases z
   have n2:∀xs,H3 d≠some (.tup xs):=λxs z=>by rw[hd3] at z;cases z
   refine⟨_,_,cs++[.ref t],rfl,λc o e=>?_,?_,?_⟩
   ·rw[a7_ (a5_ e hd)];exact s23 _ _ e
   ·rw[au',hq,ap'];exact aE_ (Paired.mapP pn λy q h=>(h.same s3).up n1 n2) (.cons (bW'.up ⟨t,v,rfl,ht,wy,λa z=>s2.free (hf a z)⟩ n1 n2) .nil)
   ·rw[a1_,bB_ _ nov,au',hq,List.zip_append (by rw[ai'];omega),ap'];rfl
  ·rintro σ H2 ⟨v3,v4,cs,rfl,s2,pn,hd2⟩;rw[le,ar'] at pn hd2;have lc:=a_4 pn;rw[aa'] at lc
   have keys:(((ps.zip cs).map λq=>((Sum.inr q.1.1:Key),q.2)).map (·.1))=(ps.map (·.1)).map Sum.inr:=by
    rw[al'];have:((λx:Key × V=>x.1) ∘ λq:Pc × V=>((Sum.inr q.1.1:Key),q.2))=(λp:Pc=>(Sum.inr p.1:Key)) ∘ Prod.fst:=rfl;rw[this,<- al',List.map_fst_zip Z1,al'];rfl
   refine⟨_,rfl,d,_,ps.map (·.1),rfl,hd2,keys,by rw[aa'];exact h64,λls hls=>?_⟩;obtain⟨s3,hl3⟩:=nw__ (o:=.lst ((bt' (ps.map (·.1))).map V.str)) hls;refine⟨ls,rfl,⟨_,.of hl3⟩,λD hD=>?_⟩;generalize upd H2 ls (.lst ((bt' (ps.map (·.1))).map V.str))=H3 at s3 hl3 hD ⊢;have lss:(bt' (ps.map (·.1))).length=ps.length:=by rw[(aF_ _).length_eq,aa']
   refine aJ_ (own:=1) (fv:=[some (.ref d)]) (xs:=(bt' (ps.map (·.1))).map V.str) rfl gok1 (λi out H'=>∃qs:List Pc,Same H3 H'/\H' D=some (.lst out)/\Paired (bW' K H H2) out qs/\qs.map (·.1)=(bt' (ps.map (·.1))).take i/\∀q∈qs,∃p∈ps,q=nrm p) ⟨[],Same.new hD,a1_,.nil,rfl,by simp⟩ (λi out H' _ ⟨_,sm,_⟩=>.of (sm _ _ hl3)) (λzs H4 ⟨qs,s4,hD4,pq,en,mem⟩=>?_) (λi x out H' hx ⟨qs,sm,hD',pq,en,mem⟩=>?_)
   ·rw[aa',ar'] at en;exact k D zs qs H4 (s2.trans (s3.trans s4)) hD4 (Paired.mapP pq λy q h=>h.same (s3.trans s4)) ⟨en,mem⟩
   ·obtain⟨n,hn,rfl⟩:=ax_ hx;have hm:n∈ps.map (·.1):=(aF_ _).mem_iff.mp (ad' hn);obtain⟨q,hq,eq⟩:=ah'.mp hm;obtain⟨j,hj,ej⟩:=az' hq;have hqj:ps[j]? = some q:=by rw[ab' hj,ej]
    have hcj:cs[j]? = some (cs[j]' Z1):=ab' Z1;have hv:=eR_ nd lc hqj hcj;have pj:=ak_ pn j Z1 (by rw[aa'];omega);rw[List.getElem_map,ej] at pj;generalize cs[j]' Z1=c at hcj hv pj;rw[eq] at hv;have lo:=a_4 pq;have lq:=b_5 List.length en;rw[aa',ai'] at lq;have hi:i<(bt' (ps.map (·.1))).length:=(ac'.mp hn).1;refine⟨_,rfl,rfl,λNx hN=>yesT ?_⟩;refine⟨_,rfl,_,rfl,d,c,rfl,?_,out,hD',by omega,hN _ _ ⟨qs++[nrm q],az_ sm hD,a1_,?_,?_,?_⟩⟩
    ·rw[<- hv];exact .k (k:=Sum.inr n) (sm _ _ (s3 _ _ hd2))
    ·exact aE_ pq (.cons pj .nil)
    ·rw[ap',en,au',hn,<- eq];rfl
    ·intro q' hq';rcases aA'.mp hq' with hq'|hq'
     ·exact mem q' hq'
     ·obtain rfl:q'=nrm q:=by simpa using hq'
      exact⟨q,hq,rfl⟩
end
abbrev sGInit:Stmt:=bn' dc' 0
abbrev sGHas:Stmt:=bn' dc' 1
abbrev c2':Stmt:=bn' dc' 2
abbrev cB':Stmt:=bn' dc' 3
def gflds(p dw dy:Addr):List (Str × V):=putF "ways_by_name" (.ref dy) (putF "weight_by_name" (.ref dw) (putF "web" (.ref p) []))
theorem g12:¬(("web":Str)="weight_by_name"):=by decide +kernel
theorem g13:¬(("web":Str)="ways_by_name"):=by decide +kernel
theorem g23:¬(("weight_by_name":Str)="ways_by_name"):=by decide +kernel
theorem aW_(p dw dy:Addr):(gflds p dw dy).lookup ("web":Str)=some (.ref p):=by
 unfold gflds;rw[ag_,a_6 g13,ag_,a_6 g12,ag_,a_8 rfl]
theorem eo_(p dw dy:Addr):(gflds p dw dy).lookup ("weight_by_name":Str)=some (.ref dw):=by
 unfold gflds;rw[ag_,a_6 g23,ag_,a_8 rfl]
theorem bg_(p dw dy:Addr){m:Str}(h1:¬m="web")(h2:¬m="weight_by_name")(h3:¬m="ways_by_name"):(gflds p dw dy).lookup m=none:=by
 unfold gflds;rw[ag_,a_6 h3,ag_,a_6 h2,ag_,a_6 h1]
 all_goals rfl
def wKV(qs:List Pc):List (Key × V):=qs.map λq=>(Sum.inr q.1,V.int q.2.1)
def yKV(qs:List Pc)(vs:List V):List (Key × V):=(qs.zip vs).map λx=>(Sum.inr x.1.1,x.2)
theorem ev_(qs:List Pc):(wKV qs).map (·.1)=(qs.map (·.1)).map Sum.inr:=by
 unfold wKV;rw[al',al'];rfl
variable{qs:List Pc}
theorem hz_{vs:List V}(h:vs.length=qs.length):(yKV qs vs).map (·.1)=(qs.map (·.1)).map Sum.inr:=by
 unfold yKV;rw[al'];have:((λx:Key × V=>x.1) ∘ λq:Pc × V=>((Sum.inr q.1.1:Key),q.2))=(λp:Pc=>(Sum.inr p.1:Key)) ∘ Prod.fst:=rfl;rw[this,<- al',List.map_fst_zip Z1,al'];rfl
structure a2' (K:F__) (CG CW:Addr) (H:Hp) (g p:Addr) (hs:Xa) (ts:Xb) (qs:List Pc) (fp:List Addr):Prop where
 ex:∃(dx dw dy:Addr) (vs:List V) (fpw:List Addr),H g=some (.ins CG dx (gflds p dw dy))/\bl' K CW H p hs ts fpw/\H dw=some (.dK (wKV qs))/\H dy=some (.dK (yKV qs vs))/\Paired (λv (q:Pc)=>WyAt K H v q.2.2) vs qs /\
  g∈fp/\dw∈fp/\dy∈fp/\(∀b∈fpw,b∈fp)/\∀v∈vs,∀a,v=.ref a->a∈fp
theorem bK_{α β:Type}{F G:α->β->Prop}:∀{l:List α} {m:List β},Paired F l m->(∀a∈l,∀b,F a b->G a b)->Paired G l m
 |_,_,.nil,_=>.nil
 |_,_,.cons h t,f=>.cons (f _ ak' _ h) (bK_ t λa ha=>f a (af' _ ha))
variable{H':Hp}
theorem WyAt.keep{K:F__}{H:Hp}{v:V}{o:Option (Xb)}(h:WyAt K H v o)(k:∀a,v=.ref a->∀u,H a=some u->H' a=some u)(kt:∀b xs,H b=some (.tup xs)->H' b=some (.tup xs)):WyAt K H' v o:=by
 cases o with
 |none=>exact h
 |some ws=>
  obtain⟨a,ys,e,ha,t⟩:=h;exact⟨a,ys,e,k a e _ ha,Paired.mapP t λy q ⟨b,z,hb⟩=>⟨b,z,kt _ _ hb⟩⟩
variable{fp:List Addr}
theorem a2'.keep{K:F__}{CG CW:Addr}{H:Hp}{g p:Addr}{hs:Xa}{ts:Xb}(G:a2' K CG CW H g p hs ts qs fp)(k:∀b∈fp,∀o,H b=some o->H' b=some o)(kt:∀b xs,H b=some (.tup xs)->H' b=some (.tup xs)):a2' K CG CW H' g p hs ts qs fp:=by
 obtain⟨dx,dw,dy,vs,fpw,h1,h2,h3,h4,h5,m1,m2,m3,m4,m5⟩:=G.ex;exact⟨dx,dw,dy,vs,fpw,k _ m1 _ h1,h2.keep (λb hb o e=>k b (m4 b hb) o e) kt,k _ m2 _ h3,k _ m3 _ h4,bK_ h5 λv hv q h=>h.keep (λa z u e=>k a (m5 v hv a z) u e) kt,m1,m2,m3,m4,m5⟩
theorem a2'.same{K:F__}{CG CW:Addr}{H:Hp}{g p:Addr}{hs:Xa}{ts:Xb}(G:a2' K CG CW H g p hs ts qs fp)(s:Same H H'):a2' K CG CW H' g p hs ts qs fp:=G.keep (λb _ o e=>s b o e) λb xs e=>s b _ e
structure TxtG (K:F__) (CG:Addr):Prop where
 cl:Cls K CG
 nW:br' K CG "web"
 nG:br' K CG "weight_by_name"
 nY:br' K CG "ways_by_name"
structure InsK (K:F__) (C:Addr):Prop where
 ha:PySem.W.findIn K (.ref C) "__class__"=some (some (.builtin "object.__class__"))
 hn:PySem.W.specialIn K (.builtin "object.__class__") "__get__"=some (some (.builtin "getset_descriptor.__get__"))
 tk:PySem.W.takesIn K (.builtin "object.__class__")=some true
 mo:PySem.W.mroIn K C (.type "object")=some true
theorem hd_(K:F__)(c:Aa):PySem.W.kitOne K c c=some true:=by
 unfold PySem.W.kitOne;rw[a_8 (beq_self_eq_true c)]
theorem eS_{K:F__}{H0 H:Hp}:∀{zs:List V} {qs:List Pc},Paired (bW' K H0 H) zs qs->∃vs:List V,vs.length=qs.length/\Paired (λz (x:Pc × V)=>∃t,z=.ref t/\H t=some (.tup [.str x.1.1,.int x.1.2.1,x.2])) zs (qs.zip vs)/\Paired (λv (q:Pc)=>WyAt K H v q.2.2) vs qs/\∀v∈vs,∀a,v=.ref a->H0 a=none
 |_,_,.nil=>⟨[],rfl,.nil,.nil,by simp⟩
 |_,_,.cons ⟨t,v,e,ht,wy,hn⟩ r=>by
  obtain⟨vs,h1,h2,h3,h4⟩:=eS_ r;refine⟨v::vs,by simp[h1],.cons ⟨t,e,ht⟩ h2,.cons wy h3,λu hu=>?_⟩;rcases an'.mp hu with rfl|hu
  ·exact hn
  ·exact h4 u hu
theorem ew_{K:F__}{l:Addr}{zs:List V}{xs:List (Pc × V)}{H:Hp}{Q:VK}{σ0:St}{j:Nat}(sel:Pc × V->V)(hj:∀x:Pc × V,[some (V.str x.1.1),some (V.int x.1.2.1),some x.2][j]? = some (some (sel x)))(hσ:σ0=[none,none,none])(hl:H l=some (.lst zs))(pz:Paired (λz (x:Pc × V)=>∃t,z=.ref t/\H t=some (.tup [.str x.1.1,.int x.1.2.1,x.2])) zs xs)(h1000:xs.length<=1000)(hD:H D=none)(q:∀H' out,Same H H'->H' D=some (.lst out)->a5' K H' out (xs.map λx=>(Sum.inr x.1.1,sel x))->Q (.ref D) H') :
  c0' (Itl K l) (gTup K 3 (cg' (bM' 0) (cg' (bM' 1) (cg' (bM' 2) gNil)))) tYes (tTup (bm' (tVar 0) (bm' (tVar j) tNil))) σ0 D H Q:=by
 have sz:=b_1;have le:=a_4 pz;refine aJ_ (own:=3) (fv:=[]) (xs:=zs) hσ gok3 (λi out H'=>Same H H'/\H' D=some (.lst out)/\a5' K H' out ((xs.take i).map λx=>(Sum.inr x.1.1,sel x))) ⟨Same.new hD,a1_,.nil⟩ (λi out H' _ ⟨sm,_,_⟩=>.of (sm _ _ hl)) (λout H4 ⟨sm,hD4,eo⟩=>?_) (λi y out H' hy ⟨sm,hD',eo⟩=>?_)
 ·rw[le,ar'] at eo;exact q _ _ sm hD4 eo
 ·have hi:i<zs.length:=(ac'.mp hy).1;have hx:xs[i]? = some (xs[i]' Z1):=ab' Z1;obtain⟨t,et,ht⟩:=ak_ pz i hi Z1;rw[(ac'.mp hy).2] at et;subst et;generalize xs[i]' Z1=x at hx ht;have lo:=a_4 eo;rw[aa',ai'] at lo;refine⟨_,⟨t,_,_,_,rfl,.of (sm _ _ ht),rfl⟩,rfl,λNx hN=>yesT ?_⟩;refine⟨_,rfl,_,hj x,by show 2<=sizeLine;decide,λp hp=>?_⟩;have s2:=Same.new (o:=.tup [.str x.1.1,sel x]) hp;refine⟨out,s2 _ _ hD',by omega,hN _ _ ⟨az_ (sm.trans s2) hD,a1_,?_⟩⟩;rw[b0_ _ hx];have pD:∀{b:Addr} {ys:List V},upd H' p (.tup [.str x.1.1,sel x]) b=some (.tup ys)->b≠D:=λhb=>aD_ hb (s2 _ _ hD') nofun;refine aE_ (Paired.mapP eo λy kv ⟨b,z,hb⟩=>⟨b,z,by rw[a7_ (pD (s2 _ _ hb))];exact s2 _ _ hb⟩) (.cons ⟨p,rfl,?_⟩ .nil);have hp2:upd H' p (.tup [.str x.1.1,sel x]) p=some (.tup [.str x.1.1,sel x]):=a1_;rw[a7_ (pD hp2)];exact hp2
section
variable{P:Ad}{w:Af}{K:F__}{mg:Str->Option Aa}{base:Heap}
theorem scGInit:aX' ["self","web","pieces","checked"] ["self","web","pieces"] (aW' sGInit):=f__
inductive cC' (K:F__) (CG CW:Addr) (vs:List V) (H:Hp) (Q:VK) (E:XK):Prop
 |mk:∀(g dx p l:Addr) (ys:List V) (ps:List Pc) (hs:Xa) (ts:Xb) (fpw:List Addr),vs=[.ref g,.ref p,.ref l]->H g=some (.ins CG dx [])->bl' K CW H p hs ts fpw->g∉fpw->Good hs ts->H l=some (.lst ys)->b9' K H ys ps->(∀q∈ps,dp' ts q)->(ps.map (·.1)).Nodup->ps.length<64->(∀qs fp H',(∀b o,H b=some o->b≠g->H' b=some o)->a2' K CG CW H' g p hs ts qs fp->Qs ps qs->(∀b∈fp,b=g∨b∈fpw∨H b=none)->Q .non H')->cC' K CG CW vs H Q E
theorem h3_{f CG CW:Addr}{fd:Ae}(F:Fun K "__init__" "Goods.__init__" sGInit f fd)(T:TxtG K CG)(TW:Txt K mg CW)(IW:InsK K CW)(B:Bi mg)(mWeb:mg "Web"=some (.ref CW))(cP:Cal P w K mg base 6 "checked_pieces" ["web","pieces"] (bC' K CW)):FnOk P w K mg base CX0 7 f fd ["self","web","pieces"] (cC' K CG CW):=by
 refine F.ok scGInit (λvs H Q E h=>?_) (λcdv A outer s H vs Q E hr h=>?_)
 ·obtain⟨g,dx,p,l,ys,ps,hs,ts,fpw,rfl,_⟩:=h;rfl
 ·obtain⟨g,dx,p,l,ys,ps,hs,ts,fpw,rfl,hg,W,gw,G,hl,pc,gp,nd,h64,k⟩:=h
  refine⟨_,a3_ (aj_ (ay_ (aB_ (a8_ gI_ (by rfl) B.isi PyProof.Rows.Boot.«isinstance» (a0_ (pv 1) (a0_ (aR_ (v:=.ref CW) (by rfl) mWeb rfl) a2_))))) ac_ ad_)
   (a3_ (ab_ (i:=3) scGInit.nd rfl (Or.inl rfl) (af_ cP hr (a0_ (pv 1) (a0_ (pv 2) a2_))))
   (a3_ (cV_ (pv 0) (pv 1) rfl)
   (a3_ (cV_ (pv 0) (am_ (b3_ rfl) (by rfl) B.dict PyProof.Rows.Boot.«dict» (a0_ (aZ_ ["name","weight","ways"] 3 [] (au_ (pv 3)) (λfp s H=>cr_ (n:=3) (ae_ (a9_ (i:=0) (show (["name","weight","ways"]:List Str).Nodup by decide +kernel) rfl (Or.inl rfl)) (ae_ (a9_ (i:=1) (show (["name","weight","ways"]:List Str).Nodup by decide +kernel) rfl (Or.inl rfl)) (ae_ (a9_ (i:=2) (show (["name","weight","ways"]:List Str).Nodup by decide +kernel) rfl (Or.inl rfl)) aN_)))) (λfp s H=>aX_) (λfp s H=>aP_ (a0_ (pv 0) (a0_ (pv 1) a2_)))) a2_)) rfl)
   (a4_ (cV_ (pv 0) (am_ (b3_ rfl) (by rfl) B.dict PyProof.Rows.Boot.«dict» (a0_ (aZ_ ["name","weight","ways"] 3 [] (au_ (pv 3)) (λfp s H=>cr_ (n:=3) (ae_ (a9_ (i:=0) (show (["name","weight","ways"]:List Str).Nodup by decide +kernel) rfl (Or.inl rfl)) (ae_ (a9_ (i:=1) (show (["name","weight","ways"]:List Str).Nodup by decide +kernel) rfl (Or.inl rfl)) (ae_ (a9_ (i:=2) (show (["name","weight","ways"]:List Str).Nodup by decide +kernel) rfl (Or.inl rfl)) aN_)))) (λfp s H=>aX_) (λfp s H=>aP_ (a0_ (pv 0) (a0_ (pv 2) a2_)))) a2_)) rfl))))),?_⟩
  obtain⟨dxw,d1,l2,d3,zs0,as,ef,w1,_⟩:=id W.ex;refine⟨_,rfl,_,_,_,_,rfl,.ins w1 TW.cl IW.ha IW.hn IW.tk IW.mo,hd_ _ _,_,rfl,iteF ?_⟩;refine⟨_,rfl,_,rfl,p,l,ys,ps,hs,ts,fpw,rfl,W,G,hl,pc,gp,nd,h64,λlc zs qs H1 s1 hlc pn Qq=>?_⟩;obtain⟨vs,lv,pz,wys,vnew⟩:=eS_ pn;have hg1:=s1 _ _ hg
  have lq:qs.length=ps.length:=by
   have:=b_5 List.length Qq.nms;rw[aa',(aF_ _).length_eq,aa'] at this;exact this
  have qnd:(qs.map (·.1)).Nodup:=by
   rw[Qq.nms];exact (aF_ _).nodup_iff.mpr nd
  refine⟨_,rfl,_,rfl,g,CG,dx,[],rfl,hg1,T.cl,T.nW,by show 0<1000;decide,?_⟩;have up1:∀{b o},H1 b=some o->b≠g->upd H1 g (.ins CG dx (putF "web" (.ref p) [])) b=some o:=λe ne=>by rw[a7_ ne];exact e
  have hg2:upd H1 g (.ins CG dx (putF "web" (.ref p) [])) g=some (.ins CG dx (putF "web" (.ref p) [])):=a1_
  have fr1:∀{b},upd H1 g (.ins CG dx (putF "web" (.ref p) [])) b=none->H1 b=none:=λ{b} e=>by
   by_cases z:b=g
   ·rw[z,a1_] at e;cases e
   ·rw[a7_ z] at e;exact e
  generalize upd H1 g (.ins CG dx (putF "web" (.ref p) []))=H2 at up1 hg2 fr1 ⊢;have lcg:lc≠g:=aD_ hlc hg1 nofun;have pz2:Paired (λz (x:Pc × V)=>∃t,z=.ref t/\H2 t=some (.tup [.str x.1.1,.int x.1.2.1,x.2])) zs (qs.zip vs):=Paired.mapP pz λz x ⟨t,e,ht⟩=>⟨t,e,up1 ht (aD_ ht hg1 nofun)⟩;have z1000:(qs.zip vs).length<=1000:=by rw[List.length_zip];omega
  refine⟨_,rfl,lc,rfl,⟨_,.of (up1 hlc lcg)⟩,λD hD=>?_⟩;refine ew_ (λx=>.int x.1.2.1) (λx=>rfl) rfl (up1 hlc lcg) pz2 z1000 hD λH3 out s3 hD3 pa3=>?_;refine⟨D,out,_,rfl,hD3,pa3,by rw[aa'];exact z1000,λdw hdw=>?_⟩
  have ekv:((qs.zip vs).map λx:Pc × V=>((Sum.inr x.1.1:Key),V.int x.1.2.1))=wKV qs:=by
   unfold wKV;have:(λx:Pc × V=>((Sum.inr x.1.1:Key),V.int x.1.2.1))=(λq:Pc=>((Sum.inr q.1:Key),V.int q.2.1)) ∘ Prod.fst:=rfl;rw[this,<- al',List.map_fst_zip Z1]
  have ndk:(qs.map (·.1)).map (Sum.inr:Str->Key) |>.Nodup:=by
   rw[aI',List.pairwise_map];exact qnd.imp λn e=>n (c_1 e)
  rw[ekv,ba_ (by rw[ev_];exact ndk)];have s4:=Same.new (o:=.dK (wKV qs)) hdw;have hg4:=s4 _ _ (s3 _ _ hg2);refine⟨_,rfl,g,CG,dx,_,rfl,hg4,T.cl,T.nG,by show 1<1000;decide,?_⟩;have s24:=s3.trans s4;have hdw4:upd H3 dw (.dK (wKV qs)) dw=some (.dK (wKV qs)):=a1_;have dwg:dw≠g:=(a5_ (s3 _ _ hg2) hdw).symm;have fr4:∀{b},upd H3 dw (.dK (wKV qs)) b=none->H2 b=none:=λe=>s24.free e;have dwn:H2 dw=none:=s3.free hdw;generalize upd H3 dw (.dK (wKV qs))=H4 at s4 hg4 s24 hdw4 fr4 ⊢;have up5:∀{b o},H4 b=some o->b≠g->upd H4 g (.ins CG dx (putF "weight_by_name" (.ref dw) (putF "web" (.ref p) []))) b=some o:=λe ne=>by rw[a7_ ne];exact e
  have hg5:upd H4 g (.ins CG dx (putF "weight_by_name" (.ref dw) (putF "web" (.ref p) []))) g=some (.ins CG dx (putF "weight_by_name" (.ref dw) (putF "web" (.ref p) []))):=a1_
  have fr5:∀{b},upd H4 g (.ins CG dx (putF "weight_by_name" (.ref dw) (putF "web" (.ref p) []))) b=none->H4 b=none:=λ{b} e=>by
   by_cases z:b=g
   ·rw[z,a1_] at e;cases e
   ·rw[a7_ z] at e;exact e
  generalize upd H4 g (.ins CG dx (putF "weight_by_name" (.ref dw) (putF "web" (.ref p) [])))=H5 at up5 hg5 fr5 ⊢;have up15:∀{b o},H1 b=some o->b≠g->H5 b=some o:=λe ne=>up5 (s24 _ _ (up1 e ne)) ne;have pz5:Paired (λz (x:Pc × V)=>∃t,z=.ref t/\H5 t=some (.tup [.str x.1.1,.int x.1.2.1,x.2])) zs (qs.zip vs):=Paired.mapP pz λz x ⟨t,e,ht⟩=>⟨t,e,up15 ht (aD_ ht hg1 nofun)⟩;refine⟨_,rfl,lc,rfl,⟨_,.of (up15 hlc lcg)⟩,λD2 hD2=>?_⟩;refine ew_ (λx=>x.2) (λx=>rfl) rfl (up15 hlc lcg) pz5 z1000 hD2 λH6 out2 s6 hD6 pa6=>?_;refine⟨D2,out2,_,rfl,hD6,pa6,by rw[aa'];exact z1000,λdy hdy=>?_⟩;rw[show ((qs.zip vs).map λx:Pc × V=>((Sum.inr x.1.1:Key),x.2))=yKV qs vs from rfl,ba_ (by rw[hz_ lv];exact ndk)];have s7:=Same.new (o:=.dK (yKV qs vs)) hdy;have s57:=s6.trans s7;have hg7:=s57 _ _ hg5;refine⟨_,rfl,g,CG,dx,_,rfl,hg7,T.cl,T.nY,by show 2<1000;decide,?_⟩;have hdy7:upd H6 dy (.dK (yKV qs vs)) dy=some (.dK (yKV qs vs)):=a1_;have dyg:dy≠g:=(a5_ (s6 _ _ hg5) hdy).symm;have dyn:H5 dy=none:=s6.free hdy;generalize upd H6 dy (.dK (yKV qs vs))=H7 at s7 s57 hg7 hdy7 ⊢
  have fin:∀{b o},H1 b=some o->b≠g->upd H7 g (.ins CG dx (gflds p dw dy)) b=some o:=λe ne=>by
   rw[a7_ ne];exact s57 _ _ (up15 e ne)
  have tupf:∀b xs,H1 b=some (.tup xs)->upd H7 g (.ins CG dx (gflds p dw dy)) b=some (.tup xs):=λb xs e=>fin e (aD_ e hg1 nofun);have nH:∀{b},H1 b=none->H b=none:=λe=>s1.free e;refine k qs (g::dw::dy::(fpw++vs.filterMap λv=>match v with | .ref a=>some a|_=>none)) _ (λb o e ne=>fin (s1 _ _ e) ne) ⟨dx,dw,dy,vs,fpw,a1_,?_,?_,?_,?_,by simp,by simp,by simp,λb hb=>by simp[hb],λv hv a z=>?_⟩ Qq λb hb=>?_
  ·exact W.keep (λb hb o e=>fin (s1 _ _ e) (λz=>gw (z▸hb))) λb xs e=>tupf b xs (s1 _ _ e)
  ·rw[a7_ dwg];exact s57 _ _ (up5 hdw4 dwg)
  ·rw[a7_ dyg];exact hdy7
  ·exact bK_ wys λv hv q h=>h.keep (λa z u e=>fin e (λzz=>by
    subst zz;have:=vnew v hv _ z;rw[hg] at this;cases this)) λb xs e=>tupf b xs e
  ·refine af' _ (af' _ (af' _ (aB' _ (ay'.mpr ⟨v,hv,?_⟩))));rw[z]
  ·simp only[an',aA',ay'] at hb;rcases hb with rfl|rfl|rfl|hb|⟨v,hv,e⟩
   ·exact .inl rfl
   ·exact .inr (.inr (nH (fr1 dwn)))
   ·exact .inr (.inr (nH (fr1 (s24.free (fr5 dyn)))))
   ·exact .inr (.inl hb)
   ·cases v with
    |ref a=>
     cases e;exact .inr (.inr (vnew _ hv _ rfl))
    |_=>cases e
end
end Ev
namespace L2
open PySem
theorem pass1{P:Ad}{w:Af}{X:Cx}:bh' (CX1 P w) X E0:=λ_ _ _ _ _ _ _ h=>by
 obtain⟨_,_,_,_,_,_,_,_,_,_,_,_,z⟩:=h;exact z.elim
end L2
namespace Ev
open PySem L2
structure CalX (P:Ad) (w:Af) (K:F__) (mg:Str->Option Aa) (base:Heap) (C:Addr) (k:Nat) (m:Str) (ps:List Str) (sp:Sp):Prop where
 ex:∃f fd,FnOk P w K mg base (CX1 P w) k f fd ps sp/\Meth K C m f/\bL' K fd ps []
theorem jP_{X:Cx}{C:Addr}{k:Nat}{m:Str}{ps:List Str}{sp:Sp}{pos apos:Pos}{o e:Expr}{es:List Expr}{ta:TE}{t:TA}{pl:Sem Bool}(c:CalX X.prog X.w X.K X.mg X.base C k m ps sp)(cl:Cls X.K C)(hr:Room k X.A)(he:PE X o ta)(ha:PA X (e::es) t)
  (hst:starEach (e::es) X.env=(false,eval e X.env)::starEach es X.env:=by rfl) (hpl:(backTo pos (starEach es X.env)).any (·.1)=false:=by rfl)
  (ht:eval (.Call (.Attribute o m apos) (e::es) [] pos) X.env=(do
   let ov <- eval o X.env
   standAt apos.atName
   let (f,first) <- holding [ov] (getMethod ov m pl)
   callWith pos f first (backTo pos (starEach (e::es) X.env)) (backToKw pos (keywordEach [] X.env))):=by rfl) :
  PE X (.Call (.Attribute o m apos) (e::es) [] pos) (tMeth C m sp [] E0 ta t):=by
 obtain⟨f,fd,F,hm,b⟩:=c.ex;exact fL_ he cl hm F hr b .nil pass1 ha hst hpl ht
theorem e8_{kvs:List (Key × V)}{ns:List Str}(h:kvs.map (·.1)=ns.map Sum.inr)(x:Str):(valV kvs (Sum.inr x)).isSome=decide (x∈ns):=by
 by_cases hx:x∈ns
 ·rw[a_5 hx];refine dG_ ?_;rw[h];exact ah'.mpr ⟨x,hx,rfl⟩
 ·rw[a_7 hx,aA_]
  ·rfl
  ·rw[h];intro m;obtain⟨y,hy,e⟩:=ah'.mp m;cases e;exact hx hy
theorem jc_{qs:List Pc}(nd:(qs.map (·.1)).Nodup){q:Pc}(hq:q∈qs):valV (wKV qs) (Sum.inr q.1)=some (.int q.2.1):=by
 obtain⟨j,hj,e⟩:=az' hq;have:=eR_ (ps:=qs) (cs:=qs.map λq=>V.int q.2.1) nd (by rw[aa']) (j:=j) (q:=q) (c:=.int q.2.1) (by rw[ab' hj,e]) (by rw[ao',ab' hj,e];rfl)
 have e2:((qs.zip (qs.map λq=>V.int q.2.1)).map λq=>((Sum.inr q.1.1:Key),q.2))=wKV qs:=by
  unfold wKV;rw[List.zip_map_right,al']
  have:qs.zip qs=qs.map λq=>(q,q):=by
   clear nd hq this hj e j
   induction qs with
   |nil=>rfl
   |cons a l ih=>rw[List.zip_cons_cons,ih,ax']
  rw[this,al'];rfl
 rwa [e2] at this
section
variable{P:Ad}{w:Af}{K:F__}{mg:Str->Option Aa}{base:Heap}
theorem scGHas:aX' ["self","thing"] ["self","thing"] (aW' sGHas):=f__
inductive bT' (K:F__) (CG CW:Addr) (vs:List V) (H:Hp) (Q:VK) (E:XK):Prop
 |mk:∀(g p:Addr) (v:V) (x:Option Str) (hs:Xa) (ts:Xb) (qs:List Pc) (fp:List Addr),vs=[.ref g,v]->a2' K CG CW H g p hs ts qs fp->StrV K H v x->Q (.bl (inB (qs.map (·.1)) x)) H->bT' K CG CW vs H Q E
theorem iA_{f CG CW:Addr}{fd:Ae}(F:Fun K "has_piece" "Goods.has_piece" sGHas f fd)(T:TxtG K CG)(B:Bi mg):FnOk P w K mg base CX0 1 f fd ["self","thing"] (bT' K CG CW):=by
 refine F.ok scGHas (λvs H Q E h=>?_) (λcdv A outer s H vs Q E hr h=>?_)
 ·obtain⟨g,p,v,x,hs,ts,qs,fp,rfl,_⟩:=h;rfl
 ·obtain⟨g,p,v,x,hs,ts,qs,fp,rfl,G,sv,k⟩:=h;have hu:=b2_ hr;obtain⟨dx,dw,dy,vs,fpw,h1,h2,h3,h4,h5,m1,m2,m3,m4,m5⟩:=G.ex;refine⟨_,a4_ (aa_ (bF_ (a8_ aH_ (by rfl) B.isi PyProof.Rows.Boot.«isinstance» (a0_ (pv 1) (a0_ (aI_ (v:=.ty "str") (by rfl) B.str PyProof.Rows.Boot.«str» rfl) a2_))) (bp_ (fT_ (cZ_ hu (pv 1) (aO_ (pv 0) rfl)))))),?_⟩;cases x with
  |some x=>
   cases (show v=.str x from sv);refine⟨_,rfl,_,_,_,_,rfl,.str x,rfl,_,rfl,iteT ?_⟩;refine⟨_,rfl,_,rfl,g,CG,dx,_,_,rfl,h1,T.cl,T.nG,eo_ _ _ _,dw,_,rfl,.k (k:=Sum.inr x) h3,?_⟩;rw[e8_ (ev_ qs)];exact k
  |none=>
   obtain⟨t,ty,e⟩:=sv;exact⟨_,rfl,_,_,_,_,rfl,ty,e,_,rfl,iteF k⟩
theorem scGNames:aX' ["self"] ["self"] (aW' c2'):=f__
inductive bx' (K:F__) (CG CW:Addr) (vs:List V) (H:Hp) (Q:VK) (E:XK):Prop
 |mk:∀(g p:Addr) (hs:Xa) (ts:Xb) (qs:List Pc) (fp:List Addr),vs=[.ref g]->a2' K CG CW H g p hs ts qs fp->(∀l,H l=none->Q (.ref l) (upd H l (.lst ((qs.map (·.1)).map V.str))))->bx' K CG CW vs H Q E
theorem fQ_{f CG CW:Addr}{fd:Ae}(F:Fun K "names" "Goods.names" c2' f fd)(T:TxtG K CG)(B:Bi mg):FnOk P w K mg base CX0 1 f fd ["self"] (bx' K CG CW):=by
 refine F.ok scGNames (λvs H Q E h=>?_) (λcdv A outer s H vs Q E hr h=>?_)
 ·obtain⟨g,p,hs,ts,qs,fp,rfl,_⟩:=h;rfl
 ·obtain⟨g,p,hs,ts,qs,fp,rfl,G,k⟩:=h;obtain⟨dx,dw,dy,vs,fpw,h1,h2,h3,h4,h5,m1,m2,m3,m4,m5⟩:=G.ex;refine⟨_,a4_ (aa_ (am_ (bz_ rfl) (by rfl) B.list PyProof.Rows.Boot.«list» (a0_ (aO_ (pv 0) rfl) a2_))),?_⟩;refine⟨_,rfl,g,CG,dx,_,_,rfl,h1,T.cl,T.nG,eo_ _ _ _,dw,_,rfl,.inl h3,λl hl=>?_⟩
  have e:((wKV qs).map λkv=>kV kv.1)=(qs.map (·.1)).map V.str:=by
   unfold wKV;rw[al',al'];rfl
  rw[e];exact k l hl
structure Ref (K:F__) (mg:Str->Option Aa) (x:Str) (C:Addr):Prop where
 mg:mg x=some (.ref C)
 ex:PySem.W.excIn K C [.type "ValueError",.type "Exception",.type "BaseException",.type "object"] "ValueError.__new__"=true
theorem scGWeight:aX' ["self","piece"] ["self","piece"] (aW' cB'):=f__
inductive bF' (K:F__) (CG CW CP:Addr) (vs:List V) (H:Hp) (Q:VK) (E:XK):Prop
 |mk:∀(g p:Addr) (v:V) (x:Option Str) (hs:Xa) (ts:Xb) (qs:List Pc) (fp:List Addr),vs=[.ref g,v]->a2' K CG CW H g p hs ts qs fp->(qs.map (·.1)).Nodup->StrV K H v x->((∃q∈qs,x=some q.1/\Q (.int q.2.1) H)∨(inB (qs.map (·.1)) x=false/\E (.ref CP) none H))->bF' K CG CW CP vs H Q E
theorem fb_{f CG CW CP:Addr}{fd:Ae}(F:Fun K "weight" "Goods.weight" cB' f fd)(T:TxtG K CG)(R:Ref K mg "NoPiece" CP)(cH:CalM P w K mg base CG 1 "has_piece" ["self","thing"] (bT' K CG CW)):FnOk P w K mg base (CX1 P w) 2 f fd ["self","piece"] (bF' K CG CW CP):=by
 refine F.okX scGWeight (λvs H Q E h=>?_) (λcdv A outer s H vs Q E hr h=>?_)
 ·obtain⟨g,p,v,x,hs,ts,qs,fp,rfl,_⟩:=h;rfl
 ·obtain⟨g,p,v,x,hs,ts,qs,fp,rfl,G,nd,sv,k⟩:=h;have hu:=b2_ hr;obtain⟨dx,dw,dy,vs,fpw,h1,h2,h3,h4,h5,m1,m2,m3,m4,m5⟩:=id G.ex;have hno:(gflds p dw dy).lookup ("has_piece":Str)=none:=bg_ _ _ _ Z0 Z0 Z0;refine⟨_,a3_ (aj_ (ay_ (aB_ (bE_ cH T.cl hr (pv 0) (a0_ (pv 1) a2_)))) (a4_ (bj_ rfl raises1 R.mg R.ex b_8 (by rfl) (a0_ ao_ a2_))) ad_) (a4_ (aa_ (b8_ hu (aO_ (pv 0) rfl) (pv 1) (λ_ _=>rfl)))),?_⟩;refine⟨_,rfl,g,dx,_,rfl,h1,hno,_,rfl,g,p,v,x,hs,ts,qs,fp,rfl,G,sv,_,rfl,?_⟩;rcases k with⟨q,hq,rfl,k⟩|⟨hb,k⟩
  ·cases (show v=.str q.1 from sv);rw[show inB (qs.map (·.1)) (some q.1)=true from a_5 (ah'.mpr ⟨q,hq,rfl⟩)];refine iteF ?_;refine⟨_,rfl,g,CG,dx,_,_,rfl,h1,T.cl,T.nG,eo_ _ _ _,_,rfl,dw,_,rfl,?_,k⟩;rw[<- jc_ nd hq];exact .k (k:=Sum.inr q.1) h3
  ·rw[hb];exact iteT ⟨by show 1<=sizeLine;decide,k⟩
end
end Ev
namespace L2
open PySem PySem.Spec PyProof.Rows PySem.W
variable{P:Ad}{w:Af}
theorem db_{k:Key}{key:Aa}(h:(a0' P w).is k key=true):RelV (kV k) key:=by
 have e2:cL' k key=true:=h;rcases ap_ e2 with⟨i,t,rfl,rfl⟩|⟨x,t,rfl,rfl⟩
 ·exact⟨t,rfl⟩
 ·exact⟨t,rfl⟩
def Itm(d:Addr)(o:Obj)(kvs:List (Key × V)):It:=⟨λi H=>H d=some (.frz o (.dK kvs))/\i<kvs.length,λi H y H'=>∃t k x,y=.ref t/\H t=none/\kvs[i]? = some (k,x)/\H'=upd H t (.tup [kV k,x]),λi H=>H d=some (.frz o (.dK kvs))/\kvs.length<=i⟩
variable{elts:List Expr}{ep kk:Nat}{es:Array Ag}
theorem f5_{K:F__}{pos:Pos}(d it:Addr)(o:Obj)(kvs:List (Key × V))(ho:o.data=.dict es ep):Turn P w K (.Tuple elts kk pos) (Itm d o kvs) [it] it (λi h=>∃ok ov,IsItemIter h it d i kvs.length ep ok ov) where
 mem:=by simp
 obj:=λi h st b hb=>by
  obtain rfl:b=it:=by simpa using hb
  obtain⟨ok,ov,q⟩:=st;exact⟨_,q,λv z=>by cases z⟩
 keep:=λi h h' st k=>by
  obtain⟨ok,ov,q⟩:=st;exact⟨ok,ov,k it Z2 _ q⟩
 item:=by
  intro X hP hw hK hc i pins s σ H E I hf st hg;subst hP hw hK;obtain⟨hd,hi⟩:=hg;obtain⟨vs,rel,dat⟩:=bD_ I hd ho;obtain⟨⟨k,x⟩,hx⟩:∃p,kvs[i]? = some p:=⟨kvs[i],by simp[hi]⟩;obtain⟨u,hu,ru⟩:=eO_ rel i hx;obtain⟨ok,ov,st⟩:=st;have itl:it<s.heap.objs.size:=a_2 st;rw[rel.length] at st;refine wpAny_pyNext_items_item st dat hu λkey h' hk out ht sz kp=>?_;refine⟨_,rfl,wpAny_letOwnedTupleGo_items (s:={ s with heap:=h' }) out λh2 st2 sb=>?_⟩;have nT:s.heap.objs.size≠it:=aE' itl;have I1:Inv X pins σ (upd H s.heap.objs.size (.tup [kV k,x])) { s with heap:=h2 }:=I.turnedN (t':=s.toks) (fp:=[it]) (its:=[key,u]) (λb o hb q=>(sb.2 b (by simpa using hb)).trans (kp b o (by simpa using hb) q)) hf (ae' _) (by show 2<=sizeLine;decide) (.cons (db_ hk) (.cons ru .nil)) ⟨⟨_,(sb.2 _ nT).trans ht,rfl,_,rfl⟩,_,(sb.2 _ nT).trans ht,rfl⟩;refine⟨.ref _,_,I1,rfl,⟨_,k,x,rfl,I.hok.fresh (ae' _),hx,rfl⟩,⟨_,_,by rw[rel.length];exact st2⟩,λb hb=>?_⟩;have e:b=it:=by simpa using hb
  rw[a7_ (λz=>nT (z.symm.trans e))];exact (hf b hb).1
 done:=by
  intro X hP hw hK hc i pins s σ H E I hf st hg;subst hP hw hK;obtain⟨hd,hi⟩:=hg;obtain⟨vs,rel,dat⟩:=bD_ I hd ho;obtain⟨f0,f1,f2,f3,f4,f5⟩:=hf it Z2;obtain⟨ok,ov,st⟩:=st;rw[rel.length] at st hi;exact wpAny_pyNext_items_end (I.ok.hd hc) st dat (by simp;omega) λh' eb=>⟨rfl,I.turned (t':=s.toks) (λb o hb e=>eb b o hb e) f0 f1 f3 f4 f5⟩
 self:=λA i s Q E st h=>by
  obtain⟨ok,ov,q⟩:=st;exact kcp_self q h
inductive iItemsR (R:It->Hp->Prop) (x:V) (H1:Hp):Prop
 |mk:∀v d kvs,x=.ref v->H1 v=some (a1' v d)->H1 d=some (.dK kvs)->(∀o,R (Itm d o kvs) (upd H1 d (.frz o (.dK kvs))))->iItemsR R x H1
def iItems(tv:TE):TI:=λσ H R=>tv σ H λx H1=>iItemsR R x H1
variable{X:Cx}{e:Expr}{tv:TE}
theorem bA_{p2:Pos}(he:PE X e tv):PI X (.Tuple elts kk p2) e (iItems tv):=by
 intro pins s σ H R I h;refine thn (he pins s σ H _ I h) λu s1 ⟨x,H1,I1,r1,v,d,kvs,ex,hv,hd,q⟩=>?_;subst ex;cases r1;obtain⟨iv,_,_⟩:=I1.hok v _ hv;obtain⟨o,ho,I2⟩:=I1.freeze hd;obtain⟨z,_,vs,rel,o',es,ep,ho',c',dt,r⟩:=do_ I1.hok hd;rw[ho] at ho';cases ho';refine wpAny_pyIter_items (knd:=a0' X.prog X.w) (kvs:=vs) (ep:=ep) iv ⟨o,es,ho,c',dt,r⟩ ?_;refine⟨s1.heap.objs.size,[s1.heap.objs.size],_,_,_,rfl,I2.kept (t':=s1.toks) λb o e=>a_0 _ e,f5_ d _ o kvs dt,?_,λb hb=>?_,q o⟩
 ·rw[rel.length];exact⟨.none,.none,a_3 _ rfl⟩
 ·obtain rfl:b=s1.heap.objs.size:=by simpa using hb
  exact I2.fpOk (ae' _) (I2.hok.fresh (ae' _))
variable{d:Addr}{o:Obj}{kvs:List (Key × V)}{g:TG}
theorem bw_{tb:TS}{D:Ends}{σ:St}{H:Hp}(Pv:Nat->St->Hp->Prop)(h0:Pv 0 σ H)(hl:∀i σ H,i<=kvs.length->Pv i σ H->H d=some (.frz o (.dK kvs)))(hs:∀i k x σ H,kvs[i]? = some (k,x)->Pv i σ H->∀t,H t=none->g (.ref t) σ (upd H t (.tup [kV k,x])) λσ2 H2=>tb { D with nx:=Pv (i+1),ct:=Pv (i+1),bk:=D.nx } σ2 H2)(hd:∀σ H,Pv kvs.length σ H->D.nx σ H) :
  ∃W:Nat->Nat->St->Hp->Prop,(∃m,W 0 m σ H)/\∀i m σ H,W i m σ H->
   ((Itm d o kvs).stop i H/\D.nx σ H)∨((Itm d o kvs).go i H/\∃N:St->Hp->Prop,(∀σ' H',N σ' H'->∃m',m'<m/\W (i+1) m' σ' H')/\∀x H',(Itm d o kvs).yld i H x H'->g x σ H' λσ2 H2=>tb { D with nx:=N,ct:=N,bk:=D.nx } σ2 H2):=by
 refine⟨λi m σ H=>m=kvs.length - i/\i<=kvs.length/\Pv i σ H,⟨kvs.length,by simp,aC' _,h0⟩,?_⟩;rintro i m σ H ⟨rfl,hi,p⟩;have q:=hl i σ H hi p;by_cases hlt:i<kvs.length
 ·refine .inr ⟨⟨q,hlt⟩,Pv (i+1),λσ' H' p'=>⟨kvs.length - (i+1),by omega,rfl,hlt,p'⟩,λx H' y=>?_⟩;obtain⟨t,k,x,rfl,ht,hx,rfl⟩:=y;exact hs i k x σ H hx p t ht
 ·have e:i=kvs.length:=by omega
  subst e;exact .inl ⟨⟨q,ae' _⟩,hd σ H p⟩
def Itk(d:Addr)(o:Obj)(kvs:List (Key × V)):It:=⟨λi H=>H d=some (.frz o (.dK kvs))/\i<kvs.length,λi H y H'=>H'=H/\∃k x,kvs[i]? = some (k,x)/\y=kV k,λi H=>H d=some (.frz o (.dK kvs))/\kvs.length<=i⟩
variable{tg:Expr}
theorem gc_{K:F__}(d it:Addr)(o:Obj)(kvs:List (Key × V))(ho:o.data=.dict es ep):Turn P w K tg (Itk d o kvs) [it] it (λi h=>h.IsKeyIter it d i kvs.length ep) where
 mem:=by simp
 obj:=λi h st b hb=>by
  obtain rfl:b=it:=by simpa using hb
  obtain⟨o,e,c,d⟩:=st;exact⟨o,e,λv z=>by rw[d] at z;cases z⟩
 keep:=λi h h' st k=>st.at λo e=>k it Z2 o e
 item:=by
  intro X hP hw hK hc i pins s σ H E I hf st hg;subst hP hw hK;obtain⟨hd,hi⟩:=hg;obtain⟨vs,rel,dat⟩:=bD_ I hd ho;obtain⟨⟨k,x⟩,hx⟩:∃p,kvs[i]? = some p:=⟨kvs[i],by simp[hi]⟩;obtain⟨u,hu,ru⟩:=eO_ rel i hx;obtain⟨f0,f1,f2,f3,f4,f5⟩:=hf it Z2;rw[rel.length] at st;refine wpAny_pyNext_dict_item st dat hu λkey h' hk st' sb=>?_;have I1:Inv X pins σ H { s with heap:=h' }:=I.turned (t':=s.toks) (λb o hb e=>(sb.2 b hb).trans e) f0 f1 f3 f4 f5;obtain⟨o',e,c,dd⟩:=id st';refine⟨key,rfl,fw_ (s:={ s with heap:=h' }) e c dd (by decide) ⟨kV k,H,I1,db_ hk,⟨rfl,k,x,hx,rfl⟩,?_,λb hb=>(hf b hb).1⟩⟩;show h'.IsKeyIter it d (i+1) kvs.length ep;rw[rel.length];exact st'
 done:=by
  intro X hP hw hK hc i pins s σ H E I hf st hg;subst hP hw hK;obtain⟨hd,hi⟩:=hg;obtain⟨vs,rel,dat⟩:=bD_ I hd ho;obtain⟨f0,f1,f2,f3,f4,f5⟩:=hf it Z2;rw[rel.length] at st hi;exact wpAny_pyNext_dict_end (I.ok.hd hc) st dat (by simp;omega) λh' eb=>⟨rfl,I.turned (t':=s.toks) (λb o hb e=>eb b o hb e) f0 f1 f3 f4 f5⟩
 self:=λ_ _ _ _ _ st h=>wpAny_pyIter_keyiter st h
inductive iKeysR (R:It->Hp->Prop) (x:V) (H1:Hp):Prop
 |mk:∀d kvs,x=.ref d->H1 d=some (.dK kvs)->(∀o,R (Itk d o kvs) (upd H1 d (.frz o (.dK kvs))))->iKeysR R x H1
def iKeys(tv:TE):TI:=λσ H R=>tv σ H λx H1=>iKeysR R x H1
theorem iu_(he:PE X e tv):PI X tg e (iKeys tv):=by
 intro pins s σ H R I h;refine thn (he pins s σ H _ I h) λu s1 ⟨x,H1,I1,r1,d,kvs,ex,hd,q⟩=>?_;subst ex;cases r1;obtain⟨o,ho,I2⟩:=I1.freeze hd;obtain⟨z,hne,vs,rel,o',es,ep,ho',c',dt,r⟩:=do_ I1.hok hd;rw[ho] at ho';cases ho';refine wpAny_pyIter_dict (knd:=a0' X.prog X.w) (kvs:=vs) (ep:=ep) hne ⟨o,es,ho,c',dt,r⟩ ?_;refine⟨s1.heap.objs.size,[s1.heap.objs.size],_,_,_,rfl,I2.kept (t':=s1.toks) λb o e=>a_0 _ e,gc_ d _ o kvs dt,?_,λb hb=>?_,q o⟩
 ·rw[rel.length];exact⟨_,a_3 _ rfl,rfl,rfl⟩
 ·obtain rfl:b=s1.heap.objs.size:=by simpa using hb
  exact I2.fpOk (ae' _) (I2.hok.fresh (ae' _))
theorem fB_{tc:TT}{te:TE}{own:Nat}{fv:List (Option V)}{dec:V->Hp->List (Option V)->Prop}{D:Addr}{H:Hp}{Q:VK}{σ0:St}(hσ:σ0=List.replicate own none++fv)(G:GOk g own fv dec)(Pv:Nat->List V->Hp->Prop)(h0:Pv 0 [] (upd H D (.lst [])))(hl:∀i out H',i<=kvs.length->Pv i out H'->H' d=some (.frz o (.dK kvs)))(hd:∀out H',Pv kvs.length out H'->Q (.ref D) H')(hgo:∀i k x out H',kvs[i]? = some (k,x)->Pv i out H'->∃o3,dec (kV k) H' o3/\o3.length=own/\∀Nx:Hp->Prop,(∀out' H2,Pv (i+1) out' H2->Nx H2)->
   tc (o3++fv) H' λb H4=>if b=true then te (o3++fv) H4 λy H5=>∃out2,H5 D=some (.lst out2)/\out2.length<sizeLine/\Nx (upd H5 D (.lst (out2++[y]))) else Nx H4) :
  c0' (Itk d o kvs) g tc te σ0 D H Q:=by
 refine da_ hσ G kvs.length Pv h0 (λout H' p=>⟨⟨hl _ _ _ (ae' _) p,ae' _⟩,hd out H' p⟩) λi out H' hi p=>?_;have q:=hl i out H' (Nat.le_of_lt hi) p;refine⟨⟨q,hi⟩,λx H2 y=>?_⟩;obtain⟨e,k,v,hx,rfl⟩:=y;subst e;exact hgo i k v out _ hx p
inductive tThawS (t:TS) (D:Ends) (σ:St) (H:Hp):Prop
 |mk:∀d kvs,H d=some (.dK kvs)->t { nx:=λσ1 H1=>∃o,H1 d=some (.frz o (.dK kvs))/\D.nx σ1 (upd H1 d (.dK kvs)),rt:=λv H1=>∃o,H1 d=some (.frz o (.dK kvs))/\D.rt v (upd H1 d (.dK kvs)) } σ H->tThawS t D σ H
theorem ej_{st:Stmt}{t:TS}(h:PS X st t):PS X st (tThawS t):=by
 intro pins s σ H D I q;obtain⟨d,kvs,hd,q⟩:=q
 have nf:∀o u,X.H₀ d≠some (.frz o u):=λo u z=>by
  have:=I.base.frzs _ _ _ z;rw[hd] at this;cases this
 refine thn (h pins s σ H _ I q) λf s' p=>?_;cases f with
 |next=>
  obtain⟨σ1,H1,I1,o,hf,q1⟩:=p;exact⟨σ1,_,I1.thaw hf nf,q1⟩
 |brk=>
  obtain⟨σ1,H1,I1,q1⟩:=p;exact False.elim q1
 |cont=>
  obtain⟨σ1,H1,I1,q1⟩:=p;exact False.elim q1
 |ret u=>
  obtain⟨v,σ1,H1,I1,r,o,hf,q1⟩:=p;exact⟨v,σ1,_,I1.thaw hf nf,r,q1⟩
theorem d4_:∀{ns:List Int} {its:List Aa},Vals (ns.map V.int) its->∃xs:List (Int × Tok),its.toArray=intItems xs.toArray/\xs.map (·.1)=ns
 |[],_,.nil=>⟨[],by unfold intItems;simp,rfl⟩
 |n::ns,_,.cons ⟨t,e⟩ r=>by
  obtain⟨xs,h1,h2⟩:=d4_ r;refine⟨(n,t)::xs,?_,by simp[h2]⟩;subst e;apply Array.ext';have h3:=b_5 Array.toList h1;unfold intItems at h3 ⊢;simp at h3 ⊢;exact h3
theorem cB_{xs:List (Int × Tok)}:∀n,n<=xs.length->preSum (numAt xs.toArray) n=((xs.map (·.1)).take n).sum
 |0,_=>by simp[preSum]
 |n+1,h=>by
  have ih:=cB_ (xs:=xs) n Z1;show preSum (numAt xs.toArray) n+numAt xs.toArray n=_;rw[ih,au',List.sum_append];congr 1;unfold numAt;rw[List.getElem?_toArray,ao',ab' Z1];simp
inductive rSumI (K:F__) (xs:List V) (H:Hp) (Q:VK):Prop
 |mk:∀(l:Addr) (ns:List Int),xs=[.ref l]->SqL K H l (ns.map V.int)->Q (.int ns.sum) H->rSumI K xs H Q
theorem g4_(hc:X.calm=true):bc' X (.builtin "sum") (rSumI X.K):=by
 intro pins s σ H xs us Q I r h;obtain⟨l,ns,rfl,hl,q⟩:=h;obtain⟨u,rfl,ru⟩:=vals1 r;cases ru;obtain⟨its,rv,p,hz⟩:=I.list hl;obtain⟨zs,e1,e2⟩:=d4_ rv;have il:=p.isList;rw[e1] at il;refine sum_intListG (I.ok.hd hc) il λh' tk t' k=>?_;refine⟨.int ns.sum,H,I.kept (t':=tk) k,⟨t',?_⟩,q⟩
 have:preSum (numAt zs.toArray) zs.toArray.size=ns.sum:=by
  rw[ag',cB_ _ (ae' _),<- e2,aF' Z2]
 rw[this]
inductive rListI (K:F__) (xs:List V) (H:Hp) (Q:VK):Prop
 |mk:∀v d kvs,xs=[.ref v]->H v=some (a1' v d)->Rd H d (.dK kvs)->(∀l ys H',H l=none->Same H H'->H' l=some (.lst ys)->a5' K H' ys kvs->Q (.ref l) H')->rListI K xs H Q
theorem c9_(hc:X.calm=true):bc' X (.type "list") (rListI X.K):=by
 intro pins s σ H xs us Q I r h;obtain⟨v,d,kvs,rfl,hv,hd,q⟩:=h;obtain⟨u,rfl,ru⟩:=vals1 r;cases ru;obtain⟨z,hdn,vs,rel,dd⟩:=bN_ I.hok hd;obtain⟨ep,dat⟩:=dd.dictAt;obtain⟨iv,_,_⟩:=I.hok v _ hv;have hl:=rel.length;refine kdx_call (knd:=a0' X.prog X.w) (kvs:=vs) (ep:=ep) (I.ok.hd hc) iv dat Z1 λh' tk acc c as k hL la G ea=>?_;have up:∀b,b∈as->s.heap.objs.size<b:=G.above
 have at1:∀(j:Nat) b p,as[j]? = some b->kvs[j]? = some p->∃its,Vals [kV p.1,p.2] its/\IsTup h' b its.toArray/\∃o,h'.get? b=some o/\o.dict=none:=λj b p hj hp=>by
  obtain⟨key,kk,x,e1,e2,e3⟩:=G.pairs j b hj;obtain⟨u,hu,ru⟩:=eO_ rel j (k:=p.1) (x:=p.2) hp;rw[e1] at hu;have hu:=a_9 hu;have g1:kk=p.1:=b_5 Prod.fst hu;have g2:x=u:=b_5 Prod.snd hu;refine⟨[key,x],.cons ?_ (.cons (by rw[g2];exact ru) .nil),⟨_,e3,rfl,_,rfl⟩,_,e3,rfl⟩;rw[<- g1];exact db_ e2
 have look:∀{as:List Addr} {kvs:List (Key × V)},as.Pairwise (· < ·)->∀(j:Nat) b p,as[j]? = some b->kvs[j]? = some p->(as.zip kvs).lookup b=some p:=λ{as}=>by
  induction as with
  |nil=>intro kvs _ j b p e;simp at e
  |cons a as ih=>
   intro kvs pw j b p e e';cases kvs with
   |nil=>simp at e'
   |cons q kvs=>
    obtain⟨p1,p2⟩:=List.pairwise_cons.mp pw;show ((a,q)::as.zip kvs).lookup b=some p;cases j with
    |zero=>
     have e:a=b:=by simpa using e
     have e':q=p:=by simpa using e'
     subst e;subst e';rw[List.lookup_cons_self]
    |succ j=>
     have e:as[j]? = some b:=by simpa using e
     have e':kvs[j]? = some p:=by simpa using e'
     have lt:=p1 b (ad' e);rw[aK',show (b == a)=false by simp only[beq_eq_false_iff_ne];exact aE' lt];exact ih p2 j b p e e'
 have lk:as.length=kvs.length:=by omega
 let lo:=s.heap.objs.size
 let H1:Hp:=λb=>if b=lo then some (.lst (as.map V.ref)) else if b∈as then ((as.zip kvs).lookup b).map λp=>HO.tup [kV p.1,p.2] else H b
 have h1lo:H1 lo=some (.lst (as.map V.ref)):=a_8 rfl
 have h1in:∀(j:Nat) b p,as[j]? = some b->kvs[j]? = some p->H1 b=some (.tup [kV p.1,p.2]):=λj b p e e'=>by
  have m:=ad' e;show (if b=lo then _ else if b∈as then _ else _)=_;rw[a_6 (aE' (up b m)),a_8 m,look G.rise j b p e e'];rfl
 have h1out:∀b,b<lo->H1 b=H b:=λb hb=>by
  show (if b=lo then _ else if b∈as then _ else _)=_;rw[a_6 (aj' hb),a_6 (λm=>absurd (up b m) (by show ¬lo<b;omega))]
 have old:∀{b u},H b=some u->H1 b=some u:=λ{b u} e=>by rw[h1out b (I.hok.lt e)];exact e
 have I1:Inv X pins σ H1 { s with heap:=h',toks:=tk }:=by
  refine I.step (g':=s.gens) (d':=s.drawn) (ch:=[]) (λb hb=>by simp at hb) (λb o _ _ _ e _=>k b o e) (λb o _ _ _ e _=>⟨o.slots,k b o e⟩) (λb o _ e n=>?_)
   (λb o _ e=>⟨o,k b o e⟩) (λb ys e=>old e) (λb o u e=>old e) (λb ps e=>⟨#[],by rw[Array.append_empty];exact old e⟩) (λm hm=>?_) (λb u e=>?_) I.bare
  ·rw[h1out b (a_2 e)];exact n
  ·obtain⟨o,es,ep,ho,r⟩:=hm;exact⟨o,es,ep,k _ o ho,r⟩
  ·by_cases e0:b=lo
   ·subst e0;rw[h1lo] at e;cases e;refine⟨by rw[aa'];omega,acc.toList,c,?_,by rw[Array.toArray_toList];exact hL⟩;rw[ea]
    have gen:∀as:List Addr,Vals (as.map V.ref) (as.map Value.ref):=λas=>by
     induction as with
     |nil=>exact .nil
     |cons a as ih=>exact .cons rfl ih
    exact gen as
   ·by_cases m:b∈as
    ·obtain⟨j,hj⟩:=List.mem_iff_getElem?.mp m
     have jl:j<kvs.length:=by
      have:=(ac'.mp hj).1;omega
     have e':=h1in j b kvs[j] hj (ab' jl);rw[e] at e';cases e';obtain⟨its,r,t⟩:=at1 j b _ hj (ab' jl);exact⟨by show 2<=sizeLine;decide,its,r,t⟩
    ·have e1:H1 b=H b:=by
      show (if b=lo then _ else if b∈as then _ else _)=_;rw[a_6 e0,a_6 m]
     rw[e1] at e;exact (I.hok b u e).stay (λc v _ q=>k c v q) (λ_ q=>old q) λ_ _ q=>old q
 refine⟨.ref lo,H1,I1,rfl,q lo (as.map V.ref) H1 (I.hok.fresh (ae' _)) (λb o e=>old e) h1lo ?_⟩
 have gen:∀(as':List Addr) (kvs':List (Key × V)),as'.length=kvs'.length->(∀(j:Nat) b p,as'[j]? = some b->kvs'[j]? = some p->H1 b=some (.tup [kV p.1,p.2]))->a5' X.K H1 (as'.map V.ref) kvs':=λas'=>by
  induction as' with
  |nil=>
   intro kvs' hl _;cases kvs' with
   |nil=>exact .nil
   |cons _ _=>cases hl
  |cons a as' ih=>
   intro kvs' hl h;cases kvs' with
   |nil=>cases hl
   |cons p kvs'=>exact .cons ⟨a,rfl,h 0 a p rfl rfl⟩ (ih kvs' (by simpa using hl) λj b p e e'=>h (j+1) b p (by simpa using e) (by simpa using e'))
 exact gen as kvs lk h1in
end L2
namespace Ev
open PySem L2
structure Fz (d:Addr) (o:Obj) (kvs:List (Key × V)) (H H':Hp):Prop where
 at_:H' d=some (.frz o (.dK kvs))
 sm:∀b u,b≠d->H b=some u->H' b=some u
section
variable{d:Addr}{o:Obj}{kvs:List (Key × V)}{H H' H2:Hp}
theorem Fz.start:Fz d o kvs H (upd H d (.frz o (.dK kvs))):=⟨a1_,λb u ne e=>by rw[a7_ ne];exact e⟩
theorem Fz.step(f:Fz d o kvs H H')(s:Same H' H2):Fz d o kvs H H2:=⟨s _ _ f.at_,λb u ne e=>s _ _ (f.sm b u ne e)⟩
theorem Fz.thaw(f:Fz d o kvs H H')(hd:H d=some (.dK kvs)):Same H (upd H' d (.dK kvs)):=λb u e=>by
 by_cases z:b=d
 ·subst z;rw[hd] at e;cases e;exact a1_
 ·rw[a7_ z];exact f.sm b u z e
theorem Fz.goods{K:F__}{CG CW g p:Addr}{hs:Xa}{ts:Xb}{qs:List Pc}{fp:List Addr}(f:Fz d o kvs H H')(hd:H d=some (.dK kvs))(G:a2' K CG CW H g p hs ts qs fp)(nd:d∉fp):a2' K CG CW H' g p hs ts qs fp:=
 G.keep (λb hb u e=>f.sm b u (λz=>nd (z▸hb)) e) λb xs e=>f.sm b _ (aD_ e hd nofun) e
end
def mKV(ns:List Str)(g:Str->V):List (Key × V):=ns.map λn=>(Sum.inr n,g n)
theorem dt_(ns:List Str)(g:Str->V):(mKV ns g).map (·.1)=ns.map Sum.inr:=by
 unfold mKV;rw[al'];rfl
theorem av_(ns:List Str)(g:Str->V):(mKV ns g).length=ns.length:=aa' _
variable{n:Str}
theorem bI_{ns:List Str}{g:Str->V}(h:n∈ns):valV (mKV ns g) (Sum.inr n)=some (g n):=by
 induction ns with
 |nil=>cases h
 |cons m ns ih=>
  by_cases e:m=n
  ·subst e;exact bo_ rfl
  ·have:valV (mKV (m::ns) g) (Sum.inr n)=valV (mKV ns g) (Sum.inr n):=bn_ λz=>e (c_1 z);rw[this];rcases an'.mp h with z|z
   ·exact absurd z.symm e
   ·exact ih z
theorem cn_{ns:List Str}{g k:Str->V}(h:∀n∈ns,g n=k n):mKV ns g=mKV ns k:=aL' λn hn=>by rw[h n hn]
variable{v:V}
theorem gv_{ns:List Str}{g:Str->V}(h:n∈ns):putK (mKV ns g) (Sum.inr n) v=mKV ns λm=>if m=n then v else g m:=by
 unfold putK;rw[a_8]
 ·unfold mKV;rw[al'];refine aL' λm _=>?_;by_cases e:m=n
  ·subst e;simp
  ·have:¬((Sum.inr m:Key)=Sum.inr n):=λz=>e (c_1 z);simp[e]
 ·refine List.any_eq_true.mpr ⟨(Sum.inr n,g n),ah'.mpr ⟨n,h,rfl⟩,by simp⟩
theorem ct_{ns:List Str}{g:Str->V}(h:n∉ns):putK (mKV ns g) (Sum.inr n) v=mKV (ns++[n]) λm=>if m=n then v else g m:=by
 rw[bB_ _ (aA_ (by
  rw[dt_];intro m;obtain⟨x,hx,e⟩:=ah'.mp m;exact h (c_1 e▸hx)))]
 unfold mKV;rw[ap'];congr 1
 ·refine aL' λm hm=>?_;have e:¬m=n:=λz=>h (z▸hm);simp[e]
 ·simp
variable{i:Nat}
theorem cy_{ns:List Str}{g:Str->V}{k:Key}{x:V}(h:(mKV ns g)[i]? = some (k,x)):∃n,ns[i]? = some n/\k=Sum.inr n/\x=g n:=by
 unfold mKV at h;rw[ao'] at h;cases e:ns[i]? with
 |none=>rw[e] at h;cases h
 |some n=>
  rw[e] at h;have h:=a_9 h;exact⟨n,rfl,(b_5 Prod.fst h).symm,(b_5 Prod.snd h).symm⟩
theorem dm_{ns:List Str}(nd:ns.Nodup)(h:ns[i]? = some n):n∉ns.take i:=by
 have q:=bc_ (g:=id) (ts:=ns) (by rw[List.map_id];exact nd) h;rwa [List.map_id] at q
theorem aY_{ns:List Str}(h:ns[i]? = some n):ns.take (i+1)=ns.take i++[n]:=by
 rw[au',h];rfl
abbrev stF(ns:List Str)(f:Str->Str):List (Key × V):=mKV ns λn=>.str (f n)
def wOf(q:Pc):Str × Int:=(q.1,q.2.1)
def ld(f:Str->Str)(ws:Xa)(h:Str):Int:=((ws.filter λx=>decide (f x.1=h)).map (·.2)).sum
theorem iK_(f:Str->Str)(ws:Xa)(x:Str × Int)(h:Str):ld f (ws++[x]) h=if h=f x.1 then ld f ws h+x.2 else ld f ws h:=by
 unfold ld;rw[List.filter_append];by_cases e:f x.1=h
 ·rw[a_8 e.symm,ap',List.sum_append];simp[e]
 ·rw[a_6 λz=>e z.symm];simp[e]
theorem gs_:∀{l:List Int},(∀x∈l,0<=x)->0<=l.sum
 |[],_=>by simp
 |x::l,h=>by
  rw[List.sum_cons];have:=h x ak';have:=gs_ (l:=l) λy hy=>h y (af' _ hy);omega
theorem i3_{f:Str->Str}{ws:Xa}{h:Str}(p:∀x∈ws,0<=x.2):0<=ld f ws h:=gs_ λx hx=>by
 obtain⟨y,hy,rfl⟩:=ah'.mp hx;exact p y (List.mem_filter.mp hy).1
theorem Qs.nd{ps qs:List Pc}(Q:Qs ps qs)(nd:(ps.map (·.1)).Nodup):(qs.map (·.1)).Nodup:=by
 rw[Q.nms];exact (aF_ _).nodup_iff.mpr nd
theorem Qs.len{ps qs:List Pc}(Q:Qs ps qs):qs.length=ps.length:=by
 have:=b_5 List.length Q.nms;rw[aa',(aF_ _).length_eq,aa'] at this;exact this
def strOf(hs:Xa)(n:Str):Int:=((hs.find? λh=>decide (h.1=n)).map (·.2)).getD 0
theorem c2_{hs:Xa}(h:n∈hs.map (·.1)):(n,strOf hs n)∈hs:=by
 unfold strOf;obtain⟨x,hx,e⟩:=ah'.mp h;cases q:hs.find? λh=>decide (h.1=n) with
 |none=>
  have:=List.find?_eq_none.mp q x hx;simp[e] at this
 |some y=>
  have m:=List.mem_of_find?_eq_some q;have:=List.find?_some q;have e2:y.1=n:=by simpa using this
  show (n,y.2)∈hs;rw[<- e2];exact m
def fr(a b:Int):Int × Int:=(a / (Int.gcd a b:Int),b / (Int.gcd a b:Int))
variable{a b:Int}
theorem h9_(ha:0<=a)(h:0<b):Int.gcd b (a % b)=Int.gcd a b:=by
 obtain⟨m,rfl⟩:=aw' ha;obtain⟨n,rfl⟩:=aw' (aP' h);rw[<- Int.natCast_emod];show Nat.gcd n (m % n)=Nat.gcd m n;rw[Nat.gcd_comm n,<- Nat.gcd_rec,Nat.gcd_comm]
section
variable{P:Ad}{w:Af}{K:F__}{mg:Str->Option Aa}{base:Heap}
theorem scGd:aX' ["one","other","rest","divisor","left"] ["one","other"] (aW' sGd):=f__
def spGd:Sp:=λvs H Q _=>∃a b:Int,vs=[.int a,.int b]/\0<=a/\0<b/\Q (.int (Int.gcd a b)) H
theorem jL_{f:Addr}{fd:Ae}(F:Fun K "greatest_divisor" "greatest_divisor" sGd f fd):FnOk P w K mg base CX0 1 f fd ["one","other"] spGd:=by
 refine F.ok scGd (λvs H Q E h=>?_) (λcdv A outer s H vs Q E hr h=>?_)
 ·obtain⟨a,b,rfl,_⟩:=h;rfl
 ·obtain⟨a,b,rfl,ha,hb,k⟩:=h;refine' ⟨_,a3_ ?s1 (a3_ ?s2 (a3_ ?s3 ?s4)),?kk⟩
  case s1=>exact ab_ (i:=2) scGd.nd rfl (Or.inl rfl) (pv 0)
  case s2=>exact ab_ (i:=3) scGd.nd rfl (Or.inl rfl) (pv 1)
  case s3=>exact gR_ b_2 (ah_ cL_ (pv 2) a6_ (nomark _)) (a3_ (ab_ (i:=4) scGd.nd rfl (Or.inl rfl) (al_ bZ_ (pv 3) (pv 2))) (a3_ (ab_ (i:=3) scGd.nd rfl (Or.inl rfl) (pv 2)) (a4_ (ab_ (i:=2) scGd.nd rfl (Or.inl rfl) (pv 4)))))
  case s4=>exact a4_ (aa_ (pv 3))
  case' kk=>skip
  refine⟨_,rfl,_,rfl,?_⟩;refine hx_ (λσ H'=>H'=H/\∃(r d:Int) (v4:Option V),σ=[some (.int a),some (.int b),some (.int r),some (.int d),v4]/\0<=r/\0<d/\Int.gcd r d=Int.gcd a b) (λσ _=>match σ with | [_,_,some (.int r),_,_]=>r.toNat|_=>0) ⟨rfl,a,b,none,rfl,ha,hb,rfl⟩ ?_ ?_
  ·rintro σ H' ⟨rfl,r,d,v4,rfl,hr0,hd,e⟩;refine⟨_,rfl,rfl,_,rfl,?_⟩;refine ite2 (λc=>?_) (λc=>?_)
   ·have hr1:0<r:=by
     have:r≠0:=by
      intro z;subst z;simp at c
     omega
    refine⟨_,rfl,_,rfl,_,_,rfl,rfl,hr1,_,rfl,_,rfl,?_⟩;have h1:=Int.emod_nonneg d (Int.ne_of_gt hr1);have h2:=Int.emod_lt_of_pos d hr1;refine⟨⟨rfl,_,_,_,rfl,h1,hr1,?_⟩,?_⟩
    ·rw[<- e,Int.gcd_comm (d % r) r,h9_ (aP' hd) hr1,Int.gcd_comm]
    ·show (d % r).toNat<r.toNat;omega
   ·have hr1:r=0:=by simpa using c
    subst hr1;refine⟨_,rfl,?_⟩
    have e2:(Int.gcd a b:Int)=d:=by
     rw[<- e,Int.gcd_zero_left];omega
    rw[<- e2];exact k
  ·intro σ H' Q1 Q2 hq h;obtain⟨x,e,h1,c,h2,h3⟩:=h;exact⟨x,e,h1,c,h2,hq _ _ h3⟩
end
theorem jB_(hb:0<b)(hb2:b<=1000):0<(Int.gcd a b:Int)/\(Int.gcd a b:Int)<1073741824:=by
 have h1:0<Int.gcd a b:=Int.gcd_pos_of_ne_zero_right a Z1;have h2:(Int.gcd a b:Int) ∣ b:=Int.gcd_dvd_right a b;have h3:=Int.le_of_dvd hb h2;omega
section
variable{P:Ad}{w:Af}{K:F__}{mg:Str->Option Aa}{base:Heap}
theorem scFrac:aX' ["top","below","divisor"] ["top","below"] (aW' sFrac):=f__
def spFrac:Sp:=λvs H Q _=>∃a b:Int,vs=[.int a,.int b]/\0<=a/\0<b/\b<=1000/\∀t,H t=none->Q (.ref t) (upd H t (.tup [.int (fr a b).1,.int (fr a b).2]))
theorem id_{f:Addr}{fd:Ae}(F:Fun K "fraction_of" "fraction_of" sFrac f fd)(cG:Cal P w K mg base 1 "greatest_divisor" ["one","other"] spGd):FnOk P w K mg base CX0 2 f fd ["top","below"] spFrac:=by
 refine F.ok scFrac (λvs H Q E h=>?_) (λcdv A outer s H vs Q E hr h=>?_)
 ·obtain⟨a,b,rfl,_⟩:=h;rfl
 ·obtain⟨a,b,rfl,ha,hb,hb2,k⟩:=h;have g:=jB_ (a:=a) hb hb2;refine⟨_,a3_ (ab_ (i:=2) scFrac.nd rfl (Or.inl rfl) (af_ cG hr (a0_ (pv 0) (a0_ (pv 1) a2_)))) (a4_ (aa_ (aP_ (a0_ (al_ bm_ (pv 0) (pv 2)) (a0_ (al_ bm_ (pv 1) (pv 2)) a2_))))),?_⟩;refine⟨_,rfl,_,rfl,a,b,rfl,ha,hb,?_⟩;exact⟨_,rfl,_,rfl,_,_,rfl,rfl,g,_,rfl,_,rfl,_,_,rfl,rfl,g,by show 2<=sizeLine;decide,k⟩
structure StandOk (hs:Xa) (qs:List Pc) (ns:List Str) (f:Str->Str):Prop where
 perm:ns.Perm (qs.map (·.1))
 at_:∀n∈ns,f n∈hs.map (·.1)
theorem ba':aX' ["goods","stand","piece","hand","names"] ["goods","stand"] (aW' bQ'):=f__
inductive be' (K:F__) (CG CW:Addr) (vs:List V) (H:Hp) (Q:VK) (E:XK):Prop
 |mk:∀(g p d:Addr) (hs:Xa) (ts:Xb) (qs:List Pc) (fp:List Addr) (ns:List Str) (f:Str->Str),vs=[.ref g,.ref d]->a2' K CG CW H g p hs ts qs fp->d∉fp->H d=some (.dK (stF ns f))->StandOk hs qs ns f->(qs.map (·.1)).Nodup->qs.length<64->(∀d' H',Same H H'->H d'=none->H' d'=some (.dK (stF (qs.map (·.1)) f))->Q (.ref d') H')->be' K CG CW vs H Q E
theorem dI_{f CG CW:Addr}{fd:Ae}(F:Fun K "checked_stand" "checked_stand" bQ' f fd)(B:Bi mg)(T:TxtG K CG)(TW:Txt K mg CW)(cH:CalM P w K mg base CG 1 "has_piece" ["self","thing"] (bT' K CG CW))(cW:CalM P w K mg base CW 1 "has_hand" ["self","thing"] (do' K CW))(cN:CalM P w K mg base CG 1 "names" ["self"] (bx' K CG CW)) :
  FnOk P w K mg base CX0 2 f fd ["goods","stand"] (be' K CG CW):=by
 refine F.ok ba' (λvs H Q E h=>?_) (λcdv A outer s H vs Q E hr h=>?_)
 ·obtain⟨g,p,d,hs,ts,qs,fp,ns,f,rfl,_⟩:=h;rfl
 ·obtain⟨g,p,d,hs,ts,qs,fp,ns,f,rfl,G,dfp,hd,so,nd,h64,k⟩:=h;have hu:=b2_ hr;have sz:=b_1;refine' ⟨_,?r0,?kk⟩
  case' r0=>refine' a3_ ?s1 ?r1
  case s1=>exact aj_ (ay_ (aB_ (a8_ aH_ (by rfl) B.isi PyProof.Rows.Boot.«isinstance» (a0_ (pv 1) (a0_ (aI_ (v:=.ty "dict") (by rfl) B.dict PyProof.Rows.Boot.«dict» rfl) a2_))))) ac_ ad_
  case' r1=>refine' a3_ ?s2 ?r2
  case' s2=>refine' ej_ (aM_ b_2 rfl ?i2 ?g2 ?b2)
  case i2=>exact bA_ (aT_ (pv 1))
  case g2=>exact bq_ rfl (ae_ (a9_ (i:=2) ba'.nd rfl (Or.inl rfl)) (ae_ (a9_ (i:=3) ba'.nd rfl (Or.inl rfl)) aN_))
  case b2=>exact a3_ (aj_ (ay_ (aB_ (bE_ cH T.cl hr (pv 0) (a0_ (pv 2) a2_)))) ac_ ad_) (a4_ (aj_ (ay_ (aB_ (bE_ cW TW.cl hr (aO_ (pv 0) rfl) (a0_ (pv 3) a2_)))) ac_ ad_))
  case' r2=>refine' a3_ ?s3 ?r3
  case s3=>exact ab_ (i:=4) ba'.nd rfl (Or.inl rfl) (e2_ cN T.cl hr (pv 0))
  case' r3=>refine' a3_ ?s4 (a4_ ?s5)
  case s4=>exact aj_ (ah_ cL_ (a8_ dH_ (by rfl) B.len b_7 (a0_ (pv 1) a2_)) (a8_ ai_ (by rfl) B.len b_7 (a0_ (pv 4) a2_)) (nomark _)) ac_ ad_
  case s5=>exact aa_ (am_ (b3_ rfl) (by rfl) B.dict PyProof.Rows.Boot.«dict» (a0_ (aZ_ ["piece","stand"] 1 [1] (au_ (pv 4)) (λfp s H=>a9_ (i:=0) (show (["piece","stand"]:List Str).Nodup by decide +kernel) rfl (Or.inl rfl)) (λfp s H=>aX_) (λfp s H=>aP_ (a0_ (pv 0) (a0_ (b8_ hu (pv 1) (pv 0) (λ_ _=>rfl)) a2_)))) a2_))
  case' kk=>skip
  have lns:ns.length=qs.length:=by rw[so.perm.length_eq,aa']
  refine⟨_,rfl,_,_,_,_,rfl,.dK hd,rfl,_,rfl,iteF ?_⟩;refine⟨d,_,hd,?_⟩;refine⟨_,rfl,d,_,rfl,hd,λv hv=>?_⟩;obtain⟨s1,hv1⟩:=nw__ (o:=a1' v d) hv;have G1:=G.same s1;have hd1:=s1 _ _ hd;generalize upd H v (a1' v d)=H1 at s1 hv1 G1 hd1 ⊢;refine⟨v,d,_,rfl,hv1,hd1,λo=>?_⟩;refine bw_ (λi σ H'=>∃(v2 v3:Option V),σ=[some (.ref g),some (.ref d),v2,v3,none]/\Fz d o (stF ns f) H1 H') ⟨none,none,rfl,Fz.start⟩ (λi σ H' _ ⟨_,_,_,z⟩=>z.at_) ?_ ?_
  ·rintro i ky x σ H2 hx ⟨v2,v3,rfl,fz⟩ t ht;obtain⟨n,hn,rfl,rfl⟩:=cy_ hx;have nm:=ad' hn;have s2:=Same.new (o:=.tup [.str n,.str (f n)]) ht;have fz2:=fz.step s2;have e2:upd H2 t (.tup [.str n,.str (f n)]) t=some (.tup [.str n,.str (f n)]):=a1_;show gTup _ _ _ _ _ (upd H2 t (.tup [.str n,.str (f n)])) _;generalize upd H2 t (.tup [.str n,.str (f n)])=H3 at s2 fz2 e2 ⊢;refine⟨t,_,rfl,.of e2,rfl,_,_,rfl,_,_,rfl,rfl,?_⟩;have G3:=fz2.goods hd1 G1 dfp;obtain⟨dx,dw,dy,vs,fpw,h1,h2,h3,h4,h5,m1,m2,m3,m4,m5⟩:=id G3.ex;obtain⟨dxw,d1,l2,d3,zs0,as,ef,w1,_⟩:=id h2.ex;have hno:(gflds p dw dy).lookup ("has_piece":Str)=none:=bg_ _ _ _ Z0 Z0 Z0;have hnw:(flds d1 l2 d3).lookup ("has_hand":Str)=none:=aS_ _ _ _ Z0 Z0 Z0;refine⟨_,rfl,g,dx,_,rfl,h1,hno,_,rfl,g,p,.str n,some n,hs,ts,qs,fp,rfl,G3,rfl,_,rfl,?_⟩;rw[show inB (qs.map (·.1)) (some n)=true from a_5 (so.perm.mem_iff.mp nm)];refine iteF ?_;refine⟨_,rfl,g,CG,dx,_,_,rfl,h1,T.cl,T.nW,aW_ _ _ _,p,dxw,_,rfl,w1,hnw,_,rfl,p,f n,hs,ts,fpw,rfl,h2,_,rfl,?_⟩;rw[a_5 (so.at_ n nm)];exact iteF ⟨_,_,rfl,fz2⟩
  rintro σ H2 ⟨v2,v3,rfl,fz⟩;refine⟨o,fz.at_,?_⟩;have s2:=s1.trans (fz.thaw hd1);have hd2:upd H2 d (.dK (stF ns f)) d=some (.dK (stF ns f)):=a1_;generalize upd H2 d (.dK (stF ns f))=H3 at s2 hd2 ⊢;have G3:=G.same s2;obtain⟨dx,dw,dy,vs,fpw,h1,h2,h3,h4,h5,m1,m2,m3,m4,m5⟩:=id G3.ex;refine⟨_,rfl,g,dx,_,rfl,h1,bg_ _ _ _ Z0 Z0 Z0,g,p,hs,ts,qs,fp,rfl,G3,λln hln=>?_⟩;obtain⟨s3,e3⟩:=nw__ (o:=.lst ((qs.map (·.1)).map V.str)) hln;have hd3:=s3 _ _ hd2;generalize upd H3 ln (.lst ((qs.map (·.1)).map V.str))=H4 at s3 e3 hd3 ⊢;refine⟨_,rfl,d,_,rfl,hd3,_,rfl,ln,_,rfl,.inl (.of e3),rfl,_,rfl,?_⟩;rw[av_,aa',aa',lns];simp only[bne_self_eq_false,decide_true,Bool.not_true];refine iteF ?_;have s04:=s2.trans s3;refine⟨_,rfl,ln,rfl,⟨_,.of e3⟩,λD hD=>?_⟩;refine aJ_ (own:=1) (fv:=[some (.ref d)]) (xs:=(qs.map (·.1)).map V.str) rfl gok1 (λi out H'=>Same H4 H'/\H' D=some (.lst out)/\a5' K H' out (stF ((qs.map (·.1)).take i) f)) ⟨Same.new hD,a1_,.nil⟩ (λi out H' _ ⟨sm,_,_⟩=>.of (sm _ _ e3)) (λout H5 ⟨sm,hD5,pa⟩=>?_) (λi y out H' hy ⟨sm,hD',pa⟩=>?_)
  ·rw[aa',ar'] at pa;refine⟨D,out,_,rfl,hD5,pa,by rw[av_,aa'];omega,λd' hd'=>?_⟩
   have ndk:((stF (qs.map (·.1)) f).map (·.1)).Nodup:=by
    rw[dt_,aI',List.pairwise_map];exact nd.imp λn e=>n (c_1 e)
   rw[ba_ ndk];exact k d' _ ((s04.trans sm).trans (Same.new hd')) (s04.free (sm.free hd')) a1_
  ·obtain⟨n,hn,rfl⟩:=ax_ hy;have hi:i<(qs.map (·.1)).length:=(ac'.mp hn).1;rw[aa'] at hi;have nm:n∈ns:=so.perm.mem_iff.mpr (ad' hn);refine⟨_,rfl,rfl,λNx hN=>yesT ?_⟩;refine⟨_,rfl,_,rfl,_,rfl,d,.str (f n),rfl,?_,by show 2<=sizeLine;decide,λt ht=>?_⟩
   ·rw[<- bI_ (g:=λn=>V.str (f n)) nm];exact .k (k:=Sum.inr n) (sm _ _ hd3)
   have s5:=Same.new (o:=.tup [.str n,.str (f n)]) ht;have lo:=a_4 pa;rw[av_,ai',aa'] at lo;refine⟨out,s5 _ _ hD',by omega,hN _ _ ⟨az_ (sm.trans s5) hD,a1_,?_⟩⟩;have ht5:upd H' t (.tup [.str n,.str (f n)]) t=some (.tup [.str n,.str (f n)]):=a1_;have pD:∀{b:Addr} {ys:List V},upd H' t (.tup [.str n,.str (f n)]) b=some (.tup ys)->b≠D:=λhb=>aD_ hb (s5 _ _ hD') nofun;rw[aY_ hn];show a5' K _ _ (((qs.map (·.1)).take i++[n]).map _);rw[ap'];exact aE_ (Paired.mapP pa λy kv ⟨b,z,hb⟩=>⟨b,z,by rw[a7_ (pD (s5 _ _ hb))];exact s5 _ _ hb⟩) (.cons ⟨t,rfl,by rw[a7_ (pD ht5)];exact ht5⟩ .nil)
end
variable{C:Addr}
theorem bl'.has{K:F__}{H:Hp}{p:Addr}{hs:Xa}{ts:Xb}{fp:List Addr}(W:bl' K C H p hs ts fp){b:Addr}(hb:b∈fp):∃o,H b=some o:=by
 obtain⟨dx,d1,l2,d3,zs,as,rfl,h1,h2,h3,h4,h5,h6,h7⟩:=W.ex;simp only[an'] at hb;rcases hb with rfl|rfl|rfl|rfl|hb
 ·exact⟨_,h1⟩
 ·exact⟨_,h2⟩
 ·exact⟨_,h3⟩
 ·exact⟨_,h5⟩
 ·obtain⟨i,hi,e⟩:=az' hb;exact⟨_,h7 i ((aY' hs)[i]' Z1) b (ab' Z1) (by rw[<- e];exact ab' hi)⟩
theorem a2'.slim{K:F__}{CG CW:Addr}{H:Hp}{g p:Addr}{hs:Xa}{ts:Xb}{qs:List Pc}{fp:List Addr}(G:a2' K CG CW H g p hs ts qs fp):∃fp',a2' K CG CW H g p hs ts qs fp'/\∀b∈fp',∃o,H b=some o:=by
 obtain⟨dx,dw,dy,vs,fpw,h1,h2,h3,h4,h5,m1,m2,m3,m4,m5⟩:=G.ex;refine⟨g::dw::dy::(fpw++vs.filterMap λv=>match v with | .ref a=>some a|_=>none),⟨dx,dw,dy,vs,fpw,h1,h2,h3,h4,h5,by simp,by simp,by simp,λb hb=>by simp[hb],λv hv a z=>?_⟩,λb hb=>?_⟩
 ·have:a∈vs.filterMap λv=>match v with | .ref a=>some a|_=>none:=ay'.mpr ⟨v,hv,by rw[z]⟩;simp only[an',aA'];exact .inr (.inr (.inr (.inr this)))
 ·simp only[an',aA'] at hb;rcases hb with rfl|rfl|rfl|hb|hb
  ·exact⟨_,h1⟩
  ·exact⟨_,h3⟩
  ·exact⟨_,h4⟩
  ·exact h2.has hb
  ·obtain⟨v,hv,e⟩:=ay'.mp hb;obtain⟨i,hi,ev⟩:=az' hv;have le:=a_4 h5;have w:=ak_ h5 i hi Z1;rw[ev] at w;cases o:(qs[i]' Z1).2.2 with
   |none=>
    rw[o] at w;rw[show v=.non from w] at e;cases e
   |some ws=>
    rw[o] at w;obtain⟨a,ys,ea,ha,_⟩:=w;rw[ea] at e;cases e;exact⟨_,ha⟩
section
variable{d d2:Addr}{o:Obj}{kvs:List (Key × V)}{H H' H1:Hp}{u:HO}
theorem Fz.start'(s:Same H H1):Fz d o kvs H (upd H1 d (.frz o (.dK kvs))):=⟨a1_,λb u ne e=>by rw[a7_ ne];exact s _ _ e⟩
theorem Fz.put(f:Fz d o kvs H H')(hn:H d2=none)(ne:d2≠d):Fz d o kvs H (upd H' d2 u):=⟨by rw[a7_ ne.symm];exact f.at_,λb u nb e=>by rw[a7_ (a5_ e hn)];exact f.sm b u nb e⟩
end
def HtOk(H:Hp)(ns:List Str)(g:Str->V)(F:Str->Int × Int):Prop:=∀h∈ns,∃t,g h=.ref t/\H t=some (.tup [.int (F h).1,.int (F h).2])
variable{H':Hp}
theorem HtOk.same{H:Hp}{ns:List Str}{g:Str->V}{F:Str->Int × Int}(h:HtOk H ns g F)(s:Same H H'):HtOk H' ns g F:=λx hx=>by
 obtain⟨t,e,ht⟩:=h x hx;exact⟨t,e,s _ _ ht⟩
section
variable{P:Ad}{w:Af}{K:F__}{mg:Str->Option Aa}{base:Heap}
theorem bD':aX' ["goods","placed","hand","found","piece"] ["goods","placed"] (aW' cG'):=f__
structure by' (K:F__) (CG CW:Addr) (H:Hp) (g p d:Addr) (hs:Xa) (ts:Xb) (qs:List Pc) (fp:List Addr) (f:Str->Str):Prop where
 G:a2' K CG CW H g p hs ts qs fp
 Gd:Good hs ts
 dfp:d∉fp
 hd:H d=some (.dK (stF (qs.map (·.1)) f))
 at_:∀n∈qs.map (·.1),f n∈hs.map (·.1)
 nd:(qs.map (·.1)).Nodup
 h64:qs.length<64
abbrev ldV(hs:Xa)(qs:List Pc)(f:Str->Str):List (Key × V):=mKV (aY' hs) λh=>.int (ld f (qs.map wOf) h)
inductive bf' (K:F__) (CG CW:Addr) (vs:List V) (H:Hp) (Q:VK) (E:XK):Prop
 |mk:∀(g p d:Addr) (hs:Xa) (ts:Xb) (qs:List Pc) (fp:List Addr) (f:Str->Str),vs=[.ref g,.ref d]->by' K CG CW H g p d hs ts qs fp f->(∀d' H',Same H H'->H d'=none->H' d'=some (.dK (ldV hs qs f))->Q (.ref d') H')->bf' K CG CW vs H Q E
theorem fc_{f CG CW CP:Addr}{fd:Ae}(F:Fun K "loads_at" "loads_at" cG' f fd)(B:Bi mg)(T:TxtG K CG)(TW:Txt K mg CW)(cH:CalM P w K mg base CW 1 "hands" ["self"] (b6' K CW))(cW:CalX P w K mg base CG 2 "weight" ["self","piece"] (bF' K CG CW CP)) :
  FnOk P w K mg base CX0 3 f fd ["goods","placed"] (bf' K CG CW):=by
 refine F.ok bD' (λvs H Q E h=>?_) (λcdv A outer s H vs Q E hr h=>?_)
 ·obtain⟨g,p,d,hs,ts,qs,fp,f,rfl,_⟩:=h;rfl
 ·obtain⟨g,p,d,hs,ts,qs,fp,f,rfl,Pl,k⟩:=h;have hu:=b2_ hr;have sz:=b_1;have hr1:Room 1 _:=hr.mono (by decide);refine' ⟨_,?r0,?kk⟩
  case' r0=>refine' a3_ ?s1 ?r1
  case s1=>exact ab_ (i:=3) bD'.nd rfl (Or.inl rfl) (am_ (b3_ rfl) (by rfl) B.dict PyProof.Rows.Boot.«dict» (a0_ (aZ_ ["hand"] 1 [] (au_ (e2_ cH TW.cl hr1 (aO_ (pv 0) rfl))) (λfp s H=>a9_ (i:=0) (show (["hand"]:List Str).Nodup by decide +kernel) rfl (Or.inl rfl)) (λfp s H=>aX_) (λfp s H=>aP_ (a0_ (pv 0) (a0_ a6_ a2_)))) a2_))
  case' r1=>refine' a3_ ?s2 ?r2
  case' s2=>refine' ej_ (aM_ b_2 rfl ?i2 ?g2 (a4_ ?b2))
  case i2=>exact bA_ (aT_ (pv 1))
  case g2=>exact bq_ rfl (ae_ (a9_ (i:=4) bD'.nd rfl (Or.inl rfl)) (ae_ (a9_ (i:=2) bD'.nd rfl (Or.inl rfl)) aN_))
  case b2=>exact b7_ hu (pv 3) (pv 2) (al_ b4_ (b8_ hu (pv 3) (pv 2) (λ_ _=>rfl)) (jP_ cW T.cl hr (pv 0) (a0_ (pv 4) a2_))) rfl
  case r2=>exact a4_ (aa_ (pv 3))
  case' kk=>skip
  have nl:=Pl.Gd.nlen;have h8:=Pl.Gd.h8;obtain⟨dx,dw,dy,vs,fpw,h1,h2,h3,h4,h5,m1,m2,m3,m4,m5⟩:=id Pl.G.ex;obtain⟨dxw,d1,l2,d3,zs0,as,ef,w1,_⟩:=id h2.ex;have hnw:(flds d1 l2 d3).lookup ("hands":Str)=none:=aS_ _ _ _ Z0 Z0 Z0;refine⟨_,rfl,g,CG,dx,_,_,rfl,h1,T.cl,T.nW,aW_ _ _ _,p,dxw,_,rfl,w1,hnw,p,hs,ts,fpw,rfl,h2,λlh hlh=>?_⟩;obtain⟨s1,e1⟩:=nw__ (o:=.lst ((aY' hs).map V.str)) hlh;generalize upd H lh (.lst ((aY' hs).map V.str))=H1 at s1 e1 ⊢;refine⟨lh,rfl,⟨_,.of e1⟩,λD hD=>?_⟩;refine aJ_ (own:=1) (fv:=[]) (xs:=(aY' hs).map V.str) rfl gok1 (λi out H'=>Same H1 H'/\H' D=some (.lst out)/\a5' K H' out (mKV ((aY' hs).take i) λ_=>.int 0)) ⟨Same.new hD,a1_,.nil⟩ (λi out H' _ ⟨sm,_,_⟩=>.of (sm _ _ e1)) (λout H5 ⟨sm,hD5,pa⟩=>?_) (λi y out H' hy ⟨sm,hD',pa⟩=>?_);rotate_left 1
  ·obtain⟨n,hn,rfl⟩:=ax_ hy;have hi:i<(aY' hs).length:=(ac'.mp hn).1;refine⟨_,rfl,rfl,λNx hN=>yesT ?_⟩;refine⟨_,rfl,by show 2<=sizeLine;decide,λt ht=>?_⟩;have s5:=Same.new (o:=.tup [.str n,.int 0]) ht;have lo:=a_4 pa;rw[av_,ai'] at lo;refine⟨out,s5 _ _ hD',by omega,hN _ _ ⟨az_ (sm.trans s5) hD,a1_,?_⟩⟩;have ht5:upd H' t (.tup [.str n,.int 0]) t=some (.tup [.str n,.int 0]):=a1_;have pD:∀{b:Addr} {ys:List V},upd H' t (.tup [.str n,.int 0]) b=some (.tup ys)->b≠D:=λhb=>aD_ hb (s5 _ _ hD') nofun;rw[aY_ hn];show a5' K _ _ (((aY' hs).take i++[n]).map _);rw[ap'];exact aE_ (Paired.mapP pa λy kv ⟨b,z,hb⟩=>⟨b,z,by rw[a7_ (pD (s5 _ _ hb))];exact s5 _ _ hb⟩) (.cons ⟨t,rfl,by rw[a7_ (pD ht5)];exact ht5⟩ .nil)
  rw[aa',ar'] at pa;refine⟨D,out,_,rfl,hD5,pa,by rw[av_];omega,λd2 hd2=>?_⟩
  have ndk:((mKV (aY' hs) λ_=>V.int 0).map (·.1)).Nodup:=by
   rw[dt_,aI',List.pairwise_map];exact Pl.Gd.nnd.imp λn e=>n (c_1 e)
  rw[ba_ ndk];have s2:=(s1.trans sm).trans (Same.new (o:=.dK (mKV (aY' hs) λ_=>V.int 0)) hd2);have e2:upd H5 d2 (.dK (mKV (aY' hs) λ_=>V.int 0)) d2=some (.dK (mKV (aY' hs) λ_=>V.int 0)):=a1_;have n2:H d2=none:=s1.free (sm.free hd2);show tSeq _ _ _ _ (upd H5 d2 (.dK (mKV (aY' hs) λ_=>V.int 0)));generalize upd H5 d2 (.dK (mKV (aY' hs) λ_=>V.int 0))=H6 at s2 e2 ⊢;have d2d:d2≠d:=(a5_ Pl.hd n2).symm;refine⟨d,_,s2 _ _ Pl.hd,?_⟩;refine⟨_,rfl,d,_,rfl,s2 _ _ Pl.hd,λv hv=>?_⟩;obtain⟨s3,hv1⟩:=nw__ (o:=a1' v d) hv;have e3:=s3 _ _ e2;have s03:=s2.trans s3;generalize upd H6 v (a1' v d)=H7 at s3 hv1 e3 s03 ⊢;refine⟨v,d,_,rfl,hv1,s03 _ _ Pl.hd,λo=>?_⟩;refine bw_ (λi σ H'=>∃(v2 v4:Option V),σ=[some (.ref g),some (.ref d),v2,some (.ref d2),v4]/\Fz d o (stF (qs.map (·.1)) f) H H'/\H' d2=some (.dK (mKV (aY' hs) λh=>.int (ld f ((qs.take i).map wOf) h)))) ⟨none,none,rfl,Fz.start' s03,by rw[a7_ d2d];exact e3⟩ (λi σ H' _ ⟨_,_,_,z,_⟩=>z.at_) ?_ ?_
  ·rintro i ky x σ H8 hx ⟨v2,v4,rfl,fz,e8⟩ t ht;obtain⟨n,hn,rfl,rfl⟩:=cy_ hx
   have hi:i<qs.length:=by
    have:=(ac'.mp hn).1;rwa [aa'] at this
   have hq:qs[i]? = some (qs[i]'hi):=ab' hi
   have en:n=(qs[i]'hi).1:=by
    rw[ao',hq] at hn;exact (a_9 hn).symm
   have fm:f n∈aY' hs:=(aL_ hs).mem_iff.mpr (Pl.at_ n (ad' hn));generalize qs[i]'hi=q at hq en;have s8:=Same.new (o:=.tup [.str n,.str (f n)]) ht;have fz2:=fz.step s8;have e9:=s8 _ _ e8;have et:upd H8 t (.tup [.str n,.str (f n)]) t=some (.tup [.str n,.str (f n)]):=a1_;show gTup _ _ _ _ _ (upd H8 t (.tup [.str n,.str (f n)])) _;generalize upd H8 t (.tup [.str n,.str (f n)])=H9 at s8 fz2 e9 et ⊢;refine⟨t,_,rfl,.of et,rfl,_,_,rfl,_,_,rfl,rfl,?_⟩;have G9:=fz2.goods Pl.hd Pl.G Pl.dfp;obtain⟨dx,dw,dy,vs,fpw,h1,h2,h3,h4,h5,m1,m2,m3,m4,m5⟩:=id G9.ex;have hno:(gflds p dw dy).lookup ("weight":Str)=none:=bg_ _ _ _ Z0 Z0 Z0;refine⟨_,rfl,_,rfl,d2,.int (ld f ((qs.take i).map wOf) (f n)),rfl,?_,_,rfl,g,dx,_,rfl,h1,hno,_,rfl,g,p,.str n,some n,hs,ts,qs,fp,rfl,G9,Pl.nd,rfl,.inl ⟨q,ad' hq,b_5 some en,?_⟩⟩
   ·rw[<- bI_ (g:=λh=>V.int (ld f ((qs.take i).map wOf) h)) fm];exact .k (k:=Sum.inr (f n)) e9
   refine⟨_,_,rfl,rfl,_,rfl,_,rfl,d2,_,rfl,.k (k:=Sum.inr (f n)) e9 (by rw[av_];omega),?_⟩;refine⟨_,_,rfl,fz2.put n2 d2d,?_⟩;rw[a1_,gv_ fm];congr 2;refine cn_ λm _=>?_
   have e5:(qs.take (i+1)).map wOf=(qs.take i).map wOf++[wOf q]:=by
    rw[au',hq,ap'];rfl
   rw[e5,iK_];show (if m=f n then V.int (ld f ((qs.take i).map wOf) (f n)+q.2.1) else V.int (ld f ((qs.take i).map wOf) m))=V.int (if m=f q.1 then _ else _);rw[<- en];by_cases z:m=f n
   ·rw[a_8 z,a_8 z,z];rfl
   ·rw[a_6 z,a_6 z]
  rintro σ H8 ⟨v2,v4,rfl,fz,e8⟩;refine⟨o,fz.at_,?_⟩;rw[av_,aa',ar'] at e8;exact⟨_,rfl,k d2 _ (fz.thaw Pl.hd) n2 (by rw[a7_ d2d];exact e8)⟩
theorem bq':aX' ["goods","placed","found","hand","load"] ["goods","placed"] (aW' bR'):=f__
abbrev htF(hs:Xa)(qs:List Pc)(f:Str->Str):Str->Int × Int:=λh=>fr (ld f (qs.map wOf) h) (strOf hs h)
inductive bi' (K:F__) (CG CW:Addr) (vs:List V) (H:Hp) (Q:VK) (E:XK):Prop
 |mk:∀(g p d:Addr) (hs:Xa) (ts:Xb) (qs:List Pc) (fp:List Addr) (f:Str->Str),vs=[.ref g,.ref d]->by' K CG CW H g p d hs ts qs fp f->(∀q∈qs,0<=q.2.1)->(∀d' gg H',Same H H'->H d'=none->H' d'=some (.dK (mKV (aY' hs) gg))->HtOk H' (aY' hs) gg (htF hs qs f)->Q (.ref d') H')->bi' K CG CW vs H Q E
theorem e0_{f CG CW:Addr}{fd:Ae}(F:Fun K "heights_at" "heights_at" bR' f fd)(T:TxtG K CG)(TW:Txt K mg CW)(cL:Cal P w K mg base 3 "loads_at" ["goods","placed"] (bf' K CG CW))(cF:Cal P w K mg base 2 "fraction_of" ["top","below"] spFrac)(cS:CalM P w K mg base CW 2 "strength" ["self","hand"] (bg' K CW)) :
  FnOk P w K mg base CX0 4 f fd ["goods","placed"] (bi' K CG CW):=by
 refine F.ok bq' (λvs H Q E h=>?_) (λcdv A outer s H vs Q E hr h=>?_)
 ·obtain⟨g,p,d,hs,ts,qs,fp,f,rfl,_⟩:=h;rfl
 ·obtain⟨g,p,d,hs,ts,qs,fp,f,rfl,Pl,wp,k⟩:=h;have hu:=b2_ hr;have sz:=b_1;have hr2:Room 2 _:=hr.mono (by decide);refine' ⟨_,?r0,?kk⟩
  case' r0=>refine' a3_ ?s1 ?r1
  case s1=>exact ab_ (i:=2) bq'.nd rfl (Or.inl rfl) be_
  case' r1=>refine' a3_ ?s2 ?r2
  case' s2=>refine' aM_ b_2 rfl ?i2 ?g2 (a4_ ?b2)
  case i2=>exact bA_ (aT_ (af_ cL hr (a0_ (pv 0) (a0_ (pv 1) a2_))))
  case g2=>exact bq_ rfl (ae_ (a9_ (i:=3) bq'.nd rfl (Or.inl rfl)) (ae_ (a9_ (i:=4) bq'.nd rfl (Or.inl rfl)) aN_))
  case b2=>exact b7_ hu (pv 2) (pv 3) (af_ cF hr2 (a0_ (pv 4) (a0_ (bE_ cS TW.cl hr2 (aO_ (pv 0) rfl) (a0_ (pv 3) a2_)) a2_))) rfl
  case r2=>exact a4_ (aa_ (pv 2))
  case' kk=>skip
  have nl:=Pl.Gd.nlen;have h8:=Pl.Gd.h8;intro d2 hd2;obtain⟨s1,e1⟩:=nw__ (o:=.dK []) hd2;show tSeq _ _ _ _ (upd H d2 (.dK []));generalize upd H d2 (.dK [])=H1 at s1 e1 ⊢;have Pl1:by' K CG CW H1 g p d hs ts qs fp f:=⟨Pl.G.same s1,Pl.Gd,Pl.dfp,s1 _ _ Pl.hd,Pl.at_,Pl.nd,Pl.h64⟩;refine⟨_,rfl,_,rfl,g,p,d,hs,ts,qs,fp,f,rfl,Pl1,λdl H2 s2 hdl e2=>?_⟩;refine⟨dl,_,rfl,e2,λv hv=>?_⟩;obtain⟨s3,hv1⟩:=nw__ (o:=a1' v dl) hv;have e3:=s3 _ _ e2;have s13:=s2.trans s3;generalize upd H2 v (a1' v dl)=H3 at s3 hv1 e3 s13 ⊢;have ndl:H dl=none:=s1.free hdl;have d2l:d2≠dl:=a5_ e1 hdl;refine⟨v,dl,_,rfl,hv1,e3,λo=>?_⟩;refine bw_ (λi σ H'=>∃(v3 v4:Option V) (gg:Str->V),σ=[some (.ref g),some (.ref d),some (.ref d2),v3,v4]/\Same H H'/\H' dl=some (.frz o (.dK (ldV hs qs f)))/\H' d2=some (.dK (mKV ((aY' hs).take i) gg))/\HtOk H' ((aY' hs).take i) gg (htF hs qs f)) ⟨none,none,λ_=>.non,rfl,az_ (s1.trans s13) ndl,a1_,by rw[a7_ d2l];exact s13 _ _ e1,λx hx=>by simp at hx⟩ (λi σ H' _ ⟨_,_,_,_,_,z,_⟩=>z) ?_ ?_
  ·rintro i ky x σ H8 hx ⟨v3,v4,gg,rfl,s8,f8,e8,ho⟩ t ht;obtain⟨n,hn,rfl,rfl⟩:=cy_ hx;have hi:i<(aY' hs).length:=(ac'.mp hn).1;have nm:n∈hs.map (·.1):=(aL_ hs).mem_iff.mp (ad' hn);have sm:=c2_ nm;have sg:=Pl.Gd.hok _ sm;have ss:=Same.new (o:=.tup [.str n,.int (ld f (qs.map wOf) n)]) ht;have s9:=s8.trans ss;have e9:=ss _ _ e8;have f9:=ss _ _ f8;have ho9:=ho.same ss;have et:upd H8 t (.tup [.str n,.int (ld f (qs.map wOf) n)]) t=some (.tup [.str n,.int (ld f (qs.map wOf) n)]):=a1_;show gTup _ _ _ _ _ (upd H8 t (.tup [.str n,.int (ld f (qs.map wOf) n)])) _;generalize upd H8 t (.tup [.str n,.int (ld f (qs.map wOf) n)])=H9 at ss s9 e9 f9 ho9 et ⊢;refine⟨t,_,rfl,.of et,rfl,_,_,rfl,_,_,rfl,rfl,?_⟩;have G9:=Pl.G.same s9;obtain⟨dx,dw,dy,vs,fpw,h1,h2,h3,h4,h5,m1,m2,m3,m4,m5⟩:=id G9.ex;obtain⟨dxw,d1,l2,d3,zs0,as,ef,w1,_⟩:=id h2.ex;have hnw:(flds d1 l2 d3).lookup ("strength":Str)=none:=aS_ _ _ _ Z0 Z0 Z0;refine⟨_,rfl,_,rfl,g,CG,dx,_,_,rfl,h1,T.cl,T.nW,aW_ _ _ _,p,dxw,_,rfl,w1,hnw,_,rfl,p,n,strOf hs n,hs,ts,fpw,rfl,h2,Pl.Gd.hnd,sm,?_⟩;refine⟨_,_,rfl,i3_ (λy hy=>?_),by have:=sg.2.1;omega,sg.2.2,λt2 ht2=>?_⟩
   ·obtain⟨q,hq,rfl⟩:=ah'.mp hy;exact wp q hq
   have s10:=Same.new (o:=.tup [.int (fr (ld f (qs.map wOf) n) (strOf hs n)).1,.int (fr (ld f (qs.map wOf) n) (strOf hs n)).2]) ht2;have et2:upd H9 t2 (.tup [.int (fr (ld f (qs.map wOf) n) (strOf hs n)).1,.int (fr (ld f (qs.map wOf) n) (strOf hs n)).2]) t2=some (.tup [.int (htF hs qs f n).1,.int (htF hs qs f n).2]):=a1_;generalize upd H9 t2 (.tup [.int (fr (ld f (qs.map wOf) n) (strOf hs n)).1,.int (fr (ld f (qs.map wOf) n) (strOf hs n)).2])=H10 at s10 et2 ⊢;have e10:=s10 _ _ e9;refine⟨_,rfl,_,rfl,d2,_,rfl,.k (k:=Sum.inr n) e10 (by rw[av_,ai'];omega),?_⟩;refine⟨_,_,λm=>if m=n then .ref t2 else gg m,rfl,az_ (s9.trans s10) hd2,by rw[a7_ d2l.symm];exact s10 _ _ f9,?_,?_⟩
   ·rw[a1_,aY_ hn,ct_ (dm_ Pl.Gd.nnd hn)]
   ·have keep:∀{b xs},H10 b=some (.tup xs)->upd H10 d2 (.dK (putK (mKV ((aY' hs).take i) gg) (Sum.inr n) (.ref t2))) b=some (.tup xs):=λe=>by
     rw[a7_ (aD_ e e10 nofun)];exact e
    intro m hm;rw[aY_ hn] at hm;by_cases z:m=n
    ·subst z;exact⟨t2,a_8 rfl,keep et2⟩
    ·rcases aA'.mp hm with hm|hm
     ·obtain⟨t3,e3,ht3⟩:=ho9 m hm;exact⟨t3,(a_6 z).trans e3,keep (s10 _ _ ht3)⟩
     ·exact absurd (by simpa using hm) z
  rintro σ H8 ⟨v3,v4,gg,rfl,s8,f8,e8,ho⟩;rw[av_,ar'] at e8 ho;exact⟨_,rfl,k d2 gg H8 s8 hd2 e8 ho⟩
end
theorem bP_{H:Hp}{l d:Addr}{u:HO}(h:stt H l)(ne:d≠l):stt (upd H d u) l:=by
 rcases h with⟨n,e⟩|⟨n,m,c,e⟩
 ·exact .inl ⟨n,by rw[a7_ ne.symm];exact e⟩
 ·exact .inr ⟨n,m,c,by rw[a7_ ne.symm];exact e⟩
structure Std (K:F__) (CG CW:Addr) (H:Hp) (g p d:Addr) (hs:Xa) (ts:Xb) (qs:List Pc) (fp:List Addr) (ns:List Str) (f:Str->Str):Prop where
 G:a2' K CG CW H g p hs ts qs fp
 Gd:Good hs ts
 dfp:d∉fp
 hd:H d=some (.dK (stF ns f))
 ok:StandOk hs qs ns f
 nd:(qs.map (·.1)).Nodup
 h64:qs.length<64
 wp:∀q∈qs,0<=q.2.1
theorem Std.same{K:F__}{CG CW:Addr}{H:Hp}{g p d:Addr}{hs:Xa}{ts:Xb}{qs:List Pc}{fp:List Addr}{ns:List Str}{f:Str->Str}(S:Std K CG CW H g p d hs ts qs fp ns f)(s:Same H H'):Std K CG CW H' g p d hs ts qs fp ns f:=⟨S.G.same s,S.Gd,S.dfp,s _ _ S.hd,S.ok,S.nd,S.h64,S.wp⟩
theorem Std.placed{K:F__}{CG CW:Addr}{H:Hp}{g p d d':Addr}{hs:Xa}{ts:Xb}{qs:List Pc}{fp:List Addr}{ns:List Str}{f:Str->Str}(S:Std K CG CW H g p d hs ts qs fp ns f)(s:Same H H')(hn:H d'=none)(hd:H' d'=some (.dK (stF (qs.map (·.1)) f))):∃fp',by' K CG CW H' g p d' hs ts qs fp' f:=by
 obtain⟨fp',G',has⟩:=S.G.slim;refine⟨fp',G'.same s,S.Gd,λm=>?_,hd,λn hn=>S.ok.at_ n (S.ok.perm.mem_iff.mpr hn),S.nd,S.h64⟩;obtain⟨o,e⟩:=has d' m;rw[hn] at e;cases e
section
variable{P:Ad}{w:Af}{K:F__}{mg:Str->Option Aa}{base:Heap}
theorem scLoads:aX' ["goods","stand"] ["goods","stand"] (aW' c9'):=f__
inductive cr' (K:F__) (CG CW:Addr) (vs:List V) (H:Hp) (Q:VK) (E:XK):Prop
 |mk:∀(g p d:Addr) (hs:Xa) (ts:Xb) (qs:List Pc) (fp:List Addr) (ns:List Str) (f:Str->Str),vs=[.ref g,.ref d]->Std K CG CW H g p d hs ts qs fp ns f->(∀d' H',Same H H'->H d'=none->H' d'=some (.dK (ldV hs qs f))->Q (.ref d') H')->cr' K CG CW vs H Q E
theorem ha_{f CG CW:Addr}{fd:Ae}(F:Fun K "loads" "loads" c9' f fd)(cC:Cal P w K mg base 2 "checked_stand" ["goods","stand"] (be' K CG CW))(cL:Cal P w K mg base 3 "loads_at" ["goods","placed"] (bf' K CG CW)):FnOk P w K mg base CX0 4 f fd ["goods","stand"] (cr' K CG CW):=by
 refine F.ok scLoads (λvs H Q E h=>?_) (λcdv A outer s H vs Q E hr h=>?_)
 ·obtain⟨g,p,d,hs,ts,qs,fp,ns,f,rfl,_⟩:=h;rfl
 ·obtain⟨g,p,d,hs,ts,qs,fp,ns,f,rfl,S,k⟩:=h;refine⟨_,a4_ (aa_ (af_ cL hr (a0_ (pv 0) (a0_ (af_ cC (hr.mono (by decide)) (a0_ (pv 0) (a0_ (pv 1) a2_))) a2_)))),?_⟩;refine⟨_,rfl,_,rfl,_,rfl,g,p,d,hs,ts,qs,fp,ns,f,rfl,S.G,S.dfp,S.hd,S.ok,S.nd,S.h64,λd1 H1 s1 n1 e1=>?_⟩;obtain⟨fp',Pl⟩:=S.placed s1 n1 e1;exact⟨g,p,d1,hs,ts,qs,fp',f,rfl,Pl,λd2 H2 s2 n2 e2=>k d2 H2 (s1.trans s2) (s1.free n2) e2⟩
theorem cQ':aX' ["goods","stand"] ["goods","stand"] (aW' b0'):=f__
inductive bO' (K:F__) (CG CW:Addr) (vs:List V) (H:Hp) (Q:VK) (E:XK):Prop
 |mk:∀(g p d:Addr) (hs:Xa) (ts:Xb) (qs:List Pc) (fp:List Addr) (ns:List Str) (f:Str->Str),vs=[.ref g,.ref d]->Std K CG CW H g p d hs ts qs fp ns f->(∀d' gg H',Same H H'->H d'=none->H' d'=some (.dK (mKV (aY' hs) gg))->HtOk H' (aY' hs) gg (htF hs qs f)->Q (.ref d') H')->bO' K CG CW vs H Q E
theorem fq_{f CG CW:Addr}{fd:Ae}(F:Fun K "heights" "heights" b0' f fd)(cC:Cal P w K mg base 2 "checked_stand" ["goods","stand"] (be' K CG CW))(cL:Cal P w K mg base 4 "heights_at" ["goods","placed"] (bi' K CG CW)):FnOk P w K mg base CX0 5 f fd ["goods","stand"] (bO' K CG CW):=by
 refine F.ok cQ' (λvs H Q E h=>?_) (λcdv A outer s H vs Q E hr h=>?_)
 ·obtain⟨g,p,d,hs,ts,qs,fp,ns,f,rfl,_⟩:=h;rfl
 ·obtain⟨g,p,d,hs,ts,qs,fp,ns,f,rfl,S,k⟩:=h;refine⟨_,a4_ (aa_ (af_ cL hr (a0_ (pv 0) (a0_ (af_ cC (hr.mono (by decide)) (a0_ (pv 0) (a0_ (pv 1) a2_))) a2_)))),?_⟩;refine⟨_,rfl,_,rfl,_,rfl,g,p,d,hs,ts,qs,fp,ns,f,rfl,S.G,S.dfp,S.hd,S.ok,S.nd,S.h64,λd1 H1 s1 n1 e1=>?_⟩;obtain⟨fp',Pl⟩:=S.placed s1 n1 e1;exact⟨g,p,d1,hs,ts,qs,fp',f,rfl,Pl,S.wp,λd2 gg H2 s2 n2 e2 ho=>k d2 gg H2 (s1.trans s2) (s1.free n2) e2 ho⟩
theorem bw':aX' ["goods","stand","hand","placed"] ["goods","stand","hand"] (aW' bH'):=f__
inductive bP' (K:F__) (CG CW:Addr) (vs:List V) (H:Hp) (Q:VK) (E:XK):Prop
 |mk:∀(g p d:Addr) (hs:Xa) (ts:Xb) (qs:List Pc) (fp:List Addr) (ns:List Str) (f:Str->Str) (h:Str),vs=[.ref g,.ref d,.str h]->Std K CG CW H g p d hs ts qs fp ns f->h∈hs.map (·.1)->(∀l H',Same H H'->H l=none->H' l=some (.lst (((qs.map (·.1)).filter λn=>decide (f n=h)).map V.str))->Q (.ref l) H')->bP' K CG CW vs H Q E
theorem ec_{f CG CW:Addr}{fd:Ae}(F:Fun K "pieces_at" "pieces_at" bH' f fd)(T:TxtG K CG)(TW:Txt K mg CW)(cC:Cal P w K mg base 2 "checked_stand" ["goods","stand"] (be' K CG CW))(cW:CalM P w K mg base CW 1 "has_hand" ["self","thing"] (do' K CW)):FnOk P w K mg base CX0 3 f fd ["goods","stand","hand"] (bP' K CG CW):=by
 refine F.ok bw' (λvs H Q E h=>?_) (λcdv A outer s H vs Q E hr h=>?_)
 ·obtain⟨g,p,d,hs,ts,qs,fp,ns,f,h,rfl,_⟩:=h;rfl
 ·obtain⟨g,p,d,hs,ts,qs,fp,ns,f,h,rfl,S,hm,k⟩:=h;have hu:=b2_ hr;have sz:=b_1;have h64:=S.h64;refine' ⟨_,?r0,?kk⟩
  case' r0=>refine' a3_ ?s1 (a3_ ?s2 (a4_ ?s3))
  case s1=>exact ab_ (i:=3) bw'.nd rfl (Or.inr rfl) (af_ cC hr (a0_ (pv 0) (a0_ (pv 1) a2_)))
  case s2=>exact aj_ (ay_ (aB_ (bE_ cW TW.cl (hr.mono (by decide)) (aO_ (pv 0) rfl) (a0_ (pv 2) a2_)))) ac_ ad_
  case s3=>exact aa_ (aZ_ ["piece","hand","placed"] 1 [2,3] (iu_ (pv 3)) (λfp s H=>a9_ (i:=0) (show (["piece","hand","placed"]:List Str).Nodup by decide +kernel) rfl (Or.inl rfl)) (λfp s H=>ef_ (ah_ bY_ (b8_ hu (pv 2) (pv 0) (λ_ _=>rfl)) (pv 1) (nomark _))) (λfp s H=>pv 0))
  case' kk=>skip
  refine⟨_,rfl,_,rfl,g,p,d,hs,ts,qs,fp,ns,f,rfl,S.G,S.dfp,S.hd,S.ok,S.nd,S.h64,λd1 H1 s1 n1 e1=>?_⟩;have G1:=S.G.same s1;obtain⟨dx,dw,dy,vs,fpw,h1,h2,h3,h4,h5,m1,m2,m3,m4,m5⟩:=id G1.ex;obtain⟨dxw,d1',l2,d3,zs0,as,ef,w1,_⟩:=id h2.ex;have hnw:(flds d1' l2 d3).lookup ("has_hand":Str)=none:=aS_ _ _ _ Z0 Z0 Z0;refine⟨_,rfl,g,CG,dx,_,_,rfl,h1,T.cl,T.nW,aW_ _ _ _,p,dxw,_,rfl,w1,hnw,_,rfl,p,h,hs,ts,fpw,rfl,h2,_,rfl,?_⟩;rw[a_5 hm];refine iteF ?_;refine⟨_,rfl,d1,_,rfl,e1,λo D hD=>?_⟩;have sf:Same H (upd H1 d1 (.frz o (.dK (stF (qs.map (·.1)) f)))):=az_ s1 n1;have ef2:upd H1 d1 (.frz o (.dK (stF (qs.map (·.1)) f))) d1=some (.frz o (.dK (stF (qs.map (·.1)) f))):=a1_;generalize upd H1 d1 (.frz o (.dK (stF (qs.map (·.1)) f)))=H2 at sf ef2 hD ⊢;refine fB_ (own:=1) (fv:=[some (.str h),some (.ref d1)]) rfl gok1 (λi out H'=>Same H2 H'/\H' D=some (.lst out)/\out=(((qs.map (·.1)).take i).filter λn=>decide (f n=h)).map V.str) ⟨Same.new hD,a1_,rfl⟩ (λi out H' _ ⟨sm,_,_⟩=>sm _ _ ef2) (λout H5 ⟨sm,hD5,eo⟩=>?_) (λi ky x out H' hx ⟨sm,hD',eo⟩=>?_)
  ·rw[av_,ar'] at eo;rw[eo] at hD5;exact k D H5 (sf.trans sm) (sf.free hD) hD5
  ·obtain⟨n,hn,rfl,rfl⟩:=cy_ hx;have nm:=ad' hn;refine⟨_,rfl,rfl,λNx hN=>?_⟩;refine⟨_,rfl,_,rfl,d1,.str (f n),rfl,?_,_,rfl,rfl,_,rfl,?_⟩
   ·rw[<- bI_ (g:=λn=>V.str (f n)) nm];exact .inl ⟨_,Sum.inr n,.inr ⟨o,sm _ _ ef2⟩,rfl,rfl⟩
   have lo:out.length<=64:=by
    rw[eo,aa'];have:=List.length_filter_le (λn=>decide (f n=h)) ((qs.map (·.1)).take i);rw[ai',aa'] at this;omega
   refine ite2 (λc=>?_) (λc=>?_)
   ·have c:f n=h:=by simpa using c
    refine⟨_,rfl,out,hD',by omega,hN _ _ ⟨az_ sm hD,a1_,?_⟩⟩;rw[aY_ hn,List.filter_append,ap',eo];simp[c];rfl
   ·have c:¬f n=h:=by simpa using c
    refine hN out _ ⟨sm,hD',?_⟩;rw[aY_ hn,List.filter_append,ap',eo];simp[c]
theorem c3':aX' ["_law_state","_law_pieces_here","_law_hands","_law_stand_here","_law_piece"] ["_law_state","_law_pieces_here","_law_hands"] (aW' sStand):=f__
inductive cH' (K:F__) (vs:List V) (H:Hp) (Q:VK) (E:XK):Prop
 |mk:∀(l lp lh:Addr) (yp yh:List V) (ps:List Pc) (hs:Xa),vs=[.ref l,.ref lp,.ref lh]->stt H l->H lp=some (.lst yp)->lp≠l->b9' K H yp ps->H lh=some (.lst yh)->lh≠l->aZ' K H yh (hs.map kH)->0<hs.length->hs.length<=8->ps.length<=30->(ps.map (·.1)).Nodup->(∀d f H',But l H H'->stt H' l->H d=none->H' d=some (.dK (stF (ps.map (·.1)) f))->(∀n∈ps.map (·.1),f n∈hs.map (·.1))->Q (.ref d) H')->cH' K vs H Q E
theorem gZ_{f:Addr}{fd:Ae}(F:Fun K "_law_stand" "_law_stand" sStand f fd)(B:Bi mg)(cD:Cal P w K mg base 1 "_law_digit" ["_law_state","_law_base"] bv'):FnOk P w K mg base CX0 2 f fd ["_law_state","_law_pieces_here","_law_hands"] (cH' K):=by
 refine F.ok c3' (λvs H Q E h=>?_) (λcdv A outer s H vs Q E hr h=>?_)
 ·obtain⟨l,lp,lh,yp,yh,ps,hs,rfl,_⟩:=h;rfl
 ·obtain⟨l,lp,lh,yp,yh,ps,hs,rfl,st,hlp,lpl,pc,hlh,lhl,th,h0,h8,h30,nd,k⟩:=h;have hu:=b2_ hr;have sz:=b_1;refine' ⟨_,?r0,?kk⟩
  case' r0=>refine' a3_ ?s1 (a3_ ?s2 (a4_ ?s3))
  case s1=>exact ab_ (i:=3) c3'.nd rfl (Or.inl rfl) be_
  case s2=>exact aM_ b_2 rfl (au_ (pv 1)) (a9_ (i:=4) c3'.nd rfl (Or.inl rfl)) (a4_ (b7_ hu (pv 3) (an_ aC_ (pv 4) a6_ (λ_ _=>rfl)) (an_ aC_ (an_ ar_ (pv 2) (af_ cD hr (a0_ (pv 0) (a0_ (a8_ ai_ (by rfl) B.len b_7 (a0_ (pv 2) a2_)) a2_))) (λ_ _=>rfl)) a6_ (λ_ _=>rfl)) rfl))
  case s3=>exact aa_ (pv 3)
  case' kk=>skip
  have lyp:=a_4 pc;have lyh:=a_4 th;rw[aa'] at lyh;intro d hd;have s1:=Same.new (o:=.dK []) hd
  have dl:d≠l:=by
   obtain⟨xs,e⟩:=st.some;exact (a5_ e hd).symm
  have b1:But l H (upd H d (.dK [])):=But.of s1;have e1:upd H d (.dK []) d=some (.dK []):=a1_;have st1:=st.same s1;show tSeq _ _ _ _ (upd H d (.dK []));generalize upd H d (.dK [])=H1 at b1 e1 st1 s1 ⊢;obtain⟨xs0,hl0⟩:=st.some;have lpd:lp≠d:=a5_ hlp hd;refine⟨_,rfl,lp,rfl,⟨_,.of (s1 _ _ hlp)⟩,aQ_ (K:=K) (a:=lp) (xs:=yp) (λi σ H'=>∃(v4:Option V) (f:Str->Str),σ=[some (.ref l),some (.ref lp),some (.ref lh),some (.ref d),v4]/\But l H H'/\stt H' l/\H' d=some (.dK (stF ((ps.map (·.1)).take i) f))/\∀n∈(ps.map (·.1)).take i,f n∈hs.map (·.1)) ⟨none,λn=>n,rfl,b1,st1,e1,λn hn=>by simp at hn⟩ (λi σ H' _ ⟨_,_,_,b,_⟩=>.of (b _ _ hlp lpl)) ?_ ?_⟩
  ·rintro i y σ H2 hy ⟨v4,f,rfl,b2,st2,e2,fm⟩;have hi:i<yp.length:=(ac'.mp hy).1;have hip:i<ps.length:=by omega
   obtain⟨t,v,et,ht,_⟩:=ak_ pc i hi hip;rw[(ac'.mp hy).2] at et;subst et;have hn:(ps.map (·.1))[i]? = some (ps[i]'hip).1:=by rw[ao',ab' hip];rfl
   generalize ps[i]'hip=q at ht hn;have tl:t≠l:=aD_ ht hl0 nofun;refine⟨_,rfl,_,rfl,_,rfl,lh,_,rfl,.inl (.of (b2 _ _ hlh lhl)),l,(yh.length:Int),rfl,by omega,by omega,st2,λj H3 j0 j1 b3 st3=>?_⟩;obtain⟨j,rfl⟩:=aw' j0;have b13:=b2.trans b3;have hj:j<yh.length:=by omega
   have hyj:yh[j]? = some (yh[j]'hj):=ab' hj;obtain⟨h,hh,a,ea,ha⟩:=aG_ th hyj;have al:a≠l:=aD_ ha hl0 nofun;have ha3:=hpH (b13 _ _ ha al);have ht3:=b13 _ _ ht tl;have e3:=b3 _ _ e2 dl;refine⟨lh,_,_,.ref a,rfl,rfl,.of (b13 _ _ hlh lhl),by rw[bG_ Z1 Z1,aT',hyj,ea],a,_,0,_,rfl,rfl,.of ha3,rfl,?_⟩;refine⟨_,rfl,_,rfl,t,_,0,_,rfl,rfl,.of ht3,rfl,d,_,rfl,.k (k:=Sum.inr q.1) e3 (by rw[av_,ai',aa'];omega),?_⟩;refine⟨_,λm=>if m=q.1 then h.1 else f m,rfl,λb o e nb=>?_,?_,?_,?_⟩
   ·rw[a7_ (a5_ e hd)];exact b13 _ _ e nb
   ·exact bP_ st3 dl
   ·rw[a1_,aY_ hn,ct_ (dm_ nd hn)];congr 2;refine cn_ λm _=>?_;by_cases z:m=q.1
    ·simp[z]
    ·simp[z]
   ·intro m hm;rw[aY_ hn] at hm;show (if m=q.1 then h.1 else f m)∈_;by_cases z:m=q.1
    ·rw[a_8 z];exact ah'.mpr ⟨h,ad' hh,rfl⟩
    ·rw[a_6 z];rcases aA'.mp hm with hm|hm
     ·exact fm m hm
     ·exact absurd (by simpa using hm) z
  ·rintro σ H2 ⟨v4,f,rfl,b2,st2,e2,fm⟩;rw[lyp,<- aa' (f:=λq:Pc=>q.1),ar'] at e2 fm;exact⟨_,rfl,k d f H2 b2 st2 hd e2 fm⟩
end
variable{H:Hp}{σ:St}
theorem seqG{t u:TS}{D:Ends}(R:St->Hp->Prop)(later:∀σ H,R σ H->u D σ H)(now:∀N:St->Hp->Prop,(∀σ H,R σ H->N σ H)->t { D with nx:=N } σ H):tSeq t u D σ H:=now (u D) later
theorem setG{N:St->Hp->Prop}(h:N (σ.set i (some v)) H):bM' i v σ H N:=h
structure CalC (P:Ad) (w:Af) (K:F__) (mg:Str->Option Aa) (base:Heap) (C:Addr) (k:Nat) (x:Str) (ps:List Str) (sp:Sp):Prop where
 ex:∃f fd,FnOk P w K mg base CX0 k f fd ps sp/\Mk K C f/\mg x=some (.ref C)/\bL' K fd ps []
theorem jk_{X:Cx}{k:Nat}{x:Str}{ps:List Str}{sp:Sp}{p pos:Pos}{e:Expr}{es:List Expr}{t:TA}(c:CalC X.prog X.w X.K X.mg X.base C k x ps sp)(hr:Room (k+1) X.A)(ha:PA X (e::es) t)(hg:Gl X x:=by rfl)(hdb:(x == ("__debug__":Str))=false:=by decide)(he:starEach (e::es) X.env=(false,eval e X.env)::starEach es X.env:=by rfl)(hpl:(backTo pos (starEach es X.env)).any (·.1)=false:=by rfl):PE X (.Call (.Name x p) (e::es) [] pos) (tMake C sp [] E0 t):=by
 obtain⟨f,fd,F,M,m,b⟩:=c.ex;exact ix_ M F hr hg m b .nil pass0 ha hdb he hpl
structure Lay (K:F__) (CG CW:Addr) (H:Hp) (lh lp g p:Addr) (yh yp:List V) (hs:Xa) (ts:Xb) (ps qs:List Pc) (fp:List Addr):Prop where
 hh:H lh=some (.lst yh)
 th:aZ' K H yh (hs.map kH)
 hp:H lp=some (.lst yp)
 pc:b9' K H yp ps
 G:a2' K CG CW H g p hs ts qs fp
structure Sure (hs:Xa) (ts:Xb) (ps qs:List Pc):Prop where
 Gd:Good hs ts
 gp:∀q∈ps,dp' ts q
 nd:(ps.map (·.1)).Nodup
 h30:ps.length<=30
 Q:Qs ps qs
variable{K:F__}{CG CW g lh lp p:Addr}{hs:Xa}{ts:Xb}{ps qs:List Pc}{fp:List Addr}{yh yp:List V}
theorem Lay.same(L:Lay K CG CW H lh lp g p yh yp hs ts ps qs fp)(s:Same H H'):Lay K CG CW H' lh lp g p yh yp hs ts ps qs fp:=⟨s _ _ L.hh,L.th.same s,s _ _ L.hp,Paired.mapP L.pc λ_ _ q=>q.same s,L.G.same s⟩
theorem Lay.std{d:Addr}{f:Str->Str}(L:Lay K CG CW H lh lp g p yh yp hs ts ps qs fp)(S:Sure hs ts ps qs)(dn:d∉fp)(hd:H d=some (.dK (stF (ps.map (·.1)) f)))(fm:∀n∈ps.map (·.1),f n∈hs.map (·.1)):Std K CG CW H g p d hs ts qs fp (ps.map (·.1)) f:=by
 refine⟨L.G,S.Gd,dn,hd,⟨?_,fm⟩,S.Q.nd S.nd,?_,λq hq=>?_⟩
 ·rw[S.Q.nms];exact (aF_ _).symm
 ·have:=S.Q.len;have:=S.h30;omega
 ·obtain⟨p',hp',rfl⟩:=S.Q.mem q hq;have:=(S.gp p' hp').w1;show 0<=p'.2.1;omega
end Ev
namespace L2
open PySem PySem.Spec PyProof.Rows PySem.W
theorem fh_{d:Addr}{o:Obj}{kvs:List (Key × V)}{g:TG}{tc:TT}{te:TE}{own:Nat}{fv:List (Option V)}{dec:V->Hp->List (Option V)->Prop}{D:Addr}{H:Hp}{Q:VK}{σ0:St}(hσ:σ0=List.replicate own none++fv)(G:GOk g own fv dec)(Pv:Nat->List V->Hp->Prop)
  (h0:Pv 0 [] (upd H D (.lst []))) (hl:∀i out H',i<=kvs.length->Pv i out H'->H' d=some (.frz o (.dK kvs))) (hd:∀out H',Pv kvs.length out H'->Q (.ref D) H')
  (hgo:∀i k x out H',kvs[i]? = some (k,x)->Pv i out H'->∀t,H' t=none->∃o3,dec (.ref t) (upd H' t (.tup [kV k,x])) o3/\o3.length=own/\∀Nx:Hp->Prop,(∀out' H2,Pv (i+1) out' H2->Nx H2)->
   tc (o3++fv) (upd H' t (.tup [kV k,x])) λb H4=>if b=true then te (o3++fv) H4 λy H5=>∃out2,H5 D=some (.lst out2)/\out2.length<sizeLine/\Nx (upd H5 D (.lst (out2++[y]))) else Nx H4) :
  c0' (Itm d o kvs) g tc te σ0 D H Q:=by
 refine da_ hσ G kvs.length Pv h0 (λout H' p=>⟨⟨hl _ _ _ (ae' _) p,ae' _⟩,hd out H' p⟩) λi out H' hi p=>?_;have q:=hl i out H' (Nat.le_of_lt hi) p;refine⟨⟨q,hi⟩,λx H2 y=>?_⟩;obtain⟨t,k,v,rfl,ht,hx,rfl⟩:=y;exact hgo i k v out H' hx p t ht
inductive rDictD (xs:List V) (H:Hp) (Q:VK):Prop
 |mk:∀a kvs,xs=[.ref a]->Rd H a (.dK kvs)->(∀p,H p=none->Q (.ref p) (upd H p (.dK kvs)))->rDictD xs H Q
variable{X:Cx}
theorem f7_:bc' X (.type "dict") rDictD:=by
 intro pins s σ H xs us Q I r h;obtain⟨a,kvs,rfl,hd,q⟩:=h;obtain⟨u,rfl,ru⟩:=vals1 r;cases ru;exact hJ_ I hd λp s' hp I'=>⟨.ref p,_,I',rfl,q p hp⟩
end L2
namespace Ev
open PySem L2
def lcmI(a n:Int):Int:=a / (Int.gcd a n:Int) * n
variable{n:Int}
theorem it_{a:Int}(ha:0<a)(hn:0<n):lcmI a n=(Int.lcm a n:Int):=by
 obtain⟨p,rfl⟩:=aw' (aP' ha);obtain⟨q,rfl⟩:=aw' (aP' hn);show ((p:Int) / ((Nat.gcd p q:Nat):Int)) * (q:Int)=((Nat.lcm p q:Nat):Int);rw[<- Int.natCast_ediv,<- Int.natCast_mul,Nat.div_mul_right_comm (Nat.gcd_dvd_left p q)];rfl
def lcmL(ns:List Int):Int:=ns.foldl lcmI 1
theorem ck_:∀(ns:List Int) (a:Int),0<a->(∀n∈ns,0<n)->0<ns.foldl lcmI a/\∀x:Int,0<=x->(ns.foldl lcmI a ∣ x ↔ a ∣ x/\∀n∈ns,n ∣ x)
 |[],a,ha,_=>⟨ha,λx _=>by simp⟩
 |n::ns,a,ha,h=>by
  have hn:=h n ak';have e:=it_ ha hn
  have p:0<lcmI a n:=by
   rw[e];have:=Nat.lcm_pos (m:=a.natAbs) (n:=n.natAbs) Z1 Z1;have:0<Int.lcm a n:=this;omega
  obtain⟨h1,h2⟩:=ck_ ns (lcmI a n) p λm hm=>h m (af' _ hm);refine⟨h1,λx hx=>(h2 x hx).trans ?_⟩;obtain⟨z,rfl⟩:=aw' hx;rw[e,Int.natCast_dvd_natCast,Int.lcm_dvd_iff];constructor
  ·rintro⟨⟨q1,q2⟩,q3⟩
   exact⟨q1,λm hm=>by
    rcases an'.mp hm with rfl|hm
    ·exact q2
    ·exact q3 m hm⟩
  ·rintro⟨q1,q2⟩;exact⟨⟨q1,q2 n ak'⟩,λm hm=>q2 m (af' _ hm)⟩
theorem de_{ns:List Int}(h:∀n∈ns,0<n):0<lcmL ns:=(ck_ ns 1 (by decide) h).1
theorem ht_{ns:List Int}(h:∀n∈ns,0<n)(hn:n∈ns):n ∣ lcmL ns:=
 (((ck_ ns 1 (by decide) h).2 _ (aP' (de_ h))).mp (Int.dvd_refl _)).2 n hn
theorem iR_(f:Str->Str)(x:Str × Int)(ws:Xa)(h:Str):ld f (x::ws) h=(if f x.1=h then x.2 else 0)+ld f ws h:=by
 unfold ld;by_cases e:f x.1=h
 ·simp[e]
 ·simp[e]
def sumF(ns:List Str)(L c:Str->Int):Int:=(ns.map λh=>L h * (L h * c h)).sum
theorem jb_{f:Str->Str}{h:Str}:∀{ws:Xa},(∀x∈ws,0<=x.2/\x.2<=1000000000)->ld f ws h<=1000000000 * ws.length
 |[],_=>by
  unfold ld;simp
 |x::ws,p=>by
  have h1:=p x ak';have h2:=jb_ (f:=f) (h:=h) (ws:=ws) λy hy=>p y (af' _ hy);rw[iR_,aD'];by_cases z:f x.1=h
  ·rw[a_8 z];omega
  ·rw[a_6 z];omega
def bu'(hs:Xa):Int:=lcmL ((aY' hs).map (strOf hs))
theorem gE_{hs:Xa}{ts:Xb}(G:Good hs ts){n:Str}(h:n∈aY' hs):1<=strOf hs n/\strOf hs n<=1000:=(G.hok _ (c2_ ((aL_ hs).mem_iff.mp h))).2
section
variable{P:Ad}{w:Af}{K:F__}{mg:Str->Option Aa}{base:Heap}
theorem scLM:aX' ["numbers","found","number"] ["numbers"] (aW' sLM):=f__
def spLM(K:F__):Sp:=λvs H Q _=>∃(l:Addr) (ns:List Int),vs=[.ref l]/\SqL K H l (ns.map V.int)/\(∀n∈ns,1<=n/\n<=1000)/\Q (.int (lcmL ns)) H
theorem hf_{ns:List Int}{i:Nat}(h:ns[i]? = some n):lcmL (ns.take (i+1))=lcmI (lcmL (ns.take i)) n:=by
 unfold lcmL;rw[au',h,List.foldl_append];rfl
theorem e7_{ns:List Int}{i:Nat}{y:V}(h:(ns.map V.int)[i]? = some y):∃n,ns[i]? = some n/\y=.int n:=by
 rw[ao'] at h;cases e:ns[i]? with
 |none=>rw[e] at h;cases h
 |some n=>rw[e] at h;exact⟨n,rfl,(a_9 h).symm⟩
theorem jG_{f:Addr}{fd:Ae}(F:Fun K "least_multiple" "least_multiple" sLM f fd)(cG:Cal P w K mg base 1 "greatest_divisor" ["one","other"] spGd):FnOk P w K mg base CX0 2 f fd ["numbers"] (spLM K):=by
 refine F.ok scLM (λvs H Q E h=>?_) (λcdv A outer s H vs Q E hr h=>?_)
 ·obtain⟨l,ns,rfl,_⟩:=h;rfl
 ·obtain⟨l,ns,rfl,hl,b,k⟩:=h;refine' ⟨_,a3_ ?s1 (a3_ ?s2 (a4_ ?s3)),?kk⟩
  case s1=>exact ab_ (i:=1) scLM.nd rfl (Or.inl rfl) a6_
  case s2=>exact aM_ b_2 rfl (au_ (pv 0)) (a9_ (i:=2) scLM.nd rfl (Or.inl rfl)) (a4_ (ab_ (i:=1) scLM.nd rfl (Or.inl rfl) (al_ cd_ (al_ bm_ (pv 1) (af_ cG hr (a0_ (pv 1) (a0_ (pv 2) a2_)))) (pv 2))))
  case s3=>exact aa_ (pv 1)
  case' kk=>skip
  refine⟨_,rfl,l,rfl,⟨_,hl⟩,aQ_ (K:=K) (a:=l) (xs:=ns.map V.int) (λi σ H'=>H'=H/\∃(v2:Option V),σ=[some (.ref l),some (.int (lcmL (ns.take i))),v2]) ⟨rfl,none,rfl⟩ (λi σ H' _ ⟨e,_⟩=>by rw[e];exact hl) ?_ ?_⟩
  ·rintro i y σ H' hy ⟨rfl,v2,rfl⟩;obtain⟨n,hn,rfl⟩:=e7_ hy;have bn:=b n (ad' hn)
   have p:=de_ (ns:=ns.take i) λm hm=>by
    have:=b m (List.take_subset _ _ hm);omega
   refine⟨_,rfl,_,rfl,_,rfl,_,_,rfl,aP' p,by omega,_,_,rfl,rfl,jB_ Z1 bn.2,_,rfl,_,_,rfl,rfl,.inr ⟨by omega,by omega⟩,rfl,some (.int n),?_⟩;rw[hf_ hn];rfl
  ·rintro σ H' ⟨rfl,v2,rfl⟩;refine⟨_,rfl,?_⟩;rw[aa',ar'];exact k
theorem scMult:aX' ["web"] ["web"] (aW' sMult):=f__
inductive cn' (K:F__) (C:Addr) (vs:List V) (H:Hp) (Q:VK) (E:XK):Prop
 |mk:∀(p:Addr) (hs:Xa) (ts:Xb) (fp:List Addr),vs=[.ref p]->bl' K C H p hs ts fp->Good hs ts->(∀H',Same H H'->Q (.int (bu' hs)) H')->cn' K C vs H Q E
theorem iL_{f CW:Addr}{fd:Ae}(F:Fun K "multiple_of_strengths" "multiple_of_strengths" sMult f fd)(TW:Txt K mg CW)(cL:Cal P w K mg base 2 "least_multiple" ["numbers"] (spLM K))(cH:CalM P w K mg base CW 1 "hands" ["self"] (b6' K CW))(cS:CalM P w K mg base CW 2 "strength" ["self","hand"] (bg' K CW)):FnOk P w K mg base CX0 3 f fd ["web"] (cn' K CW):=by
 refine F.ok scMult (λvs H Q E h=>?_) (λcdv A outer s H vs Q E hr h=>?_)
 ·obtain⟨p,hs,ts,fp,rfl,_⟩:=h;rfl
 ·obtain⟨p,hs,ts,fp,rfl,W,G,k⟩:=h;have sz:=b_1;have nl:=G.nlen;have h8:=G.h8;refine' ⟨_,a4_ (aa_ (af_ cL hr (a0_ (aZ_ ["hand","web"] 1 [0] (au_ (e2_ cH TW.cl (hr.mono (by decide)) (pv 0))) (λfp s H=>a9_ (i:=0) (show (["hand","web"]:List Str).Nodup by decide +kernel) rfl (Or.inl rfl)) (λfp s H=>aX_) (λfp s H=>?e1)) a2_))),?kk⟩
  case e1=>exact bE_ cS TW.cl hr (pv 1) (a0_ (pv 0) a2_)
  case' kk=>skip
  obtain⟨dxw,d1,l2,d3,zs0,as,ef,w1,_⟩:=id W.ex;refine⟨_,rfl,p,dxw,_,rfl,w1,aS_ _ _ _ Z0 Z0 Z0,p,hs,ts,fp,rfl,W,λlh hlh=>?_⟩;obtain⟨s1,e1⟩:=nw__ (o:=.lst ((aY' hs).map V.str)) hlh;generalize upd H lh (.lst ((aY' hs).map V.str))=H1 at s1 e1 ⊢;refine⟨lh,rfl,⟨_,.of e1⟩,λD hD=>?_⟩;refine aJ_ (own:=1) (fv:=[some (.ref p)]) (xs:=(aY' hs).map V.str) rfl gok1 (λi out H'=>Same H1 H'/\H' D=some (.lst out)/\out=(((aY' hs).take i).map (strOf hs)).map V.int) ⟨Same.new hD,a1_,rfl⟩ (λi out H' _ ⟨sm,_,_⟩=>.of (sm _ _ e1)) (λout H5 ⟨sm,hD5,eo⟩=>?_) (λi y out H' hy ⟨sm,hD',eo⟩=>?_)
  ·rw[aa',ar'] at eo;rw[eo] at hD5;refine⟨D,_,rfl,.of hD5,λn hn=>?_,k H5 (s1.trans sm)⟩;obtain⟨m,hm,rfl⟩:=ah'.mp hn;exact gE_ G hm
  ·obtain⟨n,hn,rfl⟩:=ax_ hy;have hi:i<(aY' hs).length:=(ac'.mp hn).1;refine⟨_,rfl,rfl,λNx hN=>yesT ?_⟩;have W':=(W.same s1).same sm;obtain⟨dxw,d1,l2,d3,zs0,as,ef,w1,_⟩:=id W'.ex;refine⟨_,rfl,p,dxw,_,rfl,w1,aS_ _ _ _ Z0 Z0 Z0,_,rfl,p,n,strOf hs n,hs,ts,fp,rfl,W',G.hnd,c2_ ((aL_ hs).mem_iff.mp (ad' hn)),?_⟩;refine⟨out,hD',by rw[eo,aa',aa',ai'];omega,hN _ _ ⟨az_ sm hD,a1_,?_⟩⟩;rw[aY_ hn,ap',ap',eo];rfl
theorem bN':aX' ["goods","placed","multiple","found","hand","load"] ["goods","placed"] (aW' cX'):=f__
def lvF(hs:Xa)(qs:List Pc)(f:Str->Str)(h:Str):Int:=ld f (qs.map wOf) h * (bu' hs / strOf hs h)
inductive bp' (K:F__) (CG CW:Addr) (vs:List V) (H:Hp) (Q:VK) (E:XK):Prop
 |mk:∀(g p d:Addr) (hs:Xa) (ts:Xb) (qs:List Pc) (fp:List Addr) (f:Str->Str),vs=[.ref g,.ref d]->by' K CG CW H g p d hs ts qs fp f->(∀q∈qs,0<=q.2.1/\q.2.1<=1000000000)->(∀d' H',Same H H'->H d'=none->H' d'=some (.dK (mKV (aY' hs) λh=>.int (lvF hs qs f h)))->Q (.ref d') H')->bp' K CG CW vs H Q E
theorem jg_{qs:List Pc}(wp:∀q∈qs,0<=q.2.1/\q.2.1<=1000000000)(h64:qs.length<64)(f:Str->Str)(h:Str):0<=ld f (qs.map wOf) h/\ld f (qs.map wOf) h<=64000000000:=by
 have p:∀x∈qs.map wOf,0<=x.2/\x.2<=1000000000:=λx hx=>by
  obtain⟨q,hq,rfl⟩:=ah'.mp hx;exact wp q hq
 have h1:=jb_ (f:=f) (h:=h) p;rw[aa'] at h1;exact⟨i3_ λx hx=>(p x hx).1,by omega⟩
theorem fZ_{f CG CW:Addr}{fd:Ae}(F:Fun K "levels_at" "levels_at" cX' f fd)(T:TxtG K CG)(TW:Txt K mg CW)(cL:Cal P w K mg base 3 "loads_at" ["goods","placed"] (bf' K CG CW))(cM:Cal P w K mg base 3 "multiple_of_strengths" ["web"] (cn' K CW))(cS:CalM P w K mg base CW 2 "strength" ["self","hand"] (bg' K CW)) :
  FnOk P w K mg base CX0 4 f fd ["goods","placed"] (bp' K CG CW):=by
 refine F.ok bN' (λvs H Q E h=>?_) (λcdv A outer s H vs Q E hr h=>?_)
 ·obtain⟨g,p,d,hs,ts,qs,fp,f,rfl,_⟩:=h;rfl
 ·obtain⟨g,p,d,hs,ts,qs,fp,f,rfl,Pl,wp,k⟩:=h;have hu:=b2_ hr;have sz:=b_1;have hr2:Room 2 _:=hr.mono (by decide);refine' ⟨_,?r0,?kk⟩
  case' r0=>refine' a3_ ?s0 (a3_ ?s1 (a3_ ?s2 ?r2))
  case s0=>exact ab_ (i:=2) bN'.nd rfl (Or.inl rfl) (af_ cM hr (a0_ (aO_ (pv 0) rfl) a2_))
  case s1=>exact ab_ (i:=3) bN'.nd rfl (Or.inl rfl) be_
  case' s2=>refine' aM_ b_2 rfl ?i2 ?g2 (a4_ ?b2)
  case i2=>exact bA_ (aT_ (af_ cL hr (a0_ (pv 0) (a0_ (pv 1) a2_))))
  case g2=>exact bq_ rfl (ae_ (a9_ (i:=4) bN'.nd rfl (Or.inl rfl)) (ae_ (a9_ (i:=5) bN'.nd rfl (Or.inl rfl)) aN_))
  case b2=>exact b7_ hu (pv 3) (pv 4) (al_ cd_ (pv 5) (al_ bm_ (pv 2) (bE_ cS TW.cl hr2 (aO_ (pv 0) rfl) (a0_ (pv 4) a2_)))) rfl
  case r2=>exact a4_ (aa_ (pv 3))
  case' kk=>skip
  have nl:=Pl.Gd.nlen;have h8:=Pl.Gd.h8;obtain⟨dx,dw,dy,vs,fpw,h1,h2,_⟩:=id Pl.G.ex;refine⟨_,rfl,g,CG,dx,_,_,rfl,h1,T.cl,T.nW,aW_ _ _ _,p,hs,ts,fpw,rfl,h2,Pl.Gd,λH0 s0=>?_⟩;intro d2 hd2;have s1:=s0.trans (Same.new (o:=.dK []) hd2);have e1:upd H0 d2 (.dK []) d2=some (.dK []):=a1_;have n2:H d2=none:=s0.free hd2;show tSeq _ _ _ _ (upd H0 d2 (.dK []));generalize upd H0 d2 (.dK [])=H1 at s1 e1 ⊢;have Pl1:by' K CG CW H1 g p d hs ts qs fp f:=⟨Pl.G.same s1,Pl.Gd,Pl.dfp,s1 _ _ Pl.hd,Pl.at_,Pl.nd,Pl.h64⟩;refine⟨_,rfl,_,rfl,g,p,d,hs,ts,qs,fp,f,rfl,Pl1,λdl H2 s2 hdl e2=>?_⟩;refine⟨dl,_,rfl,e2,λv hv=>?_⟩;obtain⟨s3,hv1⟩:=nw__ (o:=a1' v dl) hv;have e3:=s3 _ _ e2;have s13:=s2.trans s3;generalize upd H2 v (a1' v dl)=H3 at s3 hv1 e3 s13 ⊢;have ndl:H dl=none:=s1.free hdl;have d2l:d2≠dl:=a5_ e1 hdl;refine⟨v,dl,_,rfl,hv1,e3,λo=>?_⟩;refine bw_ (λi σ H'=>∃(v4 v5:Option V),σ=[some (.ref g),some (.ref d),some (.int (bu' hs)),some (.ref d2),v4,v5]/\Same H H'/\H' dl=some (.frz o (.dK (ldV hs qs f)))/\H' d2=some (.dK (mKV ((aY' hs).take i) λh=>.int (lvF hs qs f h)))) ⟨none,none,rfl,az_ (s1.trans s13) ndl,a1_,by rw[a7_ d2l];exact s13 _ _ e1⟩ (λi σ H' _ ⟨_,_,_,_,z,_⟩=>z) ?_ ?_
  ·rintro i ky x σ H8 hx ⟨v4,v5,rfl,s8,f8,e8⟩ t ht;obtain⟨n,hn,rfl,rfl⟩:=cy_ hx;have hi:i<(aY' hs).length:=(ac'.mp hn).1;have nm:n∈hs.map (·.1):=(aL_ hs).mem_iff.mp (ad' hn);have sm:=c2_ nm;have sg:=gE_ Pl.Gd (ad' hn);have lo:=jg_ wp Pl.h64 f n;have ss:=Same.new (o:=.tup [.str n,.int (ld f (qs.map wOf) n)]) ht;have s9:=s8.trans ss;have e9:=ss _ _ e8;have f9:=ss _ _ f8;have et:upd H8 t (.tup [.str n,.int (ld f (qs.map wOf) n)]) t=some (.tup [.str n,.int (ld f (qs.map wOf) n)]):=a1_;show gTup _ _ _ _ _ (upd H8 t (.tup [.str n,.int (ld f (qs.map wOf) n)])) _;generalize upd H8 t (.tup [.str n,.int (ld f (qs.map wOf) n)])=H9 at ss s9 e9 f9 et ⊢;refine⟨t,_,rfl,.of et,rfl,_,_,rfl,_,_,rfl,rfl,?_⟩;have G9:=Pl.G.same s9;obtain⟨dx,dw,dy,vs,fpw,h1,h2,h3,h4,h5,m1,m2,m3,m4,m5⟩:=id G9.ex;obtain⟨dxw,d1,l2,d3,zs0,as,ef,w1,_⟩:=id h2.ex;have hnw:(flds d1 l2 d3).lookup ("strength":Str)=none:=aS_ _ _ _ Z0 Z0 Z0;refine⟨_,rfl,_,rfl,_,rfl,g,CG,dx,_,_,rfl,h1,T.cl,T.nW,aW_ _ _ _,p,dxw,_,rfl,w1,hnw,_,rfl,p,n,strOf hs n,hs,ts,fpw,rfl,h2,Pl.Gd.hnd,sm,?_⟩;refine⟨_,_,rfl,rfl,⟨by omega,by omega⟩,_,_,rfl,rfl,.inl ⟨by omega,by omega⟩,_,rfl,_,rfl,d2,_,rfl,.k (k:=Sum.inr n) e9 (by rw[av_,ai'];omega),?_⟩;refine⟨_,_,rfl,az_ s9 n2,by rw[a7_ d2l.symm];exact f9,?_⟩;rw[a1_,aY_ hn,ct_ (dm_ Pl.Gd.nnd hn)];congr 2;refine cn_ λm _=>?_;by_cases z:m=n
   ·subst z;simp[lvF]
   ·simp[z]
  rintro σ H8 ⟨v4,v5,rfl,s8,f8,e8⟩;rw[av_,ar'] at e8;exact⟨_,rfl,k d2 H8 s8 n2 e8⟩
theorem scSumAt:aX' ["goods","placed","levels"] ["goods","placed"] (aW' sSumAt):=f__
def smF(hs:Xa)(qs:List Pc)(f:Str->Str):Int:=sumF (aY' hs) (ld f (qs.map wOf)) λh=>bu' hs / strOf hs h
inductive b7' (K:F__) (CG CW:Addr) (vs:List V) (H:Hp) (Q:VK) (E:XK):Prop
 |mk:∀(g p d:Addr) (hs:Xa) (ts:Xb) (qs:List Pc) (fp:List Addr) (f:Str->Str),vs=[.ref g,.ref d]->by' K CG CW H g p d hs ts qs fp f->(∀q∈qs,0<=q.2.1/\q.2.1<=1000000000)->(∀H',Same H H'->Q (.int (smF hs qs f)) H')->b7' K CG CW vs H Q E
theorem hN_{f CG CW:Addr}{fd:Ae}(F:Fun K "sum_at" "sum_at" sSumAt f fd)(mSum:mg "sum"=none)(cL:Cal P w K mg base 3 "loads_at" ["goods","placed"] (bf' K CG CW))(cV:Cal P w K mg base 4 "levels_at" ["goods","placed"] (bp' K CG CW)):FnOk P w K mg base CX0 5 f fd ["goods","placed"] (b7' K CG CW):=by
 refine F.ok scSumAt (λvs H Q E h=>?_) (λcdv A outer s H vs Q E hr h=>?_)
 ·obtain⟨g,p,d,hs,ts,qs,fp,f,rfl,_⟩:=h;rfl
 ·obtain⟨g,p,d,hs,ts,qs,fp,f,rfl,Pl,wp,k⟩:=h;have hu:=b2_ hr;have sz:=b_1;have nl:=Pl.Gd.nlen;have h8:=Pl.Gd.h8;refine' ⟨_,a3_ ?s1 (a4_ ?s2),?kk⟩
  case s1=>exact ab_ (i:=2) scSumAt.nd rfl (Or.inr rfl) (af_ cV hr (a0_ (pv 0) (a0_ (pv 1) a2_)))
  case' s2=>refine' aa_ (a8_ (g4_ rfl) (by rfl) mSum PyProof.Rows.boot_sum (a0_ (aZ_ ["hand","load","levels"] 2 [2] (bA_ (aT_ (af_ cL (hr.mono (by decide)) (a0_ (pv 0) (a0_ (pv 1) a2_))))) (λfp s H=>?g1) (λfp s H=>aX_) (λfp s H=>?e1)) a2_))
  case g1=>exact cr_ (n:=2) (ae_ (a9_ (i:=0) (show (["hand","load","levels"]:List Str).Nodup by decide +kernel) rfl (Or.inl rfl)) (ae_ (a9_ (i:=1) (show (["hand","load","levels"]:List Str).Nodup by decide +kernel) rfl (Or.inl rfl)) aN_))
  case e1=>exact al_ cd_ (pv 1) (b8_ hu (pv 2) (pv 0) (λ_ _=>rfl))
  case' kk=>skip
  refine⟨_,rfl,_,rfl,g,p,d,hs,ts,qs,fp,f,rfl,Pl,wp,λdv H1 s1 n1 e1=>?_⟩;have Pl1:by' K CG CW H1 g p d hs ts qs fp f:=⟨Pl.G.same s1,Pl.Gd,Pl.dfp,s1 _ _ Pl.hd,Pl.at_,Pl.nd,Pl.h64⟩;refine⟨_,rfl,_,rfl,g,p,d,hs,ts,qs,fp,f,rfl,Pl1,λdl H2 s2 n2 e2=>?_⟩;refine⟨dl,_,rfl,e2,λv hv=>?_⟩;obtain⟨s3,hv1⟩:=nw__ (o:=a1' v dl) hv;have e3:=s3 _ _ e2;have s13:=s2.trans s3;generalize upd H2 v (a1' v dl)=H3 at s3 hv1 e3 s13 ⊢;refine⟨v,dl,_,rfl,hv1,e3,λo D hD=>?_⟩;have dvl:dv≠dl:=a5_ e1 n2;have sf:Same H1 (upd H3 dl (.frz o (.dK (ldV hs qs f)))):=az_ s13 n2;have ef:upd H3 dl (.frz o (.dK (ldV hs qs f))) dl=some (.frz o (.dK (ldV hs qs f))):=a1_;generalize upd H3 dl (.frz o (.dK (ldV hs qs f)))=H4 at sf ef hD ⊢;refine fh_ (own:=2) (fv:=[some (.ref dv)]) rfl gok2 (λi out H'=>Same H4 H'/\H' D=some (.lst out)/\out=(((aY' hs).take i).map λh=>ld f (qs.map wOf) h * lvF hs qs f h).map V.int) ⟨Same.new hD,a1_,rfl⟩ (λi out H' _ ⟨sm,_,_⟩=>sm _ _ ef) (λout H5 ⟨sm,hD5,eo⟩=>?_) (λi ky x out H' hx ⟨sm,hD',eo⟩ t ht=>?_)
  ·rw[av_,ar'] at eo;rw[eo] at hD5;exact⟨D,_,rfl,.of hD5,k H5 (s1.trans (sf.trans sm))⟩
  ·obtain⟨n,hn,rfl,rfl⟩:=cy_ hx;have hi:i<(aY' hs).length:=(ac'.mp hn).1;have nm:=ad' hn;have lo:=jg_ wp Pl.h64 f n;obtain⟨ss,et⟩:=nw__ (o:=.tup [.str n,.int (ld f (qs.map wOf) n)]) ht;refine⟨[some (.str n),some (.int (ld f (qs.map wOf) n))],⟨t,_,_,rfl,.of et,rfl⟩,rfl,λNx hN=>yesT ?_⟩;have s4:=(sf.trans sm).trans ss;have sD:=ss _ _ hD';have s5:=sm.trans ss;show tOp _ _ _ _ (upd H' t (.tup [.str n,.int (ld f (qs.map wOf) n)])) _;generalize upd H' t (.tup [.str n,.int (ld f (qs.map wOf) n)])=H6 at s4 sD s5 ⊢;refine⟨_,rfl,_,rfl,_,rfl,dv,.int (lvF hs qs f n),rfl,?_,_,_,rfl,rfl,.inl ⟨by omega,by omega⟩,out,sD,by rw[eo,aa',aa',ai'];omega,hN _ _ ⟨az_ s5 hD,a1_,?_⟩⟩
   ·rw[<- bI_ (g:=λh=>V.int (lvF hs qs f h)) nm];exact .k (k:=Sum.inr n) (s4 _ _ e1)
   ·rw[aY_ hn,ap',ap',eo];rfl
theorem scSumOf:aX' ["goods","stand"] ["goods","stand"] (aW' dg'):=f__
inductive cz' (K:F__) (CG CW:Addr) (vs:List V) (H:Hp) (Q:VK) (E:XK):Prop
 |mk:∀(g p d:Addr) (hs:Xa) (ts:Xb) (qs:List Pc) (fp:List Addr) (ns:List Str) (f:Str->Str),vs=[.ref g,.ref d]->Std K CG CW H g p d hs ts qs fp ns f->(∀q∈qs,0<=q.2.1/\q.2.1<=1000000000)->(∀H',Same H H'->Q (.int (smF hs qs f)) H')->cz' K CG CW vs H Q E
theorem hn_{f CG CW:Addr}{fd:Ae}(F:Fun K "sum_of" "sum_of" dg' f fd)(cC:Cal P w K mg base 2 "checked_stand" ["goods","stand"] (be' K CG CW))(cL:Cal P w K mg base 5 "sum_at" ["goods","placed"] (b7' K CG CW)):FnOk P w K mg base CX0 6 f fd ["goods","stand"] (cz' K CG CW):=by
 refine F.ok scSumOf (λvs H Q E h=>?_) (λcdv A outer s H vs Q E hr h=>?_)
 ·obtain⟨g,p,d,hs,ts,qs,fp,ns,f,rfl,_⟩:=h;rfl
 ·obtain⟨g,p,d,hs,ts,qs,fp,ns,f,rfl,S,wp,k⟩:=h;refine⟨_,a4_ (aa_ (af_ cL hr (a0_ (pv 0) (a0_ (af_ cC (hr.mono (by decide)) (a0_ (pv 0) (a0_ (pv 1) a2_))) a2_)))),?_⟩;refine⟨_,rfl,_,rfl,_,rfl,g,p,d,hs,ts,qs,fp,ns,f,rfl,S.G,S.dfp,S.hd,S.ok,S.nd,S.h64,λd1 H1 s1 n1 e1=>?_⟩;obtain⟨fp',Pl⟩:=S.placed s1 n1 e1;exact⟨g,p,d1,hs,ts,qs,fp',f,rfl,Pl,wp,λH2 s2=>k H2 (s1.trans s2)⟩
end
end Ev
namespace L2
open PySem PySem.Spec PyProof.Rows PySem.W
variable{vs:List (Key × Aa)}{prog:Ad}{w:Af}{A:Ah}
theorem cW_{d it:Addr}{ep:Nat}(hh:A.handled=none)(hne:d≠it):Walks prog w A it [it,d] [it] vs.length (λi v=>∃k,vs[i]? = some (k,v)) (λi h=>h.IsValIter it d i vs.length ep/\h.DictAt (a0' prog w) d vs ep) where
 sub:=λb hb=>by simp at hb;simp[hb]
 frame:=λi h h' st k=>⟨st.1.at λo e=>k it Z2 o e,by
  obtain⟨o,es,ho,r⟩:=st.2;exact⟨o,es,k d Z2 o ho,r⟩⟩
 item:=by
  intro i s Q E hi st h;obtain⟨⟨k,v⟩,hx⟩:∃p,vs[i]? = some p:=⟨vs[i],by simp[hi]⟩;refine wpAny_pyNext_values_item st.1 st.2 hx λh' st' sb=>?_;refine h v h' s.toks ⟨k,hx⟩ ⟨st',?_⟩ λb o hb e=>(sb.2 b (by simpa using hb)).trans e;obtain⟨o,es,ho,r⟩:=st.2;exact⟨o,es,(sb.2 d hne).trans ho,r⟩
 done:=by
  intro s Q E st h;exact wpAny_pyNext_values_end hh st.1 st.2 Z2 λh' eb=>h h' s.toks λb o hb e=>eb b o (by simpa using hb) e
 self:=λ_ _ _ _ st h=>wpAny_pyIter_valiter st.1 h
theorem ds_{ns:List (Key × Int)}(r:KV (ns.map λx=>(x.1,V.int x.2)) vs){i:Nat}{k:Key}{v:Aa}(h:vs[i]? = some (k,v)):∃n t,(ns.map (·.2))[i]? = some n/\v=.int n t:=by
 have hl:=r.length;rw[aa'] at hl
 have hi:i<ns.length:=by
  have:=(ac'.mp h).1;omega
 obtain⟨u,hu,ru⟩:=eO_ r i (k:=(ns[i]'hi).1) (x:=V.int (ns[i]'hi).2) (by rw[ao',ab' hi];rfl);rw[h] at hu;have e:=b_5 Prod.snd (a_9 hu);obtain⟨t,rfl⟩:=(show ∃t,u=Value.int (ns[i]'hi).2 t from ru);exact⟨_,t,by rw[ao',ab' hi];rfl,e⟩
inductive rMaxV (xs:List V) (H:Hp) (Q:VK):Prop
 |mk:∀(v d:Addr) (ns:List (Key × Int)),xs=[.ref v]->H v=some (bj' v d)->Rd H d (.dK (ns.map λx=>(x.1,V.int x.2)))->0<ns.length->(∀m,m∈ns.map (·.2)->(∀a∈ns.map (·.2),a<=m)->Q (.int m) H)->rMaxV xs H Q
inductive rMinV (xs:List V) (H:Hp) (Q:VK):Prop
 |mk:∀(v d:Addr) (ns:List (Key × Int)),xs=[.ref v]->H v=some (bj' v d)->Rd H d (.dK (ns.map λx=>(x.1,V.int x.2)))->0<ns.length->(∀m,m∈ns.map (·.2)->(∀a∈ns.map (·.2),m<=a)->Q (.int m) H)->rMinV xs H Q
variable{X:Cx}
theorem gB_(hc:X.calm=true):bc' X (.builtin "max") rMaxV:=by
 intro pins s σ H xs us Q I r h;obtain⟨v,d,ns,rfl,hv,hd,h0,q⟩:=h;obtain⟨u,rfl,ru⟩:=vals1 r;cases ru;obtain⟨z,hne,vs,rel,dd⟩:=bN_ I.hok hd;obtain⟨ep,dat⟩:=dd.dictAt;obtain⟨iv,_,_⟩:=I.hok v _ hv;have hl:=rel.length;rw[aa'] at hl
 have dlt:d<s.heap.objs.size:=by
  obtain⟨o,es,ho,_⟩:=dat;exact a_2 ho
 refine call_max_walk (wpAny_pyIter_values (knd:=a0' X.prog X.w) (kvs:=vs) (ep:=ep) iv dat ?_);refine⟨s.heap.objs.size,[s.heap.objs.size,d],[s.heap.objs.size],vs.length,λi v=>∃k,vs[i]? = some (k,v),_,_,rfl,cW_ (ep:=ep) (I.ok.hd hc) (aj' dlt),⟨⟨_,a_3 _ rfl,rfl,rfl⟩,?_⟩,λb hb=>?_,by omega,CmpOf.ints_gt (λi=>((ns.map (·.2))[i]?).getD 0) (λi v ⟨k,hv⟩=>?_),λv' h' tk hP k=>?_⟩
 ·obtain⟨o,es,ho,r⟩:=dat;exact⟨o,es,a_0 _ ho,r⟩
 ·have hb:b=s.heap.objs.size∨b=d:=by simpa using hb
  show b<(s.heap.objs.push _).size;rw[Array.size_push];rcases hb with e|e
  ·rw[e];exact Nat.lt_succ_self _
  ·rw[e];exact Nat.lt_succ_of_lt dlt
 ·obtain⟨n,t,e1,e2⟩:=ds_ rel hv;refine⟨t,?_⟩;rw[e1];exact e2
 ·obtain⟨k',hv'⟩:=hP;obtain⟨n,t,e1,rfl⟩:=ds_ rel hv';obtain⟨b1,b2⟩:=argBest_gt (λi=>((ns.map (·.2))[i]?).getD 0) (vs.length - 1);rw[e1] at b2;refine⟨.int n,H,I.kept (t':=tk) (λb o e=>k b o (λm=>?_) (a_0 _ e)),⟨t,rfl⟩,q n (ad' e1) λa ha=>?_⟩
  ·have m:b=s.heap.objs.size:=by simpa using m
   exact absurd m (aj' (a_2 e))
  ·obtain⟨j,hj,ej⟩:=az' ha;have:=b2 j (by rw[aa'] at hj;omega);rw[ab' hj,ej] at this;exact this
theorem fY_(hc:X.calm=true):bc' X (.builtin "min") rMinV:=by
 intro pins s σ H xs us Q I r h;obtain⟨v,d,ns,rfl,hv,hd,h0,q⟩:=h;obtain⟨u,rfl,ru⟩:=vals1 r;cases ru;obtain⟨z,hne,vs,rel,dd⟩:=bN_ I.hok hd;obtain⟨ep,dat⟩:=dd.dictAt;obtain⟨iv,_,_⟩:=I.hok v _ hv;have hl:=rel.length;rw[aa'] at hl
 have dlt:d<s.heap.objs.size:=by
  obtain⟨o,es,ho,_⟩:=dat;exact a_2 ho
 refine call_min_walk (wpAny_pyIter_values (knd:=a0' X.prog X.w) (kvs:=vs) (ep:=ep) iv dat ?_);refine⟨s.heap.objs.size,[s.heap.objs.size,d],[s.heap.objs.size],vs.length,λi v=>∃k,vs[i]? = some (k,v),_,_,rfl,cW_ (ep:=ep) (I.ok.hd hc) (aj' dlt),⟨⟨_,a_3 _ rfl,rfl,rfl⟩,?_⟩,λb hb=>?_,by omega,CmpOf.ints_lt (λi=>((ns.map (·.2))[i]?).getD 0) (λi v ⟨k,hv⟩=>?_),λv' h' tk hP k=>?_⟩
 ·obtain⟨o,es,ho,r⟩:=dat;exact⟨o,es,a_0 _ ho,r⟩
 ·have hb:b=s.heap.objs.size∨b=d:=by simpa using hb
  show b<(s.heap.objs.push _).size;rw[Array.size_push];rcases hb with e|e
  ·rw[e];exact Nat.lt_succ_self _
  ·rw[e];exact Nat.lt_succ_of_lt dlt
 ·obtain⟨n,t,e1,e2⟩:=ds_ rel hv;refine⟨t,?_⟩;rw[e1];exact e2
 ·obtain⟨k',hv'⟩:=hP;obtain⟨n,t,e1,rfl⟩:=ds_ rel hv';obtain⟨b1,b2⟩:=argBest_lt (λi=>((ns.map (·.2))[i]?).getD 0) (vs.length - 1);rw[e1] at b2;refine⟨.int n,H,I.kept (t':=tk) (λb o e=>k b o (λm=>?_) (a_0 _ e)),⟨t,rfl⟩,q n (ad' e1) λa ha=>?_⟩
  ·have m:b=s.heap.objs.size:=by simpa using m
   exact absurd m (aj' (a_2 e))
  ·obtain⟨j,hj,ej⟩:=az' ha;have:=b2 j (by rw[aa'] at hj;omega);rw[ab' hj,ej] at this;exact this
end L2
namespace EvM
open PySem PySem.Spec PyProof.Rows PySem.W
def cl'(it S:Addr)(kw:List (Str × Aa))(old:List Aa):Sem Fin:=do
 let x <- tryCatch (pyNext (.ref it)) λe=>do
  updateSeq S λ_=>#[]
  letGo ([]++old.reverse) [e]
  throw e
 match x with
 |none=>
  match old,kw with
  |[item,val],_=>do
   updateSeq S λ_=>#[]
   letGo [val] [item]
   ret item
  |_,(_,d)::_=>do
   rule (toString "max"++toString ".default")
   ret d
  |_,[]=>do
   rule (toString "max"++toString ".empty")
   raiseErrorMade "ValueError" (toString "max"++toString "() iterable argument is empty")
 |some item=>
  match old with
  |[oldItem,oldVal]=>do
   let better <- tryCatch (holding [item,item] do
     let answer <- richCompare .Gt item oldVal
     let yes <- holding [answer] (truthy answer)
     letGo [answer]
     pure yes) λe=>do
    updateSeq S λ_=>#[]
    letGo ([item,item]++old.reverse) [e]
    throw e
   if better=true then do
    updateSeq S λ_=>#[item,item]
    letGo [oldVal,oldItem]
    again (.builtin (toString "max"++toString ".loop") ⟨[.ref it,.none,.ref S],kw⟩)
   else do
    letGo [item,item]
    again (.builtin (toString "max"++toString ".loop") ⟨[.ref it,.none,.ref S],kw⟩)
  |_=>do
   updateSeq S λ_=>#[item,item]
   again (.builtin (toString "max"++toString ".loop") ⟨[.ref it,.none,.ref S],kw⟩)
def mxTurn(it S:Addr)(kw:List (Str × Aa)):Sem Fin:=do
 let l <- seqItems? (.ref S)
 cl' it S kw (l.getD #[]).toList
theorem jm_(it S:Addr)(kw:List (Str × Aa)):Builtin.«max.loop» ⟨[.ref it,.none,.ref S],kw⟩=mxTurn it S kw:=by
 unfold mxTurn cl';rfl
abbrev mxCode(it S:Addr)(kw:List (Str × Aa)):Code:=.builtin "max.loop" ⟨[.ref it,.none,.ref S],kw⟩
variable{S it:Addr}{old:List Aa}{n:Nat}{s:Ab}{prog:Ad}{w:Af}{A:Ah}
theorem ed_{kw:List (Str × Aa)}{R:Result->Ab->Prop}(hS:s.heap.get? S=some { cls:=.type "list",data:=.seq old.toArray n })(h:wpAny (model prog w) A.in1 (cl' it S kw old) (λfin s'=>match fin with
   |.done f=>R (.ok f) s'
   |.again c'=>c'.quiet=true/\codeAny (model prog w) A c' R s') (λe s'=>R (.error e) s') s):codeAny (model prog w) A (mxCode it S kw) R s:=by
 refine codeAny_builtin F.entry_max_loop ?_;rw[Around.under_plainId F.plain_max_loop _,jm_];unfold mxTurn;exact a__ (wpAny_seqItems hS rfl h)
variable{h:Heap}
theorem ex_{new:List Aa}(hS:h.get? S=some { cls:=.type "list",data:=.seq old.toArray n }):∃n',(h.update S (Obj.mapSeq λ_=>new.toArray)).get? S=some { cls:=.type "list",data:=.seq new.toArray n' }:=⟨_,get?_update_seq hS (λ_=>new.toArray)⟩
def Kp(it S:Addr)(h h':Heap):Prop:=∀b o,b≠it->b≠S->h.get? b=some o->h'.get? b=some o
theorem Kp.trans{h1 h2:Heap}(a:Kp it S h h1)(b:Kp it S h1 h2):Kp it S h h2:=λc o h1 h2 e=>b c o h1 h2 (a c o h1 h2 e)
theorem hmax:(toString "max"++toString ".loop")="max.loop":=by decide +kernel
variable{E Q:Aa->Ab->Prop}
theorem ia_{z m:Int}{t t2:Tok}(h:Q (.bool (decide (z > m))) s):wpAny (model prog w) A (richCompare .Gt (.int z t) (.int m t2)) Q E s:=
 CmpOf.ints_gt (prog:=prog) (w:=w) (A:=A) (P:=λi v=>∃t,v=Value.int (if i=0 then z else m) t) (λi=>if i=0 then z else m) (λi v h=>h) 0 1 _ _ s Q E ⟨t,rfl⟩ ⟨t2,rfl⟩ h
variable{l:Addr}{its:List Aa}{ns:List Int}
theorem jJ_(hSi:S≠it)(hSl:S≠l)(hil:l≠it)(hh:A.handled=none)(hn:L2.Vals (ns.map L2.V.int) its)(kw:List (Str × Aa)):∀(k i:Nat) (m:Int) (t:Tok) (n:Nat) (s:Ab) (R:Result->Ab->Prop),its.length - i=k->i<=its.length->m∈ns.take i->(∀a∈ns.take i,a<=m)->
  s.heap.IsListIter it l i->s.heap.IsList l its.toArray->s.heap.get? S=some { cls:=.type "list",data:=.seq [Value.int m t,Value.int m t].toArray n }->
  (∀m t h',m∈ns->(∀a∈ns,a<=m)->Kp it S s.heap h'->R (.ok (.ret (.int m t))) { s with heap:=h' })->codeAny (model prog w) A (mxCode it S kw) R s:=by
 have ln:=hn.length;rw[aa'] at ln;intro k
 induction k with
 |zero=>
  intro i m t n s R hk hi hm hle hit hl hS hR;have ei:i=its.length:=by omega
  subst ei;rw[<- ln,ar'] at hm hle;refine ed_ hS ?_;unfold cl';refine a__ (wpAny_tryCatch (wpAny_pyNext_list_end hh hit hl Z2 λh1 he=>?_));have hS1:=he _ _ hSi hS;refine a__ (wpAny_updateSeq hS1 rfl (a__ (wpAny_letGo ?_)) (by show 2<=sizeLine;decide) (by show 0<=sizeLine+1;omega))
  exact a_1 (hR m t _ hm hle λb o h1 h2 e=>by
   rw[b__ _ _ (Ne.symm h2)];exact he b o h1 e)
 |succ k ih=>
  intro i m t n s R hk hi hm hle hit hl hS hR;have hlt:i<ns.length:=by omega
  have hz:(ns.map L2.V.int)[i]? = some (.int ns[i]):=by rw[ao',ab' hlt];rfl
  obtain⟨u,hu,t2,rfl⟩:=hn.get hz;refine ed_ hS ?_;unfold cl';refine a__ (wpAny_tryCatch (wpAny_pyNext_list_item hit hl (x:=.int ns[i] t2) (by simpa using hu) λh1 hit1 hs1=>?_));have hS1:=hs1.extBut _ _ hSi hS
  have hl1:h1.IsList l its.toArray:=by
   obtain⟨o,e,r⟩:=hl;exact⟨o,hs1.extBut _ _ hil e,r⟩
  have k1:Kp it S s.heap h1:=λb o h1 _ e=>hs1.extBut _ _ h1 e;have mem:ns[i]∈ns.take (i+1):=ad' (i:=i) (by rw[List.getElem?_take_of_lt (Nat.lt_succ_self i)];exact ab' hlt);refine a__ (wpAny_tryCatch (b_3 (a__ (ia_ (a__ (b_3 (c_0 (a__ (wpAny_letGo (a_1 ?_))))))))));rw[hmax];by_cases hb:ns[i] > m
  ·rw[a_8 (a_5 hb)];refine a__ (wpAny_updateSeq hS1 rfl (a__ (wpAny_letGo ?_)) (by show 2<=sizeLine;decide) (by show 2<=sizeLine+1;decide));obtain⟨n',hS2⟩:=ex_ (new:=[.int ns[i] t2,.int ns[i] t2]) hS1
   have k2:Kp it S h1 (h1.update S (Obj.mapSeq λ_=>[Value.int ns[i] t2,Value.int ns[i] t2].toArray)):=λb o _ h2 e=>by
    rw[b__ _ _ (Ne.symm h2)];exact e
   have hit2:(h1.update S (Obj.mapSeq λ_=>[Value.int ns[i] t2,Value.int ns[i] t2].toArray)).IsListIter it l (i+1):=hit1.at λo e=>by
    rw[b__ _ _ hSi];exact e
   have hl2:(h1.update S (Obj.mapSeq λ_=>[Value.int ns[i] t2,Value.int ns[i] t2].toArray)).IsList l its.toArray:=by
    obtain⟨o,e,r⟩:=hl1;exact⟨o,k2 _ _ hil hSl.symm e,r⟩
   refine a_1 ⟨plainId_quiet F.plain_max_loop _,ih (i+1) ns[i] t2 n' _ R Z1 Z1 mem (λa ha=>?_) hit2 hl2 hS2 λm t h' h1' h2' kk=>hR m t h' h1' h2' ((k1.trans k2).trans kk)⟩;rw[au',ab' hlt] at ha;rcases aA'.mp ha with ha|ha
   ·exact aP' (Int.lt_of_le_of_lt (hle a ha) hb)
   ·obtain rfl:a=ns[i]:=by simpa using ha
    exact Int.le_refl _
  ·rw[a_6 (by simpa using hb)];refine a__ (wpAny_letGo (a_1 ⟨plainId_quiet F.plain_max_loop _,ih (i+1) m t n _ R Z1 Z1 ?_ (λa ha=>?_) hit1 hl1 hS1 λm t h' h1' h2' kk=>hR m t h' h1' h2' (k1.trans kk)⟩))
   ·rw[au'];exact List.mem_append_left _ hm
   ·rw[au',ab' hlt] at ha;rcases aA'.mp ha with ha|ha
    ·exact hle a ha
    ·obtain rfl:a=ns[i]:=by simpa using ha
     exact Int.not_lt.mp hb
theorem max_dflt(hh:A.handled=none){d:Aa}(hn:L2.Vals (ns.map L2.V.int) its)(hl:s.heap.IsList l its.toArray)(h0:ns=[]->∀h',(∀b o,s.heap.get? b=some o->h'.get? b=some o)->Q d { s with heap:=h' })(h1:∀m t h',m∈ns->(∀a∈ns,a<=m)->(∀b o,s.heap.get? b=some o->h'.get? b=some o)->Q (.int m t) { s with heap:=h' }) :
  wpAny (model prog w) A (call (.builtin "max") [.ref l] [("default",d)]) Q E s:=by
 refine wpAny_call (codeAny_call_builtin F.plain_max F.entry_max ?_);refine (show wpAny (model prog w) A.in1 (checkBuiltinCall "max" ⟨[.ref l],[("default",d)]⟩) _ _ s from ?_);have hck:checkBuiltinCall "max" ⟨[.ref l],[("default",d)]⟩=pure ():=by rfl
 rw[hck];refine a_1 ?_
 have hb:Builtin.max ⟨[.ref l],[("default",d)]⟩=(do
   let it <- pyIter (.ref l)
   let b <- newList []
   again (.builtin (toString "max"++toString ".loop") ⟨[it,.none,b],[("default",d)]⟩)):=by rfl
 rw[hb,hmax];have ll:l<s.heap.objs.size:=by obtain⟨_,e,_⟩:=hl;exact a_2 e
 refine a__ (wpAny_pyIter_list hl (a__ (wpAny_newList (a_1 ⟨plainId_quiet F.plain_max_loop _,?_⟩) (aC' _))))
 have hi1:s.heap.objs.size<(s.heap.push { cls:=.type "list_iterator",data:=.fields #[.ref l,.int 0 0] }).objs.size:=by
  have:(s.heap.push { cls:=.type "list_iterator",data:=.fields #[.ref l,.int 0 0] }).get? s.heap.objs.size=some _:=a_3 _ rfl;exact a_2 this
 have hit:(s.heap.push { cls:=.type "list_iterator",data:=.fields #[.ref l,.int 0 0] }).IsListIter s.heap.objs.size l 0:=⟨_,a_3 _ rfl,rfl,rfl⟩;have hl1:=hl.push { cls:=.type "list_iterator",data:=.fields #[.ref l,.int 0 0] };have k1:∀b o,s.heap.get? b=some o->(s.heap.push { cls:=.type "list_iterator",data:=.fields #[.ref l,.int 0 0] }).get? b=some o:=λb o e=>a_0 _ e;generalize s.heap.push { cls:=.type "list_iterator",data:=.fields #[.ref l,.int 0 0] }=g1 at hi1 hit hl1 k1 ⊢;have hS:(g1.push { cls:=.type "list",data:=.seq (#[]:Array Aa) }).get? g1.objs.size=some { cls:=.type "list",data:=.seq ([]:List Aa).toArray 0 }:=a_3 _ rfl;have k2:∀b o,g1.get? b=some o->(g1.push { cls:=.type "list",data:=.seq (#[]:Array Aa) }).get? b=some o:=λb o e=>a_0 _ e;have hit2:(g1.push { cls:=.type "list",data:=.seq (#[]:Array Aa) }).IsListIter s.heap.objs.size l 0:=hit.at λo e=>k2 _ _ e;have hl2:=hl1.push { cls:=.type "list",data:=.seq (#[]:Array Aa) };have hSi:g1.objs.size≠s.heap.objs.size:=Ne.symm (aj' hi1);have hSl:g1.objs.size≠l:=Ne.symm (aj' (Nat.lt_trans ll hi1));have hil:l≠s.heap.objs.size:=aj' ll;have lt1:∀b o,s.heap.get? b=some o->b≠s.heap.objs.size/\b≠g1.objs.size:=λb o e=>⟨aj' (a_2 e),aj' (Nat.lt_trans (a_2 e) hi1)⟩;show codeAny (model prog w) A (mxCode s.heap.objs.size g1.objs.size [("default",d)]) _ { s with heap:=g1.push { cls:=.type "list",data:=.seq (#[]:Array Aa) } };generalize g1.push { cls:=.type "list",data:=.seq (#[]:Array Aa) }=g2 at hS k2 hit2 hl2 ⊢;have k3:∀b o,s.heap.get? b=some o->g2.get? b=some o:=λb o e=>k2 _ _ (k1 _ _ e);refine ed_ hS ?_;unfold cl';have ln:=hn.length;rw[aa'] at ln;cases ns with
 |nil=>
  have e0:its=[]:=List.length_eq_zero_iff.mp ln.symm;subst e0;refine a__ (wpAny_tryCatch (wpAny_pyNext_list_end hh hit2 hl2 Z2 λh1' he=>?_));exact a__ (wpAny_rule (a_1 (h0 rfl h1' λb o e=>he b o (lt1 b o e).1 (k3 _ _ e))))
 |cons n ns=>
  have hz:((n::ns).map L2.V.int)[0]? = some (.int n):=rfl;obtain⟨u,hu,t2,rfl⟩:=hn.get hz;refine a__ (wpAny_tryCatch (wpAny_pyNext_list_item hit2 hl2 (x:=.int n t2) (by simpa using hu) λg3 hit3 hs3=>?_));have hS3:=hs3.extBut _ _ hSi hS;rw[hmax];refine a__ (wpAny_updateSeq hS3 rfl ?_ (by show 0<=sizeLine;omega) (by show 2<=sizeLine+1;decide));obtain⟨n',hS4⟩:=ex_ (new:=[.int n t2,.int n t2]) hS3
  have k4:Kp s.heap.objs.size g1.objs.size g2 (g3.update g1.objs.size (Obj.mapSeq λ_=>[Value.int n t2,Value.int n t2].toArray)):=λb o h1 h2 e=>by
   rw[b__ _ _ (Ne.symm h2)];exact hs3.extBut _ _ h1 e
  refine a_1 ⟨plainId_quiet F.plain_max_loop _,jJ_ hSi hSl hil hh hn _ (its.length - 1) 1 n t2 n' _ _ rfl (by rw[<- ln,aD'];omega) Z2 (λa ha=>?_) (hit3.at λo e=>?_) ?_ hS4 λm t h' hm hle kk=>h1 m t h' hm hle λb o e=>?_⟩
  ·have:a=n:=by simpa using ha
   rw[this];exact Int.le_refl _
  ·rw[b__ _ _ hSi];exact e
  ·obtain⟨o,e,r⟩:=hl2;exact⟨o,k4 _ _ hil hSl.symm e,r⟩
  ·obtain⟨q1,q2⟩:=lt1 b o e;exact kk b o q1 q2 (k4 b o q1 q2 (k3 _ _ e))
end EvM
namespace L2
open PySem PySem.Spec PyProof.Rows PySem.W
inductive tMaxDR (K:F__) (Q:VK) (vs:List V) (zs:List V) (H2:Hp):Prop
 |mk:∀(l:Addr) (ns:List Int) (d:Int),vs=[.ref l]->zs=[.int d]->SqL K H2 l (ns.map V.int)->(∀m,(ns=[]/\m=d∨m∈ns/\∀a∈ns,a<=m)->Q (.int m) H2)->tMaxDR K Q vs zs H2
def tMaxD(K:F__)(t tk:TA):TE:=λσ H Q=>t σ H λvs H1=>tk σ H1 λzs H2=>tMaxDR K Q vs zs H2
variable{X:Cx}
theorem iY_{e v:Expr}{t tk:TA}{p pos kp:Pos}(hc:X.calm=true)(hg:Gl X "max")(hm:X.mg "max"=none)(ha:PA X [e] t)(hkw:PK X [⟨some "default",v,kp⟩] tk)(he:starEach [e] X.env=[(false,eval e X.env)]:=by rfl)(hall:(backToKw pos (keywordEach [⟨some "default",v,kp⟩] X.env)).all (·.1.isSome)=true:=by rfl)(hks:(backToKw pos (keywordEach [⟨some "default",v,kp⟩] X.env)).filterMap (·.1)=[Str.ofString "default"]:=by rfl)(hkn:(backToKw pos (keywordEach [⟨some "default",v,kp⟩] X.env)).any (·.1.isNone)=false:=by rfl):PE X (.Call (.Name "max" p) [e] [⟨some "default",v,kp⟩] pos) (tMaxD X.K t tk):=by
 intro pins s σ H Q I h;refine wpAny_Call_Name_kw (cx_ I hg hm PyProof.Rows.Boot.«max» ?_);have hA:=ha pos pins s σ H _ I h;rw[he] at hA ⊢;refine callWith_builtin_kwB (first:=[]) rfl hkn (evalArgs_kwB hall (thn hA λus s1 ⟨vs,H1,I1,r1,q1⟩=>?_));refine thn (hkw pos pins s1 σ H1 _ I1 q1) λws s2 ⟨zs,H2,I2,rz,l,ns,d,ev,ez,hl,qm⟩=>?_;subst ev ez;obtain⟨u,rfl,ru⟩:=Vals.one r1;obtain⟨dv,rfl,rd⟩:=Vals.one rz;cases ru;obtain⟨its,rv,pl,z⟩:=I2.list hl;rw[hks];exact EvM.max_dflt (I.ok.hd hc) rv pl.isList (λe h' k=>⟨.int d,H2,I2.kept (t':=s2.toks) k,rd,qm d (.inl ⟨e,rfl⟩)⟩) λm tm h' h1 h2 k=>⟨.int m,H2,I2.kept (t':=s2.toks) k,⟨tm,rfl⟩,qm m (.inr ⟨h1,h2⟩)⟩
theorem eE_:OpR X (binaryOp .FloorDiv) (rI (λ_ j=>0<j/\j<2 ^ 100) λi j=>.int (i / j)):=opI λi j _ _ _ _ _ hc q=>by
 have h1:(0:Int)<j:=hc.1;have h2:j<2 ^ 100:=hc.2;refine floordiv_int Z1 (by rw[Int.fdiv_eq_ediv_of_nonneg i Z1];exact q) (.inl (PyProof.noPylong_of_log2 ?_));have:j.natAbs.log2<100:=(Nat.log2_lt Z1).mpr Z1;omega
end L2
namespace Ev
open PySem L2
theorem iX_{a n:Int}(ha:0<a)(hn:0<n)(h2:n<=1000):lcmI a n<=a * 1000:=by
 unfold lcmI
 have g:0<(Int.gcd a n:Int):=by
  have:=Int.gcd_pos_of_ne_zero_right a (show n≠0 by omega);omega
 have k1:a / (Int.gcd a n:Int)<=a:=Int.ediv_le_self _ (aP' ha);have k0:0<=a / (Int.gcd a n:Int):=Int.ediv_nonneg (aP' ha) (aP' g);exact Int.mul_le_mul k1 h2 (aP' hn) (aP' ha)
theorem hS_:∀(ns:List Int) (a:Int),0<a->(∀n∈ns,0<n/\n<=1000)->ns.foldl lcmI a<=a * 1000 ^ ns.length
 |[],a,_,_=>by simp
 |n::ns,a,ha,h=>by
  have hn:=h n ak'
  have p:0<lcmI a n:=by
   have:=(ck_ [n] a ha (by simpa using hn.1)).1;exact this
  have k1:=hS_ ns (lcmI a n) p λm hm=>h m (af' _ hm);have k2:=iX_ ha hn.1 hn.2;have e:(0:Int)<=1000 ^ ns.length:=Int.pow_nonneg (by decide);rw[List.foldl_cons,aD',Int.pow_succ];refine Int.le_trans k1 ?_;have:=Int.mul_le_mul_of_nonneg_right k2 e;have e2:a * 1000 * 1000 ^ ns.length=a * (1000 ^ ns.length * 1000):=by grind
  rw[e2] at this;exact this
theorem i6_{hs:Xa}{ts:Xb}(G:Good hs ts):0<bu' hs/\bu' hs<2 ^ 100/\∀n∈aY' hs,bu' hs / strOf hs n * strOf hs n=bu' hs:=by
 have pos:∀m∈(aY' hs).map (strOf hs),0<m/\m<=1000:=λm hm=>by
  obtain⟨x,hx,rfl⟩:=ah'.mp hm;have:=gE_ G hx;omega
 have pos1:∀m∈(aY' hs).map (strOf hs),0<m:=λm hm=>(pos m hm).1;refine⟨de_ pos1,?_,λn hn=>Int.ediv_mul_cancel (ht_ pos1 (ah'.mpr ⟨_,hn,rfl⟩))⟩;have k:=hS_ _ 1 (by decide) pos;rw[aa',G.nlen,Int.one_mul] at k;have h8:=G.h8
 have k2:(1000:Int) ^ hs.length<=1000 ^ 8:=by
  have:(1000:Nat) ^ hs.length<=1000 ^ 8:=Nat.pow_le_pow_right (by decide) h8
  exact_mod_cast this
 have:bu' hs<=1000 ^ 8:=Int.le_trans k k2;have e:(1000:Int) ^ 8<2 ^ 100:=by decide
 omega
def IsRise(hs:Xa)(qs:List Pc)(f:Str->Str)(r:Int):Prop:=∃x∈aY' hs,∃y∈aY' hs,r=lvF hs qs f x - lvF hs qs f y/\∀z∈aY' hs,lvF hs qs f z<=lvF hs qs f x/\lvF hs qs f y<=lvF hs qs f z
def aV(hs:Xa)(qs:List Pc)(f:Str->Str)(t:Str × Str):Int:=if lvF hs qs f t.1 - lvF hs qs f t.2<0 then -(lvF hs qs f t.1 - lvF hs qs f t.2) else lvF hs qs f t.1 - lvF hs qs f t.2
def IsSteep(hs:Xa)(ts:Xb)(qs:List Pc)(f:Str->Str)(r:Int):Prop:=(tsOf ts=[]/\r=0)∨∃t∈tsOf ts,r=aV hs qs f t/\∀u∈tsOf ts,aV hs qs f u<=r
theorem js_{hs:Xa}{qs:List Pc}{f:Str->Str}{t:Str × Str}:0<=aV hs qs f t:=by
 unfold aV;split<;>omega
section
variable{P:Ad}{w:Af}{K:F__}{mg:Str->Option Aa}{base:Heap}
theorem scFrac2:aX' ["top","below","divisor"] ["top","below"] (aW' sFrac):=f__
def cE':Sp:=λvs H Q _=>∃a b:Int,vs=[.int a,.int b]/\0<=a/\0<b/\b<2 ^ 100/\∀t,H t=none->Q (.ref t) (upd H t (.tup [.int (fr a b).1,.int (fr a b).2]))
theorem ho_{f:Addr}{fd:Ae}(F:Fun K "fraction_of" "fraction_of" sFrac f fd)(cG:Cal P w K mg base 1 "greatest_divisor" ["one","other"] spGd):FnOk P w K mg base CX0 2 f fd ["top","below"] cE':=by
 refine F.ok scFrac2 (λvs H Q E h=>?_) (λcdv A outer s H vs Q E hr h=>?_)
 ·obtain⟨a,b,rfl,_⟩:=h;rfl
 ·obtain⟨a,b,rfl,ha,hb,hb2,k⟩:=h
  have g:0<(Int.gcd a b:Int)/\(Int.gcd a b:Int)<2 ^ 100:=by
   have h1:0<Int.gcd a b:=Int.gcd_pos_of_ne_zero_right a Z1;have h3:=Int.le_of_dvd hb (Int.gcd_dvd_right a b);omega
  refine⟨_,a3_ (ab_ (i:=2) scFrac2.nd rfl (Or.inl rfl) (af_ cG hr (a0_ (pv 0) (a0_ (pv 1) a2_)))) (a4_ (aa_ (aP_ (a0_ (al_ eE_ (pv 0) (pv 2)) (a0_ (al_ eE_ (pv 1) (pv 2)) a2_))))),?_⟩;refine⟨_,rfl,_,rfl,a,b,rfl,ha,hb,?_⟩;exact⟨_,rfl,_,rfl,_,_,rfl,rfl,g,_,rfl,_,rfl,_,_,rfl,rfl,g,by show 2<=sizeLine;decide,k⟩
theorem scRise:aX' ["goods","placed","levels"] ["goods","placed"] (aW' sRise):=f__
inductive dk' (K:F__) (CG CW:Addr) (vs:List V) (H:Hp) (Q:VK) (E:XK):Prop
 |mk:∀(g p d:Addr) (hs:Xa) (ts:Xb) (qs:List Pc) (fp:List Addr) (f:Str->Str),vs=[.ref g,.ref d]->by' K CG CW H g p d hs ts qs fp f->(∀q∈qs,0<=q.2.1/\q.2.1<=1000000000)->(∀r H',Same H H'->IsRise hs qs f r->Q (.int r) H')->dk' K CG CW vs H Q E
theorem iZ_{f CG CW:Addr}{fd:Ae}(F:Fun K "rise_at" "rise_at" sRise f fd)(B:Bi mg)(mMin:mg "min"=none)(cV:Cal P w K mg base 4 "levels_at" ["goods","placed"] (bp' K CG CW)):FnOk P w K mg base CX0 5 f fd ["goods","placed"] (dk' K CG CW):=by
 refine F.ok scRise (λvs H Q E h=>?_) (λcdv A outer s H vs Q E hr h=>?_)
 ·obtain⟨g,p,d,hs,ts,qs,fp,f,rfl,_⟩:=h;rfl
 ·obtain⟨g,p,d,hs,ts,qs,fp,f,rfl,Pl,wp,k⟩:=h;have nl:=Pl.Gd.nlen;have h1:=Pl.Gd.h1;refine' ⟨_,a3_ ?s1 (a4_ ?s2),?kk⟩
  case s1=>exact ab_ (i:=2) scRise.nd rfl (Or.inl rfl) (af_ cV hr (a0_ (pv 0) (a0_ (pv 1) a2_)))
  case s2=>exact aa_ (al_ gN_ (a8_ (gB_ rfl) (by rfl) B.max PyProof.Rows.Boot.«max» (a0_ (dY_ (pv 2)) a2_)) (a8_ (fY_ rfl) (by rfl) mMin PyProof.Rows.Boot.«min» (a0_ (dY_ (pv 2)) a2_)))
  case' kk=>skip
  refine⟨_,rfl,_,rfl,g,p,d,hs,ts,qs,fp,f,rfl,Pl,wp,λdv H1 s1 n1 e1=>?_⟩
  have em:((aY' hs).map λh=>((Sum.inr h:Key),lvF hs qs f h)).map (·.2)=(aY' hs).map (lvF hs qs f):=by
   rw[al'];rfl
  have ekv:mKV (aY' hs) (λh=>V.int (lvF hs qs f h))=((aY' hs).map λh=>((Sum.inr h:Key),lvF hs qs f h)).map λx=>(x.1,V.int x.2):=by
   rw[al'];rfl
  rw[ekv] at e1;refine⟨_,rfl,dv,_,rfl,e1,λv hv=>?_⟩;obtain⟨s2,ev⟩:=nw__ (o:=bj' v dv) hv;generalize upd H1 v (bj' v dv)=H2 at s2 ev ⊢;refine⟨v,dv,(aY' hs).map λh=>((Sum.inr h:Key),lvF hs qs f h),rfl,ev,.of (s2 _ _ e1),by rw[aa'];omega,λm hm mx=>?_⟩;rw[em] at hm mx;refine⟨_,rfl,dv,_,rfl,s2 _ _ e1,λv2 hv2=>?_⟩;obtain⟨s3,ev2⟩:=nw__ (o:=bj' v2 dv) hv2;generalize upd H2 v2 (bj' v2 dv)=H3 at s3 ev2 ⊢;refine⟨v2,dv,(aY' hs).map λh=>((Sum.inr h:Key),lvF hs qs f h),rfl,ev2,.of (s3 _ _ (s2 _ _ e1)),by rw[aa'];omega,λm2 hm2 mn=>?_⟩;rw[em] at hm2 mn;obtain⟨x,hx,rfl⟩:=ah'.mp hm;obtain⟨y,hy,rfl⟩:=ah'.mp hm2;exact⟨_,_,rfl,rfl,k _ H3 (s1.trans (s2.trans s3)) ⟨x,hx,y,hy,rfl,λz hz=>⟨mx _ (ah'.mpr ⟨z,hz,rfl⟩),mn _ (ah'.mpr ⟨z,hz,rfl⟩)⟩⟩⟩
theorem dr':aX' ["goods","placed"] ["goods","placed"] (aW' b5'):=f__
inductive bo' (K:F__) (CG CW:Addr) (vs:List V) (H:Hp) (Q:VK) (E:XK):Prop
 |mk:∀(g p d:Addr) (hs:Xa) (ts:Xb) (qs:List Pc) (fp:List Addr) (f:Str->Str),vs=[.ref g,.ref d]->by' K CG CW H g p d hs ts qs fp f->(∀q∈qs,0<=q.2.1/\q.2.1<=1000000000)->(∀t r H',Same H H'->IsRise hs qs f r->H' t=some (.tup [.int (fr r (bu' hs)).1,.int (fr r (bu' hs)).2])->Q (.ref t) H')->bo' K CG CW vs H Q E
theorem en_{f CG CW:Addr}{fd:Ae}(F:Fun K "spread_at" "spread_at" b5' f fd)(T:TxtG K CG)(cR:Cal P w K mg base 5 "rise_at" ["goods","placed"] (dk' K CG CW))(cM:Cal P w K mg base 3 "multiple_of_strengths" ["web"] (cn' K CW))(cF:Cal P w K mg base 2 "fraction_of" ["top","below"] cE'):FnOk P w K mg base CX0 6 f fd ["goods","placed"] (bo' K CG CW):=by
 refine F.ok dr' (λvs H Q E h=>?_) (λcdv A outer s H vs Q E hr h=>?_)
 ·obtain⟨g,p,d,hs,ts,qs,fp,f,rfl,_⟩:=h;rfl
 ·obtain⟨g,p,d,hs,ts,qs,fp,f,rfl,Pl,wp,k⟩:=h;have mo:=i6_ Pl.Gd;refine⟨_,a4_ (aa_ (af_ cF (hr.mono (by decide)) (a0_ (af_ cR hr (a0_ (pv 0) (a0_ (pv 1) a2_))) (a0_ (af_ cM (hr.mono (by decide)) (a0_ (aO_ (pv 0) rfl) a2_)) a2_)))),?_⟩;refine⟨_,rfl,_,rfl,g,p,d,hs,ts,qs,fp,f,rfl,Pl,wp,λr H1 s1 ir=>?_⟩;have G1:=Pl.G.same s1;obtain⟨dx,dw,dy,vs,fpw,h1,h2,_⟩:=id G1.ex;refine⟨_,rfl,g,CG,dx,_,_,rfl,h1,T.cl,T.nW,aW_ _ _ _,p,hs,ts,fpw,rfl,h2,Pl.Gd,λH2 s2=>?_⟩
  have r0:0<=r:=by
   obtain⟨x,hx,y,hy,rfl,b⟩:=ir;have:=(b y hy).1;omega
  exact⟨r,bu' hs,rfl,r0,mo.1,mo.2.1,λt ht=>k t r _ ((s1.trans s2).trans (Same.new ht)) ir a1_⟩
theorem c7':aX' ["goods","stand"] ["goods","stand"] (aW' cM'):=f__
inductive b3' (K:F__) (CG CW:Addr) (vs:List V) (H:Hp) (Q:VK) (E:XK):Prop
 |mk:∀(g p d:Addr) (hs:Xa) (ts:Xb) (qs:List Pc) (fp:List Addr) (ns:List Str) (f:Str->Str),vs=[.ref g,.ref d]->Std K CG CW H g p d hs ts qs fp ns f->(∀q∈qs,0<=q.2.1/\q.2.1<=1000000000)->(∀t r H',Same H H'->IsRise hs qs f r->H' t=some (.tup [.int (fr r (bu' hs)).1,.int (fr r (bu' hs)).2])->Q (.ref t) H')->b3' K CG CW vs H Q E
theorem fR_{f CG CW:Addr}{fd:Ae}(F:Fun K "spread" "spread" cM' f fd)(cC:Cal P w K mg base 2 "checked_stand" ["goods","stand"] (be' K CG CW))(cL:Cal P w K mg base 6 "spread_at" ["goods","placed"] (bo' K CG CW)):FnOk P w K mg base CX0 7 f fd ["goods","stand"] (b3' K CG CW):=by
 refine F.ok c7' (λvs H Q E h=>?_) (λcdv A outer s H vs Q E hr h=>?_)
 ·obtain⟨g,p,d,hs,ts,qs,fp,ns,f,rfl,_⟩:=h;rfl
 ·obtain⟨g,p,d,hs,ts,qs,fp,ns,f,rfl,S,wp,k⟩:=h;refine⟨_,a4_ (aa_ (af_ cL hr (a0_ (pv 0) (a0_ (af_ cC (hr.mono (by decide)) (a0_ (pv 0) (a0_ (pv 1) a2_))) a2_)))),?_⟩;refine⟨_,rfl,_,rfl,_,rfl,g,p,d,hs,ts,qs,fp,ns,f,rfl,S.G,S.dfp,S.hd,S.ok,S.nd,S.h64,λd1 H1 s1 n1 e1=>?_⟩;obtain⟨fp',Pl⟩:=S.placed s1 n1 e1;exact⟨g,p,d1,hs,ts,qs,fp',f,rfl,Pl,wp,λt r H2 s2 ir e=>k t r H2 (s1.trans s2) ir e⟩
abbrev cpS:List Str:=["one","other","levels"]
theorem b4':aX' ["goods","stand","levels","above"] ["goods","stand"] (aW' db'):=f__
inductive cK' (K:F__) (CG CW:Addr) (vs:List V) (H:Hp) (Q:VK) (E:XK):Prop
 |mk:∀(g p d:Addr) (hs:Xa) (ts:Xb) (qs:List Pc) (fp:List Addr) (ns:List Str) (f:Str->Str),vs=[.ref g,.ref d]->Std K CG CW H g p d hs ts qs fp ns f->(∀q∈qs,0<=q.2.1/\q.2.1<=1000000000)->(∀t r H',Same H H'->IsSteep hs ts qs f r->H' t=some (.tup [.int (fr r (bu' hs)).1,.int (fr r (bu' hs)).2])->Q (.ref t) H')->cK' K CG CW vs H Q E
theorem hy_{f CG CW:Addr}{fd:Ae}(F:Fun K "steepest" "steepest" db' f fd)(B:Bi mg)(mAbs:mg "abs"=none)(T:TxtG K CG)(TW:Txt K mg CW)(cC:Cal P w K mg base 2 "checked_stand" ["goods","stand"] (be' K CG CW))(cV:Cal P w K mg base 4 "levels_at" ["goods","placed"] (bp' K CG CW))(cT:CalM P w K mg base CW 2 "ties" ["self"] (cJ' K CW))(cM:Cal P w K mg base 3 "multiple_of_strengths" ["web"] (cn' K CW))(cF:Cal P w K mg base 2 "fraction_of" ["top","below"] cE'):FnOk P w K mg base CX0 5 f fd ["goods","stand"] (cK' K CG CW):=by
 refine F.ok b4' (λvs H Q E h=>?_) (λcdv A outer s H vs Q E hr h=>?_)
 ·obtain⟨g,p,d,hs,ts,qs,fp,ns,f,rfl,_⟩:=h;rfl
 ·obtain⟨g,p,d,hs,ts,qs,fp,ns,f,rfl,S,wp,k⟩:=h;have hu:=b2_ hr;have sz:=b_1;have mo:=i6_ S.Gd;have hr2:Room 2 _:=hr.mono (by decide);refine' ⟨_,a3_ ?s1 (a3_ ?s2 (a4_ ?s3)),?kk⟩
  case s1=>exact ab_ (i:=2) b4'.nd rfl (Or.inr rfl) (af_ cV hr (a0_ (pv 0) (a0_ (af_ cC hr2 (a0_ (pv 0) (a0_ (pv 1) a2_))) a2_)))
  case' s2=>refine' ei_ (i:=3) cpS 2 [2] b4'.nd rfl (Or.inl rfl) (au_ (e2_ cT TW.cl hr2 (aO_ (pv 0) rfl))) ?u1 (λfp s H=>aX_) ?u3
  case u1=>exact λfp s H=>cr_ (n:=2) (ae_ (a9_ (i:=0) (show cpS.Nodup by decide +kernel) rfl (Or.inl rfl)) (ae_ (a9_ (i:=1) (show cpS.Nodup by decide +kernel) rfl (Or.inl rfl)) aN_))
  case u3=>exact λfp s H=>a8_ hr_ (by rfl) mAbs PyProof.Rows.Boot.«abs» (a0_ (al_ gN_ (b8_ hu (pv 2) (pv 0) (λ_ _=>rfl)) (b8_ hu (pv 2) (pv 1) (λ_ _=>rfl))) a2_)
  case s3=>exact aa_ (af_ cF hr2 (a0_ (iY_ rfl (by rfl) B.max (a0_ (pv 3) a2_) (ib_ a6_ j8_)) (a0_ (af_ cM (hr.mono (by decide)) (a0_ (aO_ (pv 0) rfl) a2_)) a2_)))
  case' kk=>skip
  refine⟨_,rfl,_,rfl,_,rfl,g,p,d,hs,ts,qs,fp,ns,f,rfl,S.G,S.dfp,S.hd,S.ok,S.nd,S.h64,λd1 H1 s1 n1 e1=>?_⟩;obtain⟨fp',Pl⟩:=S.placed s1 n1 e1;refine⟨g,p,d1,hs,ts,qs,fp',f,rfl,Pl,wp,λdv H2 s2 n2 e2=>?_⟩;have so2:=s1.trans s2;have G2:=S.G.same so2;obtain⟨dx,dw,dy,vs,fpw,h1,h2,_⟩:=id G2.ex;obtain⟨dxw,d1',l2,d3,zs0,as,ef,w1,_⟩:=id h2.ex;refine⟨_,rfl,g,CG,dx,_,_,rfl,h1,T.cl,T.nW,aW_ _ _ _,p,dxw,_,rfl,w1,aS_ _ _ _ Z0 Z0 Z0,p,hs,ts,fpw,rfl,h2,S.Gd.t64,λlt zt H3 s3 nt e3 tt=>?_⟩;have ltz:=a_4 tt;rw[aa',dn_] at ltz;have t64:=S.Gd.t64
  have tin:∀t∈tsOf ts,t.1∈aY' hs/\t.2∈aY' hs:=λt ht=>by
   obtain⟨u,hu,e⟩:=cD'.mp ht;have:=S.Gd.tin u hu;have a1:=(aL_ hs).mem_iff.mpr this.1;have a2:=(aL_ hs).mem_iff.mpr this.2;rcases cF_ u.1 u.2 with z|z
   ·rw[z] at e;rw[<- e];exact⟨a1,a2⟩
   ·rw[z] at e;rw[<- e];exact⟨a2,a1⟩
  refine⟨lt,rfl,⟨_,.of e3⟩,λD hD=>?_⟩;refine aJ_ (own:=2) (fv:=[some (.ref dv)]) (xs:=zt) rfl gok2 (λi out H'=>Same H3 H'/\H' D=some (.lst out)/\out=(((tsOf ts).take i).map (aV hs qs f)).map V.int) ⟨Same.new hD,a1_,rfl⟩ (λi out H' _ ⟨sm,_,_⟩=>.of (sm _ _ e3)) (λout H4 ⟨s4,hD4,eo⟩=>?_) (λi y out H' hy ⟨sm,hD',eo⟩=>?_);rotate_left 1
  ·have hi:i<zt.length:=(ac'.mp hy).1;obtain⟨t,ht,a,rfl,ha⟩:=aG_ tt hy;have tn:=tin t (ad' ht);have ha:=hpT (sm _ _ ha);have e2':=(s3.trans sm) _ _ e2;refine⟨_,⟨a,_,_,rfl,.of ha,rfl⟩,rfl,λNx hN=>yesT ?_⟩;refine⟨_,rfl,_,rfl,dv,.int (lvF hs qs f t.1),rfl,?_,_,rfl,_,rfl,dv,.int (lvF hs qs f t.2),rfl,?_,_,_,rfl,rfl,_,rfl,out,hD',by rw[eo,aa',aa',ai'];omega,hN _ _ ⟨az_ sm hD,a1_,?_⟩⟩
   ·rw[<- bI_ (g:=λh=>V.int (lvF hs qs f h)) tn.1];exact .k (k:=Sum.inr t.1) e2'
   ·rw[<- bI_ (g:=λh=>V.int (lvF hs qs f h)) tn.2];exact .k (k:=Sum.inr t.2) e2'
   ·rw[au',ht,ap',ap',eo];rfl
  rw[ltz,<- dn_,ar'] at eo;rw[eo] at hD4;refine⟨_,rfl,D,_,0,rfl,rfl,.of hD4,λm hm=>?_⟩;have so4:=so2.trans (s3.trans s4);have G4:=S.G.same so4;obtain⟨dx,dw,dy,vs,fpw,h1,h2,_⟩:=id G4.ex;refine⟨_,rfl,g,CG,dx,_,_,rfl,h1,T.cl,T.nW,aW_ _ _ _,p,hs,ts,fpw,rfl,h2,S.Gd,λH5 s5=>?_⟩
  have ir:IsSteep hs ts qs f m:=by
   rcases hm with⟨e,rfl⟩|⟨hm,mx⟩
   ·exact .inl ⟨List.map_eq_nil_iff.mp e,rfl⟩
   ·obtain⟨t,ht,rfl⟩:=ah'.mp hm;exact .inr ⟨t,ht,rfl,λu hu=>mx _ (ah'.mpr ⟨u,hu,rfl⟩)⟩
  have m0:0<=m:=by
   rcases ir with⟨_,rfl⟩|⟨t,_,rfl,_⟩
   ·decide
   ·exact js_
  exact⟨m,bu' hs,rfl,m0,mo.1,mo.2.1,λt ht=>k t m _ ((so4.trans s5).trans (Same.new ht)) ir a1_⟩
end
end Ev
namespace L2
open PySem PySem.Spec PyProof.Rows
open PySem.Builtin PySem.Builtin.Str
open PySem.W
end L2
namespace EvD
open PySem PySem.W PyProof.Rows
variable{d:Addr}{es:Array Ag}{ep:Nat}{key:Aa}{hv:Int}{Q:Option Nat->Ab->Prop}{prog:Ad}{w:Af}{A:Ah}{E:Aa->Ab->Prop}{s:Ab}
theorem dX_(x:Raw s.heap d es ep)(hns:∀x t,key≠.str x t)(hb:carriedByValue key=true)(he:∀e∈es,carriedByValue e.key=true/\SeqAt.EqAt A s e.key key false)(q:Q none s):wpAny (model prog w) A (dictFind d key hv) Q E s:=by
 obtain⟨o,ho,hc,hd⟩:=x
 have hall:((key::(placesWithHash es.size (λi=>es[i]?.map (·.hash)) hv).filterMap λi=>es[i]?.map (·.key)).all carriedByValue)=true:=by
  rw[List.all_cons,List.all_eq_true.mpr,Bool.and_true]
  ·exact hb
  ·intro v hv;obtain⟨i,_,hi⟩:=ay'.mp hv;cases he':es[i]? with
   |none=>rw[he'] at hi;cases hi
   |some e=>
    rw[he'] at hi;obtain rfl:e.key=v:=by simpa using hi
    exact (he e (Array.mem_of_getElem? he')).1
 unfold dictFind
 try with_reducible refine b_3 ?_
 refine a__ (wpAny_dictEntries ho hd ?_);dsimp only;rw[a_8 hall]
 have old:wpAny (model prog w) A (dictWalkPlain d key hv es (placesWithHash es.size (λi=>es[i]?.map (·.hash)) hv)) Q E s:=by
  refine a__ ?_;refine wpAny_forIn_list _ (λrest b s'=>s'=s/\b=(none,())) _ ?_ ?_ _ _ ⟨rfl,rfl⟩
  ·rintro x rest b s' ⟨rfl,rfl⟩;cases hx:es[x]? with
   |none=>exact a_1 ⟨rfl,rfl⟩
   |some e=>
    dsimp only;by_cases hh:(e.hash == hv)=true
    ·rw[a_8 hh];refine a__ (wpAny_dictEpoch ho hd (a__ ((he e (Array.mem_of_getElem? hx)).2 _ _ _ _ (a__ (wpAny_dictEpoch ho hd ?_)))));show wpAny _ _ (if (ep != ep)=true then _ else _) _ E _;rw[a_6 Z2];exact a__ (wpAny_rule (a_1 ⟨rfl,rfl⟩))
    ·rw[a_6 hh];exact a_1 ⟨rfl,rfl⟩
  ·rintro b s' ⟨rfl,rfl⟩;exact a_1 q
 split
 next x t=>exact absurd rfl (hns x t)
 next=>exact old
theorem dL_{a:Addr}{K:Type}[DecidableEq K]{knd:KeyKind prog w K}{ks:List K}(x:Raw s.heap d es ep)(hk:IsTupleKey knd s.heap ks a)(he:∀e∈es,carriedByValue e.key=true/\SeqAt.EqAt A s e.key (.ref a) false)(q:Q none s):wpAny (model prog w) A (dictFind d (.ref a) hv) Q E s:=by
 obtain⟨o,ho,hc,hd⟩:=x
 have hany:¬(es.any λe=>e.key == Value.ref a&&e.hash != hv)=true:=by
  rw[<- Array.any_toList,List.any_eq_true];rintro⟨e,hin,hc⟩;rw[aR'] at hc;have hc1:e.key=Value.ref a:=eq_of_beq hc.1;have:=(he e (Array.mem_toList_iff.mp hin)).1;rw[hc1] at this;cases this
 have hst:∀v∈(placesWithHash es.size (λi=>es[i]?.map (·.hash)) hv).filterMap (λi=>es[i]?.map (·.key)),carriedByValue v=true:=by
  intro v hv;obtain⟨i,_,hi⟩:=ay'.mp hv;cases hei:es[i]? with
  |none=>rw[hei] at hi;cases hi
  |some e=>
   rw[hei] at hi;obtain rfl:e.key=v:=by simpa using hi
   exact (he e (Array.mem_of_getElem? hei)).1
 have hone:¬(((placesWithHash es.size (λi=>es[i]?.map (·.hash)) hv).filterMap (λi=>es[i]?.map (·.key))) == [Value.ref a])=true:=by
  intro z;have z:_=[Value.ref a]:=eq_of_beq z;have:=hst (Value.ref a) (by rw[z];simp);cases this
 have hmay:∀{Q':Bool->Ab->Prop},Q' false s->wpAny (model prog w) A (tableMayTell (.ref a) ((placesWithHash es.size (λi=>es[i]?.map (·.hash)) hv).filterMap (λi=>es[i]?.map (·.key)))) Q' E s:=by
  intro Q' q';unfold tableMayTell;split
  ·exact a_1 q'
  ·refine a__ (wpAny_eqIsQuiet_tuple hk ?_);simp only[Bool.not_true,aM',if_false];refine a__ ?_;refine wpAny_forIn_list _ (λrest r s'=>s'=s/\r=(none,())/\∀v∈rest,carriedByValue v=true) _ ?_ ?_ _ _ ⟨rfl,rfl,hst⟩
   ·rintro x rest r s' ⟨rfl,rfl,hr⟩;rw[eqIsQuiet_byValue _ (hr x ak')];refine a__ (a_1 ?_);simp only[Bool.not_true,aM',if_false];exact a_1 ⟨rfl,rfl,λv hv=>hr v (af' _ hv)⟩
   ·rintro r s' ⟨rfl,rfl,_⟩;exact a_1 q'
 unfold dictFind
 try with_reducible refine b_3 ?_
 refine a__ (wpAny_dictEntries ho hd ?_);dsimp only;rw[a_6 (show ¬((Value.ref a::(placesWithHash es.size (λi=>es[i]?.map (·.hash)) hv).filterMap (λi=>es[i]?.map (·.key))).all carriedByValue)=true by simp[carriedByValue])];rw[a_6 hany];rw[a_6 hone];refine a__ (hmay ?_);rw[a_6 Z2];refine a__ ?_;refine wpAny_forIn_list _ (λrest b s'=>s'=s/\b=(none,none)) _ ?_ ?_ _ _ ⟨rfl,rfl⟩
 ·rintro x rest b s' ⟨rfl,rfl⟩;cases hx:es[x]? with
  |none=>exact a_1 ⟨rfl,rfl⟩
  |some e=>
   dsimp only;by_cases hh:(e.hash == hv)=true
   ·rw[a_8 hh];refine a__ (wpAny_dictEpoch ho hd (a__ ((he e (Array.mem_of_getElem? hx)).2 _ _ _ _ (a__ (wpAny_dictEpoch ho hd ?_)))));show wpAny _ _ (if (ep != ep)=true then _ else _) _ E _;rw[a_6 Z2];simp only[aM',if_false];refine a__ (wpAny_rule ?_)
    first|rw[a_6 Z2]|skip
    first
     |exact a_1 ⟨rfl,rfl⟩
     |exact a__ (a_1 (a_1 ⟨rfl,rfl⟩))
   ·rw[a_6 hh];exact a_1 ⟨rfl,rfl⟩
 ·rintro b s' ⟨rfl,rfl⟩;exact a_1 q
theorem em_{Q:Int->Ab->Prop}(q:∀tk,Q 0xFCA86420 { s with toks:=tk }):wpAny (model prog w) A (pyHash .none) Q E s:=by
 unfold pyHash;have hv:[Value.none].any Value.onHeap=false:=rfl;refine a__ ?_;rw[cRoomFor,a_6 (by rw[hv];exact am')];refine a_1 ?_;refine a__ (wpAny_specialOf (typeIs_none s) F.slot_NoneType_hash.lookup ?_);show wpAny _ _ (if (some (Value.builtin "NoneType.__hash__") == some Value.none)=true then _ else _) Q E s;rw[a_6 (by rw[beq_builtin_none];exact am')];refine a__ (wpAny_specialOf (typeIs_none s) F.slot_NoneType_hash.lookup ?_);show wpAny _ _ (callSpecialIfBoundUnlessNone? .none "__hash__" _ >>= _) Q E s
 refine a__ (wpAny_callSpecialIfBoundUnlessNone?_slot (typeIs_none s) F.slot_NoneType_hash
  (wpAny_call_entry F.slot_NoneType_hash (typeIs_none s) F.entry_NoneType_hash ?_ (F.args_NoneType_hash_1 _)))
 refine a__ (?_:wpAny _ _ (slotArgs "__hash__" 0 ⟨[.none],[]⟩) _ _ s);unfold slotArgs;refine wpAny_ite_false rfl (wpAny_ite_false rfl (a_1 ?_));show wpAny _ _ (do ret (<- mkInt 0xFCA86420)) _ _ s;refine wpAny_ret_mkInt ?_;exact a_1 (q _)
theorem bL_{v:Aa}{Q:Unit->Ab->Prop}(x:Raw s.heap d es ep)(hz:es.size<sizeLine)(hh:∀Q':Int->Ab->Prop,(∀tk,Q' hv { s with toks:=tk })->wpAny (model prog w) A.in1 (pyHash key) Q' E s)(hf:∀tk (Q':Option Nat->Ab->Prop),Q' none { s with toks:=tk }->wpAny (model prog w) A.in1 (dictFind d key hv) Q' E { s with toks:=tk })(q:∀h' tk,Raw h' d (es.push ⟨hv,key,v⟩) (ep+1)->Heap.SameBut d s.heap h'->Q () { s with heap:=h',toks:=tk }):wpAny (model prog w) A (setItem (.ref d) key v) Q E s:=by
 unfold setItem
 try with_reducible refine b_3 ?_
 refine a__ (wpAny_sequenceKey x.ty (by decide) ?_);refine a__ (wpAny_callSpecial?_slot (name:=Str.ofString "__setitem__") x.ty slot_dict_setitem (wpAny_call_entry slot_dict_setitem x.ty entry_dict_setitem ?_ (args_dict_setitem _ _ _)));show wpAny _ _ (Builtin.Dict.notOrdered "__setitem__" ⟨[.ref d,key,v],[]⟩ >>= _) _ _ s;refine a__ (wpAny_notOrdered_dict x.ty ?_);show wpAny _ _ (dictSet d key v >>= _) _ _ s;refine a__ ?_;obtain⟨o,ho,hc,hd⟩:=id x;unfold dictSet
 try with_reducible refine b_3 ?_
 refine a__ (hh _ λtk=>?_);unfold dictSetHashed
 try with_reducible refine b_3 ?_
 refine a__ (hf tk _ ?_);refine a__ (wpAny_rule (wpAny_updateDictKeys (hz:=by omega) (s:={ s with toks:=tk }) ho hd ?_));exact a_1 ⟨.none,rfl,a_1 (q _ tk ⟨_,c_4 _ ho (Obj.isFreed_of_dict (Obj.data_mapDictKeys hd _)),hc.mapDictKeys _,Obj.data_mapDictKeys hd _⟩ (Heap.SameBut.update ..))⟩
theorem gy_(hd:(d == sysModules)=false):MeetsIn prog w (Builtin.«dict.items» ⟨[.ref d],[]⟩) (λ_ R s=>(∃es ep,Raw s.heap d es ep)/\R (.ok (.ret (.ref s.heap.objs.size))) { s with heap:=s.heap.push { cls:=.type "dict_items",data:=.fields #[.ref d] } }):=
 .of_wp λA R s ⟨⟨es,ep,hm⟩,h⟩=>by
  unfold Builtin.«dict.items»;refine a__ ?_;unfold Builtin.Dict.noArgs;refine a__ (wpAny_notOrdered_dict hm.ty ?_);show wpAny _ _ (pure d) _ _ s;refine a_1 ?_;show wpAny _ _ (Builtin.Dict.showsAll d >>= _) _ _ s;unfold Builtin.Dict.showsAll;rw[a_6 (by rw[hd];exact am')];refine a__ (a_1 ?_);exact a__ (b_6 (a_1 ⟨_,rfl,h⟩))
theorem cO_{v:Addr}{Q:Aa->Ab->Prop}(hv:s.heap.IsItemsView v d)(hm:Raw s.heap d es ep)(hQ:Q (.ref s.heap.objs.size) { s with heap:=s.heap.push { cls:=.type "dict_itemiterator",data:=.fields #[.none,.bool false,.ref d,.int 0 0,.int es.size 0,.int ep 0,.none,.none] } }) :
  wpAny (model prog w) A (pyIter (.ref v)) Q E s:=by
 obtain⟨ov,hov,hcv,hdv⟩:=id hv;obtain⟨o,ho,hc,hdat⟩:=id hm;refine wpAny_pyIter_slot hv.typeIs F.slot_dict_items_iter (wpAny_call_entry F.slot_dict_items_iter hv.typeIs F.entry_dict_items_iter ?_ (F.args_dict_items_iter_1 _));unfold Builtin.«dict_items.__iter__»;refine a__ (a_1 ?_);refine a__ ?_;unfold Builtin.Dict_items.dictOf;refine a__ (wpAny_field hov hdv (x:=.ref d) rfl (a_1 ?_));refine a__ ?_;unfold Builtin.Dict_items.newIterator;refine a__ (wpAny_dictEntries ho hdat ?_);refine a__ (wpAny_dictEpoch ho hdat ?_);have hown:Builtin.Dict_items.ownsTuple "dict_itemiterator"=true:=by decide
 simp only[hown,if_true]
 refine b_6 (a_1 ⟨_,rfl,"dict_itemiterator",_,⟨_,a_3 _ rfl,rfl⟩,F.slot_dict_itemiterator_next.lookup,?_⟩)
  (by simp only[sizeOk,Builtin.Dict_items.ownedTupleFields,ag',av',aD',List.length_nil,b_1];omega)
 simpa [rawInt,Builtin.Dict_items.ownedTupleFields] using hQ
theorem cM_{it:Addr}{i:Nat}{ok ov:Aa}{Q:Option Aa->Ab->Prop}(hit:IsItemIter s.heap it d i es.size ep ok ov)(hm:Raw s.heap d es ep)(hlt':i<es.size)(hQ:∀h',IsItemIterOut h' it d (i+1) es.size ep es[i].key es[i].val s.heap.objs.size->
   h'.get? s.heap.objs.size=some { cls:=.type "tuple",data:=.seq #[es[i].key,es[i].val] }->h'.objs.size=s.heap.objs.size+1->
   (∀b o,b≠it->s.heap.get? b=some o->h'.get? b=some o)->Q (some (.ref s.heap.objs.size)) { s with heap:=h' }) :
  wpAny (model prog w) A (pyNext (.ref it)) Q E s:=by
 obtain⟨hp,g,dr,tk,os⟩:=s;obtain⟨od,hod,hcd,hdd⟩:=id hm;have hT:Shared.TypeIs ⟨hp,g,dr,tk,os⟩ (.ref it) "dict_itemiterator":=⟨_,hit,rfl⟩;unfold pyNext
 refine a__ (wpAny_attempt (wpAny_callSpecial?_slot (name:=Str.ofString "__next__") hT F.slot_dict_itemiterator_next
  (wpAny_call_entry F.slot_dict_itemiterator_next hT F.entry_dict_itemiterator_next ?_ (F.args_dict_itemiterator_next_1 _))))
 refine a__ (a_1 ?_);refine a__ ?_;refine a__ ?_
 first|refine a__ (wpAny_typeNameOfWhole_itemiter hT (a_1 ?_))|refine a__ (wpAny_typeNameOf_itemiter hT (a_1 ?_))
 refine a__ (wpAny_fieldsOf hit rfl ?_);have hown:Builtin.Dict_items.ownsTuple "dict_itemiterator"=true:=by decide
 simp only[hown,if_true];show wpAny _ _ (if (Value.ref d == Value.none)=true then _ else _) _ _ _;rw[a_6 (show ¬((Value.ref d == Value.none)=true) from am')];refine a__ (a_1 ?_);refine a__ (wpAny_dictEntries hod hdd ?_);rw[a_6 Z2];refine a__ (a_1 ?_);refine a__ (wpAny_dictEpoch hod hdd ?_);rw[a_6 Z2];refine a_1 ?_;simp only[show ¬((i:Int)<0) from by omega,if_false,aT',Array.getElem?_eq_getElem hlt'];refine a__ ?_
 first|refine a__ (wpAny_typeNameOfWhole_itemiter hT (a_1 ?_))|refine a__ (wpAny_typeNameOf_itemiter hT (a_1 ?_))
 refine a__ (wpAny_isOneOf_itemiter hT ?_);show wpAny _ _ (setField (.ref it) 3 (rawInt ((i:Int)+1)) >>= _) _ _ ⟨hp,g,dr,tk,os⟩;refine a__ (wpAny_setField_rec hit Z2 λh₁ he₁ hs₁=>?_);replace hs₁:Heap.SameBut it hp h₁:=hs₁
 replace he₁:IsItemIter h₁ it d (i+1) es.size ep ok ov:=by
  have e:((i+1:Nat):Int)=(i:Int)+1:=by omega
  unfold IsItemIter;rw[e];simpa [rawInt] using he₁
 have hT₁:Shared.TypeIs ⟨h₁,g,dr,tk,os⟩ (.ref it) "dict_itemiterator":=⟨_,he₁,rfl⟩;refine a__ (b_3 ?_);refine a__ (wpAny_isOneOf_itemiter hT₁ ?_);refine a__ (wpAny_isOneOf_itemiter hT₁ ?_);show wpAny _ _ (Builtin.Dict_items.pairFromOwner (.ref it) 6 es[i].key es[i].val) _ _ ⟨h₁,g,dr,tk,os⟩;unfold Builtin.Dict_items.pairFromOwner;refine a__ (wpAny_newTuple ?_);have he₂:IsItemIter (h₁.push { cls:=.type "tuple",data:=.seq #[es[i].key,es[i].val] }) it d (i+1) es.size ep ok ov:=a_0 _ he₁;generalize hh₂:h₁.push { cls:=.type "tuple",data:=.seq #[es[i].key,es[i].val] }=h₂ at he₂;have hz₁:h₁.objs.size=hp.objs.size:=hs₁.1;have hil:it<hp.objs.size:=a_2 hit;have ht₂:h₂.get? hp.objs.size=some { cls:=.type "tuple",data:=.seq #[es[i].key,es[i].val] }:=by rw[<- hh₂,<- hz₁];exact a_3 _ rfl
 have hz₂:h₂.objs.size=hp.objs.size+1:=by rw[<- hh₂,Heap.size_push,hz₁]
 have hk₂:∀b o,b≠it->hp.get? b=some o->h₂.get? b=some o:=λb o hb e=>by rw[<- hh₂];exact a_0 _ (hs₁.extBut b o hb e)
 show wpAny _ _ (Builtin.Dict_items.ownedTupleIsFree (.ref it) >>= _) _ _ ⟨h₂,g,dr,tk,os⟩;rw[hz₁];clear hh₂ he₁ hs₁ hT₁ hz₁ h₁;refine a__ ?_;unfold Builtin.Dict_items.ownedTupleIsFree;refine a__ (wpAny_field he₂ rfl (x:=.none) rfl (a_1 ?_));simp only[if_true];refine a__ (wpAny_field he₂ rfl (x:=ok) rfl ?_);refine a__ (wpAny_field he₂ rfl (x:=ov) rfl ?_);refine a__ (wpAny_setField_rec he₂ Z2 λh₃ he₃ hs₃=>?_);replace hs₃:Heap.SameBut it h₂ h₃:=hs₃;replace he₃:IsItemIter h₃ it d (i+1) es.size ep es[i].key ov:=he₃;refine a__ (wpAny_setField_rec he₃ Z2 λh₄ he₄ hs₄=>?_);replace hs₄:Heap.SameBut it h₃ h₄:=hs₄;replace he₄:IsItemIter h₄ it d (i+1) es.size ep es[i].key es[i].val:=he₄;refine a__ (wpAny_setField_rec he₄ Z2 λh₅ he₅ hs₅=>?_);replace hs₅:Heap.SameBut it h₄ h₅:=hs₅;replace he₅:IsItemIterOut h₅ it d (i+1) es.size ep es[i].key es[i].val hp.objs.size:=he₅;refine a__ (wpAny_setField_rec he₅ Z2 λh₆ he₆ hs₆=>?_);replace hs₆:Heap.SameBut it h₅ h₆:=hs₆;replace he₆:IsItemIterOut h₆ it d (i+1) es.size ep es[i].key es[i].val hp.objs.size:=he₆;refine a__ (wpAny_letGo (a_1 (a_1 ⟨_,rfl,a_1 (hQ h₆ he₆ ?_ ?_ ?_)⟩)))
 ·exact hs₆.extBut _ _ (aE' hil) (hs₅.extBut _ _ (aE' hil) (hs₄.extBut _ _ (aE' hil) (hs₃.extBut _ _ (aE' hil) ht₂)))
 ·show h₆.objs.size=hp.objs.size+1;rw[hs₆.1,hs₅.1,hs₄.1,hs₃.1,hz₂]
 ·exact λb o hb e=>hs₆.extBut b o hb (hs₅.extBut b o hb (hs₄.extBut b o hb (hs₃.extBut b o hb (hk₂ b o hb e))))
end EvD
namespace L2
open PySem PySem.Spec PyProof.Rows PySem.W EvD
def rawH(d:Addr)(es:Array Ag)(ep:Nat):HO:=.ext λh=>Raw h d es ep/\(d == sysModules)=false
def Ent(ps:List (V × V))(es:Array Ag):Prop:=Paired (λ(p:V × V) (e:Ag)=>RelV p.1 e.key/\RelV p.2 e.val) ps es.toList
def kvP(kvs:List (Key × V)):List (V × V):=kvs.map λp=>(kV p.1,p.2)
variable{pins:List (Addr × Obj)}{σ:St}{d:Addr}{ep:Nat}
theorem eB_{X:Cx}{H:Hp}{s:Ab}{es:Array Ag}(I:Inv X pins σ H s)(e:H d=some (rawH d es ep)):Raw s.heap d es ep/\(d == sysModules)=false:=
 (show a4' X.prog X.w H s.heap d (rawH d es ep) from I.hok d _ e).1
variable{P:Ad}{w:Af}{h:Heap}
theorem je_{H:Hp}{es:Array Ag}(r:Raw h d es ep)(hd:(d == sysModules)=false):a4' P w H h d (rawH d es ep):=
 ⟨⟨r,hd⟩,(let ⟨o,e,_⟩:=r;⟨o,e⟩),λh1 h2 ⟨a,b⟩ k=>⟨a.stay k,b⟩⟩
theorem hT_{P:Ad}{w:Af}:∀{kvs:List (Key × V)} {vs:List (Key × Aa)} {es:List Ag},KV kvs vs->Pairs (a0' P w) es vs->Paired (λ(p:V × V) (e:Ag)=>RelV p.1 e.key/\RelV p.2 e.val) (kvP kvs) es
 |_,_,_,.nil,.nil=>.nil
 |_::_,_::_,_,.cons ⟨a,b⟩ t,.cons h1 h2 u=>.cons ⟨db_ (by rw[a];exact h1),by rw[h2];exact b⟩ (hT_ t u)
theorem gK_:∀{ps:List (V × V)} {es:List Ag},Paired (λ(p:V × V) (e:Ag)=>RelV p.1 e.key/\RelV p.2 e.val) ps es->∀e∈es,∃p∈ps,RelV p.1 e.key
 |_,_,.nil,e,h=>by cases h
 |_,_,.cons r t,e,h=>by
  rcases an'.mp h with rfl|h
  ·exact⟨_,ak',r.1⟩
  ·obtain⟨p,a,b⟩:=gK_ t e h;exact⟨p,af' _ a,b⟩
variable{ps:List (V × V)}{v y:V}{r u:Aa}
theorem gV_{es:Array Ag}{hv:Int}(h:Ent ps es)(a:RelV y u)(b:RelV v r):Ent (ps++[(y,v)]) (es.push ⟨hv,u,r⟩):=by
 unfold Ent at h ⊢;rw[Array.toList_push]
 have app:∀{l:List (V × V)} {m:List Ag},Paired (λ(p:V × V) (e:Ag)=>RelV p.1 e.key/\RelV p.2 e.val) l m->Paired (λ(p:V × V) (e:Ag)=>RelV p.1 e.key/\RelV p.2 e.val) (l++[(y,v)]) (m++[⟨hv,u,r⟩]):=by
  intro l m q
  induction q with
  |nil=>exact .cons ⟨a,b⟩ .nil
  |cons r _ ih=>exact .cons r ih
 exact app h
theorem eg_{es:Array Ag}(h:Ent ps es):ps.length=es.size:=by
 rw[<- aH'];exact a_4 h
theorem gh_:∀{ps:List (V × V)} {es:List Ag},Paired (λ(p:V × V) (e:Ag)=>RelV p.1 e.key/\RelV p.2 e.val) ps es->∀{i:Nat} {p:V × V} {e:Ag},ps[i]? = some p->es[i]? = some e->RelV p.1 e.key/\RelV p.2 e.val
 |_,_,.nil,_,_,_,h,_=>by simp at h
 |_,_,.cons r t,0,p,e,h,h'=>by
  simp at h h';subst h h';exact r
 |_,_,.cons r t,i+1,p,e,h,h'=>gh_ t (i:=i) (by simpa using h) (by simpa using h')
def OddK(H:Hp)(y:V):Prop:=y=.non∨(∃i,y=.int i)∨∃(t:Addr) (ks:List Key),y=.ref t/\H t=some (.tup (ks.map kV))
variable{a:Addr}{A:Ah}
theorem iF_{X:Cx}{H:Hp}{s:Ab}{kvs:List (Key × V)}{E:Aa->Ab->Prop}{Q:Unit->Ab->Prop}(hu:A.units+1<cLine)(I:Inv X pins σ H s)(e:H a=some (.dK kvs))(hl:kvs.length<sizeLine)(ks:∀p∈kvs,∃x,p.1=Sum.inr x)(od:OddK H y)(ry:RelV y u)(rv:RelV v r)(h:∀s' es ep,Ent (kvP kvs++[(y,v)]) es->Inv X pins σ (upd H a (rawH a es ep)) s'->Q () s'):wpAny (model X.prog X.w) A (setItem (.ref a) u r) Q E s:=by
 obtain⟨z,hd,vs,rel,o,es,ep,ho,hc,dt,hk,hp,nd⟩:=do_ I.hok e;have en:Ent (kvP kvs) es:=hT_ rel hp;have sz:es.size=kvs.length:=by rw[<- eg_ en];exact aa' ..
 have raw:Raw s.heap a es ep:=⟨o,ho,hc,dt⟩
 have str:∀e∈es,∃x t,e.key=.str x t:=λe he=>by
  obtain⟨p,hp,rp⟩:=gK_ en e (Array.mem_toList_iff.mpr he);obtain⟨q,hq,rfl⟩:=ah'.mp hp;obtain⟨x,ex⟩:=ks q hq;rw[ex] at rp;obtain⟨t,et⟩:=(show ∃t,e.key=.str x t from rp);exact⟨x,t,et⟩
 have fin:∀(hv:Int) h' tk,Raw h' a (es.push ⟨hv,u,r⟩) (ep+1)->Heap.SameBut a s.heap h'->Q () { s with heap:=h',toks:=tk }:=λhv h' tk rw' sb=>
  h _ _ (ep+1) (gV_ en ry rv) (dg_ I (by rw[e];exact True.intro) sb (let ⟨q,hq,_⟩:=rw';⟨q,hq⟩) (je_ rw' hd))
 have val:∀(hv:Int) (hns:∀x t,u≠.str x t) (hb:carriedByValue u=true) (fy:flatV y=true) (ne:∀x,eqV (.str x) y=false) (tk:Nat) (Q':Option Nat->Ab->Prop),Q' none { s with toks:=tk }->wpAny (model X.prog X.w) A.in1 (dictFind a u hv) Q' E { s with toks:=tk }:=λhv hns hb fy ne tk Q' q=>by
  refine dX_ (es:=es) (ep:=ep) raw hns hb (λe he=>?_) q;obtain⟨x,t,et⟩:=str e he;rw[et];refine⟨rfl,?_⟩;have:=fX_ (A:=A.in1) (s:={ s with toks:=tk }) (y:=.str x) (u:=.str x t) (x:=y) (v:=u) ⟨t,rfl⟩ ry rfl fy;rw[ne x] at this;exact this
 rcases od with rfl|⟨i,rfl⟩|⟨t,kl,rfl,ht⟩
 ·cases (show u=Value.none from ry);exact bL_ raw Z1 (λQ' q=>em_ q) (val _ (λ_ _ z=>by cases z) rfl rfl (λ_=>rfl)) (fin _)
 ·obtain⟨tk,rfl⟩:=(show ∃t,u=Value.int i t from ry);exact bL_ raw Z1 (λQ' q=>wpAny_pyHash_int (q _)) (val _ (λ_ _ z=>by cases z) rfl rfl (λ_=>rfl)) (fin _)
 ·cases (show u=Value.ref t from ry);have hk:IsTupleKey (a0' X.prog X.w) s.heap kl t:=cT_ I.hok ht;obtain⟨its2,r2,pl2,hz2⟩:=I.tuple (.of ht);refine bL_ raw Z1 (λQ' q=>wpAny_pyHash_tuple hu hk (q _)) (λtk Q' q=>?_) (fin _);refine dL_ (knd:=a0' X.prog X.w) (es:=es) (ep:=ep) raw hk (λe he=>?_) q;obtain⟨x,t',et⟩:=str e he;rw[et];exact⟨rfl,SeqAt.EqAt.str_tuple x t' pl2 hu⟩
def sDPutM(td ty tv:TE):TS:=λD σ H=>tv σ H λv H1=>td σ H1 λx H2=>ty σ H2 λy H3=>(∃a H4,x=.ref a/\DPut H3 a y v H4/\D.nx σ H4) ∨
 ∃a kvs,x=.ref a/\H3 a=some (.dK kvs)/\kvs.length<sizeLine/\(∀p∈kvs,∃x,p.1=Sum.inr x)/\OddK H3 y/\∀es ep,Ent (kvP kvs++[(y,v)]) es->D.nx σ (upd H3 a (rawH a es ep))
section
variable{X:Cx}{o i e value:Expr}{pos pos' tpos:Pos}{td ty tv:TE}
theorem h8_(hu:X.A.units+1<cLine)(ho:PE X o td)(hi:PE X i ty)(hv:PE X value tv)(hs:swapsWith value (some (.Subscript o i pos')) pos.line X.env=pure false) :
  PS X (.Assign [.Subscript o i pos'] value pos) (sDPutM td ty tv):=by
 intro pins s σ H D I h;refine wpAny_Assign_Subscript (thn (hv pins s σ H _ I h) λr s1 ⟨v,H1,I1,rv,q1⟩=>thn (ho pins s1 σ H1 _ I1 q1) λu s2 ⟨x,H2,I2,rx,q2⟩=>thn (hi pins s2 σ H2 _ I2 q2) λiv s3 ⟨y,H3,I3,ry,q⟩=>?_) hs;rcases q with⟨a,H4,ex,g,q3⟩|⟨a,kvs,ex,e,hl,ks,od,q3⟩
 ·subst ex;obtain rfl:u=Value.ref a:=rx;exact dW_ hu I3 g ry rv λs4 I4=>⟨σ,H4,I4,q3⟩
 ·subst ex;obtain rfl:u=Value.ref a:=rx;exact iF_ hu I3 e hl ks od ry rv λs4 es ep en I4=>⟨σ,_,I4,q3 es ep en⟩
inductive tItMR (Q:VK) (x:V) (H1:Hp):Prop
 |mk:∀d es ep,x=.ref d->H1 d=some (rawH d es ep)->(∀v,H1 v=none->Q (.ref v) (upd H1 v (a1' v d)))->tItMR Q x H1
def tItM(td:TE):TE:=λσ H Q=>td σ H λx H1=>tItMR Q x H1
theorem gG_{apos cpos:Pos}(ho:PE X o td)(hbase:attributeBase o "items" X.env (eval o X.env)=eval o X.env:=by rfl)(hline:(apos.endLine == cpos.line)=true:=by rfl):PE X (.Call (.Attribute o "items" apos) [] [] cpos) (tItM td):=by
 intro pins s σ H Q I h;refine wpAny_Call_method0_late hbase hline (thn (ho pins s σ H _ I h) λv s1 ⟨x,H1,I1,r1,d,es,ep,e,hd,q⟩=>?_);subst e;cases r1;obtain⟨raw,t3⟩:=eB_ I1 hd;have t1:=raw.ty
 have t2:∀b,Value.ref d=.ref b->∃ob,s1.heap.get? b=some ob/\ob.dict=none:=λb z=>by
  cases z;obtain⟨ob,h1,h2,_⟩:=raw;exact⟨ob,h1,h2.2.1⟩
 refine⟨"dict","dict.items",PySem.F.plainAttrs_dict,PySem.F.slot_dict_items,PySem.F.type_dict_items,t1,t2,Calls.callWith_builtin rfl (PySem.evalArgs_none ?_)⟩;refine call_meetsIn PySem.F.slot_dict_items t1 PySem.F.entry_dict_items (PySem.F.args_dict_items_1 _) (gy_ t3) ⟨⟨es,ep,raw⟩,?_⟩;exact⟨.ref _,_,ep_ I1 _ ⟨_,a_3 _ rfl,rfl,rfl⟩ λh1 h2 ⟨o,e,r⟩ k=>⟨o,k o e,r⟩,rfl,q _ I1.fresh⟩
end
def ItR(d:Addr)(ps:List (V × V))(es:Array Ag)(ep:Nat):It:=⟨λi H=>H d=some (rawH d es ep)/\i<es.size,λi H y H'=>∃t k x,y=.ref t/\H t=none/\ps[i]? = some (k,x)/\H'=upd H t (.tup [k,x]),λi H=>False⟩
variable{elts:List Expr}{kk:Nat}
theorem gW_{K:F__}{pos:Pos}(d it:Addr)(ps:List (V × V))(es:Array Ag)(ep:Nat)(en:Ent ps es):Turn P w K (.Tuple elts kk pos) (ItR d ps es ep) [it] it (λi h=>∃ok ov,IsItemIter h it d i es.size ep ok ov) where
 mem:=by simp
 obj:=λi h st b hb=>by
  obtain rfl:b=it:=by simpa using hb
  obtain⟨ok,ov,q⟩:=st;exact⟨_,q,λv z=>by cases z⟩
 keep:=λi h h' st k=>by
  obtain⟨ok,ov,q⟩:=st;exact⟨ok,ov,k it Z2 _ q⟩
 item:=by
  intro X hP hw hK hc i pins s σ H E I hf st hg;subst hP hw hK;obtain⟨hd,hi⟩:=hg;obtain⟨raw,_⟩:=eB_ I hd;obtain⟨⟨k,x⟩,hx⟩:∃p,ps[i]? = some p:=⟨ps[i]'(by rw[eg_ en];exact hi),by simp⟩;obtain⟨rk,ru⟩:=gh_ (e:=es[i]) en hx (by simp[hi]);obtain⟨ok,ov,st⟩:=st;have itl:it<s.heap.objs.size:=a_2 st;refine cM_ st raw hi λh' out ht sz kp=>?_;refine⟨_,rfl,wpAny_letOwnedTupleGo_items (s:={ s with heap:=h' }) out λh2 st2 sb=>?_⟩;have nT:s.heap.objs.size≠it:=aE' itl;have I1:Inv X pins σ (upd H s.heap.objs.size (.tup [k,x])) { s with heap:=h2 }:=I.turnedN (t':=s.toks) (fp:=[it]) (its:=[es[i].key,es[i].val]) (λb o hb q=>(sb.2 b (by simpa using hb)).trans (kp b o (by simpa using hb) q)) hf (ae' _) (by show 2<=sizeLine;decide) (.cons rk (.cons ru .nil)) ⟨⟨_,(sb.2 _ nT).trans ht,rfl,_,rfl⟩,_,(sb.2 _ nT).trans ht,rfl⟩;refine⟨.ref _,_,I1,rfl,⟨_,k,x,rfl,I.hok.fresh (ae' _),hx,rfl⟩,⟨_,_,st2⟩,λb hb=>?_⟩;have e:b=it:=by simpa using hb
  rw[a7_ (λz=>nT (z.symm.trans e))];exact (hf b hb).1
 done:=by
  intro X hP hw hK hc i pins s σ H E I hf st hg;exact hg.elim
 self:=λA i s Q E st h=>by
  obtain⟨ok,ov,q⟩:=st;exact kcp_self q h
inductive iItMR (R:It->Hp->Prop) (x:V) (H1:Hp):Prop
 |mk:∀v d ps es ep,x=.ref v->H1 v=some (a1' v d)->H1 d=some (rawH d es ep)->Ent ps es->R (ItR d ps es ep) H1->iItMR R x H1
def iItM(tv:TE):TI:=λσ H R=>tv σ H λx H1=>iItMR R x H1
theorem gd_{X:Cx}{p2:Pos}{e:Expr}{tv:TE}(he:PE X e tv):PI X (.Tuple elts kk p2) e (iItM tv):=by
 intro pins s σ H R I h;refine thn (he pins s σ H _ I h) λu s1 ⟨x,H1,I1,r1,v,d,ps,es,ep,ex,hv,hd,en,q⟩=>?_;subst ex;cases r1;obtain⟨iv,_,_⟩:=I1.hok v _ hv;obtain⟨raw,_⟩:=eB_ I1 hd;refine cO_ iv raw ?_;refine⟨s1.heap.objs.size,[s1.heap.objs.size],_,_,_,rfl,I1.kept (t':=s1.toks) λb o e=>a_0 _ e,gW_ d _ ps es ep en,?_,λb hb=>?_,q⟩
 ·exact⟨.none,.none,a_3 _ rfl⟩
 ·obtain rfl:b=s1.heap.objs.size:=by simpa using hb
  exact I1.fpOk (ae' _) (I1.hok.fresh (ae' _))
theorem if_{es:Array Ag}{g:TG}{tb:TS}{D:Ends}{H:Hp}(en:Ent ps es)(Pv:Nat->St->Hp->Prop)(h0:Pv 0 σ H)(hl:∀i σ H,i<=ps.length->Pv i σ H->H d=some (rawH d es ep))(hs:∀i k x σ H,ps[i]? = some (k,x)->Pv i σ H->∀t,H t=none->g (.ref t) σ (upd H t (.tup [k,x])) λσ2 H2=>tb { D with nx:=Pv (i+1),ct:=Pv (i+1),bk:=D.nx } σ2 H2)(hd:∀σ H,¬Pv ps.length σ H) :
  ∃W:Nat->Nat->St->Hp->Prop,(∃m,W 0 m σ H)/\∀i m σ H,W i m σ H->
   ((ItR d ps es ep).stop i H/\D.nx σ H)∨((ItR d ps es ep).go i H/\∃N:St->Hp->Prop,(∀σ' H',N σ' H'->∃m',m'<m/\W (i+1) m' σ' H')/\∀x H',(ItR d ps es ep).yld i H x H'->g x σ H' λσ2 H2=>tb { D with nx:=N,ct:=N,bk:=D.nx } σ2 H2):=by
 refine⟨λi m σ H=>m=ps.length - i/\i<=ps.length/\Pv i σ H,⟨ps.length,by simp,aC' _,h0⟩,?_⟩;rintro i m σ H ⟨rfl,hi,p⟩;have q:=hl i σ H hi p;by_cases hlt:i<ps.length
 ·refine .inr ⟨⟨q,by rw[<- eg_ en];exact hlt⟩,Pv (i+1),λσ' H' p'=>⟨ps.length - (i+1),by omega,rfl,hlt,p'⟩,λx H' y=>?_⟩;obtain⟨t,k,x,rfl,ht,hx,rfl⟩:=y;exact hs i k x σ H hx p t ht
 ·have e:i=ps.length:=by omega
  subst e;exact (hd σ H p).elim
section
variable{X:Cx}
inductive rIsiM (xs:List V) (H:Hp) (Q:VK):Prop
 |mk:∀d es ep,xs=[.ref d,.ty "dict"]->H d=some (rawH d es ep)->Q (.bl true) H->rIsiM xs H Q
theorem ge_:bc' X (.builtin "isinstance") rIsiM:=by
 intro pins s σ H xs us Q I r h;obtain⟨d,es,ep,rfl,hd,q⟩:=h;obtain⟨u,w',rfl,ru,rw'⟩:=vals2 r;cases (show w'=Value.type "dict" from rw');cases (show u=Value.ref d from ru);obtain⟨⟨o,h1,h2,_⟩,_⟩:=eB_ I hd;exact c__ PySem.W.kitx_dict I.kIn ⟨_,h1,h2.1⟩ (show PySem.W.kitOne X.K (.type "dict") (.type "dict")=some true from rfl) nofun λtk=>⟨.bl true,H,I.tok tk,rfl,q⟩
end
def CXH(P:Ad)(w:Af)(L:Addr):CXT:=λl H s E e s'=>
 ∃a cls H' B a0,e=Value.ref a/\s'.os=s.os/\AllBare s'.gens/\Un (frs l) [] H H' s.heap s'.heap/\HOk P w H' s'.heap/\Heap.HeldW B l a cls a0 L s'.heap/\InB B l H' s.heap s'.heap/\E cls none H'
inductive XQ (X:Cx) (E:XK) (e:Aa) (s':Ab):Prop
 |mk:∀pins σ H s,Inv X pins σ H s->(CX1 X.prog X.w X.stack H s E e s'∨CXH X.prog X.w X.env.locals X.stack H s E e s'∨∃h' a cls vs,e=Value.ref a/\s'={ s with heap:=h' }/\Heap.MadeExcOf s.heap h' a cls vs/\E cls none H)->XQ X E e s'
variable{s:Ab}{E:Aa->Ab->Prop}{L e:Addr}{B:Heap}{l:List Env}{a0 cls:Aa}{M:Model}
theorem er_{Q:Unit->Ab->Prop}(hh:Heap.HeldW B l e cls a0 L s.heap)(hQ:∀h',Heap.HeldW B l e cls a0 L h'->s.heap.UpToSlots h'->Q () { s with heap:=h' }):wpAny M A (setFlight (.ref e) (some L)) Q E s:=by
 obtain⟨st,ne,ff,oe,vs,T,oT,ts,he,hc,hd,h1,nT,Te,hT,dT,h3⟩:=hh;have z3:3<ts.size:=(aJ'.mp h3).1
 have oth:∀b o,s.heap.get? b=some o->b≠T->(s.heap.update T (Obj.mapFields (·.setIfInBounds 3 (rawInt L)))).get? b=some o:=λb o q n=>by
  rw[b__ _ _ n.symm];exact q
 have nrec:∀b o,s.heap.get? b=some o->(∀us,o.data≠.fields us)->b≠T:=λb o q n y=>by
  subst y;rw[hT] at q;cases q;exact n ts dT
 unfold setFlight;refine a__ (wpAny_field he hd h1 ?_);rw[a_8 Z2];refine wpAny_setField hT dT z3 (hQ _ ⟨λb o q=>?_,ne,?_,?_⟩ ?_)
 ·exact oth b o (st b o q) λy=>by
   rw[y,nT] at q;cases q
 ·exact ff.of_keeps λb o q n=>⟨o,oth b o q (nrec b o q n),rfl⟩
 ·refine⟨oe,vs,T,_,_,oth e oe he Te.symm,hc,hd,h1,nT,Te,c_4 _ hT (Obj.isFreed_of_fields (Obj.data_mapFields dT _)),Obj.data_mapFields dT _,?_⟩;simp[z3]
 ·exact λb o q n=>⟨o.slots,oth b o q (nrec b o q n)⟩
theorem gu_{env:Env}(hf:env.frame=some L)(hh:Heap.HeldW B l e cls a0 L s.heap)(hQ:∀h',Heap.HeldW B l e cls a0 L h'->s.heap.UpToSlots h'->E (.ref e) { s with heap:=h' }):cameBackBy M A env E (.ref e) s:=by
 unfold cameBackBy;have hh2:=hh;obtain⟨st,ne,ff,oe,vs,T,oT,ts,he,hc,hd,h1,nT,Te,hT,dT,h3⟩:=hh;refine a__ (wpAny_field he hd h1 ?_);rw[a_6 Z2,hf];exact er_ hh2 λh' q up=>hQ h' q up
variable{X:Cx}{E:XK}{H':Hp}{s':Ab}
theorem g5_{H:Hp}{h1:Heap}(I:Inv X pins σ H s)(os:s'.os=s.os)(bare:AllBare s'.gens)(un:Un (frs X.stack) [] H H' s.heap s'.heap)(hok:HOk X.prog X.w H' s'.heap)(ff:s'.heap.FunFrames B X.stack)(i:InB B X.stack H' s.heap s'.heap)(hE:E cls none H')(hd:Heap.HeldW B X.stack a cls a0 L h1)(up:s'.heap.UpToSlots h1):CXH X.prog X.w L X.stack H s E (.ref a) { s' with heap:=h1 }:=
 ⟨a,cls,H',B,a0,rfl,os,bare,b5_ un ff i hd.1 up,aU_ hok (c3_ I un) i hd.1,hd,b6_ hok un i hd.1,hE⟩
theorem passQ(hst:X.stack=X.env::X.outer)(hfr:X.env.frame=some X.env.locals):PassesOwn (model X.prog X.w) X.A X.env (XQ X E):=by
 intro e s' h;obtain⟨pins,σ,H,s,I,c⟩:=h
 have back:∀s2,CXH X.prog X.w X.env.locals X.stack H s E e s2->cameBackBy (model X.prog X.w) X.A X.env (XQ X E) e s2:=λs2 hc=>by
  obtain⟨a,cls,H',B,a0,rfl,os,bare,un,hok,hd,i,hE⟩:=hc;exact gu_ hfr hd λh' q up=>⟨pins,σ,H,s,I,.inr (.inl (g5_ I os bare un hok hd.2.2.1 i hE q up))⟩
 unfold notedBy
 have fin:wpAny (model X.prog X.w) X.A (noteFrame e X.env) (λ_ s2=>CXH X.prog X.w X.env.locals X.stack H s E e s2) (cameBackBy (model X.prog X.w) X.A X.env (XQ X E)) s':=by
  rcases c with c|c|⟨h',a,cls,vs,rfl,rfl,hx,hE⟩
  ·obtain⟨a,cls,H',B,a0,rfl,os,bare,un,hok,fl,i,hE⟩:=c;refine wpAny_looks_onW (base:=B) (by rw[I.ok.frames,hst]) hfr (by rw[<- hst];exact fl) λh4 hd up=>?_;rw[<- hst] at hd;exact g5_ I os bare un hok fl.2.2.1 i hE hd up
  ·obtain⟨a,cls,H',B,a0,rfl,os,bare,un,hok,hd,i,hE⟩:=c;exact wpAny_noteFrame_againW hfr hd.2.2.2 ⟨a,cls,H',B,a0,rfl,os,bare,un,hok,hd,i,hE⟩
  ·have ff:=PySem.W.funFrames_hide (as:=frs X.stack) I.stack (λenv he b hb=>ay'.mpr ⟨env,he,hb⟩);have hk:(PySem.W.hideAll s.heap (frs X.stack)).StaysIn s.heap:=λb o q=>PySem.W.of_hideAll _ q;obtain⟨t,he,htn,ht⟩:=hx.there
   have frs0:∀b,s.heap.get? b=none->(PySem.W.hideAll s.heap (frs X.stack)).get? b=none:=λb hb=>by
    cases hq:(PySem.W.hideAll s.heap (frs X.stack)).get? b with
    |none=>rfl
    |some o'=>
     have:=hk b o' hq;rw[hb] at this;cases this
   have ff1:Heap.FunFrames h' (PySem.W.hideAll s.heap (frs X.stack)) X.stack:=ff.of_keeps λb o hb _=>⟨o,hx.keeps b o hb,rfl⟩;unfold noteFrame;simp only[hfr];refine a__ (wpAny_field he rfl rfl ?_);rw[a_6 Z2];refine wpAny_entryW (base:=PySem.W.hideAll s.heap (frs X.stack)) (outer:=X.outer) (a0:=.ref t) (by rw[I.ok.frames,hst]) (by rw[<- hst];exact ff1) hfr he (λb o q=>hx.keeps b o (hk b o q)) (frs0 a hx.new) rfl Z2 rfl λh4 nt=>?_;rw[<- hst] at nt;obtain⟨k1,k2,k3,k4⟩:=nt;have un:Un (frs X.stack) [] H H s.heap h':=Un.kept hx.keeps;have hok:HOk X.prog X.w H h':=I.hok.kept hx.keeps
   have i:InB (PySem.W.hideAll s.heap (frs X.stack)) X.stack H s.heap h':=λb o q hb c=>by
    rcases c with c|⟨o0,z⟩
    ·obtain⟨u,hu⟩:=aG'.mp c;obtain⟨o1,z⟩:=(I.hok b u hu).here;have:=hx.keeps b o1 z;rw[q] at this;cases this;exact PySem.W.hideAll_get _ z hb
    ·have:=hx.keeps b o0 z;rw[q] at this;cases this;exact PySem.W.hideAll_get _ z hb
   exact g5_ (s':={ s with heap:=h' }) I rfl I.bare un hok ff1 i hE ⟨k1,frs0 a hx.new,k2,k3⟩ k4
 exact wpAny_mono fin (λ_ s2 q=>back s2 q) λ_ _ z=>z
section
variable{P:Ad}{w:Af}{K:F__}{mg:Str->Option Aa}{base:Heap}
abbrev cxQ(P:Ad)(w:Af)(K:F__)(mg:Str->Option Aa)(base:Heap)(N:List Str)(qual:Str)(scope:Scope)(f:Addr)(cd:Aa)(A:Ah)(outer:List Env)(s:Ab)(H:Hp)(E:XK):Cx:=
 (cxOf (CX1 P w) P w K mg base N qual scope f cd A outer s H E).wish (XQ (cxOf (CX1 P w) P w K mg base N qual scope f cd A outer s H E) E)
section
variable{N:List Str}{qual:Str}{scope:Scope}{f:Addr}{cd:Aa}{A:Ah}{outer:List Env}{s:Ab}{H:Hp}{E:XK}
theorem ownQ:PassesOwn (model P w) (cxQ P w K mg base N qual scope f cd A outer s H E).A (cxQ P w K mg base N qual scope f cd A outer s H E).env (cxQ P w K mg base N qual scope f cd A outer s H E).xe:=passQ (X:=cxOf (CX1 P w) P w K mg base N qual scope f cd A outer s H E) rfl rfl
theorem passesQ:bh' (CX1 P w) (cxQ P w K mg base N qual scope f cd A outer s H E) E:=λpins σ H1 s1 e s' I hc=>⟨pins,σ,H1,s1,I.unwish,.inl hc⟩
theorem raisesQ:ci' (cxQ P w K mg base N qual scope f cd A outer s H E) E:=λpins σ H1 s1 h' e cls vs I hx hE=>⟨pins,σ,H1,s1,I.unwish,.inr (.inr ⟨h',e,cls,vs,rfl,rfl,hx,hE⟩)⟩
theorem leaveQ{e:Aa}(h:XQ (cxOf (CX1 P w) P w K mg base N qual scope f cd A outer s H E) E e s'):(cxOf (CX1 P w) P w K mg base N qual scope f cd A outer s H E).xe e s':=by
 obtain⟨pins,σ,H1,s1,I,c⟩:=h;rcases c with c|c|⟨h',a,cls,vs,rfl,rfl,hx,hE⟩
 ·exact passes1 pins σ H1 s1 e s' I c
 ·obtain⟨a,cls,H',B,a0,rfl,os,bare,un,hok,hd,i,hE⟩:=c;show wpAny _ _ (leaving _ _) _ _ _;unfold leaving;refine a__ (wpAny_noteFrame_againW rfl hd.2.2.2 (wpAny_landsW hd λh1 fl up=>?_));have ff:=hd.2.2.1;obtain⟨k1,k2,⟨_,_,k3⟩,k4⟩:=fl;exact cu_ (s1:={ s' with heap:=h1 }) I rfl os bare un hok i ff up ⟨k1,k2,k3,k4⟩ hE
 ·exact raises1 pins σ H1 s1 h' a cls vs I hx hE
end
theorem Fun.okQ{x qual:Str}{st:Stmt}{f:Addr}{fd:Ae}{N ps:List Str}{k:Nat}{sp:Sp}(F:Fun K x qual st f fd)(S:aX' N ps (aW' st))(len:∀vs H Q E,sp vs H Q E->vs.length=ps.length)
  (hbody:∀(cdv:Aa) (A:Ah) (outer:List Env) (s:Ab) (H:Hp) (vs:List V) (Q:VK) (E:XK),Room k (A.deeper (envOfC qual (aW' st) s.heap.objs.size f cdv))->sp vs H Q E->
   PassesOwn (model P w) (cxQ P w K mg base N qual (aW' st) f cdv A outer s H E).A (cxQ P w K mg base N qual (aW' st) f cdv A outer s H E).env (cxQ P w K mg base N qual (aW' st) f cdv A outer s H E).xe->
   bh' (CX1 P w) (cxQ P w K mg base N qual (aW' st) f cdv A outer s H E) E->ci' (cxQ P w K mg base N qual (aW' st) f cdv A outer s H E) E->
   ∃t,PSs (cxQ P w K mg base N qual (aW' st) f cdv A outer s H E) (a6' st) t/\t { nx:=λ_ H'=>Q .non H',rt:=Q } (start N vs) H):FnOk P w K mg base (CX1 P w) (k+1) f fd ps sp:=
 F.okX S len λcdv A outer s H vs Q E hr hsp=>by
  obtain⟨t,h,q⟩:=hbody cdv A outer s H vs Q E hr hsp ownQ passesQ raisesQ;exact⟨t,λpins s1 σ H1 D I hw=>wpAny_mono (h pins s1 σ H1 D (I.wish _) hw) (λ_ _ q=>q.unwish) λ_ _ z=>leaveQ z,q⟩
end
open PySem.Calls
section
variable{M:Model}{A:Ah}{E:Aa->Ab->Prop}{s:Ab}{base:Heap}{env:Env}{outer:List Env}{L e:Addr}{cls a0:Aa}{Q:Unit->Ab->Prop}
def TracedD(h base:Heap)(e:Addr)(cls a0:Aa)(dd:Option Addr):Prop:=∃oe vs T oT ts,h.get? e=some oe/\(oe.cls=cls/\vs[0]? = some a0)/\oe.data=Data.fields vs/\vs[1]? = some (Value.ref T)/\base.get? T=none/\T≠e/\h.get? T=some oT/\oT.data=Data.fields ts/\ts[3]? = some Value.none/\oe.dict=dd
def a9'(base:Heap)(l:List Env)(e:Addr)(cls a0:Aa)(dd:Option Addr)(h:Heap):Prop:=base.StaysIn h/\base.get? e=none/\h.FunFrames base l/\TracedD h base e cls a0 dd
theorem cN'{oe:Obj}{vs:Array Aa}{head:Aa}{hadNext:Bool}(hfr:A.frames=some (env::outer))(hl:s.heap.FunFrames base (env::outer))(hf:env.frame=some L)(he:s.heap.get? e=some oe)(hkb:base.StaysIn s.heap)(hen:base.get? e=none)(hd:oe.data=Data.fields vs)(hsz:1<vs.size)(h0:vs[0]? = some a0)
  (h:∀h',base.StaysIn h'->h'.FunFrames base (env::outer)->TracedD h' base e oe.cls a0 oe.dict->s.heap.UpToSlots h'->Q () { s with heap:=h' }) :
  wpAny M A (do
   let a <- PySem.frameOf env
   let pl <- entryPlaceOf L hadNext
   let b <- EntryCells.newEntry head a Value.none (rawInt L) Value.none pl
   setField (Value.ref e) 1 b) (λ_ s'=>wpAny M A (setFlight (Value.ref e) none) Q E s') E s:=by
 have hene:e∉List.filterMap (λx=>x.frame) (env::outer):=λhm=>by
  obtain⟨_,o,ho,hnf⟩:=Heap.FunFrames.mem hl hm;rw[he] at ho;cases ho;exact hnf vs hd
 refine a__ (wpAny_frameOf_fun hfr hl hf λh₁ hs₁=>a__ (wpAny_entryPlaceOf λpl hpl=>?_));unfold EntryCells.newEntry newFields;have hsz1:h₁.objs.size=s.heap.objs.size:=hs₁.1;have he₁:=(hs₁.right.left e hene).trans he;have hlt:∀b o,s.heap.get? b=some o->b≠h₁.objs.size:=λb o q=>aj' (by rw[hsz1];exact a_2 q)
 have hbn:base.get? h₁.objs.size=none:=by
  cases q:base.get? h₁.objs.size with
  |none=>rfl
  |some o=>exact absurd rfl (hlt _ o (hkb _ o q))
 have hbase:∀b o,base.get? b=some o->h₁.get? b=some o:=λb o q=>(hs₁.right.left b (λhm=>by
  have:=(Heap.FunFrames.mem hl hm).1;rw[q] at this;cases this)).trans (hkb b o q)
 obtain⟨tbs,htb,ht3⟩:∃tbs:Array Aa,([head,Value.ref L,Value.none,rawInt ↑L,Value.none]++if pl.isEmpty=true then List.replicate 6 Value.none else pl).toArray=tbs/\3<tbs.size:=⟨_,rfl,by simp⟩
 have hts:tbs.size<=sizeLine+2:=by
  rw[<- htb];rcases hpl with rfl|⟨a,b,c,d,c9,b10,_,rfl⟩
  ·show 11<=sizeLine+2;decide
  ·show 11<=sizeLine+2;decide
 refine a__ (b_6 ?_ (by rw[htb];exact hts));rw[htb];have he₂:(h₁.push { cls:=Value.type "traceback",data:=Data.fields tbs }).get? e=some oe:=a_0 _ he₁;have hn₂:(h₁.push { cls:=Value.type "traceback",data:=Data.fields tbs }).get? h₁.objs.size=some { cls:=Value.type "traceback",data:=Data.fields tbs }:=a_3 h₁ rfl;have hTe:h₁.objs.size≠e:=(hlt e oe he).symm;refine wpAny_setField he₂ hd hsz ?_;have hd₃:=Obj.data_mapFields hd λx=>x.setIfInBounds 1 (Value.ref h₁.objs.size);have he₃:=c_4 (Obj.mapFields λx=>x.setIfInBounds 1 (Value.ref h₁.objs.size)) he₂ (Obj.isFreed_of_fields hd₃);have hn₃:=(b__ (h₁.push { cls:=Value.type "traceback",data:=Data.fields tbs }) (Obj.mapFields λx=>x.setIfInBounds 1 (Value.ref h₁.objs.size)) hTe.symm).trans hn₂;unfold setFlight;refine a__ (wpAny_field (x:=.ref h₁.objs.size) he₃ hd₃ (by simp[hsz]) ?_);rw[a_8 Z2];refine wpAny_setField hn₃ rfl ht3 ?_;have hd₄:=Obj.data_mapFields (o:={ cls:=Value.type "traceback",data:=Data.fields tbs }) rfl λx=>x.setIfInBounds 3 Value.none;have hn₄:=c_4 (Obj.mapFields λx=>x.setIfInBounds 3 Value.none) hn₃ (Obj.isFreed_of_fields hd₄);have he₄:=(b__ ((h₁.push { cls:=Value.type "traceback",data:=Data.fields tbs }).update e (Obj.mapFields λx=>x.setIfInBounds 1 (Value.ref h₁.objs.size))) (Obj.mapFields λx=>x.setIfInBounds 3 Value.none) hTe).trans he₃
 have oth:∀b o,b≠e->b≠h₁.objs.size->h₁.get? b=some o->(((h₁.push { cls:=Value.type "traceback",data:=Data.fields tbs }).update e (Obj.mapFields λx=>x.setIfInBounds 1 (Value.ref h₁.objs.size))).update h₁.objs.size (Obj.mapFields λx=>x.setIfInBounds 3 Value.none)).get? b=some o:=λb o n1 n2 q=>
  (b__ _ _ n2.symm).trans ((b__ _ _ n1.symm).trans (a_0 _ q))
 have hec:((Obj.mapFields λx=>x.setIfInBounds 1 (Value.ref h₁.objs.size)) oe).cls=oe.cls/\((Obj.mapFields λx=>x.setIfInBounds 1 (Value.ref h₁.objs.size)) oe).dict=oe.dict:=by
  obtain⟨c,dt,da,sl⟩:=oe;have:da=Data.fields vs:=hd;subst this;exact⟨rfl,rfl⟩
 have ups:∀b o,s.heap.get? b=some o->(∀vs,o.data≠Data.fields vs)->∃sl,(((h₁.push { cls:=Value.type "traceback",data:=Data.fields tbs }).update e (Obj.mapFields λx=>x.setIfInBounds 1 (Value.ref h₁.objs.size))).update h₁.objs.size (Obj.mapFields λx=>x.setIfInBounds 3 Value.none)).get? b=some { cls:=o.cls,dict:=o.dict,data:=o.data,slots:=sl }:=λb o q nf=>by
  obtain⟨sl,q1⟩:=hs₁.right.right b o q;refine⟨sl,oth b _ (λz=>?_) (hlt b o q) q1⟩;subst z;rw[he] at q;cases q;exact nf vs hd
 refine h _ (λb o q=>oth b o (λz=>?_) (λz=>?_) (hbase b o q)) (Heap.FunFrames.of_keeps (λb o q nf=>?_) hl) ⟨_,_,h₁.objs.size,_,_,he₄,⟨hec.1,?_⟩,hd₃,?_,hbn,hTe,hn₄,hd₄,?_,hec.2⟩ ups
 ·subst z;rw[hen] at q;cases q
 ·subst z;rw[hbn] at q;cases q
 ·obtain⟨sl,q1⟩:=ups b o q nf;exact⟨_,q1,rfl⟩
 ·rw[Array.getElem?_setIfInBounds];simpa using h0
 ·simp[hsz]
 ·simp[ht3]
theorem a9'.obj{dd:Option Addr}(f:a9' base l e cls a0 dd h):∃oe vs,h.get? e=some oe/\oe.cls=cls/\oe.data=Data.fields vs/\oe.dict=dd:=by
 obtain⟨f1,f2,f3,oe,vs,T,oT,ts,h1,h2,h3,h4,h5,h6,h7,h8,h9,h10⟩:=f;exact⟨oe,vs,h1,h2.1,h3,h10⟩
theorem a9'.less{dd:Option Addr}(f:a9' base (env::outer) e cls a0 dd h):a9' base outer e cls a0 dd h:=⟨f.1,f.2.1,f.2.2.1.2.2,f.2.2.2⟩
theorem by_{dd:Option Addr}(hfr:A.frames=some (env::outer))(hf:env.frame=some L)(hfl:a9' base (env::outer) e cls a0 dd s.heap)
  (hQ:∀h',a9' base (env::outer) e cls a0 dd h'->s.heap.UpToSlots h'->Q () { s with heap:=h' }):wpAny M A (noteFrame (Value.ref e) env) (λ_ s₂=>wpAny M A (setFlight (Value.ref e) none) Q E s₂) E s:=by
 obtain⟨f1,f2,f3,oe,vs,T,oT,ts,he,⟨hc,h0⟩,hd,h1,hnT,hTe,hT,hdT,h3,hdd⟩:=hfl;unfold noteFrame;rw[hf];dsimp only;refine a__ (wpAny_field he hd h1 ?_);rw[a_8 Z2];refine a__ (wpAny_field hT hdT h3 ?_);rw[a_6 (by simp[rawInt])];refine a__ (wpAny_setField hT hdT (aJ'.mp h3).1 ?_);have other:∀b,b≠T->(s.heap.update T (Obj.mapFields λx=>x.setIfInBounds 3 Value.none)).get? b=s.heap.get? b:=λb hb=>b__ _ _ hb.symm
 have nrec:∀b o,s.heap.get? b=some o->(∀vs,o.data≠Data.fields vs)->b≠T:=λb o q nf z=>by
  subst z;rw[hT] at q;cases q;exact nf ts hdT
 refine cN' (base:=base) (s:={ s with heap:=s.heap.update T (Obj.mapFields λx=>x.setIfInBounds 3 Value.none) }) hfr (Heap.FunFrames.of_keeps (λb o q nf=>⟨o,(other b (nrec b o q nf)).trans q,rfl⟩) f3) hf ((other e hTe.symm).trans he) (λb o q=>(other b (λz=>?_)).trans (f1 b o q)) f2 hd (aJ'.mp h1).1 h0 λh' g1 g2 g3 g4=>?_
 ·subst z;rw[hnT] at q;cases q
 ·refine hQ h' ⟨g1,f2,g2,?_⟩ λb o q nf=>g4 b o ((other b (nrec b o q nf)).trans q) nf;rw[hc,hdd] at g3;exact g3
theorem fa_{dd:Option Addr}(hfr:A.frames=some (env::outer))(hf:env.frame=some L)(hfl:a9' base (env::outer) e cls a0 dd s.heap)
  (hQ:∀h',a9' base outer e cls a0 dd h'->s.heap.UpToSlots h'->Q () { s with heap:=h' }):wpAny M A (leaving env (Value.ref e)) Q E s:=by
 unfold leaving;exact a__ (by_ hfr hf hfl λh' f u=>hQ h' f.less u)
theorem ce_{dd:Option Addr}(hfl:a9' base l e cls a0 dd s.heap)(hQ:∀h',a9' base l e cls a0 dd h'->s.heap.UpToSlots h'->Q () { s with heap:=h' }):wpAny M A (setFlight (Value.ref e) none) Q E s:=by
 obtain⟨f1,f2,f3,oe,vs,T,oT,ts,he,⟨hc,h0⟩,hd,h1,hnT,hTe,hT,hdT,h3,hdd⟩:=hfl;unfold setFlight;refine a__ (wpAny_field he hd h1 ?_);rw[a_8 Z2];refine wpAny_setField hT hdT (aJ'.mp h3).1 ?_;have other:∀b,b≠T->(s.heap.update T (Obj.mapFields λx=>x.setIfInBounds 3 Value.none)).get? b=s.heap.get? b:=λb hb=>b__ _ _ hb.symm
 have nrec:∀b o,s.heap.get? b=some o->(∀vs,o.data≠Data.fields vs)->b≠T:=λb o q nf z=>by
  subst z;rw[hT] at q;cases q;exact nf ts hdT
 have hd4:=Obj.data_mapFields hdT λx=>x.setIfInBounds 3 Value.none;have hT4:=c_4 (Obj.mapFields λx=>x.setIfInBounds 3 Value.none) hT (Obj.isFreed_of_fields hd4);refine hQ _ ⟨λb o q=>(other b (λz=>?_)).trans (f1 b o q),f2,Heap.FunFrames.of_keeps (λb o q nf=>⟨o,(other b (nrec b o q nf)).trans q,rfl⟩) f3,oe,vs,T,_,_,(other e hTe.symm).trans he,⟨hc,h0⟩,hd,h1,hnT,hTe,hT4,hd4,?_,hdd⟩ λb o q nf=>⟨o.slots,(other b (nrec b o q nf)).trans q⟩
 ·subst z;rw[hnT] at q;cases q
 ·have:=(aJ'.mp h3).1;simp[this]
theorem bT_{dd:Option Addr}{oe:Obj}{vs:Array Aa}(hfr:A.frames=some (env::outer))(hf:env.frame=some L)(st:base.StaysIn s.heap)(ff:s.heap.FunFrames base (env::outer))(hen:base.get? e=none)(he:s.heap.get? e=some oe)(hc:oe.cls=cls)(hdd:oe.dict=dd)(hd:oe.data=Data.fields vs)(h0:vs[0]? = some a0)(h1:vs[1]? = some Value.none)
  (hQ:∀h',a9' base outer e cls a0 dd h'->s.heap.UpToSlots h'->Q () { s with heap:=h' }):wpAny M A (leaving env (Value.ref e)) Q E s:=by
 unfold leaving noteFrame;rw[hf];dsimp only;refine a__ (a__ (wpAny_field he hd h1 ?_));rw[a_6 Z2];refine cN' (base:=base) hfr ff hf he st hen hd (aJ'.mp h1).1 h0 λh' g1 g2 g3 g4=>?_;refine hQ h' ⟨g1,hen,g2.2.2,?_⟩ g4;rw[hc,hdd] at g3;exact g3
end
section
variable{prog:Ad}{w:Af}{A:Ah}{E:Aa->Ab->Prop}{h:Heap}{g:Array GenState}{d:Drawn}{t:Nat}{os:OsState}{nm q:Str}{C N f:Addr}{bs bm bmB:List Aa}{hdct:Bool}{sn:List Str}{sub:List Aa}{ab:Bool}{col:Option Bool}{dd:Option Addr}{k0 k1 k2 k3 k5:Option Aa}{B newId initId:String}{K:F__}{rest:List Aa}
end
open Builtin Builtin.ObjectAttr
def excMro(C CE:Addr):List Aa:=[.ref C,.ref CE,.type "ValueError",.type "Exception",.type "BaseException",.type "object"]
section
variable{prog:Ad}{w:Af}{A:Ah}{E:Aa->Ab->Prop}{s:Ab}{K:F__}{x C CE:Addr}{ox:Obj}{od:Option Obj}{name:Str}{tk:Tok}{v:Aa}{cd:ClassData}
end
def excInO(K:F__)(C:Addr)(bmB:List Aa)(newId:String):Bool:=
 match K.lookup C with
 |some ⟨.type "type",_,.cls cd,sl⟩=>
  match cd.mro,sl.toList with
  |.ref C'::bm,[_,_,_,_,some (.builtin n),_]=>C' == C&&n == newId&&!cd.hasDel&&tailIn K bmB bm&&nsOkIn K cd.ns
  |_,_=>false
 |_=>false
def clsO(K:F__)(C CE:Addr):Bool:=
 match clsIn K C with
 |some cd=>cd.mro == excMro C CE&&cd.hasDict
 |none=>false
structure ExO (K:F__) (C CE:Addr):Prop where
 kx:ExcK K C
 ex:excInO K C bmV "ValueError.__new__"=true
 es:findIn K (.ref C) "__setattr__"=some (some (.builtin "object.__setattr__"))
 cl:clsO K C CE=true
structure ExF (K:F__) (C:Addr) (f:Str):Prop where
 tk:takerIn K C f=some none
 fd:findIn K (.ref C) f=some none
structure ExB (K:F__) (CE:Addr):Prop where
 sp:specialIn K (.ref CE) "__getattribute__"=some (some (.builtin "type.__getattribute__"))
 rd:readsIn K CE (.type "type")=true
 fc:findCls K (.ref CE) (.type "type") "__init__"=some (.val (.builtin "ValueError.__init__"))
def exn(e C a0:Addr)(dd:Option Addr):HO:=.ext λh=>∃o,h.get? e=some o/\o.cls=.ref C/\o.dict=dd/\o.data=.fields #[.ref a0,.none,.none,.none,.bool false,.none]
def exq(e C:Addr)(dd:Option Addr):HO:=.ext λh=>∃o vs,h.get? e=some o/\o.cls=.ref C/\o.dict=dd/\o.data=.fields vs
section
variable{P:Ad}{w:Af}{H:Hp}{h:Heap}{e C a0 d:Addr}{dd:Option Addr}{fs:List (Str × V)}
theorem hV_{o:Obj}{vs:Array Aa}(h1:h.get? e=some o)(h2:o.cls=.ref C)(h3:o.dict=dd)(h4:o.data=.fields vs):a4' P w H h e (exq e C dd):=⟨⟨o,vs,h1,h2,h3,h4⟩,⟨o,h1⟩,λ_ _ ⟨u,vs,q,r⟩ k=>⟨u,vs,k u q,r⟩⟩
end
section
variable{X:Cx}{C CE:Addr}{x f:Str}{p apos pos pos':Pos}{o e value:Expr}{es:List Expr}{ta tv:TE}{t:TA}
end
def CX2(P:Ad)(w:Af):CXT:=λl H s E e s'=>
 ∃a cls H' B a0 dd,e=Value.ref a/\s'.os=s.os/\AllBare s'.gens/\Un (frs l) [] H H' s.heap s'.heap/\HOk P w H' s'.heap/\a9' B l a cls a0 dd s'.heap/\InB B l H' s.heap s'.heap/\E cls dd H'
section
variable{X:Cx}{pins:List (Addr × Obj)}{σ:St}{H H':Hp}{s s1:Ab}{B h:Heap}{a:Addr}{cls a0:Aa}{dd:Option Addr}{E:XK}
theorem cU_(I:Inv X pins σ H s)(hex:X.ex=[])(os:s1.os=s.os)(bare:AllBare s1.gens)(un:Un (frs X.stack) [] H H' s.heap h)(hok:HOk X.prog X.w H' h)(i:InB B X.stack H' s.heap h)(ff:h.FunFrames B X.stack)(up:h.UpToSlots s1.heap)
  (fl:a9' B X.outer a cls a0 dd s1.heap) (hE:E cls dd H'):CX2 X.prog X.w X.outer X.H₀ X.s₀ E (.ref a) s1:=by
 have un1:=b5_ un ff i fl.1 up;have hok1:=aU_ hok (c3_ I un) i fl.1;have I1:Inv X pins σ H' s1:=I.call' os un1 hok1 bare (λb z=>absurd z Z2);have bs:=I1.base;rw[hex] at bs;refine⟨a,cls,H',B,a0,dd,rfl,I1.os,I1.bare,bs,I1.hok,fl,λb o e hb c=>?_,hE⟩
 have nL:b≠X.env.locals:=by
  rcases c with z|⟨o0,z⟩
  ·intro q;rw[q,I1.free] at z;cases z
  ·exact aj' (aq' (a_2 z) I.ok.above)
 refine b6_ hok un i fl.1 b o e (λhm=>?_) (c.imp id λ⟨o0,z⟩=>I.base.there b o0 z (by rw[hex];simp));rcases an'.mp (I.stkSub b hm) with z|z
 ·exact nL z
 ·exact hb z
def ce'(H:Hp)(e:Addr):Hp:=λb=>if b=e then none else H b
theorem bb_:ce' H e e=none:=by unfold ce';rw[a_8 rfl]
theorem bW_{b:Addr}(n:b≠e):ce' H e b=H b:=by unfold ce';rw[a_6 n]
theorem fU_{C a1:Addr}(I:Inv X pins σ H s)(hex:X.ex=[])(hfs:X.fs=frs X.outer)(hst:X.stack=X.env::X.outer)(he:H e=some (exn e C a1 dd))(hnew:X.s₀.heap.objs.size<=e)(os:s1.os=s.os)(bare:AllBare s1.gens)(hB:B=PySem.W.hideAll s.heap (e::frs X.stack))(up:s.heap.UpToSlots s1.heap)(fl:a9' B X.outer e (.ref C) a0 dd s1.heap)(hE:E (.ref C) dd (ce' H e)):CX2 X.prog X.w X.outer X.H₀ X.s₀ E (.ref e) s1:=by
 have nd:∀{b:Addr} {u:HO},H b=some u->u≠exn e C a1 dd->ce' H e b=some u:=λq n=>by rw[bW_ (aD_ q he n)];exact q
 have bs:=I.base;rw[hex,hfs] at bs
 have un:Un (frs X.outer) [] X.H₀ (ce' H e) X.s₀.heap s.heap:=⟨bs.keep,bs.slot,λb o q n z=>by
   by_cases y:b=e
   ·rw[y];exact bb_
   ·rw[bW_ y];exact bs.free b o q n z,bs.there,λb xs q=>nd (bs.tups b xs q) nofun,λb o u q=>nd (bs.frzs b o u q) nofun,λb p q=>by
   obtain⟨more,z⟩:=bs.tbls b p q;exact⟨more,nd z nofun⟩⟩
 have hok:HOk X.prog X.w (ce' H e) s.heap:=λb u q=>by
  have y:b≠e:=λy=>by rw[y,bb_] at q;cases q
  rw[bW_ y] at q;exact (I.hok b u q).stay (λ_ _ _ z=>z) (λc z=>nd z nofun) λc xs z=>nd z nofun
 have fso:∀b∈frs X.outer,ce' H e b=none:=λb hb=>by
  by_cases y:b=e
  ·rw[y];exact bb_
  ·rw[bW_ y];refine I.stkFree b ?_;rw[hst];obtain⟨v,hv,e⟩:=ay'.mp hb;exact ay'.mpr ⟨v,af' _ hv,e⟩
 have i:InB B X.outer (ce' H e) X.s₀.heap s.heap:=λb o q hb c=>by
  rw[hB]
  have nL:b≠X.env.locals:=by
   rcases c with z|⟨o0,z⟩
   ·intro y;by_cases ye:b=e
    ·rw[ye,bb_] at z;cases z
    ·rw[bW_ ye,y,I.free] at z;cases z
   ·exact aj' (aq' (a_2 z) I.ok.above)
  have ne:b≠e:=by
   rcases c with z|⟨o0,z⟩
   ·intro y;rw[y,bb_] at z;cases z
   ·exact aj' (aq' (a_2 z) hnew)
  refine PySem.W.hideAll_get _ q λhm=>?_;rcases an'.mp hm with z|hm
  ·exact ne z
  ·rcases an'.mp (I.stkSub b hm) with z|z
   ·exact nL z
   ·exact hb (hfs▸z)
 have ff:s.heap.FunFrames B X.outer:=by
  have z:=PySem.W.funFrames_hide (as:=e::frs X.stack) I.stack (λenv he b hb=>af' _ (ay'.mpr ⟨env,he,hb⟩));rw[<- hB,hst] at z;exact z.2.2
 exact⟨e,_,_,B,a0,dd,rfl,os.trans I.os,bare,b5_ un ff i fl.1 up,aU_ hok fso i fl.1,fl,b6_ hok un i fl.1,hE⟩
end
section
variable{P:Ad}{w:Af}{K:F__}{mg:Str->Option Aa}{base:Heap}{N:List Str}{qual:Str}{scope:Scope}{f:Addr}{cd:Aa}{A:Ah}{outer:List Env}{s:Ab}{H:Hp}{E:XK}
theorem passes2:bh' (CX2 P w) (cxOf (CX2 P w) P w K mg base N qual scope f cd A outer s H E) E:=by
 intro pins σ H1 s1 e s' I hc;obtain⟨a,cls,H',B,a0,dd,rfl,os,bare,un,hok,fl,i,hE⟩:=hc;refine fa_ (base:=B) I.ok.frames rfl fl λh1 fl1 up=>?_;exact cU_ (s1:={ s' with heap:=h1 }) I rfl os bare un hok i fl.2.2.1 up fl1 hE
def RaisesO(X:Cx)(E:XK):Prop:=∀(pins:List (Addr × Obj)) (σ:St) (H:Hp) (s:Ab) (e C a1:Addr) (dd:Option Addr),Inv X pins σ H s->H e=some (exn e C a1 dd)->X.s₀.heap.objs.size<=e->E (.ref C) dd (ce' H e)->X.xe (.ref e) s
theorem raisesO:RaisesO (cxOf (CX2 P w) P w K mg base N qual scope f cd A outer s H E) E:=by
 intro pins σ H1 s1 e C a1 dd I he hnew hE;obtain⟨oe,h1,h2,h3,h4⟩:=(I.hok e _ he).1;have ff:=PySem.W.funFrames_hide (as:=e::frs (cxOf (CX2 P w) P w K mg base N qual scope f cd A outer s H E).stack) I.stack (λenv he b hb=>af' _ (ay'.mpr ⟨env,he,hb⟩));refine bT_ (base:=PySem.W.hideAll s1.heap (e::frs (cxOf (CX2 P w) P w K mg base N qual scope f cd A outer s H E).stack)) I.ok.frames rfl (λb o q=>PySem.W.of_hideAll _ q) ff ?_ h1 h2 h3 h4 rfl rfl λh' fl up=>?_
 ·exact PySem.W.hideAll_none _ ak'
 ·exact fU_ (s1:={ s1 with heap:=h' }) I rfl rfl rfl he hnew rfl I.bare rfl up fl hE
end
def XE(X:Cx)(i:Nat)(C:Addr)(ts:TS)(R:Ends):XK:=λcls dd H'=>cls=.ref C/\∀(σ:St) (a:Addr),σ.length=X.N.length->H' a=none->ts (R.gone i) (σ.set i (some (.ref a))) (upd H' a (exq a C dd))
variable{C D:Addr}{n x:Str}{i:Nat}{hpos np:Pos}{b₀:Stmt}{suite:List Stmt}{ts:TS}{rest:List ExceptHandler}
theorem f4_{H:Hp}{e:Aa}{R:Ends}(hN:X.N.Nodup)(hi:X.N[i]? = some n)(hl:X.env.scope.names.lookup n=some .local)(hst:X.stack=X.env::X.outer)(hfr:X.env.frame=some X.env.locals)(hg:Gl X x)(hm:X.mg x=some (.ref D))(hx:PySem.W.exmOne X.K (.ref C) (.ref D)=some true)(hs:∀a,PSs (X.inX a).nox (b₀::suite) ts)(I:Inv X pins σ H s)(hc:CX2 X.prog X.w X.stack H s (XE X i C ts R) e s')(hd:(x == ("__debug__":Str))=false:=by decide) :
  wpAny (model X.prog X.w) X.A (noteFrame e X.env) (λ_ s₂=>wpAny (model X.prog X.w) X.A (setFlight e none) (λ_ s₃=>
   wpAny (model X.prog X.w) X.A (handleBy e X.env (.ExceptHandler (some (.Name x np)) (some n) (b₀::suite) hpos::rest)) (SP X pins R) X.xe s₃) X.xe s₂) X.xe s':=by
 obtain⟨a,cls,H',B,a0,dd,rfl,os,bare,un,hok,fl,i',rfl,hE⟩:=hc;have fr:=c3_ I un;have ff:=fl.2.2.1;refine by_ (base:=B) (by rw[I.ok.frames,hst]) hfr (by rw[<- hst];exact fl) λh₅ fl5 up45=>?_;rw[<- hst] at fl5;have un5:=b5_ un ff i' fl5.1 up45;have hok5:=aU_ hok fr i' fl5.1;have in5:=b6_ hok un i' fl5.1;have I5:Inv X pins σ H' { s' with heap:=h₅ }:=I.call' (s':={ s' with heap:=h₅ }) os un5 hok5 bare (λb z=>absurd z Z2);have J5:=I5.inX a;obtain⟨oe,vs5,he5,hce,_⟩:=fl5.obj;refine wpAny_handleBy_cons (codeAny_handlers_test (bO_ (X:=X.inX a) J5 hg hm ?_ hd)) (by intro q;cases q);refine (PySem.W.exm_one (K:=X.K) J5.kIn (by subst_eqs;exact hce▸(PySem.W.Looks.ld he5).andThen .now) hx).at ?_;refine codeAny_handlers_suite_as ?_;refine ce_ (base:=B) (by exact fl5) λh₆ fl6 up6=>?_;have ff5:=fl5.2.2.1;have un6:=b5_ un5 ff5 in5 fl6.1 up6;have hok6:=aU_ hok5 fr in5 fl6.1;have in6:=b6_ hok5 un5 in5 fl6.1;have I6:Inv X pins σ H' { s' with heap:=h₆ }:=I.call' (s':={ s' with heap:=h₆ }) os un6 hok6 bare (λb z=>absurd z Z2);obtain⟨ox,vs,hx6,hcx,hdx,hddx⟩:=fl6.obj
 have nfr:a∉frs X.stack:=λhm=>by
  obtain⟨_,o,ho,d⟩:=fl6.2.2.1.mem hm;have ho:h₆.get? a=some o:=ho;rw[hx6] at ho;cases ho;exact d _ hdx
 have nB:B.get? a=none:=fl6.2.1
 have nH:H' a=none:=by
  cases q:H' a with
  |none=>rfl
  |some u=>
   have z:=in6 a ox hx6 nfr (.inl (by rw[q];rfl));rw[nB] at z;cases z
 have nS:s.heap.get? a=none:=by
  cases q:s.heap.get? a with
  |none=>rfl
  |some u=>
   have z:=in6 a ox hx6 nfr (.inr ⟨u,q⟩);rw[nB] at z;cases z
 have ntr:∀c,H' c≠none->c≠a:=λc z q=>z (q▸nH)
 have un7:Un (frs X.stack) [] H (upd H' a (exq a C dd)) s.heap h₆:=
  ⟨un6.keep,un6.slot,λb o q m z=>by
   rw[a7_ (λy=>by rw[y,nS] at q;cases q)];exact un6.free b o q m z,un6.there,λb xs q=>by
   have:=un6.tups b xs q;rw[a7_ (ntr b (by rw[this];simp))];exact this,λb o u q=>by
   have:=un6.frzs b o u q;rw[a7_ (ntr b (by rw[this];simp))];exact this,λb p q=>by
   obtain⟨more,this⟩:=un6.tbls b p q;exact⟨more,by rw[a7_ (ntr b (by rw[this];simp))];exact this⟩⟩
 have hok7:HOk X.prog X.w (upd H' a (exq a C dd)) h₆:=λb u q=>by
  by_cases hb:b=a
  ·subst hb;rw[a1_] at q;cases q;exact hV_ hx6 hcx hddx hdx
  ·rw[a7_ hb] at q;exact (hok6 b u q).stay (λ_ _ _ z=>z) (λc z=>by rw[a7_ (ntr c (by rw[z];simp))];exact z) λc xs z=>by rw[a7_ (ntr c (by rw[z];simp))];exact z
 have I7:Inv X pins σ (upd H' a (exq a C dd)) { s' with heap:=h₆ }:=I.call' (s':={ s' with heap:=h₆ }) os un7 hok7 bare (λb z=>absurd z Z2);refine cl_ (X:=X.inX a) (v:=.ref a) (I7.inX a) hN hi (.inl hl) rfl (λs8 I8=>?_) (.inr hl);refine wpAny_mono (hs a pins s8 _ _ _ (I8.wish _) (hE σ a I.len nH)) (λf s9 q=>?_) λ_ _ z=>False.elim z;have q:=q.unwish;show wpAny _ _ _ _ _ _;cases f with
 |next=>
  obtain⟨σ',H9,I9,q⟩:=q;exact br_ (X:=X) (I9.outX I.ok) hN hi hl λs10 I10=>⟨_,_,I10,q⟩
 |brk=>
  obtain⟨σ',H9,I9,q⟩:=q;exact br_ (X:=X) (I9.outX I.ok) hN hi hl λs10 I10=>⟨_,_,I10,q⟩
 |cont=>
  obtain⟨σ',H9,I9,q⟩:=q;exact br_ (X:=X) (I9.outX I.ok) hN hi hl λs10 I10=>⟨_,_,I10,q⟩
 |ret u=>
  obtain⟨v,σ',H9,I9,r,q⟩:=q;exact br_ (X:=X) (I9.outX I.ok) hN hi hl λs10 I10=>⟨v,_,_,I10,r,q⟩
abbrev Cx.atW(X:Cx)(W:Aa->Ab->Prop)(pn:List (Addr × Obj)):Cx:={ X with xe:=W,pn:=pn }
theorem Cx.Ok.atW(ok:X.Ok)(W:Aa->Ab->Prop)(pn:List (Addr × Obj)):(X.atW W pn).Ok:=
 ⟨ok.mod,ok.kind,ok.glob,ok.blt,ok.above,ok.inj,ok.has,ok.cab,ok.hd,ok.frames,ok.stk,ok.exf,ok.bs,ok.bsz,ok.noex,ok.exfs,ok.funs,ok.frf⟩
theorem Inv.toAt{H:Hp}(I:Inv X pins σ H s)(W:Aa->Ab->Prop):Inv (X.atW W (X.pn++pins)) [] σ H s:=⟨I.ok.atW W _,I.os,I.bare,I.base,I.loc,I.cell,I.free,I.freeC,λp hp=>I.pin p (by simpa using hp),I.hok,I.len⟩
theorem Inv.ofAt{p2:List (Addr × Obj)}{H:Hp}{W:Aa->Ab->Prop}(ok:X.Ok)(I:Inv (X.atW W (X.pn++pins)) p2 σ H s):Inv X pins σ H s:=⟨ok,I.os,I.bare,I.base,I.loc,I.cell,I.free,I.freeC,λp hp=>I.pin p (List.mem_append_left _ hp),I.hok,I.len⟩
section
variable{P:Ad}{w:Af}{K:F__}{mg:Str->Option Aa}{base:Heap}{N:List Str}{qual:Str}{scope:Scope}{f:Addr}{cd:Aa}{A:Ah}{outer:List Env}{s:Ab}{H:Hp}{E:XK}
theorem raises2:ci' (cxOf (CX2 P w) P w K mg base N qual scope f cd A outer s H E) E:=by
 intro pins σ H1 s1 h' e cls vs I hx hE;have ff:=PySem.W.funFrames_hide (as:=frs (cxOf (CX2 P w) P w K mg base N qual scope f cd A outer s H E).stack) I.stack (λenv he b hb=>ay'.mpr ⟨env,he,hb⟩);obtain⟨t,he,_⟩:=hx.there;refine bT_ (s:={ s1 with heap:=h' }) (base:=PySem.W.hideAll s1.heap (frs (cxOf (CX2 P w) P w K mg base N qual scope f cd A outer s H E).stack)) (dd:=none) I.ok.frames rfl (λb o q=>hx.keeps _ _ (PySem.W.of_hideAll _ q)) (Heap.FunFrames.of_keeps (λb o q _=>⟨o,hx.keeps _ _ q,rfl⟩) ff) ?_ he rfl rfl rfl rfl rfl λh1 fl up=>?_
 ·cases q:(PySem.W.hideAll s1.heap (frs (cxOf (CX2 P w) P w K mg base N qual scope f cd A outer s H E).stack)).get? e with
  |none=>rfl
  |some o=>
   have:=PySem.W.of_hideAll _ q;rw[hx.new] at this;cases this
 ·exact cU_ (s1:={ s1 with heap:=h1 }) I rfl rfl I.bare Un.refl I.hok (λb o q hb _=>PySem.W.hideAll_get _ q hb) ff ((Heap.UpToSlots.of_keeps hx.keeps).trans up) fl hE
theorem Fun.okG{qual:Str}{st:Stmt}{f:Addr}{fd:Ae}{N ps:List Str}{k:Nat}{sp:Sp}(F:Fun K x qual st f fd)(S:aX' N ps (aW' st))(len:∀vs H Q E,sp vs H Q E->vs.length=ps.length)(hbody:∀(cdv:Aa) (A:Ah) (outer:List Env) (s:Ab) (H:Hp) (vs:List V) (Q:VK) (E:XK),Room k (A.deeper (envOfC qual (aW' st) s.heap.objs.size f cdv))->sp vs H Q E->
   bh' (CX2 P w) (cxOf (CX2 P w) P w K mg base N qual (aW' st) f cdv A outer s H E) E->RaisesO (cxOf (CX2 P w) P w K mg base N qual (aW' st) f cdv A outer s H E) E->ci' (cxOf (CX2 P w) P w K mg base N qual (aW' st) f cdv A outer s H E) E->
   ∃t,PSs (cxOf (CX2 P w) P w K mg base N qual (aW' st) f cdv A outer s H E) (a6' st) t/\t { nx:=λ_ H'=>Q .non H',rt:=Q } (start N vs) H):FnOk P w K mg base (CX2 P w) (k+1) f fd ps sp:=by
 obtain⟨oc,od,kV,doc,pm,an,cdv,ct,osl,rfl,lk,hcd⟩:=F.ex;refine iM_ lk hcd S len λA outer s H vs Q E hr hsp=>?_;obtain⟨t,h,q⟩:=hbody cdv A outer s H vs Q E hr hsp passes2 raisesO raises2;exact⟨t,h,q⟩
end
inductive cU' (K:F__) (xs:List V) (H:Hp) (Q:VK):Prop
 |mk:∀a C dd c cv b,xs=[.ref a,c]->clsV c=some cv->H a=some (exq a C dd)->ExcK K C->PySem.W.kitOne K (.ref C) cv=some b->Q (.bl b) H->cU' K xs H Q
theorem bQ_:bc' X (.builtin "isinstance") (cU' X.K):=by
 intro pins s σ H xs us Q I r h;obtain⟨a,C,dd,c,cv,b,rfl,hc,ha,k,e,q⟩:=h;obtain⟨u,w',rfl,ru,rw'⟩:=vals2 r;cases (show u=Value.ref a from ru);cases ez_ rw' hc;obtain⟨o,vs,h1,h2,_⟩:=(I.hok a _ ha).1;exact c__ (eX_ k) I.kIn ⟨o,h1,h2⟩ e nofun λtk=>⟨.bl b,H,I.tok tk,rfl,q⟩
variable{ps:List Str}{K:F__}{f:Addr}{fd:Ae}{k:Nat}{sp:Sp}{mg:Str->Option Aa}{base:Heap}
theorem FnOk.toX2(F:FnOk P w K mg base (CX1 P w) k f fd ps sp):FnOk P w K mg base (CX2 P w) k f fd ps (λvs H Q E=>sp vs H Q (λcls _ H'=>∀dd,E cls dd H')):=by
 refine⟨λvs H Q E h=>F.len vs H Q _ h,λA outer s H args us vs Q E h1 h2 h3 h4 h=>codeAny_mono (F.run A outer s H args us vs Q _ h1 h2 h3 h4 h) λr s' q=>?_⟩;cases r with
 |ok fl=>cases fl<;>exact q
 |error e=>
  obtain⟨a,cls,H',B,a0,e1,os,bare,un,hok,fl,i,hE⟩:=q;obtain⟨f1,f2,f3,oe,vs',T,oT,ts,g1,g2,g3,g4,g5,g6,g7,g8,g9⟩:=fl;exact⟨a,cls,H',B,a0,oe.dict,e1,os,bare,un,hok,⟨f1,f2,f3,oe,vs',T,oT,ts,g1,g2,g3,g4,g5,g6,g7,g8,g9,rfl⟩,i,hE _⟩
theorem eV_{st:Stmt}{t:TS}(h:PS X st t):PS X st (λD σ H=>∃d kvs o,H d=some (.frz o (.dK kvs))/\(∀o u,X.H₀ d≠some (.frz o u))/\t D σ (upd H d (.dK kvs))):=by
 intro pins s σ H D I q;obtain⟨d,kvs,o,hd,nf,q⟩:=q;exact h pins s σ _ D (I.thaw hd nf) q
theorem TyOf.same{H:Hp}{t:Aa}(s:Same H H')(h:TyOf K H v t):TyOf K H' v t:=by
 cases h with
 |non=>exact .non
 |bl x=>exact .bl x
 |int x=>exact .int x
 |str x=>exact .str x
 |flt x=>exact .flt x
 |lst e=>exact .lst (s _ _ e)
 |frz e=>exact .frz (s _ _ e)
 |tup e=>exact .tup (s _ _ e)
 |dK e=>exact .dK (s _ _ e)
 |dT e=>exact .dT (s _ _ e)
 |ins e a b c d f=>exact .ins (s _ _ e) a b c d f
theorem FnOk.two{CX:CXT}{sp1 sp2:Sp}(F:FnOk P w K mg base CX k f fd ps sp1)(G:FnOk P w K mg base CX k f fd ps sp2)(h:∀vs H Q E,sp vs H Q E->sp1 vs H Q E∨sp2 vs H Q E):FnOk P w K mg base CX k f fd ps sp:=
 ⟨λvs H Q E q=>(h vs H Q E q).elim (F.len vs H Q E) (G.len vs H Q E),λA outer s H args us vs Q E hr e b v q=>(h vs H Q E q).elim (F.run A outer s H args us vs Q E hr e b v) (G.run A outer s H args us vs Q E hr e b v)⟩
end L2
namespace Ev
open PySem L2
structure CalG (P:Ad) (w:Af) (K:F__) (mg:Str->Option Aa) (base:Heap) (k:Nat) (x:Str) (ps:List Str) (sp:Sp):Prop where
 ex:∃f fd,FnOk P w K mg base (CX2 P w) k f fd ps sp/\mg x=some (.ref f)/\PySem.W.keepIn K (.ref f)=true/\bL' K fd ps []
theorem cj_{X:Cx}{E:XK}{k:Nat}{x:Str}{ps:List Str}{sp:Sp}{p pos:Pos}{e:Expr}{es:List Expr}{t:TA}(c:CalG X.prog X.w X.K X.mg X.base k x ps sp)(hr:Room k X.A)(hx:bh' (CX2 X.prog X.w) X E)(ha:PA X (e::es) t)(hg:Gl X x:=by rfl)(hdb:(x == ("__debug__":Str))=false:=by decide)
  (he:starEach (e::es) X.env=(false,eval e X.env)::starEach es X.env:=by rfl) (hpl:(backTo pos (starEach es X.env)).any (·.1)=false:=by rfl):PE X (.Call (.Name x p) (e::es) [] pos) (tCall sp [] E t):=by
 obtain⟨f,fd,F,m,kp,b⟩:=c.ex;exact gi_ F hr hg m kp b .nil hx ha hdb he hpl
theorem hitL{α:Type}{p:α->Prop}{xs:List α}{r:Int}{n:Nat}(hn:xs.length=n)(h0:0<=r)(h1:r<(n:Int))(h:∀v∈xs,p v):∃v,atI xs r=some v/\p v:=by
 have hl:r.toNat<xs.length:=by omega
 refine⟨xs[r.toNat],?_,h _ (aS' hl)⟩;rw[bG_ h0 Z1,ab' hl]
variable{a l:Addr}
theorem stt.ne{H:Hp}(h:stt H l)(e:H a=none):a≠l:=by
 rintro rfl;obtain⟨xs,h⟩:=h.some;rw[e] at h;cases h
variable{H':Hp}
theorem But.snd{H:Hp}{o:HO}(h:But l H H')(e:H a=none):But l H (L2.upd H' a o):=λb u q n=>by
 rw[a7_ (a5_ q e)];exact h b u q n
theorem iteSF{c A B:Prop}[Decidable c](hc:¬c)(h:A):if (!decide c)=true then A else B:=by
 rw[a_7 hc];exact iteT h
def NoStd(K:F__)(H:Hp)(hs:Xa)(qs:List Pc)(fp:List Addr)(v:V):Prop:=(∃t,TyOf K H v t/\PySem.W.kitOne K t (.type "dict")=some false) ∨
 ∃(d:Addr) (ns:List Str) (g:Str->V) (x:Str->Option Str),v=.ref d/\d∉fp/\H d=some (.dK (mKV ns g))/\(∀n∈ns,StrV K H (g n) (x n)/\g n≠.ref d)/\((∃n∈ns,n∉qs.map (·.1)∨inB (hs.map (·.1)) (x n)=false)∨ns.length≠qs.length)
theorem StrV.same{K:F__}{H:Hp}{v:V}{x:Option Str}(h:StrV K H v x)(s:∀{t},TyOf K H v t->TyOf K H' v t):StrV K H' v x:=by
 cases x with
 |some x=>exact h
 |none=>
  obtain⟨t,a,b⟩:=h;exact⟨t,s a,b⟩
theorem jH_{K:F__}{d:Addr}{o:Obj}{kvs:List (Key × V)}{H:Hp}{v:V}{t:Aa}(f:Fz d o kvs H H')(hd:H d=some (.dK kvs))(h:TyOf K H v t)(n:v≠.ref d):TyOf K H' v t:=by
 cases h with
 |non=>exact .non
 |bl x=>exact .bl x
 |int x=>exact .int x
 |str x=>exact .str x
 |flt x=>exact .flt x
 |lst e=>exact .lst (f.sm _ _ (λz=>n (by rw[z])) e)
 |frz e=>exact .frz (f.sm _ _ (λz=>n (by rw[z])) e)
 |tup e=>exact .tup (f.sm _ _ (λz=>n (by rw[z])) e)
 |dK e=>exact .dK (f.sm _ _ (λz=>n (by rw[z])) e)
 |dT e=>exact .dT (f.sm _ _ (λz=>n (by rw[z])) e)
 |ins e a b c d' f'=>exact .ins (f.sm _ _ (λz=>n (by rw[z])) e) a b c d' f'
def RawS(K:F__)(H:Hp)(hs:Xa)(qs:List Pc)(v:V):Prop:=∃(d:Addr) (es:Array Ag) (ep:Nat) (ns:List Str) (f:Str->Str) (y x:V) (t:Aa),v=.ref d/\H d=some (rawH d es ep)/\Ent (kvP (mKV ns λn=>V.str (f n))++[(y,x)]) es/\(∀n∈ns,n∈qs.map (·.1)/\f n∈hs.map (·.1))/\TyOf K H y t/\PySem.W.kitOne K t (.type "str")=some false
def BadA(K:F__)(H:Hp)(hs:Xa)(qs:List Pc)(fp:List Addr)(v:V):Prop:=NoStd K H hs qs fp v∨RawS K H hs qs v
section
variable{P:Ad}{w:Af}{K:F__}{mg:Str->Option Aa}{base:Heap}
inductive cq' (K:F__) (CG CW CN:Addr) (vs:List V) (H:Hp) (E:XK):Prop
 |mk:∀(g p:Addr) (v:V) (hs:Xa) (ts:Xb) (qs:List Pc) (fp:List Addr),vs=[.ref g,v]->a2' K CG CW H g p hs ts qs fp->NoStd K H hs qs fp v->(∀H',Same H H'->E (.ref CN) none H')->cq' K CG CW CN vs H E
def spCStandN(K:F__)(CG CW CN:Addr):Sp:=λvs H _ E=>cq' K CG CW CN vs H E
theorem f9_{f CG CW CN:Addr}{fd:Ae}(F:Fun K "checked_stand" "checked_stand" bQ' f fd)(B:Bi mg)(R:Ref K mg "NoStand" CN)(T:TxtG K CG)(TW:Txt K mg CW)(cH:CalM P w K mg base CG 1 "has_piece" ["self","thing"] (bT' K CG CW))(cW:CalM P w K mg base CW 1 "has_hand" ["self","thing"] (bS' K CW))(cN:CalM P w K mg base CG 1 "names" ["self"] (bx' K CG CW)) :
  FnOk P w K mg base (CX1 P w) 2 f fd ["goods","stand"] (spCStandN K CG CW CN):=by
 refine F.okQ ba' (λvs H Q E h=>?_) (λcdv A outer s H vs Q E hr h own ps rs=>?_)
 ·obtain⟨g,p,v,hs,ts,qs,fp,rfl,_⟩:=h;rfl
 ·obtain⟨g,p,v,hs,ts,qs,fp,rfl,G,no,k⟩:=h;have hu:=b2_ hr;refine' ⟨_,?r0,?kk⟩
  case' r0=>refine' a3_ ?s1 ?r1
  case s1=>exact aj_ (ay_ (aB_ (a8_ aH_ (by rfl) B.isi PyProof.Rows.Boot.«isinstance» (a0_ (pv 1) (a0_ (aI_ (v:=.ty "dict") (by rfl) B.dict PyProof.Rows.Boot.«dict» rfl) a2_))))) (a4_ (bj_ rfl rs R.mg R.ex b_8 (by rfl) (a0_ ao_ a2_))) ad_
  case' r1=>refine' a3_ ?s2 ?r2
  case' s2=>refine' ej_ (aM_ own rfl ?i2 ?g2 ?b2)
  case i2=>exact bA_ (aT_ (pv 1))
  case g2=>exact bq_ rfl (ae_ (a9_ (i:=2) ba'.nd rfl (Or.inl rfl)) (ae_ (a9_ (i:=3) ba'.nd rfl (Or.inl rfl)) aN_))
  case b2=>exact a3_ (aj_ (ay_ (aB_ (bE_ cH T.cl hr (pv 0) (a0_ (pv 2) a2_)))) (a4_ (eV_ (bj_ rfl rs R.mg R.ex b_8 (by rfl) (a0_ ao_ a2_)))) ad_) (a4_ (aj_ (ay_ (aB_ (bE_ cW TW.cl hr (aO_ (pv 0) rfl) (a0_ (pv 3) a2_)))) (a4_ (eV_ (bj_ rfl rs R.mg R.ex b_8 (by rfl) (a0_ ao_ a2_)))) ad_))
  case' r2=>refine' a3_ ?s3 ?r3
  case s3=>exact ab_ (i:=4) ba'.nd rfl (Or.inl rfl) (e2_ cN T.cl hr (pv 0))
  case' r3=>refine' a3_ ?s4 ac_
  case s4=>exact aj_ (ah_ cL_ (a8_ dH_ (by rfl) B.len b_7 (a0_ (pv 1) a2_)) (a8_ ai_ (by rfl) B.len b_7 (a0_ (pv 4) a2_)) (nomark _)) (a4_ (bj_ rfl rs R.mg R.ex b_8 (by rfl) (a0_ ao_ a2_))) ad_
  case' kk=>skip
  have one:1<=sizeLine:=by decide
  rcases no with⟨t,ty,e⟩|⟨d,ns,gv,x,rfl,dfp,hd,sv,bad⟩
  ·exact⟨_,rfl,_,_,_,_,rfl,ty,e,_,rfl,iteT ⟨one,k H (Same.refl H)⟩⟩
  refine⟨_,rfl,_,_,_,_,rfl,.dK hd,rfl,_,rfl,iteF ?_⟩;refine⟨d,_,hd,?_⟩;refine⟨_,rfl,d,_,rfl,hd,λv hv=>?_⟩;obtain⟨s1,hv1⟩:=nw__ (o:=a1' v d) hv;have G1:=G.same s1;have hd1:=s1 _ _ hd;generalize upd H v (a1' v d)=H1 at s1 hv1 G1 hd1 ⊢;refine⟨v,d,_,rfl,hv1,hd1,λo=>?_⟩;refine bw_ (λi σ H'=>∃(v2 v3:Option V),σ=[some (.ref g),some (.ref d),v2,v3,none]/\Fz d o (mKV ns gv) H1 H'/\∀n∈ns.take i,n∈qs.map (·.1)/\inB (hs.map (·.1)) (x n)=true) ⟨none,none,rfl,Fz.start,by simp⟩ (λi σ H' _ ⟨_,_,_,z,_⟩=>z.at_) ?_ ?_
  ·rintro i ky y σ H2 hx ⟨v2,v3,rfl,fz,ok⟩ t ht;obtain⟨n,hn,rfl,rfl⟩:=cy_ hx;have nm:=ad' hn;have s2:=Same.new (o:=.tup [.str n,gv n]) ht;have fz2:=fz.step s2;have e2:upd H2 t (.tup [.str n,gv n]) t=some (.tup [.str n,gv n]):=a1_;show gTup _ _ _ _ _ (upd H2 t (.tup [.str n,gv n])) _;generalize upd H2 t (.tup [.str n,gv n])=H3 at s2 fz2 e2 ⊢;refine⟨t,_,rfl,.of e2,rfl,_,_,rfl,_,_,rfl,rfl,?_⟩;have G3:=fz2.goods hd1 G1 dfp;obtain⟨dx,dw,dy,vs,fpw,h1,h2,h3,h4,h5,m1,m2,m3,m4,m5⟩:=id G3.ex;obtain⟨dxw,d1,l2,d3,zs0,as,ef,w1,_⟩:=id h2.ex;have hno:(gflds p dw dy).lookup ("has_piece":Str)=none:=bg_ _ _ _ Z0 Z0 Z0;have hnw:(flds d1 l2 d3).lookup ("has_hand":Str)=none:=aS_ _ _ _ Z0 Z0 Z0;have nf:∀o u,H d≠some (.frz o u):=λo u z=>by rw[hd] at z;cases z
   refine⟨_,rfl,g,dx,_,rfl,h1,hno,_,rfl,g,p,.str n,some n,hs,ts,qs,fp,rfl,G3,rfl,_,rfl,?_⟩;by_cases c1:n∈qs.map (·.1)
   ·rw[show inB (qs.map (·.1)) (some n)=true from a_5 c1];refine iteF ?_;have tyv:StrV K H3 (gv n) (x n):=(sv n nm).1.same λh=>jH_ fz2 hd1 (h.same s1) (sv n nm).2;refine⟨_,rfl,g,CG,dx,_,_,rfl,h1,T.cl,T.nW,aW_ _ _ _,p,dxw,_,rfl,w1,hnw,_,rfl,p,gv n,x n,hs,ts,fpw,rfl,h2,tyv,_,rfl,?_⟩;by_cases c2:inB (hs.map (·.1)) (x n)=true
    ·rw[c2];refine iteF ⟨_,_,rfl,fz2,λm hm=>?_⟩;rw[aY_ hn] at hm;rcases aA'.mp hm with hm|hm
     ·exact ok m hm
     ·rw[List.mem_singleton.mp hm];exact⟨c1,c2⟩
    ·rw[show inB (hs.map (·.1)) (x n)=false by simpa using c2];exact iteT ⟨d,_,o,fz2.at_,nf,one,k _ (s1.trans (fz2.thaw hd1))⟩
   ·rw[show inB (qs.map (·.1)) (some n)=false from a_7 c1];exact iteT ⟨d,_,o,fz2.at_,nf,one,k _ (s1.trans (fz2.thaw hd1))⟩
  rintro σ H2 ⟨v2,v3,rfl,fz,ok⟩;refine⟨o,fz.at_,?_⟩;have s2:=s1.trans (fz.thaw hd1);have hd2:upd H2 d (.dK (mKV ns gv)) d=some (.dK (mKV ns gv)):=a1_;generalize upd H2 d (.dK (mKV ns gv))=H3 at s2 hd2 ⊢;have G3:=G.same s2;obtain⟨dx,dw,dy,vs,fpw,h1,h2,h3,h4,h5,m1,m2,m3,m4,m5⟩:=id G3.ex;refine⟨_,rfl,g,dx,_,rfl,h1,bg_ _ _ _ Z0 Z0 Z0,g,p,hs,ts,qs,fp,rfl,G3,λln hln=>?_⟩;obtain⟨s3,e3⟩:=nw__ (o:=.lst ((qs.map (·.1)).map V.str)) hln;have hd3:=s3 _ _ hd2;generalize upd H3 ln (.lst ((qs.map (·.1)).map V.str))=H4 at s3 e3 hd3 ⊢;refine⟨_,rfl,d,_,rfl,hd3,_,rfl,ln,_,rfl,.inl (.of e3),rfl,_,rfl,?_⟩;rcases bad with⟨n,hn,nb⟩|ne
  ·rw[av_,ar'] at ok;obtain⟨a,b⟩:=ok n hn;rcases nb with nb|nb
   ·exact absurd a nb
   ·rw[b] at nb;cases nb
  ·refine iteSF (λz=>ne ?_) ⟨one,k _ (s2.trans s3)⟩;rw[av_,aa',aa'] at z
   injection z with z
   omega
inductive cm' (K:F__) (CG CW CN:Addr) (vs:List V) (H:Hp) (E:XK):Prop
 |mk:∀(g p:Addr) (v:V) (hs:Xa) (ts:Xb) (qs:List Pc) (fp:List Addr),vs=[.ref g,v]->a2' K CG CW H g p hs ts qs fp->RawS K H hs qs v->(∀H',Same H H'->E (.ref CN) none H')->cm' K CG CW CN vs H E
def spCStandM(K:F__)(CG CW CN:Addr):Sp:=λvs H _ E=>cm' K CG CW CN vs H E
theorem fg_{f CG CW CN:Addr}{fd:Ae}(F:Fun K "checked_stand" "checked_stand" bQ' f fd)(B:Bi mg)(R:Ref K mg "NoStand" CN)(T:TxtG K CG)(TW:Txt K mg CW)(cH:CalM P w K mg base CG 1 "has_piece" ["self","thing"] (bT' K CG CW))(cW:CalM P w K mg base CW 1 "has_hand" ["self","thing"] (bS' K CW)) :
  FnOk P w K mg base (CX1 P w) 2 f fd ["goods","stand"] (spCStandM K CG CW CN):=by
 refine F.okQ ba' (λvs H Q E h=>?_) (λcdv A outer s H vs Q E hr h own ps rs=>?_)
 ·obtain⟨g,p,v,hs,ts,qs,fp,rfl,_⟩:=h;rfl
 ·obtain⟨g,p,v,hs,ts,qs,fp,rfl,G,no,k⟩:=h;have hu:=b2_ hr;refine' ⟨_,?r0,?kk⟩
  case' r0=>refine' a3_ ?s1 ?r1
  case s1=>exact aj_ (ay_ (aB_ (a8_ ge_ (by rfl) B.isi PyProof.Rows.Boot.«isinstance» (a0_ (pv 1) (a0_ (aI_ (v:=.ty "dict") (by rfl) B.dict PyProof.Rows.Boot.«dict» rfl) a2_))))) ac_ ad_
  case' r1=>refine' a3_ ?s2 ac_
  case' s2=>refine' aM_ own rfl ?i2 ?g2 ?b2
  case i2=>exact gd_ (gG_ (pv 1))
  case g2=>exact bq_ rfl (ae_ (a9_ (i:=2) ba'.nd rfl (Or.inl rfl)) (ae_ (a9_ (i:=3) ba'.nd rfl (Or.inl rfl)) aN_))
  case b2=>exact a3_ (aj_ (ay_ (aB_ (bE_ cH T.cl hr (pv 0) (a0_ (pv 2) a2_)))) (a4_ (bj_ rfl rs R.mg R.ex b_8 (by rfl) (a0_ ao_ a2_))) ad_) (a4_ (aj_ (ay_ (aB_ (bE_ cW TW.cl hr (aO_ (pv 0) rfl) (a0_ (pv 3) a2_)))) ac_ ad_))
  case' kk=>skip
  have one:1<=sizeLine:=by decide
  obtain⟨d,es,ep,ns,f,y,x,ty,rfl,hd,en,ok,tyy,ey⟩:=no;refine⟨_,rfl,d,es,ep,rfl,hd,_,rfl,iteF ?_⟩;refine⟨_,rfl,d,es,ep,rfl,hd,λv hv=>?_⟩;obtain⟨s1,hv1⟩:=nw__ (o:=a1' v d) hv;have G1:=G.same s1;have hd1:=s1 _ _ hd;have ty1:=tyy.same s1;generalize upd H v (a1' v d)=H1 at s1 hv1 G1 hd1 ty1 ⊢;refine⟨v,d,_,es,ep,rfl,hv1,hd1,en,?_⟩
  have hl:(kvP (mKV ns λn=>V.str (f n))++[(y,x)]).length=ns.length+1:=by
   rw[av',kvP,aa',av_];rfl
  refine if_ en (λi σ H'=>i<=ns.length/\∃(v2 v3:Option V),σ=[some (.ref g),some (.ref d),v2,v3,none]/\Same H1 H') ⟨aC' _,none,none,rfl,Same.refl _⟩ (λi σ H' _ ⟨_,_,_,_,z⟩=>z _ _ hd1) ?_ (λσ H' ⟨z,_⟩=>by rw[hl] at z;omega);rintro i ky xv σ H2 hx ⟨hi,v2,v3,rfl,sm⟩ t ht;obtain⟨s2,e2⟩:=nw__ (o:=.tup [ky,xv]) ht;generalize upd H2 t (.tup [ky,xv])=H3 at s2 e2 ⊢;refine⟨t,_,rfl,.of e2,rfl,_,_,rfl,_,_,rfl,rfl,?_⟩;have s13:=sm.trans s2;have G3:=G1.same s13;obtain⟨dx,dw,dy,vs,fpw,h1,h2,h3,h4,h5,m1,m2,m3,m4,m5⟩:=id G3.ex;obtain⟨dxw,d1,l2,d3,zs0,as,ef,w1,_⟩:=id h2.ex;have hno:(gflds p dw dy).lookup ("has_piece":Str)=none:=bg_ _ _ _ Z0 Z0 Z0;have hnw:(flds d1 l2 d3).lookup ("has_hand":Str)=none:=aS_ _ _ _ Z0 Z0 Z0;by_cases c:i<ns.length
  ·obtain⟨n,hn,rfl,rfl⟩:∃n∈ns,ky=.str n/\xv=.str (f n):=by
    rw[List.getElem?_append_left (by rw[kvP,aa',av_];exact c),kvP,ao',mKV,ao',ab' c] at hx;have hx:=a_9 hx;exact⟨ns[i],aS' c,(b_5 Prod.fst hx).symm,(b_5 Prod.snd hx).symm⟩
   obtain⟨c1,c2⟩:=ok n hn;refine⟨_,rfl,g,dx,_,rfl,h1,hno,_,rfl,g,p,.str n,some n,hs,ts,qs,fp,rfl,G3,rfl,_,rfl,?_⟩;rw[show inB (qs.map (·.1)) (some n)=true from a_5 c1];refine iteF ?_;refine⟨_,rfl,g,CG,dx,_,_,rfl,h1,T.cl,T.nW,aW_ _ _ _,p,dxw,_,rfl,w1,hnw,_,rfl,p,.str (f n),some (f n),hs,ts,fpw,rfl,h2,rfl,_,rfl,?_⟩;rw[show inB (hs.map (·.1)) (some (f n))=true from a_5 c2];exact iteF ⟨c,_,_,rfl,s13⟩
  ·have ei:i=ns.length:=by omega
   subst ei;rw[List.getElem?_append_right (by rw[kvP,aa',av_];exact ae' _)] at hx;rw[show (kvP (mKV ns λn=>V.str (f n))).length=ns.length by rw[kvP,aa',av_],Nat.sub_self] at hx;have hx:=a_9 hx;cases (b_5 Prod.fst hx:y=ky);refine⟨_,rfl,g,dx,_,rfl,h1,hno,_,rfl,g,p,y,none,hs,ts,qs,fp,rfl,G3,⟨ty,ty1.same s13,ey⟩,_,rfl,?_⟩;exact iteT ⟨one,k _ (s1.trans s13)⟩
inductive spBadI (K:F__) (CG CW CN:Addr) (vs:List V) (H:Hp) (E:XK):Prop
 |mk:∀(g p:Addr) (v:V) (hs:Xa) (ts:Xb) (qs:List Pc) (fp:List Addr),vs=[.ref g,v]->a2' K CG CW H g p hs ts qs fp->BadA K H hs qs fp v->(∀dd H',Same H H'->E (.ref CN) dd H')->spBadI K CG CW CN vs H E
def bK'(K:F__)(CG CW CN:Addr):Sp:=λvs H _ E=>spBadI K CG CW CN vs H E
theorem d5_{f CG CW CN:Addr}{fd:Ae}(F:Fun K "checked_stand" "checked_stand" bQ' f fd)(B:Bi mg)(R:Ref K mg "NoStand" CN)(T:TxtG K CG)(TW:Txt K mg CW)(cH:CalM P w K mg base CG 1 "has_piece" ["self","thing"] (bT' K CG CW))(cW:CalM P w K mg base CW 1 "has_hand" ["self","thing"] (bS' K CW))(cN:CalM P w K mg base CG 1 "names" ["self"] (bx' K CG CW)) :
  FnOk P w K mg base (CX2 P w) 2 f fd ["goods","stand"] (bK' K CG CW CN):=by
 refine FnOk.two (f9_ F B R T TW cH cW cN).toX2 (fg_ F B R T TW cH cW).toX2 λvs H Q E h=>?_;obtain⟨g,p,v,hs,ts,qs,fp,rfl,G,b|b,k⟩:=h
 ·exact .inl ⟨g,p,v,hs,ts,qs,fp,rfl,G,b,λH' s dd=>k dd H' s⟩
 ·exact .inr ⟨g,p,v,hs,ts,qs,fp,rfl,G,b,λH' s dd=>k dd H' s⟩
end
section
variable{P:Ad}{w:Af}{K:F__}{mg:Str->Option Aa}{base:Heap}
theorem g8_{f CG CW CN:Addr}{fd:Ae}(F:Fun K "loads" "loads" c9' f fd)(cC:CalG P w K mg base 2 "checked_stand" ["goods","stand"] (bK' K CG CW CN))(cL:Cal P w K mg base 3 "loads_at" ["goods","placed"] (bf' K CG CW)):FnOk P w K mg base (CX2 P w) 4 f fd ["goods","stand"] (bK' K CG CW CN):=by
 refine F.okG scLoads (λvs H Q E h=>?_) (λcdv A outer s H vs Q E hr h hp ro rm=>?_)
 ·obtain⟨g,p,v,hs,ts,qs,fp,rfl,_⟩:=h;rfl
 ·obtain⟨g,p,v,hs,ts,qs,fp,rfl,G,b,k⟩:=h;refine⟨_,a4_ (aa_ (af_ cL hr (a0_ (pv 0) (a0_ (cj_ cC (hr.mono (by decide)) hp (a0_ (pv 0) (a0_ (pv 1) a2_))) a2_)))),?_⟩;exact⟨_,rfl,_,rfl,_,rfl,g,p,v,hs,ts,qs,fp,rfl,G,b,k⟩
theorem ee_{f CG CW CN:Addr}{fd:Ae}(F:Fun K "heights" "heights" b0' f fd)(cC:CalG P w K mg base 2 "checked_stand" ["goods","stand"] (bK' K CG CW CN))(cL:Cal P w K mg base 4 "heights_at" ["goods","placed"] (bi' K CG CW)):FnOk P w K mg base (CX2 P w) 5 f fd ["goods","stand"] (bK' K CG CW CN):=by
 refine F.okG cQ' (λvs H Q E h=>?_) (λcdv A outer s H vs Q E hr h hp ro rm=>?_)
 ·obtain⟨g,p,v,hs,ts,qs,fp,rfl,_⟩:=h;rfl
 ·obtain⟨g,p,v,hs,ts,qs,fp,rfl,G,b,k⟩:=h;refine⟨_,a4_ (aa_ (af_ cL hr (a0_ (pv 0) (a0_ (cj_ cC (hr.mono (by decide)) hp (a0_ (pv 0) (a0_ (pv 1) a2_))) a2_)))),?_⟩;exact⟨_,rfl,_,rfl,_,rfl,g,p,v,hs,ts,qs,fp,rfl,G,b,k⟩
theorem fF_{f CG CW CN:Addr}{fd:Ae}(F:Fun K "sum_of" "sum_of" dg' f fd)(cC:CalG P w K mg base 2 "checked_stand" ["goods","stand"] (bK' K CG CW CN))(cL:Cal P w K mg base 5 "sum_at" ["goods","placed"] (b7' K CG CW)):FnOk P w K mg base (CX2 P w) 6 f fd ["goods","stand"] (bK' K CG CW CN):=by
 refine F.okG scSumOf (λvs H Q E h=>?_) (λcdv A outer s H vs Q E hr h hp ro rm=>?_)
 ·obtain⟨g,p,v,hs,ts,qs,fp,rfl,_⟩:=h;rfl
 ·obtain⟨g,p,v,hs,ts,qs,fp,rfl,G,b,k⟩:=h;refine⟨_,a4_ (aa_ (af_ cL hr (a0_ (pv 0) (a0_ (cj_ cC (hr.mono (by decide)) hp (a0_ (pv 0) (a0_ (pv 1) a2_))) a2_)))),?_⟩;exact⟨_,rfl,_,rfl,_,rfl,g,p,v,hs,ts,qs,fp,rfl,G,b,k⟩
theorem fi_{f CG CW CN:Addr}{fd:Ae}(F:Fun K "spread" "spread" cM' f fd)(cC:CalG P w K mg base 2 "checked_stand" ["goods","stand"] (bK' K CG CW CN))(cL:Cal P w K mg base 6 "spread_at" ["goods","placed"] (bo' K CG CW)):FnOk P w K mg base (CX2 P w) 7 f fd ["goods","stand"] (bK' K CG CW CN):=by
 refine F.okG c7' (λvs H Q E h=>?_) (λcdv A outer s H vs Q E hr h hp ro rm=>?_)
 ·obtain⟨g,p,v,hs,ts,qs,fp,rfl,_⟩:=h;rfl
 ·obtain⟨g,p,v,hs,ts,qs,fp,rfl,G,b,k⟩:=h;refine⟨_,a4_ (aa_ (af_ cL hr (a0_ (pv 0) (a0_ (cj_ cC (hr.mono (by decide)) hp (a0_ (pv 0) (a0_ (pv 1) a2_))) a2_)))),?_⟩;exact⟨_,rfl,_,rfl,_,rfl,g,p,v,hs,ts,qs,fp,rfl,G,b,k⟩
theorem gg_{f CG CW CN:Addr}{fd:Ae}(F:Fun K "steepest" "steepest" db' f fd)(cC:CalG P w K mg base 2 "checked_stand" ["goods","stand"] (bK' K CG CW CN))(cV:Cal P w K mg base 4 "levels_at" ["goods","placed"] (bp' K CG CW)):FnOk P w K mg base (CX2 P w) 5 f fd ["goods","stand"] (bK' K CG CW CN):=by
 refine F.okG b4' (λvs H Q E h=>?_) (λcdv A outer s H vs Q E hr h hp ro rm=>?_)
 ·obtain⟨g,p,v,hs,ts,qs,fp,rfl,_⟩:=h;rfl
 ·obtain⟨g,p,v,hs,ts,qs,fp,rfl,G,b,k⟩:=h;refine⟨_,a3_ (ab_ (i:=2) b4'.nd rfl (Or.inr rfl) (af_ cV hr (a0_ (pv 0) (a0_ (cj_ cC (hr.mono (by decide)) hp (a0_ (pv 0) (a0_ (pv 1) a2_))) a2_)))) ac_,?_⟩;exact⟨_,rfl,_,rfl,_,rfl,g,p,v,hs,ts,qs,fp,rfl,G,b,k⟩
inductive spPAtBI (K:F__) (CG CW CN CH:Addr) (vs:List V) (H:Hp) (E:XK):Prop
 |mk:∀(g p:Addr) (v h:V) (hs:Xa) (ts:Xb) (qs:List Pc) (fp:List Addr),vs=[.ref g,v,h]->a2' K CG CW H g p hs ts qs fp->((BadA K H hs qs fp v/\∀dd H',Same H H'->E (.ref CN) dd H')∨∃(d:Addr) (ns:List Str) (f:Str->Str) (x:Option Str),v=.ref d/\Std K CG CW H g p d hs ts qs fp ns f/\StrV K H h x/\inB (hs.map (·.1)) x=false/\∀dd H',Same H H'->E (.ref CH) dd H')->spPAtBI K CG CW CN CH vs H E
def spPAtB(K:F__)(CG CW CN CH:Addr):Sp:=λvs H _ E=>spPAtBI K CG CW CN CH vs H E
def spCSB(K:F__)(CG CW CN:Addr):Sp:=λvs H Q E=>be' K CG CW vs H Q E∨bK' K CG CW CN vs H Q E
theorem iE_{f CG CW CN CH:Addr}{fd:Ae}(F:Fun K "pieces_at" "pieces_at" bH' f fd)(R:Ref K mg "NoHand" CH)(T:TxtG K CG)(TW:Txt K mg CW)(cC:CalG P w K mg base 2 "checked_stand" ["goods","stand"] (spCSB K CG CW CN))(cW:CalM P w K mg base CW 1 "has_hand" ["self","thing"] (bS' K CW)):FnOk P w K mg base (CX2 P w) 3 f fd ["goods","stand","hand"] (spPAtB K CG CW CN CH):=by
 refine F.okG bw' (λvs H Q E h=>?_) (λcdv A outer s H vs Q E hr h hp ro rm=>?_)
 ·obtain⟨g,p,v,h,hs,ts,qs,fp,rfl,_⟩:=h;rfl
 ·obtain⟨g,p,v,h,hs,ts,qs,fp,rfl,G,b⟩:=h;refine' ⟨_,?r0,?kk⟩
  case' r0=>refine' a3_ ?s1 (a3_ ?s2 ac_)
  case s1=>exact ab_ (i:=3) bw'.nd rfl (Or.inr rfl) (cj_ cC hr hp (a0_ (pv 0) (a0_ (pv 1) a2_)))
  case s2=>exact aj_ (ay_ (aB_ (bE_ cW TW.cl (hr.mono (by decide)) (aO_ (pv 0) rfl) (a0_ (pv 2) a2_)))) (a4_ (bj_ rfl rm R.mg R.ex b_8 (by rfl) (a0_ ao_ a2_))) ad_
  case' kk=>skip
  rcases b with⟨b,k⟩|⟨d,ns,f,x,rfl,S,sv,no,k⟩
  ·exact⟨_,rfl,_,rfl,.inr ⟨g,p,v,hs,ts,qs,fp,rfl,G,b,k⟩⟩
  ·refine⟨_,rfl,_,rfl,.inl ⟨g,p,d,hs,ts,qs,fp,ns,f,rfl,S.G,S.dfp,S.hd,S.ok,S.nd,S.h64,λd1 H1 s1 n1 e1=>?_⟩⟩;have G1:=S.G.same s1;obtain⟨dx,dw,dy,vs,fpw,h1,h2,h3,h4,h5,m1,m2,m3,m4,m5⟩:=id G1.ex;obtain⟨dxw,d1',l2,d3,zs0,as,ef,w1,_⟩:=id h2.ex;have hnw:(flds d1' l2 d3).lookup ("has_hand":Str)=none:=aS_ _ _ _ Z0 Z0 Z0;refine setG ?_;dsimp only;refine⟨_,rfl,g,CG,dx,_,_,rfl,h1,T.cl,T.nW,aW_ _ _ _,p,dxw,_,rfl,w1,hnw,_,rfl,p,h,x,hs,ts,fpw,rfl,h2,sv.same λt=>t.same s1,_,rfl,?_⟩;rw[no];exact iteT ⟨by show 1<=sizeLine;decide,k _ _ s1⟩
end
end Ev
namespace L2
open PySem PySem.Spec PySem.Calls PyProof.Rows PySem.W
section
variable{X:Cx}{i:Nat}{x x0 n n0:Str}{D D0 C C2:Addr}{np np0 hpos hpos0 pos:Pos}{b₀ c₀:Stmt}{suite suite0 body:List Stmt}{tb:XK->TS}{ts ts2:TS}{rest:List ExceptHandler}
theorem fk_{pins:List (Addr × Obj)}{σ:St}{H:Hp}{s s':Ab}{e:Aa}{R:Ends}(hN:X.N.Nodup)(hi:X.N[i]? = some n)(hl:X.env.scope.names.lookup n=some .local)(hst:X.stack=X.env::X.outer)(hfr:X.env.frame=some X.env.locals)
  (hg0:Gl X x0) (hm0:X.mg x0=some (.ref D0)) (hx0:PySem.W.exmOne X.K (.ref C) (.ref D0)=some false) (hg:Gl X x) (hm:X.mg x=some (.ref D)) (hx:PySem.W.exmOne X.K (.ref C) (.ref D)=some true) (hs:∀a,PSs (X.inX a).nox (b₀::suite) ts) (I:Inv X pins σ H s)
  (hc:CX2 X.prog X.w X.stack H s (XE X i C ts R) e s') (hd:(x == ("__debug__":Str))=false:=by decide) (hd0:(x0 == ("__debug__":Str))=false:=by decide) :
  wpAny (model X.prog X.w) X.A (noteFrame e X.env) (λ_ s₂=>wpAny (model X.prog X.w) X.A (setFlight e none) (λ_ s₃=>
   wpAny (model X.prog X.w) X.A (handleBy e X.env (.ExceptHandler (some (.Name x0 np0)) (some n0) (c₀::suite0) hpos0::.ExceptHandler (some (.Name x np)) (some n) (b₀::suite) hpos::rest)) (SP X pins R) X.xe s₃) X.xe s₂) X.xe s':=by
 obtain⟨a,cls,H',B,a0,dd,rfl,os,bare,un,hok,fl,i',rfl,hE⟩:=hc;have fr:=c3_ I un;have ff:=fl.2.2.1;refine by_ (base:=B) (by rw[I.ok.frames,hst]) hfr (by rw[<- hst];exact fl) λh₅ fl5 up45=>?_;rw[<- hst] at fl5;have un5:=b5_ un ff i' fl5.1 up45;have hok5:=aU_ hok fr i' fl5.1;have in5:=b6_ hok un i' fl5.1;have I5:Inv X pins σ H' { s' with heap:=h₅ }:=I.call' (s':={ s' with heap:=h₅ }) os un5 hok5 bare (λb z=>absurd z Z2);have J5:=I5.inX a;obtain⟨oe,vs5,he5,hce,_⟩:=fl5.obj;refine wpAny_handleBy_cons (codeAny_handlers_test (bO_ (X:=X.inX a) J5 hg0 hm0 ?_ hd0)) (by intro q;cases q);refine (PySem.W.exm_one (K:=X.K) J5.kIn (by subst_eqs;exact hce▸(PySem.W.Looks.ld he5).andThen .now) hx0).at ?_;show wpAny _ _ (handleBy _ _ _) _ _ _;refine wpAny_handleBy_cons (codeAny_handlers_test (bO_ (X:=X.inX a) J5 hg hm ?_ hd)) (by intro q;cases q);refine (PySem.W.exm_one (K:=X.K) J5.kIn (by subst_eqs;exact hce▸(PySem.W.Looks.ld he5).andThen .now) hx).at ?_;refine codeAny_handlers_suite_as ?_;refine ce_ (base:=B) (by exact fl5) λh₆ fl6 up6=>?_;have ff5:=fl5.2.2.1;have un6:=b5_ un5 ff5 in5 fl6.1 up6;have hok6:=aU_ hok5 fr in5 fl6.1;have in6:=b6_ hok5 un5 in5 fl6.1;have I6:Inv X pins σ H' { s' with heap:=h₆ }:=I.call' (s':={ s' with heap:=h₆ }) os un6 hok6 bare (λb z=>absurd z Z2);obtain⟨ox,vs,hx6,hcx,hdx,hddx⟩:=fl6.obj
 have nfr:a∉frs X.stack:=λhm=>by
  obtain⟨_,o,ho,d⟩:=fl6.2.2.1.mem hm;have ho:h₆.get? a=some o:=ho;rw[hx6] at ho;cases ho;exact d _ hdx
 have nB:B.get? a=none:=fl6.2.1
 have nH:H' a=none:=by
  cases q:H' a with
  |none=>rfl
  |some u=>
   have z:=in6 a ox hx6 nfr (.inl (by rw[q];rfl));rw[nB] at z;cases z
 have nS:s.heap.get? a=none:=by
  cases q:s.heap.get? a with
  |none=>rfl
  |some u=>
   have z:=in6 a ox hx6 nfr (.inr ⟨u,q⟩);rw[nB] at z;cases z
 have ntr:∀c,H' c≠none->c≠a:=λc z q=>z (q▸nH)
 have un7:Un (frs X.stack) [] H (upd H' a (exq a C dd)) s.heap h₆:=
  ⟨un6.keep,un6.slot,λb o q m z=>by
   rw[a7_ (λy=>by rw[y,nS] at q;cases q)];exact un6.free b o q m z,un6.there,λb xs q=>by
   have:=un6.tups b xs q;rw[a7_ (ntr b (by rw[this];simp))];exact this,λb o u q=>by
   have:=un6.frzs b o u q;rw[a7_ (ntr b (by rw[this];simp))];exact this,λb p q=>by
   obtain⟨more,this⟩:=un6.tbls b p q;exact⟨more,by rw[a7_ (ntr b (by rw[this];simp))];exact this⟩⟩
 have hok7:HOk X.prog X.w (upd H' a (exq a C dd)) h₆:=λb u q=>by
  by_cases hb:b=a
  ·subst hb;rw[a1_] at q;cases q;exact hV_ hx6 hcx hddx hdx
  ·rw[a7_ hb] at q;exact (hok6 b u q).stay (λ_ _ _ z=>z) (λc z=>by rw[a7_ (ntr c (by rw[z];simp))];exact z) λc xs z=>by rw[a7_ (ntr c (by rw[z];simp))];exact z
 have I7:Inv X pins σ (upd H' a (exq a C dd)) { s' with heap:=h₆ }:=I.call' (s':={ s' with heap:=h₆ }) os un7 hok7 bare (λb z=>absurd z Z2);refine cl_ (X:=X.inX a) (v:=.ref a) (I7.inX a) hN hi (.inl hl) rfl (λs8 I8=>?_) (.inr hl);refine wpAny_mono (hs a pins s8 _ _ _ (I8.wish _) (hE σ a I.len nH)) (λf s9 q=>?_) λ_ _ z=>False.elim z;have q:=q.unwish;show wpAny _ _ _ _ _ _;cases f with
 |next=>
  obtain⟨σ',H9,I9,q⟩:=q;exact br_ (X:=X) (I9.outX I.ok) hN hi hl λs10 I10=>⟨_,_,I10,q⟩
 |brk=>
  obtain⟨σ',H9,I9,q⟩:=q;exact br_ (X:=X) (I9.outX I.ok) hN hi hl λs10 I10=>⟨_,_,I10,q⟩
 |cont=>
  obtain⟨σ',H9,I9,q⟩:=q;exact br_ (X:=X) (I9.outX I.ok) hN hi hl λs10 I10=>⟨_,_,I10,q⟩
 |ret u=>
  obtain⟨v,σ',H9,I9,r,q⟩:=q;exact br_ (X:=X) (I9.outX I.ok) hN hi hl λs10 I10=>⟨v,_,_,I10,r,q⟩
def XEA(X:Cx)(i:Nat)(C C2:Addr)(ts ts2:TS)(R:Ends):XK:=λcls dd H'=>XE X i C ts R cls dd H'∨XE X i C2 ts2 R cls dd H'
def tTryA(X:Cx)(i:Nat)(C C2:Addr)(tb:XK->TS)(ts ts2:TS):TS:=λD σ H=>tb (XEA X i C C2 ts ts2 D) D σ H
theorem ih_(hN:X.N.Nodup)(hi:X.N[i]? = some n)(hl:X.env.scope.names.lookup n=some .local)(hst:X.stack=X.env::X.outer)(hfr:X.env.frame=some X.env.locals)
  (hg0:Gl X x0) (hm0:X.mg x0=some (.ref D0)) (hx:PySem.W.exmOne X.K (.ref C) (.ref D0)=some true) (hg:Gl X x) (hm:X.mg x=some (.ref D)) (hx1:PySem.W.exmOne X.K (.ref C2) (.ref D0)=some false) (hx2:PySem.W.exmOne X.K (.ref C2) (.ref D)=some true)
  (hb:∀(E:XK) (W:Aa->Ab->Prop) (pn:List (Addr × Obj)),bh' (CX2 X.prog X.w) (X.atW W pn) E->PSs (X.atW W pn) body (tb E)) (hs:∀a,PSs (X.inX a).nox (c₀::suite0) ts) (hs2:∀a,PSs (X.inX a).nox (b₀::suite) ts2) (hd0:(x0 == ("__debug__":Str))=false:=by decide) (hd:(x == ("__debug__":Str))=false:=by decide) :
  PS X (.Try body [.ExceptHandler (some (.Name x0 np0)) (some n) (c₀::suite0) hpos0,.ExceptHandler (some (.Name x np)) (some n) (b₀::suite) hpos] [] [] pos) (tTryA X i C C2 tb ts ts2):=by
 intro pins s σ H R I h;have hb':=hb (XEA X i C C2 ts ts2 R) (λe s'=>∃σ H s,Inv X pins σ H s/\CX2 X.prog X.w X.stack H s (XEA X i C C2 ts ts2 R) e s') (X.pn++pins) (λp2 σ2 H2 s2 e s' I2 hc=>⟨σ2,H2,s2,I2.ofAt I.ok,hc⟩);refine wpAny_Try_except (wpAny_mono (hb' [] s σ H R (I.toAt _) h) (λf s1 q=>?_) λe s1 ⟨σ',H',s0,I0,hc⟩=>?_)
 ·cases f with
  |next=>
   obtain⟨σ',H',I',q⟩:=q;exact wpAny_execs_nil ⟨σ',H',I'.ofAt I.ok,q⟩
  |ret v=>
   obtain⟨v',σ',H',I',r,q⟩:=q;exact⟨v',σ',H',I'.ofAt I.ok,r,q⟩
  |brk=>
   obtain⟨σ',H',I',q⟩:=q;exact⟨σ',H',I'.ofAt I.ok,q⟩
  |cont=>
   obtain⟨σ',H',I',q⟩:=q;exact⟨σ',H',I'.ofAt I.ok,q⟩
 ·obtain⟨a,cls,H2,B,a0,dd,h1,h2,h3,h4,h5,h6,h7,hE|hE⟩:=hc
  ·exact f4_ hN hi hl hst hfr hg0 hm0 hx hs I0 ⟨a,cls,H2,B,a0,dd,h1,h2,h3,h4,h5,h6,h7,hE⟩ hd0
  ·exact fk_ hN hi hl hst hfr hg0 hm0 hx1 hg hm hx2 hs2 I0 ⟨a,cls,H2,B,a0,dd,h1,h2,h3,h4,h5,h6,h7,hE⟩ hd hd0
end
theorem eG_:∀{cs:List V} {cvs us:List Aa},Vals cs us->cs.map clsV=cvs.map some->us=cvs
 |_,[],_,.nil,_=>rfl
 |_,_::_,_,.nil,h=>by cases h
 |_,[],_,.cons _ _,h=>by cases h
 |_,c::cvs,_,.cons r rs,h=>by
  obtain⟨h1,h2⟩:=c_3 h;rw[ez_ r h1,eG_ rs h2]
structure LamScope (ps fvs:List Str) (scope:Scope):Prop where
 nd:(ps++fvs).Nodup
 kind:scope.kind=.function
 co:scope.isCoroutine=false
 gen:scope.isGenerator=false
 par:∀p∈ps,scope.names.lookup p=some .local
 fv:∀x∈fvs,scope.names.lookup x=some .free
 all:∀x,scope.names.lookup x=some .free->x∈fvs
 nocell:∀x∈scope.names,x.2≠.cell
structure CellsAre (fvs:List Str) (cl:List (Str × Addr)) (gs:List V) (h:Heap):Prop where
 inj:∀x y c,cl.lookup x=some c->cl.lookup y=some c->x=y
 has:∀x∈fvs,∃c,cl.lookup x=some c
 all:∀x c,cl.lookup x=some c->∃v,h.IsCell c v
 is:∀(i:Nat) x v,fvs[i]? = some x->gs[i]? = some v->∃c u,cl.lookup x=some c/\RelV v u/\h.IsCell c (some u)
section
variable{cs:List (Addr × Obj)}{H H':Hp}{b:Addr}{o:Obj}{u:HO}
variable{P:Ad}{w:Af}{h:Heap}
end
section
variable{X:Cx}{pins:List (Addr × Obj)}{σ:St}{H:Hp}{s s':Ab}{cs:List (Addr × Obj)}
end
structure CellsOf (fvs:List Str) (cl:List (Str × Addr)) (cs:List (Addr × Obj)) (gs:List V):Prop where
 len:gs.length=fvs.length
 inj:∀x y c,cl.lookup x=some c->cl.lookup y=some c->x=y
 has:∀x∈fvs,∃c,cl.lookup x=some c
 all:∀x c,cl.lookup x=some c->∃o v,cs.lookup c=some o/\o.data=.cell v
 is:∀(i:Nat) x v,fvs[i]? = some x->gs[i]? = some v->∃c o u,cl.lookup x=some c/\cs.lookup c=some o/\o.data=.cell (some u)/\RelV v u
inductive cT' (K:F__) (xs:List V) (H:Hp) (Q:VK):Prop
 |mk:∀(a tp C:Addr) (dd:Option Addr) (cs:List V) (cvs:List Aa) (b:Bool),xs=[.ref a,.ref tp]->H tp=some (.tup cs)->cs.map clsV=cvs.map some->H a=some (exq a C dd)->ExcK K C->PySem.W.kitAny K (.ref C) cvs=some b->Q (.bl b) H->cT' K xs H Q
variable{X:Cx}
theorem d6_:bc' X (.builtin "isinstance") (cT' X.K):=by
 intro pins s σ H xs us Q I r h;obtain⟨a,tp,C,dd,cs,cvs,b,rfl,ht,hc,ha,k,e,q⟩:=h;obtain⟨u,w',rfl,ru,rw'⟩:=vals2 r;cases (show u=Value.ref a from ru);cases (show w'=Value.ref tp from rw');obtain⟨its,rv,⟨o,ho,hcl,n,hd⟩,_⟩:=I.tuple (.of ht);cases eG_ rv hc;obtain⟨oc,od,dt,sl⟩:=o;cases (show oc=_ from hcl);cases (show dt=_ from hd);obtain⟨o,vs,h1,h2,_⟩:=(I.hok a _ ha).1;exact PySem.W.kia_tup (eX_ k) I.kIn ⟨o,h1,h2⟩ ho e nofun λtk=>⟨.bl b,H,I.tok tk,rfl,q⟩
end L2
namespace Ev
open PySem L2
structure Rfk (K:F__) (mg:Str->Option Aa) (CN CH CE c0 c2 c4:Addr):Prop where
 m0:mg "NoGoods"=some (.ref c0)
 m2:mg "NoPiece"=some (.ref c2)
 m4:mg "NoWeb"=some (.ref c4)
 mE:mg "EvenError"=some (.ref CE)
 s:Ref K mg "NoStand" CN
 h:Ref K mg "NoHand" CH
 x1:PySem.W.exmOne K (.ref CN) (.ref CN)=some true
 x2:PySem.W.exmOne K (.ref CH) (.ref CN)=some false
 x3:PySem.W.exmOne K (.ref CH) (.ref CH)=some true
 eN:ExcK K CN
 eH:ExcK K CH
 kN:PySem.W.kitAny K (.ref CN) [.ref c0,.ref CH,.ref c2,.ref c4]=some false
 kH:PySem.W.kitAny K (.ref CH) [.ref c0,.ref c2,.ref c4]=some false
 vN:PySem.W.kitOne K (.ref CN) (.type "ValueError")=some true
 vH:PySem.W.kitOne K (.ref CH) (.type "ValueError")=some true
 lN:PySem.W.kitOne K (.ref CN) (.ref CE)=some true
 lH:PySem.W.kitOne K (.ref CH) (.ref CE)=some true
def exkIn(K:F__)(C:Addr):Bool:=(PySem.W.clsIn K C).isSome&&PySem.W.findIn K (.ref C) "__getattribute__" == some (some (.builtin "BaseException.__getattribute__"))&&PySem.W.findIn K (.ref C) "__getattr__" == some none&&PySem.W.findIn K (.ref C) "__class__" == some (some (.builtin "object.__class__")) &&
 PySem.W.specialIn K (.builtin "object.__class__") "__get__" == some (some (.builtin "getset_descriptor.__get__"))&&PySem.W.takesIn K (.builtin "object.__class__") == some true&&PySem.W.mroIn K C (.type "object") == some true&&PySem.W.mroIn K C (.type "BaseException") == some true
variable{C:Addr}
theorem i8_{K:F__}(h:exkIn K C=true):ExcK K C:=by
 simp only[exkIn,aR',beq_iff_eq] at h;obtain⟨⟨⟨⟨⟨⟨⟨a,b⟩,c⟩,d⟩,e⟩,f⟩,g⟩,i⟩:=h;exact⟨a,b,c,d,e,f,g,i⟩
def rfkIn(K:F__)(CN CH CE c0 c2 c4:Addr):Bool:=exkIn K CN&&exkIn K CH&&PySem.W.exmOne K (.ref CN) (.ref CN) == some true&&PySem.W.exmOne K (.ref CH) (.ref CN) == some false&&PySem.W.exmOne K (.ref CH) (.ref CH) == some true&&PySem.W.kitAny K (.ref CN) [.ref c0,.ref CH,.ref c2,.ref c4] == some false&&PySem.W.kitAny K (.ref CH) [.ref c0,.ref c2,.ref c4] == some false &&
 PySem.W.kitOne K (.ref CN) (.type "ValueError") == some true&&PySem.W.kitOne K (.ref CH) (.type "ValueError") == some true&&PySem.W.kitOne K (.ref CN) (.ref CE) == some true&&PySem.W.kitOne K (.ref CH) (.ref CE) == some true
variable{mg:Str->Option Aa}{CH CN c0 c2 c4:Addr}
theorem jr_{K:F__}{CE:Addr}(h:rfkIn K CN CH CE c0 c2 c4=true)(m0:mg "NoGoods"=some (.ref c0))(m2:mg "NoPiece"=some (.ref c2))(m4:mg "NoWeb"=some (.ref c4))(mE:mg "EvenError"=some (.ref CE))(s:Ref K mg "NoStand" CN)(hh:Ref K mg "NoHand" CH):Rfk K mg CN CH CE c0 c2 c4:=by
 simp only[rfkIn,aR',beq_iff_eq] at h;obtain⟨⟨⟨⟨⟨⟨⟨⟨⟨⟨a,b⟩,c⟩,d⟩,e⟩,f⟩,g⟩,i⟩,j⟩,k⟩,l⟩:=h;exact⟨m0,m2,m4,mE,s,hh,c,d,e,i8_ a,i8_ b,f,g,i,j,k,l⟩
theorem len7{α:Type}:∀{l:List α},l.length=7->∃a b c d e f g,l=[a,b,c,d,e,f,g]
 |[a,b,c,d,e,f,g],_=>⟨a,b,c,d,e,f,g,rfl⟩
abbrev rInt1:List V->Hp->VK->Prop:=λxs H Q=>(∃i,xs=[.int i]/\Q (.int i) H)∨∃k,xs=[.bl k]/\Q (.int (if k then 1 else 0)) H
abbrev tSuA(K:F__)(CE:Addr)(ta:TE)(wd:Str):L2.TS:=tSeq (tAsg (tOrV (tCB (cT' K) (bm' (tVar 5) (bm' ta tNil))) (tNotV (tCB (cU' K) (bm' (tVar 5) (bm' (tC (.ty "ValueError")) tNil))))) (bM' 6))
 (tAsg (tOp (rIxL K) (tLst (bm' (tC (.str wd)) (bm' (tC (.str "other")) tNil))) (tCB rInt1 (bm' (tOrV (tVar 6) (tNotV (tCB (cU' K) (bm' (tVar 5) (bm' (tC (.ref CE)) tNil))))) tNil))) (bM' 4))
variable{dd:Option Addr}
theorem j5_{K:F__}{CE:Addr}{ta:TE}{cs:List V}{cvs:List Aa}{wd:Str}{H1:Hp}{Nx:St->Hp->Prop}{Rt:VK}{Bk Ct:St->Hp->Prop}(hta:∀σ H Q,(∀tp,H tp=none->Q (.ref tp) (upd H tp (.tup cs)))->ta σ H Q)(hc:cs.map clsV=cvs.map some)(ex:ExcK K C)(k5:PySem.W.kitAny K (.ref C) cvs=some false)(kv:PySem.W.kitOne K (.ref C) (.type "ValueError")=some true)(ke:PySem.W.kitOne K (.ref C) (.ref CE)=some true)(fin:∀H2 v0 v1 v2 v3 v5 v6,Same H1 H2->Nx [v0,v1,v2,v3,some (.str wd),v5,v6] H2):∀(σ:St) (a:Addr),σ.length=7->H1 a=none->tSuA K CE ta wd (Ends.gone ⟨Nx,Rt,Bk,Ct⟩ 5) (σ.set 5 (some (.ref a))) (upd H1 a (exq a C dd)):=by
 intro σ a hl ha;obtain⟨v0,v1,v2,v3,v4,v5,v6,rfl⟩:=len7 hl;obtain⟨s1,ea⟩:=nw__ (o:=exq a C dd) ha;generalize upd H1 a (exq a C dd)=H2 at s1 ea ⊢;refine⟨_,rfl,hta _ _ _ λtp htp=>?_⟩;obtain⟨s2,et⟩:=nw__ (o:=.tup cs) htp;have ea2:=s2 _ _ ea;generalize upd H2 tp (.tup cs)=H3 at s2 et ea2 ⊢;refine⟨a,tp,C,_,_,cvs,false,rfl,et,hc,ea2,ex,k5,_,rfl,iteF ?_⟩;refine⟨_,rfl,a,C,_,_,_,true,rfl,rfl,ea2,ex,kv,_,rfl,?_⟩;refine setG ?_;dsimp only;refine⟨by show 2<=sizeLine;decide,λl nl=>?_⟩;obtain⟨s3,e3⟩:=nw__ (o:=.lst [.str wd,.str "other"]) nl;have ea3:=s3 _ _ ea2;generalize upd H3 l (.lst [.str wd,.str "other"])=H4 at s3 e3 ea3 ⊢;refine⟨_,rfl,_,rfl,iteF ?_⟩;refine⟨_,rfl,a,C,_,_,_,true,rfl,rfl,ea3,ex,ke,_,rfl,?_⟩;refine .inr ⟨_,rfl,?_⟩;refine⟨l,_,_,.str wd,rfl,rfl,.of e3,rfl,?_⟩;exact fin _ _ _ _ _ _ _ ((s1.trans s2).trans s3)
abbrev tS4(CH c0 c2 c4:Addr):TE:=tTup (bm' (tC (.ref c0)) (bm' (tC (.ref CH)) (bm' (tC (.ref c2)) (bm' (tC (.ref c4)) tNil))))
abbrev tS3(c0 c2 c4:Addr):TE:=tTup (bm' (tC (.ref c0)) (bm' (tC (.ref c2)) (bm' (tC (.ref c4)) tNil)))
variable{X:Cx}{D:Ends}{H':Hp}
theorem suN{K:F__}{CE:Addr}(R:Rfk K mg CN CH CE c0 c2 c4)(hN:X.N.length=7)(fin:∀H2 v0 v1 v2 v3 v5 v6,Same H' H2->D.nx [v0,v1,v2,v3,some (.str "stand"),v5,v6] H2):XEA X 5 CN CH (tSuA K CE (tS4 CH c0 c2 c4) "stand") (tSuA K CE (tS3 c0 c2 c4) "hand") D (.ref CN) dd H':=
 .inl ⟨rfl,λσ a hl ha=>j5_ (cs:=[.ref c0,.ref CH,.ref c2,.ref c4]) (cvs:=[.ref c0,.ref CH,.ref c2,.ref c4]) (λσ H Q q=>⟨by show 4<=sizeLine;decide,q⟩) rfl R.eN R.kN R.vN R.lN fin σ a (hl.trans hN) ha⟩
theorem suH{K:F__}{CE:Addr}(R:Rfk K mg CN CH CE c0 c2 c4)(hN:X.N.length=7)(fin:∀H2 v0 v1 v2 v3 v5 v6,Same H' H2->D.nx [v0,v1,v2,v3,some (.str "hand"),v5,v6] H2):XEA X 5 CN CH (tSuA K CE (tS4 CH c0 c2 c4) "stand") (tSuA K CE (tS3 c0 c2 c4) "hand") D (.ref CH) dd H':=
 .inr ⟨rfl,λσ a hl ha=>j5_ (cs:=[.ref c0,.ref c2,.ref c4]) (cvs:=[.ref c0,.ref c2,.ref c4]) (λσ H Q q=>⟨by show 3<=sizeLine;decide,q⟩) rfl R.eH R.kH R.vH R.lH fin σ a (hl.trans hN) ha⟩
section
variable{P:Ad}{w:Af}{K:F__}{mg:Str->Option Aa}{base:Heap}
theorem bz':aX' ["_law_goods","_law_stand_here","_law_way","_law_hand","_law_word","e","_law_other"] ["_law_goods","_law_stand_here","_law_way","_law_hand"] (aW' sAsked):=f__
def spTB(K:F__)(CG CW CN:Addr)(sp:F__->Addr->Addr->Sp):Sp:=λvs H Q E=>sp K CG CW vs H Q E∨bK' K CG CW CN vs H Q E
def spPTB(K:F__)(CG CW CN CH:Addr):Sp:=λvs H Q E=>bP' K CG CW vs H Q E∨spPAtB K CG CW CN CH vs H Q E
inductive cw' (K:F__) (CG CW:Addr) (vs:List V) (H:Hp) (Q:VK) (E:XK):Prop
 |mk:∀(g p:Addr) (v h:V) (wy:Int) (hs:Xa) (ts:Xb) (qs:List Pc) (fp:List Addr),vs=[.ref g,v,.int wy,h]->a2' K CG CW H g p hs ts qs fp->((BadA K H hs qs fp v/\∀H',Same H H'->Q (.str "stand") H')∨∃(d:Addr) (ns:List Str) (f:Str->Str),v=.ref d/\Std K CG CW H g p d hs ts qs fp ns f/\(∀q∈qs,0<=q.2.1/\q.2.1<=1000000000)/\((∃x:Str,h=.str x/\x∈hs.map (·.1)/\∀H',Same H H'->Q (.str "told") H')∨(wy=5/\∃x:Option Str,StrV K H h x/\inB (hs.map (·.1)) x=false/\∀H',Same H H'->Q (.str "hand") H')))->cw' K CG CW vs H Q E
theorem h6_{f CG CW CE:Addr}{fd:Ae}(F:Fun K "_law_asked" "_law_asked" sAsked f fd)(B:Bi mg)(mV:mg "ValueError"=none)(R:Rfk K mg CN CH CE c0 c2 c4)(cLo:CalG P w K mg base 4 "loads" ["goods","stand"] (spTB K CG CW CN cr'))(cHe:CalG P w K mg base 5 "heights" ["goods","stand"] (spTB K CG CW CN bO'))(cSu:CalG P w K mg base 6 "sum_of" ["goods","stand"] (spTB K CG CW CN cz'))(cSp:CalG P w K mg base 7 "spread" ["goods","stand"] (spTB K CG CW CN b3'))(cSt:CalG P w K mg base 5 "steepest" ["goods","stand"] (spTB K CG CW CN cK'))(cPa:CalG P w K mg base 3 "pieces_at" ["goods","stand","hand"] (spPTB K CG CW CN CH)) :
  FnOk P w K mg base CX0 8 f fd ["_law_goods","_law_stand_here","_law_way","_law_hand"] (cw' K CG CW):=by
 refine F.ok bz' (λvs H Q E h=>?_) (λcdv A outer s H vs Q E hr h=>?_)
 ·obtain⟨g,p,v,h,wy,hs,ts,qs,fp,rfl,_⟩:=h;rfl
 ·obtain⟨g,p,v,h,wy,hs,ts,qs,fp,rfl,G,h0⟩:=h;have hr3:Room 3 _:=hr.mono (by decide);have hr4:Room 4 _:=hr.mono (by decide);have hr5:Room 5 _:=hr.mono (by decide);have hr6:Room 6 _:=hr.mono (by decide);refine' ⟨_,?r0,?kk⟩
  case' r0=>refine' a3_ ?s1 ?r1
  case' r1=>refine' a3_ ?s2 ?s3
  case s1=>exact ab_ (i:=4) bz'.nd rfl (Or.inl rfl) ao_
  case' s2=>refine' ih_ (i:=5) (C:=CN) (C2:=CH) (ts:=tSuA K CE (tS4 CH c0 c2 c4) "stand") (ts2:=tSuA K CE (tS3 c0 c2 c4) "hand") bz'.nd rfl rfl rfl rfl (by rfl) R.s.mg R.x1 (by rfl) R.h.mg R.x2 R.x3 (λE W pn hp=>?hb) (λa=>?hs) (λa=>?hs2)
  case hb=>exact a4_ (aj_ (ah_ bY_ (pv 2) a6_ (nomark _)) (a4_ (aV_ (cj_ cLo hr4 hp (a0_ (pv 0) (a0_ (pv 1) a2_))))) (a4_ (aj_ (ah_ bY_ (pv 2) a6_ (nomark _)) (a4_ (aV_ (cj_ cHe hr5 hp (a0_ (pv 0) (a0_ (pv 1) a2_))))) (a4_ (aj_ (ah_ bY_ (pv 2) a6_ (nomark _)) (a4_ (aV_ (cj_ cSu hr6 hp (a0_ (pv 0) (a0_ (pv 1) a2_))))) (a4_ (aj_ (ah_ bY_ (pv 2) a6_ (nomark _)) (a4_ (aV_ (cj_ cSp hr hp (a0_ (pv 0) (a0_ (pv 1) a2_))))) (a4_ (aj_ (ah_ bY_ (pv 2) a6_ (nomark _)) (a4_ (aV_ (cj_ cSt hr5 hp (a0_ (pv 0) (a0_ (pv 1) a2_))))) (a4_ (aV_ (cj_ cPa hr3 hp (a0_ (pv 0) (a0_ (pv 1) (a0_ (pv 3) a2_)))))))))))))))
  case' hs=>refine' a3_ ?h1 (a4_ ?h2)
  case h1=>exact ab_ (i:=6) bz'.nd rfl (Or.inl rfl) (hu_ (a8_ (dq' (K:=K) cT' d6_) (by rfl) B.isi PyProof.Rows.Boot.«isinstance» (a0_ (pv 5) (a0_ (aP_ (a0_ (aR_ (v:=.ref c0) (by rfl) R.m0 rfl) (a0_ (aR_ (v:=.ref CH) (by rfl) R.h.mg rfl) (a0_ (aR_ (v:=.ref c2) (by rfl) R.m2 rfl) (a0_ (aR_ (v:=.ref c4) (by rfl) R.m4 rfl) a2_))))) a2_))) (bp_ (dT_ (a8_ (dq' (K:=K) cU' bQ_) (by rfl) B.isi PyProof.Rows.Boot.«isinstance» (a0_ (pv 5) (a0_ (aI_ (v:=.ty "ValueError") (by rfl) mV PyProof.Rows.Boot.«ValueError» rfl) a2_))))))
  case h2=>exact ab_ (i:=4) bz'.nd rfl (Or.inl rfl) (an_ (show IxR _ (rIxL K) from ar_) (aK_ (a0_ ao_ (a0_ ao_ a2_))) (am_ (r:=rInt1) cH_ (by rfl) B.int PyProof.Rows.Boot.«int» (a0_ (hu_ (pv 6) (bp_ (dT_ (a8_ (dq' (K:=K) cU' bQ_) (by rfl) B.isi PyProof.Rows.Boot.«isinstance» (a0_ (pv 5) (a0_ (aR_ (v:=.ref CE) (by rfl) R.mE rfl) a2_)))))) a2_)) (λ_ _=>rfl))
  case' hs2=>refine' a3_ ?h3 (a4_ ?h4)
  case h3=>exact ab_ (i:=6) bz'.nd rfl (Or.inl rfl) (hu_ (a8_ (dq' (K:=K) cT' d6_) (by rfl) B.isi PyProof.Rows.Boot.«isinstance» (a0_ (pv 5) (a0_ (aP_ (a0_ (aR_ (v:=.ref c0) (by rfl) R.m0 rfl) (a0_ (aR_ (v:=.ref c2) (by rfl) R.m2 rfl) (a0_ (aR_ (v:=.ref c4) (by rfl) R.m4 rfl) a2_)))) a2_))) (bp_ (dT_ (a8_ (dq' (K:=K) cU' bQ_) (by rfl) B.isi PyProof.Rows.Boot.«isinstance» (a0_ (pv 5) (a0_ (aI_ (v:=.ty "ValueError") (by rfl) mV PyProof.Rows.Boot.«ValueError» rfl) a2_))))))
  case h4=>exact ab_ (i:=4) bz'.nd rfl (Or.inl rfl) (an_ (show IxR _ (rIxL K) from ar_) (aK_ (a0_ ao_ (a0_ ao_ a2_))) (am_ (r:=rInt1) cH_ (by rfl) B.int PyProof.Rows.Boot.«int» (a0_ (hu_ (pv 6) (bp_ (dT_ (a8_ (dq' (K:=K) cU' bQ_) (by rfl) B.isi PyProof.Rows.Boot.«isinstance» (a0_ (pv 5) (a0_ (aR_ (v:=.ref CE) (by rfl) R.mE rfl) a2_)))))) a2_)) (λ_ _=>rfl))
  case s3=>exact a4_ (aa_ (pv 4))
  case' kk=>skip
  refine setG ?_;dsimp only;rcases h0 with⟨b,k⟩|⟨d,ns,f,rfl,S,wq,h0⟩
  ·refine⟨_,rfl,rfl,_,rfl,?_⟩;refine ite2 (λ_=>⟨_,rfl,_,rfl,.inr ⟨g,p,v,hs,ts,qs,fp,rfl,G,b,λdd H' s'=>suN R rfl λH2 v0 v1 v2 v3 v5 v6 s2=>⟨_,rfl,k H2 (s'.trans s2)⟩⟩⟩) (λ_=>?_);refine⟨_,rfl,rfl,_,rfl,?_⟩;refine ite2 (λ_=>⟨_,rfl,_,rfl,.inr ⟨g,p,v,hs,ts,qs,fp,rfl,G,b,λdd H' s'=>suN R rfl λH2 v0 v1 v2 v3 v5 v6 s2=>⟨_,rfl,k H2 (s'.trans s2)⟩⟩⟩) (λ_=>?_);refine⟨_,rfl,rfl,_,rfl,?_⟩;refine ite2 (λ_=>⟨_,rfl,_,rfl,.inr ⟨g,p,v,hs,ts,qs,fp,rfl,G,b,λdd H' s'=>suN R rfl λH2 v0 v1 v2 v3 v5 v6 s2=>⟨_,rfl,k H2 (s'.trans s2)⟩⟩⟩) (λ_=>?_);refine⟨_,rfl,rfl,_,rfl,?_⟩;refine ite2 (λ_=>⟨_,rfl,_,rfl,.inr ⟨g,p,v,hs,ts,qs,fp,rfl,G,b,λdd H' s'=>suN R rfl λH2 v0 v1 v2 v3 v5 v6 s2=>⟨_,rfl,k H2 (s'.trans s2)⟩⟩⟩) (λ_=>?_);refine⟨_,rfl,rfl,_,rfl,?_⟩;refine ite2 (λ_=>⟨_,rfl,_,rfl,.inr ⟨g,p,v,hs,ts,qs,fp,rfl,G,b,λdd H' s'=>suN R rfl λH2 v0 v1 v2 v3 v5 v6 s2=>⟨_,rfl,k H2 (s'.trans s2)⟩⟩⟩) (λ_=>?_);exact⟨_,rfl,_,rfl,_,rfl,.inr ⟨g,p,v,h,hs,ts,qs,fp,rfl,G,.inl ⟨b,λdd H' s'=>suN R rfl λH2 v0 v1 v2 v3 v5 v6 s2=>⟨_,rfl,k H2 (s'.trans s2)⟩⟩⟩⟩
  rcases h0 with⟨x,rfl,hx,k⟩|⟨rfl,x,sv,no,k⟩
  ·refine⟨_,rfl,rfl,_,rfl,?_⟩;refine ite2 (λ_=>⟨_,rfl,_,rfl,.inl ⟨g,p,d,hs,ts,qs,fp,ns,f,rfl,S,λd' H' s' _ _=>⟨_,rfl,k _ s'⟩⟩⟩) (λ_=>?_);refine⟨_,rfl,rfl,_,rfl,?_⟩;refine ite2 (λ_=>⟨_,rfl,_,rfl,.inl ⟨g,p,d,hs,ts,qs,fp,ns,f,rfl,S,λd' gg H' s' _ _ _=>⟨_,rfl,k _ s'⟩⟩⟩) (λ_=>?_);refine⟨_,rfl,rfl,_,rfl,?_⟩;refine ite2 (λ_=>⟨_,rfl,_,rfl,.inl ⟨g,p,d,hs,ts,qs,fp,ns,f,rfl,S,wq,λH' s'=>⟨_,rfl,k _ s'⟩⟩⟩) (λ_=>?_);refine⟨_,rfl,rfl,_,rfl,?_⟩;refine ite2 (λ_=>⟨_,rfl,_,rfl,.inl ⟨g,p,d,hs,ts,qs,fp,ns,f,rfl,S,wq,λt r H' s' _ _=>⟨_,rfl,k _ s'⟩⟩⟩) (λ_=>?_);refine⟨_,rfl,rfl,_,rfl,?_⟩;refine ite2 (λ_=>⟨_,rfl,_,rfl,.inl ⟨g,p,d,hs,ts,qs,fp,ns,f,rfl,S,wq,λt r H' s' _ _=>⟨_,rfl,k _ s'⟩⟩⟩) (λ_=>?_);exact⟨_,rfl,_,rfl,_,rfl,.inl ⟨g,p,d,hs,ts,qs,fp,ns,f,x,rfl,S,hx,λl H' s' _ _=>⟨_,rfl,k _ s'⟩⟩⟩
  ·refine⟨_,rfl,rfl,_,rfl,?_⟩;refine ite2 (λc=>by simp at c) (λ_=>?_);refine⟨_,rfl,rfl,_,rfl,?_⟩;refine ite2 (λc=>by simp at c) (λ_=>?_);refine⟨_,rfl,rfl,_,rfl,?_⟩;refine ite2 (λc=>by simp at c) (λ_=>?_);refine⟨_,rfl,rfl,_,rfl,?_⟩;refine ite2 (λc=>by simp at c) (λ_=>?_);refine⟨_,rfl,rfl,_,rfl,?_⟩;refine ite2 (λc=>by simp at c) (λ_=>?_);refine⟨_,rfl,_,rfl,_,rfl,.inr ⟨g,p,.ref d,h,hs,ts,qs,fp,rfl,G,.inr ⟨d,ns,f,x,rfl,S,sv,no,λdd H' s'=>?_⟩⟩⟩;exact suH R rfl λH2 v0 v1 v2 v3 v5 v6 s2=>⟨_,rfl,k H2 (s'.trans s2)⟩
end
end Ev
namespace L2
open PySem PySem.Spec PyProof.Rows PySem.W EvD
open AutoSeq1 (wpAny_loadPart')
theorem cP_{prog:Ad}{w:Af}(r:Addr)(o:Obj)(es:Array Ag)(ep:Nat)(hc:o.cls=.type "dict")(hd:o.data=.dict es ep)(φ:List Aa->Ab->Prop) :
  MeetsIn prog w (Builtin.«tuple.__new__» ⟨[.type "tuple",.ref r],[]⟩) (λA R s=>s.heap.get? r=some o/\A.handled=none/\(∀(A':Ah) (E':Aa->Ab->Prop) (Rr:List Aa->Ab->Prop),A'.handled=none->(∀vs s1,φ vs s1->Rr vs s1)->wpAny (model prog w) A' (collect (.ref r)) Rr E' s)/\∀vs s1,φ vs s1->vs.length<=sizeLine/\R (.ok (.ret (.ref s1.heap.objs.size))) { s1 with heap:=s1.heap.push { cls:=.type "tuple",data:=.seq vs.toArray } }):=
 .of_wp λA R s h=>by
  obtain⟨hp,g,d,tk,os⟩:=s;obtain⟨ht,hh,col,h⟩:=h;have hsub:=sub_tuple_self;have hinit:=init_tuple_lookup;have hmh:=madeHere_tuple;have hT:Shared.TypeIs ⟨hp,g,d,tk,os⟩ (.ref r) "dict":=⟨o,ht,hc⟩;have col':∀{Rr:List Aa->Ab->Prop} {E':Aa->Ab->Prop},(∀vs s1,φ vs s1->Rr vs s1)->wpAny (model prog w) A.in1 (collect (.ref r)) Rr E' ⟨hp,g,d,tk,os⟩:=λh=>col A.in1 _ _ hh h
  wp_walk using b_4 ht,wpAny_typeOf hT,col'
  intro vs s1 hv;obtain⟨hz,h⟩:=h vs s1 hv;show wpAny _ _ (Builtin.Tuple.tupleExact vs.toArray >>= λv=>ret v) _ _ _;unfold Builtin.Tuple.tupleExact;refine a__ (b_6 ?_ (by show vs.toArray.size<=sizeLine;simpa using hz));exact a_1 ⟨_,rfl,h⟩
inductive rTupD (xs:List V) (H:Hp) (Q:VK):Prop
 |mk:∀d kvs,xs=[.ref d]->H d=some (.dK kvs)->(∀l,H l=none->Q (.ref l) (upd H l (.tup (kvs.map λkv=>kV kv.1))))->rTupD xs H Q
variable{X:Cx}
theorem gq_(hc:X.calm=true):bc' X (.type "tuple") rTupD:=by
 intro pins s σ H xs us Q I r h;obtain⟨d,kvs,rfl,hd,q⟩:=h;obtain⟨u,rfl,ru⟩:=vals1 r;cases ru;obtain⟨z,_,vs,rel,o,es,ep,ho,oc,od,_⟩:=do_ I.hok hd
 refine callType_newIn F.called_tuple (by decide) (F.typeCall_tuple_1 _) (F.newCall_tuple_1 _) (λobj=>F.args_object_init_2 obj _) F.entry_tuple_new
  (cP_ d o es ep oc.1 od λvs s1=>Inv X pins σ H s1/\Vals (kvs.map λkv=>kV kv.1) vs) ⟨ho,I.ok.hd hc,λA' E' Rr hh q=>i4_ hh I (.inl hd) λvs s1 I1 r1=>q vs s1 ⟨I1,r1⟩,λvs s1 ⟨I1,r1⟩=>⟨?_,⟨_,a_3 _ rfl,rfl⟩,?_⟩⟩
 ·rw[<- r1.length,aa'];exact z
 ·exact⟨.ref s1.heap.objs.size,_,I1.laid (t':=s1.toks) (λb o e=>a_0 _ e) (ae' _) (show a4' X.prog X.w _ _ _ (.tup (kvs.map λkv=>kV kv.1)) from ⟨by rw[aa'];exact z,vs,r1,IsTup.new _ _,_,a_3 _ rfl,rfl⟩),rfl,q _ (I1.hok.fresh (ae' _))⟩
inductive rUpper (x:V) (vs:List V) (H:Hp) (Q:VK):Prop
 |mk:∀z:Str,x=.str z->vs=[]->z.length<=1000->Q (.str (Txt.upper z)) H->rUpper x vs H Q
theorem gS_:MtM X "str.upper" rUpper:=by
 intro pins s σ H x vs v us Q I rx rv h;obtain⟨z,rfl,rfl,hz,q⟩:=h;obtain⟨t,rfl⟩:=rx;cases rv;exact SCL.upper Z1 λ_=>⟨.str _,H,I.tok _,⟨_,rfl⟩,q⟩
inductive rEqNil (K:F__) (x:V) (y:V) (H:Hp) (Q:VK):Prop
 |mk:∀a b xs,x=.ref a->y=.ref b->SqL K H a xs->SqL K H b []->Q (.bl xs.isEmpty) H->rEqNil K x y H Q
theorem gQ_(hu:X.A.units+0+1<cLine):OpR X (compareOp .Eq) (rEqNil X.K):=by
 intro pins s σ H x y v u Q I rx ry h;obtain⟨a,b,xs,rfl,rfl,t,t',hq⟩:=h;cases xs with
 |nil=>exact jw_ cmpS hu pins s σ H (.ref a) (.ref b) v u Q I rx ry ⟨[],[],⟨a,[],rfl,t,.nil⟩,⟨b,[],rfl,t',.nil⟩,hq⟩
 |cons z zs=>
  cases rx;cases ry;obtain⟨us,r,pl,_⟩:=I.list t;obtain⟨vs,r',pl',_⟩:=I.list t';have l1:=r.length;have l2:=r'.length;exact SeqAt.eq_list_lengthsAt pl.isList pl'.isList (by simp only[ag',bne_iff_ne];simp at l1 l2;omega) Z1 ⟨.bl false,H,I,rfl,hq⟩
end L2
namespace Ev
open PySem L2
variable{x:Str}{c:Nat}
theorem ig_(hc:c∈x.cps.toList)(o:okc c=false):a8' x=false:=by
 unfold a8'
 have:x.cps.toList.all okc=false:=by
  cases e:x.cps.toList.all okc with
  |false=>rfl
  |true=>rw[List.all_eq_true.mp e c hc] at o;cases o
 rw[this];simp
theorem cz_(h:a8' x=true):1<=x.length/\x.length<=8/\∀c∈x.cps.toList,97<=c/\c<=122:=by
 unfold a8' at h;simp only[aR',decide_eq_true_eq,List.all_eq_true,okc] at h;exact⟨h.1.1,h.1.2,h.2⟩
theorem jq_:∀c:Fin 26,okc (PyProof.Rows.up1 (c.1+97))=false:=by decide
theorem dp_(x:Str):x.length=x.cps.toList.length:=by rw[aH'];rfl
theorem hq_(h:a8' x=true):a8' (Txt.upper x)=false/\(Txt.upper x).length<=8:=by
 obtain⟨h1,h8,hs⟩:=cz_ h;rw[PyProof.Rows.upper_ascii (λc hc=>by have:=hs c hc;omega)];have el:((⟨x.cps.map PyProof.Rows.up1⟩:Str)).cps.toList=x.cps.toList.map PyProof.Rows.up1:=by simp
 constructor
 ·cases e:x.cps.toList with
  |nil=>rw[dp_,e] at h1;exact absurd h1 (by decide)
  |cons c r=>
   have hc:c∈x.cps.toList:=by rw[e];exact ak'
   obtain⟨g1,g2⟩:=hs c hc;refine ig_ (c:=PyProof.Rows.up1 c) (by rw[el];exact ah'.mpr ⟨c,hc,rfl⟩) ?_;have:=jq_ ⟨c - 97,by omega⟩;rwa [show (⟨c - 97,by omega⟩:Fin 26).1+97=c by show c - 97+97=c;omega] at this
 ·rw[dp_,el,aa',<- dp_];exact h8
variable{ns:List Str}{n:Str}
theorem gU_{g:Str->V}:cR' (mKV ns g) (Sum.inr n)=mKV (ns.filter λx=>decide (x≠n)) g:=by
 unfold cR' mKV;rw[List.filter_map];congr 1;refine List.filter_congr λx _=>?_;show decide ((Sum.inr x:Key)≠Sum.inr n)=decide (x≠n);exact decide_eq_decide.mpr ⟨λh e=>h (by rw[e]),λh e=>h (c_1 e)⟩
theorem dO_(h:n∈ns):(ns.filter λx=>decide (x≠n)).length<ns.length:=by
 have e:=List.length_filter_lt_length_iff_exists (p:=λx=>decide (x≠n)) (l:=ns);exact e.mpr ⟨n,h,by simp⟩
def Spo(K:F__)(H H':Hp)(ns hn:List Str)(f:Str->Str)(l:Addr)(v:V):Prop:=(∃t,TyOf K H' v t/\PySem.W.kitOne K t (.type "dict")=some false) ∨
 ∃d:Addr,v=.ref d/\H d=none/\d≠l/\((∃(ms:List Str) (g:Str->V) (x:Str->Option Str),H' d=some (.dK (mKV ms g))/\(∀y∈ms,StrV K H' (g y) (x y)/\g y≠.ref d)/\((∃y∈ms,y∉ns∨inB hn (x y)=false)∨ms.length≠ns.length)) ∨
  ∃(es:Array Ag) (ep:Nat) (y x:V) (t:Aa),H' d=some (rawH d es ep)/\Ent (kvP (mKV ns λn=>V.str (f n))++[(y,x)]) es/\TyOf K H' y t/\PySem.W.kitOne K t (.type "str")=some false)
theorem ifR{tc:TT}{t u:L2.TS}{D:Ends}{σ:St}{H:Hp}(R R':Hp->Prop)(test:∀Q:Bool->Hp->Prop,(∀H',R H'->Q true H')->(∀H',R' H'->Q false H')->tc σ H Q)(yes:∀H',R H'->t D σ H')(no:∀H',R' H'->u D σ H'):tIfS tc t u D σ H:=test _ (λH' r=>iteT (yes H' r)) (λH' r=>iteF (no H' r))
theorem gC_:∀x∈(["Extra","","extra1","A"]:List Str),a8' x=false:=by decide +kernel
section
variable{P:Ad}{w:Af}{K:F__}{mg:Str->Option Aa}{base:Heap}
abbrev nsSp:List Str:=["_law_state","_law_pieces_here","_law_stand_here","_law_hand","_law_way","_law_odd","_law_name"]
theorem cA':aX' nsSp ["_law_state","_law_pieces_here","_law_stand_here","_law_hand"] (aW' sSpoil):=f__
inductive ct' (K:F__) (vs:List V) (H:Hp) (Q:VK) (E:XK):Prop
 |mk:∀(l lp d:Addr) (h:Str) (yp:List V) (ps:List Pc) (hn:List Str) (f:Str->Str),vs=[.ref l,.ref lp,.ref d,.str h]->stt H l->H lp=some (.lst yp)->lp≠l->b9' K H yp ps->ps.length<=30->d≠l->H d=some (.dK (stF (ps.map (·.1)) f))->(∀n∈ps.map (·.1),a8' n=true)->(∀n∈hn,a8' n=true)->("nobody":Str)∉hn->(∀n∈ps.map (·.1),f n∈hn)->(∀v H',But l H H'->stt H' l->Spo K H H' (ps.map (·.1)) hn f l v->Q v H')->ct' K vs H Q E
theorem h1_{f0:Addr}{fd:Ae}(F:Fun K "_law_spoiled" "_law_spoiled" sSpoil f0 fd)(B:Bi mg)(cD:Cal P w K mg base 1 "_law_digit" ["_law_state","_law_base"] bv'):FnOk P w K mg base CX0 2 f0 fd ["_law_state","_law_pieces_here","_law_stand_here","_law_hand"] (ct' K):=by
 refine F.ok cA' (λvs H Q E h=>?_) (λcdv A outer s H vs Q E hr h=>?_)
 ·obtain⟨l,lp,d,h,yp,ps,hn,f,rfl,_⟩:=h;rfl
 ·obtain⟨l,lp,d,h,yp,ps,hn,f,rfl,st,hlp,lpl,pc,h30,dl,hd,nn,nh,nob,fm,k⟩:=h;have sz:=b_1;have hu:=b2_ hr;have lyp:=a_4 pc;refine' ⟨_,a3_ ?s1 ?r1,?kk⟩
  case' r1=>refine' a3_ ?s2 ?r2
  case' r2=>refine' a3_ ?s3 ?r3
  case' r3=>refine' a3_ ?s4 ?r4
  case' r4=>refine' a3_ ?s5 (a4_ (aa_ (pv 5)))
  case s1=>exact ab_ (i:=4) cA'.nd rfl (Or.inl rfl) (af_ cD hr (a0_ (pv 0) (a0_ a6_ a2_)))
  case s2=>exact ab_ (i:=5) cA'.nd rfl (Or.inl rfl) (am_ f7_ (by rfl) B.dict PyProof.Rows.Boot.«dict» (a0_ (pv 2) a2_))
  case s3=>exact aj_ (e5_ (ah_ bY_ (pv 4) a6_ (nomark _)) (cp_ (ah_ (gQ_ hu) (pv 1) (aK_ a2_) (nomark _)))).pt (a3_ (h8_ hu (pv 5) (an_ ar_ (aK_ (a0_ ao_ (a0_ ao_ (a0_ a6_ (a0_ d3_ (a0_ (aP_ (a0_ ao_ a2_)) (a0_ ao_ a2_))))))) (af_ cD hr (a0_ (pv 0) (a0_ a6_ a2_))) (λ_ _=>rfl)) (pv 3) rfl) (a4_ (aa_ (pv 5)))) ad_
  case s4=>exact ab_ (i:=6) cA'.nd rfl (Or.inl rfl) (an_ aC_ (an_ ar_ (pv 1) (af_ cD hr (a0_ (pv 0) (a0_ (a8_ ai_ (by rfl) B.len b_7 (a0_ (pv 1) a2_)) a2_))) (λ_ _=>rfl)) a6_ (λ_ _=>rfl))
  case' s5=>refine' aj_ (ah_ bY_ (pv 4) a6_ (nomark _)) (a4_ ?a1) (a4_ (aj_ (ah_ bY_ (pv 4) a6_ (nomark _)) (a4_ ?a2) (a4_ (aj_ (ah_ bY_ (pv 4) a6_ (nomark _)) (a4_ ?a3) (a4_ ?a4)))))
  case a1=>exact aV_ (eT_ (pv 5) (pv 6) ⟨rfl,rfl,rfl,rfl⟩)
  case a2=>exact b7_ hu (pv 5) (jx_ PySem.F.plainAttrs_str PySem.F.slot_str_upper PySem.F.type_str_upper gS_ (pv 6)) (eT_ (pv 5) (pv 6) ⟨rfl,rfl,rfl,rfl⟩) rfl
  case a3=>exact aa_ (an_ ar_ (aK_ (a0_ (am_ (c9_ rfl) (by rfl) B.list PyProof.Rows.Boot.«list» (a0_ (aT_ (pv 5)) a2_)) (a0_ (am_ (gq_ rfl) (by rfl) B.tuple PyProof.Rows.Boot.«tuple» (a0_ (pv 5) a2_)) (a0_ d3_ (a0_ ao_ (a0_ a6_ (a0_ dJ_ (a0_ (am_ (bz_ rfl) (by rfl) B.list PyProof.Rows.Boot.«list» (a0_ (pv 5) a2_)) a2_)))))))) (af_ cD hr (a0_ (pv 0) (a0_ a6_ a2_))) (λ_ _=>rfl))
  case a4=>exact b7_ hu (pv 5) (pv 6) (an_ ar_ (aK_ (a0_ ao_ (a0_ ao_ (a0_ d3_ (a0_ a6_ (a0_ dJ_ (a0_ (aK_ (a0_ ao_ a2_)) (a0_ (aP_ (a0_ ao_ a2_)) (a0_ ao_ (a0_ be_ a2_)))))))))) (af_ cD hr (a0_ (pv 0) (a0_ a6_ a2_))) (λ_ _=>rfl)) rfl
  case' kk=>skip
  refine⟨_,rfl,l,6,rfl,by decide,by decide,st,λwy H1 w0 w1 b1 st1=>?_⟩;refine setG ?_;dsimp only;have hd1:=b1 _ _ hd dl;have hlp1:=b1 _ _ hlp lpl;refine⟨_,rfl,d,_,rfl,.of hd1,λdf ndf=>?_⟩;obtain⟨s2,e2⟩:=nw__ (o:=.dK (stF (ps.map (·.1)) f)) ndf;have dfl:=st1.ne ndf;have st2:=st1.same s2;have ndf0:=b1.free st1 ndf;have b2:But l H (upd H1 df (.dK (stF (ps.map (·.1)) f))):=b1.trans (But.of s2);have hlp2:=s2 _ _ hlp1;generalize upd H1 df (.dK (stF (ps.map (·.1)) f))=H2 at s2 e2 st2 b2 hlp2 ⊢;refine setG ?_;dsimp only;clear s2 hd1 hlp1 b1 st1 ndf;have fin:∀(H6:Hp) (ms:List Str) (g:Str->V) (xo:Str->Option Str),But l H H6->stt H6 l->H6 df=some (.dK (mKV ms g))->(∀y∈ms,StrV K H6 (g y) (xo y)/\g y≠.ref df)->((∃y∈ms,y∉ps.map (·.1)∨inB hn (xo y)=false)∨ms.length≠(ps.map (·.1)).length)->Q (.ref df) H6:=λH6 ms g xo b s e sv bad=>k _ H6 b s (.inr ⟨df,rfl,ndf0,dfl,.inl ⟨ms,g,xo,e,sv,bad⟩⟩);refine seqG (λσ H'=>wy≠0/\ps≠[]/\σ=[some (.ref l),some (.ref lp),some (.ref d),some (.str h),some (.int wy),some (.ref df),none]/\But l H H'/\stt H' l/\H' df=some (.dK (stF (ps.map (·.1)) f))/\H' lp=some (.lst yp)) ?later (λN hN=>?now)
  case now=>
   refine ifR (λH'=>Same H2 H') (λH'=>Same H2 H'/\wy≠0/\ps≠[]) (λQ' y n=>?_) (λH3 s3=>?_) (λH3 ⟨s3,c1,c2⟩=>hN _ _ ⟨c1,c2,rfl,b2.trans (But.of s3),st2.same s3,s3 _ _ e2,s3 _ _ hlp2⟩)
   ·refine⟨_,rfl,rfl,_,rfl,?_⟩;refine ite2 (λc=>y _ (Same.refl _)) (λc=>?_);have c:wy≠0:=by simpa using c
    refine⟨_,rfl,aC' _,λln nln=>?_⟩;obtain⟨s3,e3⟩:=nw__ (o:=.lst []) nln;generalize upd H2 ln (.lst [])=H3 at s3 e3 ⊢;refine⟨lp,ln,yp,rfl,rfl,.of (s3 _ _ hlp2),.of e3,_,rfl,?_⟩;cases ey:yp.isEmpty with
    |true=>exact y _ s3
    |false=>
     refine n _ ⟨s3,c,λz=>?_⟩;rw[z] at lyp;have:yp=[]:=List.length_eq_zero_iff.mp lyp;rw[this] at ey;cases ey
   have e3:=s3 _ _ e2;have st3:=st2.same s3;have b3:But l H H3:=b2.trans (But.of s3);refine⟨_,rfl,_,rfl,by show 1<=sizeLine;decide,λtt ntt=>?_⟩;obtain⟨s4,e4⟩:=nw__ (o:=.tup [.str "a"]) ntt;generalize upd H3 tt (.tup [.str "a"])=H4 at s4 e4 ⊢;refine⟨by show 6<=sizeLine;decide,λlk nlk=>?_⟩;obtain⟨s5,e5⟩:=nw__ (o:=.lst [.str "Extra",.str "",.int 5,.non,.ref tt,.str "extra1"]) nlk;have lkl:lk≠l:=(st3.same s4).ne nlk;generalize upd H4 lk (.lst [.str "Extra",.str "",.int 5,.non,.ref tt,.str "extra1"])=H5 at s5 e5 ⊢;have s35:=s4.trans s5;have st5:=st3.same s35;obtain⟨xs5,hl5⟩:=st5.some;refine⟨_,rfl,l,6,rfl,by decide,by decide,st5,λr H6 r0 r1 b6 st6=>?_⟩;have e6:=b6 _ _ (s35 _ _ e3) dfl;have b06:But l H H6:=(b3.trans (But.of s35)).trans b6;have e46:=b6 _ _ (s5 _ _ e4) (aD_ (s5 _ _ e4) hl5 nofun);have ttd:tt≠df:=aD_ e46 e6 nofun
   have len:(stF (ps.map (·.1)) f).length<sizeLine:=by
    show (mKV (ps.map (·.1)) _).length<_;rw[av_,aa'];omega
   have inr:∀p∈stF (ps.map (·.1)) f,∃x,p.1=Sum.inr x:=λp hp=>by
    obtain⟨n,_,rfl⟩:=ah'.mp (show p∈(ps.map (·.1)).map λn=>(Sum.inr n,V.str (f n)) from hp);exact⟨n,rfl⟩
   obtain⟨v,hv,hp⟩:=hitL (p:=λv:V=>(∃o∈(["Extra","","extra1","A"]:List Str),v=.str o)∨v=.int 5∨v=.non∨v=.ref tt) (xs:=[.str "Extra",.str "",.int 5,.non,.ref tt,.str "extra1"]) (n:=6) rfl r0 r1 (λv hv=>by
    simp only[an',List.not_mem_nil,or_false] at hv;rcases hv with rfl|rfl|rfl|rfl|rfl|rfl
    ·exact .inl ⟨_,by decide,rfl⟩
    ·exact .inl ⟨_,by decide,rfl⟩
    ·exact .inr (.inl rfl)
    ·exact .inr (.inr (.inl rfl))
    ·exact .inr (.inr (.inr rfl))
    ·exact .inl ⟨_,by decide,rfl⟩)
   refine⟨lk,_,_,v,rfl,rfl,.of (b6 _ _ e5 lkl),hv,?_⟩;rcases hp with⟨o,ho,rfl⟩|hp
   ·have no:o∉ps.map (·.1):=λz=>by
     have:=nn o z;rw[gC_ o ho] at this;cases this
    refine .inl ⟨df,_,rfl,.k (k:=Sum.inr o) e6 len,_,rfl,?_⟩;rw[show putK (stF (ps.map (·.1)) f) (Sum.inr o) (.str h)=_ from ct_ no];refine fin _ _ _ (λy=>some (if y=o then h else f y)) (b06.snd ndf0) (bP_ st6 dfl) a1_ (λy _=>?_) (.inl ⟨o,by simp,.inl no⟩);by_cases cz:y=o
    ·simp only[cz,if_true];exact⟨rfl,by intro z;cases z⟩
    ·simp only[cz,if_false];exact⟨rfl,by intro z;cases z⟩
   ·refine .inr ⟨df,_,rfl,e6,len,inr,?_,λes ep en=>⟨_,rfl,?_⟩⟩
    ·rcases hp with rfl|rfl|rfl
     ·exact .inr (.inl ⟨5,rfl⟩)
     ·exact .inl rfl
     ·exact .inr (.inr ⟨tt,[Sum.inr "a"],rfl,e46⟩)
    ·have tyv:∃t,TyOf K (upd H6 df (rawH df es ep)) v t/\PySem.W.kitOne K t (.type "str")=some false:=by
      rcases hp with rfl|rfl|rfl
      ·exact⟨_,.int _,rfl⟩
      ·exact⟨_,.non,rfl⟩
      ·exact⟨_,.tup ((a7_ ttd).trans e46),rfl⟩
     obtain⟨t,t1,t2⟩:=tyv;exact k _ _ (b06.snd ndf0) (bP_ st6 dfl) (.inr ⟨df,rfl,ndf0,dfl,.inr ⟨es,ep,v,_,t,a1_,en,t1,t2⟩⟩)
  rintro σ H3 ⟨w0',psn,rfl,b3,st3,e3,hlp3⟩;clear b2 st2 e2 hlp2
  have y0:0<yp.length:=by
   cases ps with
   |nil=>exact absurd rfl psn
   |cons _ _=>rw[lyp];exact Nat.zero_lt_succ _
  refine seqG (λσ H'=>∃x:Str,x∈ps.map (·.1)/\σ=[some (.ref l),some (.ref lp),some (.ref d),some (.str h),some (.int wy),some (.ref df),some (.str x)]/\But l H H'/\stt H' l/\H' df=some (.dK (stF (ps.map (·.1)) f))) ?later2 (λN hN=>?now2)
  case now2=>
   refine⟨_,rfl,_,rfl,_,rfl,lp,_,rfl,.inl (.of hlp3),l,(yp.length:Int),rfl,by omega,by omega,st3,λj H4 j0 j1 b4 st4=>?_⟩;obtain⟨j,rfl⟩:=aw' j0;have hj:j<yp.length:=by omega
   have hjp:j<ps.length:=by omega
   obtain⟨t,v,et,ht,_⟩:=ak_ pc j hj hjp;obtain⟨xs0,hl0⟩:=st.some;have tl:t≠l:=aD_ ht hl0 nofun;have b04:But l H H4:=b3.trans b4;refine⟨lp,_,_,.ref t,rfl,rfl,.of (b4 _ _ hlp3 lpl),by rw[bG_ Z1 Z1,aT',ab' hj,et],t,_,0,_,rfl,rfl,.of (b04 _ _ ht tl),rfl,?_⟩;exact hN _ _ ⟨_,List.mem_map_of_mem (aS' hjp),rfl,b04,st4,b4 _ _ e3 dfl⟩
  rintro σ H4 ⟨x,hx,rfl,b4,st4,e4⟩;clear b3 st3 e3 hlp3;have nx:=nn x hx
  have len:(stF (ps.map (·.1)) f).length<sizeLine:=by
   show (mKV (ps.map (·.1)) _).length<_;rw[av_,aa'];omega
  have drp:cR' (stF (ps.map (·.1)) f) (Sum.inr x)=mKV ((ps.map (·.1)).filter λy=>decide (y≠x)) λn=>V.str (f n):=gU_;have gx:valV (stF (ps.map (·.1)) f) (Sum.inr x)=some (V.str (f x)):=bI_ (g:=λn=>V.str (f n)) hx;refine⟨_,rfl,rfl,_,rfl,?_⟩;refine ite2 (λ_=>?_) (λc1=>?_)
  ·-- one less
   refine⟨_,rfl,df,rfl,.inl ⟨_,.inl e4⟩,_,rfl,_,Sum.inr x,V.str (f x),e4,rfl,gx,_,rfl,?_⟩;rw[drp];refine fin _ _ _ (λy=>some (f y)) (b4.snd ndf0) (bP_ st4 dfl) a1_ (λy _=>⟨rfl,by intro z;cases z⟩) (.inr ?_);have:=dO_ hx;omega
  refine⟨_,rfl,rfl,_,rfl,?_⟩;refine ite2 (λ_=>?_) (λc2=>?_)
  ·-- another name
   obtain⟨nu,lu⟩:=hq_ nx
   have no:Txt.upper x∉ps.map (·.1):=λz=>by
    have:=nn _ z;rw[nu] at this;cases this
   have no2:Txt.upper x∉(ps.map (·.1)).filter λy=>decide (y≠x):=λz=>no (List.mem_filter.mp z).1;refine⟨_,rfl,df,rfl,.inl ⟨_,.inl e4⟩,_,rfl,_,Sum.inr x,V.str (f x),e4,rfl,gx,?_⟩;rw[drp];have e5:upd H4 df (.dK (mKV ((ps.map (·.1)).filter λy=>decide (y≠x)) λn=>V.str (f n))) df=some (.dK (mKV ((ps.map (·.1)).filter λy=>decide (y≠x)) λn=>V.str (f n))):=a1_;have st5:=bP_ (u:=.dK (mKV ((ps.map (·.1)).filter λy=>decide (y≠x)) λn=>V.str (f n))) st4 dfl;have b5:=b4.snd (o:=.dK (mKV ((ps.map (·.1)).filter λy=>decide (y≠x)) λn=>V.str (f n))) ndf0;generalize upd H4 df (.dK (mKV ((ps.map (·.1)).filter λy=>decide (y≠x)) λn=>V.str (f n)))=H5 at e5 st5 b5 ⊢;have l2:=dO_ hx;rw[aa'] at l2;refine⟨_,rfl,_,rfl,rfl,x,rfl,rfl,?_,df,_,rfl,.k (k:=Sum.inr (Txt.upper x)) e5 (by rw[av_];omega),_,rfl,?_⟩
   ·have:=(cz_ nx).2.1;omega
   rw[ct_ no2];refine fin _ _ _ (λy=>some (if y=Txt.upper x then f x else f y)) (b5.snd ndf0) (bP_ st5 dfl) a1_ (λy _=>?_) (.inl ⟨Txt.upper x,by simp,.inl no⟩);by_cases cz:y=Txt.upper x
   ·simp only[cz,if_true];exact⟨rfl,by intro z;cases z⟩
   ·simp only[cz,if_false];exact⟨rfl,by intro z;cases z⟩
  refine⟨_,rfl,rfl,_,rfl,?_⟩;refine ite2 (λ_=>?_) (λc3=>?_)
  ·-- no dict
   refine⟨_,rfl,df,_,rfl,e4,λv1 hv1=>?_⟩;obtain⟨sA,eA⟩:=nw__ (o:=a1' v1 df) hv1;generalize upd H4 v1 (a1' v1 df)=H5 at sA eA ⊢;refine⟨v1,df,_,rfl,eA,.of (sA _ _ e4),λl1 y1 H6 hl1 s6 e6 _=>?_⟩;have s46:=sA.trans s6;refine⟨_,rfl,df,_,rfl,s46 _ _ e4,λtt ntt=>?_⟩;obtain⟨s7,e7⟩:=nw__ (o:=.tup ((stF (ps.map (·.1)) f).map λkv=>kV kv.1)) ntt;generalize upd H6 tt (.tup ((stF (ps.map (·.1)) f).map λkv=>kV kv.1))=H7 at s7 e7 ⊢;have s47:=s46.trans s7;refine⟨_,rfl,df,_,rfl,.of (s47 _ _ e4),λl2 nl2=>?_⟩;obtain⟨s8,e8⟩:=nw__ (o:=.lst ((stF (ps.map (·.1)) f).map λkv=>kV kv.1)) nl2;generalize upd H7 l2 (.lst ((stF (ps.map (·.1)) f).map λkv=>kV kv.1))=H8 at s8 e8 ⊢;refine⟨by show 7<=sizeLine;decide,λlo nlo=>?_⟩;obtain⟨s9,e9⟩:=nw__ (o:=.lst [.ref l1,.ref tt,.non,.str "stand",.int 7,.bl true,.ref l2]) nlo;have s48:=s47.trans s8;have lol:lo≠l:=(st4.same s48).ne nlo;generalize upd H8 lo (.lst [.ref l1,.ref tt,.non,.str "stand",.int 7,.bl true,.ref l2])=H9 at s9 e9 ⊢;have st9:=st4.same (s48.trans s9);have ne1:l1≠l:=(st4.same sA).ne hl1;have ne2:tt≠l:=(st4.same s46).ne ntt;have ne3:l2≠l:=(st4.same s47).ne nl2;refine⟨_,rfl,l,7,rfl,by decide,by decide,st9,λr HA r0 r1 bA stA=>?_⟩;have a1:=bA _ _ (((s7.trans s8).trans s9) _ _ e6) ne1;have a2:=bA _ _ ((s8.trans s9) _ _ e7) ne2;have a3:=bA _ _ (s9 _ _ e8) ne3
   obtain⟨v,hv,hp⟩:=hitL (p:=λv:V=>∃t,TyOf K HA v t/\PySem.W.kitOne K t (.type "dict")=some false) (xs:=[.ref l1,.ref tt,.non,.str "stand",.int 7,.bl true,.ref l2]) (n:=7) rfl r0 r1 (λv hv=>by
    simp only[an',List.not_mem_nil,or_false] at hv;rcases hv with rfl|rfl|rfl|rfl|rfl|rfl|rfl
    ·exact⟨_,.lst a1,rfl⟩
    ·exact⟨_,.tup a2,rfl⟩
    ·exact⟨_,.non,rfl⟩
    ·exact⟨_,.str _,rfl⟩
    ·exact⟨_,.int _,rfl⟩
    ·exact⟨_,.bl _,rfl⟩
    ·exact⟨_,.lst a3,rfl⟩)
   exact⟨lo,_,_,v,rfl,rfl,.of (bA _ _ e9 lol),hv,k v HA ((b4.trans (But.of (s48.trans s9))).trans bA) stA (.inl hp)⟩
  refine⟨by show 1<=sizeLine;decide,λla nla=>?_⟩;obtain⟨s5,e5⟩:=nw__ (o:=.lst [.str "a"]) nla;generalize upd H4 la (.lst [.str "a"])=H5 at s5 e5 ⊢;refine⟨by show 1<=sizeLine;decide,λtt ntt=>?_⟩;obtain⟨s6,e6⟩:=nw__ (o:=.tup [.str "a"]) ntt;generalize upd H5 tt (.tup [.str "a"])=H6 at s6 e6 ⊢;intro dn ndn;obtain⟨s7,e7⟩:=nw__ (o:=.dK []) ndn;generalize upd H6 dn (.dK [])=H7 at s7 e7 ⊢;refine⟨by show 9<=sizeLine;decide,λlo nlo=>?_⟩;obtain⟨s8,e8⟩:=nw__ (o:=.lst [.str "nobody",.str "",.non,.int 5,.bl true,.ref la,.ref tt,.str "A",.ref dn]) nlo;have s46:=s5.trans s6;have s47:=s46.trans s7;have lol:lo≠l:=(st4.same s47).ne nlo;generalize upd H7 lo (.lst [.str "nobody",.str "",.non,.int 5,.bl true,.ref la,.ref tt,.str "A",.ref dn])=H8 at s8 e8 ⊢;have st8:=st4.same (s47.trans s8);have ne1:la≠l:=st4.ne nla;have ne2:tt≠l:=(st4.same s5).ne ntt;have ne3:dn≠l:=(st4.same s46).ne ndn;have ld:la≠df:=(a5_ e4 nla).symm;have td:tt≠df:=(a5_ (s5 _ _ e4) ntt).symm;have dd:dn≠df:=(a5_ (s46 _ _ e4) ndn).symm;refine⟨_,rfl,l,9,rfl,by decide,by decide,st8,λr HA r0 r1 bA stA=>?_⟩;have a0:=bA _ _ ((s47.trans s8) _ _ e4) dfl;have a1:=bA _ _ (((s6.trans s7).trans s8) _ _ e5) ne1;have a2:=bA _ _ ((s7.trans s8) _ _ e6) ne2;have a3:=bA _ _ (s8 _ _ e7) ne3
  obtain⟨v,hv,hp⟩:=hitL (p:=λv:V=>v≠.ref df/\∀o,∃xo,StrV K (upd HA df o) v xo/\inB hn xo=false) (xs:=[.str "nobody",.str "",.non,.int 5,.bl true,.ref la,.ref tt,.str "A",.ref dn]) (n:=9) rfl r0 r1 (λv hv=>by
   have nm:∀o∈(["Extra","","extra1","A"]:List Str),inB hn (some o)=false:=λo ho=>a_7 λz=>by
    have:=nh o z;rw[gC_ o ho] at this;cases this
   simp only[an',List.not_mem_nil,or_false] at hv;rcases hv with rfl|rfl|rfl|rfl|rfl|rfl|rfl|rfl|rfl
   ·exact⟨nofun,λ_=>⟨some "nobody",rfl,a_7 nob⟩⟩
   ·exact⟨nofun,λ_=>⟨some "",rfl,nm _ (by decide)⟩⟩
   ·exact⟨nofun,λ_=>⟨none,⟨_,.non,rfl⟩,rfl⟩⟩
   ·exact⟨nofun,λ_=>⟨none,⟨_,.int _,rfl⟩,rfl⟩⟩
   ·exact⟨nofun,λ_=>⟨none,⟨_,.bl _,rfl⟩,rfl⟩⟩
   ·exact⟨(by intro z;cases z;exact ld rfl),λ_=>⟨none,⟨_,.lst ((a7_ ld).trans a1),rfl⟩,rfl⟩⟩
   ·exact⟨(by intro z;cases z;exact td rfl),λ_=>⟨none,⟨_,.tup ((a7_ td).trans a2),rfl⟩,rfl⟩⟩
   ·exact⟨nofun,λ_=>⟨some "A",rfl,nm _ (by decide)⟩⟩
   ·exact⟨(by intro z;cases z;exact dd rfl),λ_=>⟨none,⟨_,.dK ((a7_ dd).trans a3),rfl⟩,rfl⟩⟩)
  refine⟨lo,_,_,v,rfl,rfl,.of (bA _ _ e8 lol),hv,_,rfl,_,rfl,df,_,rfl,.k (k:=Sum.inr x) a0 len,_,rfl,?_⟩;rw[show putK (stF (ps.map (·.1)) f) (Sum.inr x) v=_ from gv_ hx];obtain⟨vd,hp⟩:=hp;obtain⟨xo,sv,bad⟩:=hp (.dK (mKV (ps.map (·.1)) λy=>if y=x then v else V.str (f y)));refine fin _ _ _ (λy=>if y=x then xo else some (f y)) (((b4.trans (But.of (s47.trans s8))).trans bA).snd ndf0) (bP_ stA dfl) a1_ (λy _=>?_) (.inl ⟨x,hx,.inr (by rw[a_8 rfl];exact bad)⟩);by_cases cx:y=x
  ·rw[a_8 cx,a_8 cx];exact⟨sv,vd⟩
  ·rw[a_6 cx,a_6 cx];exact⟨rfl,by intro z;cases z⟩
end
theorem iB_{m:Nat}(h:EndB m n)(hm:m<=26)(hw:x∉a3')(hx:x.cps.toList.getLast? = some c)(hc:97+m<=c):n≠x:=by
 rintro rfl;rcases h with h|⟨k,hk,e⟩
 ·exact hw h
 ·rw[hx] at e;have:=a_9 e;rw[Nat.mod_eq_of_lt Z1] at this;omega
variable{H H':Hp}{K:F__}{hs:Xa}{qs:List Pc}{fp:List Addr}{v:V}
theorem NoStd.same(s:Same H H')(h:NoStd K H hs qs fp v):NoStd K H' hs qs fp v:=by
 rcases h with⟨t,a,b⟩|⟨d,ns,g,x,e,nf,hd,sv,bad⟩
 ·exact .inl ⟨t,a.same s,b⟩
 ·exact .inr ⟨d,ns,g,x,e,nf,s _ _ hd,λn hn=>⟨(sv n hn).1.same λt=>t.same s,(sv n hn).2⟩,bad⟩
theorem BadA.same(s:Same H H')(h:BadA K H hs qs fp v):BadA K H' hs qs fp v:=by
 rcases h with h|⟨d,es,ep,ns,f,y,x,t,e,hd,en,ok,ty,k⟩
 ·exact .inl (h.same s)
 ·exact .inr ⟨d,es,ep,ns,f,y,x,t,e,s _ _ hd,en,ok,ty.same s,k⟩
theorem jD_{ps:List Pc}{f:Str->Str}{l:Addr}(Qq:Qs ps qs)(fm:∀n∈ps.map (·.1),f n∈hs.map (·.1))(fresh:∀d,H d=none->d∉fp)(h:Spo K H H' (ps.map (·.1)) (hs.map (·.1)) f l v):BadA K H' hs qs fp v:=by
 have mem:∀n,n∈qs.map (·.1) ↔ n∈ps.map (·.1):=λn=>by
  rw[Qq.nms];exact (aF_ _).mem_iff
 have len:qs.length=(ps.map (·.1)).length:=by
  rw[<- aa' (as:=qs) (f:=λq:Pc=>q.1),Qq.nms];exact (aF_ _).length_eq
 rcases h with⟨t,a,b⟩|⟨d,e,hn,_,⟨ms,g,x,hd,sv,bad⟩|⟨es,ep,y,x,t,hd,en,ty,k⟩⟩
 ·exact .inl (.inl ⟨t,a,b⟩)
 ·refine .inl (.inr ⟨d,ms,g,x,e,fresh d hn,hd,sv,?_⟩);rcases bad with⟨y,hy,z|z⟩|z
  ·exact .inl ⟨y,hy,.inl λq=>z ((mem y).mp q)⟩
  ·exact .inl ⟨y,hy,.inr z⟩
  ·exact .inr (by rw[len];exact z)
 ·exact .inr ⟨d,es,ep,ps.map (·.1),f,y,x,t,e,hd,en,λn hn=>⟨(mem n).mpr hn,fm n hn⟩,ty,k⟩
theorem gY_{α:Type}{xs:List α}(h:0<xs.length):atI xs (-1)=xs[xs.length - 1]?:=by
 unfold atI ixN;rw[a_6 (by decide),a_8 Z1];show xs[((xs.length:Int) + -1).toNat]? = _;congr 1;omega
theorem di_{K:F__}{H:Hp}{f:Str->Str}:∀{ns:List Str} {ys:List V},a5' K H ys (mKV ns λn=>.str (f n))->Paired (r2 K rS rS H) ys (ns.map λn=>(n,f n))
 |[],_,.nil=>.nil
 |_::_,_,.cons ⟨a,e,h⟩ t=>.cons ⟨a,_,_,e,.of h,rfl,rfl⟩ (di_ t)
theorem dm':aX' ["_law_script","_law_hands","_law_ties","_law_pieces_here"] ["_law_script"] (aW' sMade):=f__
def spMade(K:F__)(CG CW:Addr):Sp:=λvs H Q _=>∃(ls:Addr) (ns:List Int),vs=[.ref ls]/\SqL K H ls (ns.map V.int)/\∀(t lh lt lp g p:Addr) (yh yt yp:List V) (hs:Xa) (ts:Xb) (ps qs:List Pc) (fp:List Addr) (H':Hp),Same H H'->H' t=some (.tup [.ref lh,.ref lt,.ref lp,.ref g])->Lay K CG CW H' lh lp g p yh yp hs ts ps qs fp->H' lt=some (.lst yt)->aZ' K H' yt (ts.map kT)->Sure hs ts ps qs->(∀n∈hs.map (·.1),EndB 8 n)->Q (.ref t) H'
variable{fd:Ae}{CG CW f:Addr}{P:Ad}{w:Af}{mg:Str->Option Aa}{base:Heap}
theorem im_(F:Fun K "_law_made" "_law_made" sMade f fd)(cC:Cal P w K mg base 1 "_law_cell_at" ["_law_script","_law_k"] (de' K))(cL:Cal P w K mg base 3 "_law_web" ["_law_state","_law_most"] (spLWeb K))(cP:Cal P w K mg base 3 "_law_pieces" ["_law_state","_law_ties","_law_most"] (bX' K))(cW:CalC P w K mg base CW 5 "Web" ["self","hands","ties"] (c8' K CW))(cG:CalC P w K mg base CG 7 "Goods" ["self","web","pieces"] (cC' K CG CW)) :
  FnOk P w K mg base CX0 9 f fd ["_law_script"] (spMade K CG CW):=by
 refine F.ok dm' (λvs H Q E h=>?_) (λcdv A outer s H vs Q E hr h=>?_)
 ·obtain⟨a,ns,rfl,_⟩:=h;rfl
 ·obtain⟨ls,ns,rfl,hls,k⟩:=h;have sz:=b_1;have hr1:Room 1 _:=hr.mono (by decide);have hr3:Room 3 _:=hr.mono (by decide);have hr6:Room 6 _:=hr.mono (by decide);refine' ⟨_,?r0,?kk⟩
  case' r0=>refine' a3_ ?s1 (a3_ ?s2 (a4_ ?s3))
  case s1=>exact dy_ (af_ cL hr3 (a0_ (aK_ (a0_ (af_ cC hr1 (a0_ (pv 0) (a0_ a6_ a2_))) a2_)) (a0_ a6_ a2_))) (bq_ rfl (ae_ (a9_ (i:=1) dm'.nd rfl (Or.inl rfl)) (ae_ (a9_ (i:=2) dm'.nd rfl (Or.inl rfl)) aN_)))
  case s2=>exact ab_ (i:=3) dm'.nd rfl (Or.inl rfl) (af_ cP hr3 (a0_ (aK_ (a0_ (af_ cC hr1 (a0_ (pv 0) (a0_ a6_ a2_))) a2_)) (a0_ (pv 2) (a0_ a6_ a2_))))
  case s3=>exact aa_ (aP_ (a0_ (pv 1) (a0_ (pv 2) (a0_ (pv 3) (a0_ (jk_ cG hr (a0_ (jk_ cW hr6 (a0_ (pv 1) (a0_ (pv 2) a2_))) (a0_ (pv 3) a2_))) a2_)))))
  case' kk=>skip
  refine⟨_,rfl,ls,ns,0,rfl,by decide,hls,λn0=>?_⟩;refine⟨by show 1<=sizeLine;decide,λl0 hl0=>?_⟩;have sa:=Same.new (o:=.lst [.int n0]) hl0;have st0:stt (upd H l0 (.lst [.int n0])) l0:=.inl ⟨n0,a1_⟩;generalize upd H l0 (.lst [.int n0])=Ha at sa st0 ⊢;refine⟨l0,rfl,st0,λt0 lh lt yh yt hs ts H2 b2 st2 ht2 hlh hlt nlt hlh2 th2 hlt2 tt2 Gd ends=>?_⟩;have s2:Same H H2:=λb o e=>b2 _ _ (sa _ _ e) (a5_ e hl0);have hls2:=s2.seq hls;clear b2 sa st0 st2 hlh hlt hl0;refine⟨t0,_,rfl,.of ht2,rfl,_,_,rfl,_,_,rfl,rfl,?_⟩;clear ht2;refine⟨_,rfl,ls,ns,1,rfl,by decide,hls2,λn1=>?_⟩;refine⟨by show 1<=sizeLine;decide,λl1 hl1=>?_⟩;have sa:=Same.new (o:=.lst [.int n1]) hl1;have st0:stt (upd H2 l1 (.lst [.int n1])) l1:=.inl ⟨n1,a1_⟩;generalize upd H2 l1 (.lst [.int n1])=Ha at sa st0 ⊢;refine⟨_,rfl,l1,lt,30,yt,ts,rfl,ae' _,st0,sa _ _ hlt2,tt2.same sa,a5_ hlt2 hl1,Gd.t64,Gd.tok,Gd.tnd,λlp yp ps H4 b4 st4 hlp hlp4 pc4 gp nd h30 _=>?_⟩;have s4:Same H2 H4:=λb o e=>b4 _ _ (sa _ _ e) (a5_ e hl1);have hlh4:=s4 _ _ hlh2;have hlt4:=s4 _ _ hlt2;have th4:=th2.same s4;have tt4:=tt2.same s4;have s04:=s2.trans s4;clear b4 sa st0 st4 hl1 hlp hlh2 hlt2 th2 tt2 hls2 s4;refine⟨_,rfl,_,rfl,_,rfl,_,rfl,_,rfl,λp dx hp hdx ndp=>?_⟩;have s8:Same H4 (upd (upd H4 dx (.own p)) p (.ins CW dx [])):=(Same.new hdx).trans (Same.new (by rw[a7_ ndp.symm];exact hp));have hp8:upd (upd H4 dx (.own p)) p (.ins CW dx []) p=some (.ins CW dx []):=a1_;generalize upd (upd H4 dx (.own p)) p (.ins CW dx [])=H8 at s8 hp8 ⊢;refine⟨p,dx,lh,lt,yh,yt,hs,ts,rfl,hp8,s8 _ _ hlh4,th4.same s8,s8 _ _ hlt4,tt4.same s8,Gd,λfpw Hw keep W _=>⟨rfl,?_⟩⟩;have s9:Same H4 Hw:=λb o e=>keep b o (s8 _ _ e) (a5_ e hp);refine⟨_,rfl,λg dxg hg hdg ndg=>?_⟩;have s10:Same Hw (upd (upd Hw dxg (.own g)) g (.ins CG dxg [])):=(Same.new hdg).trans (Same.new (by rw[a7_ ndg.symm];exact hg));have hg8:upd (upd Hw dxg (.own g)) g (.ins CG dxg []) g=some (.ins CG dxg []):=a1_;generalize upd (upd Hw dxg (.own g)) g (.ins CG dxg [])=H10 at s10 hg8 ⊢
  have gw:g∉fpw:=λm=>by
   obtain⟨o,e⟩:=W.has m;rw[hg] at e;cases e
  have s410:=s9.trans s10;refine⟨g,dxg,p,lp,yp,ps,hs,ts,fpw,rfl,hg8,W.same s10,gw,Gd,s410 _ _ hlp4,Paired.mapP pc4 λ_ _ q=>q.same s410,gp,nd,by omega,λqs fp H11 keep2 GA Qq _=>⟨rfl,?_⟩⟩;have sw:Same Hw H11:=λb o e=>keep2 b o (s10 _ _ e) (a5_ e hg);have s411:=s9.trans sw;refine⟨by show 4<=sizeLine;decide,λt ht=>?_⟩;have s12:=Same.new (o:=.tup [.ref lh,.ref lt,.ref lp,.ref g]) ht;have s412:=s411.trans s12;exact k t lh lt lp g p yh yt yp hs ts ps qs fp _ (s04.trans s412) a1_ ⟨s412 _ _ hlh4,th4.same s412,s412 _ _ hlp4,Paired.mapP pc4 λ_ _ q=>q.same s412,GA.same s12⟩ (s412 _ _ hlt4) (tt4.same s412) ⟨Gd,gp,nd,h30,Qq⟩ ends
theorem bU':aX' ["_law_script","_law_hands","_law_ties","_law_pieces_here","_law_goods","_law_k","_law_state","_law_stand_here","_law_kept","_law_odd","_law_way","_law_none"] ["_law_script"] (aW' sLaw):=f__
def spLaw(K:F__):Sp:=λvs H Q _=>∃(a:Addr) (ns:List Int),vs=[.ref a]/\SqL K H a (ns.map V.int)/\ns.length<=63/\∀H',Q (.bl true) H'
theorem jE_(F:Fun K "law" "law" sLaw f fd)(B:Bi mg)(mMin:mg "min"=none)(cC:Cal P w K mg base 1 "_law_cell_at" ["_law_script","_law_k"] (de' K))(cM:Cal P w K mg base 9 "_law_made" ["_law_script"] (spMade K CG CW))(cS:Cal P w K mg base 2 "_law_stand" ["_law_state","_law_pieces_here","_law_hands"] (cH' K))(cP:Cal P w K mg base 2 "_law_spoiled" ["_law_state","_law_pieces_here","_law_stand_here","_law_hand"] (ct' K))(cA:Cal P w K mg base 8 "_law_asked" ["_law_goods","_law_stand_here","_law_way","_law_hand"] (cw' K CG CW)):FnOk P w K mg base CX0 10 f fd ["_law_script"] (spLaw K):=by
 refine F.ok bU' (λvs H Q E h=>?_) (λcdv A outer s H vs Q E hr h=>?_)
 ·obtain⟨a,ns,rfl,_⟩:=h;rfl
 ·obtain⟨ls,ns,rfl,hls,h63,k⟩:=h;have sz:=b_1;have hu:=b2_ hr;have hr1:Room 1 _:=hr.mono (by decide);have hr2:Room 2 _:=hr.mono (by decide);have hr8:Room 8 _:=hr.mono (by decide);refine' ⟨_,?r0,?kk⟩
  case' r0=>refine' a3_ ?s1 ?r1
  case s1=>exact dy_ (af_ cM hr (a0_ (pv 0) a2_)) (bq_ rfl (ae_ (a9_ (i:=1) bU'.nd rfl (Or.inl rfl)) (ae_ (a9_ (i:=2) bU'.nd rfl (Or.inl rfl)) (ae_ (a9_ (i:=3) bU'.nd rfl (Or.inl rfl)) (ae_ (a9_ (i:=4) bU'.nd rfl (Or.inl rfl)) aN_)))))
  case' r1=>refine' a3_ ?s2 ?r2
  case r2=>exact a4_ (aa_ dJ_)
  case' s2=>refine' aM_ b_2 rfl ?i2 ?g2 ?b2
  case i2=>exact fV_ (by rfl) B.range (a0_ a6_ (a0_ (a8_ (gx_ rfl) (by rfl) B.max PyProof.Rows.Boot.«max» (a0_ a6_ (a0_ (a8_ (fu_ rfl) (by rfl) mMin PyProof.Rows.Boot.«min» (a0_ a6_ (a0_ (a8_ ai_ (by rfl) B.len b_7 (a0_ (pv 0) a2_)) a2_))) a2_))) a2_))
  case g2=>exact a9_ (i:=5) bU'.nd rfl (Or.inl rfl)
  case' b2=>refine' a3_ ?t1 ?q1
  case t1=>exact ab_ (i:=6) bU'.nd rfl (Or.inl rfl) (aK_ (a0_ (al_ b4_ (af_ cC hr1 (a0_ (pv 0) (a0_ (pv 5) a2_))) (al_ cd_ a6_ (pv 5))) a2_))
  case' q1=>refine' a3_ ?t2 ?q2
  case t2=>exact ab_ (i:=7) bU'.nd rfl (Or.inl rfl) (af_ cS hr2 (a0_ (pv 6) (a0_ (pv 3) (a0_ (pv 1) a2_))))
  case' q2=>refine' a3_ ?t3 ?q3
  case t3=>exact ab_ (i:=8) bU'.nd rfl (Or.inl rfl) (am_ (c9_ rfl) (by rfl) B.list PyProof.Rows.Boot.«list» (a0_ (aT_ (pv 7)) a2_))
  case' q3=>refine' a3_ ?t4 ?q4
  case t4=>exact ab_ (i:=9) bU'.nd rfl (Or.inl rfl) (af_ cP hr2 (a0_ (pv 6) (a0_ (pv 3) (a0_ (pv 7) (a0_ (an_ aC_ (an_ ar_ (pv 1) (jF_ i7_ a6_) (λ_ _=>rfl)) a6_ (λ_ _=>rfl)) a2_)))))
  case' q4=>refine' a3_ ?t5 ?q5
  case' t5=>refine' aM_ b_2 rfl (cC_ (by rfl) B.range (a0_ a6_ a2_)) (a9_ (i:=10) bU'.nd rfl (Or.inl rfl)) (a3_ ?u1 (a4_ ?u2))
  case u1=>exact aj_ (ah_ cL_ (af_ cA hr8 (a0_ (pv 4) (a0_ (pv 7) (a0_ (pv 10) (a0_ (an_ aC_ (an_ ar_ (pv 1) a6_ (λ_ _=>rfl)) a6_ (λ_ _=>rfl)) a2_))))) ao_ (nomark _)) ac_ ad_
  case u2=>exact aj_ (ah_ cL_ (af_ cA hr8 (a0_ (pv 4) (a0_ (pv 9) (a0_ (pv 10) (a0_ (an_ ar_ (aK_ (a0_ (an_ aC_ (an_ ar_ (pv 1) a6_ (λ_ _=>rfl)) a6_ (λ_ _=>rfl)) (a0_ ao_ a2_))) (al_ bZ_ (pv 5) a6_) (λ_ _=>rfl)) a2_))))) ao_ (nomark _)) ac_ ad_
  case' q5=>refine' a3_ ?t6 (a4_ ?t7)
  case' t6=>refine' aM_ b_2 rfl (au_ (aK_ (a0_ ao_ (a0_ ao_ (a0_ d3_ (a0_ a6_ (a0_ (aK_ (a0_ (an_ aC_ (an_ ar_ (pv 1) a6_ (λ_ _=>rfl)) a6_ (λ_ _=>rfl)) a2_)) (a0_ ao_ (a0_ dJ_ a2_))))))))) (a9_ (i:=11) bU'.nd rfl (Or.inl rfl)) (a4_ ?u3)
  case u3=>exact aj_ (ah_ cL_ (af_ cA hr8 (a0_ (pv 4) (a0_ (pv 7) (a0_ a6_ (a0_ (pv 11) a2_))))) ao_ (nomark _)) ac_ ad_
  case t7=>exact aj_ (ah_ (jy_ (cmp2 cmpS cmpS) (roomU hr _)) (am_ (c9_ rfl) (by rfl) B.list PyProof.Rows.Boot.«list» (a0_ (aT_ (pv 7)) a2_)) (pv 8) (nomark _)) ac_ ad_
  case' kk=>skip
  refine⟨_,rfl,ls,ns,rfl,hls,λt0 lh lt lp g p yh yt yp hs ts ps qs fp0 Hb sb ht0 L0 ht tt S ends=>?_⟩;refine⟨t0,_,rfl,.of ht0,rfl,_,_,rfl,_,_,rfl,_,_,rfl,_,_,rfl,rfl,?_⟩;obtain⟨fp,G',has⟩:=L0.G.slim;have L:Lay K CG CW Hb lh lp g p yh yp hs ts ps qs fp:=⟨L0.hh,L0.th,L0.hp,L0.pc,G'⟩;clear L0 G' ht0;have hls:=sb.seq hls;have hln:(ns.map V.int).length<=63:=by rw[aa'];exact h63
  have lyp:=a_4 L.pc;have lyh:=a_4 L.th;rw[aa'] at lyh;have h1:=S.Gd.h1;have h8:=S.Gd.h8;have h30:=S.h30
  have wq:∀q∈qs,0<=q.2.1/\q.2.1<=1000000000:=λq hq=>by
   obtain⟨p',hp',rfl⟩:=S.Q.mem q hq;have:=(S.gp p' hp').w1;have:=(S.gp p' hp').w2;show 0<=p'.2.1/\p'.2.1<=1000000000;omega
  have hok:∀n∈hs.map (·.1),a8' n=true:=λn hn=>by
   obtain⟨h,hh,rfl⟩:=ah'.mp hn;exact (S.Gd.hok h hh).1
  have nok:∀n∈ps.map (·.1),a8' n=true:=λn hn=>by
   obtain⟨q,hq,rfl⟩:=ah'.mp hn;exact (S.gp q hq).nm
  have nob:("nobody":Str)∉hs.map (·.1):=λm=>iB_ (c:=121) (ends _ m) (by decide) Z0 Z0 (by decide) rfl
  have odd:∀x∈(["Extra","","extra1","A"]:List Str),inB (hs.map (·.1)) (some x)=false:=λx hx=>a_7 λz=>by
   have:=hok x z;rw[gC_ x hx] at this;cases this
  have y0:0<yh.length:=by omega
  obtain⟨h0,hh0,a0,ea0,ha0⟩:=aG_ L.th (ab' y0);have ey0:atI yh 0=some (V.ref a0):=by rw[bG_ (by decide) Z1];exact (ab' y0).trans (b_5 some ea0)
  have m0:h0.1∈hs.map (·.1):=List.mem_map_of_mem (ad' hh0);have ha0:=hpH ha0;obtain⟨h9,hh9,a9,ea9,ha9⟩:=aG_ L.th (ab' (show yh.length - 1<yh.length by omega));have ey9:atI yh (-1)=some (V.ref a9):=by rw[gY_ y0,ab' (show yh.length - 1<yh.length by omega),ea9]
  have ha9:=hpH ha9;clear ea0 ea9 hh0 hh9;refine⟨_,rfl,ls,_,rfl,.inl hls,_,_,rfl,_,_,rfl,_,_,rfl,?_,?_⟩
  ·refine⟨by decide,by decide,?_,?_⟩
   ·split
    ·split<;>omega
    ·decide
   ·split
    ·split<;>omega
    ·decide
  refine bU_ (lo:=2) (λi σ H'=>∃(v5 v6 v7 v8 v9 v10 v11:Option V),σ=[some (.ref ls),some (.ref lh),some (.ref lt),some (.ref lp),some (.ref g),v5,v6,v7,v8,v9,v10,v11]/\Same Hb H') ⟨none,none,none,none,none,none,none,rfl,Same.refl Hb⟩ ?_ ?_;rotate_left 1
  ·rintro σ H1 ⟨v5,v6,v7,v8,v9,v10,v11,rfl,s1⟩;exact k H1
  rintro i σ Hi hi ⟨v5,v6,v7,v8,v9,v10,v11,rfl,si⟩;have Li:=L.same si;refine⟨_,rfl,_,rfl,ls,ns,2+(i:Int),rfl,by omega,si.seq hls,λn=>?_⟩;refine⟨_,rfl,_,_,rfl,rfl,.inl ⟨by decide,by decide⟩,_,_,rfl,rfl,?_⟩;dsimp only;generalize n+11 * (2+(i:Int))=n';refine⟨by show 1<=sizeLine;decide,λl hl=>?_⟩;have sl:=Same.new (o:=.lst [.int n']) hl;have st:stt (upd Hi l (.lst [.int n'])) l:=.inl ⟨n',a1_⟩;generalize upd Hi l (.lst [.int n'])=H1 at sl st ⊢;have L1:=Li.same sl;have nl:∀{b o},Hi b=some o->b≠l:=λe=>a5_ e hl
  have fresh:∀d,Hi d=none->d∉fp:=λd hd m=>by
   obtain⟨o,e⟩:=has d m;rw[si _ _ e] at hd;cases hd
  refine⟨_,rfl,_,rfl,_,rfl,l,lp,lh,yp,yh,ps,hs,rfl,st,L1.hp,nl Li.hp,L1.pc,L1.hh,nl Li.hh,L1.th,by omega,h8,h30,S.nd,λd f H2 b2 st2 hd0 e2 fm=>?_⟩;refine setG ?_;dsimp only;have s2:Same Hi H2:=λb o e=>b2 _ _ (sl _ _ e) (nl e);have hdi:=sl.free hd0
  have dl:d≠l:=by
   obtain⟨xs,e⟩:=st.some;exact (a5_ e hd0).symm
  have dn:=fresh d hdi;clear b2 st hd0 L1;refine⟨_,rfl,d,_,rfl,e2,λv1 hv1=>?_⟩;obtain⟨sA,eA⟩:=nw__ (o:=a1' v1 d) hv1;generalize upd H2 v1 (a1' v1 d)=H3 at sA eA ⊢;refine⟨v1,d,_,rfl,eA,.of (sA _ _ e2),λlk yk H4 hlk s4 e4 pk=>?_⟩;refine setG ?_;dsimp only;have s24:=sA.trans s4;have si4:=s2.trans s24;have st4:=st2.same s24;have e24:=s24 _ _ e2;have L4:=Li.same si4;have lkl:lk≠l:=(st2.same sA).ne hlk;have i4:Same Hb H4:=si.trans si4;refine⟨_,rfl,_,rfl,_,rfl,_,rfl,_,rfl,lh,_,_,.ref a9,rfl,rfl,.of L4.hh,ey9,a9,_,0,_,rfl,rfl,.of (i4 _ _ ha9),rfl,?_⟩;refine⟨l,lp,d,h9.1,yp,ps,hs.map (·.1),f,rfl,st4,L4.hp,nl Li.hp,L4.pc,h30,dl,e24,nok,hok,nob,fm,λv H5 b5 st5 spo=>?_⟩;refine setG ?_;dsimp only;have bad:=jD_ (qs:=qs) S.Q fm (λd' z=>fresh d' (si4.free z)) spo;have si5:Same Hi H5:=λb o e=>b5 _ _ (si4 _ _ e) (nl e);have e5:=b5 _ _ e24 dl;have ek5:=b5 _ _ e4 lkl;obtain⟨xs4,hl4⟩:=st4.some;have pk5:a5' K H5 yk (stF (ps.map (·.1)) f):=Paired.mapP pk λ_ _ ⟨a,e,q⟩=>⟨a,e,b5 _ _ q (aD_ q hl4 nofun)⟩;have L5:=Li.same si5;have S5:=L5.std S dn e5 fm;have i5:Same Hb H5:=si.trans si5;clear spo b5 st5 st4 hl4 pk e4 e24 L4 i4 si4 s24 s4 hlk eA sA hv1 e2 st2 s2 lkl;refine seqG (λσ H'=>∃v10,σ=[some (.ref ls),some (.ref lh),some (.ref lt),some (.ref lp),some (.ref g),some (.int (2+(i:Int))),some (.ref l),some (.ref d),some (.ref lk),some v,v10,v11]/\Same H5 H') ?later (λN hN=>?now)
  case now=>
   refine⟨_,rfl,by decide,by decide,?_⟩;refine bU_ (lo:=0) (n:=(6:Int).toNat) (λj σ H'=>∃v10,σ=[some (.ref ls),some (.ref lh),some (.ref lt),some (.ref lp),some (.ref g),some (.int (2+(i:Int))),some (.ref l),some (.ref d),some (.ref lk),some v,v10,v11]/\Same H5 H') ⟨_,rfl,Same.refl _⟩ ?_ ?_;rotate_left 1
   ·rintro σ H6 ⟨w10,rfl,s6⟩;exact hN _ _ ⟨_,rfl,s6⟩
   rintro j σ H6 hj ⟨w10,rfl,s6⟩;refine⟨_,rfl,_,rfl,_,rfl,_,rfl,lh,_,_,.ref a0,rfl,rfl,.of (s6 _ _ L5.hh),ey0,a0,_,0,_,rfl,rfl,.of ((i5.trans s6) _ _ ha0),rfl,?_⟩;refine⟨g,p,.ref d,_,_,hs,ts,qs,fp,rfl,L5.G.same s6,.inr ⟨d,_,f,rfl,S5.same s6,wq,.inl ⟨h0.1,rfl,m0,λH7 s7=>⟨rfl,_,rfl,iteF ?_⟩⟩⟩⟩;have s07:=s6.trans s7;refine⟨_,rfl,_,rfl,_,rfl,_,rfl,lh,_,_,.ref a0,rfl,rfl,.of (s07 _ _ L5.hh),ey0,a0,_,0,_,rfl,rfl,.of ((i5.trans s07) _ _ ha0),rfl,?_⟩;refine⟨by show 2<=sizeLine;decide,λlx nx=>?_⟩;obtain⟨s8,e8⟩:=nw__ (o:=.lst [.str h0.1,.str "nobody"]) nx;generalize upd H7 lx (.lst [.str h0.1,.str "nobody"])=H8 at s8 e8 ⊢;have r0:0<=(2+(i:Int)) % 2:=Int.emod_nonneg _ (by decide);have r1:(2+(i:Int)) % 2<2:=Int.emod_lt_of_pos _ (by decide);obtain⟨x,hx,_⟩:=hitL (p:=λ_:V=>True) (xs:=[.str h0.1,.str "nobody"]) (n:=2) rfl r0 r1 (λ_ _=>trivial);refine⟨_,rfl,_,_,rfl,rfl,by decide,lx,_,_,x,rfl,rfl,.of e8,hx,?_⟩;have s08:=s07.trans s8;exact⟨g,p,v,_,_,hs,ts,qs,fp,rfl,L5.G.same s08,.inl ⟨bad.same s08,λH9 s9=>⟨rfl,_,rfl,iteF ⟨_,rfl,s08.trans s9⟩⟩⟩⟩
  rintro σ H6 ⟨w10,rfl,s6⟩;refine seqG (λσ H'=>∃w11,σ=[some (.ref ls),some (.ref lh),some (.ref lt),some (.ref lp),some (.ref g),some (.int (2+(i:Int))),some (.ref l),some (.ref d),some (.ref lk),some v,w10,w11]/\Same H5 H') ?later2 (λN hN=>?now2)
  case now2=>
   refine⟨_,rfl,lh,_,_,.ref a0,rfl,rfl,.of (s6 _ _ L5.hh),ey0,a0,_,0,_,rfl,rfl,.of ((i5.trans s6) _ _ ha0),rfl,?_⟩;refine⟨by show 1<=sizeLine;decide,λla na=>?_⟩;obtain⟨s7,e7⟩:=nw__ (o:=.lst [.str h0.1]) na;generalize upd H6 la (.lst [.str h0.1])=H7 at s7 e7 ⊢;refine⟨by show 7<=sizeLine;decide,λlo no=>?_⟩;obtain⟨s8,e8⟩:=nw__ (o:=.lst [.str "nobody",.str "",.non,.int 5,.ref la,.str "A",.bl true]) no;generalize upd H7 lo (.lst [.str "nobody",.str "",.non,.int 5,.ref la,.str "A",.bl true])=H8 at s8 e8 ⊢;have s08:=(s6.trans s7).trans s8;have e78:=s8 _ _ e7;refine⟨lo,rfl,⟨_,.of e8⟩,aQ_ (K:=K) (a:=lo) (xs:=[.str "nobody",.str "",.non,.int 5,.ref la,.str "A",.bl true]) (λj σ H'=>∃w11,σ=[some (.ref ls),some (.ref lh),some (.ref lt),some (.ref lp),some (.ref g),some (.int (2+(i:Int))),some (.ref l),some (.ref d),some (.ref lk),some v,w10,w11]/\Same H8 H') ⟨_,rfl,Same.refl _⟩ (λj σ H' _ ⟨_,_,z⟩=>.of (z _ _ e8)) ?_ ?_⟩;rotate_left 1
   ·rintro σ H9 ⟨w11,rfl,s9⟩;exact hN _ _ ⟨_,rfl,s08.trans s9⟩
   rintro j y σ H9 hy ⟨w11,rfl,s9⟩
   have od:∃x,StrV K H9 y x/\inB (hs.map (·.1)) x=false:=by
    have m:=ad' hy;simp only[an',List.not_mem_nil,or_false] at m;rcases m with rfl|rfl|rfl|rfl|rfl|rfl|rfl
    ·exact⟨some "nobody",rfl,a_7 nob⟩
    ·exact⟨some "",rfl,odd _ (by decide)⟩
    ·exact⟨none,⟨_,.non,rfl⟩,rfl⟩
    ·exact⟨none,⟨_,.int 5,rfl⟩,rfl⟩
    ·exact⟨none,⟨_,.lst (s9 _ _ e78),rfl⟩,rfl⟩
    ·exact⟨some "A",rfl,odd _ (by decide)⟩
    ·exact⟨none,⟨_,.bl true,rfl⟩,rfl⟩
   obtain⟨x,sx,ox⟩:=od;have s09:=s08.trans s9;exact⟨_,rfl,_,rfl,_,rfl,g,p,.ref d,y,5,hs,ts,qs,fp,rfl,L5.G.same s09,.inr ⟨d,_,f,rfl,S5.same s09,wq,.inr ⟨rfl,x,sx,ox,λHA sA=>⟨rfl,_,rfl,iteF ⟨_,rfl,s9.trans sA⟩⟩⟩⟩⟩
  rintro σ H7 ⟨w11,rfl,s7⟩;refine⟨_,rfl,d,_,rfl,s7 _ _ e5,λv2 hv2=>?_⟩;obtain⟨sA,eA⟩:=nw__ (o:=a1' v2 d) hv2;generalize upd H7 v2 (a1' v2 d)=H8 at sA eA ⊢;have s8:=s7.trans sA;refine⟨v2,d,_,rfl,eA,.of (s8 _ _ e5),λlx yx H9 hlx s9 e9 px=>?_⟩;have s59:=s8.trans s9;refine⟨_,rfl,_,_,⟨lx,yx,rfl,.of e9,di_ px⟩,⟨lk,yk,rfl,.of (s59 _ _ ek5),di_ (Paired.mapP pk5 λ_ _ ⟨a,e,q⟩=>⟨a,e,s59 _ _ q⟩)⟩,_,rfl,?_⟩;refine ite2 (λc=>by simp at c) (λ_=>?_);exact⟨_,_,_,_,_,_,_,rfl,si.trans (si5.trans s59)⟩
structure Fd (K:F__) (mg:Str->Option Aa) (x:Str) (st:Stmt):Prop where
 ex:∃f fd,Fun K x x st f fd/\mg x=some (.ref f)/\PySem.W.keepIn K (.ref f)=true
variable{h:Heap}{st:Stmt}{cdv ct doc oc pm:Aa}{an od:Option Addr}{osl:Array (Option Aa)}
theorem fd_mk(X:K.In h)(G:h.Ns mainGlobals mg){kV:Aa}(a:PySem.W.nsIn K mainGlobals x=some (some (.ref f)))(l:K.lookup f=some ⟨oc,od,.func (PySem.W.fnOf x x (bd' st) (a6' st) (aW' st) .none kV doc pm an cdv ct),osl⟩)(c:PySem.W.codeIn K cdv x=true)(k:PySem.W.keepIn K (.ref f)=true):Fd K mg x st:=⟨_,_,g7_ l c k,b_9 X G a,k⟩
structure Md (K:F__) (C:Addr) (m qual:Str) (st:Stmt):Prop where
 ex:∃f fd,Fun K m qual st f fd/\Meth K C m f
variable{m qual:Str}{C:Addr}
theorem md_mk{kV:Aa}(a:PySem.W.findIn K (.ref C) m=some (some (.ref f)))(i:PySem.W.isFn K (.ref f)=true)(l:K.lookup f=some ⟨oc,od,.func (PySem.W.fnOf m qual (bd' st) (a6' st) (aW' st) .none kV doc pm an cdv ct),osl⟩)(c:PySem.W.codeIn K cdv qual=true)(k:PySem.W.keepIn K (.ref f)=true):Md K C m qual st:=⟨_,_,g7_ l c k,a,i,k⟩
variable{ps:List Str}{k:Nat}{sp:Sp}
theorem cal(d:Fd K mg x st)(ok:∀f fd,Fun K x x st f fd->FnOk P w K mg base CX0 k f fd ps sp)(h:∀(kV doc pm:Aa) (an:Option Addr) (cdv ct:Aa) (us:List Aa),us.length=ps.length->bindArgs (PySem.W.fnOf x x (bd' st) (a6' st) (aW' st) .none kV doc pm an cdv ct) ⟨us,[]⟩=pure (ps.zip us)):Cal P w K mg base k x ps sp:=by
 obtain⟨f,fd,F,m,kp⟩:=d.ex;exact⟨f,fd,ok f fd F,m,kp,F.binds h⟩
theorem calM(d:Md K C m qual st)(ok:∀f fd,Fun K m qual st f fd->FnOk P w K mg base CX0 k f fd ps sp)(h:∀(kV doc pm:Aa) (an:Option Addr) (cdv ct:Aa) (us:List Aa),us.length=ps.length->bindArgs (PySem.W.fnOf m qual (bd' st) (a6' st) (aW' st) .none kV doc pm an cdv ct) ⟨us,[]⟩=pure (ps.zip us)):CalM P w K mg base C k m ps sp:=by
 obtain⟨f,fd,F,m⟩:=d.ex;exact⟨f,fd,ok f fd F,m,F.binds h⟩
theorem calX(d:Md K C m qual st)(ok:∀f fd,Fun K m qual st f fd->FnOk P w K mg base (CX1 P w) k f fd ps sp)(h:∀(kV doc pm:Aa) (an:Option Addr) (cdv ct:Aa) (us:List Aa),us.length=ps.length->bindArgs (PySem.W.fnOf m qual (bd' st) (a6' st) (aW' st) .none kV doc pm an cdv ct) ⟨us,[]⟩=pure (ps.zip us)):CalX P w K mg base C k m ps sp:=by
 obtain⟨f,fd,F,m⟩:=d.ex;exact⟨f,fd,ok f fd F,m,F.binds h⟩
theorem calC(d:Md K C "__init__" qual st)(hx:mg x=some (.ref C))(mk:PySem.W.makesIn K C=true)(kc:PySem.W.keepIn K (.ref C)=true)(ok:∀f fd,Fun K "__init__" qual st f fd->FnOk P w K mg base CX0 k f fd ps sp)(h:∀(kV doc pm:Aa) (an:Option Addr) (cdv ct:Aa) (us:List Aa),us.length=ps.length->bindArgs (PySem.W.fnOf "__init__" qual (bd' st) (a6' st) (aW' st) .none kV doc pm an cdv ct) ⟨us,[]⟩=pure (ps.zip us)):CalC P w K mg base C k x ps sp:=by
 obtain⟨f,fd,F,m⟩:=d.ex;exact⟨f,fd,ok f fd F,⟨mk,m.1,m.2,kc⟩,hx,F.binds h⟩
theorem calG(d:Fd K mg x st)(ok:∀f fd,Fun K x x st f fd->FnOk P w K mg base (CX2 P w) k f fd ps sp)(h:∀(kV doc pm:Aa) (an:Option Addr) (cdv ct:Aa) (us:List Aa),us.length=ps.length->bindArgs (PySem.W.fnOf x x (bd' st) (a6' st) (aW' st) .none kV doc pm an cdv ct) ⟨us,[]⟩=pure (ps.zip us))   : CalG P w K mg base k x ps sp:=by
 obtain⟨f,fd,F,m,kp⟩:=d.ex;exact⟨f,fd,ok f fd F,m,kp,F.binds h⟩
variable{l:PySem.W.OpenLaw}
theorem all_mk{fa CP CN CH CE C0 C4 fl:Addr}(X:K.In h)(G:h.Ns mainGlobals mg)(hfa:mg "law"=some (.ref fa))(f0:Fd K mg "is_whole" sIsW)(f1:Fd K mg "is_whole_within" sWhole)(f2:Fd K mg "is_name" sName)(f3:Fd K mg "lesser_first" cY')(f4:Fd K mg "is_pair_of_names" sPair)(f5:Fd K mg "sorted_ties" c4')(f6:Fd K mg "is_hand_with_strength" sHand)(f7:Fd K mg "checked_strengths" sStr)(f8:Fd K mg "checked_ties" sTies)(f9:Fd K mg "neighbours_of_all" sNear)(f10:Fd K mg "checked_ways" sCWays)(f11:Fd K mg "checked_piece" cZ')(f12:Fd K mg "checked_pieces" cu')(f13:Fd K mg "ties_anew" sAnew)(f14:Fd K mg "greatest_divisor" sGd)(f15:Fd K mg "least_multiple" sLM)(f16:Fd K mg "fraction_of" sFrac)(f17:Fd K mg "checked_stand" bQ')(f18:Fd K mg "loads_at" cG')(f19:Fd K mg "multiple_of_strengths" sMult)(f20:Fd K mg "levels_at" cX')(f21:Fd K mg "heights_at" bR')(f22:Fd K mg "rise_at" sRise)(f23:Fd K mg "spread_at" b5')(f24:Fd K mg "sum_at" sSumAt)(f25:Fd K mg "loads" c9')(f26:Fd K mg "heights" b0')(f27:Fd K mg "pieces_at" bH')(f28:Fd K mg "sum_of" dg')(f29:Fd K mg "spread" cM')(f30:Fd K mg "steepest" db')(f31:Fd K mg "_law_cell_at" sCell)(f32:Fd K mg "_law_digit" sDigit)(f33:Fd K mg "_law_names" sNames)(f34:Fd K mg "_law_web" sLWeb)(f35:Fd K mg "_law_ways" sWays)(f36:Fd K mg "_law_pieces" c6')(f37:Fd K mg "_law_stand" sStand)(f38:Fd K mg "_law_made" sMade)(f39:Fd K mg "_law_asked" sAsked)(f40:Fd K mg "_law_spoiled" sSpoil)(m0:Md K CW "__init__" "Web.__init__" sInit)(m1:Md K CW "has_hand" "Web.has_hand" sHas)(m2:Md K CW "hands" "Web.hands" sHands)(m3:Md K CW "strength" "Web.strength" b8')(m4:Md K CW "are_tied" "Web.are_tied" sTied)(m5:Md K CG "__init__" "Goods.__init__" sGInit)(m6:Md K CG "has_piece" "Goods.has_piece" sGHas)(m7:Md K CG "names" "Goods.names" c2')(m8:Md K CG "weight" "Goods.weight" cB')(m9:Md K CW "ties" "Web.ties" sTiesM){ocl kVl dcl pml cdl ctl:Aa}{odl anl:Option Addr}{sll:Array (Option Aa)}{t8 t9 t10 t11:Tok}(al:PySem.W.nsIn K mainGlobals "law"=some (some (.ref fl)))(ll:K.lookup fl=some ⟨ocl,odl,.func (PySem.W.fnOf "law" "law" (bd' sLaw) (a6' sLaw) (aW' sLaw) .none kVl dcl pml anl cdl ctl),sll⟩)(cl:PySem.W.codeIn K cdl "law"=true)(kl:PySem.W.keepIn K (.ref fl)=true)(aW:PySem.W.nsIn K mainGlobals "Web"=some (some (.ref CW)))(aG:PySem.W.nsIn K mainGlobals "Goods"=some (some (.ref CG)))(eP:PySem.W.nsIn K mainGlobals "NoPiece"=some (some (.ref CP)))(eS:PySem.W.nsIn K mainGlobals "NoStand"=some (some (.ref CN)))(eH:PySem.W.nsIn K mainGlobals "NoHand"=some (some (.ref CH)))(eE:PySem.W.nsIn K mainGlobals "EvenError"=some (some (.ref CE)))(eO:PySem.W.nsIn K mainGlobals "NoGoods"=some (some (.ref C0)))(eB:PySem.W.nsIn K mainGlobals "NoWeb"=some (some (.ref C4)))(xP:PySem.W.excIn K CP [.type "ValueError",.type "Exception",.type "BaseException",.type "object"] "ValueError.__new__"=true)(xS:PySem.W.excIn K CN [.type "ValueError",.type "Exception",.type "BaseException",.type "object"] "ValueError.__new__"=true)(xH:PySem.W.excIn K CH [.type "ValueError",.type "Exception",.type "BaseException",.type "object"] "ValueError.__new__"=true)(c8:PySem.W.nsIn K mainGlobals "MOST_LETTERS"=some (some (.int 8 t8)))(c9:PySem.W.nsIn K mainGlobals "MOST_HANDS"=some (some (.int 8 t9)))(c10:PySem.W.nsIn K mainGlobals "MOST_STRENGTH"=some (some (.int 1000 t10)))(c11:PySem.W.nsIn K mainGlobals "MOST_WEIGHT"=some (some (.int 1000000000 t11)))(wpg:PySem.W.plainGet K CW Str.empty=true)(whd:PySem.W.hasDictIn K CW=true)(wpo:PySem.W.plainOver K CW=true)(wsa:PySem.W.findIn K (.ref CW) "__setattr__"=some (some (.builtin "object.__setattr__")))(wmk:PySem.W.makesIn K CW=true)(wkc:PySem.W.keepIn K (.ref CW)=true)(nS:PySem.W.findIn K (.ref CW) "strength_by_hand"=some none)(nP:PySem.W.findIn K (.ref CW) "sorted_pairs"=some none)(nN:PySem.W.findIn K (.ref CW) "neighbours_by_hand"=some none)(wiha:PySem.W.findIn K (.ref CW) "__class__"=some (some (.builtin "object.__class__")))(wimo:PySem.W.mroIn K CW (.type "object")=some true)(gpg:PySem.W.plainGet K CG Str.empty=true)(ghd:PySem.W.hasDictIn K CG=true)(gpo:PySem.W.plainOver K CG=true)(gsa:PySem.W.findIn K (.ref CG) "__setattr__"=some (some (.builtin "object.__setattr__")))(gmk:PySem.W.makesIn K CG=true)(gkc:PySem.W.keepIn K (.ref CG)=true)(nW:PySem.W.findIn K (.ref CG) "web"=some none)(nG:PySem.W.findIn K (.ref CG) "weight_by_name"=some none)(nY:PySem.W.findIn K (.ref CG) "ways_by_name"=some none)(giha:PySem.W.findIn K (.ref CG) "__class__"=some (some (.builtin "object.__class__")))(gimo:PySem.W.mroIn K CG (.type "object")=some true)(ihn:PySem.W.specialIn K (.builtin "object.__class__") "__get__"=some (some (.builtin "getset_descriptor.__get__")))(itk:PySem.W.takesIn K (.builtin "object.__class__")=some true)(ra:rfkIn K CN CH CE C0 CP C4=true)(z0:PySem.W.nsIn K mainGlobals "isinstance"=some none)(z1:PySem.W.nsIn K mainGlobals "int"=some none)(z2:PySem.W.nsIn K mainGlobals "bool"=some none)(z3:PySem.W.nsIn K mainGlobals "str"=some none)(z4:PySem.W.nsIn K mainGlobals "tuple"=some none)(z5:PySem.W.nsIn K mainGlobals "list"=some none)(z6:PySem.W.nsIn K mainGlobals "dict"=some none)(z7:PySem.W.nsIn K mainGlobals "len"=some none)(z8:PySem.W.nsIn K mainGlobals "all"=some none)(z9:PySem.W.nsIn K mainGlobals "sorted"=some none)(z10:PySem.W.nsIn K mainGlobals "max"=some none)(z11:PySem.W.nsIn K mainGlobals "range"=some none)(z12:PySem.W.nsIn K mainGlobals "any"=some none)(z13:PySem.W.nsIn K mainGlobals "enumerate"=some none)(z14:PySem.W.nsIn K mainGlobals "min"=some none)(z15:PySem.W.nsIn K mainGlobals "sum"=some none)(z16:PySem.W.nsIn K mainGlobals "abs"=some none)(z17:PySem.W.nsIn K mainGlobals "ValueError"=some none) :
  ∃fd:Ae,(∀(s:Ab) (v:Aa),BindsTo s fd ⟨[v],[]⟩ [("_law_script",v)])/\∀base:Heap,K.In base->base.Ns mainGlobals mg->FnOk l.prog w K mg base CX0 10 fa fd ["_law_script"] (spLaw K):=by
 have e:=hfa.symm.trans (b_9 X G al);cases e;have B:Bi mg:=⟨b_0 X G z0,b_0 X G z1,b_0 X G z2,b_0 X G z3,b_0 X G z4,b_0 X G z5,b_0 X G z6,b_0 X G z7,b_0 X G z8,b_0 X G z9,b_0 X G z10,b_0 X G z11,b_0 X G z12,b_0 X G z13⟩;have TW:Txt K mg CW:=⟨⟨wpg,whd,wpo,wsa⟩,nS,nP,nN⟩;have IW:InsK K CW:=⟨wiha,ihn,itk,wimo⟩;have T:TxtG K CG:=⟨⟨gpg,ghd,gpo,gsa⟩,nW,nG,nY⟩;have IG:InsK K CG:=⟨giha,ihn,itk,gimo⟩;have RP:Ref K mg "NoPiece" CP:=⟨b_9 X G eP,xP⟩;have RS:Ref K mg "NoStand" CN:=⟨b_9 X G eS,xS⟩;have RH:Ref K mg "NoHand" CH:=⟨b_9 X G eH,xH⟩;have FL:=g7_ (st:=sLaw) ll cl kl;refine⟨PySem.W.fnOf "law" "law" (bd' sLaw) (a6' sLaw) (aW' sLaw) .none kVl dcl pml anl cdl ctl,λs v=>.of_eq rfl,λbase _ _=>?_⟩;have RR:Rfk K mg CN CH CE C0 CP C4:=jr_ ra (b_9 X G eO) (b_9 X G eP) (b_9 X G eB) (b_9 X G eE) RS RH;have cIsW:Cal l.prog w K mg base 1 "is_whole" ["thing"] spIsW:=cal f0 (λ_ _ F=>jn_ F B) (λ_ _ _ _ _ _ us hl=>match us,hl with | [_],_=>rfl);have cWhole:Cal l.prog w K mg base 2 "is_whole_within" ["thing","least","most"] cx':=cal f1 (λ_ _ F=>hD_ F cIsW) (λ_ _ _ _ _ _ us hl=>match us,hl with | [_,_,_],_=>rfl);have cName:Cal l.prog w K mg base 1 "is_name" ["thing"] cV':=cal f2 (λ_ _ F=>iS_ F B (b_9 X G c8)) (λ_ _ _ _ _ _ us hl=>match us,hl with | [_],_=>rfl);have cLess:Cal l.prog w K mg base 1 "lesser_first" ["one","other"] bY':=cal f3 (λ_ _ F=>gJ_ F) (λ_ _ _ _ _ _ us hl=>match us,hl with | [_,_],_=>rfl);have cPair:Cal l.prog w K mg base 2 "is_pair_of_names" ["thing"] spPair:=cal f4 (λ_ _ F=>iO_ F B cName) (λ_ _ _ _ _ _ us hl=>match us,hl with | [_],_=>rfl);have cSort:Cal l.prog w K mg base 3 "sorted_ties" ["ties"] (b1' K):=cal f5 (λ_ _ F=>gp_ F B cPair cLess) (λ_ _ _ _ _ _ us hl=>match us,hl with | [_],_=>rfl);have cHand:Cal l.prog w K mg base 3 "is_hand_with_strength" ["thing"] spHand:=cal f6 (λ_ _ F=>ii_ F B cName cWhole (b_9 X G c10)) (λ_ _ _ _ _ _ us hl=>match us,hl with | [_],_=>rfl);have cStr:Cal l.prog w K mg base 4 "checked_strengths" ["hands"] (spStr K):=cal f7 (λ_ _ F=>jj_ F B cHand (b_9 X G c9)) (λ_ _ _ _ _ _ us hl=>match us,hl with | [_],_=>rfl);have cTies:Cal l.prog w K mg base 4 "checked_ties" ["ties","strengths"] (da' K):=cal f8 (λ_ _ F=>iG_ F B cSort) (λ_ _ _ _ _ _ us hl=>match us,hl with | [_,_],_=>rfl);have cNear:Cal l.prog w K mg base 2 "neighbours_of_all" ["names","ties"] (di' K):=cal f9 (λ_ _ F=>ij_ F cLess) (λ_ _ _ _ _ _ us hl=>match us,hl with | [_,_],_=>rfl);have cWeb:CalC l.prog w K mg base CW 5 "Web" ["self","hands","ties"] (c8' K CW):=calC m0 (b_9 X G aW) wmk wkc (λ_ _ F=>iq_ F TW B cStr cTies cNear) (λ_ _ _ _ _ _ us hl=>match us,hl with | [_,_,_],_=>rfl);have mHasA:CalM l.prog w K mg base CW 1 "has_hand" ["self","thing"] (bS' K CW):=calM m1 (λ_ _ F=>iQ_ F TW B) (λ_ _ _ _ _ _ us hl=>match us,hl with | [_,_],_=>rfl);have mHas:CalM l.prog w K mg base CW 1 "has_hand" ["self","thing"] (do' K CW):=calM m1 (λ_ _ F=>jt_ F TW B) (λ_ _ _ _ _ _ us hl=>match us,hl with | [_,_],_=>rfl);have mHands:CalM l.prog w K mg base CW 1 "hands" ["self"] (b6' K CW):=calM m2 (λ_ _ F=>hv_ F TW B) (λ_ _ _ _ _ _ us hl=>match us,hl with | [_],_=>rfl);have mStr:CalM l.prog w K mg base CW 2 "strength" ["self","hand"] (bg' K CW):=calM m3 (λ_ _ F=>e3_ F TW mHas) (λ_ _ _ _ _ _ us hl=>match us,hl with | [_,_],_=>rfl);have mTied:CalM l.prog w K mg base CW 2 "are_tied" ["self","one","other"] (cy' K CW):=calM m4 (λ_ _ F=>hH_ F TW mHasA) (λ_ _ _ _ _ _ us hl=>match us,hl with | [_,_,_],_=>rfl);have cCW:Cal l.prog w K mg base 4 "checked_ways" ["web","ways"] (cs' K CW):=cal f10 (λ_ _ F=>hB_ F TW cSort mTied) (λ_ _ _ _ _ _ us hl=>match us,hl with | [_,_],_=>rfl);have cCP:Cal l.prog w K mg base 5 "checked_piece" ["web","piece"] (bZ' K CW):=cal f11 (λ_ _ F=>gH_ F B cName cWhole cCW (b_9 X G c11)) (λ_ _ _ _ _ _ us hl=>match us,hl with | [_,_],_=>rfl);have cCPs:Cal l.prog w K mg base 6 "checked_pieces" ["web","pieces"] (bC' K CW):=cal f12 (λ_ _ F=>fj_ F B cCP) (λ_ _ _ _ _ _ us hl=>match us,hl with | [_,_],_=>rfl);have cGoods:CalC l.prog w K mg base CG 7 "Goods" ["self","web","pieces"] (cC' K CG CW):=calC m5 (b_9 X G aG) gmk gkc (λ_ _ F=>h3_ F T TW IW B (b_9 X G aW) cCPs) (λ_ _ _ _ _ _ us hl=>match us,hl with | [_,_,_],_=>rfl);have gHas:CalM l.prog w K mg base CG 1 "has_piece" ["self","thing"] (bT' K CG CW):=calM m6 (λ_ _ F=>iA_ F T B) (λ_ _ _ _ _ _ us hl=>match us,hl with | [_,_],_=>rfl);have gNames:CalM l.prog w K mg base CG 1 "names" ["self"] (bx' K CG CW):=calM m7 (λ_ _ F=>fQ_ F T B) (λ_ _ _ _ _ _ us hl=>match us,hl with | [_],_=>rfl);have gWeight:CalX l.prog w K mg base CG 2 "weight" ["self","piece"] (bF' K CG CW CP):=calX m8 (λ_ _ F=>fb_ F T RP gHas) (λ_ _ _ _ _ _ us hl=>match us,hl with | [_,_],_=>rfl);have cAnew:Cal l.prog w K mg base 1 "ties_anew" ["ties"] (spAnew K):=cal f13 (λ_ _ F=>ip_ F) (λ_ _ _ _ _ _ us hl=>match us,hl with | [_],_=>rfl);have mTies:CalM l.prog w K mg base CW 2 "ties" ["self"] (cJ' K CW):=calM m9 (λ_ _ F=>hs_ F TW cAnew) (λ_ _ _ _ _ _ us hl=>match us,hl with | [_],_=>rfl);have cGd:Cal l.prog w K mg base 1 "greatest_divisor" ["one","other"] spGd:=cal f14 (λ_ _ F=>jL_ F) (λ_ _ _ _ _ _ us hl=>match us,hl with | [_,_],_=>rfl);have cFr:Cal l.prog w K mg base 2 "fraction_of" ["top","below"] spFrac:=cal f16 (λ_ _ F=>id_ F cGd) (λ_ _ _ _ _ _ us hl=>match us,hl with | [_,_],_=>rfl);have cFr2:Cal l.prog w K mg base 2 "fraction_of" ["top","below"] cE':=cal f16 (λ_ _ F=>ho_ F cGd) (λ_ _ _ _ _ _ us hl=>match us,hl with | [_,_],_=>rfl);have cCS:Cal l.prog w K mg base 2 "checked_stand" ["goods","stand"] (be' K CG CW):=cal f17 (λ_ _ F=>dI_ F B T TW gHas mHas gNames) (λ_ _ _ _ _ _ us hl=>match us,hl with | [_,_],_=>rfl);have gBad:CalG l.prog w K mg base 2 "checked_stand" ["goods","stand"] (bK' K CG CW CN):=calG f17 (λ_ _ F=>d5_ F B RS T TW gHas mHasA gNames) (λ_ _ _ _ _ _ us hl=>match us,hl with | [_,_],_=>rfl);have gCSB:CalG l.prog w K mg base 2 "checked_stand" ["goods","stand"] (spCSB K CG CW CN):=calG f17 (λ_ _ F=>FnOk.two (dI_ F B T TW gHas mHas gNames).up (d5_ F B RS T TW gHas mHasA gNames) λ_ _ _ _ z=>z) (λ_ _ _ _ _ _ us hl=>match us,hl with | [_,_],_=>rfl);have cLA:Cal l.prog w K mg base 3 "loads_at" ["goods","placed"] (bf' K CG CW):=cal f18 (λ_ _ F=>fc_ F B T TW mHands gWeight) (λ_ _ _ _ _ _ us hl=>match us,hl with | [_,_],_=>rfl);have cHA:Cal l.prog w K mg base 4 "heights_at" ["goods","placed"] (bi' K CG CW):=cal f21 (λ_ _ F=>e0_ F T TW cLA cFr mStr) (λ_ _ _ _ _ _ us hl=>match us,hl with | [_,_],_=>rfl);have cLM:Cal l.prog w K mg base 2 "least_multiple" ["numbers"] (spLM K):=cal f15 (λ_ _ F=>jG_ F cGd) (λ_ _ _ _ _ _ us hl=>match us,hl with | [_],_=>rfl);have cMu:Cal l.prog w K mg base 3 "multiple_of_strengths" ["web"] (cn' K CW):=cal f19 (λ_ _ F=>iL_ F TW cLM mHands mStr) (λ_ _ _ _ _ _ us hl=>match us,hl with | [_],_=>rfl);have cLv:Cal l.prog w K mg base 4 "levels_at" ["goods","placed"] (bp' K CG CW):=cal f20 (λ_ _ F=>fZ_ F T TW cLA cMu mStr) (λ_ _ _ _ _ _ us hl=>match us,hl with | [_,_],_=>rfl);have cRi:Cal l.prog w K mg base 5 "rise_at" ["goods","placed"] (dk' K CG CW):=cal f22 (λ_ _ F=>iZ_ F B (b_0 X G z14) cLv) (λ_ _ _ _ _ _ us hl=>match us,hl with | [_,_],_=>rfl);have cSpA:Cal l.prog w K mg base 6 "spread_at" ["goods","placed"] (bo' K CG CW):=cal f23 (λ_ _ F=>en_ F T cRi cMu cFr2) (λ_ _ _ _ _ _ us hl=>match us,hl with | [_,_],_=>rfl);have cSA:Cal l.prog w K mg base 5 "sum_at" ["goods","placed"] (b7' K CG CW):=cal f24 (λ_ _ F=>hN_ F (b_0 X G z15) cLA cLv) (λ_ _ _ _ _ _ us hl=>match us,hl with | [_,_],_=>rfl);have cLo:CalG l.prog w K mg base 4 "loads" ["goods","stand"] (spTB K CG CW CN cr'):=calG f25 (λ_ _ F=>FnOk.two (ha_ F cCS cLA).up (g8_ F gBad cLA) λ_ _ _ _ z=>z) (λ_ _ _ _ _ _ us hl=>match us,hl with | [_,_],_=>rfl);have cHe:CalG l.prog w K mg base 5 "heights" ["goods","stand"] (spTB K CG CW CN bO'):=calG f26 (λ_ _ F=>FnOk.two (fq_ F cCS cHA).up (ee_ F gBad cHA) λ_ _ _ _ z=>z) (λ_ _ _ _ _ _ us hl=>match us,hl with | [_,_],_=>rfl);have cSO:CalG l.prog w K mg base 6 "sum_of" ["goods","stand"] (spTB K CG CW CN cz'):=calG f28 (λ_ _ F=>FnOk.two (hn_ F cCS cSA).up (fF_ F gBad cSA) λ_ _ _ _ z=>z) (λ_ _ _ _ _ _ us hl=>match us,hl with | [_,_],_=>rfl);have cSp:CalG l.prog w K mg base 7 "spread" ["goods","stand"] (spTB K CG CW CN b3'):=calG f29 (λ_ _ F=>FnOk.two (fR_ F cCS cSpA).up (fi_ F gBad cSpA) λ_ _ _ _ z=>z) (λ_ _ _ _ _ _ us hl=>match us,hl with | [_,_],_=>rfl);have cSte:CalG l.prog w K mg base 5 "steepest" ["goods","stand"] (spTB K CG CW CN cK'):=calG f30 (λ_ _ F=>FnOk.two (hy_ F B (b_0 X G z16) T TW cCS cLv mTies cMu cFr2).up (gg_ F gBad cLv) λ_ _ _ _ z=>z) (λ_ _ _ _ _ _ us hl=>match us,hl with | [_,_],_=>rfl);have cPA:CalG l.prog w K mg base 3 "pieces_at" ["goods","stand","hand"] (spPTB K CG CW CN CH):=calG f27 (λ_ _ F=>FnOk.two (ec_ F T TW cCS mHas).up (iE_ F RH T TW gCSB mHasA) λ_ _ _ _ z=>z) (λ_ _ _ _ _ _ us hl=>match us,hl with | [_,_,_],_=>rfl);have cCell:Cal l.prog w K mg base 1 "_law_cell_at" ["_law_script","_law_k"] (de' K):=cal f31 (λ_ _ F=>is_ F B) (λ_ _ _ _ _ _ us hl=>match us,hl with | [_,_],_=>rfl);have cDig:Cal l.prog w K mg base 1 "_law_digit" ["_law_state","_law_base"] bv':=cal f32 (λ_ _ F=>hL_ F B) (λ_ _ _ _ _ _ us hl=>match us,hl with | [_,_],_=>rfl);have cNms:Cal l.prog w K mg base 2 "_law_names" ["_law_state","_law_many"] cI':=cal f33 (λ_ _ F=>hl_ F B cDig) (λ_ _ _ _ _ _ us hl=>match us,hl with | [_,_],_=>rfl);have cLW:Cal l.prog w K mg base 3 "_law_web" ["_law_state","_law_most"] (spLWeb K):=cal f34 (λ_ _ F=>iz_ F B cDig cNms) (λ_ _ _ _ _ _ us hl=>match us,hl with | [_,_],_=>rfl);have cLY:Cal l.prog w K mg base 2 "_law_ways" ["_law_state","_law_ties"] (dh' K):=cal f35 (λ_ _ F=>in_ F B cDig) (λ_ _ _ _ _ _ us hl=>match us,hl with | [_,_],_=>rfl);have cLP:Cal l.prog w K mg base 3 "_law_pieces" ["_law_state","_law_ties","_law_most"] (bX' K):=cal f36 (λ_ _ F=>gA_ F B cDig cNms cLY) (λ_ _ _ _ _ _ us hl=>match us,hl with | [_,_,_],_=>rfl);have cSt:Cal l.prog w K mg base 2 "_law_stand" ["_law_state","_law_pieces_here","_law_hands"] (cH' K):=cal f37 (λ_ _ F=>gZ_ F B cDig) (λ_ _ _ _ _ _ us hl=>match us,hl with | [_,_,_],_=>rfl);have cMd:Cal l.prog w K mg base 9 "_law_made" ["_law_script"] (spMade K CG CW):=cal f38 (λ_ _ F=>im_ F cCell cLW cLP cWeb cGoods) (λ_ _ _ _ _ _ us hl=>match us,hl with | [_],_=>rfl);have cAs:Cal l.prog w K mg base 8 "_law_asked" ["_law_goods","_law_stand_here","_law_way","_law_hand"] (cw' K CG CW):=cal f39 (λ_ _ F=>h6_ F B (b_0 X G z17) RR cLo cHe cSO cSp cSte cPA) (λ_ _ _ _ _ _ us hl=>match us,hl with | [_,_,_,_],_=>rfl);have cSpo:Cal l.prog w K mg base 2 "_law_spoiled" ["_law_state","_law_pieces_here","_law_stand_here","_law_hand"] (ct' K):=cal f40 (λ_ _ F=>h1_ F B cDig) (λ_ _ _ _ _ _ us hl=>match us,hl with | [_,_,_,_],_=>rfl);exact jE_ FL B (b_0 X G z14) cCell cMd cSt cSpo cAs
theorem walk{q:Ad}{loose:List Str}{XP:(Str->Option Aa)->Heap->Prop}{YP:Af->Heap->Prop}{d:DefRec}{K:Params->F__}(hn:l.most=some 63)(hdf:d.params.defaults=[])(hY:∀(w:Af) (h:Heap),YP w h->(K w.params).In h)(F:∀(w:Af) (mg:Str->Option Aa) (fa:Addr) (h:Heap),(K w.params).In h->h.Ns mainGlobals mg->mg d.name=some (.ref fa)->
   ∃fd:Ae,(∀(s:Ab) (u:Aa),BindsTo s fd ⟨[u],[]⟩ [("_law_script",u)])/\∀base:Heap,(K w.params).In base->base.Ns mainGlobals mg->FnOk l.prog w (K w.params) mg base CX0 10 fa fd ["_law_script"] (spLaw (K w.params))) :
  PySem.W.WalkO q loose XP YP l.row.toRowW d [] (λf vs=>PySem.call f vs):=
 L2.walk_of (n:=63) (k:=10) (x:="_law_script") (CX:=λ_=>CX0) (sp:=λw=>spLaw (K w.params)) hn (by decide) hdf ⟨rfl,by decide,by decide⟩ hY F (λ_ _ a ns hl _ hS=>⟨a,ns,rfl,hS,hl,λ_=>rfl⟩) λ_ _ _ _ _ z=>z
end Ev
namespace PySem.W.Fast
def tw14382434464348967072:=()
def tw9704068505095746208:=()
def tw16693482596845940545:=()
def tw14303164580685557346:=()
def tw14766909052100191010:=()
def tw722013014010523811:=()
def tw5383032763031830726:=()
def tw3522312071688899847:=()
def tw16443094150364400071:=()
def tw14585973132142968647:=()
def tw7147525454403143848:=()
def tw12399092404414732072:=()
def tw8662837282853218248:=()
def tw7621139419753991722:=()
def tw1516783185806435306:=()
def tw15517210814687052811:=()
def tw801363605283463052:=()
def tw6484035783081287377:=()
def tw16825791926995262803:=()
def tw16271580423404372499:=()
def tw13454952671234576215:=()
def tw7744114968401431897:=()
def tw13944182367241548027:=()
def tw10832224517911575003:=()
def tw13664815394391982011:=()
def tw11404768897800225950:=()
def tw18123464924330047006:=()
def tw11564006407586657311:=()
def tw2623126360056640927:=()
def tw1489145895266199732:=()
def tw10750196025407338375:=()
def tw828847033376207402:=()
def tw16239899428153896473:=()
def tw14595566880628058327:=()
def tw12312435957718240665:=()
def tw2178156767358862344:=()
def tw12594703166855778827:=()
def tw3031814138373882494:=()
def tw5261357092836608497:=()
def tw1977031017778954886:=()
def tw15530613860179801865:=()
def tw1888471891624273984:=()
def tw4910698569630132700:=()
def tw6128366608282055200:=()
def tw18154473188501851980:=()
def tw719332550420303302:=()
def tw13320666872098170743:=()
def tw17929718484201638181:=()
def tw2849953042695287962:=()
def tw11013160857859372620:=()
def tw4505213591799291760:=()
def tw16762483903161068790:=()
def tw3521162929167320514:=()
def tw4400737736726051854:=()
def tw15558146404270362518:=()
def tw10927836871176820883:=()
def tw6435977414542133992:=()
def tw14333796224336489080:=()
def tw217683918804212099:=()
def tw171909731642972312:=()
def tw13524323057966929759:=()
def tw5244107264269507219:=()
def tw16175214204955743380:=()
def tw9505466820046274969:=()
def tw3918633690826153251:=()
def tw17438006784687971204:=()
def tw13118013099997851854:=()
def tw17456291138229534589:=()
def tw18174282956069942750:=()
def tw7399117195227647380:=()
def tw3651795789247735767:=()
def tw8545387763565185812:=()
def tw1149367303191310684:=()
def tw4963514455811914014:=()
def tw17689521611909417103:=()
def tw11080635162467208705:=()
def tw8496093273468455313:=()
def tw16632786055832214723:=()
def tw14058411601193629323:=()
def tw13607838750383702247:=()
def tw6405736199150680159:=()
def tw8701354670170424745:=()
def tw7370974039779189535:=()
def tw12977883376673724797:=()
def tw13815008124130693257:=()
def tw18332187790229776610:=()
def tw5980070427932011486:=()
def tw14882859831442955627:=()
def tw9164527224659221703:=()
def tw5550574333725618609:=()
def tw11814997210744749476:=()
def tw12779493855260292176:=()
def tw4942286307499264072:=()
def tw14259577650451411003:=()
def tw4574900648531284282:=()
def tw13403734995977157570:=()
def tw7756038968906104418:=()
def tw6423148372148992274:=()
def tw13290093111951096481:=()
def tw11044771179820581077:=()
def tw1921564741234043374:=()
def tw13354533399235496556:=()
def tw4482209763456414787:=()
def tw10852648677185976997:=()
def tw6823253735632264380:=()
def tw16976547715685930313:=()
def tw7725727626229851785:=()
def tw6176812003836202260:=()
def tw11870009953252852627:=()
def tw3196552459579368525:=()
def tw2238476660255685331:=()
def tw1446195213035630966:=()
def tw4991315210716442493:=()
def tw4999739683016449751:=()
def tw12117822281410535668:=()
def tw6959239855563956344:=()
def tw12665385767407424384:=()
def tw18267481571564202348:=()
def tw751779893483012169:=()
def tw4789804583860191812:=()
def tw11077441748547375477:=()
def tw2326318522026846398:=()
def tw4398310613790719200:=()
def tw6332841480521968418:=()
def tw7695655883750731779:=()
def tw7455405933537969375:=()
def tw8983348788910511778:=()
def tw250202040915596125:=()
def tw17310516949089541393:=()
def tw16959194145796937707:=()
def tw2686209973775167184:=()
def tw2975510451996459441:=()
def tw772414373641190719:=()
def tw5240008738593977831:=()
def tw8731832904253445913:=()
def tw2071829421316457248:=()
def tw12619823494232060514:=()
def tw12112786314549313046:=()
def tw12350413916336563510:=()
end PySem.W.Fast
open PySem PySem.W PyProof.Rows
set_option maxRecDepth 100000 in
theorem PySem.Challenge.cw_evenpieces_k13_what_is_no_stand_holds : PySem.Challenge.rw_evenpieces_k13_what_is_no_stand.Holds := by
 w_on;o_law;k_head;(case hw=>w_witness2)
 k_fill
 refine Ev.walk (l:=PySem.Challenge.rw_evenpieces_k13_what_is_no_stand) rfl rfl (fun w h Y=>PySem.W.kIn_of Y) ?F
 case F=>
  intro w mg fa h KX G hmg;refine' Ev.all_mk KX G hmg (Ev.fd_mk KX G ?f0a ?f0l ?f0c ?f0k) (Ev.fd_mk KX G ?f1a ?f1l ?f1c ?f1k) (Ev.fd_mk KX G ?f2a ?f2l ?f2c ?f2k) (Ev.fd_mk KX G ?f3a ?f3l ?f3c ?f3k) (Ev.fd_mk KX G ?f4a ?f4l ?f4c ?f4k) (Ev.fd_mk KX G ?f5a ?f5l ?f5c ?f5k) (Ev.fd_mk KX G ?f6a ?f6l ?f6c ?f6k) (Ev.fd_mk KX G ?f7a ?f7l ?f7c ?f7k) (Ev.fd_mk KX G ?f8a ?f8l ?f8c ?f8k) (Ev.fd_mk KX G ?f9a ?f9l ?f9c ?f9k) (Ev.fd_mk KX G ?f10a ?f10l ?f10c ?f10k) (Ev.fd_mk KX G ?f11a ?f11l ?f11c ?f11k) (Ev.fd_mk KX G ?f12a ?f12l ?f12c ?f12k) (Ev.fd_mk KX G ?f13a ?f13l ?f13c ?f13k) (Ev.fd_mk KX G ?f14a ?f14l ?f14c ?f14k) (Ev.fd_mk KX G ?f15a ?f15l ?f15c ?f15k) (Ev.fd_mk KX G ?f16a ?f16l ?f16c ?f16k) (Ev.fd_mk KX G ?f17a ?f17l ?f17c ?f17k) (Ev.fd_mk KX G ?f18a ?f18l ?f18c ?f18k) (Ev.fd_mk KX G ?f19a ?f19l ?f19c ?f19k) (Ev.fd_mk KX G ?f20a ?f20l ?f20c ?f20k) (Ev.fd_mk KX G ?f21a ?f21l ?f21c ?f21k) (Ev.fd_mk KX G ?f22a ?f22l ?f22c ?f22k) (Ev.fd_mk KX G ?f23a ?f23l ?f23c ?f23k) (Ev.fd_mk KX G ?f24a ?f24l ?f24c ?f24k) (Ev.fd_mk KX G ?f25a ?f25l ?f25c ?f25k) (Ev.fd_mk KX G ?f26a ?f26l ?f26c ?f26k) (Ev.fd_mk KX G ?f27a ?f27l ?f27c ?f27k) (Ev.fd_mk KX G ?f28a ?f28l ?f28c ?f28k) (Ev.fd_mk KX G ?f29a ?f29l ?f29c ?f29k) (Ev.fd_mk KX G ?f30a ?f30l ?f30c ?f30k) (Ev.fd_mk KX G ?f31a ?f31l ?f31c ?f31k) (Ev.fd_mk KX G ?f32a ?f32l ?f32c ?f32k) (Ev.fd_mk KX G ?f33a ?f33l ?f33c ?f33k) (Ev.fd_mk KX G ?f34a ?f34l ?f34c ?f34k) (Ev.fd_mk KX G ?f35a ?f35l ?f35c ?f35k) (Ev.fd_mk KX G ?f36a ?f36l ?f36c ?f36k) (Ev.fd_mk KX G ?f37a ?f37l ?f37c ?f37k) (Ev.fd_mk KX G ?f38a ?f38l ?f38c ?f38k) (Ev.fd_mk KX G ?f39a ?f39l ?f39c ?f39k) (Ev.fd_mk KX G ?f40a ?f40l ?f40c ?f40k) (Ev.md_mk ?m0a ?m0i ?m0l ?m0c ?m0k) (Ev.md_mk ?m1a ?m1i ?m1l ?m1c ?m1k) (Ev.md_mk ?m2a ?m2i ?m2l ?m2c ?m2k) (Ev.md_mk ?m3a ?m3i ?m3l ?m3c ?m3k) (Ev.md_mk ?m4a ?m4i ?m4l ?m4c ?m4k) (Ev.md_mk ?m5a ?m5i ?m5l ?m5c ?m5k) (Ev.md_mk ?m6a ?m6i ?m6l ?m6c ?m6k) (Ev.md_mk ?m7a ?m7i ?m7l ?m7c ?m7k) (Ev.md_mk ?m8a ?m8i ?m8l ?m8c ?m8k) (Ev.md_mk ?m9a ?m9i ?m9l ?m9c ?m9k) ?al ?ll ?cl ?kl ?aW ?aG ?eP ?eS ?eH ?eE ?eO ?eB ?xP ?xS ?xH ?c8 ?c9 ?c10 ?c11 ?wpg ?whd ?wpo ?wsa ?wmk ?wkc ?nS ?nP ?nN ?wiha ?wimo ?gpg ?ghd ?gpo ?gsa ?gmk ?gkc ?nW ?nG ?nY ?giha ?gimo ?ihn ?itk ?ra ?z0 ?z1 ?z2 ?z3 ?z4 ?z5 ?z6 ?z7 ?z8 ?z9 ?z10 ?z11 ?z12 ?z13 ?z14 ?z15 ?z16 ?z17
  (case aW=>k_is);(case aG=>k_is);(case eP=>k_is);(case eS=>k_is);(case eH=>k_is);(case eE=>k_is);(case eO=>k_is);(case eB=>k_is)
  (case f0a=>k_is);(case f0l=>k_is);(case f0c=>k_is);(case f0k=>k_is)
  (case f1a=>k_is);(case f1l=>k_is);(case f1c=>k_is);(case f1k=>k_is)
  (case f2a=>k_is);(case f2l=>k_is);(case f2c=>k_is);(case f2k=>k_is)
  (case f3a=>k_is);(case f3l=>k_is);(case f3c=>k_is);(case f3k=>k_is)
  (case f4a=>k_is);(case f4l=>k_is);(case f4c=>k_is);(case f4k=>k_is)
  (case f5a=>k_is);(case f5l=>k_is);(case f5c=>k_is);(case f5k=>k_is)
  (case f6a=>k_is);(case f6l=>k_is);(case f6c=>k_is);(case f6k=>k_is)
  (case f7a=>k_is);(case f7l=>k_is);(case f7c=>k_is);(case f7k=>k_is)
  (case f8a=>k_is);(case f8l=>k_is);(case f8c=>k_is);(case f8k=>k_is)
  (case f9a=>k_is);(case f9l=>k_is);(case f9c=>k_is);(case f9k=>k_is)
  (case f10a=>k_is);(case f10l=>k_is);(case f10c=>k_is);(case f10k=>k_is)
  (case f11a=>k_is);(case f11l=>k_is);(case f11c=>k_is);(case f11k=>k_is)
  (case f12a=>k_is);(case f12l=>k_is);(case f12c=>k_is);(case f12k=>k_is)
  (case f13a=>k_is);(case f13l=>k_is);(case f13c=>k_is);(case f13k=>k_is)
  (case f14a=>k_is);(case f14l=>k_is);(case f14c=>k_is);(case f14k=>k_is)
  (case f15a=>k_is);(case f15l=>k_is);(case f15c=>k_is);(case f15k=>k_is)
  (case f16a=>k_is);(case f16l=>k_is);(case f16c=>k_is);(case f16k=>k_is)
  (case f17a=>k_is);(case f17l=>k_is);(case f17c=>k_is);(case f17k=>k_is)
  (case f18a=>k_is);(case f18l=>k_is);(case f18c=>k_is);(case f18k=>k_is)
  (case f19a=>k_is);(case f19l=>k_is);(case f19c=>k_is);(case f19k=>k_is)
  (case f20a=>k_is);(case f20l=>k_is);(case f20c=>k_is);(case f20k=>k_is)
  (case f21a=>k_is);(case f21l=>k_is);(case f21c=>k_is);(case f21k=>k_is)
  (case f22a=>k_is);(case f22l=>k_is);(case f22c=>k_is);(case f22k=>k_is)
  (case f23a=>k_is);(case f23l=>k_is);(case f23c=>k_is);(case f23k=>k_is)
  (case f24a=>k_is);(case f24l=>k_is);(case f24c=>k_is);(case f24k=>k_is)
  (case f25a=>k_is);(case f25l=>k_is);(case f25c=>k_is);(case f25k=>k_is)
  (case f26a=>k_is);(case f26l=>k_is);(case f26c=>k_is);(case f26k=>k_is)
  (case f27a=>k_is);(case f27l=>k_is);(case f27c=>k_is);(case f27k=>k_is)
  (case f28a=>k_is);(case f28l=>k_is);(case f28c=>k_is);(case f28k=>k_is)
  (case f29a=>k_is);(case f29l=>k_is);(case f29c=>k_is);(case f29k=>k_is)
  (case f30a=>k_is);(case f30l=>k_is);(case f30c=>k_is);(case f30k=>k_is)
  (case f31a=>k_is);(case f31l=>k_is);(case f31c=>k_is);(case f31k=>k_is)
  (case f32a=>k_is);(case f32l=>k_is);(case f32c=>k_is);(case f32k=>k_is)
  (case f33a=>k_is);(case f33l=>k_is);(case f33c=>k_is);(case f33k=>k_is)
  (case f34a=>k_is);(case f34l=>k_is);(case f34c=>k_is);(case f34k=>k_is)
  (case f35a=>k_is);(case f35l=>k_is);(case f35c=>k_is);(case f35k=>k_is)
  (case f36a=>k_is);(case f36l=>k_is);(case f36c=>k_is);(case f36k=>k_is)
  (case f37a=>k_is);(case f37l=>k_is);(case f37c=>k_is);(case f37k=>k_is)
  (case f38a=>k_is);(case f38l=>k_is);(case f38c=>k_is);(case f38k=>k_is)
  (case f39a=>k_is);(case f39l=>k_is);(case f39c=>k_is);(case f39k=>k_is)
  (case f40a=>k_is);(case f40l=>k_is);(case f40c=>k_is);(case f40k=>k_is)
  (case m0a=>k_is);(case m0i=>k_is);(case m0l=>k_is);(case m0c=>k_is);(case m0k=>k_is)
  (case m1a=>k_is);(case m1i=>k_is);(case m1l=>k_is);(case m1c=>k_is);(case m1k=>k_is)
  (case m2a=>k_is);(case m2i=>k_is);(case m2l=>k_is);(case m2c=>k_is);(case m2k=>k_is)
  (case m3a=>k_is);(case m3i=>k_is);(case m3l=>k_is);(case m3c=>k_is);(case m3k=>k_is)
  (case m4a=>k_is);(case m4i=>k_is);(case m4l=>k_is);(case m4c=>k_is);(case m4k=>k_is)
  (case m5a=>k_is);(case m5i=>k_is);(case m5l=>k_is);(case m5c=>k_is);(case m5k=>k_is)
  (case m6a=>k_is);(case m6i=>k_is);(case m6l=>k_is);(case m6c=>k_is);(case m6k=>k_is)
  (case m7a=>k_is);(case m7i=>k_is);(case m7l=>k_is);(case m7c=>k_is);(case m7k=>k_is)
  (case m8a=>k_is);(case m8i=>k_is);(case m8l=>k_is);(case m8c=>k_is);(case m8k=>k_is)
  (case m9a=>k_is);(case m9i=>k_is);(case m9l=>k_is);(case m9c=>k_is);(case m9k=>k_is)
  (case al=>k_is);(case ll=>k_is);(case cl=>k_is);(case kl=>k_is);(case xP=>k_exc);(case xS=>k_exc);(case xH=>k_exc);(case c8=>k_is);(case c9=>k_is);(case c10=>k_is);(case c11=>k_is);(case wpg=>k_is);(case whd=>k_is);(case wpo=>k_is);(case wsa=>k_is);(case wmk=>k_is);(case wkc=>k_is);(case nS=>k_is);(case nP=>k_is);(case nN=>k_is);(case wiha=>k_is);(case wimo=>k_is);(case gpg=>k_is);(case ghd=>k_is);(case gpo=>k_is);(case gsa=>k_is);(case gmk=>k_is);(case gkc=>k_is);(case nW=>k_is);(case nG=>k_is);(case nY=>k_is);(case giha=>k_is);(case gimo=>k_is);(case ihn=>k_is);(case itk=>k_is);(case ra=>kernel_rfl);(case z0=>k_is);(case z1=>k_is);(case z2=>k_is);(case z3=>k_is);(case z4=>k_is);(case z5=>k_is);(case z6=>k_is);(case z7=>k_is);(case z8=>k_is);(case z9=>k_is);(case z10=>k_is);(case z11=>k_is);(case z12=>k_is);(case z13=>k_is);(case z14=>k_is);(case z15=>k_is);(case z16=>k_is);(case z17=>k_is)

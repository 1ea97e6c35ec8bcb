import PyProof.Rows.All
import Wide.All
import OpenK.AllK
import Wide.FinOn
import Lean
import PyProof.EqAt
import PyProof.EqKinds
import PyProof.TupleCall
import KE.KLam
import PyProof.FitsReplace
import PySem.Challenge.RW_evenpieces_k49_what_bounds_refuse
set_option Elab.async false
set_option linter.all false
set_option maxRecDepth 100000
namespace L2
open PySem PySem.Spec PyProof.Rows
abbrev Key:=Sum Int Str
def keyIs:Key->Value->Bool
 |.inl k,v=>Value.isInt k v
 |.inr x,v=>Value.isStrOf x v
def keyH(w:World):Key->Int
 |.inl k=>hashInt k
 |.inr x=>hashStr w x
theorem an_:∀{k:Key} {v:Value},keyIs k v=true->(∃i t,k=Sum.inl i/\v=Value.int i t)∨(∃x t,k=Sum.inr x/\v=Value.str x t)
 |.inl i,v,h=>by
  obtain⟨t,e⟩:=Value.isInt_shape (k:=i) (v:=v) h
  exact .inl ⟨i,t,rfl,e⟩
 |.inr x,v,h=>by
  obtain⟨t,e⟩:=Value.isStrOf_shape (x:=x) (v:=v) h
  exact .inr ⟨x,t,rfl,e⟩
theorem gE_(i:Int)(t:Tok):keyIs (.inl i) (.int i t)=true:=by simp[keyIs,Value.isInt]
theorem gZ_(x:Str)(t:Tok):keyIs (.inr x) (.str x t)=true:=by simp[keyIs,Value.isStrOf]
theorem jY_(a b:Int):decide ((Sum.inl a:Key)=Sum.inl b)=(a == b):=by
 by_cases e:a=b
 ·subst e;simp
 ·have h:¬(Sum.inl a:Key)=Sum.inl b:=fun q=>e (Sum.inl.inj q)
  rw[decide_eq_false h]
  exact (beq_eq_false_iff_ne.mpr e).symm
theorem jF_(a b:Str):decide ((Sum.inr a:Key)=Sum.inr b)=decide (a=b):=by
 by_cases e:a=b
 ·subst e;simp
 ·have h:¬(Sum.inr a:Key)=Sum.inr b:=fun q=>e (Sum.inr.inj q)
  rw[decide_eq_false h,decide_eq_false e]
theorem jA_(a:Int)(b:Str):decide ((Sum.inl a:Key)=Sum.inr b)=false:=decide_eq_false (fun q=>nomatch q)
theorem jP_(a:Str)(b:Int):decide ((Sum.inr a:Key)=Sum.inl b)=false:=decide_eq_false (fun q=>nomatch q)
def mixKind(prog:Program)(w:World):PySem.KeyKind prog w Key where
 is:=keyIs
 hash:=keyH w
 inj:=fun v a b ha hb=>by
  rcases an_ ha with⟨i,t,rfl,rfl⟩|⟨x,t,rfl,rfl⟩
  ·rcases an_ hb with⟨j,u,rfl,e⟩|⟨y,u,rfl,e⟩
   ·injection e with e1 _;rw[e1]
   ·exact nomatch e
  ·rcases an_ hb with⟨j,u,rfl,e⟩|⟨y,u,rfl,e⟩
   ·exact nomatch e
   ·injection e with e1 _;rw[e1]
 byValue:=fun k v h=>by
  rcases an_ h with⟨i,t,rfl,rfl⟩|⟨x,t,rfl,rfl⟩<;>rfl
 pyHash:=fun hv h=>by
  rcases an_ hv with⟨i,t,rfl,rfl⟩|⟨x,t,rfl,rfl⟩
  ·exact wpAny_pyHash_int h
  ·exact wpAny_pyHash_str h
 eqBool:=fun hu hv h=>by
  rcases an_ hu with⟨i,t,rfl,rfl⟩|⟨x,t,rfl,rfl⟩
  ·rcases an_ hv with⟨j,u,rfl,rfl⟩|⟨y,u,rfl,rfl⟩
   ·rw[jY_] at h;exact wpAny_eqBool_int h
   ·rw[jA_] at h;exact SeqAt.EqAt.int_str i t y u _ _ _ _ h
  ·rcases an_ hv with⟨j,u,rfl,rfl⟩|⟨y,u,rfl,rfl⟩
   ·rw[jP_] at h;exact SeqAt.EqAt.str_int x t j u _ _ _ _ h
   ·rw[jF_] at h;exact wpAny_eqBool_str h
 «strs»:=fun k x t v h=>by
  rcases an_ h with⟨i,u,rfl,e⟩|⟨y,u,rfl,e⟩
  ·exact nomatch e
  ·injection e with e1 _
   subst e1
   cases v<;>rfl
theorem e6_(prog:Program)(w:World)(i:Int)(t:Tok):(mixKind prog w).is (.inl i) (.int i t)=true:=gE_ i t
theorem bI_(prog:Program)(w:World)(x:Str)(t:Tok):(mixKind prog w).is (.inr x) (.str x t)=true:=gZ_ x t
end L2
namespace L2
open PySem PySem.Spec PyProof.Rows
inductive V where
 |non|bl (b:Bool)|int (i:Int)|str (x:Str)|byt (b:Array UInt8)|flt (b:UInt64)|ref (a:Addr)|ty (n:String)
 deriving DecidableEq
def RelV:V->Value->Prop
 |.non,u=>u=Value.none
 |.bl b,u=>u=Value.bool b
 |.int i,u=>∃t,u=Value.int i t
 |.str x,u=>∃t,u=Value.str x t
 |.byt b,u=>∃t,u=Value.bytes b t
 |.flt b,u=>∃t,u=Value.float b t
 |.ref a,u=>u=Value.ref a
 |.ty n,u=>u=Value.type n
abbrev Vals:List V->List Value->Prop:=Paired RelV
theorem Vals.length{xs:List V}{us:List Value}(r:Vals xs us):xs.length=us.length:=Paired.length r
theorem Vals.get:∀{xs:List V} {us:List Value} {i:Nat} {x:V},Vals xs us->xs[i]? = some x->∃u,us[i]? = some u/\RelV x u
 |_,_,_,_,.nil,e=>by simp at e
 |_,_,0,_,.cons r _,e=>by simp at e;subst e;exact⟨_,rfl,r⟩
 |_,_,i+1,x,.cons _ t,e=>by
  obtain⟨u,h1,h2⟩:=Vals.get (i:=i) (x:=x) t (by simpa using e)
  exact⟨u,by simpa using h1,h2⟩
theorem Vals.set{x:V}{u:Value}(r:RelV x u):∀{xs:List V} {us:List Value} (i:Nat),Vals xs us->Vals (xs.set i x) (us.set i u)
 |_,_,_,.nil=>.nil
 |_,_,0,.cons _ t=>.cons r t
 |_,_,i+1,.cons q t=>.cons q (Vals.set r i t)
theorem Vals.append:∀{xs ys:List V} {us ws:List Value},Vals xs us->Vals ys ws->Vals (xs++ys) (us++ws)
 |_,_,_,_,.nil,s=>s
 |_,_,_,_,.cons r t,s=>.cons r (Vals.append t s)
theorem Vals.take:∀{xs:List V} {us:List Value} (n:Nat),Vals xs us->Vals (xs.take n) (us.take n)
 |_,_,0,_=>.nil
 |_,_,_+1,.nil=>.nil
 |_,_,n+1,.cons r t=>.cons r (Vals.take n t)
theorem Vals.drop:∀{xs:List V} {us:List Value} (n:Nat),Vals xs us->Vals (xs.drop n) (us.drop n)
 |_,_,0,r=>r
 |_,_,_+1,.nil=>.nil
 |_,_,n+1,.cons _ t=>Vals.drop n t
def RelO:Option V->Option Value->Prop
 |some v,some u=>RelV v u
 |none,none=>True
 |_,_=>False
def KV{κ:Type}:List (κ × V)->List (κ × Value)->Prop:=Paired fun(p:κ × V) (q:κ × Value)=>p.1=q.1/\RelV p.2 q.2
def kV:Key->V
 |.inl i=>.int i
 |.inr x=>.str x
inductive HO where
  |lst (xs:List V)
  |tup (xs:List V)
  |dK (kvs:List (Key × V))|dT (kvs:List (List Key × V))
  |set (S:Int->Bool) (n:Nat)
  |ins (C dx:Addr) (fs:List (Str × V))
  |own (x:Addr)
  |xd (fs:List (Str × V))
  |met (f x:Addr)
  |rng (lo hi:Int)
  |frz (o:Obj) (u:HO)
  |tbl (ps:Array Value)
  |ext (φ:Heap->Prop)
abbrev Hp:=Addr->Option HO
def upd(H:Hp)(a:Addr)(o:HO):Hp:=fun b=>if b=a then some o else H b
theorem a1_{H:Hp}{a:Addr}{o:HO}:upd H a o a=some o:=by unfold upd;rw[if_pos rfl]
theorem a5_{H:Hp}{a b:Addr}{o:HO}(h:b≠a):upd H a o b=H b:=by unfold upd;rw[if_neg h]
theorem e7_{H:Hp}{a:Addr}{o u:HO}:upd (upd H a o) a u=upd H a u:=by
 funext b;unfold upd;split<;>rfl
theorem aQ_{H:Hp}{a b:Addr}{o u:HO}(h:H a=some o)(h':H b=some u)(d:o≠u):a≠b:=by
 intro e;subst e;rw[h] at h';exact d (Option.some.inj h')
theorem a7_{H:Hp}{a b:Addr}{o:HO}(h:H a=some o)(h':H b=none):a≠b:=by
 intro e;subst e;rw[h] at h';cases h'
section
variable(P:Program)(w:World)
def ObjOk(H:Hp)(h:Heap)(a:Addr):HO->Prop
 |.lst xs=>xs.length<=sizeLine/\∃(its:List Value) (n:Nat),Vals xs its/\h.get? a=some { cls:=.type "list",data:=.seq its.toArray n }
 |.tup xs=>xs.length<=sizeLine/\∃its:List Value,Vals xs its/\IsTup h a its.toArray/\∃o,h.get? a=some o/\o.dict=none
 |.dK kvs=>kvs.length<=sizeLine/\(a == sysModules)=false/\∃vs,KV kvs vs/\h.DictOf (mixKind P w) a vs
 |.dT kvs=>kvs.length<=sizeLine/\(a == sysModules)=false/\∃xs:List (List Key × Addr × Value),
   Paired (fun(p:List Key × V) (q:List Key × Addr × Value)=>p.1=q.1/\H q.2.1=some (.tup (p.1.map kV))/\RelV p.2 q.2.2) kvs xs /\
   ∃o es ep,h.get? a=some o/\o.ExactDict/\o.data=.dict es ep/\es.toList=xs.map (entryOfKey (tupleKind (mixKind P w)))/\(xs.map (·.1)).Nodup
 |.set S n=>h.SetOf (intKind P w) a S n
 |.ins C dx fs=>H dx=some (.own a)/\fs.length<=1000/\dx≠a/\h.get? a=some (PySem.W.instObj C dx) /\
   ∃mA,h.Ns1 dx mA/\(∀f,RelO (fs.lookup f) (mA f))/\PySem.Within mA (fs.map (·.1))
 |.own _=>∃o,h.get? a=some o
 |.xd fs=>∃mA,h.Ns1 a mA/\∀f,RelO (fs.lookup f) (mA f)
 |.rng lo hi=>∃t u v,h.get? a=some { cls:=.type "range",data:=.fields #[.int lo t,.int hi u,.int 1 v] }
 |.frz o u=>h.get? a=some o/\ObjOk H h a u
 |.tbl ps=>h.get? a=some { cls:=.none,data:=.fields ps }
 |.met f x=>h.get? a=some (PySem.W.methodObj (.ref f) (.ref x))
 |.ext φ=>φ h/\(∃o,h.get? a=some o)/\∀h1 h2:Heap,φ h1->(∀o,h1.get? a=some o->h2.get? a=some o)->φ h2
def HOk(H:Hp)(h:Heap):Prop:=∀a o,H a=some o->ObjOk P w H h a o
end
section
variable{P:Program}{w:World}{H H':Hp}{h h':Heap}{a:Addr}{o:HO}
theorem ObjOk.lt(x:ObjOk P w H h a o):a<h.objs.size:=by
 cases o with
 |lst xs=>obtain⟨_,_,_,_,e⟩:=x;exact Heap.lt_size e
 |tup xs=>obtain⟨_,_,_,p,_⟩:=x;exact p.lt
 |dK kvs=>obtain⟨_,_,_,_,o,_,_,e,_⟩:=x;exact Heap.lt_size e
 |dT kvs=>obtain⟨_,_,_,_,o,_,_,e,_⟩:=x;exact Heap.lt_size e
 |set S n=>obtain⟨o,_,_,_,e,_⟩:=x;exact Heap.lt_size e
 |ins C dx fs=>obtain⟨_,_,_,e,_⟩:=x;exact Heap.lt_size e
 |own y=>obtain⟨_,e⟩:=x;exact Heap.lt_size e
 |xd fs=>obtain⟨_,⟨_,_,_,e,_⟩,_⟩:=x;exact Heap.lt_size e
 |rng lo hi=>obtain⟨_,_,_,e⟩:=x;exact Heap.lt_size e
 |frz ob u=>obtain⟨e,_⟩:=x;exact Heap.lt_size e
 |tbl ps=>exact Heap.lt_size (show h.get? a=some _ from x)
 |met f y=>exact Heap.lt_size (show h.get? a=some _ from x)
 |ext φ=>obtain⟨_,⟨_,e⟩,_⟩:=x;exact Heap.lt_size e
theorem Paired.mapP{α β:Type}{F G:α->β->Prop}:∀{l₁:List α} {l₂:List β},Paired F l₁ l₂->(∀a b,F a b->G a b)->Paired G l₁ l₂
 |_,_,.nil,_=>.nil
 |_,_,.cons r t,f=>.cons (f _ _ r) (Paired.mapP t f)
theorem ObjOk.stay(x:ObjOk P w H h a o)(k:∀b u,(b=a∨H b=some (.own a))->h.get? b=some u->h'.get? b=some u)
  (ho:∀b,H b=some (.own a)->H' b=some (.own a)) (ht:∀b xs,H b=some (.tup xs)->H' b=some (.tup xs)):ObjOk P w H' h' a o:=by
 induction o with
 |lst xs=>obtain⟨z,its,n,r,e⟩:=x;exact⟨z,its,n,r,k _ _ (.inl rfl) e⟩
 |tup xs=>obtain⟨z,its,r,⟨ob,e,c⟩,o2,e2,c2⟩:=x;exact⟨z,its,r,⟨ob,k _ _ (.inl rfl) e,c⟩,o2,k _ _ (.inl rfl) e2,c2⟩
 |dK kvs=>obtain⟨z,y,vs,r,ob,es,ep,e,c⟩:=x;exact⟨z,y,vs,r,ob,es,ep,k _ _ (.inl rfl) e,c⟩
 |dT kvs=>
  obtain⟨z,y,xs,r,ob,es,ep,e,c⟩:=x
  exact⟨z,y,xs,Paired.mapP r fun p q z=>⟨z.1,ht _ _ z.2.1,z.2.2⟩,ob,es,ep,k _ _ (.inl rfl) e,c⟩
 |set S n=>obtain⟨ob,es,ep,t,e,c⟩:=x;exact⟨ob,es,ep,t,k _ _ (.inl rfl) e,c⟩
 |ins C dx fs=>
  obtain⟨d,z,ne,e,mA,⟨od,es,ep,e2,c⟩,r⟩:=x
  exact⟨ho _ d,z,ne,k _ _ (.inl rfl) e,mA,⟨od,es,ep,k _ _ (.inr d) e2,c⟩,r⟩
 |own y=>obtain⟨ob,e⟩:=x;exact⟨ob,k _ _ (.inl rfl) e⟩
 |xd fs=>obtain⟨mA,⟨od,es,ep,e,c⟩,r⟩:=x;exact⟨mA,⟨od,es,ep,k _ _ (.inl rfl) e,c⟩,r⟩
 |rng lo hi=>obtain⟨t,u,v,e⟩:=x;exact⟨t,u,v,k _ _ (.inl rfl) e⟩
 |frz ob u ih=>obtain⟨e,q⟩:=x;exact⟨k _ _ (.inl rfl) e,ih q⟩
 |tbl ps=>
  have e:h.get? a=some { cls:=.none,data:=.fields ps }:=x
  show h'.get? a=some { cls:=.none,data:=.fields ps }
  exact k a _ (.inl rfl) e
 |met f y=>
  have e:h.get? a=some (PySem.W.methodObj (.ref f) (.ref y)):=x
  show h'.get? a=some (PySem.W.methodObj (.ref f) (.ref y))
  exact k a _ (.inl rfl) e
 |ext φ=>obtain⟨p,⟨o,e⟩,st⟩:=x;exact⟨st _ _ p fun o q=>k _ _ (.inl rfl) q,⟨o,k _ _ (.inl rfl) e⟩,st⟩
theorem HOk.lt(x:HOk P w H h)(e:H a=some o):a<h.objs.size:=(x a o e).lt
theorem HOk.fresh(x:HOk P w H h)(e:h.objs.size<=a):H a=none:=by
 cases q:H a with
 |none=>rfl
 |some u=>exact absurd (Nat.lt_of_lt_of_le (x.lt q) e) (Nat.lt_irrefl _)
theorem HOk.kept(x:HOk P w H h)(k:∀b u,h.get? b=some u->h'.get? b=some u):HOk P w H h':=fun a o e=>
 (x a o e).stay (fun b u _ q=>k b u q) (fun _ q=>q) fun _ _ q=>q
theorem HOk.laid(x:HOk P w H h)(k:∀b u,h.get? b=some u->h'.get? b=some u)(hp:h.objs.size<=a)(new:ObjOk P w (upd H a o) h' a o):HOk P w (upd H a o) h':=fun b u e=>by
 have hn:=x.fresh hp
 by_cases hb:b=a
 ·subst hb;rw[a1_] at e;cases e;exact new
 ·rw[a5_ hb] at e
  exact (x b u e).stay (fun c v _ q=>k c v q) (fun c q=>by rw[a5_ (a7_ q hn)];exact q) fun c xs q=>by rw[a5_ (a7_ q hn)];exact q
end
def Rd(H:Hp)(a:Addr)(u:HO):Prop:=H a=some u∨∃o,H a=some (.frz o u)
theorem Rd.ok{P:Program}{w:World}{H:Hp}{h:Heap}{a:Addr}{u:HO}(r:Rd H a u)(x:HOk P w H h):ObjOk P w H h a u:=by
 rcases r with r|⟨o,r⟩
 ·exact x a u r
 ·obtain⟨_,q⟩:=x a _ r
  exact q
def Mut:Option HO->Prop
 |some (.lst _)=>True
 |some (.dK _)=>True
 |some (.dT _)=>True
 |some (.set _ _)=>True
 |some (.ins _ _ _)=>True
 |some (.ext _)=>True
 |_=>False
section
variable{P:Program}{w:World}{H:Hp}{h h':Heap}{x e:Addr}{o':HO}
theorem HOk.write(ok:HOk P w H h)(mu:Mut (H x))(he:e=x∨H e=some (.own x))(k:∀b u,b≠e->h.get? b=some u->h'.get? b=some u)(heo:∃u,h'.get? e=some u)
  (new:ObjOk P w (upd H x o') h' x o'):HOk P w (upd H x o') h':=fun b u q=>by
 have nown:∀c y,H c=some (.own y)->c≠x:=fun c y r z=>by subst z;rw[r] at mu;exact mu
 have ntup:∀c xs,H c=some (.tup xs)->c≠x:=fun c xs r z=>by subst z;rw[r] at mu;exact mu
 by_cases hb:b=x
 ·subst hb;rw[a1_] at q;cases q;exact new
 ·rw[a5_ hb] at q
  by_cases hbe:b=e
  ·have q':H b=some (.own x):=by
    rcases he with z|z
    ·exact absurd (hbe.trans z) hb
    ·rw[hbe];exact z
   rw[q] at q';cases q'
   obtain⟨v,hv⟩:=heo
   exact⟨v,by rw[hbe];exact hv⟩
  ·refine (ok b u q).stay (fun c v hc r=>k c v ?_ r) (fun c r=>by rw[a5_ (nown c b r)];exact r) fun c xs r=>by rw[a5_ (ntup c xs r)];exact r
   rcases hc with rfl|hc
   ·exact hbe
   ·rintro rfl
    rcases he with z|z
    ·exact nown c b hc z
    ·rw[hc] at z;cases z;exact hb rfl
end
structure Un (fs ex:List Addr) (H H':Hp) (h h':Heap):Prop where
 keep:∀b o,h.get? b=some o->H b=none->b∉fs->b∉ex->h'.get? b=some o
 slot:∀b o,h.get? b=some o->H b=none->b∈fs->b∉ex->∃sl,h'.get? b=some { o with slots:=sl }
 free:∀b o,h.get? b=some o->H b=none->b∉ex->H' b=none
 there:∀b o,h.get? b=some o->b∉ex->∃o',h'.get? b=some o'
 tups:∀b xs,H b=some (.tup xs)->H' b=some (.tup xs)
 frzs:∀b o u,H b=some (.frz o u)->H' b=some (.frz o u)
 tbls:∀b ps,H b=some (.tbl ps)->∃more,H' b=some (.tbl (ps++more))
section
variable{fs fs' ex ex':List Addr}{H H1 H2:Hp}{h h1 h2 h':Heap}{a x e:Addr}{o:HO}
theorem Un.any(u:Un fs ex H H1 h h1){b:Addr}{ob:Obj}(q:h.get? b=some ob)(n:H b=none)(hx:b∉ex):∃sl,h1.get? b=some { ob with slots:=sl }:=by
 by_cases hb:b∈fs
 ·exact u.slot b ob q n hb hx
 ·exact⟨ob.slots,u.keep b ob q n hb hx⟩
theorem Un.kept(k:∀b u,h.get? b=some u->h'.get? b=some u):Un fs ex H H h h':=
 ⟨fun b ob q _ _ _=>k b ob q,fun b ob q _ _ _=>⟨ob.slots,k b ob q⟩,fun _ _ _ n _=>n,fun b ob q _=>⟨ob,k b ob q⟩,fun _ _ q=>q,fun _ _ _ q=>q,fun _ ps q=>⟨#[],by rw[q];simp⟩⟩
theorem Un.refl:Un fs ex H H h h:=Un.kept fun _ _ q=>q
theorem Un.laid(k:∀b u,h.get? b=some u->h'.get? b=some u)(hp:h.objs.size<=a)(hn:H a=none):Un fs ex H (upd H a o) h h' where
 keep:=fun b u q _ _ _=>k b u q
 slot:=fun b u q _ _ _=>⟨u.slots,k b u q⟩
 free:=fun b u q n _=>by rw[a5_ (Nat.ne_of_lt (Nat.lt_of_lt_of_le (Heap.lt_size q) hp))];exact n
 there:=fun b u q _=>⟨u,k b u q⟩
 tups:=fun b xs q=>by rw[a5_ (a7_ q hn)];exact q
 frzs:=fun b u xs q=>by rw[a5_ (a7_ q hn)];exact q
 tbls:=fun b ps q=>⟨#[],by rw[a5_ (a7_ q hn),q];simp⟩
theorem Un.write(mu:Mut (H x))(he:e=x∨H e=some (.own x))(k:∀b u,b≠e->h.get? b=some u->h'.get? b=some u)(heo:∃u,h'.get? e=some u):Un fs ex H (upd H x o) h h':=by
 have hx:∀b,H b=none->b≠x:=fun b n z=>by subst z;rw[n] at mu;exact mu
 have hb:∀b,H b=none->b≠e:=fun b n z=>by
  subst z
  rcases he with r|r
  ·exact hx b n r
  ·rw[n] at r;cases r
 have hm:∀b u,H b=some u->¬Mut (some u)->b≠x:=fun b u q nm z=>by subst z;rw[q] at mu;exact nm mu
 refine⟨fun b u q n _ _=>k b u (hb b n) q,fun b u q n _ _=>⟨u.slots,k b u (hb b n) q⟩,fun b u q n _=>by rw[a5_ (hx b n)];exact n,fun b u q _=>?_,
  fun b xs q=>by rw[a5_ (hm b _ q fun z=>z)];exact q,fun b u xs q=>by rw[a5_ (hm b _ q fun z=>z)];exact q,fun b ps q=>⟨#[],by rw[a5_ (hm b _ q fun z=>z),q];simp⟩⟩
 by_cases hbe:b=e
 ·subst hbe;exact heo
 ·exact⟨u,k b u hbe q⟩
end
def trk(h:Heap)(H:Hp):List Addr:=(List.range h.objs.size).filter fun a=>(H a).isSome
def hidT(h:Heap)(H:Hp):Heap:=PySem.W.hideAll h (trk h H)
theorem gH_(h:Heap)(H:Hp):(hidT h H).objs.size=h.objs.size:=PySem.W.hideAll_size _ _
theorem hN_{h:Heap}{H:Hp}{b:Addr}{o:Obj}(e:h.get? b=some o)(n:H b=none):(hidT h H).get? b=some o:=
 PySem.W.hideAll_get _ e fun hm=>by
  have q:(H b).isSome=true:=(List.mem_filter.mp hm).2
  rw[n] at q;simp at q
theorem je_{h:Heap}{H:Hp}{b:Addr}{o:Obj}(e:(hidT h H).get? b=some o):h.get? b=some o/\H b=none:=by
 have e':h.get? b=some o:=PySem.W.of_hideAll (trk h H) e
 refine⟨e',?_⟩
 cases q:H b with
 |none=>rfl
 |some x=>
  have hm:b∈trk h H:=List.mem_filter.mpr ⟨List.mem_range.mpr (Heap.lt_size e'),by simp[q]⟩
  have z:(hidT h H).get? b=none:=PySem.W.hideAll_none (trk h H) hm
  rw[z] at e;cases e
end L2
namespace L2
open PySem PySem.Spec PyProof.Rows
structure Mod (K:PySem.W.Frag) (mg:Str->Option Value) (base:Heap):Prop where
 kin:K.In base
 glob:base.Ns mainGlobals mg
 blt:∃mb,base.Ns builtinsNs mb/\∀x:Str,x≠"__name__"->mb x=bootBuiltins x
 nolimit:base.NoLimit
structure Cx where
 prog:Program
 w:World
 K:PySem.W.Frag
 mg:Str->Option Value
 base:Heap
 A:Around
 N:List Str
 s₀:Shared
 H₀:Hp
 env:Env
 outer:List Env
 stack:List Env
 ex:List Addr
 fn:Str->Bool
 calm:Bool
 pn:List (Addr × Obj)
 xe:Value->Shared->Prop
def frs(l:List Env):List Addr:=l.filterMap (·.frame)
abbrev Cx.fs(X:Cx):List Addr:=frs X.outer
def Vis(sc:Scope)(x:Str):Prop:=sc.names.lookup x=some .local∨sc.names.lookup x=some .cell∨sc.names.lookup x=some .free
def Loc(sc:Scope)(x:Str):Prop:=sc.names.lookup x=some .local∨sc.names.lookup x=some .cell
def Look(env:Env)(h:Heap)(m:Str->Option Value)(x:Str)(u:Value):Prop:=
 (env.kindOf x=some .local/\m x=some u)∨((env.kindOf x=some .cell∨env.kindOf x=some .free)/\∃c,env.cells.lookup x=some c/\h.IsCell c (some u))
structure Cx.Ok (X:Cx):Prop where
 mod:Mod X.K X.mg X.base
 kind:X.env.scope.kind=.function
 glob:X.env.globals=mainGlobals
 blt:X.env.builtins=builtinsNs
 above:X.s₀.heap.objs.size<=X.env.locals
 inj:∀x y c,X.env.cells.lookup x=some c->X.env.cells.lookup y=some c->x=y
 has:∀x,(X.env.kindOf x=some .cell∨X.env.kindOf x=some .free)->∃c,X.env.cells.lookup x=some c
 cab:∀x c,X.fn x=true->X.env.cells.lookup x=some c->X.s₀.heap.objs.size<=c
 hd:X.calm=true->X.A.handled=none
 frames:X.A.frames=some X.stack
 stk:X.stack=X.outer∨(X.stack=X.env::X.outer/\X.env.frame=some X.env.locals)
 exf:∀b∈X.ex,b≠X.env.locals/\∀x c,X.env.cells.lookup x=some c->c≠b
 bs:∀b o,X.base.get? b=some o->X.s₀.heap.get? b=some o/\X.H₀ b=none
 bsz:X.base.objs.size<=X.s₀.heap.objs.size
 noex:∀b o,X.base.get? b=some o->b∉X.ex
 exfs:∀b∈X.ex,b∉X.fs
 funs:X.s₀.heap.FunFrames X.base X.outer
 frf:∀b∈X.fs,X.H₀ b=none
structure Inv (X:Cx) (pins:List (Addr × Obj)) (σ:List (Option V)) (H:Hp) (s:Shared):Prop where
 ok:X.Ok
 os:s.os=X.s₀.os
 bare:AllBare s.gens
 base:Un X.fs X.ex X.H₀ H X.s₀.heap s.heap
 loc:∃m,s.heap.Ns X.env.locals m/\∀(i:Nat) (x:Str) (v:V),X.N[i]? = some x->σ[i]? = some (some v)->Vis X.env.scope x->∃u,RelV v u/\Look X.env s.heap m x u
 cell:∀x c,X.env.cells.lookup x=some c->∃v,s.heap.IsCell c v
 free:H X.env.locals=none
 freeC:∀x c,X.env.cells.lookup x=some c->H c=none
 pin:∀p∈X.pn++pins,s.heap.get? p.1=some p.2/\H p.1=none/\p.1≠X.env.locals/\p.1∉X.fs/\∀v,p.2.data≠.cell v
 hok:HOk X.prog X.w H s.heap
 len:σ.length=X.N.length
section
variable{X:Cx}{pins:List (Addr × Obj)}{σ:List (Option V)}{H H':Hp}{s:Shared}{h':Heap}
theorem Cx.Ok.nofr(ok:X.Ok){b:Addr}{o:Obj}(e:X.base.get? b=some o):b∉X.fs:=fun hb=>by
 have:=(ok.funs.mem hb).1
 rw[e] at this;cases this
theorem Inv.bs(I:Inv X pins σ H s):∀b o,X.base.get? b=some o->s.heap.get? b=some o/\H b=none:=fun b o e=>
 ⟨I.base.keep b o (I.ok.bs b o e).1 (I.ok.bs b o e).2 (I.ok.nofr e) (I.ok.noex b o e),I.base.free b o (I.ok.bs b o e).1 (I.ok.bs b o e).2 (I.ok.noex b o e)⟩
theorem Inv.bk(I:Inv X pins σ H s):∀b o,X.base.get? b=some o->s.heap.get? b=some o:=fun b o e=>(I.bs b o e).1
theorem Inv.mod(I:Inv X pins σ H s):Mod X.K X.mg X.base:=I.ok.mod
theorem Inv.kIn(I:Inv X pins σ H s):X.K.In s.heap:=I.ok.mod.kin.keeps I.bk
theorem Inv.lt(I:Inv X pins σ H s):X.env.locals<s.heap.objs.size:=let ⟨_,hn,_⟩:=I.loc;hn.lt
theorem Inv.sz(I:Inv X pins σ H s):X.s₀.heap.objs.size<=s.heap.objs.size:=Nat.le_trans I.ok.above (Nat.le_of_lt I.lt)
theorem Inv.nofs(I:Inv X pins σ H s){a:Addr}(h:s.heap.objs.size<=a):a∉X.fs:=fun hb=>by
 obtain⟨_,o,ho,_⟩:=I.ok.funs.mem hb
 exact absurd (Nat.lt_of_lt_of_le (Heap.lt_size ho) (Nat.le_trans I.sz h)) (Nat.lt_irrefl _)
theorem Inv.cne(I:Inv X pins σ H s):∀x c,X.env.cells.lookup x=some c->c≠X.env.locals:=fun x c e z=>by
 obtain⟨v,o,ho,hd⟩:=I.cell x c e
 obtain⟨m,⟨o',es,ep,ho',hd',_⟩,_⟩:=I.loc
 rw[z,ho'] at ho;cases ho;rw[hd'] at hd;cases hd
theorem Inv.funs(I:Inv X pins σ H s):s.heap.FunFrames X.base X.outer:=by
 have all:∀(l:List Env),(∀b∈frs l,b∈X.fs)->X.s₀.heap.FunFrames X.base l->s.heap.FunFrames X.base l:=by
  intro l
  induction l with
  |nil=>intro _ _;trivial
  |cons env r ih=>
   intro hs hl
   obtain⟨hk,⟨L,o,hf,hn,ho,hd⟩,hr⟩:=hl
   have hL:L∈X.fs:=hs L (by unfold frs;rw[List.filterMap_cons,hf];exact List.mem_cons_self)
   obtain⟨sl,e⟩:=I.base.slot L o ho (I.ok.frf L hL) hL fun z=>I.ok.exfs L z hL
   exact⟨hk,⟨L,_,hf,hn,e,hd⟩,ih (fun b hb=>hs b (by unfold frs;rw[List.filterMap_cons,hf];exact List.mem_cons_of_mem _ hb)) hr⟩
 exact all X.outer (fun _ hb=>hb) I.ok.funs
theorem Inv.stack(I:Inv X pins σ H s):s.heap.FunFrames X.base X.stack:=by
 rcases I.ok.stk with e|⟨e,hf⟩
 ·rw[e];exact I.funs
 ·rw[e]
  obtain⟨m,hn,_⟩:=I.loc
  refine .cons (by rw[I.ok.kind];decide) hf hn ?_ I.funs
  exact Heap.get?_none_of_le (Nat.le_trans I.ok.bsz I.ok.above)
theorem Inv.stkSub(I:Inv X pins σ H s):∀b∈frs X.stack,b∈X.env.locals::X.fs:=fun b hb=>by
 rcases I.ok.stk with e|⟨e,hf⟩
 ·rw[e] at hb;exact List.mem_cons_of_mem _ hb
 ·rw[e] at hb
  unfold frs at hb
  rw[List.filterMap_cons,hf] at hb
  exact hb
theorem Inv.stkFree(I:Inv X pins σ H s):∀b∈frs X.stack,H b=none:=fun b hb=>by
 rcases List.mem_cons.mp (I.stkSub b hb) with e|hb
 ·rw[e];exact I.free
 ·obtain⟨_,o,ho,_⟩:=I.ok.funs.mem hb
  exact I.base.free b o ho (I.ok.frf b hb) fun z=>I.ok.exfs b z hb
theorem Inv.step{g':Array GenState}{t':Nat}{d':Drawn}{ch:List Addr}(I:Inv X pins σ H s)
  (hch:∀b∈ch,(b∈X.ex∨X.s₀.heap.objs.size<=b)/\b≠X.env.locals/\(∀x c,X.env.cells.lookup x=some c->c≠b)/\∀p∈X.pn++pins,p.1≠b)
  (keep:∀b o,b≠X.env.locals->b∉X.fs->b∉ch->s.heap.get? b=some o->H b=none->h'.get? b=some o)
  (slot:∀b o,b≠X.env.locals->b∈X.fs->b∉ch->s.heap.get? b=some o->H b=none->∃sl,h'.get? b=some { o with slots:=sl }) (free:∀b o,b∉ch->s.heap.get? b=some o->H b=none->H' b=none)
  (there:∀b o,b∉ch->s.heap.get? b=some o->∃o',h'.get? b=some o')
  (tups:∀b xs,H b=some (.tup xs)->H' b=some (.tup xs)) (frzs:∀b o u,H b=some (.frz o u)->H' b=some (.frz o u)) (tbls:∀b ps,H b=some (.tbl ps)->∃more,H' b=some (.tbl (ps++more)))
  (ns:∀m,s.heap.Ns X.env.locals m->h'.Ns X.env.locals m) (hok:HOk X.prog X.w H' h') (hg:AllBare g') :
  Inv X pins σ H' { s with heap:=h',gens:=g',drawn:=d',toks:=t' }:=by
 have neL:∀b o,X.s₀.heap.get? b=some o->b≠X.env.locals:=fun b o e=>Nat.ne_of_lt (Nat.lt_of_lt_of_le (Heap.lt_size e) I.ok.above)
 have neC:∀b o,X.s₀.heap.get? b=some o->b∉X.ex->b∉ch:=fun b o e hx hb=>by
  rcases (hch b hb).1 with z|z
  ·exact hx z
  ·exact absurd (Nat.lt_of_lt_of_le (Heap.lt_size e) z) (Nat.lt_irrefl _)
 have cellK:∀x c,X.env.cells.lookup x=some c->∀v,s.heap.IsCell c v->h'.IsCell c v:=fun x c e v ⟨o,ho,hd⟩=>by
  have nch:c∉ch:=fun z=>(hch c z).2.2.1 x c e rfl
  by_cases hc:c∈X.fs
  ·obtain⟨sl,q⟩:=slot c o (I.cne x c e) hc nch ho (I.freeC x c e)
   exact⟨_,q,hd⟩
  ·exact⟨o,keep c o (I.cne x c e) hc nch ho (I.freeC x c e),hd⟩
 refine⟨I.ok,I.os,hg,⟨fun b o e n hb hx=>?_,fun b o e n hb hx=>?_,fun b o e n hx=>?_,fun b o e hx=>?_,fun b xs e=>tups b xs (I.base.tups b xs e),fun b o xs e=>frzs b o xs (I.base.frzs b o xs e),fun b ps e=>?_⟩,?_,fun x c e=>?_,?_,fun x c e=>?_,fun p hp=>?_,hok,I.len⟩
 ·exact keep b o (neL b o e) hb (neC b o e hx) (I.base.keep b o e n hb hx) (I.base.free b o e n hx)
 ·obtain⟨sl,e1⟩:=I.base.slot b o e n hb hx
  obtain⟨sl',e2⟩:=slot b _ (neL b o e) hb (neC b o e hx) e1 (I.base.free b o e n hx)
  exact⟨sl',e2⟩
 ·obtain⟨o',e1⟩:=I.base.there b o e hx
  exact free b o' (neC b o e hx) e1 (I.base.free b o e n hx)
 ·obtain⟨o',e1⟩:=I.base.there b o e hx
  exact there b o' (neC b o e hx) e1
 ·obtain⟨m1,e1⟩:=I.base.tbls b ps e
  obtain⟨m2,e2⟩:=tbls b _ e1
  exact⟨m1++m2,by rw[e2,Array.append_assoc]⟩
 ·obtain⟨m,hn,hl⟩:=I.loc
  refine⟨m,ns m hn,fun i x v e1 e2 e3=>?_⟩
  obtain⟨u,r,l⟩:=hl i x v e1 e2 e3
  refine⟨u,r,?_⟩
  rcases l with l|⟨k,c,e,z⟩
  ·exact .inl l
  ·exact .inr ⟨k,c,e,cellK x c e _ z⟩
 ·obtain⟨v,z⟩:=I.cell x c e
  exact⟨v,cellK x c e v z⟩
 ·obtain⟨m,⟨o,_,_,ho,_⟩,_⟩:=I.loc
  exact free _ o (fun z=>(hch _ z).2.1 rfl) ho I.free
 ·obtain⟨v,o,ho,hd⟩:=I.cell x c e
  exact free c o (fun z=>(hch c z).2.2.1 x c e rfl) ho (I.freeC x c e)
 ·obtain⟨e,n,ne,nf,d⟩:=I.pin p hp
  have nch:p.1∉ch:=fun z=>(hch p.1 z).2.2.2 p hp rfl
  exact⟨keep p.1 p.2 ne nf nch e n,free p.1 p.2 nch e n,ne,nf,d⟩
theorem Inv.un{t':Nat}(I:Inv X pins σ H s)(u:Un X.fs [] H H' s.heap h')(hok:HOk X.prog X.w H' h'):Inv X pins σ H' { s with heap:=h',toks:=t' }:=by
 obtain⟨m,⟨o,es,ep,ho,r⟩,_⟩:=id I.loc
 obtain⟨sl,hL⟩:=u.any ho I.free (by simp)
 exact I.step (g':=s.gens) (d':=s.drawn) (ch:=[]) (fun _ z=>nomatch z) (fun b o _ hb _ e n=>u.keep b o e n hb (by simp)) (fun b o _ hb _ e n=>u.slot b o e n hb (by simp)) (fun b o _ e n=>u.free b o e n (by simp)) (fun b o _ e=>u.there b o e (by simp)) u.tups u.frzs u.tbls (fun m' hm=>by
  obtain⟨o',es',ep',ho',r'⟩:=hm
  rw[ho] at ho';cases ho'
  exact⟨_,es',ep',hL,r'⟩) hok I.bare
theorem Inv.call{g':Array GenState}{t':Nat}{d':Drawn}{ch:List Addr}(I:Inv X pins σ H s)(u:Un (frs X.stack) ch H H' s.heap h')(hok:HOk X.prog X.w H' h')(hg:AllBare g')
  (hch:∀b∈ch,(b∈X.ex∨X.s₀.heap.objs.size<=b)/\b≠X.env.locals/\(∀x c,X.env.cells.lookup x=some c->c≠b)/\∀p∈X.pn++pins,p.1≠b) :
  Inv X pins σ H' { s with heap:=h',gens:=g',drawn:=d',toks:=t' }:=by
 obtain⟨m,⟨o,es,ep,ho,r⟩,_⟩:=id I.loc
 obtain⟨sl,hL⟩:=u.any ho I.free fun z=>(hch _ z).2.1 rfl
 exact I.step (ch:=ch) hch (fun b o hL hb hc e n=>u.keep b o e n (fun z=>(List.mem_cons.mp (I.stkSub b z)).elim hL hb) hc) (fun b o _ _ hc e n=>u.any e n hc) (fun b o hc e n=>u.free b o e n hc) (fun b o hc e=>u.there b o e hc) u.tups u.frzs u.tbls (fun m' hm=>by
  obtain⟨o',es',ep',ho',r'⟩:=hm
  rw[ho] at ho';cases ho'
  exact⟨_,es',ep',hL,r'⟩) hok hg
theorem Inv.turned{t':Nat}{it:Addr}(I:Inv X pins σ H s)(k:∀b o,b≠it->s.heap.get? b=some o->h'.get? b=some o)(hn:H it=none)(hL:it≠X.env.locals)
  (h1:it∈X.ex∨X.s₀.heap.objs.size<=it) (h2:∀x c,X.env.cells.lookup x=some c->c≠it) (h3:∀p∈X.pn++pins,p.1≠it):Inv X pins σ H { s with heap:=h',toks:=t' }:=by
 have nit:∀b u,H b=some u->b≠it:=fun b u e z=>by rw[z,hn] at e;cases e
 refine I.step (g':=s.gens) (d':=s.drawn) (ch:=[it]) (fun b hb=>?_) (fun b o _ _ hc e _=>k b o (fun z=>hc (by simp[z])) e) (fun b o _ _ hc e _=>⟨o.slots,k b o (fun z=>hc (by simp[z])) e⟩) (fun _ _ _ _ n=>n)
  (fun b o hc e=>⟨o,k b o (fun z=>hc (by simp[z])) e⟩) (fun _ _ e=>e) (fun _ _ _ e=>e) (fun b ps e=>⟨#[],by rw[e];simp⟩) (fun m hm=>?_) (fun b u e=>?_) I.bare
 ·have e:b=it:=by simpa using hb
  subst e
  exact⟨h1,hL,h2,h3⟩
 ·obtain⟨o,es,ep,ho,r⟩:=hm
  exact⟨o,es,ep,k _ o (Ne.symm hL) ho,r⟩
 ·refine (I.hok b u e).stay (fun c v hc q=>k c v ?_ q) (fun _ q=>q) fun _ _ q=>q
  rcases hc with z|z
  ·rw[z];exact nit b u e
  ·exact nit c _ z
theorem Inv.tok(I:Inv X pins σ H s)(t:Nat):Inv X pins σ H { s with toks:=t }:=I.un (h':=s.heap) (t':=t) Un.refl I.hok
theorem Inv.kept{t':Nat}(I:Inv X pins σ H s)(k:∀b u,s.heap.get? b=some u->h'.get? b=some u):Inv X pins σ H { s with heap:=h',toks:=t' }:=I.un (Un.kept k) (I.hok.kept k)
theorem Inv.laid{a:Addr}{o:HO}{t':Nat}(I:Inv X pins σ H s)(k:∀b u,s.heap.get? b=some u->h'.get? b=some u)(hp:s.heap.objs.size<=a)(new:ObjOk X.prog X.w (upd H a o) h' a o) :
  Inv X pins σ (upd H a o) { s with heap:=h',toks:=t' }:=I.un (Un.laid k hp (I.hok.fresh hp)) (I.hok.laid k hp new)
theorem Inv.write{x e:Addr}{o:HO}{t':Nat}(I:Inv X pins σ H s)(mu:Mut (H x))(he:e=x∨H e=some (.own x))(k:∀b u,b≠e->s.heap.get? b=some u->h'.get? b=some u)(heo:∃u,h'.get? e=some u)
  (new:ObjOk X.prog X.w (upd H x o) h' x o):Inv X pins σ (upd H x o) { s with heap:=h',toks:=t' }:=I.un (Un.write mu he k heo) (I.hok.write mu he k heo new)
theorem Inv.pins_of{pins':List (Addr × Obj)}(I:Inv X pins σ H s)(h:∀p∈pins',s.heap.get? p.1=some p.2/\H p.1=none/\p.1≠X.env.locals/\p.1∉X.fs/\∀v,p.2.data≠.cell v):Inv X pins' σ H s:=
 ⟨I.ok,I.os,I.bare,I.base,I.loc,I.cell,I.free,I.freeC,fun p hp=>(List.mem_append.mp hp).elim (fun z=>I.pin p (List.mem_append_left _ z)) (h p),I.hok,I.len⟩
theorem dh_{N:List Str}(hN:N.Nodup){i j:Nat}{x:Str}(a:N[i]? = some x)(b:N[j]? = some x):i=j:=by
 obtain⟨h1,e1⟩:=List.getElem?_eq_some_iff.mp a
 obtain⟨h2,e2⟩:=List.getElem?_eq_some_iff.mp b
 exact (List.getElem_inj hN).mp (e1.trans e2.symm)
theorem dE_{M:Model}{A:Around}{E:Value->Shared->Prop}{i:Nat}{x:Str}{v:V}{u:Value}{Q:Unit->Shared->Prop}(I:Inv X pins σ H s)(hN:X.N.Nodup)(hi:X.N[i]? = some x)(hx:Loc X.env.scope x)(r:RelV v u)
  (h:∀s',Inv X pins (σ.set i (some v)) H s'->(∃a,Heap.SameBut a s.heap s'.heap/\(a=X.env.locals∨X.env.cells.lookup x=some a))->Q () s') (hf:X.fn x=true∨X.env.scope.names.lookup x=some .local:=by first|exact .inl rfl|exact .inr rfl|assumption):wpAny M A (storeName X.env x u) Q E s:=by
 obtain⟨m,hn,hl⟩:=id I.loc
 have hcls:(X.env.scope.kind == .class || (X.env.scope.kind == .module&&X.env.locals != X.env.globals))=false:=by rw[I.ok.kind];rfl
 have hiσ:i<σ.length:=by rw[I.len];exact (List.getElem?_eq_some_iff.mp hi).1
 have cne:=I.cne
 have tracked:∀{a:Addr} {h':Heap},(∃o,s.heap.get? a=some o/\H a=none)->Heap.SameBut a s.heap h'->HOk X.prog X.w H h':=fun {a h'} ha hs b ob e=>by
  obtain⟨_,_,hfree⟩:=ha
  refine (I.hok b ob e).stay (fun c w' hc q=>(hs.2 c ?_).trans q) (fun _ q=>q) fun _ _ q=>q
  rintro rfl
  rcases hc with rfl|hc
  ·rw[hfree] at e;cases e
  ·rw[hfree] at hc;cases hc
 rcases hx with hk|hk
 ·refine wpAny_storeName_local hk hn (fun h' hn' hs=>?_) hcls
  obtain⟨oL,_,_,hoL,_⟩:=id hn
  refine h _ ⟨I.ok,I.os,I.bare,⟨fun b o e n hb hx=>?_,fun b o e n hb hx=>?_,I.base.free,fun b o e hx=>?_,I.base.tups,I.base.frzs,I.base.tbls⟩,⟨_,hn',fun j y v' e1 e2 e3=>?_⟩,fun y c e=>?_,I.free,I.freeC,fun p hp=>?_,tracked ⟨oL,hoL,I.free⟩ hs,by simpa using I.len⟩ ⟨_,hs,.inl rfl⟩
  ·exact (hs.2 b (Nat.ne_of_lt (Nat.lt_of_lt_of_le (Heap.lt_size e) I.ok.above))).trans (I.base.keep b o e n hb hx)
  ·obtain⟨sl,e1⟩:=I.base.slot b o e n hb hx
   exact⟨sl,(hs.2 b (Nat.ne_of_lt (Nat.lt_of_lt_of_le (Heap.lt_size e) I.ok.above))).trans e1⟩
  ·obtain⟨o',e1⟩:=I.base.there b o e hx
   exact⟨o',(hs.2 b (Nat.ne_of_lt (Nat.lt_of_lt_of_le (Heap.lt_size e) I.ok.above))).trans e1⟩
  ·by_cases hj:j=i
   ·subst hj
    rw[hi] at e1;cases e1
    rw[List.getElem?_set_self hiσ] at e2
    cases e2
    exact⟨u,r,.inl ⟨hk,by simp⟩⟩
   ·rw[List.getElem?_set_ne (Ne.symm hj)] at e2
    obtain⟨u',r',q⟩:=hl j y v' e1 e2 e3
    refine⟨u',r',?_⟩
    rcases q with⟨k,e⟩|⟨k,c,e,z⟩
    ·refine .inl ⟨k,?_⟩
     have:y≠x:=fun e=>hj (dh_ hN e1 (e▸hi))
     simp[this,e]
    ·exact .inr ⟨k,c,e,z.sameBut hs (cne y c e)⟩
  ·obtain⟨w',z⟩:=I.cell y c e
   exact⟨w',z.sameBut hs (cne y c e)⟩
  ·obtain⟨e,n,ne,nf,d⟩:=I.pin p hp
   exact⟨(hs.2 p.1 ne).trans e,n,ne,nf,d⟩
 ·have hfn:X.fn x=true:=by
   rcases hf with z|z
   ·exact z
   ·rw[z] at hk;cases hk
  obtain⟨c,hc⟩:=I.ok.has x (.inl hk)
  obtain⟨w',z⟩:=I.cell x c hc
  refine wpAny_storeName_cell I.ok.kind hk hc z (fun h' hc' hs=>?_)
  obtain⟨oc,hoc,hocd⟩:=id z
  refine h { s with heap:=h' } ⟨I.ok,I.os,I.bare,⟨fun b o e n hb hx=>?_,fun b o e n hb hx=>?_,I.base.free,fun b o e hx=>?_,I.base.tups,I.base.frzs,I.base.tbls⟩,⟨m,hn.sameBut hs (Ne.symm (cne x c hc)),fun j y v' e1 e2 e3=>?_⟩,fun y c' e=>?_,I.free,I.freeC,fun p hp=>?_,tracked ⟨oc,hoc,I.freeC x c hc⟩ hs,by simpa using I.len⟩ ⟨c,hs,.inr hc⟩
  ·exact (hs.2 b (Nat.ne_of_lt (Nat.lt_of_lt_of_le (Heap.lt_size e) (I.ok.cab x c hfn hc)))).trans (I.base.keep b o e n hb hx)
  ·obtain⟨sl,e1⟩:=I.base.slot b o e n hb hx
   exact⟨sl,(hs.2 b (Nat.ne_of_lt (Nat.lt_of_lt_of_le (Heap.lt_size e) (I.ok.cab x c hfn hc)))).trans e1⟩
  ·obtain⟨o',e1⟩:=I.base.there b o e hx
   exact⟨o',(hs.2 b (Nat.ne_of_lt (Nat.lt_of_lt_of_le (Heap.lt_size e) (I.ok.cab x c hfn hc)))).trans e1⟩
  ·by_cases hj:j=i
   ·subst hj
    rw[hi] at e1;cases e1
    rw[List.getElem?_set_self hiσ] at e2
    cases e2
    exact⟨u,r,.inr ⟨.inl hk,c,hc,hc'⟩⟩
   ·rw[List.getElem?_set_ne (Ne.symm hj)] at e2
    obtain⟨u',r',q⟩:=hl j y v' e1 e2 e3
    refine⟨u',r',?_⟩
    rcases q with q|⟨k,c',e,z'⟩
    ·exact .inl q
    ·refine .inr ⟨k,c',e,z'.sameBut hs ?_⟩
     rintro rfl
     exact hj (dh_ hN e1 (I.ok.inj _ _ _ e hc▸hi))
  ·by_cases hcc:c'=c
   ·subst hcc;exact⟨_,hc'⟩
   ·obtain⟨w2,z2⟩:=I.cell y c' e
    exact⟨w2,z2.sameBut hs hcc⟩
  ·obtain⟨e,n,ne,nf,d⟩:=I.pin p hp
   refine⟨(hs.2 p.1 ?_).trans e,n,ne,nf,d⟩
   intro q
   rw[q,hoc] at e
   have q':oc=p.2:=Option.some.inj e
   exact d w' (by rw[<- q'];exact hocd)
theorem d8_{M:Model}{A:Around}{E:Value->Shared->Prop}{i:Nat}{x:Str}{v:V}{u:Value}{Q:Unit->Shared->Prop}(I:Inv X pins σ H s)(hN:X.N.Nodup)(hi:X.N[i]? = some x)(hx:Loc X.env.scope x)(r:RelV v u)
  (h:∀s',Inv X pins (σ.set i (some v)) H s'->Q () s') (hf:X.fn x=true∨X.env.scope.names.lookup x=some .local:=by first|exact .inl rfl|exact .inr rfl|assumption):wpAny M A (storeName X.env x u) Q E s:=
 dE_ I hN hi hx r (fun s' I' _=>h s' I') hf
theorem Inv.call'{s':Shared}{ch:List Addr}(I:Inv X pins σ H s)(ho:s'.os=s.os)(u:Un (frs X.stack) ch H H' s.heap s'.heap)(hok:HOk X.prog X.w H' s'.heap)(hg:AllBare s'.gens)
  (hch:∀b∈ch,(b∈X.ex∨X.s₀.heap.objs.size<=b)/\b≠X.env.locals/\(∀x c,X.env.cells.lookup x=some c->c≠b)/\∀p∈X.pn++pins,p.1≠b):Inv X pins σ H' s':=by
 obtain⟨h',g',d',t',o'⟩:=s'
 have e:o'=s.os:=ho
 subst e
 exact I.call (g':=g') (t':=t') (d':=d') u hok hg hch
end
abbrev XK:=Value->Option Addr->Hp->Prop
abbrev St:=List (Option V)
abbrev VK:=V->Hp->Prop
abbrev TE:=St->Hp->VK->Prop
abbrev TT:=St->Hp->(Bool->Hp->Prop)->Prop
abbrev TA:=St->Hp->(List V->Hp->Prop)->Prop
structure Ends where
 nx:St->Hp->Prop
 rt:VK
 bk:St->Hp->Prop:=fun _ _=>False
 ct:St->Hp->Prop:=fun _ _=>False
abbrev TS:=Ends->St->Hp->Prop
def EP(X:Cx)(pins:List (Addr × Obj))(σ:St)(Q:VK)(u:Value)(s':Shared):Prop:=∃v H',Inv X pins σ H' s'/\RelV v u/\Q v H'
def TP(X:Cx)(pins:List (Addr × Obj))(σ:St)(Q:Bool->Hp->Prop)(b:Bool)(s':Shared):Prop:=∃H',Inv X pins σ H' s'/\Q b H'
def AP(X:Cx)(pins:List (Addr × Obj))(σ:St)(Q:List V->Hp->Prop)(us:List Value)(s':Shared):Prop:=∃vs H',Inv X pins σ H' s'/\Vals vs us/\Q vs H'
def SP(X:Cx)(pins:List (Addr × Obj))(D:Ends)(f:Flow)(s':Shared):Prop:=
 match f with
 |.next=>∃σ' H',Inv X pins σ' H' s'/\D.nx σ' H'
 |.brk=>∃σ' H',Inv X pins σ' H' s'/\D.bk σ' H'
 |.cont=>∃σ' H',Inv X pins σ' H' s'/\D.ct σ' H'
 |.ret u=>∃v σ' H',Inv X pins σ' H' s'/\RelV v u/\D.rt v H'
def PE(X:Cx)(e:Expr)(t:TE):Prop:=
 ∀(pins:List (Addr × Obj)) (s:Shared) (σ:St) (H:Hp) (Q:VK),Inv X pins σ H s->t σ H Q->wpAny (model X.prog X.w) X.A (eval e X.env) (EP X pins σ Q) X.xe s
def PT(X:Cx)(e:Expr)(t:TT):Prop:=
 ∀(pins:List (Addr × Obj)) (s:Shared) (σ:St) (H:Hp) (Q:Bool->Hp->Prop),Inv X pins σ H s->t σ H Q->wpAny (model X.prog X.w) X.A (isTrue e X.env (eval e X.env)) (TP X pins σ Q) X.xe s
def PW(X:Cx)(e:Expr)(t:TT):Prop:=
 ∀(whole:Sem Value) (pins:List (Addr × Obj)) (s:Shared) (σ:St) (H:Hp) (Q:Bool->Hp->Prop),Inv X pins σ H s->t σ H Q->wpAny (model X.prog X.w) X.A (isTrue e X.env whole) (TP X pins σ Q) X.xe s
theorem PW.pt{X:Cx}{e:Expr}{t:TT}(h:PW X e t):PT X e t:=h _
def PA(X:Cx)(es:List Expr)(t:TA):Prop:=
 ∀(pos:Pos) (pins:List (Addr × Obj)) (s:Shared) (σ:St) (H:Hp) (Q:List V->Hp->Prop),Inv X pins σ H s->t σ H Q->wpAny (model X.prog X.w) X.A (spliced (backTo pos (starEach es X.env))) (AP X pins σ Q) X.xe s
def PS(X:Cx)(st:Stmt)(t:TS):Prop:=
 ∀(pins:List (Addr × Obj)) (s:Shared) (σ:St) (H:Hp) (D:Ends),Inv X pins σ H s->t D σ H->wpAny (model X.prog X.w) X.A (exec st X.env) (SP X pins D) X.xe s
def PSs(X:Cx)(st:List Stmt)(t:TS):Prop:=
 ∀(pins:List (Addr × Obj)) (s:Shared) (σ:St) (H:Hp) (D:Ends),Inv X pins σ H s->t D σ H->wpAny (model X.prog X.w) X.A (execs st X.env) (SP X pins D) X.xe s
theorem thn{α:Type}{t:Sem α}{Q Q':α->Shared->Prop}{M:Model}{A:Around}{E:Value->Shared->Prop}{s:Shared}(h:wpAny M A t Q E s)(hQ:∀a s,Q a s->Q' a s):wpAny M A t Q' E s:=wpAny_mono h hQ fun _ _ x=>x
end L2
namespace L2
open PySem PySem.Spec PyProof.Rows
section
variable{X:Cx}
def tVar(i:Nat):TE:=fun σ H Q=>∃v,σ[i]? = some (some v)/\Q v H
def tC(v:V):TE:=fun _ H Q=>Q v H
theorem jQ_{i:Nat}{x:Str}{pos:Pos}(hN:X.N[i]? = some x)(hv:Vis X.env.scope x)(hd:(x == ("__debug__":Str))=false:=by decide)(hcd:(x == ("__classdict__":Str))=false:=by decide):PE X (.Name x pos) (tVar i):=by
 intro pins s σ H Q I h
 obtain⟨v,e,h⟩:=h
 obtain⟨m,hn,hl⟩:=I.loc
 obtain⟨u,r,l⟩:=hl i x v hN e hv
 have fin:EP X pins σ Q u s:=⟨v,H,I,r,h⟩
 rcases l with⟨hk,hm⟩|⟨hk,c,hc,hcell⟩
 ·exact wpAny_Name (wpAny_loadName_local I.ok.kind hk hn hm fin) hd
 ·rcases hk with hk|hk
  ·exact wpAny_Name (wpAny_loadName_cell I.ok.kind hk hc hcell fin) hd
  ·exact wpAny_Name (wpAny_loadName_free I.ok.kind hk hc hcell fin hcd) hd
theorem a6_{i j pos}:PE X (.Constant (.int i) j pos) (tC (.int i)):=fun _ _ _ H _ I h=>wpAny_Constant_int ⟨.int i,H,I.tok _,⟨_,rfl⟩,h⟩
theorem bu_{b j pos}:PE X (.Constant (.bool b) j pos) (tC (.bl b)):=fun _ _ _ H _ I h=>Constant_bool ⟨.bl b,H,I,rfl,h⟩
theorem ci_{j pos}:PE X (.Constant .none j pos) (tC .non):=fun _ _ _ H _ I h=>Constant_none ⟨.non,H,I,rfl,h⟩
theorem a9_{x j pos}:PE X (.Constant (.str x) j pos) (tC (.str x)):=fun _ _ _ H _ I h=>Calls.Constant_str ⟨.str x,H,I.tok _,⟨_,rfl⟩,h⟩
def Gl(X:Cx)(x:Str):Prop:=X.env.kindOf x=some .globalImplicit
theorem bJ_{E:Value->Shared->Prop}{pins:List (Addr × Obj)}{s:Shared}{σ:St}{H:Hp}{x:Str}{u:Value}{pos:Pos}{Q:Value->Shared->Prop}(I:Inv X pins σ H s)(hg:Gl X x)(hm:X.mg x=some u)(h:Q u s)
  (hd:(x == ("__debug__":Str))=false:=by decide):wpAny (model X.prog X.w) X.A (eval (.Name x pos) X.env) Q E s:=
 Calls.Name_function_global I.ok.kind hg (Calls.loadGlobal_global (by rw[I.ok.glob];exact I.mod.glob.keeps I.bk) hm h) hd
theorem dG_{E:Value->Shared->Prop}{pins:List (Addr × Obj)}{s:Shared}{σ:St}{H:Hp}{x:Str}{u:Value}{pos:Pos}{Q:Value->Shared->Prop}(I:Inv X pins σ H s)(hg:Gl X x)(hm:X.mg x=none)(hv:bootBuiltins x=some u)(h:Q u s)
  (hn:x≠"__name__":=by decide) (hd:(x == ("__debug__":Str))=false:=by decide):wpAny (model X.prog X.w) X.A (eval (.Name x pos) X.env) Q E s:=by
 obtain⟨mb,h1,h2⟩:=I.mod.blt
 exact Calls.Name_function_global I.ok.kind hg (Calls.loadGlobal_builtin (by rw[I.ok.glob];exact I.mod.glob.keeps I.bk) hm (by rw[I.ok.blt];exact h1.keeps I.bk) ((h2 x hn).trans hv) h) hd
theorem aK_{x:Str}{v:V}{u:Value}{pos:Pos}(hg:Gl X x)(hm:X.mg x=some u)(r:RelV v u)(hd:(x == ("__debug__":Str))=false:=by decide):PE X (.Name x pos) (tC v):=
 fun _ _ _ H _ I h=>bJ_ I hg hm ⟨v,H,I,r,h⟩ hd
theorem aA_{x:Str}{v:V}{u:Value}{pos:Pos}(hg:Gl X x)(hm:X.mg x=none)(hv:bootBuiltins x=some u)(r:RelV v u)(hn:x≠"__name__":=by decide)(hd:(x == ("__debug__":Str))=false:=by decide):PE X (.Name x pos) (tC v):=
 fun _ _ _ H _ I h=>dG_ I hg hm hv ⟨v,H,I,r,h⟩ hn hd
variable{a b:Expr}{ta tb:TE}{pos:Pos}
def PC(X:Cx)(op:CmpOp)(a b:Expr)(t:TE):Prop:=
 ∀(pins:List (Addr × Obj)) (s:Shared) (σ:St) (H:Hp) (Q:VK),Inv X pins σ H s->t σ H Q->
  wpAny (model X.prog X.w) X.A (eval a X.env) (fun v s₁=>wpAny (model X.prog X.w) X.A (eval b X.env) (fun u s₂=>wpAny (model X.prog X.w) X.A (compareOp op v u) (EP X pins σ Q) X.xe s₂) X.xe s₁) X.xe s
theorem nobehind(b:Expr){op:CmpOp}(h:op≠.In)(h2:op≠.NotIn):behindInMarks op b=false:=by
 have e1:(op == CmpOp.In)=false:=by cases op<;>first|rfl|exact absurd rfl h
 have e2:(op == CmpOp.NotIn)=false:=by cases op<;>first|rfl|exact absurd rfl h2
 cases b<;>simp[behindInMarks,e1,e2]
def tIsN(ta:TE):TE:=fun σ H Q=>ta σ H fun x H1=>Q (.bl (decide (x=.non))) H1
theorem RelV.none_iff{x:V}{v:Value}(r:RelV x v):(v == Value.none)=decide (x=.non):=by
 cases x with
 |non=>cases r;rfl
 |bl _=>cases r;rfl
 |int _=>obtain⟨t,rfl⟩:=r;rfl
 |str _=>obtain⟨t,rfl⟩:=r;rfl
 |byt _=>obtain⟨t,rfl⟩:=r;rfl
 |flt _=>obtain⟨t,rfl⟩:=r;rfl
 |ref _=>cases r;rfl
 |ty _=>cases r;rfl
theorem g6_{j pos'}(ha:PE X a ta):PC X .Is a (.Constant .none j pos') (tIsN ta):=by
 intro pins s σ H Q I h
 refine thn (ha pins s σ H _ I h) fun v s1 ⟨x,H1,I1,r1,q1⟩=>?_
 exact Constant_none (is_none_gen ⟨.bl _,H1,I1,by rw[r1.none_iff];rfl,q1⟩)
def tB(t:TE):TT:=fun σ H Q=>t σ H fun x H1=>∃c,x=.bl c/\Q c H1
theorem dx_{op:CmpOp}{t:TE}(h:PC X op a b t)(h1:behindInMarks op b=false:=by first|exact nobehind _ (by decide) (by decide)|rfl):PE X (.Compare a [op] [b] pos) t:=fun pins s σ H Q I hw=>wpAny_Compare1 (h pins s σ H Q I hw) h1
theorem c7_{op:CmpOp}{t:TE}(h:PC X op a b t)(h1:behindInMarks op b=false:=by first|exact nobehind _ (by decide) (by decide)|rfl):PT X (.Compare a [op] [b] pos) (tB t):=by
 intro pins s σ H Q I hw
 refine wpAny_isTrue_Compare1 (thn (h pins s σ H _ I hw) fun v s1 h1=>thn h1 fun u s2 h2=>thn h2 fun c s3 ⟨x,H1,I1,r1,q1⟩=>?_) h1
 obtain⟨d,rfl,q⟩:=q1
 cases r1
 exact wpAny_truthy_bool ⟨H1,I1,q⟩
theorem ax_{e:Expr}{t:TE}(h:PE X e t)(he:∀whole,isTrue e X.env whole=(do let v <- whole;standAt e.pos;holding [v] (truthy v)):=by intro _;rfl):PT X e (tB t):=by
 intro pins s σ H Q I hw
 refine isTrue_plain (thn (h pins s σ H _ I hw) fun v s1 ⟨x,H1,I1,r1,q1⟩=>?_) (he _)
 obtain⟨d,rfl,q⟩:=q1
 cases r1
 exact wpAny_truthy_bool ⟨H1,I1,q⟩
variable{tA tB':TT}{rest:List Expr}
def tAnd(t u:TT):TT:=fun σ H Q=>t σ H fun c H1=>if c=true then u σ H1 Q else Q false H1
def tOr(t u:TT):TT:=fun σ H Q=>t σ H fun c H1=>if c=true then Q true H1 else u σ H1 Q
def tNot(t:TT):TT:=fun σ H Q=>t σ H fun c H1=>Q (!c) H1
theorem j6_(ha:PT X a tA):PW X (.BoolOp .And [a] pos) tA:=by
 intro wh pins s σ H Q I h
 refine isTrue_and (thn (ha pins s σ H Q I h) fun c s1 e=>?_)
 cases c with
 |true=>exact isTrue_and_nil e
 |false=>exact e
theorem d5_(ha:PT X a tA):PW X (.BoolOp .Or [a] pos) tA:=by
 intro wh pins s σ H Q I h
 refine isTrue_or (thn (ha pins s σ H Q I h) fun c s1 e=>?_)
 cases c with
 |false=>exact isTrue_or_nil e
 |true=>exact e
theorem jr_(ha:PT X a tA)(hb:PW X (.BoolOp .And (b::rest) pos) tB'):PW X (.BoolOp .And (a::b::rest) pos) (tAnd tA tB'):=by
 intro wh pins s σ H Q I h
 refine isTrue_and (thn (ha pins s σ H _ I h) fun c s1 ⟨H1,I1,q1⟩=>?_)
 cases c with
 |true=>exact hb wh pins s1 σ H1 Q I1 q1
 |false=>exact⟨H1,I1,q1⟩
theorem f0_(ha:PT X a tA)(hb:PW X (.BoolOp .Or (b::rest) pos) tB'):PW X (.BoolOp .Or (a::b::rest) pos) (tOr tA tB'):=by
 intro wh pins s σ H Q I h
 refine isTrue_or (thn (ha pins s σ H _ I h) fun c s1 ⟨H1,I1,q1⟩=>?_)
 cases c with
 |true=>exact⟨H1,I1,q1⟩
 |false=>exact hb wh pins s1 σ H1 Q I1 q1
theorem av_(ha:PT X a tA):PT X (.UnaryOp .Not a pos) (tNot tA):=by
 intro pins s σ H Q I h
 exact isTrue_not (ha pins s σ H (fun c H1=>Q (!c) H1) I h)
def tAndV(ta tb:TE):TE:=fun σ H Q=>ta σ H fun x H1=>∃c,x=.bl c/\if c=true then tb σ H1 Q else Q (.bl false) H1
def tOrV(ta tb:TE):TE:=fun σ H Q=>ta σ H fun x H1=>∃c,x=.bl c/\if c=true then Q (.bl true) H1 else tb σ H1 Q
def tNotV(ta:TE):TE:=fun σ H Q=>ta σ H fun x H1=>∃c,x=.bl c/\Q (.bl (!c)) H1
theorem aO_{op}{t:TE}(h:PE X a t):PE X (.BoolOp op [a] pos) t:=fun pins s σ H Q I hw=>BoolOp_one (h pins s σ H Q I hw)
theorem aX_(ha:PE X a ta)(hb:PE X (.BoolOp .And (b::rest) pos) tb):PE X (.BoolOp .And (a::b::rest) pos) (tAndV ta tb):=by
 intro pins s σ H Q I h
 refine BoolOp_and (thn (ha pins s σ H _ I h) fun v s1 ⟨x,H1,I1,r1,q1⟩=>?_)
 obtain⟨c,rfl,q1⟩:=q1
 cases r1
 refine wpAny_truthy_bool ?_
 cases c with
 |true=>exact hb pins s1 σ H1 Q I1 q1
 |false=>exact⟨.bl false,H1,I1,rfl,q1⟩
theorem iL_(ha:PE X a ta)(hb:PE X (.BoolOp .Or (b::rest) pos) tb):PE X (.BoolOp .Or (a::b::rest) pos) (tOrV ta tb):=by
 intro pins s σ H Q I h
 refine BoolOp_or (thn (ha pins s σ H _ I h) fun v s1 ⟨x,H1,I1,r1,q1⟩=>?_)
 obtain⟨c,rfl,q1⟩:=q1
 cases r1
 refine wpAny_truthy_bool ?_
 cases c with
 |false=>exact hb pins s1 σ H1 Q I1 q1
 |true=>exact⟨.bl true,H1,I1,rfl,q1⟩
theorem eV_(ha:PE X a ta):PE X (.UnaryOp .Not a pos) (tNotV ta):=by
 intro pins s σ H Q I h
 refine UnaryOp_ (thn (ha pins s σ H _ I h) fun v s1 ⟨x,H1,I1,r1,q1⟩=>?_)
 obtain⟨c,rfl,q1⟩:=q1
 cases r1
 exact not_of (wpAny_truthy_bool ⟨.bl (!c),H1,I1,rfl,q1⟩)
def tIf(t:TT)(ta tb:TE):TE:=fun σ H Q=>t σ H fun c H1=>if c=true then ta σ H1 Q else tb σ H1 Q
theorem hF_{c:Expr}(hc:PT X c tA)(ha:PE X a ta)(hb:PE X b tb):PE X (.IfExp c a b pos) (tIf tA ta tb):=by
 intro pins s σ H Q I h
 refine wpAny_IfExp (thn (hc pins s σ H _ I h) fun d s1 ⟨H1,I1,q1⟩=>?_)
 cases d with
 |true=>exact ha pins s1 σ H1 Q I1 q1
 |false=>exact hb pins s1 σ H1 Q I1 q1
end
end L2
namespace L2
open PySem PySem.Spec PyProof.Rows
def SqL(K:PySem.W.Frag)(H:Hp)(a:Addr)(xs:List V):Prop:=
 Rd H a (.lst xs) ∨
  ∃(o:Obj) (its:Array Value) (n:Nat),K.lookup a=some o/\o.cls=.type "list"/\o.dict=none/\o.data=.seq its n/\its.size<=sizeLine/\Vals xs its.toList
def SqT(K:PySem.W.Frag)(H:Hp)(a:Addr)(xs:List V):Prop:=
 Rd H a (.tup xs) ∨
  ∃(o:Obj) (its:Array Value) (n:Nat),K.lookup a=some o/\o.cls=.type "tuple"/\o.data=.seq its n/\its.size<=sizeLine/\Vals xs its.toList
def absV:Value->Option V
 |.none=>some .non
 |.bool b=>some (.bl b)
 |.int i _=>some (.int i)
 |.str x _=>some (.str x)
 |.bytes b _=>some (.byt b)
 |.float b _=>some (.flt b)
 |.ref a=>some (.ref a)
 |.type n=>some (.ty n)
 |_=>none
theorem RelV.abs{x:V}{u:Value}(r:RelV x u):absV u=some x:=by
 cases x with
 |non=>cases r;rfl
 |bl _=>cases r;rfl
 |int _=>obtain⟨t,rfl⟩:=r;rfl
 |str _=>obtain⟨t,rfl⟩:=r;rfl
 |byt _=>obtain⟨t,rfl⟩:=r;rfl
 |flt _=>obtain⟨t,rfl⟩:=r;rfl
 |ref _=>cases r;rfl
 |ty _=>cases r;rfl
theorem RelV.inj{x y:V}{u:Value}(r:RelV x u)(q:RelV y u):x=y:=Option.some.inj (r.abs.symm.trans q.abs)
theorem Vals.inj:∀{xs ys:List V} {us:List Value},Vals xs us->Vals ys us->xs=ys
 |_,_,_,.nil,.nil=>rfl
 |_,_,_,.cons r t,.cons r' t'=>by rw[r.inj r',Vals.inj t t']
section
variable{X:Cx}{pins:List (Addr × Obj)}{σ:St}{H:Hp}{s:Shared}{a:Addr}{xs ys:List V}
theorem SqL.of{K:PySem.W.Frag}(h:H a=some (.lst xs)):SqL K H a xs:=.inl (.inl h)
theorem SqT.of{K:PySem.W.Frag}(h:H a=some (.tup xs)):SqT K H a xs:=.inl (.inl h)
theorem Inv.list(I:Inv X pins σ H s)(h:SqL X.K H a xs):∃its:List Value,Vals xs its/\PlainL s.heap a its.toArray/\xs.length<=sizeLine:=by
 rcases h with h|⟨o,its,n,hk,hc,hd,hs,hz,r⟩
 ·obtain⟨z,its,n,r,e⟩:=h.ok I.hok
  exact⟨its,r,⟨_,n,e,rfl,rfl,rfl⟩,z⟩
 ·refine⟨its.toList,r,⟨o,n,I.kIn a o hk,hc,hd,by simpa using hs⟩,?_⟩
  have e:=r.length
  simp only[Array.length_toList] at e
  omega
theorem Inv.tuple(I:Inv X pins σ H s)(h:SqT X.K H a xs):∃its:List Value,Vals xs its/\IsTup s.heap a its.toArray/\xs.length<=sizeLine:=by
 rcases h with h|⟨o,its,n,hk,hc,hs,hz,r⟩
 ·obtain⟨z,its,r,p,_⟩:=h.ok I.hok
  exact⟨its,r,p,z⟩
 ·refine⟨its.toList,r,⟨o,I.kIn a o hk,hc,n,by simpa using hs⟩,?_⟩
  have e:=r.length
  simp only[Array.length_toList] at e
  omega
theorem Inv.list_inj(I:Inv X pins σ H s)(h:SqL X.K H a xs)(h':SqL X.K H a ys):xs=ys:=by
 obtain⟨its,r,⟨o,n,e,_,_,d⟩,_⟩:=I.list h
 obtain⟨its',r',⟨o',n',e',_,_,d'⟩,_⟩:=I.list h'
 rw[e] at e';cases e'
 rw[d] at d'
 injection d' with d1 _
 have:its=its':=by simpa using congrArg Array.toList d1
 subst this
 exact r.inj r'
theorem Inv.tuple_inj(I:Inv X pins σ H s)(h:SqT X.K H a xs)(h':SqT X.K H a ys):xs=ys:=by
 obtain⟨its,r,⟨o,e,_,n,d⟩,_⟩:=I.tuple h
 obtain⟨its',r',⟨o',e',_,n',d'⟩,_⟩:=I.tuple h'
 rw[e] at e';cases e'
 rw[d] at d'
 injection d' with d1 _
 have:its=its':=by simpa using congrArg Array.toList d1
 subst this
 exact r.inj r'
end
abbrev Cx.wish(X:Cx)(E:Value->Shared->Prop):Cx:={ X with xe:=E }
abbrev Cx.nox(X:Cx):Cx:=X.wish fun _ _=>False
theorem Cx.Ok.wish{X:Cx}(ok:X.Ok)(E:Value->Shared->Prop):(X.wish E).Ok:=
 ⟨ok.mod,ok.kind,ok.glob,ok.blt,ok.above,ok.inj,ok.has,ok.cab,ok.hd,ok.frames,ok.stk,ok.exf,ok.bs,ok.bsz,ok.noex,ok.exfs,ok.funs,ok.frf⟩
theorem Cx.Ok.unwish{X:Cx}{E:Value->Shared->Prop}(ok:(X.wish E).Ok):X.Ok:=
 ⟨ok.mod,ok.kind,ok.glob,ok.blt,ok.above,ok.inj,ok.has,ok.cab,ok.hd,ok.frames,ok.stk,ok.exf,ok.bs,ok.bsz,ok.noex,ok.exfs,ok.funs,ok.frf⟩
section
variable{X:Cx}{pins:List (Addr × Obj)}{σ:St}{H:Hp}{s:Shared}{E:Value->Shared->Prop}
theorem Inv.wish(I:Inv X pins σ H s)(E:Value->Shared->Prop):Inv (X.wish E) pins σ H s:=⟨I.ok.wish E,I.os,I.bare,I.base,I.loc,I.cell,I.free,I.freeC,I.pin,I.hok,I.len⟩
theorem Inv.unwish(I:Inv (X.wish E) pins σ H s):Inv X pins σ H s:=⟨I.ok.unwish,I.os,I.bare,I.base,I.loc,I.cell,I.free,I.freeC,I.pin,I.hok,I.len⟩
theorem SP.unwish{D:Ends}{f:Flow}{s':Shared}(h:SP (X.wish E) pins D f s'):SP X pins D f s':=by
 cases f with
 |next=>obtain⟨σ',H',I,q⟩:=h;exact⟨σ',H',I.unwish,q⟩
 |brk=>obtain⟨σ',H',I,q⟩:=h;exact⟨σ',H',I.unwish,q⟩
 |cont=>obtain⟨σ',H',I,q⟩:=h;exact⟨σ',H',I.unwish,q⟩
 |ret u=>obtain⟨v,σ',H',I,r,q⟩:=h;exact⟨v,σ',H',I.unwish,r,q⟩
theorem PSs.nox{st:List Stmt}{t:TS}(h:PSs X.nox st t):PSs X st t:=fun pins s σ H D I hw=>
 wpAny_mono (h pins s σ H D (I.wish _) hw) (fun _ _ q=>q.unwish) fun _ _ z=>False.elim z
end
section
variable{X:Cx}{st:Stmt}{rest:List Stmt}{t u:TS}{e:Expr}{te:TE}{pos:Pos}
def tNext:TS:=fun D σ H=>D.nx σ H
def tSeq(t u:TS):TS:=fun D σ H=>t { D with nx:=u D } σ H
theorem ac_:PSs X [] tNext:=fun _ _ σ H _ I h=>wpAny_execs_nil ⟨σ,H,I,h⟩
theorem a2_(h1:PS X st t)(h2:PSs X rest u):PSs X (st::rest) (tSeq t u):=by
 intro pins s σ H D I h
 refine wpAny_execs_cons (thn (h1 pins s σ H { D with nx:=u D } I h) fun f s1 q=>?_)
 cases f with
 |next=>
  obtain⟨σ',H',I',q⟩:=q
  exact h2 pins s1 σ' H' D I' q
 |ret v=>exact q
 |brk=>exact q
 |cont=>exact q
theorem a4_(h1:PS X st t):PSs X [st] t:=by
 intro pins s σ H D I h
 refine wpAny_execs_cons (thn (h1 pins s σ H D I h) fun f s1 q=>?_)
 cases f with
 |next=>exact wpAny_execs_nil q
 |ret v=>exact q
 |brk=>exact q
 |cont=>exact q
theorem Inv.quiet{pins:List (Addr × Obj)}{σ:St}{H:Hp}{s:Shared}(I:Inv X pins σ H s):interactive X.env=false:=by simp[interactive,I.ok.kind]
def tDrop(te:TE):TS:=fun D σ H=>te σ H fun _ H1=>D.nx σ H1
theorem b5_(he:PE X e te)(hs:swapsWith e none pos.line X.env=pure false:=by rfl):PS X (.Expr e pos) (tDrop te):=by
 intro pins s σ H D I h
 exact wpAny_Expr_any (thn (he pins s σ H _ I h) fun v s1 ⟨x,H1,I1,r1,q1⟩=>⟨σ,H1,I1,q1⟩) I.quiet hs
def tRet(te:TE):TS:=fun D σ H=>te σ H D.rt
theorem aa_(he:PE X e te):PS X (.Return (some e) pos) (tRet te):=by
 intro pins s σ H D I h
 exact wpAny_Return_some (thn (he pins s σ H _ I h) fun v s1 ⟨x,H1,I1,r1,q1⟩=>⟨x,σ,H1,I1,r1,q1⟩)
def tIfS(c:TT)(t u:TS):TS:=fun D σ H=>c σ H fun b H1=>if b=true then t D σ H1 else u D σ H1
theorem ak_{c:Expr}{a b:List Stmt}{tc:TT}(hc:PT X c tc)(ha:PSs X a t)(hb:PSs X b u):PS X (.If c a b pos) (tIfS tc t u):=by
 intro pins s σ H D I h
 refine wpAny_If (thn (hc pins s σ H _ I h) fun d s1 ⟨H1,I1,q1⟩=>?_)
 cases d with
 |true=>exact ha pins s1 σ H1 D I1 q1
 |false=>exact hb pins s1 σ H1 D I1 q1
def tNever:TS:=fun _ _ _=>False
theorem do_:PS X st tNever:=fun _ _ _ _ _ _ h=>h.elim
theorem ad_{sts:List Stmt}:PSs X sts tNever:=fun _ _ _ _ _ _ h=>h.elim
end
abbrev TG:=V->St->Hp->(St->Hp->Prop)->Prop
abbrev TGs:=List V->St->Hp->(St->Hp->Prop)->Prop
def PG(X:Cx)(target:Expr)(t:TG):Prop:=
 ∀(pins:List (Addr × Obj)) (s:Shared) (σ:St) (H:Hp) (v:V) (u:Value) (Q:St->Hp->Prop),Inv X pins σ H s->RelV v u->t v σ H Q->
  wpAny (model X.prog X.w) X.A (assign target X.env u) (fun _ s'=>∃σ' H',Inv X pins σ' H' s'/\Q σ' H') X.xe s
def PGs(X:Cx)(ts:List Expr)(t:TGs):Prop:=
 ∀(pins:List (Addr × Obj)) (s:Shared) (σ:St) (H:Hp) (vs:List V) (us:List Value) (Q:St->Hp->Prop),Inv X pins σ H s->Vals vs us->t vs σ H Q->
  wpAny (model X.prog X.w) X.A (assignInOrder ((assignEach ts X.env).map (·.2)) us) (fun _ s'=>∃σ' H',Inv X pins σ' H' s'/\Q σ' H') X.xe s
abbrev TSet:=V->V->V->Hp->(Hp->Prop)->Prop
def PSet(X:Cx)(t:TSet):Prop:=
 ∀(pins:List (Addr × Obj)) (s:Shared) (σ:St) (H:Hp) (o i v:V) (ov iv u:Value) (Q:Hp->Prop),Inv X pins σ H s->RelV o ov->RelV i iv->RelV v u->t o i v H Q->
  wpAny (model X.prog X.w) X.A (setItem ov iv u) (fun _ s'=>∃H',Inv X pins σ H' s'/\Q H') X.xe s
section
variable{X:Cx}{pos:Pos}
def gName(i:Nat):TG:=fun v σ H Q=>Q (σ.set i (some v)) H
theorem ae_{i:Nat}{x:Str}(hN:X.N.Nodup)(hi:X.N[i]? = some x)(hx:Loc X.env.scope x)(hf:X.fn x=true∨X.env.scope.names.lookup x=some .local:=by first|exact .inl rfl|exact .inr rfl|assumption):PG X (.Name x pos) (gName i):=by
 intro pins s σ H v u Q I r h
 exact wpAny_assign_Name (d8_ I hN hi hx r (fun s' I'=>⟨_,H,I',h⟩) hf)
def gNil:TGs:=fun vs σ H Q=>vs=[]/\Q σ H
def gCons(t:TG)(u:TGs):TGs:=fun vs σ H Q=>∃v r,vs=v::r/\t v σ H fun σ' H'=>u r σ' H' Q
theorem b3_:PGs X [] gNil:=by
 intro pins s σ H vs us Q I r h
 obtain⟨e,h⟩:=h
 subst e
 cases r
 exact assignInOrder_nil ⟨σ,H,I,h⟩
theorem aj_{e:Expr}{es:List Expr}{t:TG}{u:TGs}(h1:PG X e t)(h2:PGs X es u)
  (hs:(assignEach (e::es) X.env).map (·.2)=assign e X.env::(assignEach es X.env).map (·.2):=by rfl):PGs X (e::es) (gCons t u):=by
 intro pins s σ H vs us Q I r h
 obtain⟨v,vr,e1,h⟩:=h
 subst e1
 cases r with
 |cons r rr=>
  rw[hs]
  refine assignInOrder_cons (thn (h1 pins s σ H _ _ _ I r h) fun _ s1 ⟨σ1,H1,I1,q1⟩=>?_)
  exact h2 pins s1 σ1 H1 _ _ Q I1 rr q1
def gTup(K:PySem.W.Frag)(n:Nat)(t:TGs):TG:=fun v σ H Q=>∃a xs,v=.ref a/\SqT K H a xs/\xs.length=n/\t xs σ H Q
theorem c5_{es:List Expr}{k:Nat}{t:TGs}{n:Nat}(hc:X.calm=true)(h:PGs X es t)
  (hn:(assignEach es X.env).length=n:=by rfl) (hst:(assignEach es X.env).findIdx? (·.1)=none:=by rfl):PG X (.Tuple es k pos) (gTup X.K n t):=by
 intro pins s σ H v u Q I r hw
 obtain⟨a,xs,e1,hq,hl,hw⟩:=hw
 subst e1
 cases r
 obtain⟨its,rv,ht,hz⟩:=I.tuple hq
 refine assign_Tuple_tuple (I.ok.hd hc) ht (by simp[hn,<- hl,rv.length]) hst fun h' hx=>?_
 have I1:Inv X pins σ H { s with heap:=h' }:=I.kept (t':=s.toks) fun b o e=>hx b o (Nat.ne_of_lt (Heap.lt_size e)) e
 exact h pins _ σ H xs _ Q I1 (by simpa using rv) hw
def gSub(to ti:TE)(t:TSet):TG:=fun v σ H Q=>to σ H fun o H1=>ti σ H1 fun i H2=>t o i v H2 fun H3=>Q σ H3
theorem ik_{o i:Expr}{to ti:TE}{t:TSet}(ho:PE X o to)(hi:PE X i ti)(hs:PSet X t)
  (ha:∀v,assign (.Subscript o i pos) X.env v=(do
   let ov <- holding [v] (eval o X.env)
   let iv <- holding [v,ov] (eval i X.env)
   standAt pos
   holding [v,ov,iv] (setItem ov iv v)
   release [v,ov,iv] []):=by intro _;rfl):PG X (.Subscript o i pos) (gSub to ti t):=by
 intro pins s σ H v u Q I r h
 rw[ha]
 refine wpAny_bind (wpAny_holding (thn (ho pins s σ H _ I h) fun ov s1 ⟨x,H1,I1,r1,q1⟩=>?_))
 refine wpAny_bind (wpAny_holding (thn (hi pins s1 σ H1 _ I1 q1) fun iv s2 ⟨y,H2,I2,r2,q2⟩=>?_))
 refine wpAny_bind (wpAny_standAt (wpAny_bind (wpAny_holding (thn (hs pins s2 σ H2 x y v ov iv u _ I2 r1 r2 r q2) fun _ s3 ⟨H3,I3,q3⟩=>?_))))
 exact wpAny_release ⟨σ,H3,I3,q3⟩
def tAsg(te:TE)(g:TG):TS:=fun D σ H=>te σ H fun x H1=>g x σ H1 D.nx
theorem ig_{tg e:Expr}{te:TE}{g:TG}(he:PE X e te)(hg:PG X tg g)(hs:swapsWithSole [tg] e pos.line X.env=pure false:=by rfl)(hw:swappedStores [tg] e X.env=pure none:=by rfl)
  (h1:(assignEach [tg] X.env).map (·.2)=[assign tg X.env]:=by rfl):PS X (.Assign [tg] e pos) (tAsg te g):=by
 intro pins s σ H D I h
 refine wpAny_Assign_stores (thn (he pins s σ H _ I h) fun v s1 ⟨x,H1,I1,r1,q1⟩=>?_) hs hw
 rw[h1]
 exact thn (hg pins s1 σ H1 x v _ I1 r1 q1) fun _ s2 q=>q
theorem ab_{i:Nat}{x:Str}{e:Expr}{te:TE}{pos':Pos}(hN:X.N.Nodup)(hi:X.N[i]? = some x)(hx:Loc X.env.scope x)(he:PE X e te)(hs:swapsWith e (some (.Name x pos')) pos.line X.env=pure false:=by rfl)(hf:X.fn x=true∨X.env.scope.names.lookup x=some .local:=by first|exact .inl rfl|exact .inr rfl|assumption) :
  PS X (.Assign [.Name x pos'] e pos) (tAsg te (gName i)):=by
 intro pins s σ H D I h
 refine wpAny_Assign_Name (thn (he pins s σ H _ I h) fun v s1 ⟨y,H1,I1,r1,q1⟩=>?_) hs
 exact d8_ I1 hN hi hx r1 (fun s2 I2=>⟨_,H1,I2,q1⟩) hf
end
section
variable{X:Cx}{pos:Pos}
def tWhile(c:TT)(tb:TS):TS:=fun D σ H=>∃W:Nat->St->Hp->Prop,(∃m,W m σ H)/\∀m σ H,W m σ H->
 c σ H fun b H1=>if b=true then ∃N:St->Hp->Prop,(∀σ' H',N σ' H'->∃m',m'<m/\W m' σ' H')/\tb { D with nx:=N,ct:=N,bk:=D.nx } σ H1 else D.nx σ H1
theorem hI_{c:Expr}{body:List Stmt}{tc:TT}{tb:TS}(hp:PassesOwn (model X.prog X.w) X.A X.env X.xe)(hc:PT X c tc)(hb:PSs X body tb):PS X (.While c body [] pos) (tWhile tc tb):=by
 intro pins s σ H D I h
 obtain⟨W,⟨m0,w0⟩,turn⟩:=h
 refine wpAny_While (codeAny_whileLoop (fun n s'=>∃σ' H',Inv X pins σ' H' s'/\W n σ' H') ?_ m0 ⟨σ,H,I,w0⟩)
 rintro n s1 ⟨σ1,H1,I1,w1⟩
 refine wpAny_passesOwn hp (thn (hc pins s1 σ1 H1 _ I1 (turn n σ1 H1 w1)) fun b s2 ⟨H2,I2,q2⟩=>?_)
 cases b with
 |true=>
  obtain⟨N,hN,q2⟩:=q2
  rw[if_pos rfl]
  refine wpAny_passesOwn hp (thn (hb pins s2 σ1 H2 _ I2 q2) fun f s3 q3=>?_)
  cases f with
  |next=>
   obtain⟨σ3,H3,I3,n3⟩:=q3
   obtain⟨m',hm,w3⟩:=hN σ3 H3 n3
   exact⟨m',hm,σ3,H3,I3,w3⟩
  |cont=>
   obtain⟨σ3,H3,I3,n3⟩:=q3
   obtain⟨m',hm,w3⟩:=hN σ3 H3 n3
   exact⟨m',hm,σ3,H3,I3,w3⟩
  |brk=>exact q3
  |ret v=>exact q3
 |false=>
  rw[if_neg Bool.false_ne_true]
  exact wpAny_execs_nil ⟨σ1,H2,I2,q2⟩
end
structure It where
 go:Nat->Hp->Prop
 yld:Nat->Hp->V->Hp->Prop
 stop:Nat->Hp->Prop
def FpOk(X:Cx)(pins:List (Addr × Obj))(H:Hp)(b:Addr):Prop:=
 H b=none/\b≠X.env.locals/\b∉X.fs/\(b∈X.ex∨X.s₀.heap.objs.size<=b)/\(∀x c,X.env.cells.lookup x=some c->c≠b)/\∀p∈X.pn++pins,p.1≠b
theorem Inv.fpOk{X:Cx}{pins:List (Addr × Obj)}{σ:St}{H H':Hp}{s:Shared}{b:Addr}(I:Inv X pins σ H s)(hb:s.heap.objs.size<=b)(hn:H' b=none):FpOk X pins H' b:=by
 refine⟨hn,Nat.ne_of_gt (Nat.lt_of_lt_of_le I.lt hb),I.nofs hb,.inr (Nat.le_trans I.sz hb),fun x c e z=>?_,fun p hp z=>?_⟩
 ·obtain⟨v,q⟩:=I.cell x c e
  exact absurd (Nat.lt_of_lt_of_le q.lt (by rw[z];exact hb)) (Nat.lt_irrefl _)
 ·exact absurd (Nat.lt_of_lt_of_le (Heap.lt_size (I.pin p hp).1) (by rw[z];exact hb)) (Nat.lt_irrefl _)
structure Turn (P:Program) (w:World) (K:PySem.W.Frag) (tg:Expr) (J:It) (fp:List Addr) (it:Addr) (tn:Nat->Heap->Prop):Prop where
 mem:it∈fp
 obj:∀i h,tn i h->∀b∈fp,∃o,h.get? b=some o/\∀v,o.data≠.cell v
 keep:∀i h h',tn i h->(∀b∈fp,∀o,h.get? b=some o->h'.get? b=some o)->tn i h'
 item:∀(X:Cx),X.prog=P->X.w=w->X.K=K->X.calm=true->∀(i:Nat) (pins:List (Addr × Obj)) (s:Shared) (σ:St) (H:Hp) (E:Value->Shared->Prop),Inv X pins σ H s->(∀b∈fp,FpOk X pins H b)->tn i s.heap->J.go i H->
  wpAny (model P w) X.A (pyNext (.ref it)) (fun r s1=>∃u,r=some u /\
   wpAny (model P w) X.A (letOwnedTupleGo tg (.ref it) u) (fun _ s2=>∃x H',Inv X pins σ H' s2/\RelV x u/\J.yld i H x H'/\tn (i+1) s2.heap/\∀b∈fp,H' b=none) E s1) E s
 done:∀(X:Cx),X.prog=P->X.w=w->X.K=K->X.calm=true->∀(i:Nat) (pins:List (Addr × Obj)) (s:Shared) (σ:St) (H:Hp) (E:Value->Shared->Prop),Inv X pins σ H s->(∀b∈fp,FpOk X pins H b)->tn i s.heap->J.stop i H->
  wpAny (model P w) X.A (pyNext (.ref it)) (fun r s1=>r=none/\Inv X pins σ H s1) E s
 self:∀(A:Around) (i:Nat) (s:Shared) (Q:Value->Shared->Prop) (E:Value->Shared->Prop),tn i s.heap->Q (.ref it) s->wpAny (model P w) A (pyIter (.ref it)) Q E s
abbrev TI:=St->Hp->(It->Hp->Prop)->Prop
def PIE(X:Cx)(pins:List (Addr × Obj))(σ:St)(tg:Expr)(R:It->Hp->Prop)(itv:Value)(s2:Shared):Prop:=
 ∃(it:Addr) (fp:List Addr) (tn:Nat->Heap->Prop) (J:It) (H':Hp),itv=.ref it/\Inv X pins σ H' s2/\Turn X.prog X.w X.K tg J fp it tn/\tn 0 s2.heap/\(∀b∈fp,FpOk X pins H' b)/\R J H'
def PI(X:Cx)(tg iter:Expr)(wi:TI):Prop:=
 ∀(pins:List (Addr × Obj)) (s:Shared) (σ:St) (H:Hp) (R:It->Hp->Prop),Inv X pins σ H s->wi σ H R->
  wpAny (model X.prog X.w) X.A (eval iter X.env) (fun v s1=>wpAny (model X.prog X.w) X.A (pyIter v) (PIE X pins σ tg R) X.xe s1) X.xe s
theorem gk_{M:Model}{A:Around}{E:Value->Shared->Prop}{s:Shared}{tg:Expr}{it:Addr}{u:Value}{o:Obj}{n:String}{vs:Array Value}{Q:Unit->Shared->Prop}(ho:s.heap.get? it=some o)(hc:o.cls=.type n)(hd:o.data=.fields vs)
  (hn:["enumerate","zip","dict_itemiterator","dict_reverseitemiterator","odict_iterator","itertools.zip_longest","itertools.pairwise"].contains n=false) (hQ:Q () s):wpAny M A (letOwnedTupleGo tg (.ref it) u) Q E s:=by
 unfold letOwnedTupleGo
 cases tg<;>first
  |exact wpAny_pure hQ
  |(cases u<;>first
    |exact wpAny_pure hQ
    |(refine wpAny_bind (wpAny_load ho ?_)
      rw[hc,hd]
      show wpAny M A (if (["enumerate","zip","dict_itemiterator","dict_reverseitemiterator","odict_iterator","itertools.zip_longest","itertools.pairwise"].contains n&&vs[0]? == some (rawInt _))=true then _ else _) Q E s
      rw[if_neg (by intro h;rw[hn,Bool.false_and] at h;cases h)]
      exact wpAny_pure hQ))
def Itl(K:PySem.W.Frag)(a:Addr):It:=
 ⟨fun i H=>∃xs x,SqL K H a xs/\xs[i]? = some x,fun i H x H'=>H'=H/\∀xs,SqL K H a xs->xs[i]? = some x,fun i H=>∃xs,SqL K H a xs/\xs.length<=i⟩
def Itr(lo:Int)(n:Nat):It:=⟨fun i _=>i<n,fun i H x H'=>H'=H/\x=.int (lo+i),fun i _=>n<=i⟩
theorem fp_{P:Program}{w:World}{K:PySem.W.Frag}{tg:Expr}(a it:Addr):Turn P w K tg (Itl K a) [it] it (fun i h=>h.IsListIter it a i) where
 mem:=by simp
 obj:=fun i h st b hb=>by
  have e:b=it:=by simpa using hb
  subst e
  obtain⟨o,e,c,d⟩:=st
  exact⟨o,e,fun v z=>by rw[d] at z;cases z⟩
 keep:=fun i h h' st k=>st.at fun o e=>k it (by simp) o e
 item:=by
  intro X hP hw hK hc i pins s σ H E I hf st hg
  subst hP hw hK
  obtain⟨xs,x,hq,hx⟩:=hg
  obtain⟨its,rv,p,hz⟩:=I.list hq
  obtain⟨u,hu,ru⟩:=rv.get hx
  obtain⟨f0,f1,f2,f3,f4,f5⟩:=hf it (by simp)
  refine wpAny_pyNext_list_item st p.isList (x:=u) (by simpa using hu) fun h' st' sb=>?_
  have I1:Inv X pins σ H { s with heap:=h' }:=I.turned (t':=s.toks) (fun b o hb e=>(sb.2 b hb).trans e) f0 f1 f3 f4 f5
  obtain⟨o,e,c,d⟩:=id st'
  exact⟨u,rfl,gk_ (s:={ s with heap:=h' }) e c d (by decide) ⟨x,H,I1,ru,⟨rfl,fun ys hy=>by rw[I.list_inj hy hq];exact hx⟩,st',fun b hb=>(hf b hb).1⟩⟩
 done:=by
  intro X hP hw hK hc i pins s σ H E I hf st hg
  subst hP hw hK
  obtain⟨xs,hq,hx⟩:=hg
  obtain⟨its,rv,p,hz⟩:=I.list hq
  obtain⟨f0,f1,f2,f3,f4,f5⟩:=hf it (by simp)
  have hl:=rv.length
  exact wpAny_pyNext_list_end (I.ok.hd hc) st p.isList (by simp;omega) fun h' eb=>⟨rfl,I.turned (t':=s.toks) (fun b o hb e=>eb b o hb e) f0 f1 f3 f4 f5⟩
 self:=fun _ _ _ _ _ st h=>wpAny_pyIter_listiter st h
theorem f8_{P:Program}{w:World}{K:PySem.W.Frag}{tg:Expr}(it:Addr)(lo:Int)(n:Nat):Turn P w K tg (Itr lo n) [it] it (fun i h=>IsRangeIter h it (lo+(i:Nat) * 1) ((n:Int) - (i:Nat)) 1) where
 mem:=by simp
 obj:=fun i h st b hb=>by
  have e:b=it:=by simpa using hb
  subst e
  exact⟨_,st,fun v z=>by
   have z':Data.fields _=Data.cell v:=z
   cases z'⟩
 keep:=fun i h h' st k=>k it (by simp) _ st
 item:=by
  intro X hP hw hK hc i pins s σ H E I hf st hg
  subst hP hw hK
  obtain⟨f0,f1,f2,f3,f4,f5⟩:=hf it (by simp)
  have W:=Walks.range (prog:=X.prog) (w:=X.w) (I.ok.hd hc) it lo 1 n
  refine W.item i s _ _ hg st fun v h' tk hv st' kk=>?_
  obtain⟨t,rfl⟩:=hv
  have I1:Inv X pins σ H { s with heap:=h',toks:=tk }:=I.turned (fun b o hb e=>kk b o (by simpa using hb) e) f0 f1 f3 f4 f5
  refine⟨_,rfl,gk_ (s:={ s with heap:=h',toks:=tk }) (n:="range_iterator") st' rfl rfl (by decide) ⟨.int (lo+i),H,I1,⟨t,?_⟩,⟨rfl,rfl⟩,st',fun b hb=>(hf b hb).1⟩⟩
  rw[Int.mul_one]
 done:=by
  intro X hP hw hK hc i pins s σ H E I hf st hg
  subst hP hw hK
  obtain⟨f0,f1,f2,f3,f4,f5⟩:=hf it (by simp)
  exact wpAny_pyNext_range_end (I.ok.hd hc) st (by have:n<=i:=hg;omega) fun h' eb=>⟨rfl,I.turned (t':=s.toks) (fun b o hb e=>eb b o hb e) f0 f1 f3 f4 f5⟩
 self:=fun _ _ _ _ _ st h=>wpAny_pyIter_rangeiter st h
end L2
namespace L2
open PySem PySem.Spec PyProof.Rows
section
variable{X:Cx}{tg:Expr}
def iList(K:PySem.W.Frag)(tl:TE):TI:=fun σ H R=>tl σ H fun x H1=>∃a,x=.ref a/\(∃xs,SqL K H1 a xs)/\R (Itl K a) H1
theorem au_{l:Expr}{tl:TE}(hl:PE X l tl):PI X tg l (iList X.K tl):=by
 intro pins s σ H R I h
 refine thn (hl pins s σ H _ I h) fun v s1 ⟨x,H1,I1,r1,q1⟩=>?_
 obtain⟨a,e,⟨xs,hq⟩,q⟩:=q1
 subst e
 cases r1
 obtain⟨its,rv,p,hz⟩:=I1.list hq
 refine wpAny_pyIter_list p.isList ?_
 refine⟨s1.heap.objs.size,[s1.heap.objs.size],_,_,H1,rfl,I1.kept (t':=s1.toks) fun b o e=>Heap.get?_push_of_some _ e,fp_ a _,⟨_,Heap.get?_push_size _ rfl,rfl,rfl⟩,fun b hb=>?_,q⟩
 have e:b=s1.heap.objs.size:=by simpa using hb
 subst e
 exact I1.fpOk (Nat.le_refl _) (I1.hok.fresh (Nat.le_refl _))
theorem ho_{pins:List (Addr × Obj)}{σ:St}{H:Hp}{s:Shared}{R:It->Hp->Prop}{E:Value->Shared->Prop}{lo hi:Int}{t u v:Tok}{tk:Nat}(I:Inv X pins σ H s)(h1:-(2 ^ 62)<=lo)(h2:lo<2 ^ 62)(h3:-(2 ^ 62)<=hi)(h4:hi<2 ^ 62)
  (q:R (Itr lo (hi - lo).toNat) H):wpAny (model X.prog X.w) X.A (pyIter (.ref s.heap.objs.size)) (PIE X pins σ tg R) E { s with heap:=s.heap.push { cls:=.type "range",data:=.fields #[.int lo t,.int hi u,.int 1 v] },toks:=tk }:=by
 refine wpAny_pyIter_range (IsRange.new ..) (small_one h1 h2 h3 h4) ?_
 have I1:Inv X pins σ H { s with heap:=s.heap.push { cls:=.type "range",data:=.fields #[.int lo t,.int hi u,.int 1 v] },toks:=tk }:=I.kept fun b o e=>Heap.get?_push_of_some _ e
 refine⟨(s.heap.push { cls:=.type "range",data:=.fields #[.int lo t,.int hi u,.int 1 v] }).objs.size,[(s.heap.push { cls:=.type "range",data:=.fields #[.int lo t,.int hi u,.int 1 v] }).objs.size],_,_,H,rfl,
  I1.kept (t':=tk) fun b o e=>Heap.get?_push_of_some _ e,f8_ _ lo (hi - lo).toNat,?_,fun b hb=>?_,q⟩
 ·have e1:lo+((0:Nat):Int) * 1=lo:=by simp
  have e2:(((hi - lo).toNat:Nat):Int) - ((0:Nat):Int)=Builtin.Range.rangeSize lo hi 1:=by rw[rangeSize_one];split<;>omega
  show IsRangeIter _ _ (lo+((0:Nat):Int) * 1) ((((hi - lo).toNat:Nat):Int) - ((0:Nat):Int)) 1
  rw[e1,e2]
  exact Heap.get?_push_size _ rfl
 ·have e:b=(s.heap.push { cls:=.type "range",data:=.fields #[.int lo t,.int hi u,.int 1 v] }).objs.size:=by simpa using hb
  subst e
  exact I1.fpOk (Nat.le_refl _) (I1.hok.fresh (Nat.le_refl _))
def iRng1(ta:TA):TI:=fun σ H R=>ta σ H fun vs H1=>∃j:Int,vs=[.int j]/\-(2 ^ 62)<=j/\j<2 ^ 62/\R (Itr 0 j.toNat) H1
theorem fQ_{a:Expr}{ta:TA}{p pos:Pos}(hg:Gl X "range")(hm:X.mg "range"=none)(ha:PA X [a] ta)(hs:starEach [a] X.env=[(false,eval a X.env)]:=by rfl):PI X tg (.Call (.Name "range" p) [a] [] pos) (iRng1 ta):=by
 intro pins s σ H R I h
 refine Call_ (dG_ I hg hm boot_range (PyProof.Rows.callWith_type1 (thn (ha pos pins s σ H _ I h) fun us s1 ⟨vs,H1,I1,r1,q1⟩=>?_) hs rfl))
 obtain⟨j,e,q1,q2,q⟩:=q1
 subst e
 cases r1 with
 |cons r rr=>
  cases rr
  obtain⟨t,rfl⟩:=r
  exact call_range_1 (ho_ I1 (by omega) (by omega) q1 q2 (by simpa using q))
def tFor(wi:TI)(g:TG)(tb:TS):TS:=fun D σ H=>wi σ H fun J H1=>∃W:Nat->Nat->St->Hp->Prop,(∃m,W 0 m σ H1)/\∀i m σ H,W i m σ H->
 (J.stop i H/\D.nx σ H)∨(J.go i H/\∃N:St->Hp->Prop,(∀σ' H',N σ' H'->∃m',m'<m/\W (i+1) m' σ' H')/\∀x H',J.yld i H x H'->g x σ H' fun σ2 H2=>tb { D with nx:=N,ct:=N,bk:=D.nx } σ2 H2)
def pinsAt(fp:List Addr)(h:Heap):List (Addr × Obj):=fp.filterMap fun b=>(h.get? b).map fun o=>(b,o)
theorem bw_{fp:List Addr}{h:Heap}{b:Addr}{o:Obj}(hb:b∈fp)(e:h.get? b=some o):(b,o)∈pinsAt fp h:=List.mem_filterMap.mpr ⟨b,hb,by rw[e];rfl⟩
theorem fL_{fp:List Addr}{h:Heap}{p:Addr × Obj}(hp:p∈pinsAt fp h):p.1∈fp/\h.get? p.1=some p.2:=by
 obtain⟨b,hb,e⟩:=List.mem_filterMap.mp hp
 cases q:h.get? b with
 |none=>rw[q] at e;cases e
 |some o=>
  rw[q] at e
  have e':(b,o)=p:=Option.some.inj e
  subst e'
  exact⟨hb,q⟩
theorem Inv.pinned{pins:List (Addr × Obj)}{σ:St}{H:Hp}{s:Shared}{fp:List Addr}(I:Inv X pins σ H s)(hf:∀b∈fp,FpOk X pins H b)(ho:∀b∈fp,∃o,s.heap.get? b=some o/\∀v,o.data≠.cell v):Inv X (pins++pinsAt fp s.heap) σ H s:=
 I.pins_of fun p hp=>(List.mem_append.mp hp).elim (fun z=>I.pin p (List.mem_append_right _ z)) fun z=>by
  obtain⟨hb,e⟩:=fL_ z
  obtain⟨f0,f1,f2,_⟩:=hf p.1 hb
  obtain⟨o,e',d⟩:=ho p.1 hb
  rw[e] at e';cases e'
  exact⟨e,f0,f1,f2,d⟩
theorem Inv.unpinned{pins pl:List (Addr × Obj)}{σ:St}{H:Hp}{s:Shared}(I:Inv X (pins++pl) σ H s):Inv X pins σ H s:=I.pins_of fun p hp=>I.pin p (List.mem_append_right _ (List.mem_append_left _ hp))
theorem b1_{iter:Expr}{body:List Stmt}{wi:TI}{g:TG}{tb:TS}{pos:Pos}(hp:PassesOwn (model X.prog X.w) X.A X.env X.xe)(hc:X.calm=true)(hi:PI X tg iter wi)(hg:PG X tg g)(hb:PSs X body tb)
  (hs:∀x,foldedSetIterable iter X.env x=pure x:=by intro _;rfl):PS X (.For tg iter body [] pos) (tFor wi g tb):=by
 intro pins s σ H D I h
 refine wpAny_For (thn (hi pins s σ H _ I h) fun v s1 h1=>thn h1 fun itv s2 h2=>?_) hs
 obtain⟨it,fp,tn,J,H2,e,I2,T,st2,f2,W,⟨m0,w0⟩,turn⟩:=h2
 subst e
 have stat:∀{H':Hp},(∀b∈fp,H' b=none)->∀b∈fp,FpOk X pins H' b:=fun hn b hb=>⟨hn b hb,(f2 b hb).2⟩
 refine codeAny_forLoop_any (fun n s'=>∃i σ' H',Inv X pins σ' H' s'/\tn i s'.heap/\(∀b∈fp,H' b=none)/\W i n σ' H') ?_ m0 ⟨0,σ,H2,I2,st2,fun b hb=>(f2 b hb).1,w0⟩
 rintro n s3 ⟨i,σ3,H3,I3,st3,fr3,w3⟩
 rcases turn i n σ3 H3 w3 with⟨stop,qn⟩|⟨go,N,hN,step⟩
 ·refine wpAny_passesOwn hp (thn (T.done X rfl rfl rfl hc i pins s3 σ3 H3 X.xe I3 (stat fr3) st3 stop) fun r s4 ⟨hr,I4⟩=>?_)
  subst hr
  exact wpAny_execs_nil ⟨σ3,H3,I4,qn⟩
 ·refine wpAny_passesOwn hp (thn (T.item X rfl rfl rfl hc i pins s3 σ3 H3 X.xe I3 (stat fr3) st3 go) fun r s4 ⟨u,hr,h4⟩=>?_)
  subst hr
  refine wpAny_passesOwn hp (thn h4 fun _ s5 ⟨x,H5,I5,r5,y5,st5,fr5⟩=>?_)
  have I5':=I5.pinned (stat fr5) (T.obj _ _ st5)
  refine wpAny_passesOwn hp (thn (hg _ s5 σ3 H5 x u _ I5' r5 (step x H5 y5)) fun _ s6 ⟨σ6,H6,I6,q6⟩=>?_)
  refine wpAny_passesOwn hp (thn (hb _ s6 σ6 H6 _ I6 q6) fun f s7 q7=>?_)
  have again:∀{σ7:St} {H7:Hp},Inv X (pins++pinsAt fp s5.heap) σ7 H7 s7->N σ7 H7->∃m,m<n/\∃i σ' H',Inv X pins σ' H' s7/\tn i s7.heap/\(∀b∈fp,H' b=none)/\W i m σ' H':=fun {σ7 H7} I7 n7=>by
   obtain⟨m',hm,w7⟩:=hN σ7 H7 n7
   refine⟨m',hm,i+1,σ7,H7,I7.unpinned,T.keep _ _ _ st5 fun b hb o e=>(I7.pin (b,o) (List.mem_append_right _ (List.mem_append_right _ (bw_ hb e)))).1,fun b hb=>?_,w7⟩
   obtain⟨o,e,d⟩:=T.obj _ _ st5 b hb
   exact (I7.pin (b,o) (List.mem_append_right _ (List.mem_append_right _ (bw_ hb e)))).2.1
  cases f with
  |next=>obtain⟨σ7,H7,I7,n7⟩:=q7;exact again I7 n7
  |cont=>obtain⟨σ7,H7,I7,n7⟩:=q7;exact again I7 n7
  |brk=>obtain⟨σ7,H7,I7,q7⟩:=q7;exact⟨σ7,H7,I7.unpinned,q7⟩
  |ret v=>obtain⟨x7,σ7,H7,I7,r7,q7⟩:=q7;exact⟨x7,σ7,H7,I7.unpinned,r7,q7⟩
end
theorem aW_{K:PySem.W.Frag}{a:Addr}{xs:List V}{g:TG}{tb:TS}{D:Ends}{σ:St}{H:Hp}(Pv:Nat->St->Hp->Prop)(h0:Pv 0 σ H)(hl:∀i σ H,i<=xs.length->Pv i σ H->SqL K H a xs)
  (hs:∀i x σ H,xs[i]? = some x->Pv i σ H->g x σ H fun σ2 H2=>tb { D with nx:=Pv (i+1),ct:=Pv (i+1),bk:=D.nx } σ2 H2) (hd:∀σ H,Pv xs.length σ H->D.nx σ H) :
  ∃W:Nat->Nat->St->Hp->Prop,(∃m,W 0 m σ H)/\∀i m σ H,W i m σ H->
   ((Itl K a).stop i H/\D.nx σ H)∨((Itl K a).go i H/\∃N:St->Hp->Prop,(∀σ' H',N σ' H'->∃m',m'<m/\W (i+1) m' σ' H')/\∀x H',(Itl K a).yld i H x H'->g x σ H' fun σ2 H2=>tb { D with nx:=N,ct:=N,bk:=D.nx } σ2 H2):=by
 refine⟨fun i m σ H=>m=xs.length - i/\i<=xs.length/\Pv i σ H,⟨xs.length,by simp,Nat.zero_le _,h0⟩,?_⟩
 rintro i m σ H ⟨rfl,hi,p⟩
 have q:=hl i σ H hi p
 by_cases hlt:i<xs.length
 ·refine .inr ⟨⟨xs,xs[i],q,by simp[hlt]⟩,Pv (i+1),fun σ' H' p'=>⟨xs.length - (i+1),by omega,rfl,hlt,p'⟩,fun x H' y=>?_⟩
  obtain⟨e,y⟩:=y
  subst e
  exact hs i x σ _ (y xs q) p
 ·have e:i=xs.length:=by omega
  subst e
  exact .inl ⟨⟨xs,q,Nat.le_refl _⟩,hd σ H p⟩
theorem fv_{lo:Int}{n:Nat}{g:TG}{tb:TS}{D:Ends}{σ:St}{H:Hp}(Pv:Nat->St->Hp->Prop)(h0:Pv 0 σ H)
  (hs:∀i σ H,i<n->Pv i σ H->g (.int (lo+i)) σ H fun σ2 H2=>tb { D with nx:=Pv (i+1),ct:=Pv (i+1),bk:=D.nx } σ2 H2) (hd:∀σ H,Pv n σ H->D.nx σ H) :
  ∃W:Nat->Nat->St->Hp->Prop,(∃m,W 0 m σ H)/\∀i m σ H,W i m σ H->
   ((Itr lo n).stop i H/\D.nx σ H)∨((Itr lo n).go i H/\∃N:St->Hp->Prop,(∀σ' H',N σ' H'->∃m',m'<m/\W (i+1) m' σ' H')/\∀x H',(Itr lo n).yld i H x H'->g x σ H' fun σ2 H2=>tb { D with nx:=N,ct:=N,bk:=D.nx } σ2 H2):=by
 refine⟨fun i m σ H=>m=n - i/\i<=n/\Pv i σ H,⟨n,by simp,Nat.zero_le _,h0⟩,?_⟩
 rintro i m σ H ⟨rfl,hi,p⟩
 by_cases hlt:i<n
 ·refine .inr ⟨hlt,Pv (i+1),fun σ' H' p'=>⟨n - (i+1),by omega,rfl,hlt,p'⟩,fun x H' y=>?_⟩
  obtain⟨e,y⟩:=y
  subst e y
  exact hs i σ _ hlt p
 ·have e:i=n:=by omega
  subst e
  exact .inl ⟨Nat.le_refl _,hd σ H p⟩
theorem hu_{c:TT}{tb:TS}{D:Ends}{σ:St}{H:Hp}(Pv:St->Hp->Prop)(μ:St->Hp->Nat)(h0:Pv σ H)
  (hs:∀σ H,Pv σ H->c σ H fun b H1=>if b=true then tb { D with nx:=fun σ' H'=>Pv σ' H'/\μ σ' H'<μ σ H,ct:=fun σ' H'=>Pv σ' H'/\μ σ' H'<μ σ H,bk:=D.nx } σ H1 else D.nx σ H1)
  (mono:∀σ H Q Q',(∀b H1,Q b H1->Q' b H1)->c σ H Q->c σ H Q'):tWhile c tb D σ H:=by
 refine⟨fun m σ H=>m=μ σ H/\Pv σ H,⟨_,rfl,h0⟩,?_⟩
 rintro m σ H ⟨rfl,p⟩
 refine mono σ H _ _ (fun b H1 q=>?_) (hs σ H p)
 cases b with
 |true=>exact⟨_,fun σ' H' ⟨p',l⟩=>⟨_,l,rfl,p'⟩,q⟩
 |false=>exact q
end L2
namespace L2
open PySem PySem.Spec PyProof.Rows
abbrev R2:=V->V->Hp->VK->Prop
def OpR(X:Cx)(f:Value->Value->Sem Value)(r:R2):Prop:=
 ∀(pins:List (Addr × Obj)) (s:Shared) (σ:St) (H:Hp) (x y:V) (v u:Value) (Q:VK),Inv X pins σ H s->RelV x v->RelV y u->r x y H Q->
  wpAny (model X.prog X.w) X.A (f v u) (EP X pins σ Q) X.xe s
def UnR(X:Cx)(f:Value->Sem Value)(r:V->Hp->VK->Prop):Prop:=
 ∀(pins:List (Addr × Obj)) (s:Shared) (σ:St) (H:Hp) (x:V) (v:Value) (Q:VK),Inv X pins σ H s->RelV x v->r x H Q->
  wpAny (model X.prog X.w) X.A (f v) (EP X pins σ Q) X.xe s
def CallR(X:Cx)(f:Value)(r:List V->Hp->VK->Prop):Prop:=
 ∀(pins:List (Addr × Obj)) (s:Shared) (σ:St) (H:Hp) (xs:List V) (us:List Value) (Q:VK),Inv X pins σ H s->Vals xs us->r xs H Q->
  wpAny (model X.prog X.w) X.A (call f us) (EP X pins σ Q) X.xe s
def tOp(r:R2)(ta tb:TE):TE:=fun σ H Q=>ta σ H fun x H1=>tb σ H1 fun y H2=>r x y H2 Q
def tUn(r:V->Hp->VK->Prop)(ta:TE):TE:=fun σ H Q=>ta σ H fun x H1=>r x H1 Q
def rI(C:Int->Int->Prop)(g:Int->Int->V):R2:=fun x y H Q=>∃i j,x=.int i/\y=.int j/\C i j/\Q (g i j) H
def rI0(g:Int->Int->V):R2:=fun x y H Q=>∃i j,x=.int i/\y=.int j/\Q (g i j) H
def rU(g:Int->V):V->Hp->VK->Prop:=fun x H Q=>∃i,x=.int i/\Q (g i) H
section
variable{X:Cx}{a b c:Expr}{ta tb tc:TE}{pos:Pos}
theorem binT(ha:PE X a ta)(hb:PE X b tb){pins:List (Addr × Obj)}{s:Shared}{σ:St}{H:Hp}{R:V->V->Hp->Prop}(I:Inv X pins σ H s)
  (h:ta σ H fun x H1=>tb σ H1 fun y H2=>R x y H2) {Q:Value->Shared->Prop} {f:Value->Value->Sem Value}
  (hf:∀v u s2 x y H2,Inv X pins σ H2 s2->RelV x v->RelV y u->R x y H2->wpAny (model X.prog X.w) X.A (f v u) Q X.xe s2) :
  wpAny (model X.prog X.w) X.A (eval a X.env) (fun v s₁=>wpAny (model X.prog X.w) X.A (eval b X.env) (fun u s₂=>wpAny (model X.prog X.w) X.A (f v u) Q X.xe s₂) X.xe s₁) X.xe s:=by
 refine thn (ha pins s σ H _ I h) fun v s1 ⟨x,H1,I1,r1,q1⟩=>?_
 refine thn (hb pins s1 σ H1 _ I1 q1) fun u s2 ⟨y,H2,I2,r2,q2⟩=>?_
 exact hf v u s2 x y H2 I2 r1 r2 q2
theorem ah_{op:Operator}{r:R2}(ho:OpR X (binaryOp op) r)(ha:PE X a ta)(hb:PE X b tb):PE X (.BinOp a op b pos) (tOp r ta tb):=by
 intro pins s σ H Q I h
 exact wpAny_BinOp (binT ha hb I h fun v u s2 x y H2 I2 rx ry q=>ho pins s2 σ H2 x y v u Q I2 rx ry q)
theorem jH_{op:UnaryOp}{r:V->Hp->VK->Prop}(ho:UnR X (unaryOp op) r)(ha:PE X a ta):PE X (.UnaryOp op a pos) (tUn r ta):=by
 intro pins s σ H Q I h
 exact UnaryOp_ (thn (ha pins s σ H _ I h) fun v s1 ⟨x,H1,I1,r1,q1⟩=>ho pins s1 σ H1 x v Q I1 r1 q1)
theorem opI{f:Value->Value->Sem Value}{C:Int->Int->Prop}{g:Int->Int->Int}
  (rule:∀(i j:Int) (t u:Tok) (s:Shared) (Q:Value->Shared->Prop) (E:Value->Shared->Prop),C i j->Q (.int (g i j) s.toks) { s with toks:=s.toks+1 }->wpAny (model X.prog X.w) X.A (f (.int i t) (.int j u)) Q E s) :
  OpR X f (rI C fun i j=>.int (g i j)):=by
 intro pins s σ H x y v u Q I rx ry h
 obtain⟨i,j,rfl,rfl,hc,q⟩:=h
 obtain⟨t,rfl⟩:=rx
 obtain⟨t',rfl⟩:=ry
 exact rule i j t t' s _ _ hc ⟨.int (g i j),H,I.tok _,⟨_,rfl⟩,q⟩
theorem opI0{f:Value->Value->Sem Value}{g:Int->Int->Int}
  (rule:∀(i j:Int) (t u:Tok) (s:Shared) (Q:Value->Shared->Prop) (E:Value->Shared->Prop),Q (.int (g i j) s.toks) { s with toks:=s.toks+1 }->wpAny (model X.prog X.w) X.A (f (.int i t) (.int j u)) Q E s) :
  OpR X f (rI0 fun i j=>.int (g i j)):=by
 intro pins s σ H x y v u Q I rx ry h
 obtain⟨i,j,rfl,rfl,q⟩:=h
 obtain⟨t,rfl⟩:=rx
 obtain⟨t',rfl⟩:=ry
 exact rule i j t t' s _ _ ⟨.int (g i j),H,I.tok _,⟨_,rfl⟩,q⟩
theorem opB0{f:Value->Value->Sem Value}{g:Int->Int->Bool}
  (rule:∀(i j:Int) (t u:Tok) (s:Shared) (Q:Value->Shared->Prop) (E:Value->Shared->Prop),Q (.bool (g i j)) s->wpAny (model X.prog X.w) X.A (f (.int i t) (.int j u)) Q E s) :
  OpR X f (rI0 fun i j=>.bl (g i j)):=by
 intro pins s σ H x y v u Q I rx ry h
 obtain⟨i,j,rfl,rfl,q⟩:=h
 obtain⟨t,rfl⟩:=rx
 obtain⟨t',rfl⟩:=ry
 exact rule i j t t' s _ _ ⟨.bl (g i j),H,I,rfl,q⟩
def CDiv(i j:Int):Prop:=0<j/\j<1073741824
def CPow(i j:Int):Prop:=0<=j/\j<=1000000/\i.natAbs<2 ^ 64
def CMul(i j:Int):Prop:=(-(2 ^ 64)<i/\i<2 ^ 64)∨(-(2 ^ 64)<j/\j<2 ^ 64)
theorem CMul.ok{i j:Int}(h:CMul i j):IntMulOk i j:=by
 rcases h with⟨h1,h2⟩|⟨h1,h2⟩
 ·exact .of_left (intBits_le_64 h1 h2)
 ·exact .of_right (intBits_le_64 h1 h2)
theorem ba_:OpR X (binaryOp .Add) (rI0 fun i j=>.int (i+j)):=opI0 fun _ _ _ _ _ _ _ q=>add_int q
theorem ev_:OpR X (binaryOp .Sub) (rI0 fun i j=>.int (i - j)):=opI0 fun _ _ _ _ _ _ _ q=>sub_int q
theorem aN_:OpR X (binaryOp .Mult) (rI CMul fun i j=>.int (i * j)):=opI fun _ _ _ _ _ _ _ hc q=>mul_int q hc.ok
theorem b7_:OpR X (binaryOp .FloorDiv) (rI CDiv fun i j=>.int (i / j)):=opI fun i j _ _ _ _ _ hc q=>by
 have h1:(0:Int)<j:=hc.1
 have h2:j<1073741824:=hc.2
 exact floordiv_int (by omega) (by rw[Int.fdiv_eq_ediv_of_nonneg i (by omega)];exact q) (.inl (PyProof.noPylong_small (by omega)))
theorem c9_:OpR X (binaryOp .Mod) (rI (fun _ j=>0<j) fun i j=>.int (i % j)):=opI fun i j _ _ _ _ _ hc q=>by
 have h1:(0:Int)<j:=hc
 exact mod_int' (by omega) (by rw[Int.fmod_eq_emod_of_nonneg i (by omega)];exact q)
theorem fE_:OpR X (binaryOp .Pow) (rI CPow fun i j=>.int (i ^ j.toNat)):=opI fun _ _ _ _ _ _ _ hc q=>pow_int_small hc.1 hc.2.1 hc.2.2 q
theorem unI{f:Value->Sem Value}{g:Int->Int}
  (rule:∀(i:Int) (t:Tok) (s:Shared) (Q:Value->Shared->Prop) (E:Value->Shared->Prop),Q (.int (g i) s.toks) { s with toks:=s.toks+1 }->wpAny (model X.prog X.w) X.A (f (.int i t)) Q E s) :
  UnR X f (rU fun i=>.int (g i)):=by
 intro pins s σ H x v Q I rx h
 obtain⟨i,rfl,q⟩:=h
 obtain⟨t,rfl⟩:=rx
 exact rule i t s _ _ ⟨.int (g i),H,I.tok _,⟨_,rfl⟩,q⟩
theorem ia_:UnR X (unaryOp .USub) (rU fun i=>.int (-i)):=unI fun _ _ _ _ _ q=>neg_int q
end
def scal:V->V->Bool
 |.non,.non=>true | .non,.int _=>true | .int _,.non=>true | .non,.bl _=>true | .bl _,.non=>true | .non,.str _=>true | .str _,.non=>true
 |.int _,.int _=>true | .bl _,.bl _=>true | .str _,.str _=>true | .byt _,.byt _=>true
 |.int _,.str _=>true | .str _,.int _=>true | .bl _,.str _=>true | .str _,.bl _=>true
 |_,_=>false
def rEq:R2:=fun x y H Q=>scal x y=true/\Q (.bl (decide (x=y))) H
def rNe:R2:=fun x y H Q=>scal x y=true/\Q (.bl (!decide (x=y))) H
theorem fq_{i j:Int}:decide (V.int i=V.int j)=(i == j):=by
 rw[Bool.eq_iff_iff]
 simp
theorem i9_{i j:Bool}:decide (V.bl i=V.bl j)=(i == j):=by
 rw[Bool.eq_iff_iff]
 simp
theorem cj_{i j:Str}:decide (V.str i=V.str j)=(i == j):=by
 rw[Bool.eq_iff_iff]
 simp
theorem gI_{i j:Array UInt8}:decide (V.byt i=V.byt j)=(i.toList == j.toList):=by
 rw[Bool.eq_iff_iff]
 cases i
 cases j
 simp
section
variable{X:Cx}{a b c:Expr}{ta tb tc:TE}{pos:Pos}
theorem aq_{pins:List (Addr × Obj)}{σ:St}{H:Hp}{s:Shared}{Q:VK}{k k':Bool}(I:Inv X pins σ H s)(q:Q (.bl k) H)(e:k=k'):EP X pins σ Q (.bool k') s:=by
 subst e
 exact⟨.bl k,H,I,rfl,q⟩
theorem cd_:OpR X (compareOp .Eq) rEq:=by
 intro pins s σ H x y v u Q I rx ry h
 obtain⟨hs,q⟩:=h
 cases x with
 |non=>
  cases rx
  cases y with
  |non=>cases ry;exact PySem.EqNone.eq_none_none (aq_ I q (by simp))
  |bl j=>cases ry;exact PySem.EqNone.eq_none_bool (aq_ I q (by simp))
  |int j=>obtain⟨t',rfl⟩:=ry;exact PySem.EqNone.eq_none_int (aq_ I q (by simp))
  |str j=>obtain⟨t',rfl⟩:=ry;exact PySem.EqNone.eq_none_str (aq_ I q (by simp))
  |_=>exact absurd (show false=true from hs) Bool.false_ne_true
 |bl i=>
  cases rx
  cases y with
  |non=>cases ry;exact PySem.EqNone.eq_bool_none (aq_ I q (by simp))
  |bl j=>cases ry;exact eq_bool (aq_ I q i9_)
  |str j=>obtain⟨t',rfl⟩:=ry;exact PySem.EqMixed.eq_bool_str (aq_ I q (by simp))
  |_=>exact absurd (show false=true from hs) Bool.false_ne_true
 |int i=>
  obtain⟨t,rfl⟩:=rx
  cases y with
  |non=>cases ry;exact PySem.EqNone.eq_int_none (aq_ I q (by simp))
  |int j=>obtain⟨t',rfl⟩:=ry;exact eq_int (aq_ I q fq_)
  |str j=>obtain⟨t',rfl⟩:=ry;exact PySem.EqMixed.eq_int_str (aq_ I q (by simp))
  |_=>exact absurd (show false=true from hs) Bool.false_ne_true
 |str i=>
  obtain⟨t,rfl⟩:=rx
  cases y with
  |non=>cases ry;exact PySem.EqNone.eq_str_none (aq_ I q (by simp))
  |bl j=>cases ry;exact PySem.EqMixed.eq_str_bool (aq_ I q (by simp))
  |int j=>obtain⟨t',rfl⟩:=ry;exact PySem.EqMixed.eq_str_int (aq_ I q (by simp))
  |str j=>obtain⟨t',rfl⟩:=ry;exact eq_str (aq_ I q cj_)
  |_=>exact absurd (show false=true from hs) Bool.false_ne_true
 |byt i=>
  obtain⟨t,rfl⟩:=rx
  cases y with
  |byt j=>obtain⟨t',rfl⟩:=ry;exact PySem.W.eq_bytes (aq_ I q gI_)
  |_=>exact absurd (show false=true from hs) Bool.false_ne_true
 |_=>cases y<;>exact absurd (show false=true from hs) Bool.false_ne_true
theorem cu_:OpR X (compareOp .NotEq) rNe:=by
 intro pins s σ H x y v u Q I rx ry h
 obtain⟨hs,q⟩:=h
 cases x with
 |non=>
  cases rx
  cases y with
  |non=>cases ry;exact PySem.EqNone.ne_none_none (aq_ I q (by simp))
  |bl j=>cases ry;exact PySem.EqNone.ne_none_bool (aq_ I q (by simp))
  |int j=>obtain⟨t',rfl⟩:=ry;exact PySem.EqNone.ne_none_int (aq_ I q (by simp))
  |str j=>obtain⟨t',rfl⟩:=ry;exact PySem.EqNone.ne_none_str (aq_ I q (by simp))
  |_=>exact absurd (show false=true from hs) Bool.false_ne_true
 |bl i=>
  cases rx
  cases y with
  |non=>cases ry;exact PySem.EqNone.ne_bool_none (aq_ I q (by simp))
  |bl j=>cases ry;exact ne_bool (aq_ I q (congrArg not i9_))
  |str j=>obtain⟨t',rfl⟩:=ry;exact PySem.EqMixed.ne_bool_str (aq_ I q (by simp))
  |_=>exact absurd (show false=true from hs) Bool.false_ne_true
 |int i=>
  obtain⟨t,rfl⟩:=rx
  cases y with
  |non=>cases ry;exact PySem.EqNone.ne_int_none (aq_ I q (by simp))
  |int j=>obtain⟨t',rfl⟩:=ry;exact ne_int (aq_ I q (congrArg not fq_))
  |str j=>obtain⟨t',rfl⟩:=ry;exact PySem.EqMixed.ne_int_str (aq_ I q (by simp))
  |_=>exact absurd (show false=true from hs) Bool.false_ne_true
 |str i=>
  obtain⟨t,rfl⟩:=rx
  cases y with
  |non=>cases ry;exact PySem.EqNone.ne_str_none (aq_ I q (by simp))
  |bl j=>cases ry;exact PySem.EqMixed.ne_str_bool (aq_ I q (by simp))
  |int j=>obtain⟨t',rfl⟩:=ry;exact PySem.EqMixed.ne_str_int (aq_ I q (by simp))
  |str j=>obtain⟨t',rfl⟩:=ry;exact ne_str (aq_ I q (congrArg not cj_))
  |_=>exact absurd (show false=true from hs) Bool.false_ne_true
 |byt i=>
  obtain⟨t,rfl⟩:=rx
  cases y with
  |byt j=>obtain⟨t',rfl⟩:=ry;exact PySem.W.ne_bytes (aq_ I q (congrArg not gI_))
  |_=>exact absurd (show false=true from hs) Bool.false_ne_true
 |_=>cases y<;>exact absurd (show false=true from hs) Bool.false_ne_true
theorem jV_:OpR X (compareOp .Lt) (rI0 fun i j=>.bl (decide (i<j))):=opB0 fun _ _ _ _ _ _ _ q=>lt_int q
theorem dw_:OpR X (compareOp .LtE) (rI0 fun i j=>.bl (decide (i<=j))):=opB0 fun _ _ _ _ _ _ _ q=>le_int q
theorem jM_:OpR X (compareOp .Gt) (rI0 fun i j=>.bl (decide (j<i))):=opB0 fun _ _ _ _ _ _ _ q=>gt_int q
theorem gv_:OpR X (compareOp .Lt) (fun x y H Q=>∃i j,x=.str i/\y=.str j/\Q (.bl (decide (i.cps.toList<j.cps.toList))) H):=by
 intro pins s σ H x y v u Q I rx ry h
 obtain⟨i,j,rfl,rfl,q⟩:=h
 obtain⟨t,rfl⟩:=rx
 obtain⟨t',rfl⟩:=ry
 exact lt_str (aq_ I q rfl)
theorem nomark(b:Expr){op:CmpOp}(h:op≠.In:=by decide)(h2:op≠.NotIn:=by decide):behindInMarks op b=false:=by
 have e1:(op == CmpOp.In)=false:=by cases op<;>first|rfl|exact absurd rfl h
 have e2:(op == CmpOp.NotIn)=false:=by cases op<;>first|rfl|exact absurd rfl h2
 cases b<;>simp[behindInMarks,e1,e2]
theorem aR_{op:CmpOp}{r:R2}(ho:OpR X (compareOp op) r)(ha:PE X a ta)(hb:PE X b tb)(hm:behindInMarks op b=false):PE X (.Compare a [op] [b] pos) (tOp r ta tb):=by
 intro pins s σ H Q I h
 exact wpAny_Compare1 (binT ha hb I h fun v u s2 x y H2 I2 rx ry q=>ho pins s2 σ H2 x y v u Q I2 rx ry q) hm
def tTest(t:TE):TT:=fun σ H Q=>t σ H fun x H'=>∃k,x=.bl k/\Q k H'
theorem am_{op:CmpOp}{r:R2}(ho:OpR X (compareOp op) r)(ha:PE X a ta)(hb:PE X b tb)(hm:behindInMarks op b=false):PT X (.Compare a [op] [b] pos) (tTest (tOp r ta tb)):=by
 intro pins s σ H Q I h
 refine wpAny_isTrue_Compare1 (thn (ha pins s σ H _ I h) fun v s1 ⟨x,H1,I1,r1,q1⟩=>thn (hb pins s1 σ H1 _ I1 q1) fun u s2 ⟨y,H2,I2,r2,q2⟩=>
  thn (ho pins s2 σ H2 x y v u _ I2 r1 r2 q2) fun c s3 ⟨z,H3,I3,r3,k,e,q3⟩=>?_) hm
 subst e
 cases r3
 exact wpAny_truthy_bool ⟨H3,I3,q3⟩
def tChain(r r':R2)(ta tb tc:TE):TE:=fun σ H Q=>ta σ H fun x H1=>tb σ H1 fun y H2=>r x y H2 fun z H3=>∃k,z=.bl k /\
 (if k=true then tc σ H3 fun w' H4=>r' y w' H4 Q else Q (.bl false) H3)
theorem dq_{op op':CmpOp}{r r':R2}(ho:OpR X (compareOp op) r)(ho':OpR X (compareOp op') r')(ha:PE X a ta)(hb:PE X b tb)(hc:PE X c tc)
  (hm:lastMarks [op,op'] [b,c]=false:=by with_unfolding_all rfl):PE X (.Compare a [op,op'] [b,c] pos) (tChain r r' ta tb tc):=by
 intro pins s σ H Q I h
 refine Compare_chain (thn (ha pins s σ H _ I h) fun v s1 ⟨x,H1,I1,r1,q1⟩=>chain_link (thn (hb pins s1 σ H1 _ I1 q1) fun u s2 ⟨y,H2,I2,r2,q2⟩=>
  thn (ho pins s2 σ H2 x y v u _ I2 r1 r2 q2) fun d s3 ⟨z,H3,I3,r3,k,e,q3⟩=>?_)) hm
 subst e
 cases r3
 refine wpAny_truthy_bool ?_
 cases k with
 |false=>exact ite_ff ⟨.bl false,H3,I3,rfl,q3⟩
 |true=>exact ite_tt (chain_last (thn (hc pins s3 σ H3 _ I3 q3) fun w' s4 ⟨z',H4,I4,r4,q4⟩=>ho' pins s4 σ H4 y z' u w' Q I4 r2 r4 q4))
theorem eH_{op op':CmpOp}{r r':R2}(ho:OpR X (compareOp op) r)(ho':OpR X (compareOp op') r')(ha:PE X a ta)(hb:PE X b tb)(hc:PE X c tc)
  (hm:lastMarks [op,op'] [b,c]=false:=by with_unfolding_all rfl):PT X (.Compare a [op,op'] [b,c] pos) (tTest (tChain r r' ta tb tc)):=by
 intro pins s σ H Q I h
 refine isTrue_chain (thn (ha pins s σ H _ I h) fun v s1 ⟨x,H1,I1,r1,q1⟩=>test_link (thn (hb pins s1 σ H1 _ I1 q1) fun u s2 ⟨y,H2,I2,r2,q2⟩=>
  thn (ho pins s2 σ H2 x y v u _ I2 r1 r2 q2) fun d s3 ⟨z,H3,I3,r3,k,e,q3⟩=>?_)) hm
 subst e
 cases r3
 refine wpAny_truthy_bool ?_
 cases k with
 |false=>
  obtain⟨k',e',q'⟩:=q3
  cases e'
  exact ite_ff ⟨H3,I3,q'⟩
 |true=>
  refine ite_tt (test_last (thn (hc pins s3 σ H3 _ I3 q3) fun w' s4 ⟨z',H4,I4,r4,q4⟩=>thn (ho' pins s4 σ H4 y z' u w' _ I4 r2 r4 q4) fun d' s5 ⟨z2,H5,I5,r5,k2,e2,q5⟩=>?_))
  subst e2
  cases r5
  exact wpAny_truthy_bool ⟨H5,I5,q5⟩
theorem line63:(sizeLine:Nat)<2 ^ 63:=by rw[sizeLine_eq];decide
theorem bc_:OpR X (binaryOp .Add) (fun x y H Q=>∃i j,x=.str i/\y=.str j/\i.length+j.length<=sizeLine/\Q (.str (i++j)) H):=by
 intro pins s σ H x y v u Q I rx ry h
 obtain⟨i,j,rfl,rfl,hz,q⟩:=h
 obtain⟨t,rfl⟩:=rx
 obtain⟨t',rfl⟩:=ry
 exact add_str (fun t' tk=>⟨.str (i++j),H,I.tok _,⟨_,rfl⟩,q⟩) hz
theorem vals1{x:V}{us:List Value}(r:Vals [x] us):∃u,us=[u]/\RelV x u:=by
 cases r with
 |cons r1 r2=>cases r2;exact⟨_,rfl,r1⟩
theorem vals2{x y:V}{us:List Value}(r:Vals [x,y] us):∃u w',us=[u,w']/\RelV x u/\RelV y w':=by
 cases r with
 |cons r1 r2=>
  cases r2 with
  |cons r3 r4=>cases r4;exact⟨_,_,rfl,r1,r3⟩
theorem gj_(hc:X.calm=true):CallR X (.builtin "max") (fun xs H Q=>∃i j,xs=[.int i,.int j]/\Q (.int (if j > i then j else i)) H):=by
 intro pins s σ H xs us Q I r h
 obtain⟨i,j,rfl,q⟩:=h
 obtain⟨u,w',rfl,⟨t,rfl⟩,⟨t',rfl⟩⟩:=vals2 r
 refine max_two_ints (I.ok.hd hc) fun h' tk k=>⟨_,H,I.kept k,?_,q⟩
 by_cases hj:j > i
 ·rw[if_pos hj,if_pos hj];exact⟨_,rfl⟩
 ·rw[if_neg hj,if_neg hj];exact⟨_,rfl⟩
theorem fF_(hc:X.calm=true):CallR X (.builtin "min") (fun xs H Q=>∃i j,xs=[.int i,.int j]/\Q (.int (if j<i then j else i)) H):=by
 intro pins s σ H xs us Q I r h
 obtain⟨i,j,rfl,q⟩:=h
 obtain⟨u,w',rfl,⟨t,rfl⟩,⟨t',rfl⟩⟩:=vals2 r
 refine min_two_ints (I.ok.hd hc) fun h' tk k=>⟨_,H,I.kept k,?_,q⟩
 by_cases hj:j<i
 ·rw[if_pos hj,if_pos hj];exact⟨_,rfl⟩
 ·rw[if_neg hj,if_neg hj];exact⟨_,rfl⟩
end
end L2
namespace L2
open PySem PySem.Spec PyProof.Rows
structure ObjM (h:Heap) (x dx C:Addr) (mA:Str->Option Value):Prop where
 obj:h.get? x=some (PySem.W.instObj C dx)
 ns:h.Ns1 dx mA
 ne:dx≠x
theorem fG_{h:Heap}{dx:Addr}{mA:Str->Option Value}(n:h.Ns1 dx mA):∃od,h.get? dx=some od/\∀name,PySem.W.lookIn name od=some (mA name):=by
 obtain⟨o,es,ep,ho,hd,hk,_,hm⟩:=n
 refine⟨o,ho,fun name=>?_⟩
 have e:=hm name
 unfold nsFind findBy at e
 rw[<- Array.find?_toList] at e
 unfold PySem.W.lookIn
 rw[hd]
 dsimp only
 split
 ·rename_i y q
  rw[q] at e
  exact congrArg some e
 ·rename_i q
  rw[q] at e
  have a:es.toList.any (·.refKey)=false:=by
   rw[List.any_eq_false]
   intro y hy
   obtain⟨z,t,hkey⟩:=hk y (Array.mem_toList_iff.mp hy)
   simp[DictEntry.refKey,hkey]
  have a':¬es.toList.any (·.refKey)=true:=by rw[a];exact Bool.false_ne_true
  rw[if_neg a']
  exact congrArg some e
theorem ObjM.look{h:Heap}{x dx C:Addr}{mA:Str->Option Value}(I:ObjM h x dx C mA):∃od,PySem.W.InstAt h x (PySem.W.instObj C dx) C (some od)/\∀name,PySem.W.lookIn name od=some (mA name):=
 let ⟨od,ho,hl⟩:=fG_ I.ns
 ⟨od,⟨I.obj,rfl,rfl,ho⟩,hl⟩
section
variable{prog:Program}{w:World}{A:Around}{E:Value->Shared->Prop}{s:Shared}{K:PySem.W.Frag}{x dx C f:Addr}{mA:Str->Option Value}{name:Str}{v:Value}
theorem im_{expr:Bool}{Q:Value->Shared->Prop}(X:K.In s.heap)(I:ObjM s.heap x dx C mA)(hg:PySem.W.plainGet K C name=true)(hh:PySem.W.hasDictIn K C=true)
  (ha:PySem.W.findIn K (.ref C) name=some none) (hv:mA name=some v) (hv':PySem.W.handedIn v=true) (h:Q v { s with toks:=s.toks+1 }) :
  wpAny (model prog w) A (getAttr (.ref x) name expr) Q E s:=by
 obtain⟨od,J,hl⟩:=I.look
 exact PySem.W.get_value X J (PySem.W.plainGet_of hg).1 (PySem.W.findObj_own hh ha rfl (by rw[hl,hv])) hv' h
theorem hm_{pl:Sem Bool}{Q:Value × List Value->Shared->Prop}(X:K.In s.heap)(I:ObjM s.heap x dx C mA)(hg:PySem.W.plainGet K C name=true)
  (hf:PySem.W.findIn K (.ref C) name=some (some (.ref f))) (ht:PySem.W.isFn K (.ref f)=true) (hv:mA name=none) (h:Q (.ref f,[.ref x]) s) :
  wpAny (model prog w) A (getMethod (.ref x) name pl) Q E s:=by
 obtain⟨od,J,hl⟩:=I.look
 exact PySem.W.method_fn X J (PySem.W.plainGet_of hg).1 (PySem.W.plainGet_of hg).2 hf (beq_iff_eq.mp ht) (by show (PySem.W.lookIn name od).map (·.isSome)=some false;rw[hl,hv];rfl) h
theorem j7_{ns:List Str}{Q:Unit->Shared->Prop}(X:K.In s.heap)(I:ObjM s.heap x dx C mA)
  (hs:PySem.W.findIn K (.ref C) "__setattr__"=some (some (.builtin "object.__setattr__"))) (hp:PySem.W.plainOver K C=true) (ht:PySem.W.takerIn K C name=some none) (hh:PySem.W.hasDictIn K C=true)
  (hw:PySem.Within mA ns) (hsz:ns.length<=sizeLine)
  (h:∀h',ObjM h' x dx C (fun y=>if y=name then some v else mA y)->Heap.SameBut dx s.heap h'->Q () { s with heap:=h',toks:=s.toks+2 }) :
  wpAny (model prog w) A (setAttr (.ref x) name v) Q E s:=by
 obtain⟨od,J,hl⟩:=I.look
 refine PySem.W.set_plain X J hs (PySem.W.osa_open (s:={ s with toks:=s.toks+1 }) (r:=none) X J hp ht fun b=>?_)
 obtain⟨cd,hc,hd'⟩:=PySem.W.any_some hh
 have hx:s.heap.get? x=some ⟨.ref C,some dx,.plain,#[]⟩:=I.obj
 refine wpAny_bind (wpAny_pure (wpAny_bind (wpAny_bind (wpAny_loadPart hx (wpAny_bind (PySem.W.Looks.here (s:={ s with toks:=s.toks+1 }) (PySem.W.looks_clsIn X hc) ?_))))))
 rw[hd']
 refine wpAny_pure (a:=some dx) (wpAny_bind (wpAny_pure (wpAny_bind ?_)))
 refine wpAny_nsSet1 (s:={ s with toks:=s.toks+1 }) I.ns fun h' hn2 hs2=>?_
 obtain⟨oD,esD,epD,hoD,hdD,hcD⟩:=hn2.count (PySem.Within.cons name v hw)
 refine wpAny_bind (wpAny_lookBehind hoD (by rw[hdD];exact pastItsLine_dict (Nat.le_trans hcD (by rw[List.length_cons];omega))) ?_)
 exact wpAny_pure (h _ ⟨(hs2.2 _ (Ne.symm I.ne)).trans I.obj,hn2,I.ne⟩ hs2)
theorem hB_{R:Result->Shared->Prop}{vs:List Value}{kw:List (Str × Value)}(X:K.In s.heap)(hm:PySem.W.makesIn K C=true)
  (hi:PySem.W.findIn K (.ref C) "__init__"=some (some (.ref f))) (hf:PySem.W.typeIn K (.ref f)=some (.type "function"))
  (h:codeAny (model prog w) (A.under (.builtin "type.__call__" ⟨.ref C::vs,kw⟩)) (.call (.ref f) ⟨.ref (s.heap.objs.size+1)::vs,kw⟩) (PySem.W.InitBack (s.heap.objs.size+1) R)
   { s with heap:=(s.heap.push PySem.W.emptyDict).push (PySem.W.instObj C s.heap.objs.size) }) :
  codeAny (model prog w) A (.call (.ref C) ⟨vs,kw⟩) R s:=by
 obtain⟨hh,g,d,t,os⟩:=s
 exact PySem.W.make_core (PySem.W.makes_of X hm) (PySem.W.looks_findIn X hi) (fun self=>PySem.W.bind_fn X self hf) (.inl rfl) h
end
def putF(f:Str)(v:V):List (Str × V)->List (Str × V)
 |[]=>[(f,v)]
 |(g,x)::r=>if g=f then (g,v)::r else (g,x)::putF f v r
theorem af_(f g:Str)(v:V):∀fs:List (Str × V),(putF f v fs).lookup g=if g=f then some v else fs.lookup g
 |[]=>by
  show List.lookup g [(f,v)]=_
  by_cases h:g=f
  ·have hb:(g == f)=true:=beq_iff_eq.mpr h
   simp only[List.lookup,hb,if_pos h]
  ·have hb:(g == f)=false:=beq_eq_false_iff_ne.mpr h
   simp only[List.lookup,hb,if_neg h]
 |(k,x)::r=>by
  have ih:=af_ f g v r
  rw[show putF f v ((k,x)::r)=(if k=f then (k,v)::r else (k,x)::putF f v r) from rfl]
  by_cases hk:k=f
  ·rw[if_pos hk]
   by_cases h:g=k
   ·have hb:(g == k)=true:=beq_iff_eq.mpr h
    simp only[List.lookup,hb,if_pos (h.trans hk)]
   ·have hb:(g == k)=false:=beq_eq_false_iff_ne.mpr h
    simp only[List.lookup,hb,if_neg (fun e:g=f=>h (e.trans hk.symm))]
  ·rw[if_neg hk]
   by_cases h:g=k
   ·have hb:(g == k)=true:=beq_iff_eq.mpr h
    simp only[List.lookup,hb,if_neg (fun e:g=f=>hk (h.symm.trans e))]
   ·have hb:(g == k)=false:=beq_eq_false_iff_ne.mpr h
    simp only[List.lookup,hb]
    exact ih
theorem ch_(f:Str)(v:V):∀fs:List (Str × V),f∈(putF f v fs).map (·.1)/\∀g,g∈fs.map (·.1)->g∈(putF f v fs).map (·.1)
 |[]=>⟨by simp[putF],fun g h=>by simp at h⟩
 |(k,x)::r=>by
  obtain⟨i1,i2⟩:=ch_ f v r
  rw[show putF f v ((k,x)::r)=(if k=f then (k,v)::r else (k,x)::putF f v r) from rfl]
  by_cases hk:k=f
  ·rw[if_pos hk]
   subst hk
   exact⟨by simp,fun g h=>by simpa using h⟩
  ·rw[if_neg hk]
   refine⟨?_,fun g h=>?_⟩
   ·rw[List.map_cons]
    exact List.mem_cons_of_mem _ i1
   ·rw[List.map_cons] at h ⊢
    rcases List.mem_cons.mp h with e|e
    ·exact List.mem_cons.mpr (.inl e)
    ·exact List.mem_cons_of_mem _ (i2 g e)
theorem cF_(f:Str)(v:V):∀fs:List (Str × V),(putF f v fs).length<=fs.length+1
 |[]=>by simp[putF]
 |(k,x)::r=>by
  have ih:=cF_ f v r
  rw[show putF f v ((k,x)::r)=(if k=f then (k,v)::r else (k,x)::putF f v r) from rfl]
  by_cases hk:k=f
  ·rw[if_pos hk,List.length_cons,List.length_cons];omega
  ·rw[if_neg hk,List.length_cons,List.length_cons];omega
theorem RelO.some_of{v:V}{o:Option Value}(r:RelO (some v) o):∃u,o=some u/\RelV v u:=by
 cases o with
 |none=>exact (show False from r).elim
 |some u=>exact⟨u,rfl,r⟩
theorem RelO.none_of{o:Option Value}(r:RelO none o):o=none:=by
 cases o with
 |none=>rfl
 |some u=>exact (show False from r).elim
theorem gF_{v:V}{u:Value}(r:RelV v u):PySem.W.handedIn u=true:=by
 cases v with
 |non=>cases (show u=Value.none from r);rfl
 |bl b=>cases (show u=Value.bool b from r);rfl
 |int i=>obtain⟨t,e⟩:=(show ∃t,u=Value.int i t from r);cases e;rfl
 |str x=>obtain⟨t,e⟩:=(show ∃t,u=Value.str x t from r);cases e;rfl
 |byt b=>obtain⟨t,e⟩:=(show ∃t,u=Value.bytes b t from r);cases e;rfl
 |flt b=>obtain⟨t,e⟩:=(show ∃t,u=Value.float b t from r);cases e;rfl
 |ref a=>cases (show u=Value.ref a from r);rfl
 |ty n=>cases (show u=Value.type n from r);rfl
section
variable{P:Program}{w:World}{H H':Hp}{h h':Heap}{a C dx:Addr}{fs fs':List (Str × V)}
theorem da_(hok:HOk P w H h)(e:H a=some (.ins C dx fs)):∃mA,ObjM h a dx C mA/\(∀f,RelO (fs.lookup f) (mA f))/\PySem.Within mA (fs.map (·.1))/\fs.length<=1000/\H dx=some (.own a):=by
 obtain⟨d,z,ne,ob,mA,n,r,q⟩:=(show ObjOk P w H h a (.ins C dx fs) from hok a _ e)
 exact⟨mA,⟨ob,n,ne⟩,r,q,z,d⟩
end
structure Cls (K:PySem.W.Frag) (C:Addr):Prop where
 pg:PySem.W.plainGet K C Str.empty=true
 hd:PySem.W.hasDictIn K C=true
 po:PySem.W.plainOver K C=true
 sa:PySem.W.findIn K (.ref C) "__setattr__"=some (some (.builtin "object.__setattr__"))
theorem Cls.get{K:PySem.W.Frag}{C:Addr}(c:Cls K C)(f:Str):PySem.W.plainGet K C f=true:=c.pg
def NoAttr(K:PySem.W.Frag)(C:Addr)(f:Str):Prop:=PySem.W.findIn K (.ref C) f=some none
theorem NoAttr.taker{K:PySem.W.Frag}{C:Addr}{f:Str}(n:NoAttr K C f):PySem.W.takerIn K C f=some none:=by
 unfold PySem.W.takerIn
 rw[show PySem.W.findIn K (.ref C) f=some none from n]
 rfl
structure Con (K:PySem.W.Frag) (C:Addr) (f:Str) (v:V) (u:Value):Prop where
 at_:PySem.W.findIn K (.ref C) f=some (some u)
 rel:RelV v u
 get:PySem.W.specialIn K u "__get__"=some none
 cp:PySem.W.copiedNames.contains f=false
structure Meth (K:PySem.W.Frag) (C:Addr) (m:Str) (f:Addr):Prop where
 at_:PySem.W.findIn K (.ref C) m=some (some (.ref f))
 fn:PySem.W.isFn K (.ref f)=true
 kp:PySem.W.keepIn K (.ref f)=true
section
variable{X:Cx}{pins:List (Addr × Obj)}{σ:St}{H:Hp}{s:Shared}{a C dx:Addr}{fs:List (Str × V)}{f:Str}{v:V}{A:Around}{E:Value->Shared->Prop}
theorem fd_{b:Bool}{Q:Value->Shared->Prop}(I:Inv X pins σ H s)(e:H a=some (.ins C dx fs))(c:Cls X.K C)(n:NoAttr X.K C f)(l:fs.lookup f=some v)
  (h:∀u s',Inv X pins σ H s'->RelV v u->Q u s'):wpAny (model X.prog X.w) A (getAttr (.ref a) f b) Q E s:=by
 obtain⟨mA,O,r,_,_,_⟩:=da_ I.hok e
 obtain⟨u,hu,ru⟩:=RelO.some_of (v:=v) (o:=mA f) (by rw[<- l];exact r f)
 exact im_ I.kIn O (c.get f) c.hd n hu (gF_ ru) (h u _ (I.tok _) ru)
theorem cM_{m:Str}{g:Addr}{pl:Sem Bool}{Q:Value × List Value->Shared->Prop}(I:Inv X pins σ H s)(e:H a=some (.ins C dx fs))(c:Cls X.K C)(k:Meth X.K C m g)(l:fs.lookup m=none)
  (h:Q (.ref g,[.ref a]) s):wpAny (model X.prog X.w) A (getMethod (.ref a) m pl) Q E s:=by
 obtain⟨mA,O,r,_,_,_⟩:=da_ I.hok e
 have hn:mA m=none:=RelO.none_of (by rw[<- l];exact r m)
 exact hm_ I.kIn O (c.get m) k.at_ k.fn hn h
theorem f6_{y:V}{u:Value}{Q:Unit->Shared->Prop}(I:Inv X pins σ H s)(e:H a=some (.ins C dx fs))(c:Cls X.K C)(n:NoAttr X.K C f)(hl:fs.length<1000)(ry:RelV y u)
  (h:∀s',Inv X pins σ (upd H a (.ins C dx (putF f y fs))) s'->Q () s'):wpAny (model X.prog X.w) A (setAttr (.ref a) f u) Q E s:=by
 obtain⟨mA,O,r,wi,_,ho⟩:=da_ I.hok e
 have hz:(fs.map (·.1)).length<=sizeLine:=by rw[List.length_map,sizeLine_eq];omega
 refine j7_ I.kIn O c.sa c.po n.taker c.hd wi hz fun h' O' sb=>h _ ?_
 have hd:∃o,h'.get? dx=some o:=let ⟨o,_,_,e',_⟩:=O'.ns;⟨o,e'⟩
 refine I.write (x:=a) (e:=dx) (by rw[e];exact True.intro) (.inr ho) (fun b q hb z=>(sb.2 b hb).trans z) hd ?_
 refine⟨by rw[a5_ O.ne];exact ho,?_,O.ne,O'.obj,_,O'.ns,fun g=>?_,fun g hg=>?_⟩
 ·have:=cF_ f y fs;omega
 ·show RelO ((putF f y fs).lookup g) (if g=f then some u else mA g)
  rw[af_]
  by_cases q:g=f
  ·rw[if_pos q,if_pos q];exact ry
  ·rw[if_neg q,if_neg q];exact r g
 ·by_cases q:g=f
  ·rw[q];exact (ch_ f y fs).1
  ·refine (ch_ f y fs).2 g (wi g fun z=>hg ?_)
   show (if g=f then some u else mA g)=none
   rw[if_neg q];exact z
theorem Inv.made(I:Inv X pins σ H s):Inv X pins σ (upd (upd H s.heap.objs.size (.own (s.heap.objs.size+1))) (s.heap.objs.size+1) (.ins C s.heap.objs.size []))
  { s with heap:=(s.heap.push PySem.W.emptyDict).push (PySem.W.instObj C s.heap.objs.size) }:=by
 have e1:(s.heap.push PySem.W.emptyDict).get? s.heap.objs.size=some PySem.W.emptyDict:=Heap.get?_push_size s.heap rfl
 have e2:((s.heap.push PySem.W.emptyDict).push (PySem.W.instObj C s.heap.objs.size)).get? (s.heap.objs.size+1)=some (PySem.W.instObj C s.heap.objs.size):=by
  have:=Heap.get?_push_size (s.heap.push PySem.W.emptyDict) (o:=PySem.W.instObj C s.heap.objs.size) rfl
  rwa [Heap.size_push] at this
 have e3:(s.heap.push PySem.W.emptyDict).Ns s.heap.objs.size (fun _=>none):=⟨PySem.W.emptyDict,#[],_,e1,rfl,(fun e he=>absurd he (by simp)),fun _=>rfl⟩
 have I1:=I.laid (a:=s.heap.objs.size) (o:=.own (s.heap.objs.size+1)) (h':=s.heap.push PySem.W.emptyDict) (t':=s.toks) (fun b u q=>Heap.get?_push_of_some _ q) (Nat.le_refl _) ⟨_,e1⟩
 refine I1.laid (a:=s.heap.objs.size+1) (o:=.ins C s.heap.objs.size []) (t':=s.toks) (fun b u q=>Heap.get?_push_of_some _ q) (Nat.le_of_eq (Heap.size_push _ _)) ?_
 have ne:s.heap.objs.size≠s.heap.objs.size+1:=Nat.ne_of_lt (Nat.lt_succ_self _)
 refine⟨by rw[a5_ ne,a1_],Nat.zero_le _,ne,e2,fun _=>none,(Heap.Ns1.of_empty e3).at fun o q=>Heap.get?_push_of_some _ q,fun _=>True.intro,fun y hy=>absurd rfl hy⟩
theorem iZ_{prog:Program}{w:World}{env:Env}{e:Expr}{f:Str}{pos:Pos}{s:Shared}{Q:Value->Shared->Prop}(hb:attributeBase e f env (eval e env)=eval e env)
  (h:wpAny (model prog w) A (eval e env) (fun o s₁=>wpAny (model prog w) A (getAttr o f true) Q E s₁) E s):wpAny (model prog w) A (eval (.Attribute e f pos) env) Q E s:=
 Attribute_any_ h (by rw[arm_eval_Attribute,hb])
end
def tFld(K:PySem.W.Frag)(ta:TE)(f:Str):TE:=fun σ H Q=>ta σ H fun x H1=>∃a C dx fs v,x=.ref a/\H1 a=some (.ins C dx fs)/\Cls K C/\NoAttr K C f/\fs.lookup f=some v/\Q v H1
def sFld(K:PySem.W.Frag)(ta tv:TE)(f:Str):TS:=fun D σ H=>tv σ H fun y H1=>ta σ H1 fun x H2=>∃a C dx fs,x=.ref a/\H2 a=some (.ins C dx fs)/\Cls K C/\NoAttr K C f/\fs.length<1000 /\
 D.nx σ (upd H2 a (.ins C dx (putF f y fs)))
section
variable{X:Cx}{o e value:Expr}{f:Str}{pos pos' tpos:Pos}{ta tv:TE}
theorem aM_(he:PE X e ta)(hb:attributeBase e f X.env (eval e X.env)=eval e X.env):PE X (.Attribute e f pos) (tFld X.K ta f):=by
 intro pins s σ H Q I h
 refine iZ_ hb (thn (he pins s σ H _ I h) fun u s1 ⟨x,H1,I1,rx,a,C,dx,fs,v,ex,ea,c,n,l,q⟩=>?_)
 subst ex
 obtain rfl:u=Value.ref a:=rx
 exact fd_ I1 ea c n l fun u' s2 I2 ru=>⟨v,H1,I2,ru,q⟩
theorem cP_(ha:PE X o ta)(hv:PE X value tv)(hs:swapsWith value (some (.Attribute o f pos')) pos.line X.env=pure false):PS X (.Assign [.Attribute o f pos'] value pos) (sFld X.K ta tv f):=by
 intro pins s σ H D I h
 refine plainObj_wpAny_Assign_Attribute (thn (hv pins s σ H _ I h) fun u s1 ⟨y,H1,I1,ry,q⟩=>thn (ha pins s1 σ H1 _ I1 q) fun ov s2 ⟨x,H2,I2,rx,a,C,dx,fs,ex,ea,c,n,l,q2⟩=>?_) hs
 subst ex
 obtain rfl:ov=Value.ref a:=rx
 exact f6_ I2 ea c n l ry fun s3 I3=>⟨σ,_,I3,q2⟩
end
section
variable{X:Cx}{pins:List (Addr × Obj)}{σ:St}{H:Hp}{s:Shared}{A:Around}{E:Value->Shared->Prop}{Q:Value->Shared->Prop}{c:Value}{b:Bool}
inductive TyOf (K:PySem.W.Frag) (H:Hp):V->Value->Prop where
 |non:TyOf K H .non (.type "NoneType")
 |bl (x:Bool):TyOf K H (.bl x) (.type "bool")
 |int (i:Int):TyOf K H (.int i) (.type "int")
 |str (x:Str):TyOf K H (.str x) (.type "str")
 |flt (x:UInt64):TyOf K H (.flt x) (.type "float")
 |lst {a:Addr} {xs:List V} (e:H a=some (.lst xs)):TyOf K H (.ref a) (.type "list")
 |frz {a:Addr} {o:Obj} {xs:List V} (e:H a=some (.frz o (.lst xs))):TyOf K H (.ref a) (.type "list")
 |tup {a:Addr} {xs:List V} (e:H a=some (.tup xs)):TyOf K H (.ref a) (.type "tuple")
 |dK {a:Addr} {kvs:List (Key × V)} (e:H a=some (.dK kvs)):TyOf K H (.ref a) (.type "dict")
 |dT {a:Addr} {kvs:List (List Key × V)} (e:H a=some (.dT kvs)):TyOf K H (.ref a) (.type "dict")
 |ins {a C dx:Addr} {fs:List (Str × V)} (e:H a=some (.ins C dx fs)) (cl:Cls K C) (ha:PySem.W.findIn K (.ref C) "__class__"=some (some (.builtin "object.__class__")))
   (hn:PySem.W.specialIn K (.builtin "object.__class__") "__get__"=some (some (.builtin "getset_descriptor.__get__"))) (htk:PySem.W.takesIn K (.builtin "object.__class__")=some true)
   (hm:PySem.W.mroIn K C (.type "object")=some true):TyOf K H (.ref a) (.ref C)
theorem dU_{x:V}{u t:Value}(I:Inv X pins σ H s)(rx:RelV x u)(ty:TyOf X.K H x t)(e:PySem.W.kitOne X.K t c=some b)(h:∀tk,Q (.bool b) { s with toks:=tk }) :
  wpAny (model X.prog X.w) A (call (.builtin "isinstance") [u,c]) Q E s:=by
 cases ty with
 |non=>cases (show u=Value.none from rx);exact PySem.W.kia_one PySem.W.kitx_none I.kIn True.intro e (fun z=>nomatch z) h
 |bl y=>cases (show u=Value.bool y from rx);exact PySem.W.kia_one PySem.W.kitx_bool I.kIn True.intro e (fun z=>nomatch z) h
 |int i=>obtain⟨t,q⟩:=(show ∃t,u=Value.int i t from rx);cases q;exact PySem.W.kia_one PySem.W.kitx_int I.kIn True.intro e (fun z=>nomatch z) h
 |str y=>obtain⟨t,q⟩:=(show ∃t,u=Value.str y t from rx);cases q;exact PySem.W.kia_one PySem.W.kitx_str I.kIn True.intro e (fun z=>nomatch z) h
 |flt y=>obtain⟨t,q⟩:=(show ∃t,u=Value.float y t from rx);cases q;exact PySem.W.kia_one PySem.W.kitx_float I.kIn True.intro e (fun z=>nomatch z) h
 |@lst a xs ea=>
  cases (show u=Value.ref a from rx)
  obtain⟨_,_,n,_,h1⟩:=(show ObjOk X.prog X.w H s.heap a (.lst xs) from I.hok a _ ea)
  exact PySem.W.kia_one PySem.W.kitx_list I.kIn ⟨_,h1,rfl⟩ e (fun z=>nomatch z) h
 |@frz a ob xs ea=>
  cases (show u=Value.ref a from rx)
  obtain⟨_,_,_,n,_,h1⟩:=(show ObjOk X.prog X.w H s.heap a (.frz ob (.lst xs)) from I.hok a _ ea)
  exact PySem.W.kia_one PySem.W.kitx_list I.kIn ⟨_,h1,rfl⟩ e (fun z=>nomatch z) h
 |@tup a xs ea=>
  cases (show u=Value.ref a from rx)
  obtain⟨_,_,_,p,_⟩:=(show ObjOk X.prog X.w H s.heap a (.tup xs) from I.hok a _ ea)
  obtain⟨o,h1,h2,_⟩:=p
  exact PySem.W.kia_one PySem.W.kitx_tuple I.kIn ⟨o,h1,h2⟩ e (fun z=>nomatch z) h
 |@dK a kvs ea=>
  cases (show u=Value.ref a from rx)
  obtain⟨_,_,vs,_,p⟩:=(show ObjOk X.prog X.w H s.heap a (.dK kvs) from I.hok a _ ea)
  obtain⟨o,es,ep,h1,h2,_⟩:=p
  exact PySem.W.kia_one PySem.W.kitx_dict I.kIn ⟨o,h1,h2.1⟩ e (fun z=>nomatch z) h
 |@dT a kvs ea=>
  cases (show u=Value.ref a from rx)
  obtain⟨_,_,xs,_,o,es,ep,h1,h2,_⟩:=(show ObjOk X.prog X.w H s.heap a (.dT kvs) from I.hok a _ ea)
  exact PySem.W.kia_one PySem.W.kitx_dict I.kIn ⟨o,h1,h2.1⟩ e (fun z=>nomatch z) h
 |@ins a C dx fs ea cl ha hn htk hm=>
  cases (show u=Value.ref a from rx)
  obtain⟨mA,O,_⟩:=da_ I.hok ea
  obtain⟨od,J,_⟩:=O.look
  exact PySem.W.kia_one (PySem.W.kitx_own (cl.get _) cl.hd ha hn htk hm) I.kIn J e (fun z=>nomatch z) h
end
end L2
namespace L2
open PySem PySem.Spec PyProof.Rows
structure Room (k:Nat) (A:Around):Prop where
 hd:A.handled=none
 dp:A.depth+3 * k+5<recursionLimit
 un:A.units+16 * k+200<cLine
theorem Room.mono{j k:Nat}{A:Around}(r:Room k A)(h:j<=k):Room j A:=⟨r.hd,by have:=r.dp;omega,by have:=r.un;omega⟩
theorem Room.deeper{k:Nat}{A:Around}(r:Room (k+1) A)(env:Env):Room k (A.deeper env):=
 ⟨r.hd,by have:=r.dp;show A.depth+1+3 * k+5<_;omega,by have:=r.un;show A.units+3+16 * k+200<_;omega⟩
theorem fa_{A:Around}{C:Addr}{us:List Value}{kw:List (Str × Value)}:(A.under (.builtin "type.__call__" ⟨.ref C::us,kw⟩)).depth=A.depth+1:=by
 first|rfl|simp[Around.under,Code.weight,Code.isCreation,Code.isGuard,Code.isCaller,Code.frames,Code.isFrame,guardIds]
theorem fe_{A:Around}{C:Addr}{us:List Value}{kw:List (Str × Value)}:(A.under (.builtin "type.__call__" ⟨.ref C::us,kw⟩)).units=A.units+1:=by
 first|rfl|simp[Around.under,Code.cUnits,Code.frames,Code.isFrame]
theorem Room.make{k:Nat}{A:Around}(r:Room (k+1) A)(C:Addr)(us:List Value)(kw:List (Str × Value)):Room k (A.under (.builtin "type.__call__" ⟨.ref C::us,kw⟩)):=
 ⟨r.hd,by have:=r.dp;rw[fa_];omega,by have:=r.un;rw[fe_];omega⟩
theorem Room.depth{k:Nat}{A:Around}(r:Room k A):A.depth<recursionLimit:=by have:=r.dp;omega
theorem Room.units{k:Nat}{A:Around}(r:Room k A):A.units+64<cLine:=by have:=r.un;omega
def tNil:TA:=fun _ H Q=>Q [] H
def tCons(ta:TE)(tr:TA):TA:=fun σ H Q=>ta σ H fun x H1=>tr σ H1 fun xs H2=>Q (x::xs) H2
section
variable{X:Cx}{e:Expr}{es:List Expr}{te:TE}{t:TA}{pos:Pos}
theorem a3_:PA X [] tNil:=fun _ _ _ _ H Q I h=>Calls.spliced_nil ⟨[],H,I,.nil,h⟩
theorem a0_(ha:PE X e te)(hr:PA X es t)(hs:starEach (e::es) X.env=(false,eval e X.env)::starEach es X.env:=by rfl):PA X (e::es) (tCons te t):=by
 intro pos pins s σ H Q I h
 rw[hs]
 show wpAny _ _ (spliced ((false,eval e X.env)::backTo pos (starEach es X.env))) _ _ s
 refine Calls.spliced_cons (thn (ha pins s σ H _ I h) fun u s1 ⟨x,H1,I1,r1,q1⟩=>?_)
 exact thn (hr pos pins s1 σ H1 _ I1 q1) fun us s2 ⟨xs,H2,I2,r2,q2⟩=>⟨x::xs,H2,I2,.cons r1 r2,q2⟩
def tTup(t:TA):TE:=fun σ H Q=>t σ H fun xs H1=>xs.length<=sizeLine/\∀p,H1 p=none->Q (.ref p) (upd H1 p (.tup xs))
def tLst(t:TA):TE:=fun σ H Q=>t σ H fun xs H1=>xs.length<=sizeLine/\∀p,H1 p=none->Q (.ref p) (upd H1 p (.lst xs))
theorem aC_{x1}(h:PA X es t):PE X (.Tuple es x1 pos) (tTup t):=by
 intro pins s σ H Q I hq
 refine wpAny_Tuple_spliced (thn (h pos pins s σ H _ I hq) fun us s1 ⟨xs,H1,I1,r,z,q⟩=>⟨by rw[<- r.length];exact z,?_⟩)
 have hf:H1 s1.heap.objs.size=none:=I1.hok.fresh (Nat.le_refl _)
 refine⟨.ref s1.heap.objs.size,upd H1 s1.heap.objs.size (.tup xs),I1.laid (t':=s1.toks) (fun b u e=>Heap.get?_push_of_some _ e) (Nat.le_refl _) ?_,rfl,q _ hf⟩
 exact⟨z,us,r,⟨_,Heap.get?_push_size _ rfl,rfl,_,rfl⟩,_,Heap.get?_push_size _ rfl,rfl⟩
theorem az_(h:PA X es t):PE X (.List es pos) (tLst t):=by
 intro pins s σ H Q I hq
 refine wpAny_List_spliced (thn (h pos pins s σ H _ I hq) fun us s1 ⟨xs,H1,I1,r,z,q⟩=>⟨by rw[<- r.length];exact z,?_⟩)
 have hf:H1 s1.heap.objs.size=none:=I1.hok.fresh (Nat.le_refl _)
 refine⟨.ref s1.heap.objs.size,upd H1 s1.heap.objs.size (.lst xs),I1.laid (t':=s1.toks) (fun b u e=>Heap.get?_push_of_some _ e) (Nat.le_refl _) ?_,rfl,q _ hf⟩
 exact⟨z,us,0,r,Heap.get?_push_size _ rfl⟩
end
abbrev Sp:=List V->Hp->VK->XK->Prop
abbrev CXT:=List Env->Hp->Shared->XK->Value->Shared->Prop
structure Env0 (P:Program) (w:World) (K:PySem.W.Frag) (mg:Str->Option Value) (base:Heap) (A:Around) (outer:List Env) (s:Shared) (H:Hp):Prop where
 frames:A.frames=some outer
 mod:Mod K mg base
 bs:∀b o,base.get? b=some o->s.heap.get? b=some o/\H b=none
 bsz:base.objs.size<=s.heap.objs.size
 funs:s.heap.FunFrames base outer
 frf:∀b∈frs outer,H b=none
 hok:HOk P w H s.heap
 bare:AllBare s.gens
def CE(outer:List Env)(P:Program)(w:World)(H:Hp)(s:Shared)(Q:VK)(u:Value)(s':Shared):Prop:=
 ∃v H',s'.os=s.os/\AllBare s'.gens/\Un (frs outer) [] H H' s.heap s'.heap/\HOk P w H' s'.heap/\RelV v u/\Q v H'
def CR(CX:CXT)(outer:List Env)(P:Program)(w:World)(H:Hp)(s:Shared)(Q:VK)(E:XK)(r:Result)(s':Shared):Prop:=
 match r with
 |.ok (.ret u)=>CE outer P w H s Q u s'
 |.ok _=>False
 |.error e=>CX outer H s E e s'
structure FnOk (P:Program) (w:World) (K:PySem.W.Frag) (mg:Str->Option Value) (base:Heap) (CX:CXT) (k:Nat) (f:Addr) (fd:FuncData) (ps:List Str) (sp:Sp):Prop where
 len:∀vs H Q E,sp vs H Q E->vs.length=ps.length
 run:∀(A:Around) (outer:List Env) (s:Shared) (H:Hp) (args:Args) (us:List Value) (vs:List V) (Q:VK) (E:XK),Room k A->Env0 P w K mg base A outer s H->BindsTo s fd args (ps.zip us)->Vals vs us->sp vs H Q E->
  codeAny (model P w) A (.call (.ref f) args) (CR CX outer P w H s Q E) s
theorem FnOk.mono{P:Program}{w:World}{K:PySem.W.Frag}{mg:Str->Option Value}{base:Heap}{CX:CXT}{j k:Nat}{f:Addr}{fd:FuncData}{ps:List Str}{sp:Sp}(F:FnOk P w K mg base CX j f fd ps sp)(h:j<=k) :
  FnOk P w K mg base CX k f fd ps sp:=⟨F.len,fun A outer s H args us vs Q E hr=>F.run A outer s H args us vs Q E (hr.mono h)⟩
theorem Env0.make{P:Program}{w:World}{K:PySem.W.Frag}{mg:Str->Option Value}{base:Heap}{A:Around}{outer:List Env}{s:Shared}{H:Hp}(e:Env0 P w K mg base A outer s H)(C:Addr)(us:List Value)(kw:List (Str × Value)) :
  Env0 P w K mg base (A.under (.builtin "type.__call__" ⟨.ref C::us,kw⟩)) outer s H:=⟨by first|exact e.frames|(simpa [Around.under,Code.envs,Code.isFrame,pushEnvs] using e.frames),e.mod,e.bs,e.bsz,e.funs,e.frf,e.hok,e.bare⟩
section
variable{X:Cx}{pins:List (Addr × Obj)}{σ:St}{H:Hp}{s s':Shared}
theorem Inv.env0(I:Inv X pins σ H s):Env0 X.prog X.w X.K X.mg X.base X.A X.stack s H:=
 ⟨I.ok.frames,I.ok.mod,I.bs,Nat.le_trans I.ok.bsz I.sz,I.stack,I.stkFree,I.hok,I.bare⟩
theorem Inv.after{Q:VK}{u:Value}(I:Inv X pins σ H s)(h:CE X.stack X.prog X.w H s Q u s'):EP X pins σ Q u s':=by
 obtain⟨v,H',os,bare,un,hok,r,q⟩:=h
 obtain⟨hh,g,d,t,os'⟩:=s'
 obtain rfl:os'=s.os:=os
 exact⟨v,H',I.call (h':=hh) (g':=g) (d':=d) (t':=t) (ch:=[]) un hok bare (fun b z=>absurd z (by simp)),r,q⟩
end
def tCall(sp:Sp)(dvs:List V)(E:XK)(t:TA):TE:=fun σ H Q=>t σ H fun vs H1=>sp (vs++dvs) H1 Q E
def tMeth(C:Addr)(m:Str)(sp:Sp)(dvs:List V)(E:XK)(ta:TE)(t:TA):TE:=fun σ H Q=>ta σ H fun x H1=>∃a dx fs,x=.ref a/\H1 a=some (.ins C dx fs)/\fs.lookup m=none /\
 t σ H1 fun vs H2=>sp (x::(vs++dvs)) H2 Q E
def tMake(C:Addr)(sp:Sp)(dvs:List V)(E:XK)(t:TA):TE:=fun σ H Q=>t σ H fun vs H1=>∀x dx,H1 x=none->H1 dx=none->dx≠x->
 sp (.ref x::(vs++dvs)) (upd (upd H1 dx (.own x)) x (.ins C dx [])) (fun v H2=>v=.non/\Q (.ref x) H2) E
def Binds(K:PySem.W.Frag)(fd:FuncData)(ps:List Str)(ds:List Value):Prop:=
 ∀(s:Shared) (us:List Value),K.In s.heap->(us++ds).length=ps.length->BindsTo s fd ⟨us,[]⟩ (ps.zip (us++ds))
theorem Binds.all{K:PySem.W.Frag}{fd:FuncData}{ps:List Str}(h:∀us:List Value,us.length=ps.length->bindArgs fd ⟨us,[]⟩=pure (ps.zip us)):Binds K fd ps []:=fun s us _ hl=>by
 rw[List.append_nil] at hl ⊢
 exact .of_eq (h us hl)
def Passes(CX:CXT)(X:Cx)(E:XK):Prop:=∀(pins:List (Addr × Obj)) (σ:St) (H:Hp) (s:Shared) (e:Value) (s':Shared),Inv X pins σ H s->CX X.stack H s E e s'->X.xe e s'
section
variable{X:Cx}{CX:CXT}{k:Nat}{f C:Addr}{fd:FuncData}{ps:List Str}{sp:Sp}{dvs:List V}{ds:List Value}{E:XK}{x m:Str}{p pos apos:Pos}{e o:Expr}{es:List Expr}{ta:TE}{t:TA}
theorem eP_{pins:List (Addr × Obj)}{σ:St}{H:Hp}{s:Shared}{Q:VK}{us:List Value}{vs:List V}(F:FnOk X.prog X.w X.K X.mg X.base CX k f fd ps sp)(hr:Room k X.A)(hb:Binds X.K fd ps ds)(hd:Vals dvs ds)(hx:Passes CX X E)
  (I:Inv X pins σ H s) (r:Vals vs us) (h:sp (vs++dvs) H Q E):wpAny (model X.prog X.w) X.A (call (.ref f) us) (EP X pins σ Q) X.xe s:=by
 have r2:Vals (vs++dvs) (us++ds):=r.append hd
 have hl:(us++ds).length=ps.length:=by rw[<- r2.length];exact F.len _ _ _ _ h
 refine wpAny_call (codeAny_mono (F.run X.A X.stack s H ⟨us,[]⟩ (us++ds) (vs++dvs) Q E hr I.env0 (hb s us I.kIn hl) r2 h) fun r s' hq=>?_)
 cases r with
 |error e=>exact hx pins σ H s e s' I hq
 |ok fl=>
  cases fl with
  |ret u=>exact I.after hq
  |next=>exact False.elim hq
  |brk=>exact False.elim hq
  |cont=>exact False.elim hq
theorem gJ_(F:FnOk X.prog X.w X.K X.mg X.base CX k f fd ps sp)(hr:Room k X.A)(hg:Gl X x)(hm:X.mg x=some (.ref f))(hk:PySem.W.keepIn X.K (.ref f)=true)(hb:Binds X.K fd ps ds)(hd:Vals dvs ds)(hx:Passes CX X E)
  (ha:PA X (e::es) t) (hdb:(x == ("__debug__":Str))=false:=by decide) (he:starEach (e::es) X.env=(false,eval e X.env)::starEach es X.env:=by rfl) (hpl:(backTo pos (starEach es X.env)).any (·.1)=false:=by rfl) :
  PE X (.Call (.Name x p) (e::es) [] pos) (tCall sp dvs E t):=by
 intro pins s σ H Q I h
 refine wpAny_Call_Name_kw (bJ_ I hg hm ?_ hdb)
 refine PySem.W.callWith_K (h₀:=X.base) I.ok.mod.kin hk (thn (ha pos pins s σ H _ I h) fun us s1 ⟨vs,H1,I1,r,q⟩=>⟨I1.kIn,?_⟩) he hpl
 exact eP_ F hr hb hd hx I1 r q
theorem ha_(F:FnOk X.prog X.w X.K X.mg X.base CX k f fd ps sp)(hr:Room k X.A)(hg:Gl X x)(hm:X.mg x=some (.ref f))(hk:PySem.W.keepIn X.K (.ref f)=true)(hb:Binds X.K fd ps ds)(hd:Vals dvs ds)(hx:Passes CX X E)
  (hdb:(x == ("__debug__":Str))=false:=by decide):PE X (.Call (.Name x p) [] [] pos) (tCall sp dvs E tNil):=by
 intro pins s σ H Q I h
 refine wpAny_Call_Name_kw (bJ_ I hg hm ?_ hdb)
 exact PySem.W.callWith_K0 I.kIn hk (eP_ (us:=[]) F hr hb hd hx I .nil h)
theorem gq_{pl:Sem Bool}(he:PE X o ta)(c:Cls X.K C)(hm:Meth X.K C m f)(F:FnOk X.prog X.w X.K X.mg X.base CX k f fd ps sp)(hr:Room k X.A)(hb:Binds X.K fd ps ds)(hd:Vals dvs ds)(hx:Passes CX X E)(ha:PA X (e::es) t)
  (hst:starEach (e::es) X.env=(false,eval e X.env)::starEach es X.env:=by rfl) (hpl:(backTo pos (starEach es X.env)).any (·.1)=false:=by rfl)
  (ht:eval (.Call (.Attribute o m apos) (e::es) [] pos) X.env=(do
   let ov <- eval o X.env
   standAt apos.atName
   let (f,first) <- holding [ov] (getMethod ov m pl)
   callWith pos f first (backTo pos (starEach (e::es) X.env)) (backToKw pos (keywordEach [] X.env))):=by rfl) :
  PE X (.Call (.Attribute o m apos) (e::es) [] pos) (tMeth C m sp dvs E ta t):=by
 intro pins s σ H Q I h
 refine PySem.W.methodCall_KW (pl:=pl) (thn (he pins s σ H _ I h) fun u s1 ⟨x,H1,I1,rx,a,dx,fs,ex,ea,l,q⟩=>?_) ht
 subst ex
 obtain rfl:u=Value.ref a:=rx
 refine cM_ I1 ea c hm l ?_
 refine PySem.W.callWith_K (first:=[.ref a]) (h₀:=X.base) I.ok.mod.kin hm.kp (thn (ha pos pins s1 σ H1 _ I1 q) fun us s2 ⟨vs,H2,I2,r,q2⟩=>⟨I2.kIn,?_⟩) hst hpl
 exact eP_ (us:=.ref a::us) (vs:=.ref a::vs) F hr hb hd hx I2 (.cons rfl r) q2
theorem hD_{pl:Sem Bool}(he:PE X o ta)(c:Cls X.K C)(hm:Meth X.K C m f)(F:FnOk X.prog X.w X.K X.mg X.base CX k f fd ps sp)(hr:Room k X.A)(hb:Binds X.K fd ps ds)(hd:Vals dvs ds)(hx:Passes CX X E)
  (ht:eval (.Call (.Attribute o m apos) [] [] pos) X.env=(do
   let ov <- eval o X.env
   standAt apos.atName
   let (f,first) <- holding [ov] (getMethod ov m pl)
   callWith pos f first (backTo pos (starEach [] X.env)) (backToKw pos (keywordEach [] X.env))):=by rfl) :
  PE X (.Call (.Attribute o m apos) [] [] pos) (tMeth C m sp dvs E ta tNil):=by
 intro pins s σ H Q I h
 refine PySem.W.methodCall_KW (pl:=pl) (thn (he pins s σ H _ I h) fun u s1 ⟨x,H1,I1,rx,a,dx,fs,ex,ea,l,q⟩=>?_) ht
 subst ex
 obtain rfl:u=Value.ref a:=rx
 refine cM_ I1 ea c hm l ?_
 exact PySem.W.callWith_K0 (first:=[.ref a]) I1.kIn hm.kp (eP_ (us:=[.ref a]) (vs:=[.ref a]) F hr hb hd hx I1 (.cons rfl .nil) q)
structure Mk (K:PySem.W.Frag) (C f:Addr):Prop where
 makes:PySem.W.makesIn K C=true
 init:PySem.W.findIn K (.ref C) "__init__"=some (some (.ref f))
 fn:PySem.W.isFn K (.ref f)=true
 kp:PySem.W.keepIn K (.ref C)=true
theorem hk_{pins:List (Addr × Obj)}{σ:St}{H:Hp}{s:Shared}{Q:VK}{us:List Value}{vs:List V}(M:Mk X.K C f)(F:FnOk X.prog X.w X.K X.mg X.base CX k f fd ps sp)(hr:Room (k+1) X.A)(hb:Binds X.K fd ps ds)(hd:Vals dvs ds)
  (hx:Passes CX X E) (I:Inv X pins σ H s) (r:Vals vs us)
  (h:∀x dx,H x=none->H dx=none->dx≠x->sp (.ref x::(vs++dvs)) (upd (upd H dx (.own x)) x (.ins C dx [])) (fun v H2=>v=.non/\Q (.ref x) H2) E) :
  wpAny (model X.prog X.w) X.A (call (.ref C) us) (EP X pins σ Q) X.xe s:=by
 have hq:=h (s.heap.objs.size+1) s.heap.objs.size (I.hok.fresh (Nat.le_succ _)) (I.hok.fresh (Nat.le_refl _)) (Nat.ne_of_lt (Nat.lt_succ_self _))
 have I2:=Inv.made (C:=C) I
 have r2:Vals (V.ref (s.heap.objs.size+1)::(vs++dvs)) (Value.ref (s.heap.objs.size+1)::(us++ds)):=.cons rfl (r.append hd)
 have hl:(Value.ref (s.heap.objs.size+1)::us++ds).length=ps.length:=by
  have e:=r2.length
  rw[F.len _ _ _ _ hq] at e
  exact e.symm
 refine wpAny_call (hB_ (f:=f) I.kIn M.makes M.init (beq_iff_eq.mp M.fn) (codeAny_mono (F.run _ X.stack _ _ ⟨Value.ref (s.heap.objs.size+1)::us,[]⟩ (Value.ref (s.heap.objs.size+1)::(us++ds)) _ _ E (hr.make C us [])
  (I2.env0.make C us []) (hb _ (Value.ref (s.heap.objs.size+1)::us) I2.kIn hl) r2 hq) fun r s' hq'=>?_))
 cases r with
 |error e=>exact hx pins σ _ _ e s' I2 hq'
 |ok fl=>
  cases fl with
  |ret u=>
   obtain⟨v,H',I3,rv,ev,q3⟩:=I2.after hq'
   subst ev
   exact⟨rv,⟨V.ref (s.heap.objs.size+1),H',I3,rfl,q3⟩⟩
  |next=>exact False.elim hq'
  |brk=>exact False.elim hq'
  |cont=>exact False.elim hq'
theorem iq_(M:Mk X.K C f)(F:FnOk X.prog X.w X.K X.mg X.base CX k f fd ps sp)(hr:Room (k+1) X.A)(hg:Gl X x)(hm:X.mg x=some (.ref C))(hb:Binds X.K fd ps ds)(hd:Vals dvs ds)(hx:Passes CX X E)
  (ha:PA X (e::es) t) (hdb:(x == ("__debug__":Str))=false:=by decide) (he:starEach (e::es) X.env=(false,eval e X.env)::starEach es X.env:=by rfl) (hpl:(backTo pos (starEach es X.env)).any (·.1)=false:=by rfl) :
  PE X (.Call (.Name x p) (e::es) [] pos) (tMake C sp dvs E t):=by
 intro pins s σ H Q I h
 refine wpAny_Call_Name_kw (bJ_ I hg hm ?_ hdb)
 refine PySem.W.callWith_K (h₀:=X.base) I.ok.mod.kin M.kp (thn (ha pos pins s σ H _ I h) fun us s1 ⟨vs,H1,I1,r,q⟩=>⟨I1.kIn,?_⟩) he hpl
 exact hk_ M F hr hb hd hx I1 r q
end
section
variable{X:Cx}{CX:CXT}{k:Nat}{f C:Addr}{fd:FuncData}{ps ks:List Str}{sp:Sp}{E:XK}{x m:Str}{p pos apos kpos:Pos}{e o:Expr}{es:List Expr}{kws:List Keyword}{te ta:TE}{t tk:TA}{nm:Option Str}
structure KBinds (K:PySem.W.Frag) (fd:FuncData) (ps ks:List Str) (g:List Value->List Value->List Value) (gV:List V->List V->List V):Prop where
 to:∀(s:Shared) (us ws:List Value),K.In s.heap->(g us ws).length=ps.length->BindsTo s fd ⟨us,ks.zip ws⟩ (ps.zip (g us ws))
 rel:∀{vs:List V} {us:List Value} {zs:List V} {ws:List Value},Vals vs us->Vals zs ws->Vals (gV vs zs) (g us ws)
variable{g:List Value->List Value->List Value}{gV:List V->List V->List V}
end
structure FnScope (N P:List Str) (sc:Scope):Prop where
 kind:sc.kind=.function
 co:sc.isCoroutine=false
 gen:sc.isGenerator=false
 nd:N.Nodup
 pre:N.take P.length=P
 par:∀x∈P,sc.names.lookup x=some .local∨sc.names.lookup x=some .cell
 nofree:∀y∈sc.names,y.2≠.free
theorem ds_{kindOf:Str->Option NameKind}{x:Str}:∀{binds:List (Str × Value)} {m:Str->Option Value},(∀v,(x,v)∉binds)->bindL kindOf binds m x=m x
 |[],_,_=>rfl
 |(n,v)::r,m,h=>by
  unfold bindL
  rw[ds_ fun w hw=>h w (List.mem_cons_of_mem _ hw)]
  split
  ·have:x≠n:=by rintro rfl;exact h v List.mem_cons_self
   simp[this]
  ·rfl
theorem dz_{kindOf:Str->Option NameKind}{x:Str}:∀{binds:List (Str × Value)} {m:Str->Option Value},(∀v,(x,v)∉binds)->bindC kindOf binds m x=m x
 |[],_,_=>rfl
 |(n,v)::r,m,h=>by
  unfold bindC
  rw[dz_ fun w hw=>h w (List.mem_cons_of_mem _ hw)]
  split
  ·rfl
  ·have:x≠n:=by rintro rfl;exact h v List.mem_cons_self
   simp[this]
theorem dY_{kindOf:Str->Option NameKind}{x:Str}{v:Value}:∀{P:List Str} {vs:List Value} {i:Nat} {m:Str->Option Value},P.Nodup->P[i]? = some x->vs[i]? = some v->kindOf x=some .local->
  bindL kindOf (P.zip vs) m x=some v
 |[],_,_,_,_,h,_,_=>by simp at h
 |_::_,[],_,_,_,_,h,_=>by simp at h
 |p::P,w::vs,0,m,nd,h1,h2,hk=>by
  simp at h1 h2;subst h1;subst h2
  show bindL kindOf ((p,w)::P.zip vs) m p=_
  unfold bindL
  rw[ds_ fun v hv=>(List.nodup_cons.mp nd).1 (List.of_mem_zip hv).1,if_pos hk]
  simp
 |p::P,w::vs,i+1,m,nd,h1,h2,hk=>by
  show bindL kindOf ((p,w)::P.zip vs) m x=_
  unfold bindL
  exact dY_ (i:=i) (List.nodup_cons.mp nd).2 (by simpa using h1) (by simpa using h2) hk
theorem dH_{kindOf:Str->Option NameKind}{x:Str}{v:Value}:∀{P:List Str} {vs:List Value} {i:Nat} {m:Str->Option Value},P.Nodup->P[i]? = some x->vs[i]? = some v->kindOf x≠some .local->
  bindC kindOf (P.zip vs) m x=some v
 |[],_,_,_,_,h,_,_=>by simp at h
 |_::_,[],_,_,_,_,h,_=>by simp at h
 |p::P,w::vs,0,m,nd,h1,h2,hk=>by
  simp at h1 h2;subst h1;subst h2
  show bindC kindOf ((p,w)::P.zip vs) m p=_
  unfold bindC
  rw[dz_ fun v hv=>(List.nodup_cons.mp nd).1 (List.of_mem_zip hv).1,if_neg hk]
  simp
 |p::P,w::vs,i+1,m,nd,h1,h2,hk=>by
  show bindC kindOf ((p,w)::P.zip vs) m x=_
  unfold bindC
  exact dH_ (i:=i) (List.nodup_cons.mp nd).2 (by simpa using h1) (by simpa using h2) hk
def start(N:List Str)(vs:List V):St:=vs.map some++List.replicate (N.length - vs.length) none
def cxOf(CX:CXT)(P:Program)(w:World)(K:PySem.W.Frag)(mg:Str->Option Value)(base:Heap)(N:List Str)(qual:Str)(scope:Scope)(f:Addr)(cd:Value)(A:Around)(outer:List Env)(s:Shared)(H:Hp)(E:XK):Cx where
 prog:=P
 w:=w
 K:=K
 mg:=mg
 base:=base
 A:=A.deeper (envOfC qual scope s.heap.objs.size f cd)
 N:=N
 s₀:=s
 H₀:=H
 env:=envOfC qual scope s.heap.objs.size f cd
 outer:=outer
 stack:=envOfC qual scope s.heap.objs.size f cd::outer
 ex:=[]
 calm:=true
 fn:=fun _=>true
 pn:=[]
 xe:=fun e s'=>wpAny (model P w) (A.deeper (envOfC qual scope s.heap.objs.size f cd)) (leaving (envOfC qual scope s.heap.objs.size f cd) e) (fun _ s''=>CX outer H s E e s'') (fun e' s''=>CX outer H s E e' s'') s'
theorem et_{sc:Scope}{n:Nat}{x:Str}(h:sc.names.lookup x=some .cell):∃c,(cellsFrom n sc.names []).lookup x=some c:=by
 have q:=PySem.W.cellsFrom_some sc.names n [] (.inl h)
 exact Option.isSome_iff_exists.mp q
theorem g7_{CX:CXT}{P:Program}{w:World}{K:PySem.W.Frag}{mg:Str->Option Value}{base:Heap}{N ps:List Str}{qual:Str}{scope:Scope}{f:Addr}{cd:Value}{A:Around}{outer:List Env}{s s1:Shared}{H:Hp}{E:XK}{us:List Value}{vs:List V}
  (S:FnScope N ps scope) (hd:A.handled=none) (e0:Env0 P w K mg base A outer s H) (hl:vs.length=ps.length) (r:Vals vs us)
  (x:InCallC s s.heap.objs.size (bindL (envOfC qual scope s.heap.objs.size f cd).kindOf (ps.zip us) fun _=>none) (cellsFrom (s.heap.objs.size+1) scope.names []) (bindC (envOfC qual scope s.heap.objs.size f cd).kindOf (ps.zip us) fun _=>none) s1) :
  Inv (cxOf CX P w K mg base N qual scope f cd A outer s H E) [] (start N vs) H s1:=by
 have hpl:ps.length<=N.length:=by have:=congrArg List.length S.pre;rw[List.length_take] at this;omega
 obtain⟨h1,tk,rfl,hk⟩:=x.done
 have noA:∀b:Addr,b∉(cxOf CX P w K mg base N qual scope f cd A outer s H E).ex:=fun b z=>absurd (show b∈([]:List Addr) from z) (by simp)
 refine⟨⟨e0.mod,S.kind,rfl,rfl,Nat.le_refl _,fun y z c h1 h2=>?_,fun y hy=>?_,fun y c _ h=>?_,fun _=>hd,Around.frames_deeper e0.frames,.inr ⟨rfl,rfl⟩,fun b z=>absurd z (noA b),e0.bs,e0.bsz,fun b _ _=>noA b,fun b z=>absurd z (noA b),e0.funs,e0.frf⟩,
  rfl,e0.bare,Un.kept hk,⟨_,x.toInCall.ns,fun i y v h1 h2 h3=>?_⟩,fun y c h=>⟨_,x.cell y c h⟩,e0.hok.fresh (Nat.le_refl _),fun y c h=>?_,fun p hp=>absurd (show p∈([]:List (Addr × Obj)) from hp) (by simp),e0.hok.kept hk,?_⟩
 ·exact name_of_addr x.apart (PySem.mem_of_lookup h1) (PySem.mem_of_lookup h2)
 ·have hy:scope.names.lookup y=some .cell∨scope.names.lookup y=some .free:=hy
  rcases hy with hy|hy
  ·exact et_ hy
  ·exact absurd rfl (S.nofree _ (PySem.mem_of_lookup hy))
 ·exact Nat.le_of_lt (x.above y c (PySem.mem_of_lookup h))
 ·have hi:i<vs.length:=by
   unfold start at h2
   by_cases hi:i<vs.length
   ·exact hi
   ·rw[List.getElem?_append_right (by simpa using hi)] at h2
    rw[List.getElem?_replicate] at h2
    split at h2<;>cases h2
  have ha:vs[i]? = some v:=by
   unfold start at h2
   rw[List.getElem?_append_left (by simpa using hi),List.getElem?_map] at h2
   cases e:vs[i]? with
   |none=>rw[e] at h2;cases h2
   |some a=>rw[e] at h2;cases h2;rfl
  obtain⟨u,hu,rv⟩:=r.get ha
  have hp:ps[i]? = some y:=by
   rw[<- S.pre,List.getElem?_take_of_lt (by omega)];exact h1
  have ndP:ps.Nodup:=by rw[<- S.pre];exact S.nd.sublist (List.take_sublist _ _)
  refine⟨u,rv,?_⟩
  rcases S.par y (List.mem_of_getElem? hp) with k|k
  ·exact .inl ⟨k,dY_ ndP hp hu k⟩
  ·obtain⟨c,e⟩:=et_ (n:=s.heap.objs.size+1) k
   refine .inr ⟨.inl k,c,e,?_⟩
   have q:=x.cell y c e
   rw[dH_ ndP hp hu (by show scope.names.lookup y≠_;rw[k];decide)] at q
   exact q
 ·exact e0.hok.fresh (Nat.le_of_lt (x.above y c (PySem.mem_of_lookup h)))
 ·unfold start
  show _=N.length
  rw[List.length_append,List.length_map,List.length_replicate]
  omega
theorem hr_{CX:CXT}{P:Program}{w:World}{K:PySem.W.Frag}{mg:Str->Option Value}{base:Heap}{k:Nat}{f:Addr}{name qual:Str}{params:Arguments}{body:List Stmt}{scope:Scope}{dV kV doc pm cdv ct oc:Value}{an od:Option Addr}
  {osl:Array (Option Value)} {N ps:List Str} {sp:Sp} (lk:K.lookup f=some ⟨oc,od,.func (PySem.W.fnOf name qual params body scope dV kV doc pm an cdv ct),osl⟩) (hcd:PySem.W.codeIn K cdv qual=true) (S:FnScope N ps scope)
  (len:∀vs H Q E,sp vs H Q E->vs.length=ps.length)
  (hbody:∀(A:Around) (outer:List Env) (s:Shared) (H:Hp) (vs:List V) (Q:VK) (E:XK),Room k (A.deeper (envOfC qual scope s.heap.objs.size f cdv))->sp vs H Q E->
   ∃t,PSs (cxOf CX P w K mg base N qual scope f cdv A outer s H E) body t/\t { nx:=fun _ H'=>Q .non H',rt:=Q } (start N vs) H) :
  FnOk P w K mg base CX (k+1) f (PySem.W.fnOf name qual params body scope dV kV doc pm an cdv ct) ps sp:=by
 refine⟨len,fun A outer s H args us vs Q E hr e0 hb r hsp=>?_⟩
 have hl:=len _ _ _ _ hsp
 have KX:K.In s.heap:=e0.mod.kin.keeps fun b o e=>(e0.bs b o e).1
 have lim:s.heap.NoLimit:=e0.mod.nolimit.keeps fun b o e=>(e0.bs b o e).1
 have hkind:∀y∈ps.zip us,scope.names.lookup y.1=some .local∨(scope.names.lookup y.1=some .cell/\((cellsFrom (s.heap.objs.size+1) scope.names []).lookup y.1).isSome=true):=fun⟨n,v⟩ hy=>by
  rcases S.par n (List.of_mem_zip hy).1 with q|q
  ·exact .inl q
  ·exact .inr ⟨q,PySem.W.cellsFrom_some _ _ _ (.inl q)⟩
 refine codeAny_call_function hr.depth (KX _ _ lk) rfl S.co S.gen rfl (PySem.W.codeRec_of KX hcd) (hb _ _ _ _ ?_)
 refine wpAny_newFunctionEnv_cells S.kind hkind fun env he s1 x=>?_
 subst he
 refine⟨lim.keeps x.toInCall.keep,codeAny_func ?_⟩
 obtain⟨t,ht,hq⟩:=hbody A outer s H vs Q E (hr.deeper _) hsp
 have I:Inv (cxOf CX P w K mg base N qual scope f cdv A outer s H E) [] (start N vs) H s1:=g7_ S hr.hd e0 hl r x
 refine wpAny_mono (ht [] s1 (start N vs) H _ I hq) (fun fl s' hs=>?_) fun e s' hs=>hs
 have fin:∀{σ':St} {H':Hp} {v:V} {u:Value},Inv (cxOf CX P w K mg base N qual scope f cdv A outer s H E) [] σ' H' s'->RelV v u->Q v H'->CE outer P w H s Q u s':=
  fun {σ' H' v u} J rv q=>⟨v,H',J.os,J.bare,J.base,J.hok,rv,q⟩
 cases fl with
 |ret u=>
  obtain⟨v,σ',H',J,rv,q⟩:=hs
  exact fin J rv q
 |next=>
  obtain⟨σ',H',J,q⟩:=hs
  exact fin (v:=V.non) (u:=Value.none) J rfl q
 |brk=>
  obtain⟨_,_,_,q⟩:=hs
  exact False.elim q
 |cont=>
  obtain⟨_,_,_,q⟩:=hs
  exact False.elim q
end L2
namespace L2
open PySem PySem.Spec PyProof.Rows
section
variable{X:Cx}{x:Str}{p pos:Pos}{e:Expr}{es:List Expr}{t:TA}{id T:String}{r:List V->Hp->VK->Prop}
def tCB(r:List V->Hp->VK->Prop)(t:TA):TE:=fun σ H Q=>t σ H fun vs H1=>r vs H1 Q
theorem a8_(hc:CallR X (.builtin id) r)(hg:Gl X x)(hm:X.mg x=none)(hv:bootBuiltins x=some (.builtin id))(ha:PA X (e::es) t)(hn:x≠"__name__":=by decide)(hdb:(x == ("__debug__":Str))=false:=by decide)
  (he:starEach (e::es) X.env=(false,eval e X.env)::starEach es X.env:=by rfl) (hpl:(backTo pos (starEach es X.env)).any (·.1)=false:=by rfl):PE X (.Call (.Name x p) (e::es) [] pos) (tCB r t):=by
 intro pins s σ H Q I h
 refine wpAny_Call_Name_kw (dG_ I hg hm hv ?_ hn hdb)
 exact PyProof.Rows.callWith_builtin1 (thn (ha pos pins s σ H _ I h) fun us s1 ⟨vs,H1,I1,r1,q1⟩=>hc pins s1 σ H1 vs us Q I1 r1 q1) he hpl
theorem aJ_(hc:CallR X (.type T) r)(hg:Gl X x)(hm:X.mg x=none)(hv:bootBuiltins x=some (.type T))(ha:PA X (e::es) t)(hn:x≠"__name__":=by decide)(hdb:(x == ("__debug__":Str))=false:=by decide)
  (he:starEach (e::es) X.env=(false,eval e X.env)::starEach es X.env:=by rfl) (hpl:(backTo pos (starEach es X.env)).any (·.1)=false:=by rfl):PE X (.Call (.Name x p) (e::es) [] pos) (tCB r t):=by
 intro pins s σ H Q I h
 refine wpAny_Call_Name_kw (dG_ I hg hm hv ?_ hn hdb)
 exact PyProof.Rows.callWith_type1 (thn (ha pos pins s σ H _ I h) fun us s1 ⟨vs,H1,I1,r1,q1⟩=>hc pins s1 σ H1 vs us Q I1 r1 q1) he hpl
end
end L2
namespace HT
open PySem PyProof.Rows
section
open PySem.SeqAt
open PySem.AutoSeq1 (wpAny_loadPart')
open PySem.MeetsSeq PySem.MeetsSeq2 PySem.MeetsSeq3
end
section
variable{prog:Program}{w:World}{A:Around}{E:Value->Shared->Prop}{s:Shared}
def sIx(n d:Nat):Option Int->Nat
 |none=>d
 |some v=>if v<0 then (v+(n:Int)).toNat else min v.toNat n
theorem sIx_none(n d:Nat):sIx n d none=d:=rfl
theorem sIx_nat(n d k:Nat):sIx n d (some (k:Int))=min k n:=by
 show (if (k:Int)<0 then ((k:Int)+(n:Int)).toNat else min (k:Int).toNat n)=min k n
 rw[if_neg (by omega),Int.toNat_natCast]
end
end HT
namespace L2
open PySem PySem.Spec PyProof.Rows
abbrev TO:=St->Hp->(Option Int->Hp->Prop)->Prop
def PO(X:Cx)(e:Option Expr)(t:TO):Prop:=
 ∀(pins:List (Addr × Obj)) (s:Shared) (σ:St) (H:Hp) (Q:Option Int->Hp->Prop),Inv X pins σ H s->t σ H Q->
  wpAny (model X.prog X.w) X.A (evalPart e X.env) (fun u s'=>∃o H',Inv X pins σ H' s'/\IsPart u o/\Q o H') X.xe s
def tNoPart:TO:=fun _ H Q=>Q none H
def tPart(t:TE):TO:=fun σ H Q=>t σ H fun x H1=>∃i,x=.int i/\Q (some i) H1
section
variable{X:Cx}{e:Expr}{te:TE}{lo hi:Option Expr}{tl th:TO}{pos p2:Pos}
theorem jl_:PO X none tNoPart:=by
 intro pins s σ H Q I h
 rw[evalPart_none]
 exact wpAny_pure ⟨none,H,I,.none,h⟩
theorem iR_(h:PE X e te):PO X (some e) (tPart te):=by
 intro pins s σ H Q I hw
 rw[evalPart_some]
 refine thn (h pins s σ H _ I hw) fun u s1 ⟨x,H1,I1,r1,q1⟩=>?_
 obtain⟨i,rfl,q⟩:=q1
 obtain⟨t,rfl⟩:=r1
 exact⟨some i,H1,I1,.int i t,q⟩
def SlR(X:Cx)(r:V->Option Int->Option Int->Hp->VK->Prop):Prop:=
 ∀(pins:List (Addr × Obj)) (s:Shared) (σ:St) (H:Hp) (x:V) (v vl vu:Value) (lo hi:Option Int) (sl:Addr) (Q:VK),Inv X pins σ H s->RelV x v->s.heap.IsSliceOf sl vl vu .none->IsPart vl lo->IsPart vu hi->r x lo hi H Q->
  ∃T id,typeLookup (.type T) "__getitem__"=pure (some (.builtin id))/\s.TypeIs v T/\wpAny (model X.prog X.w) X.A (getItem v (.ref sl)) (EP X pins σ Q) X.xe s
def tSl(r:V->Option Int->Option Int->Hp->VK->Prop)(te:TE)(tl th:TO):TE:=fun σ H Q=>te σ H fun x H1=>tl σ H1 fun l H2=>th σ H2 fun u H3=>r x l u H3 Q
theorem hV_{r:V->Option Int->Option Int->Hp->VK->Prop}(hr:SlR X r)(he:PE X e te)(hl:PO X lo tl)(hu:PO X hi th):PE X (.Subscript e (.Slice lo hi none p2) pos) (tSl r te tl th):=by
 intro pins s σ H Q I h
 refine Subscript_ (thn (he pins s σ H _ I h) fun v s1 ⟨x,H1,I1,r1,q1⟩=>?_)
 refine wpAny_Slice (thn (hl pins s1 σ H1 _ I1 q1) fun vl s2 ⟨l,H2,I2,pl,q2⟩=>thn (hu pins s2 σ H2 _ I2 q2) fun vu s3 ⟨u,H3,I3,pu,q3⟩=>?_)
 rw[evalPart_none]
 refine wpAny_pure ?_
 have I4:Inv X pins σ H3 { s3 with heap:=s3.heap.push { cls:=.type "slice",data:=.fields #[vl,vu,.none] } }:=I3.kept (t':=s3.toks) fun b ob q=>Heap.get?_push_of_some _ q
 obtain⟨T,id,hT,ht,hg⟩:=hr pins { s3 with heap:=s3.heap.push { cls:=.type "slice",data:=.fields #[vl,vu,.none] } } σ H3 x v vl vu l u s3.heap.objs.size Q I4 r1 (Heap.IsSliceOf.new ..) pl pu q3
 show wpAny (model X.prog X.w) X.A (subscriptTail e (.Slice lo hi none p2) v (.ref s3.heap.objs.size)) (EP X pins σ Q) X.xe { s3 with heap:=s3.heap.push { cls:=.type "slice",data:=.fields #[vl,vu,.none] } }
 exact tail_any (ops:=[.ref s3.heap.objs.size,v]) ht hT hg (by with_unfolding_all rfl)
def cutV(xs:List V)(lo hi:Option Int):List V:=(xs.drop (HT.sIx xs.length 0 lo)).take (HT.sIx xs.length xs.length hi - HT.sIx xs.length 0 lo)
theorem ef_(xs:List V)(lo hi:Option Int):(cutV xs lo hi).length<=xs.length:=by
 unfold cutV
 rw[List.length_take,List.length_drop]
 omega
end
end L2
namespace L2
open PySem PySem.Spec PyProof.Rows
def ixN(n:Nat)(i:Int):Option Nat:=if 0<=i then (if i<n then some i.toNat else none) else if -(n:Int)<=i then some (i+n).toNat else none
def atI{α:Type}(xs:List α)(i:Int):Option α:=(ixN xs.length i).bind fun j=>xs[j]?
theorem fM_{n:Nat}{i:Int}{j:Nat}(h:ixN n i=some j):seqIndex? i n=some j/\j<n/\-(n:Int)<=i/\i<n:=by
 unfold ixN at h
 by_cases h0:0<=i
 ·rw[if_pos h0] at h
  by_cases h1:i<n
  ·rw[if_pos h1] at h
   have e:i.toNat=j:=Option.some.inj h
   exact⟨by rw[seqIndex_of h0 h1,e],by omega,by omega,h1⟩
  ·rw[if_neg h1] at h;cases h
 ·rw[if_neg h0] at h
  by_cases h1:-(n:Int)<=i
  ·rw[if_pos h1] at h
   have e:(i+n).toNat=j:=Option.some.inj h
   exact⟨by rw[seqIndex_neg (by omega) h1,e],by omega,h1,by omega⟩
  ·rw[if_neg h1] at h;cases h
theorem gN_{α:Type}{xs:List α}{i:Int}{v:α}(h:atI xs i=some v):∃j,seqIndex? i xs.length=some j/\xs[j]? = some v/\j<xs.length/\-(xs.length:Int)<=i/\i<xs.length:=by
 unfold atI at h
 cases e:ixN xs.length i with
 |none=>rw[e] at h;cases h
 |some j=>
  rw[e] at h
  obtain⟨h1,h2,h3,h4⟩:=fM_ e
  exact⟨j,h1,h,h2,h3,h4⟩
def PlainIx(b:Expr):Prop:=∀o i,subscripted b false o i=operate [o,i] (getItem o i)
def IxR(X:Cx)(r:R2):Prop:=
 ∀(value slice:Expr) (pins:List (Addr × Obj)) (s:Shared) (σ:St) (H:Hp) (x y:V) (v u:Value) (Q:VK),Inv X pins σ H s->RelV x v->RelV y u->r x y H Q->
  subscripted slice false v u=operate [v,u] (getItem v u)->wpAny (model X.prog X.w) X.A (subscriptTail value slice v u) (EP X pins σ Q) X.xe s
def MtR(X:Cx)(id:String)(r:V->List V->Hp->VK->Prop):Prop:=
 ∀(pins:List (Addr × Obj)) (s:Shared) (σ:St) (H:Hp) (x:V) (xs:List V) (v:Value) (us:List Value) (Q:VK),Inv X pins σ H s->RelV x v->Vals xs us->r x xs H Q->
  wpAny (model X.prog X.w) X.A (call (.builtin id) (v::us)) (EP X pins σ Q) X.xe s
section
variable{X:Cx}{a b:Expr}{ta tb:TE}{pos:Pos}
theorem as_{r:R2}(hr:IxR X r)(ha:PE X a ta)(hb:PE X b tb)(hs:PlainIx b):PE X (.Subscript a b pos) (tOp r ta tb):=by
 intro pins s σ H Q I h
 exact Subscript_ (binT ha hb I h fun v u s2 x y H2 I2 rx ry q=>hr a b pins s2 σ H2 x y v u Q I2 rx ry q (hs _ _))
def rIxL(K:PySem.W.Frag):R2:=fun x y H Q=>∃p xs i v,x=.ref p/\y=.int i/\SqL K H p xs/\atI xs i=some v/\Q v H
def rIxT(K:PySem.W.Frag):R2:=fun x y H Q=>∃p xs i v,x=.ref p/\y=.int i/\SqT K H p xs/\atI xs i=some v/\Q v H
theorem aI_:IxR X (rIxL X.K):=by
 intro value slice pins s σ H x y v u Q I rx ry h hs
 obtain⟨p,xs,i,z,rfl,rfl,hq,he,q⟩:=h
 cases rx
 obtain⟨t,rfl⟩:=ry
 obtain⟨its,r,pl,hz⟩:=I.list hq
 obtain⟨j,h1,h2,h3,h4,h5⟩:=gN_ he
 obtain⟨w,ew,rw'⟩:=r.get h2
 have hl:=r.length
 have hn:=line63
 have fin:EP X pins σ Q w s:=⟨z,H,I,rw',q⟩
 by_cases h0:0<=i
 ·have hj:i.toNat=j:=by
   rw[seqIndex_of h0 h5] at h1
   exact Option.some.inj h1
  exact item_listR pl.isList h0 (by omega) (by rw[hj];simpa using ew) fin hs
 ·have hj:(i+(its.toArray.size:Int)).toNat=j:=by
   rw[seqIndex_neg (by omega) h4] at h1
   rw[List.size_toArray,<- hl]
   exact Option.some.inj h1
  exact subscriptTail_builtinR (x:=w) pl.isList.typeIs slot_list_getitem.lookup
   (wpAny_getItem_list_neg (Q:=fun r s'=>r=w/\EP X pins σ Q r s') pl.isList (by omega) (by rw[List.size_toArray]<;>omega) (by omega) (by rw[hj];simpa using ew) ⟨rfl,fin⟩) hs
theorem ar_:IxR X (rIxT X.K):=by
 intro value slice pins s σ H x y v u Q I rx ry h hs
 obtain⟨p,xs,i,z,rfl,rfl,hq,he,q⟩:=h
 cases rx
 obtain⟨t,rfl⟩:=ry
 obtain⟨its,r,pl,hz⟩:=I.tuple hq
 obtain⟨j,h1,h2,h3,h4,h5⟩:=gN_ he
 obtain⟨w,ew,rw'⟩:=r.get h2
 have hl:=r.length
 have hn:=line63
 have fin:EP X pins σ Q w s:=⟨z,H,I,rw',q⟩
 exact subscriptTail_builtinR (x:=w) pl.typeIs slot_tuple_getitem.lookup
  (getItem_tuple (j:=j) (Q:=fun r s'=>r=w/\EP X pins σ Q r s') pl (by omega) (by omega) (by rw[List.size_toArray,<- hl];exact h1) (by simpa using ew) ⟨rfl,fin⟩) hs
theorem f4_(its:List Value)(n j:Nat)(u:Value):Obj.mapSeq (·.setIfInBounds j u) { cls:=.type "list",data:=.seq its.toArray n }={ cls:=.type "list",data:=.seq (its.set j u).toArray n }:=by
 simp[Obj.mapSeq]
theorem Inv.lst{pins:List (Addr × Obj)}{σ:St}{H:Hp}{s:Shared}{p:Addr}{xs:List V}(I:Inv X pins σ H s)(h:H p=some (.lst xs)) :
  ∃(its:List Value) (n:Nat),Vals xs its/\s.heap.get? p=some { cls:=.type "list",data:=.seq its.toArray n }/\xs.length<=sizeLine:=by
 obtain⟨z,its,n,r,e⟩:=I.hok p _ h
 exact⟨its,n,r,e,z⟩
theorem Inv.lstUpd{pins:List (Addr × Obj)}{σ:St}{H:Hp}{s:Shared}{p:Addr}{xs ys:List V}{its its':List Value}{n n':Nat}{f:Obj->Obj}(I:Inv X pins σ H s)(h:H p=some (.lst xs))
  (ho:s.heap.get? p=some { cls:=.type "list",data:=.seq its.toArray n }) (hf:f { cls:=.type "list",data:=.seq its.toArray n }={ cls:=.type "list",data:=.seq its'.toArray n' }) (r:Vals ys its') (hz:ys.length<=sizeLine) (t:Nat) :
  Inv X pins σ (upd H p (.lst ys)) { s with heap:=s.heap.update p f,toks:=t }:=by
 have e:(s.heap.update p f).get? p=some { cls:=.type "list",data:=.seq its'.toArray n' }:=by
  rw[Heap.get?_update_self f ho (by rw[hf]<;>rfl),hf]
 refine I.write (x:=p) (e:=p) (by rw[h];trivial) (.inl rfl) (fun b u hb q=>(Heap.get?_update_other _ _ (Ne.symm hb)).trans q) ⟨_,e⟩ ?_
 exact⟨hz,its',n',r,e⟩
def rSetL:V->V->V->Hp->(Hp->Prop)->Prop:=fun o i v H Q=>∃p xs k j,o=.ref p/\i=.int k/\H p=some (.lst xs)/\ixN xs.length k=some j/\Q (upd H p (.lst (xs.set j v)))
theorem eM_:PSet X rSetL:=by
 intro pins s σ H o i v ov iv u Q I ro ri rv h
 obtain⟨p,xs,k,j,rfl,rfl,hp,hj,q⟩:=h
 cases ro
 obtain⟨t,rfl⟩:=ri
 obtain⟨its,n,r,ho,hz⟩:=I.lst hp
 obtain⟨h1,h2,h3,h4⟩:=fM_ hj
 have hl:=r.length
 have hn:=line63
 have I':Inv X pins σ (upd H p (.lst (xs.set j v))) { s with heap:=s.heap.update p (Obj.mapSeq (·.setIfInBounds j u)) }:=
  I.lstUpd hp ho (f4_ its n j u) (r.set rv j) (by rw[List.length_set];exact hz) s.toks
 by_cases h0:0<=k
 ·have hk:k.toNat=j:=by
   rw[seqIndex_of h0 h4] at h1
   exact Option.some.inj h1
  exact PySem.W.ki_setAt ho h0 (by omega) (by rw[List.size_toArray,<- hl];exact h4) (by rw[hk];exact⟨_,I',q⟩)
 ·have hk:(k+(its.toArray.size:Int)).toNat=j:=by
   rw[seqIndex_neg (by omega) h3] at h1
   rw[List.size_toArray,<- hl]
   exact Option.some.inj h1
  exact PySem.W.ki_setBack ho (by omega) (by rw[List.size_toArray,<- hl];exact h3) (by omega) (by rw[hk];exact⟨_,I',q⟩)
theorem dy_(lo hi:Option Int)(n:Nat):(sliceBounds lo hi none n).1=((HT.sIx n 0 lo:Nat):Int)/\(sliceBounds lo hi none n).2.1=((HT.sIx n n hi:Nat):Int)/\(sliceBounds lo hi none n).2.2=1:=by
 refine⟨?_,?_,rfl⟩
 ·cases lo with
  |none=>simp[sliceBounds,HT.sIx]
  |some i=>
   simp only[sliceBounds,HT.sIx,Option.getD_none,show (1:Int) > 0 by decide,if_true]
   by_cases h:i<0
   ·simp only[h,if_true]<;>omega
   ·simp only[h,if_false]<;>omega
 ·cases hi with
  |none=>simp[sliceBounds,HT.sIx]
  |some i=>
   simp only[sliceBounds,HT.sIx,Option.getD_none,show (1:Int) > 0 by decide,if_true]
   by_cases h:i<0
   ·simp only[h,if_true]<;>omega
   ·simp only[h,if_false]<;>omega
theorem dg_(its:List Value)(lo hi:Option Int):slicePick its.toArray lo hi none=((its.drop (HT.sIx its.length 0 lo)).take (HT.sIx its.length its.length hi - HT.sIx its.length 0 lo)).toArray:=by
 obtain⟨h1,h2,h3⟩:=dy_ lo hi its.toArray.size
 unfold slicePick
 rw[h1,h2,h3]
 simp only[sliceRange_one,pick_run,List.size_toArray]<;>rfl
def rSlL(K:PySem.W.Frag):V->Option Int->Option Int->Hp->VK->Prop:=fun x lo hi H Q=>∃a xs,x=.ref a/\SqL K H a xs/\∀p,H p=none->Q (.ref p) (upd H p (.lst (cutV xs lo hi)))
theorem iN_:SlR X (rSlL X.K):=by
 intro pins s σ H x v vl vu lo hi sl Q I rx hs pl pu h
 obtain⟨a,xs,rfl,hx,q⟩:=h
 cases rx
 obtain⟨its,r,ht,hz⟩:=I.list hx
 have hlen:=r.length
 refine⟨"list",_,slot_list_getitem.lookup,ht.isList.typeIs,?_⟩
 refine wpAny_getItem_list_slice ht.isList hs pl pu .none (by simp) ?_ (by rw[List.size_toArray]<;>omega)
 rw[dg_,<- hlen]
 refine⟨.ref s.heap.objs.size,_,I.laid (t':=s.toks) (o:=.lst (cutV xs lo hi)) (fun b ob q=>Heap.get?_push_of_some _ q) (Nat.le_refl _) ?_,rfl,q _ (I.hok.fresh (Nat.le_refl _))⟩
 exact⟨Nat.le_trans (ef_ xs lo hi) hz,_,0,(r.drop (HT.sIx xs.length 0 lo)).take (HT.sIx xs.length xs.length hi - HT.sIx xs.length 0 lo),Heap.get?_push_size _ rfl⟩
def flatV:V->Bool
 |.non=>true
 |.bl _=>true
 |.int _=>true
 |.str _=>true
 |_=>false
def eqV:V->V->Bool
 |.non,.non=>true
 |.bl a,.bl b=>a == b
 |.bl a,.int b=>(if a then 1 else 0) == b
 |.int a,.bl b=>a == (if b then 1 else 0)
 |.int a,.int b=>a == b
 |.str a,.str b=>a == b
 |_,_=>false
theorem fJ_{A:Around}{s:Shared}{y x:V}{u v:Value}(ry:RelV y u)(rx:RelV x v)(fy:flatV y=true)(fx:flatV x=true):SeqAt.EqAt A s u v (eqV y x):=by
 cases y with
 |non=>
  cases ry
  cases x with
  |non=>cases rx;exact SeqAt.EqAt.same _
  |bl b=>cases rx;exact SeqAt.EqAt.none_bool b
  |int b=>obtain⟨t,rfl⟩:=rx;exact SeqAt.EqAt.none_int b t
  |str b=>obtain⟨t,rfl⟩:=rx;exact SeqAt.EqAt.none_str b t
  |_=>exact absurd (show false=true from fx) Bool.false_ne_true
 |bl a=>
  cases ry
  cases x with
  |non=>cases rx;exact SeqAt.EqAt.bool_none a
  |bl b=>cases rx;exact SeqAt.EqAt.bool_bool a b
  |int b=>obtain⟨t,rfl⟩:=rx;exact SeqAt.EqAt.bool_int a b t
  |str b=>obtain⟨t,rfl⟩:=rx;exact SeqAt.EqAt.bool_str a b t
  |_=>exact absurd (show false=true from fx) Bool.false_ne_true
 |int a=>
  obtain⟨t',rfl⟩:=ry
  cases x with
  |non=>cases rx;exact SeqAt.EqAt.int_none a t'
  |bl b=>cases rx;exact SeqAt.EqAt.int_bool a t' b
  |int b=>obtain⟨t,rfl⟩:=rx;exact SeqAt.EqAt.int_int a t' b t
  |str b=>obtain⟨t,rfl⟩:=rx;exact SeqAt.EqAt.int_str a t' b t
  |_=>exact absurd (show false=true from fx) Bool.false_ne_true
 |str a=>
  obtain⟨t',rfl⟩:=ry
  cases x with
  |non=>cases rx;exact SeqAt.EqAt.str_none a t'
  |bl b=>cases rx;exact SeqAt.EqAt.str_bool a t' b
  |int b=>obtain⟨t,rfl⟩:=rx;exact SeqAt.EqAt.str_int a t' b t
  |str b=>obtain⟨t,rfl⟩:=rx;exact SeqAt.EqAt.str_str a t' b t
  |_=>exact absurd (show false=true from fx) Bool.false_ne_true
 |_=>exact absurd (show false=true from fy) Bool.false_ne_true
def eqU(x:V)(u:Value):Bool:=match u with
 |.none=>eqV .non x
 |.bool b=>eqV (.bl b) x
 |.int i _=>eqV (.int i) x
 |.str z _=>eqV (.str z) x
 |_=>false
theorem eC_{x y:V}{u:Value}(r:RelV y u)(f:flatV y=true):eqU x u=eqV y x:=by
 cases y with
 |non=>cases r;rfl
 |bl b=>cases r;rfl
 |int i=>obtain⟨t,rfl⟩:=r;rfl
 |str z=>obtain⟨t,rfl⟩:=r;rfl
 |_=>exact absurd (show false=true from f) Bool.false_ne_true
theorem cl_{x:V}:∀{xs:List V} {us:List Value},Vals xs us->xs.all flatV=true->us.any (eqU x)=xs.any fun y=>eqV y x
 |_,_,.nil,_=>rfl
 |y::xs,u::us,.cons r t,f=>by
  rw[List.all_cons,Bool.and_eq_true] at f
  rw[List.any_cons,List.any_cons,eC_ r f.1,cl_ t f.2]
theorem bi_{A:Around}{s:Shared}{x:V}{v:Value}(rx:RelV x v)(fx:flatV x=true):∀{xs:List V} {us:List Value},Vals xs us->xs.all flatV=true->∀u∈us,SeqAt.EqAt A s u v (eqU x u)
 |_,_,.nil,_=>fun u hu=>by cases hu
 |y::xs,u::us,.cons r t,f=>fun u' hu=>by
  rw[List.all_cons,Bool.and_eq_true] at f
  rcases List.mem_cons.mp hu with rfl|hu
  ·rw[eC_ r f.1];exact fJ_ r rx f.1 fx
  ·exact bi_ rx fx t f.2 u' hu
def inV(x:V)(xs:List V):Bool:=xs.any fun y=>eqV y x
def rIn(K:PySem.W.Frag)(neg:Bool):R2:=fun x y H Q=>∃p xs,y=.ref p/\(SqL K H p xs∨SqT K H p xs)/\flatV x=true/\xs.all flatV=true/\Q (.bl (if neg then !inV x xs else inV x xs)) H
theorem fw_:OpR X (compareOp .In) (rIn X.K false):=by
 intro pins s σ H x y v u Q I rx ry h
 obtain⟨p,xs,rfl,hq,fx,fs,q⟩:=h
 cases ry
 rcases hq with hq|hq
 ·obtain⟨its,r,pl,hz⟩:=I.list hq
  refine SeqAt.in_listAt (eqU x) pl.isList (fun w hw=>bi_ rx fx r fs w (by simpa using hw)) ⟨.bl _,H,I,rfl,?_⟩
  rw[show its.toArray.any (eqU x)=its.any (eqU x) by simp,cl_ r fs]
  exact q
 ·obtain⟨its,r,pl,hz⟩:=I.tuple hq
  refine SeqAt.in_tupleAt (eqU x) pl (fun w hw=>bi_ rx fx r fs w (by simpa using hw)) ⟨.bl _,H,I,rfl,?_⟩
  rw[show its.toArray.any (eqU x)=its.any (eqU x) by simp,cl_ r fs]
  exact q
theorem b4_:OpR X (compareOp .NotIn) (rIn X.K true):=by
 intro pins s σ H x y v u Q I rx ry h
 obtain⟨p,xs,rfl,hq,fx,fs,q⟩:=h
 cases ry
 rcases hq with hq|hq
 ·obtain⟨its,r,pl,hz⟩:=I.list hq
  refine SeqAt.notIn_listAt (eqU x) pl.isList (fun w hw=>bi_ rx fx r fs w (by simpa using hw)) ⟨.bl _,H,I,rfl,?_⟩
  rw[show its.toArray.any (eqU x)=its.any (eqU x) by simp,cl_ r fs]
  exact q
 ·obtain⟨its,r,pl,hz⟩:=I.tuple hq
  refine SeqAt.notIn_tupleAt (eqU x) pl (fun w hw=>bi_ rx fx r fs w (by simpa using hw)) ⟨.bl _,H,I,rfl,?_⟩
  rw[show its.toArray.any (eqU x)=its.any (eqU x) by simp,cl_ r fs]
  exact q
theorem ai_:CallR X (.builtin "len") (fun xs H Q=>∃p ys,xs=[.ref p]/\(SqL X.K H p ys∨SqT X.K H p ys)/\Q (.int ys.length) H):=by
 intro pins s σ H xs us Q I r h
 obtain⟨p,ys,rfl,hq,q⟩:=h
 obtain⟨u,rfl,rx⟩:=vals1 r
 cases rx
 have hn:=line63
 rcases hq with hq|hq
 ·obtain⟨its,r',pl,hz⟩:=I.list hq
  have hlen:=r'.length
  exact Calls.call_len_list pl.isList (by simp only[List.size_toArray]<;>omega) ⟨.int ys.length,H,I.tok _,⟨s.toks+1,by rw[List.size_toArray,hlen]⟩,q⟩
 ·obtain⟨its,r',pl,hz⟩:=I.tuple hq
  have hlen:=r'.length
  exact len_tuple pl (by simp only[List.size_toArray]<;>omega) ⟨.int ys.length,H,I.tok _,⟨s.toks+1,by rw[List.size_toArray,hlen]⟩,q⟩
theorem e1_:CallR X (.builtin "len") (fun xs H Q=>∃z,xs=[.str z]/\z.length<=sizeLine/\Q (.int z.length) H):=by
 intro pins s σ H xs us Q I r h
 obtain⟨z,rfl,hz,q⟩:=h
 obtain⟨u,rfl,t,rfl⟩:=vals1 r
 have hn:=line63
 exact len_str (by omega) ⟨.int z.length,H,I.tok _,⟨_,rfl⟩,q⟩
def tyV(K:PySem.W.Frag)(T:String)(x:V)(H:Hp):Prop:=match x with
 |.str _=>T="str"
 |.int _=>T="int"
 |.ref p=>(T="list"/\∃xs,SqL K H p xs)∨(T="tuple"/\∃o,K.lookup p=some o/\o.cls=.type "tuple"/\o.dict=none) ∨
   (T="dict"/\((∃kvs,H p=some (.dK kvs))∨∃kvs,H p=some (.dT kvs)))∨(T="set"/\∃S n,H p=some (.set S n))
 |_=>False
theorem jX_{pins:List (Addr × Obj)}{σ:St}{H:Hp}{s:Shared}{T:String}{x:V}{v:Value}(I:Inv X pins σ H s)(r:RelV x v)(ty:tyV X.K T x H) :
  s.TypeIs v T/\∀a,v=.ref a->∃ob,s.heap.get? a=some ob/\ob.dict=none:=by
 cases x with
 |str z=>
  obtain⟨t,rfl⟩:=r
  cases (show T="str" from ty)
  exact⟨typeIs_str s z t,fun _ e=>nomatch e⟩
 |int i=>
  obtain⟨t,rfl⟩:=r
  cases (show T="int" from ty)
  exact⟨typeIs_int s i t,fun _ e=>nomatch e⟩
 |ref p=>
  cases r
  rcases ty with⟨rfl,xs,hq⟩|⟨rfl,o,hk,hc,hd⟩|⟨rfl,hk⟩|⟨rfl,S,n,hk⟩
  ·obtain⟨its,_,pl,_⟩:=I.list hq
   refine⟨pl.isList.typeIs,fun a e=>?_⟩
   cases e
   obtain⟨o,n,e,c,hd,_⟩:=pl
   exact⟨o,e,hd⟩
  ·refine⟨⟨o,I.kIn p o hk,hc⟩,fun a e=>?_⟩
   cases e
   exact⟨o,I.kIn _ o hk,hd⟩
  ·have z:∃o,s.heap.get? p=some o/\o.ExactDict:=by
    rcases hk with⟨kvs,hk⟩|⟨kvs,hk⟩
    ·obtain⟨_,_,_,_,o,_,_,e,ex,_⟩:=I.hok p _ hk
     exact⟨o,e,ex⟩
    ·obtain⟨_,_,_,_,o,_,_,e,ex,_⟩:=I.hok p _ hk
     exact⟨o,e,ex⟩
   obtain⟨o,e,ex⟩:=z
   refine⟨⟨o,e,ex.1⟩,fun a e2=>?_⟩
   cases e2
   exact⟨o,e,ex.2.1⟩
  ·obtain⟨o,_,_,_,e,ex,_⟩:=I.hok p _ hk
   refine⟨⟨o,e,ex.1⟩,fun a e2=>?_⟩
   cases e2
   exact⟨o,e,ex.2.1⟩
 |_=>exact False.elim ty
def tBM(K:PySem.W.Frag)(T:String)(r:V->List V->Hp->VK->Prop)(to:TE)(t:TA):TE:=fun σ H Q=>to σ H fun x H1=>tyV K T x H1/\t σ H1 fun xs H2=>r x xs H2 Q
variable{o e:Expr}{es:List Expr}{to:TE}{t:TA}{name:Str}{apos cpos:Pos}{T id:String}{r:V->List V->Hp->VK->Prop}
theorem fl_(pa:PlainAttrs T)(slot:Slot T name id)(hty:typeOf (.builtin id)=pure (.type "method_descriptor"))(hm:MtR X id r)(ho:PE X o to)(ha:PA X (e::es) t)
  (hbase:attributeBase o name X.env (eval o X.env)=eval o X.env:=by rfl)
  (hfew:((backTo cpos (starEach (e::es) X.env)).all (fun x=>!x.1)&&(backToKw cpos (keywordEach [] X.env)).all (fun x=>x.1.isSome)
   && decide ((e::es).length+([]:List Keyword).length+(if ([]:List Keyword).isEmpty then 0 else 1)<30))=true:=by rfl)
  (hline:(apos.endLine == cpos.line)=true:=by rfl) (hs:starEach (e::es) X.env=(false,eval e X.env)::starEach es X.env:=by rfl) (hplain:(backTo cpos (starEach es X.env)).any (·.1)=false:=by rfl) :
  PE X (.Call (.Attribute o name apos) (e::es) [] cpos) (tBM X.K T r to t):=by
 intro pins s σ H Q I h
 refine wpAny_Call_method_late hbase hfew hline rfl (thn (ho pins s σ H _ I h) fun v s1 ⟨x,H1,I1,r1,ty,q1⟩=>?_)
 obtain⟨h1,h2⟩:=jX_ I1 r1 ty
 refine⟨T,id,pa,slot,hty,h1,h2,?_⟩
 have hA:=ha cpos pins s1 σ H1 _ I1 q1
 rw[hs] at hA ⊢
 refine Calls.callWith_builtin (by show (false || (backTo cpos (starEach es X.env)).any (·.1))=false;rw[hplain]<;>rfl) (Calls.evalArgs_plain ?_)
 exact thn hA fun us s2 ⟨vs,H2,I2,r2,q2⟩=>hm pins s2 σ H2 x vs v us Q I2 r1 r2 q2
/- xs.append(e),list.index on a module's tuple .. are MtR facts of 06m -/
end
end L2
namespace L2
open PySem PySem.Spec PyProof.Rows
def MtM(X:Cx)(id:String)(r:V->List V->Hp->VK->Prop):Prop:=
 ∀(pins:List (Addr × Obj)) (s:Shared) (σ:St) (H:Hp) (x:V) (xs:List V) (v:Value) (us:List Value) (Q:VK),Inv X pins σ H s->RelV x v->Vals xs us->r x xs H Q->
  wpAny (model X.prog X.w) X.A (call (.builtin id) (v::us)) (EP X pins σ Q) X.xe s
theorem Vals.one:∀{x:V} {us:List Value},Vals [x] us->∃u,us=[u]/\RelV x u
 |_,_,.cons r .nil=>⟨_,rfl,r⟩
theorem Vals.rep{xs:List V}{us:List Value}(h:Vals xs us):∀k:Nat,Vals (List.replicate k xs).flatten (List.replicate k us).flatten
 |0=>.nil
 |k+1=>by
  rw[List.replicate_succ,List.replicate_succ,List.flatten_cons,List.flatten_cons]
  exact Vals.append h (Vals.rep h k)
theorem dV_(its:List Value):∀(k:Nat) (acc:List Value),
  List.foldl (fun x1 x2=>x1++x2) acc.toArray (List.replicate k its.toArray)=(acc++(List.replicate k its).flatten).toArray
 |0,acc=>by simp
 |k+1,acc=>by
  have e:acc.toArray++its.toArray=(acc++its).toArray:=by simp
  have e2:(acc++its)++(List.replicate k its).flatten=acc++(List.replicate (k+1) its).flatten:=by
   rw[List.replicate_succ,List.flatten_cons,List.append_assoc]
  rw[<- e2,<- dV_ its k (acc++its),<- e,List.replicate_succ,List.foldl_cons]
section
variable{X:Cx}{pins:List (Addr × Obj)}{σ:St}{H:Hp}{s:Shared}{l b:Addr}{xs ys zs:List V}
theorem Inv.lset{its its':List Value}{n:Nat}{f:Array Value->Array Value}{t':Nat}(I:Inv X pins σ H s)(hH:H l=some (.lst xs))
  (e:s.heap.get? l=some { cls:=.type "list",data:=.seq its.toArray n }) (hf:f its.toArray=its'.toArray) (hv:Vals ys its') (hz:ys.length<=sizeLine) :
  Inv X pins σ (upd H l (.lst ys)) { s with heap:=s.heap.update l (Obj.mapSeq f),toks:=t' }:=by
 have q:=PySem.IsL.update e f
 rw[hf] at q
 refine I.write (x:=l) (e:=l) (by rw[hH];exact trivial) (.inl rfl) (fun b' u hb hu=>(Heap.get?_update_other s.heap (Obj.mapSeq f) (Ne.symm hb)).trans hu) ⟨_,q⟩ ?_
 exact⟨hz,its',_,hv,q⟩
theorem Inv.lnew{its:List Value}{t':Nat}(I:Inv X pins σ H s)(hv:Vals ys its)(hz:ys.length<=sizeLine) :
  Inv X pins σ (upd H s.heap.objs.size (.lst ys)) { s with heap:=s.heap.push { cls:=.type "list",data:=.seq its.toArray },toks:=t' }:=
 I.laid (fun _ _ q=>Heap.get?_push_of_some _ q) (Nat.le_refl _) ⟨hz,its,0,hv,Heap.get?_push_size _ rfl⟩
theorem Inv.fresh(I:Inv X pins σ H s):H s.heap.objs.size=none:=I.hok.fresh (Nat.le_refl _)
theorem Inv.lstM(I:Inv X pins σ H s)(hH:H l=some (.lst xs)):xs.length<=sizeLine/\∃(its:List Value) (n:Nat),Vals xs its/\xs.length=its.length/\s.heap.get? l=some { cls:=.type "list",data:=.seq its.toArray n }:=by
 obtain⟨z,its,n,r,e⟩:=I.hok l _ hH
 exact⟨z,its,n,r,r.length,e⟩
theorem notLongL{n:Nat}(h:n<=sizeLine):Builtin.List.listTooLong n=false:=by
 unfold Builtin.List.listTooLong
 exact decide_eq_false (by omega)
end
section
variable{X:Cx}
def rAppend:V->List V->Hp->VK->Prop:=fun x vs H Q=>∃l xs y,x=.ref l/\vs=[y]/\H l=some (.lst xs)/\xs.length<sizeLine/\Q .non (upd H l (.lst (xs++[y])))
theorem bX_:MtM X "list.append" rAppend:=by
 intro pins s σ H x vs v us Q I rx rv h
 obtain⟨l,xs,y,rfl,rfl,hH,hz,q⟩:=h
 cases rx
 obtain⟨u,rfl,ru⟩:=rv.one
 obtain⟨z,its,n,r,hl,e⟩:=I.lstM hH
 refine call_meets F.slot_list_append ⟨_,e,rfl⟩ F.entry_list_append (F.args_list_append_2 _ _) (PySem.list_append l its.toArray n u (by rw[List.size_toArray];omega)) ⟨e,?_⟩
 refine⟨.non,_,I.lset (its':=its++[u]) hH e (by simp) (r.append (.cons ru .nil)) ?_,rfl,q⟩
 rw[List.length_append,List.length_singleton]
 omega
def rCat:R2:=fun x y H Q=>∃l b xs zs,x=.ref l/\y=.ref b/\H l=some (.lst xs)/\H b=some (.lst zs)/\xs.length+zs.length<=sizeLine/\∀p,H p=none->Q (.ref p) (upd H p (.lst (xs++zs)))
theorem cK_:OpR X (binaryOp .Add) rCat:=by
 intro pins s σ H x y v u Q I rx ry h
 obtain⟨l,b,xs,zs,rfl,rfl,hH,hB,hz,q⟩:=h
 cases rx
 cases ry
 obtain⟨z,its,n,r,hl,e⟩:=I.lstM hH
 obtain⟨z2,its2,n2,r2,hl2,e2⟩:=I.lstM hB
 refine PySem.P.add_list e e2 ?_ (by rw[List.size_toArray,List.size_toArray];omega)
 have ea:its.toArray++its2.toArray=(its++its2).toArray:=by simp
 rw[ea]
 exact⟨.ref _,_,I.lnew (t':=s.toks) (r.append r2) (by rw[List.length_append];omega),rfl,q _ I.fresh⟩
def rRep:R2:=fun x y H Q=>∃l k xs,x=.ref l/\y=.int k/\H l=some (.lst xs)/\-(2 ^ 63)<=k/\k<2 ^ 63/\xs.length * k.toNat<=sizeLine /\
 ∀p,H p=none->Q (.ref p) (upd H p (.lst (List.replicate k.toNat xs).flatten))
theorem j1_{α:Type}(xs:List α)(k:Nat):(List.replicate k xs).flatten.length=k * xs.length:=by
 induction k with
 |zero=>simp
 |succ k ih=>rw[List.replicate_succ,List.flatten_cons,List.length_append,ih,Nat.succ_mul,Nat.add_comm]
theorem jW_:OpR X (binaryOp .Mult) rRep:=by
 intro pins s σ H x y v u Q I rx ry h
 obtain⟨l,k,xs,rfl,rfl,hH,h1,h2,hz,q⟩:=h
 cases rx
 obtain⟨t,rfl⟩:=ry
 obtain⟨z,its,n,r,hl,e⟩:=I.lstM hH
 have hlen:its.toArray.size * k.toNat<=sizeLine:=by rw[List.size_toArray,<- hl];exact hz
 have hcap:¬its.toArray.size * k.toNat > (2 ^ 63 - 1) / 8:=by
  have:(sizeLine:Nat)<=(2 ^ 63 - 1) / 8:=by decide
  omega
 have hfit:¬(!Builtin.List.listFitsIndex k)=true:=by
  rw[fitsIndex_both h1 h2]
  exact Bool.false_ne_true
 have hlong:¬Builtin.List.listTooLong (its.toArray.size * k.toNat)=true:=by
  rw[notLongL hlen]
  exact Bool.false_ne_true
 have hnew:List.foldl (fun x1 x2=>x1++x2) #[] (List.replicate (if its.toArray.isEmpty=true then 0 else k.toNat) its.toArray)=(List.replicate k.toNat its).flatten.toArray:=by
  have f0:∀m:Nat,List.foldl (fun x1 x2=>x1++x2) #[] (List.replicate m its.toArray)=(List.replicate m its).flatten.toArray:=fun m=>by
   have:=dV_ its m []
   rw[List.nil_append] at this
   exact this
  rw[f0]
  cases its with
  |nil=>simp
  |cons a r'=>rw[if_neg (by simp)]
 refine wpAny_binaryOp_repeat_ref (T:="list") (U:="int") (by decide) ⟨_,e,rfl⟩ (fun s'=>typeIs_int s' k t) noFill_list_mul F.fills_int_mul F.slot_int_rmul repeat_list F.slot_int_index.lookup
  (call_meets F.slot_int_rmul (typeIs_int s k t) F.entry_int_rmul (F.args_int_rmul_2 _ _) (int___rmul___int_list k t l its.toArray n)
   ⟨e,rfl,⟨_,e,rfl⟩,call_meets F.slot_list_mul ⟨_,e,rfl⟩ F.entry_list_mul (F.args_list_mul_2 _ _) (AutoListH.list___mul___list_int_3 l its.toArray n k t hfit hcap hlong) ⟨e,?_⟩⟩)
 rw[hnew]
 exact⟨.ref _,_,I.lnew (t':=s.toks) (r.rep k.toNat) (by rw[j1_,Nat.mul_comm];exact hz),rfl,q _ I.fresh⟩
end
section
variable{prog:Program}{w:World}{A:Around}{E:Value->Shared->Prop}{s:Shared}
end
section
variable{X:Cx}
end
end L2
namespace L2
open PySem PySem.Spec PyProof.Rows
section
variable{κ:Type}[DecidableEq κ]
def valV(kvs:List (κ × V))(k:κ):Option V:=(kvs.find? fun kv=>decide (kv.1=k)).map (·.2)
def putK(kvs:List (κ × V))(k:κ)(v:V):List (κ × V):=
 if (kvs.any fun kv=>decide (kv.1=k))=true then kvs.map (fun kv=>if kv.1=k then (kv.1,v) else kv) else kvs++[(k,v)]
theorem bl_{p:κ × V}{r:List (κ × V)}{k:κ}(e:p.1=k):valV (p::r) k=some p.2:=by simp[valV,List.find?_cons,e]
theorem bj_{p:κ × V}{r:List (κ × V)}{k:κ}(e:¬p.1=k):valV (p::r) k=valV r k:=by simp[valV,List.find?_cons,e]
theorem bL_(k:κ):∀kvs:List (κ × V),(kvs.any fun kv=>decide (kv.1=k))=(valV kvs k).isSome
 |[]=>rfl
 |p::r=>by
  rw[List.any_cons]
  by_cases e:p.1=k
  ·simp only[bl_ e,decide_eq_true e,Bool.true_or,Option.isSome_some]
  ·rw[bj_ e,decide_eq_false e,Bool.false_or];exact bL_ k r
theorem bK_(kvs:List (κ × V))(k:κ)(v:V):(putK kvs k v).length<=kvs.length+1:=by
 unfold putK
 split
 ·rw[List.length_map];omega
 ·rw[List.length_append,List.length_cons,List.length_nil];omega
theorem bA_{kvs:List (κ × V)}{k:κ}(v:V)(h:valV kvs k=none):putK kvs k v=kvs++[(k,v)]:=by
 unfold putK
 rw[bL_,h]
 exact if_neg (by decide)
theorem RelO.isSome_eq{o:Option V}{u:Option Value}(r:RelO o u):o.isSome=u.isSome:=by
 cases o with
 |none=>cases u with
  |none=>rfl
  |some _=>exact (show False from r).elim
 |some _=>cases u with
  |none=>exact (show False from r).elim
  |some _=>rfl
theorem KV.val{kvs:List (κ × V)}{vs:List (κ × Value)}(r:KV kvs vs)(k:κ):RelO (valV kvs k) (valueAt vs k):=by
 unfold KV at r
 induction r with
 |nil=>exact True.intro
 |@cons p q ps qs h t ih=>
  obtain⟨h1,h2⟩:=h
  by_cases e:p.1=k
  ·have e':q.1=k:=h1.symm.trans e
   have b:valueAt (q::qs) k=some q.2:=by simp[valueAt,List.find?_cons,e']
   rw[bl_ e,b];exact h2
  ·have e':¬q.1=k:=fun z=>e (h1.trans z)
   have b:valueAt (q::qs) k=valueAt qs k:=by simp[valueAt,List.find?_cons,e']
   rw[bj_ e,b];exact ih
theorem KV.any{kvs:List (κ × V)}{vs:List (κ × Value)}(r:KV kvs vs)(k:κ):(kvs.any fun kv=>decide (kv.1=k))=vs.any fun kv=>decide (kv.1=k):=by
 unfold KV at r
 induction r with
 |nil=>rfl
 |cons h t ih=>rw[List.any_cons,List.any_cons,ih,h.1]
theorem KV.repl{kvs:List (κ × V)}{vs:List (κ × Value)}(r:KV kvs vs)(k:κ){y:V}{u:Value}(ry:RelV y u) :
  KV (kvs.map fun kv=>if kv.1=k then (kv.1,y) else kv) (vs.map fun kv=>if kv.1=k then (kv.1,u) else kv):=by
 unfold KV at r ⊢
 induction r with
 |nil=>exact .nil
 |@cons p q ps qs h t ih=>
  rw[List.map_cons,List.map_cons]
  refine .cons ?_ ih
  obtain⟨h1,h2⟩:=h
  by_cases e:p.1=k
  ·rw[if_pos e,if_pos (h1.symm.trans e)];exact⟨h1,ry⟩
  ·rw[if_neg e,if_neg (fun z=>e (h1.trans z))];exact⟨h1,h2⟩
theorem KV.put{kvs:List (κ × V)}{vs:List (κ × Value)}(r:KV kvs vs)(k:κ){y:V}{u:Value}(ry:RelV y u):KV (putK kvs k y) (stored vs k u):=by
 unfold putK stored
 rw[r.any k]
 by_cases e:(vs.any fun kv=>decide (kv.1=k))=true
 ·rw[if_pos e,if_pos e];exact r.repl k ry
 ·rw[if_neg e,if_neg e];exact Paired.snoc r ⟨rfl,ry⟩
theorem KV.keys{kvs:List (κ × V)}{vs:List (κ × Value)}(r:KV kvs vs):kvs.map (·.1)=vs.map (·.1):=by
 unfold KV at r
 induction r with
 |nil=>rfl
 |cons h t ih=>rw[List.map_cons,List.map_cons,ih,h.1]
theorem KV.length{kvs:List (κ × V)}{vs:List (κ × Value)}(r:KV kvs vs):kvs.length=vs.length:=Paired.length r
end
theorem d6_{P:Program}{w:World}{k:Key}{u:Value}(r:RelV (kV k) u):(mixKind P w).is k u=true:=by
 cases k with
 |inl i=>obtain⟨t,e⟩:=(show ∃t,u=Value.int i t from r);subst e;exact e6_ P w i t
 |inr x=>obtain⟨t,e⟩:=(show ∃t,u=Value.str x t from r);subst e;exact bI_ P w x t
theorem dT_{P:Program}{w:World}:∀{ks:List Key} {us:List Value},Vals (ks.map kV) us->ItemsAre (mixKind P w) ks us
 |[],_,r=>by rw[List.map_nil] at r;cases r;exact .nil
 |k::ks,_,r=>by
  rw[List.map_cons] at r
  cases r with
  |cons h t=>exact .cons (d6_ h) (dT_ t)
abbrev KT(H:Hp):List (List Key × V)->List (List Key × Addr × Value)->Prop:=Paired fun p q=>p.1=q.1/\H q.2.1=some (.tup (p.1.map kV))/\RelV p.2 q.2.2
theorem KT.val{H:Hp}{kvs:List (List Key × V)}{xs:List (List Key × Addr × Value)}(r:KT H kvs xs)(k:List Key):RelO (valV kvs k) ((atKey xs k).map (·.2)):=by
 induction r with
 |nil=>exact True.intro
 |@cons p q ps qs h t ih=>
  obtain⟨h1,_,h2⟩:=h
  by_cases e:p.1=k
  ·have e':q.1=k:=h1.symm.trans e
   have b:atKey (q::qs) k=some q.2:=by simp[atKey,List.find?_cons,e']
   rw[bl_ e,b];exact h2
  ·have e':¬q.1=k:=fun z=>e (h1.trans z)
   have b:atKey (q::qs) k=atKey qs k:=by simp[atKey,List.find?_cons,e']
   rw[bj_ e,b];exact ih
theorem KT.repl{H:Hp}{kvs:List (List Key × V)}{xs:List (List Key × Addr × Value)}(r:KT H kvs xs)(k:List Key){y:V}{u:Value}(ry:RelV y u) :
  KT H (kvs.map fun kv=>if kv.1=k then (kv.1,y) else kv) (xs.map (putAt k u)):=by
 induction r with
 |nil=>exact .nil
 |@cons p q ps qs h t ih=>
  rw[List.map_cons,List.map_cons]
  refine .cons ?_ ih
  obtain⟨h1,h2,h3⟩:=h
  unfold putAt
  by_cases e:p.1=k
  ·rw[if_pos e,if_pos (h1.symm.trans e)];exact⟨h1,h2,ry⟩
  ·rw[if_neg e,if_neg (fun z=>e (h1.trans z))];exact⟨h1,h2,h3⟩
theorem KT.put{H:Hp}{kvs:List (List Key × V)}{xs:List (List Key × Addr × Value)}(r:KT H kvs xs)(k:List Key){b:Addr}{y:V}{u:Value}(hb:H b=some (.tup (k.map kV)))(ry:RelV y u) :
  KT H (putK kvs k y) (storedH xs k b u):=by
 have e:(kvs.any fun kv=>decide (kv.1=k))=(atKey xs k).isSome:=by
  rw[bL_,(r.val k).isSome_eq,Option.isSome_map]
 unfold putK storedH
 rw[e]
 by_cases q:(atKey xs k).isSome=true
 ·rw[if_pos q,if_pos q];exact r.repl k ry
 ·rw[if_neg q,if_neg q];exact Paired.snoc r ⟨rfl,hb,ry⟩
theorem KT.keeps{H H':Hp}{kvs:List (List Key × V)}{xs:List (List Key × Addr × Value)}(r:KT H kvs xs)(ht:∀b ys,H b=some (.tup ys)->H' b=some (.tup ys)):KT H' kvs xs:=
 Paired.mapP r fun _ _ z=>⟨z.1,ht _ _ z.2.1,z.2.2⟩
section
variable{P:Program}{w:World}{H:Hp}{h:Heap}{a:Addr}
theorem jD_{u:HO}(ok:HOk P w H h)(e:Rd H a u):ObjOk P w H h a u:=e.ok ok
theorem bO_{kvs:List (Key × V)}(ok:HOk P w H h)(e:Rd H a (.dK kvs)):kvs.length<=sizeLine/\(a == sysModules)=false/\∃vs,KV kvs vs/\h.DictOf (mixKind P w) a vs:=
 show ObjOk P w H h a (.dK kvs) from jD_ ok e
theorem ei_{kvs:List (Key × V)}(ok:HOk P w H h)(e:H a=some (.dK kvs)):kvs.length<=sizeLine/\(a == sysModules)=false/\∃vs,KV kvs vs/\h.DictOf (mixKind P w) a vs:=bO_ ok (.inl e)
theorem dB_{ks:List Key}(ok:HOk P w H h)(e:H a=some (.tup (ks.map kV))):(tupleKind (mixKind P w)).is h ks a:=by
 obtain⟨_,its,r,⟨o,h1,h2,n,h3⟩,_⟩:=(show ObjOk P w H h a (.tup (ks.map kV)) from ok a _ e)
 exact⟨o,its.toArray,n,h1,h2,h3,by simpa using dT_ r⟩
theorem fc_{kvs:List (List Key × V)}(ok:HOk P w H h)(e:Rd H a (.dT kvs)):kvs.length<=sizeLine/\(a == sysModules)=false /\
  ∃xs,KT H kvs xs/\h.DictOfH (tupleKind (mixKind P w)) a xs:=by
 obtain⟨z,y,xs,r,o,es,ep,h1,h2,h3,h4,h5⟩:=(show ObjOk P w H h a (.dT kvs) from jD_ ok e)
 refine⟨z,y,xs,r,o,es,ep,h1,h2,h3,h4,fun x hx=>?_,h5⟩
 have all:∀{l:List (List Key × V)} {m:List (List Key × Addr × Value)},KT H l m->∀x∈m,(tupleKind (mixKind P w)).is h x.1 x.2.1:=by
  intro l m q
  induction q with
  |nil=>intro x hx;exact nomatch hx
  |@cons p q ps qs hq t ih=>
   intro x hx
   rcases List.mem_cons.mp hx with e|hx
   ·subst e
    exact dB_ ok (by rw[<- hq.1];exact hq.2.1)
   ·exact ih x hx
 exact all r x hx
theorem k3_{kvs:List (List Key × V)}(ok:HOk P w H h)(e:H a=some (.dT kvs)):kvs.length<=sizeLine/\(a == sysModules)=false /\
  ∃xs,KT H kvs xs/\h.DictOfH (tupleKind (mixKind P w)) a xs:=fc_ ok (.inl e)
end
def DGet(H:Hp)(a:Addr)(y:V)(r:Option V):Prop:=
 (∃kvs k,Rd H a (.dK kvs)/\y=kV k/\r=valV kvs k)∨∃kvs k b,Rd H a (.dT kvs)/\y=.ref b/\H b=some (.tup (k.map kV))/\r=valV kvs k
def DPut(H:Hp)(a:Addr)(y v:V)(H':Hp):Prop:=
 (∃kvs k,H a=some (.dK kvs)/\y=kV k/\kvs.length<sizeLine/\H'=upd H a (.dK (putK kvs k v))) ∨
 ∃kvs k b,H a=some (.dT kvs)/\y=.ref b/\H b=some (.tup (k.map kV))/\kvs.length<sizeLine/\H'=upd H a (.dT (putK kvs k v))
theorem DGet.k{H:Hp}{a:Addr}{kvs:List (Key × V)}{k:Key}(e:H a=some (.dK kvs)):DGet H a (kV k) (valV kvs k):=.inl ⟨kvs,k,.inl e,rfl,rfl⟩
theorem DGet.t{H:Hp}{a b:Addr}{kvs:List (List Key × V)}{k:List Key}(e:H a=some (.dT kvs))(eb:H b=some (.tup (k.map kV))):DGet H a (.ref b) (valV kvs k):=.inr ⟨kvs,k,b,.inl e,rfl,eb,rfl⟩
theorem DPut.k{H:Hp}{a:Addr}{kvs:List (Key × V)}{k:Key}{v:V}(e:H a=some (.dK kvs))(hl:kvs.length<sizeLine):DPut H a (kV k) v (upd H a (.dK (putK kvs k v))):=.inl ⟨kvs,k,e,rfl,hl,rfl⟩
theorem DPut.t{H:Hp}{a b:Addr}{kvs:List (List Key × V)}{k:List Key}{v:V}(e:H a=some (.dT kvs))(eb:H b=some (.tup (k.map kV)))(hl:kvs.length<sizeLine) :
  DPut H a (.ref b) v (upd H a (.dT (putK kvs k v))):=.inr ⟨kvs,k,b,e,rfl,eb,hl,rfl⟩
section
variable{X:Cx}{pins:List (Addr × Obj)}{σ:St}{H:Hp}{s:Shared}{a:Addr}{y v:V}{u r:Value}{o:Option V}{A:Around}{E:Value->Shared->Prop}
theorem Inv.big(I:Inv X pins σ H s):sysModules<s.heap.objs.size:=by
 have h:mainGlobals<s.heap.objs.size:=(I.mod.glob.keeps I.bk).lt
 exact Nat.lt_trans (by decide) h
theorem fB_{Q:Value->Shared->Prop}(hu:A.units+1<cLine)(I:Inv X pins σ H s)(g:DGet H a y (some v))(ry:RelV y u)(h:∀w' s',Inv X pins σ H s'->RelV v w'->Q w' s') :
  wpAny (model X.prog X.w) A (getItem (.ref a) u) Q E s:=by
 rcases g with⟨kvs,k,e,ey,l⟩|⟨kvs,k,b,e,ey,eb,l⟩
 ·subst ey
  obtain⟨z,hd,vs,rel,dd⟩:=bO_ I.hok e
  obtain⟨w',hw,rw'⟩:=RelO.some_of (v:=v) (o:=valueAt vs k) (by rw[l];exact rel.val k)
  exact wpAny_getItem_of (d6_ ry) dd.mapOf hw (h w' _ (I.tok _) rw')
 ·subst ey
  cases (show u=Value.ref b from ry)
  obtain⟨z,hd,xs,rel,dd⟩:=fc_ I.hok e
  obtain⟨w',hw,rw'⟩:=RelO.some_of (v:=v) (o:=(atKey xs k).map (·.2)) (by rw[l];exact rel.val k)
  obtain⟨p,hp,hp2⟩:=Option.map_eq_some_iff.mp hw
  refine wpAny_getItem_heap (tupleKind_room_in1 hu) (dB_ I.hok eb) dd hp ?_
  rw[hp2]
  exact h w' _ (I.tok _) rw'
theorem d_in{Q:Value->Shared->Prop}(hu:A.units+1<cLine)(I:Inv X pins σ H s)(g:DGet H a y o)(ry:RelV y u)(h:∀s',Inv X pins σ H s'->Q (.bool o.isSome) s') :
  wpAny (model X.prog X.w) A (compareOp .In u (.ref a)) Q E s:=by
 rcases g with⟨kvs,k,e,ey,l⟩|⟨kvs,k,b,e,ey,eb,l⟩
 ·subst ey
  obtain⟨z,hd,vs,rel,dd⟩:=bO_ I.hok e
  refine wpAny_in_of (d6_ ry) hd dd.mapOf ?_
  rw[<- (rel.val k).isSome_eq,<- l]
  exact h _ (I.tok _)
 ·subst ey
  cases (show u=Value.ref b from ry)
  obtain⟨z,hd,xs,rel,dd⟩:=fc_ I.hok e
  refine wpAny_in_heap (tupleKind_room_in1 hu) (dB_ I.hok eb) hd dd ?_
  have q:=(rel.val k).isSome_eq
  rw[Option.isSome_map] at q
  rw[<- q,<- l]
  exact h _ (I.tok _)
theorem iI_{Q:Value->Shared->Prop}(hu:A.units+1<cLine)(I:Inv X pins σ H s)(g:DGet H a y o)(ry:RelV y u)(h:∀s',Inv X pins σ H s'->Q (.bool (!o.isSome)) s') :
  wpAny (model X.prog X.w) A (compareOp .NotIn u (.ref a)) Q E s:=by
 rcases g with⟨kvs,k,e,ey,l⟩|⟨kvs,k,b,e,ey,eb,l⟩
 ·subst ey
  obtain⟨z,hd,vs,rel,dd⟩:=bO_ I.hok e
  refine wpAny_notIn_of (d6_ ry) hd dd.mapOf ?_
  rw[<- (rel.val k).isSome_eq,<- l]
  exact h _ (I.tok _)
 ·subst ey
  cases (show u=Value.ref b from ry)
  obtain⟨z,hd,xs,rel,dd⟩:=fc_ I.hok e
  refine wpAny_notIn_heap (tupleKind_room_in1 hu) (dB_ I.hok eb) hd dd ?_
  have q:=(rel.val k).isSome_eq
  rw[Option.isSome_map] at q
  rw[<- q,<- l]
  exact h _ (I.tok _)
theorem e2_{h':Heap}{t':Nat}{ob:HO}(I:Inv X pins σ H s)(mu:Mut (H a))(hs:Heap.SameBut a s.heap h')(he:∃q,h'.get? a=some q)(new:ObjOk X.prog X.w (upd H a ob) h' a ob) :
  Inv X pins σ (upd H a ob) { s with heap:=h',toks:=t' }:=
 I.write (x:=a) (e:=a) mu (.inl rfl) (fun b q hb z=>(hs.2 b hb).trans z) he new
theorem fy_{P:Program}{w:World}{H':Hp}{h':Heap}{kvs:List (Key × V)}{vs:List (Key × Value)}(z:kvs.length<=sizeLine)(hd:(a == sysModules)=false)(rel:KV kvs vs)(dd:h'.DictOf (mixKind P w) a vs) :
  ObjOk P w H' h' a (.dK kvs):=⟨z,hd,vs,rel,dd⟩
theorem gA_{H':Hp}{Q:Unit->Shared->Prop}(hu:A.units+1<cLine)(I:Inv X pins σ H s)(g:DPut H a y v H')(ry:RelV y u)(rv:RelV v r)(h:∀s',Inv X pins σ H' s'->Q () s') :
  wpAny (model X.prog X.w) A (setItem (.ref a) u r) Q E s:=by
 rcases g with⟨kvs,k,e,ey,l,eH⟩|⟨kvs,k,b,e,ey,eb,l,eH⟩
 ·subst ey eH
  obtain⟨z,hd,vs,rel,dd⟩:=ei_ I.hok e
  have hz:vs.length<=sizeLine:=by rw[<- rel.length];exact z
  have hl:(putK kvs k v).length<=sizeLine:=by have:=bK_ kvs k v;omega
  refine wpAny_setItem_pairs (hsz:=hz) (d6_ ry) dd fun h' dd' hs=>h _ ?_
  have he:∃q,h'.get? a=some q:=let ⟨q,_,_,hq,_⟩:=dd';⟨q,hq⟩
  exact e2_ I (by rw[e];exact True.intro) hs he (fy_ hl hd (rel.put k rv) dd')
 ·subst ey eH
  cases (show u=Value.ref b from ry)
  obtain⟨z,hd,xs,rel,dd⟩:=k3_ I.hok e
  have hz:xs.length<=sizeLine:=by rw[<- Paired.length rel];exact z
  have hl:(putK kvs k v).length<=sizeLine:=by have:=bK_ kvs k v;omega
  refine wpAny_setItem_heap (hsz:=hz) (tupleKind_room_in1 hu) (dB_ I.hok eb) dd fun h' dd' hs=>h _ ?_
  obtain⟨q,es,ep,hq,h2,h3,h4,_,h5⟩:=dd'
  refine e2_ I (by rw[e];exact True.intro) hs ⟨q,hq⟩ ⟨hl,hd,_,(rel.put k eb rv).keeps fun c ys ec=>?_,q,es,ep,hq,h2,h3,h4,h5⟩
  rw[a5_ (aQ_ ec e (fun z=>nomatch z))]
  exact ec
end
section
variable{X:Cx}{pins:List (Addr × Obj)}{σ:St}{H:Hp}{s:Shared}{a:Addr}{kvs:List (Key × V)}{k:Key}{u:Value}{A:Around}{E:Value->Shared->Prop}
theorem k7_{Q:Value->Shared->Prop}(I:Inv X pins σ H s)(e:Rd H a (.dK kvs))(h:∀t s',Inv X pins σ H s'->Q (.int kvs.length t) s'):wpAny (model X.prog X.w) A (call (.builtin "len") [.ref a]) Q E s:=by
 obtain⟨z,hd,vs,rel,dd⟩:=bO_ I.hok e
 refine call_len_dict hd dd (by rw[<- rel.length];rw[sizeLine_eq] at z;omega) ?_
 rw[<- rel.length]
 exact h _ _ (I.tok _)
end
def NoSl(i:Expr):Prop:=∀ov iv,subscripted i false ov iv=operate [ov,iv] (getItem ov iv)
theorem gW_{prog:Program}{w:World}{A:Around}{E:Value->Shared->Prop}{s:Shared}{env:Env}{value slice:Expr}{pos:Pos}{T id:String}{Q:Value->Shared->Prop}
  (hl:typeLookup (.type T) "__getitem__"=pure (some (.builtin id))) (hs:NoSl slice)
  (h:wpAny (model prog w) A (eval value env) (fun o s₁=>wpAny (model prog w) A (eval slice env) (fun i s₂=>s₂.TypeIs o T/\wpAny (model prog w) A (getItem o i) Q E s₂) E s₁) E s) :
  wpAny (model prog w) A (eval (.Subscript value slice pos) env) Q E s:=by
 refine Subscript_ (wpAny_mono h (fun o s₁ h₁=>wpAny_mono h₁ (fun i s₂ h₂=>?_) fun _ _ x=>x) fun _ _ x=>x)
 obtain⟨hT,h₂⟩:=h₂
 unfold subscriptTail
 refine wpAny_bind ?_
 rw[getitemInPython_of_ne hT.not_modules]
 refine wpAny_bind (wpAny_specialOf hT hl ?_)
 have fin:wpAny (model prog w) A (subscripted slice false o i) (fun r s₃=>wpAny (model prog w) A (letTemporaryGo value o r >>= fun _=>pure r) Q E s₃) E s₂:=by
  rw[hs o i]
  exact wpAny_operating (wpAny_mono h₂ (fun r s₃ h₃=>wpAny_bind (wpAny_letTemporaryGo (wpAny_pure h₃))) fun _ _ x=>x)
 first
  |exact wpAny_pure (wpAny_bind fin)
  |exact wpAny_bind (wpAny_pure (wpAny_bind fin))
  |exact wpAny_bind fin
theorem eg_{X:Cx}{pins:List (Addr × Obj)}{σ:St}{H:Hp}{s:Shared}{a:Addr}{y:V}{o:Option V}(I:Inv X pins σ H s)(g:DGet H a y o):s.TypeIs (.ref a) "dict":=by
 rcases g with⟨kvs,k,e,_,_⟩|⟨kvs,k,b,e,_,_,_⟩
 ·obtain⟨_,_,vs,_,dd⟩:=bO_ I.hok e
  exact dd.typeIs
 ·obtain⟨_,_,xs,_,dd⟩:=fc_ I.hok e
  exact dd.typeIs
def tDGet(td ty:TE):TE:=fun σ H Q=>td σ H fun x H1=>ty σ H1 fun y H2=>∃a v,x=.ref a/\DGet H2 a y (some v)/\Q v H2
def tDIn(ty td:TE):TE:=fun σ H Q=>ty σ H fun y H1=>td σ H1 fun x H2=>∃a o,x=.ref a/\DGet H2 a y o/\Q (.bl o.isSome) H2
def tDNotIn(ty td:TE):TE:=fun σ H Q=>ty σ H fun y H1=>td σ H1 fun x H2=>∃a o,x=.ref a/\DGet H2 a y o/\Q (.bl (!o.isSome)) H2
def sDPut(td ty tv:TE):TS:=fun D σ H=>tv σ H fun v H1=>td σ H1 fun x H2=>ty σ H2 fun y H3=>∃a H4,x=.ref a/\DPut H3 a y v H4/\D.nx σ H4
section
variable{X:Cx}{o i e value:Expr}{pos pos' tpos:Pos}{td ty tv:TE}
theorem bH_(hu:X.A.units+1<cLine)(ho:PE X o td)(hi:PE X i ty)(hs:NoSl i):PE X (.Subscript o i pos) (tDGet td ty):=by
 intro pins s σ H Q I h
 refine gW_ PySem.F.slot_dict_getitem.lookup hs (thn (ho pins s σ H _ I h) fun u s1 ⟨x,H1,I1,rx,q1⟩=>thn (hi pins s1 σ H1 _ I1 q1) fun iv s2 ⟨y,H2,I2,ry,a,v,ex,g,q2⟩=>?_)
 subst ex
 obtain rfl:u=Value.ref a:=rx
 exact⟨eg_ I2 g,fB_ hu I2 g ry fun w' s3 I3 rw'=>⟨v,H2,I3,rw',q2⟩⟩
theorem d0_(hu:X.A.units+1<cLine)(hi:PE X i ty)(ho:PE X o td):PC X .In i o (tDIn ty td):=by
 intro pins s σ H Q I h
 refine thn (hi pins s σ H _ I h) fun iv s1 ⟨y,H1,I1,ry,q1⟩=>thn (ho pins s1 σ H1 _ I1 q1) fun u s2 ⟨x,H2,I2,rx,a,ov,ex,g,q2⟩=>?_
 subst ex
 obtain rfl:u=Value.ref a:=rx
 exact d_in hu I2 g ry fun s3 I3=>⟨.bl ov.isSome,H2,I3,rfl,q2⟩
theorem dR_(hu:X.A.units+1<cLine)(hi:PE X i ty)(ho:PE X o td):PC X .NotIn i o (tDNotIn ty td):=by
 intro pins s σ H Q I h
 refine thn (hi pins s σ H _ I h) fun iv s1 ⟨y,H1,I1,ry,q1⟩=>thn (ho pins s1 σ H1 _ I1 q1) fun u s2 ⟨x,H2,I2,rx,a,ov,ex,g,q2⟩=>?_
 subst ex
 obtain rfl:u=Value.ref a:=rx
 exact iI_ hu I2 g ry fun s3 I3=>⟨.bl (!ov.isSome),H2,I3,rfl,q2⟩
theorem bG_(hu:X.A.units+1<cLine)(ho:PE X o td)(hi:PE X i ty)(hv:PE X value tv)(hs:swapsWith value (some (.Subscript o i pos')) pos.line X.env=pure false) :
  PS X (.Assign [.Subscript o i pos'] value pos) (sDPut td ty tv):=by
 intro pins s σ H D I h
 refine wpAny_Assign_Subscript (thn (hv pins s σ H _ I h) fun r s1 ⟨v,H1,I1,rv,q1⟩=>thn (ho pins s1 σ H1 _ I1 q1) fun u s2 ⟨x,H2,I2,rx,q2⟩=>thn (hi pins s2 σ H2 _ I2 q2) fun iv s3 ⟨y,H3,I3,ry,a,H4,ex,g,q3⟩=>?_) hs
 subst ex
 obtain rfl:u=Value.ref a:=rx
 exact gA_ hu I3 g ry rv fun s4 I4=>⟨σ,H4,I4,q3⟩
end
theorem eQ_{P:Program}{w:World}{H:Hp}(h:Heap)(hb:sysModules<h.objs.size):ObjOk P w H (h.push { cls:=.type "dict",data:=.dict #[] }) h.objs.size (.dK []):=
 ⟨Nat.zero_le _,beq_eq_false_iff_ne.mpr (Ne.symm (Nat.ne_of_lt hb)),[],.nil,Heap.DictOf.new h⟩
theorem hz_{P:Program}{w:World}{H:Hp}(h:Heap)(hb:sysModules<h.objs.size):ObjOk P w H (h.push { cls:=.type "dict",data:=.dict #[] }) h.objs.size (.dT []):=
 ⟨Nat.zero_le _,beq_eq_false_iff_ne.mpr (Ne.symm (Nat.ne_of_lt hb)),[],.nil,_,#[],0,Heap.get?_push_size _ rfl,⟨rfl,rfl,rfl⟩,rfl,rfl,List.nodup_nil⟩
def tDNewK:TE:=fun _ H Q=>∀p,H p=none->Q (.ref p) (upd H p (.dK []))
def tDNewT:TE:=fun _ H Q=>∀p,H p=none->Q (.ref p) (upd H p (.dT []))
section
variable{X:Cx}{pos:Pos}
theorem cf_:PE X (.Dict [] [] pos) tDNewK:=fun pins s σ H Q I h=>
 wpAny_Dict_empty ⟨.ref s.heap.objs.size,_,I.laid (a:=s.heap.objs.size) (o:=.dK []) (t':=s.toks) (fun _ _ q=>Heap.get?_push_of_some _ q) (Nat.le_refl _) (eQ_ s.heap I.big),rfl,h _ (I.hok.fresh (Nat.le_refl _))⟩
theorem hh_:PE X (.Dict [] [] pos) tDNewT:=fun pins s σ H Q I h=>
 wpAny_Dict_empty ⟨.ref s.heap.objs.size,_,I.laid (a:=s.heap.objs.size) (o:=.dT []) (t':=s.toks) (fun _ _ q=>Heap.get?_push_of_some _ q) (Nat.le_refl _) (hz_ s.heap I.big),rfl,h _ (I.hok.fresh (Nat.le_refl _))⟩
end
def tPairs:List (TE × TE)->St->Hp->(List (V × V)->Hp->Prop)->Prop
 |[],_,H,Q=>Q [] H
 |(tk,tv)::r,σ,H,Q=>tk σ H fun x H1=>tv σ H1 fun y H2=>tPairs r σ H2 fun ps H3=>Q ((x,y)::ps) H3
abbrev VV:List (V × V)->List (Value × Value)->Prop:=Paired fun p q=>RelV p.1 q.1/\RelV p.2 q.2
def PPs(X:Cx)(pos:Pos)(keys:List (Option Expr))(values:List Expr)(trs:List (TE × TE)):Prop:=
 ∀(pins:List (Addr × Obj)) (s:Shared) (σ:St) (H:Hp) (Q:List (V × V)->Hp->Prop),Inv X pins σ H s->tPairs trs σ H Q->
  wpAny (model X.prog X.w) X.A (evalPairs (pairTrees keys values X.env pos)) (fun vs s'=>∃ps H',Inv X pins σ H' s'/\VV ps vs/\Q ps H') X.xe s
theorem ea_{X:Cx}{pos:Pos}:PPs X pos [] [] []:=fun pins s σ H Q I h=>pairTrees_nil_walk ⟨[],H,I,.nil,h⟩
theorem bU_{X:Cx}{pos:Pos}{k v:Expr}{ks:List (Option Expr)}{vs:List Expr}{tk tv:TE}{trs:List (TE × TE)}(hk:PE X k tk)(hv:PE X v tv)(hr:PPs X pos ks vs trs) :
  PPs X pos (some k::ks) (v::vs) ((tk,tv)::trs):=fun pins s σ H Q I h=>
 pairTrees_cons_walk (thn (hk pins s σ H _ I h) fun u s1 ⟨x,H1,I1,rx,q1⟩=>thn (hv pins s1 σ H1 _ I1 q1) fun w2 s2 ⟨y,H2,I2,ry,q2⟩=>
  thn (hr pins s2 σ H2 _ I2 q2) fun ws s3 ⟨ps,H3,I3,rel,q3⟩=>⟨(x,y)::ps,H3,I3,.cons ⟨rx,ry⟩ rel,q3⟩)
def mergeK(kvs more:List (Key × V)):List (Key × V):=more.foldl (fun acc kv=>putK acc kv.1 kv.2) kvs
theorem KV.merge:∀{more:List (Key × V)} {rs:List (Key × Value)} {kvs:List (Key × V)} {vs:List (Key × Value)},KV more rs->KV kvs vs->KV (mergeK kvs more) (merged vs rs):=by
 intro more rs kvs vs r
 unfold KV at r
 induction r generalizing kvs vs with
 |nil=>intro q;exact q
 |@cons p q ps qs h t ih=>
  intro r0
  have e:KV (putK kvs p.1 p.2) (stored vs q.1 q.2):=by
   have:=r0.put p.1 h.2
   rw[<- h.1];exact this
  exact ih e
theorem bn_:∀(more kvs:List (Key × V)),(mergeK kvs more).length<=kvs.length+more.length
 |[],kvs=>by show kvs.length<=kvs.length+0;omega
 |p::r,kvs=>by
  have h1:=bn_ r (putK kvs p.1 p.2)
  have h2:=bK_ kvs p.1 p.2
  show (mergeK (putK kvs p.1 p.2) r).length<=_
  rw[List.length_cons];omega
theorem cN_{P:Program}{w:World}:∀{kvs:List (Key × V)} {ws:List (Value × Value)},VV (kvs.map fun kv=>(kV kv.1,kv.2)) ws->∃rs,Carries (mixKind P w) ws rs/\KV kvs rs
 |[],_,r=>by rw[List.map_nil] at r;cases r;exact⟨[],True.intro,.nil⟩
 |p::kvs,_,r=>by
  rw[List.map_cons] at r
  cases r with
  |@cons a b as bs h t=>
   obtain⟨rs,c,q⟩:=cN_ (P:=P) (w:=w) t
   obtain⟨b1,b2⟩:=b
   exact⟨(p.1,b2)::rs,⟨d6_ h.1,rfl,c⟩,.cons ⟨rfl,h.2⟩ q⟩
def tDisp(trs:List (TE × TE)):TE:=fun σ H Q=>∀p,H p=none->tPairs trs σ (upd H p (.dK [])) fun ps H2=>H2 p=some (.dK [])/\∃kvs:List (Key × V),ps=kvs.map (fun kv=>(kV kv.1,kv.2))/\kvs.length<=15/\Q (.ref p) (upd H2 p (.dK (mergeK [] kvs)))
theorem en_{X:Cx}{pos:Pos}{keys:List (Option Expr)}{values:List Expr}{trs:List (TE × TE)}(h:PPs X pos keys values trs)(hall:keys.all (·.isSome)=true)(hl:keys.length=values.length)(h0:keys≠[])
  (h15:keys.length<=15):PE X (.Dict keys values pos) (tDisp trs):=by
 intro pins s σ H Q I q
 have hn:=I.hok.fresh (Nat.le_refl s.heap.objs.size)
 have I1:=I.laid (a:=s.heap.objs.size) (o:=.dK []) (h':=s.heap.push { cls:=.type "dict",data:=.dict #[] }) (t':=s.toks) (fun _ _ q=>Heap.get?_push_of_some _ q) (Nat.le_refl _) (eQ_ s.heap I.big)
 refine wpAny_Dict_walk (knd:=mixKind X.prog X.w) hall hl h0 h15 (thn (h pins _ σ _ _ I1 (q _ hn)) fun ws s2 ⟨ps,H2,I2,rel,e,kvs,ep,lk,q2⟩=>?_)
 subst ep
 obtain⟨rs,c,rk⟩:=cN_ (P:=X.prog) (w:=X.w) rel
 obtain⟨z,hd,vs0,r0,dd⟩:=ei_ I2.hok e
 cases r0
 refine⟨rs,c,dd,fun h' dd' hs=>⟨.ref s.heap.objs.size,_,?_,rfl,q2⟩⟩
 have hz:(mergeK [] kvs).length<=sizeLine:=by
  have h1:=bn_ kvs []
  rw[List.length_nil] at h1
  rw[sizeLine_eq];omega
 have he:∃q,h'.get? s.heap.objs.size=some q:=let ⟨q,_,_,hq,_⟩:=dd';⟨q,hq⟩
 exact e2_ I2 (by rw[e];exact True.intro) hs he (fy_ hz hd (rk.merge .nil) dd')
structure M1 (X:Cx) (o:Expr) (m:Str) (apos:Pos) (e:Expr) (cpos:Pos):Prop where
 base:attributeBase o m X.env (eval o X.env)=eval o X.env
 few:((backTo cpos (starEach [e] X.env)).all (fun x=>!x.1)&&(backToKw cpos (keywordEach [] X.env)).all (fun x=>x.1.isSome)
  && decide (([e]:List Expr).length+([]:List Keyword).length+(if ([]:List Keyword).isEmpty then 0 else 1)<30))=true
 line:(apos.endLine == cpos.line)=true
 trees:backTo cpos (starEach [e] X.env)=[(false,eval e X.env)]
structure M2 (X:Cx) (o:Expr) (m:Str) (apos:Pos) (e f:Expr) (cpos:Pos):Prop where
 base:attributeBase o m X.env (eval o X.env)=eval o X.env
 few:((backTo cpos (starEach [e,f] X.env)).all (fun x=>!x.1)&&(backToKw cpos (keywordEach [] X.env)).all (fun x=>x.1.isSome)
  && decide (([e,f]:List Expr).length+([]:List Keyword).length+(if ([]:List Keyword).isEmpty then 0 else 1)<30))=true
 line:(apos.endLine == cpos.line)=true
 trees:backTo cpos (starEach [e,f] X.env)=[(false,eval e X.env),(false,eval f X.env)]
def IsD(H:Hp)(a:Addr):Prop:=(∃kvs,Rd H a (.dK kvs))∨∃kvs,Rd H a (.dT kvs)
theorem ic_{X:Cx}{pins:List (Addr × Obj)}{σ:St}{H:Hp}{s:Shared}{a:Addr}(I:Inv X pins σ H s)(d:IsD H a) :
  s.TypeIs (.ref a) "dict"/\(∀b,Value.ref a=.ref b->∃ob,s.heap.get? b=some ob/\ob.dict=none)/\(a == sysModules)=false:=by
 rcases d with⟨kvs,e⟩|⟨kvs,e⟩
 ·obtain⟨_,hd,vs,_,dd⟩:=bO_ I.hok e
  refine⟨dd.typeIs,fun b q=>?_,hd⟩
  cases q
  obtain⟨ob,_,_,h1,h2,_⟩:=dd
  exact⟨ob,h1,h2.2.1⟩
 ·obtain⟨_,hd,xs,_,dd⟩:=fc_ I.hok e
  refine⟨dd.typeIs,fun b q=>?_,hd⟩
  cases q
  obtain⟨ob,_,_,h1,h2,_⟩:=dd
  exact⟨ob,h1,h2.2.1⟩
section
variable{X:Cx}{pins:List (Addr × Obj)}{σ:St}{H:Hp}{s:Shared}{a:Addr}{y d:V}{u r:Value}{o:Option V}{A:Around}{E:Value->Shared->Prop}
end
section
variable{X:Cx}{o e f:Expr}{apos cpos:Pos}{td ty tx:TE}
end
section
variable{X:Cx}{pins:List (Addr × Obj)}{σ:St}{H:Hp}{s:Shared}{a:Addr}{kvs:List (Key × V)}{A:Around}{E:Value->Shared->Prop}
end
section
variable{X:Cx}{pins:List (Addr × Obj)}{σ:St}{H:Hp}{s:Shared}{a:Addr}{y:V}{u:Value}{A:Around}{E:Value->Shared->Prop}
end
end L2
namespace Att
open PySem PySem.W PySem.Calls PyProof.Rows
theorem ck_{P:Params}{h:Heap}:∀(ns:List Int) (vs:List Value),WellAll P h vs (ns.map WData.int)->IntsAre vs ns:=by
 intro ns
 induction ns with
 |nil=>
  intro vs w
  rw[List.map_nil] at w
  cases w
  exact .nil
 |cons n ns ih=>
  intro vs w
  rw[List.map_cons] at w
  cases w with
  |cons a b=>
   cases a
   exact .cons _ _ (ih _ b)
theorem fW_{l:OpenLaw}{n:Nat}(hn:l.most=some n){P:Params}{h:Heap}{args:List WData}{vals:List Value}
  (hpre:l.row.toRowW.claim.pre args=true) (hwl:WellAll P h vals args) :
  ∃a vs ns,vals=[Value.ref a]/\args=[WData.list (ns.map WData.int)]/\h.get? a=some { cls:=.type "list",data:=.seq vs.toArray }/\IntsAre vs ns/\ns.length<=n:=by
 have hsh:WShape.hasAll [] args [.list .int]=true:=(pre_splitW hpre).1
 have hc:l.pre.holds [] { args:=args }=true:=(pre_splitW hpre).2
 obtain⟨d,r,rfl,h1,h2⟩:=hasAllW_cons hsh
 obtain rfl:=hasAllW_nil h2
 obtain⟨xs,rfl,h3⟩:=hasW_list h1
 obtain⟨ns,rfl⟩:=items_int h3
 have hlen:ns.length<=n:=by
  unfold OpenLaw.pre at hc
  have h4:(WTm.not (.lt (.lit (.int (n:Int))) (.len (.arg 0)))).holds [] { args:=[.list (ns.map .int)] }=true:=by
   have h4:=(holds_andW hc).1
   rw[hn] at h4
   exact h4
  have h5:=condW_of h4 (w_not (w_lt w_lit (w_len_list (w_arg rfl))))
  rw[List.length_map] at h5
  refine Nat.le_of_not_lt fun q=>?_
  have q':(n:Int)<((ns.length:Nat):Int):=by omega
  first
   |(rw[decide_eq_true q'] at h5;exact absurd h5 (by decide))
   |(simp at h5;omega)
 cases hwl with
 |cons w1 w2=>
  cases w2
  cases w1 with
  |list ho hall=>exact⟨_,_,ns,rfl,rfl,ho,ck_ ns _ hall,hlen⟩
theorem g3_(l:OpenLaw)(args:List WData):l.row.toRowW.claim.post args (.bool true) args=true:=
 postW_of (r:=l.row.toRowW) (X:=(true == true))
  (show WShape.has [] (.bool true) .bool=true by first|rfl|decide|simp[WShape.has,WShape.arms,WShape.armsAll])
  (show (WTm.eq .res (.lit (.bool true))).value [] { args:=args,res:=some (.bool true),after:=args }=some (.bool (true == true)) from w_eq_bool (w_res rfl) w_lit) rfl
theorem attach_call{l:OpenLaw}{n:Nat}{q:Program}{loose:List Str}{XP:(Str->Option Value)->Heap->Prop}{YP:World->Heap->Prop}{d:DefRec}
  (hn:l.most=some n) (hdf:d.params.defaults=[])
  (call:∀(w:World) (s₀ s₁:Shared) (mg mb:Str->Option Value) (fa:Addr) (o:Obj) (pm cd doc:Value) (a:Addr) (vs:List Value) (ns:List Int),
   Ground q loose [] XP w s₀ mg mb s₁.heap->YP w s₁.heap->
   s₁.heap.get? fa=some o->o.data=.func (docDef d.name d.params d.body d.scope pm cd doc)->s₁.heap.CodeRec cd d.name->mg d.name=some (.ref fa)->
   s₁.heap.get? a=some { cls:=.type "list",data:=.seq vs.toArray }->IntsAre vs ns->ns.length<=n->s₁.gens=#[]->
   codeAny (model l.prog w) callerA (.call (.ref fa) ⟨[.ref a],[]⟩) (fun r s'=>r=.ok (.ret (.bool true))/\OldK s₁.heap s'.heap/\s'.os=s₁.os/\AllBare s'.gens) s₁) :
  WalkO q loose XP YP l.row.toRowW d [] (fun f vs=>PySem.call f vs):=by
 intro w s₀ s₁ mg mb G Y fa o pm cd doc dV kV ho hd hcd hD hmg hg args vals as hpre hlay hrd hwl hlo
 obtain rfl:dV=.none:=Dflts.none hD hdf
 obtain rfl:kV=.none:=Dflts.noKw hD
 obtain⟨a,vs,ns,rfl,rfl,hobj,hints,hlen⟩:=fW_ hn hpre hwl
 refine enter_call (codeAny_mono (call w s₀ s₁ mg mb fa o pm cd doc a vs ns G Y ho (fd_plain hd) hcd hmg hobj hints hlen hg) fun r s' hq=>?_)
 obtain⟨rfl,h2,h3,h4⟩:=hq
 exact⟨.inl ⟨.bool true,.bool true,[],rfl,fun _=>rfl,.bool true,g3_ l _,fun _=>⟨List.Pairwise.nil,fun _ hm=>(nomatch hm)⟩⟩,h2,h3,h4⟩
section
variable{prog:Program}{w:World}{A:Around}{E:Value->Shared->Prop}{s:Shared}{K:Frag}
end
end Att
namespace L2
open PySem PySem.Spec PyProof.Rows
theorem dC_:∀{vs:List Value} {ns:List Int},IntsAre vs ns->Vals (ns.map V.int) vs
 |_,_,.nil=>.nil
 |_,_,.cons n t h=>.cons ⟨t,rfl⟩ (dC_ h)
end L2
namespace L2
open PySem PySem.Spec PyProof.Rows
end L2
/- THE LAST THEOREM (shape;LID,My.* are yours):
  My.Adr: a structure of the addresses that your layer names (classes,functions);My.Txt K t: a structure (Prop) of the equations over K;
  My.txt_mk:{K} {implicit addresses ..} (e1:nsIn K mainGlobals "law"=some (some (.ref f))) (e2:K.lookup f=some ⟨oc,od,.func (fnOf "law" "law" params body scope dV kV doc pm an cdv ct),sl⟩) (e3:codeIn K cdv "law"=true) .. : ∃t,My.Txt K t
set_option maxRecDepth 100000 in
set_option maxHeartbeats 0 in
theorem PySem.Challenge.cw_LID_holds : PySem.Challenge.rw_LID.Holds := by
 w_on;o_law;k_head;(case hw=>w_witness2)
 k_fill
 refine L2.walk_of (l:=PySem.Challenge.rw_LID) (n:=63) (k:=40) (x:="script") (CX:=fun w=>..) (sp:=fun _=>My.sp_law) rfl (by decide) rfl ⟨rfl,by decide,by decide⟩ (fun w h Y=>PySem.W.kIn_of Y) ?F ?S ?C
 case F=>
  intro w mg fa h KX G hmg
  have T:∃t,My.Txt (L2.KOf KX) t:=by
   dsimp only[L2.KOf]                          -- K must stand as «<heap const> w.params» for k_is
   refine' My.txt_mk ?e1 ?e2 ?e3 ..
   (case e1=>PySem.W.k_is)                    -- in the order: a name->its address->its object->its parts
   (case e2=>PySem.W.k_is)
   ..
  obtain⟨t,T⟩:=T
  have e0:=hmg.symm.trans (PySem.W.mg_of KX G T.law)
  cases e0                                       -- fa is the law's own address
  exact⟨_,fun s u=>.of_eq rfl,fun base kb nb=>My.law_fn T kb nb⟩     -- if «.of_eq rfl» comes too early: refine' ⟨_,?b,fun base kb nb=>My.law_fn T kb nb⟩;exact fun s u=>.of_eq rfl
 case S=>exact fun w H a ns hl hO hS=>..
 case C=>exact ..
(the tactic k_is has no namespace: write k_is) -/
namespace L2
open PySem PySem.Spec PyProof.Rows
def inClass(s:Stmt)(j:Nat):Stmt:=match s with
 |.ClassDef _ _ _ body _ _ _ _ _ _ _=>body.getD j (.Pass ⟨0,0,0,0⟩)
 |_=>.Pass ⟨0,0,0,0⟩
def defArgs(s:Stmt):Arguments:=match s with
 |.FunctionDef _ a _ _ _ _ _ _ _ _=>a
 |_=>{ posonlyargs:=[],args:=[],vararg:=none,kwonlyargs:=[],kw_defaults:=[],kwarg:=none,defaults:=[] }
def defBody(s:Stmt):List Stmt:=match s with
 |.FunctionDef _ _ b _ _ _ _ _ _ _=>b
 |_=>[]
def defScope(s:Stmt):Scope:=match s with
 |.FunctionDef _ _ _ _ _ _ sc _ _ _=>sc
 |_=>{ kind:=.function,names:=[],isGenerator:=false,isCoroutine:=false }
abbrev CX0:CXT:=fun _ _ _ _ _ _=>False
abbrev E0:XK:=fun _ _ _=>False
theorem pass0{X:Cx}:Passes CX0 X E0:=fun _ _ _ _ _ _ _ h=>h.elim
structure Fun (K:PySem.W.Frag) (x qual:Str) (st:Stmt) (f:Addr) (fd:FuncData):Prop where
 ex:∃(oc:Value) (od:Option Addr) (kV doc pm:Value) (an:Option Addr) (cdv ct:Value) (osl:Array (Option Value)),
  fd=PySem.W.fnOf x qual (defArgs st) (defBody st) (defScope st) .none kV doc pm an cdv ct/\K.lookup f=some ⟨oc,od,.func fd,osl⟩/\PySem.W.codeIn K cdv qual=true
 kp:PySem.W.keepIn K (.ref f)=true
section
variable{P:Program}{w:World}{K:PySem.W.Frag}{mg:Str->Option Value}{base:Heap}
theorem Fun.ok{x qual:Str}{st:Stmt}{f:Addr}{fd:FuncData}{N ps:List Str}{k:Nat}{sp:Sp}(F:Fun K x qual st f fd)(S:FnScope N ps (defScope st))(len:∀vs H Q E,sp vs H Q E->vs.length=ps.length)
  (hbody:∀(cdv:Value) (A:Around) (outer:List Env) (s:Shared) (H:Hp) (vs:List V) (Q:VK) (E:XK),Room k (A.deeper (envOfC qual (defScope st) s.heap.objs.size f cdv))->sp vs H Q E->
   ∃t,PSs (cxOf CX0 P w K mg base N qual (defScope st) f cdv A outer s H E).nox (defBody st) t/\t { nx:=fun _ H'=>Q .non H',rt:=Q } (start N vs) H):FnOk P w K mg base CX0 (k+1) f fd ps sp:=by
 obtain⟨oc,od,kV,doc,pm,an,cdv,ct,osl,rfl,lk,hcd⟩:=F.ex
 refine hr_ lk hcd S len fun A outer s H vs Q E hr hsp=>?_
 obtain⟨t,h,q⟩:=hbody cdv A outer s H vs Q E hr hsp
 exact⟨t,h.nox,q⟩
theorem Fun.binds{x qual:Str}{st:Stmt}{f:Addr}{fd:FuncData}{ps:List Str}(F:Fun K x qual st f fd)
  (h:∀(kV doc pm:Value) (an:Option Addr) (cdv ct:Value) (us:List Value),us.length=ps.length->bindArgs (PySem.W.fnOf x qual (defArgs st) (defBody st) (defScope st) .none kV doc pm an cdv ct) ⟨us,[]⟩=pure (ps.zip us)):Binds K fd ps []:=by
 obtain⟨oc,od,kV,doc,pm,an,cdv,ct,osl,rfl,lk,hcd⟩:=F.ex
 exact .all (h kV doc pm an cdv ct)
theorem i6_{x qual:Str}{st:Stmt}{f:Addr}{oc:Value}{od an:Option Addr}{osl:Array (Option Value)}{kV doc pm cdv ct:Value}(l:K.lookup f=some ⟨oc,od,.func (PySem.W.fnOf x qual (defArgs st) (defBody st) (defScope st) .none kV doc pm an cdv ct),osl⟩)
  (c:PySem.W.codeIn K cdv qual=true) (k:PySem.W.keepIn K (.ref f)=true):Fun K x qual st f (PySem.W.fnOf x qual (defArgs st) (defBody st) (defScope st) .none kV doc pm an cdv ct):=⟨⟨oc,od,kV,doc,pm,an,cdv,ct,osl,rfl,l,c⟩,k⟩
end
theorem bk_{A:Around}{k:Nat}(hr:Room k A):A.units+1<cLine:=Nat.lt_of_le_of_lt (Nat.add_le_add_left (by decide:1<=64) _) hr.units
section
variable{X:Cx}
theorem pv(i:Nat){x:Str}{pos:Pos}(hN:X.N[i]? = some x:=by rfl)(hv:Vis X.env.scope x:=by first|exact Or.inl rfl|exact Or.inr (Or.inl rfl)|exact Or.inr (Or.inr rfl))(hd:(x == ("__debug__":Str))=false:=by decide)
  (hcd:(x == ("__classdict__":Str))=false:=by decide):PE X (.Name x pos) (tVar i):=jQ_ hN hv hd hcd
theorem dv_:CallR X (.builtin "len") (fun xs H Q=>∃a kvs,xs=[V.ref a]/\H a=some (.dK kvs)/\Q (.int kvs.length) H):=by
 intro pins s σ H xs us Q I r h
 obtain⟨a,kvs,rfl,ha,q⟩:=h
 obtain⟨u,rfl,ru⟩:=vals1 r
 cases ru
 exact k7_ I (.inl ha) fun t s' I'=>⟨.int kvs.length,H,I',⟨t,rfl⟩,q⟩
end
theorem iteF{A B:Prop}(h:B):if false=true then A else B:=by
 rw[if_neg Bool.false_ne_true]
 exact h
theorem iteT{A B:Prop}(h:A):if true=true then A else B:=by
 rw[if_pos rfl]
 exact h
theorem ite2{c A B:Prop}[Decidable c](h1:c->A)(h2:¬c->B):if c then A else B:=by
 by_cases h:c
 ·rw[if_pos h]
  exact h1 h
 ·rw[if_neg h]
  exact h2 h
theorem iteNS{c A B:Prop}[Decidable c](hc:c)(h:B):if (!decide c)=true then A else B:=by
 rw[decide_eq_true hc]
 exact iteF h
def Same(H H':Hp):Prop:=∀b o,H b=some o->H' b=some o
theorem Same.refl(H:Hp):Same H H:=fun _ _ h=>h
theorem Same.trans{H H1 H2:Hp}(a:Same H H1)(b:Same H1 H2):Same H H2:=fun c o h=>b c o (a c o h)
theorem Same.free{H H':Hp}(e:Same H H'){l:Addr}(h:H' l=Option.none):H l=Option.none:=by
 cases q:H l with
 |none=>rfl
 |some o=>
  rw[e l o q] at h
  cases h
section
variable{κ:Type}[DecidableEq κ]
theorem j8_{kvs:List (κ × V)}{k:κ}{v:V}(h:valV kvs k=some v):k∈kvs.map (·.1):=by
 have q:(kvs.any fun kv=>decide (kv.1=k))=true:=by
  rw[bL_,h]
  all_goals rfl
 obtain⟨p,hp,e⟩:=List.any_eq_true.mp q
 exact List.mem_map.mpr ⟨p,hp,of_decide_eq_true e⟩
end
end L2
set_option Elab.async false
set_option linter.all false
set_option maxRecDepth 100000
namespace L2
open PySem PySem.Spec PyProof.Rows
def closOf(env:Env):List (Str × NameKind)->List (Str × Addr)->List (Str × Addr)
 |[],cs=>cs
 |(n,k)::r,cs=>closOf env r (if k == .free then (n,(env.cells.lookup n).getD 0)::cs else cs)
theorem bm_{env:Env}(f:Str × NameKind->List (Str × Addr)->Sem (ForInStep (List (Str × Addr))))
  (hf:∀n k cs,f (n,k) cs=if (k == .free)=true then (do let a <- cellOf env n;pure (.yield ((n,a)::cs))) else pure (.yield cs)) :
  ∀(names:List (Str × NameKind)) (cs:List (Str × Addr)),(∀x∈names,x.2=.free->∃c,env.cells.lookup x.1=some c)->forIn names cs f=(pure (closOf env names cs):Sem _)
 |[],cs,_=>by rw[List.forIn_nil];rfl
 |(n,k)::r,cs,h=>by
  rw[List.forIn_cons,hf]
  have hr:∀x∈r,x.2=.free->∃c,env.cells.lookup x.1=some c:=fun x hx=>h x (List.mem_cons_of_mem _ hx)
  unfold closOf
  by_cases hk:(k == NameKind.free)=true
  ·obtain⟨c,hc⟩:=h (n,k) List.mem_cons_self (by simpa using hk)
   have hc:env.cells.lookup n=some c:=hc
   rw[if_pos hk,if_pos hk]
   have e:cellOf env n=pure c:=by unfold cellOf;rw[hc]
   rw[e]
   simp only[pure_bind]
   rw[bm_ f hf r _ hr,hc]
   rfl
  ·rw[if_neg hk,if_neg hk]
   simp only[pure_bind]
   exact bm_ f hf r _ hr
theorem bS_{scope:Scope}{env:Env}(h:∀x∈scope.names,x.2=.free->∃c,env.cells.lookup x.1=some c):closureFor scope env=pure (closOf env scope.names []):=by
 simp only[closureFor]
 rw[bm_ (env:=env) _ (fun n k cs=>by by_cases hk:(k == NameKind.free)=true<;>simp[hk]) scope.names [] h]
 simp only[pure_bind]
theorem cS_{env:Env}:∀{names:List (Str × NameKind)} {cs:List (Str × Addr)} {x:Str} {c:Addr},(x,c)∈closOf env names cs->(x,c)∈cs∨((x,NameKind.free)∈names/\c=(env.cells.lookup x).getD 0)
 |[],cs,x,c,h=>.inl h
 |(n,k)::r,cs,x,c,h=>by
  unfold closOf at h
  rcases cS_ h with h|⟨h,e⟩
  ·by_cases hk:(k == NameKind.free)=true
   ·rw[if_pos hk] at h
    rcases List.mem_cons.mp h with q|q
    ·cases q
     have:k=.free:=by simpa using hk
     subst this
     exact .inr ⟨List.mem_cons_self,rfl⟩
    ·exact .inl q
   ·rw[if_neg hk] at h
    exact .inl h
  ·exact .inr ⟨List.mem_cons_of_mem _ h,e⟩
theorem c0_{env:Env}:∀{names:List (Str × NameKind)} {cs:List (Str × Addr)} {x:Str},(x,NameKind.free)∈names∨(∃c,(x,c)∈cs)->∃c,(x,c)∈closOf env names cs
 |[],cs,x,h=>by
  rcases h with h|h
  ·cases h
  ·exact h
 |(n,k)::r,cs,x,h=>by
  unfold closOf
  refine c0_ ?_
  rcases h with h|⟨c,h⟩
  ·rcases List.mem_cons.mp h with e|h
   ·cases e
    exact .inr ⟨(env.cells.lookup n).getD 0,by rw[if_pos (by decide)];exact List.mem_cons_self⟩
   ·exact .inl h
  ·refine .inr ⟨c,?_⟩
   split
   ·exact List.mem_cons_of_mem _ h
   ·exact h
theorem bg_:∀(names:List (Str × NameKind)) (n:Nat) (acc cl:List (Str × Addr)),cellsFrom n names (acc++cl)=cellsFrom n names acc++cl
 |[],_,_,_=>rfl
 |(x,k)::r,n,acc,cl=>by
  unfold cellsFrom
  split
  ·exact bg_ r (n+1) ((x,n)::acc) cl
  ·exact bg_ r n acc cl
theorem bf_:∀{names:List (Str × NameKind)} {n:Nat} {acc:List (Str × Addr)} {x:Str} {c:Addr},(x,c)∈cellsFrom n names acc->(x,c)∈acc∨(x,NameKind.cell)∈names
 |[],_,_,_,_,h=>.inl h
 |(y,k)::r,n,acc,x,c,h=>by
  unfold cellsFrom at h
  by_cases hk:(k == NameKind.cell)=true
  ·rw[if_pos hk] at h
   rcases bf_ h with h|h
   ·rcases List.mem_cons.mp h with e|h
    ·cases e
     have:k=.cell:=by simpa using hk
     subst this
     exact .inr List.mem_cons_self
    ·exact .inl h
   ·exact .inr (List.mem_cons_of_mem _ h)
  ·rw[if_neg hk] at h
   rcases bf_ h with h|h
   ·exact .inl h
   ·exact .inr (List.mem_cons_of_mem _ h)
theorem be_{α:Type}:∀{l:List (Str × α)} {x:Str} {c:α},(x,c)∈l->∃c',l.lookup x=some c'
 |(k,v)::r,x,c,h=>by
  rw[List.lookup_cons]
  cases hb:x == k with
  |true=>exact⟨v,rfl⟩
  |false=>
   rcases List.mem_cons.mp h with e|h
   ·cases e
    simp at hb
   ·exact be_ h
def cpEnv(scope:Scope)(C:Addr)(env:Env):Env:=
 { scope:=relabel scope env,locals:=C,globals:=env.globals,cells:=cellsFrom (C+1) scope.names (closOf env scope.names []),qual:=env.qual,func:=none,code:=env.code,frame:=env.frame,builtins:=env.builtins }
theorem cE_{M:Model}{A:Around}{E:Value->Shared->Prop}{s:Shared}{scope:Scope}{cl:List (Str × Addr)}{env:Env}{Q:Env->Shared->Prop}
  (h:Q { scope:=scope,locals:=s.heap.objs.size,globals:=env.globals,cells:=cellsFrom (s.heap.objs.size+1) scope.names cl,qual:=env.qual,func:=none,code:=env.code,frame:=env.frame,builtins:=env.builtins }
   { s with heap:=pushCells (s.heap.push { cls:=.type "dict",data:=.dict #[] }) scope.names }) :
  wpAny M A (newFunctionEnv scope env.globals cl [] env.qual none .none (some env)) Q E s:=by
 simp only[newFunctionEnv,Option.isSome_some,if_true]
 refine wpAny_bind (wpAny_alloc ?_)
 refine wpAny_bind (wpAny_layCells _ (fun name kind cells=>by cases hkc:kind == NameKind.cell<;>simp[hkc]) _ _ _ _ ?_)
 rw[show ({ s with heap:=s.heap.push { cls:=.type "dict",data:=.dict #[] } }:Shared).heap.objs.size=s.heap.objs.size+1 from Heap.size_push ..]
 rw[List.forIn_nil]
 exact wpAny_bind (wpAny_pure (wpAny_pure h))
def cpCheck(PN:List Str)(ps:Scope)(N:List Str)(own:Nat)(fr:List Nat)(scope:Scope):Bool:=
 decide (scope.kind=.function)&&decide N.Nodup&&decide (own+fr.length=N.length)
 && (scope.names.all fun y=>decide (scope.names.lookup y.1=some y.2))
 && (scope.names.all fun y=>if y.2=.free then decide (ps.names.lookup y.1=some .cell) || decide (ps.names.lookup y.1=some .free) else true)
 && ((fr.map fun j=>PN[j]?) == (N.drop own).map some)
 && ((N.drop own).all fun x=>decide (scope.names.lookup x=some .free))
structure CpOk (PN:List Str) (ps:Scope) (N:List Str) (own:Nat) (fr:List Nat) (scope:Scope):Prop where
 kind:scope.kind=.function
 nd:N.Nodup
 len:own+fr.length=N.length
 look:∀y∈scope.names,scope.names.lookup y.1=some y.2
 par:∀y∈scope.names,y.2=.free->ps.names.lookup y.1=some .cell∨ps.names.lookup y.1=some .free
 frs:(fr.map fun j=>PN[j]?)=(N.drop own).map some
 frk:∀x∈N.drop own,scope.names.lookup x=some .free
theorem CpOk.of{PN:List Str}{ps:Scope}{N:List Str}{own:Nat}{fr:List Nat}{scope:Scope}(h:cpCheck PN ps N own fr scope=true):CpOk PN ps N own fr scope:=by
 unfold cpCheck at h
 simp only[Bool.and_eq_true,decide_eq_true_eq,List.all_eq_true,beq_iff_eq] at h
 obtain⟨⟨⟨⟨⟨⟨h1,h2⟩,h3⟩,h4⟩,h5⟩,h6⟩,h7⟩:=h
 refine⟨h1,h2,h3,h4,fun y hy e=>?_,h6,h7⟩
 have q:=h5 y hy
 rw[if_pos e] at q
 simpa using q
def cpStart(own:Nat)(fr:List Nat)(σ:St):St:=List.replicate own none++fr.map fun j=>(σ[j]?).join
def cxComp(X:Cx)(N:List Str)(scope:Scope)(fp:List Addr)(s:Shared)(H:Hp):Cx where
 prog:=X.prog
 w:=X.w
 K:=X.K
 mg:=X.mg
 base:=X.base
 A:=X.A
 N:=N
 s₀:=s
 H₀:=H
 env:=cpEnv scope s.heap.objs.size X.env
 outer:=X.stack
 stack:=X.stack
 ex:=fp
 fn:=fun x=>decide (scope.names.lookup x=some .local) || decide (scope.names.lookup x=some .cell)
 calm:=X.calm
 pn:=[]
 xe:=fun _ _=>False
theorem c6_{ps:Scope}{env:Env}(he:env.scope=ps){x:Str}:∀{names:List (Str × NameKind)} {k:NameKind},names.lookup x=some k->
  (names.map fun(n,k)=>if (k == NameKind.free&&env.scope.kind == .function&&env.kindOf n == some .cell) then (n,NameKind.cell) else (n,k)).lookup x =
   some (if (k == NameKind.free&&env.scope.kind == .function&&env.kindOf x == some .cell) then .cell else k)
 |(n,k')::r,k,h=>by
  rw[List.lookup_cons] at h
  rw[List.map_cons]
  cases hb:x == n with
  |true=>
   rw[hb] at h
   cases h
   have e:x=n:=by simpa using hb
   subst e
   dsimp only
   split<;>simp[List.lookup_cons]
  |false=>
   rw[hb] at h
   have ih:=c6_ he (env:=env) h
   dsimp only
   split<;>(rw[List.lookup_cons,hb];exact ih)
theorem bZ_{env:Env}{x:Str}:∀{names:List (Str × NameKind)} {k:NameKind},(names.map fun(n,k)=>if (k == NameKind.free&&env.scope.kind == .function&&env.kindOf n == some .cell) then (n,NameKind.cell) else (n,k)).lookup x=some k->∃k',names.lookup x=some k'/\(k'=k∨(k'=.free/\k=.cell))
 |(n,k')::r,k,h=>by
  rw[List.map_cons] at h
  rw[List.lookup_cons]
  dsimp only at h
  cases hb:x == n with
  |true=>
   refine⟨k',rfl,?_⟩
   by_cases hc:(k' == NameKind.free&&env.scope.kind == .function&&env.kindOf n == some .cell)=true
   ·rw[if_pos hc,List.lookup_cons,hb] at h
    cases h
    simp only[Bool.and_eq_true,beq_iff_eq] at hc
    exact .inr ⟨hc.1.1,rfl⟩
   ·rw[if_neg hc,List.lookup_cons,hb] at h
    cases h
    exact .inl rfl
  |false=>
   have h':(r.map fun(n,k)=>if (k == NameKind.free&&env.scope.kind == .function&&env.kindOf n == some .cell) then (n,NameKind.cell) else (n,k)).lookup x=some k:=by
    split at h<;>(rw[List.lookup_cons,hb] at h;exact h)
   exact bZ_ h'
theorem d7_{α:Type}{x:Str}{c:α}:∀{l r:List (Str × α)},(l++r).lookup x=some c->(x,c)∈l∨(x,c)∈r:=fun h=>List.mem_append.mp (PySem.mem_of_lookup h)
section
variable{X:Cx}{pins:List (Addr × Obj)}{σ:St}{H:Hp}{s:Shared}{N:List Str}{own:Nat}{fr:List Nat}{scope:Scope}{fp:List Addr}
theorem closCell(I:Inv X pins σ H s)(S:CpOk X.N X.env.scope N own fr scope){x:Str}{c:Addr}(h:(x,c)∈closOf X.env scope.names []):X.env.cells.lookup x=some c/\(x,NameKind.free)∈scope.names:=by
 rcases cS_ h with h|⟨h,e⟩
 ·cases h
 ·obtain⟨c',hc⟩:=I.ok.has x (S.par _ h rfl)
  refine⟨?_,h⟩
  rw[e,hc]
  rfl
theorem Inv.block(I:Inv X pins σ H s)(S:CpOk X.N X.env.scope N own fr scope)(hfp:∀b∈fp,FpOk X pins H b)(hfo:∀b∈fp,∃o,s.heap.get? b=some o) :
  Inv (cxComp X N scope fp s H) [] (cpStart own fr σ) H { s with heap:=pushCells (s.heap.push { cls:=.type "dict",data:=.dict #[] }) scope.names }:=by
 have kept:∀b o,s.heap.get? b=some o->(pushCells (s.heap.push { cls:=.type "dict",data:=.dict #[] }) scope.names).get? b=some o:=fun b o e=>pushCells_keeps _ _ b o (Heap.get?_push_of_some _ e)
 have cok:=cellsFrom_ok scope.names (s.heap.push { cls:=.type "dict",data:=.dict #[] }) (s.heap.objs.size+1) [] ⟨fun _ _ hm=>(nomatch hm),List.Pairwise.nil⟩ (by rw[Heap.size_push];exact Nat.le_refl _)
 rw[Heap.size_push] at cok
 have ecs:cellsFrom (s.heap.objs.size+1) scope.names (closOf X.env scope.names [])=cellsFrom (s.heap.objs.size+1) scope.names []++closOf X.env scope.names []:=bg_ _ _ [] _
 have lookC:∀{x c},(cellsFrom (s.heap.objs.size+1) scope.names (closOf X.env scope.names [])).lookup x=some c->((x,c)∈cellsFrom (s.heap.objs.size+1) scope.names []/\(x,NameKind.cell)∈scope.names/\s.heap.objs.size+1<=c)∨(X.env.cells.lookup x=some c/\(x,NameKind.free)∈scope.names):=fun {x c} h=>by
  rw[ecs] at h
  rcases d7_ h with h|h
  ·refine .inl ⟨h,?_,(cok.empty _ _ h).2⟩
   rcases bf_ h with q|q
   ·cases q
   ·exact q
  ·exact .inr (closCell I S h)
 have oldC:∀{x c},X.env.cells.lookup x=some c->c<s.heap.objs.size:=fun {x c} h=>by
  obtain⟨v,hv⟩:=I.cell x c h
  exact hv.lt
 have hb:∀b∈fp,b<s.heap.objs.size:=fun b hb=>let ⟨o,e⟩:=hfo b hb;Heap.lt_size e
 refine⟨⟨I.ok.mod,S.kind,I.ok.glob,I.ok.blt,Nat.le_refl _,fun x y c h1 h2=>?_,fun x hx=>?_,fun x c hf h=>?_,I.ok.hd,I.ok.frames,.inl rfl,fun b hb'=>⟨Nat.ne_of_lt (hb b hb'),fun x c h=>?_⟩,I.bs,?_,fun b o e hb'=>?_,fun b hb' hs=>?_,I.stack,I.stkFree⟩,
  rfl,I.bare,Un.kept kept,⟨_,(Heap.Ns.new s.heap (.type "dict")).keeps (pushCells_keeps _ _),fun i x v h1 h2 h3=>?_⟩,fun x c h=>?_,I.hok.fresh (Nat.le_refl _),fun x c h=>?_,fun p hp=>absurd (show p∈([]:List (Addr × Obj)) from hp) (by simp),I.hok.kept kept,?_⟩
 ·-- inj
  rcases lookC h1 with⟨m1,k1,l1⟩|⟨m1,k1⟩<;>rcases lookC h2 with⟨m2,k2,l2⟩|⟨m2,k2⟩
  ·exact name_of_addr cok.apart m1 m2
  ·exact absurd (oldC m2) (Nat.not_lt.mpr (Nat.le_of_succ_le l1))
  ·exact absurd (oldC m1) (Nat.not_lt.mpr (Nat.le_of_succ_le l2))
  ·exact I.ok.inj x y c m1 m2
 ·-- has
  have key:(x,NameKind.cell)∈scope.names∨(x,NameKind.free)∈scope.names:=by
   rcases hx with hx|hx
   ·obtain⟨k',e,q⟩:=bZ_ (env:=X.env) (show _=some NameKind.cell from hx)
    have m:=PySem.mem_of_lookup e
    rcases q with q|⟨q,_⟩
    ·exact .inl (q▸m)
    ·exact .inr (q▸m)
   ·obtain⟨k',e,q⟩:=bZ_ (env:=X.env) (show _=some NameKind.free from hx)
    have m:=PySem.mem_of_lookup e
    rcases q with q|⟨_,q⟩
    ·exact .inr (q▸m)
    ·cases q
  show ∃c,(cellsFrom (s.heap.objs.size+1) scope.names (closOf X.env scope.names [])).lookup x=some c
  have:((cellsFrom (s.heap.objs.size+1) scope.names (closOf X.env scope.names [])).lookup x).isSome=true:=by
   refine PySem.W.cellsFrom_some _ _ _ ?_
   rcases key with q|q
   ·exact .inl (S.look _ q)
   ·obtain⟨c,m⟩:=c0_ (env:=X.env) (names:=scope.names) (cs:=[]) (x:=x) (.inl q)
    obtain⟨c',e⟩:=be_ m
    exact .inr (by rw[e];rfl)
  exact Option.isSome_iff_exists.mp this
 ·-- cab
  rcases lookC h with⟨_,_,l⟩|⟨_,k⟩
  ·exact Nat.le_of_succ_le l
  ·have e:=S.look _ k
   have hf:(decide (scope.names.lookup x=some .local) || decide (scope.names.lookup x=some .cell))=true:=hf
   rw[show scope.names.lookup x=some .free from e] at hf
   exact absurd hf (by decide)
 ·rcases lookC h with⟨_,_,l⟩|⟨q,_⟩
  ·exact Nat.ne_of_gt (Nat.lt_of_lt_of_le (hb b hb') (Nat.le_of_succ_le l))
  ·exact (hfp b hb').2.2.2.2.1 x c q
 ·exact Nat.le_trans I.ok.bsz I.sz
 ·rcases (hfp b hb').2.2.2.1 with q|q
  ·exact I.ok.noex b o e q
  ·exact absurd (Nat.lt_of_lt_of_le (Heap.lt_size e) I.ok.bsz) (by omega)
 ·rcases List.mem_cons.mp (I.stkSub b hs) with q|q
  ·exact (hfp b hb').2.1 q
  ·exact (hfp b hb').2.2.1 q
 ·-- names
  have hi:own<=i:=by
   refine Nat.le_of_not_lt fun hlt=>?_
   unfold cpStart at h2
   rw[List.getElem?_append_left (by rw[List.length_replicate];exact hlt),List.getElem?_replicate,if_pos hlt] at h2
   cases h2
  have h2':(fr.map fun j=>(σ[j]?).join)[i - own]? = some (some v):=by
   unfold cpStart at h2
   rw[List.getElem?_append_right (by rw[List.length_replicate];exact hi),List.length_replicate] at h2
   exact h2
  have h1:N[i]? = some x:=h1
  have hx:(N.drop own)[i - own]? = some x:=by rw[List.getElem?_drop,show own+(i - own)=i by omega];exact h1
  rw[List.getElem?_map] at h2'
  cases ej:fr[i - own]? with
  |none=>rw[ej] at h2';cases h2'
  |some j=>
   rw[ej] at h2'
   have h2':(σ[j]?).join=some v:=Option.some.inj h2'
   have hσ:σ[j]? = some (some v):=by
    cases q:σ[j]? with
    |none=>rw[q] at h2';cases h2'
    |some o=>rw[q] at h2';exact congrArg some h2'
   have hN:X.N[j]? = some x:=by
    have q:=congrArg (fun l=>l[i - own]?) S.frs
    simp only[List.getElem?_map,ej,hx,Option.map_some] at q
    exact Option.some.inj q
   have kf:=S.frk x (List.mem_of_getElem? hx)
   have mf:=PySem.mem_of_lookup kf
   obtain⟨m,hm,hv⟩:=I.loc
   have pk:=S.par _ mf rfl
   obtain⟨u,ru,lk⟩:=hv j x v hN hσ (pk.elim (fun q=>.inr (.inl q)) fun q=>.inr (.inr q))
   refine⟨u,ru,?_⟩
   have pk':X.env.kindOf x=some .cell∨X.env.kindOf x=some .free:=pk
   rcases lk with⟨k,_⟩|⟨_,c,hc,hcell⟩
   ·rw[k] at pk'
    rcases pk' with q|q<;>cases q
   ·obtain⟨c',m1⟩:=c0_ (env:=X.env) (names:=scope.names) (cs:=[]) (x:=x) (.inl mf)
    have e1:=(closCell I S m1).1
    rw[hc] at e1
    cases e1
    refine .inr ⟨?_,c,?_,hcell.keeps kept⟩
    ·have q:=c6_ (env:=X.env) rfl kf
     show (relabel scope X.env).names.lookup x=some .cell∨(relabel scope X.env).names.lookup x=some .free
     unfold relabel
     rw[q]
     split
     ·exact .inl rfl
     ·exact .inr rfl
    ·obtain⟨c2,e2⟩:=Option.isSome_iff_exists.mp (PySem.W.cellsFrom_some (x:=x) scope.names (s.heap.objs.size+1) (closOf X.env scope.names []) (.inr (by obtain⟨c',e⟩:=be_ m1;rw[e];rfl)))
     show (cellsFrom (s.heap.objs.size+1) scope.names (closOf X.env scope.names [])).lookup x=some c
     rcases lookC e2 with⟨_,q,_⟩|⟨q,_⟩
     ·have:=S.look _ q
      rw[show scope.names.lookup x=some .free from kf] at this
      cases this
     ·rw[hc] at q
      cases q
      exact e2
 ·-- cells
  rcases lookC h with⟨q,_,_⟩|⟨q,_⟩
  ·exact⟨_,(cok.empty _ _ q).1⟩
  ·obtain⟨v,hv⟩:=I.cell x c q
   exact⟨v,hv.keeps kept⟩
 ·rcases lookC h with⟨q,_,l⟩|⟨q,_⟩
  ·exact I.hok.fresh (by omega)
  ·exact I.freeC x c q
 ·show (cpStart own fr σ).length=N.length
  unfold cpStart
  rw[List.length_append,List.length_replicate,List.length_map]
  exact S.len
end
def PTs(X:Cx)(ifs:List Expr)(t:TT):Prop:=
 ∀(pins:List (Addr × Obj)) (s:Shared) (σ:St) (H:Hp) (Q:Bool->Hp->Prop),Inv X pins σ H s->t σ H Q->
  wpAny (model X.prog X.w) X.A (forIn ifs true fun c r=>if r=true then do let ok <- isTrue c X.env (eval c X.env);pure (ForInStep.yield ok) else pure (ForInStep.yield r)) (TP X pins σ Q) X.xe s
def tYes:TT:=fun _ H Q=>Q true H
theorem yesT{σ:St}{H:Hp}{A B:Hp->Prop}(h:A H):tYes σ H fun b H4=>if b=true then A H4 else B H4:=by
 unfold tYes
 exact iteT h
theorem aV_{X:Cx}:PTs X [] tYes:=fun _ _ _ H _ I h=>wpAny_tests_nil ⟨H,I,h⟩
theorem fS_{X:Cx}{c:Expr}{t:TT}(h:PT X c t):PTs X [c] t:=fun pins s σ H Q I q=>wpAny_tests_one (h pins s σ H Q I q)
def CompW(J:It)(g:TG)(tc:TT)(te:TE)(σ0:St)(D:Addr)(H1:Hp)(Q:VK):Prop:=∃W:Nat->Nat->St->Hp->Prop,
 (∃m,W 0 m σ0 (upd H1 D (.lst [])))/\∀i m σ' H',W i m σ' H'->(J.stop i H'/\Q (.ref D) H') ∨
  (J.go i H'/\∃Nx:St->Hp->Prop,(∀σ2 H2,Nx σ2 H2->∃m',m'<m/\W (i+1) m' σ2 H2) /\
   ∀x H2,J.yld i H' x H2->g x σ' H2 fun σ3 H3=>tc σ3 H3 fun b H4=>if b=true then te σ3 H4 fun y H5=>∃out,H5 D=some (.lst out)/\out.length<sizeLine/\Nx σ3 (upd H5 D (.lst (out++[y]))) else Nx σ3 H4)
def tComp(wi:TI)(own:Nat)(fr:List Nat)(g:TG)(tc:TT)(te:TE):TE:=fun σ H Q=>wi σ H fun J H1=>∀D,H1 D=none->CompW J g tc te (cpStart own fr σ) D H1 Q
section
variable{X:Cx}{tg iter elt:Expr}{ifs:List Expr}{scope:Scope}{pos:Pos}{wi:TI}{g:TG}{tc:TT}{te:TE}{N:List Str}
theorem gw_{R:Result->Shared->Prop}{own:Nat}{fr:List Nat}{pins:List (Addr × Obj)}{σ:St}{H1:Hp}{s2:Shared}{it:Addr}{fp:List Addr}{tn:Nat->Heap->Prop}{J:It}{D:Addr}{Q:VK}
  (S:CpOk X.N X.env.scope N own fr scope) (hc:X.calm=true) (hg:∀fp s H,PG (cxComp X N scope fp s H) tg g) (ht:∀fp s H,PTs (cxComp X N scope fp s H) ifs tc) (he:∀fp s H,PE (cxComp X N scope fp s H) elt te)
  (I3:Inv X pins σ (upd H1 D (.lst [])) s2) (T:Turn X.prog X.w X.K tg J fp it tn) (st:tn 0 s2.heap) (f2:∀b∈fp,FpOk X pins (upd H1 D (.lst [])) b)
  (k:CompW J g tc te (cpStart own fr σ) D H1 Q)
  (hR:∀H' s',Inv X pins σ H' s'->(∃m,s'.heap.Ns s2.heap.objs.size m)->H' s2.heap.objs.size=none->Q (.ref D) H'->R (.ok .next) s') :
  codeAny (model X.prog X.w) X.A (.compStart (.ListComp elt [⟨tg,iter,ifs,0⟩] scope pos) 0 (.ref it) (.ref D) (cpEnv scope s2.heap.objs.size X.env)) R
   { s2 with heap:=pushCells (s2.heap.push { cls:=.type "dict",data:=.dict #[] }) scope.names }:=by
 obtain⟨W,⟨m0,w0⟩,turn⟩:=k
 have I4:=I3.block (N:=N) S f2 (fun b hb=>let ⟨o,e,_⟩:=T.obj _ _ st b hb;⟨o,e⟩)
 have kept:∀b o,s2.heap.get? b=some o->(pushCells (s2.heap.push { cls:=.type "dict",data:=.dict #[] }) scope.names).get? b=some o:=fun b o e=>pushCells_keeps _ _ b o (Heap.get?_push_of_some _ e)
 have st4:tn 0 (pushCells (s2.heap.push { cls:=.type "dict",data:=.dict #[] }) scope.names):=T.keep _ _ _ st fun b hb o e=>kept b o e
 have fx:∀{H':Hp},(∀b∈fp,H' b=none)->∀b∈fp,FpOk (cxComp X N scope fp s2 (upd H1 D (.lst []))) [] H' b:=fun hn b hb=>
  ⟨hn b hb,(I4.ok.exf b hb).1,I4.ok.exfs b hb,.inl hb,(I4.ok.exf b hb).2,fun p hp=>absurd (show p∈([]:List (Addr × Obj)) from hp) (by simp)⟩
 have loop:codeAny (model X.prog X.w) X.A (.compLoop (.ListComp elt [⟨tg,iter,ifs,0⟩] scope pos) 0 (.ref it) (.ref D) (cpEnv scope s2.heap.objs.size X.env)) R
   { s2 with heap:=pushCells (s2.heap.push { cls:=.type "dict",data:=.dict #[] }) scope.names }:=by
  refine codeAny_loop rfl (fun n s'=>∃i σ' H',Inv (cxComp X N scope fp s2 (upd H1 D (.lst []))) [] σ' H' s'/\tn i s'.heap/\(∀b∈fp,H' b=none)/\W i n σ' H') (fun n s' hI=>?_) m0 ⟨0,_,_,I4,st4,fun b hb=>(f2 b hb).1,w0⟩
  obtain⟨i,σ',H',I5,st5,fr5,w5⟩:=hI
  show wpAny _ X.A ((compTurn (.ListComp elt [⟨tg,iter,ifs,0⟩] scope pos) 0 (.ref it) (.ref D) (cpEnv scope s2.heap.objs.size X.env)).onRaise (fun x=>do noteFrame x (cpEnv scope s2.heap.objs.size X.env);theTreesLotGoes x)) _ _ s'
  refine wpAny_noted (wpAny_mono (E:=fun _ _=>False) ?_ (fun _ _ q=>q) fun _ _ q=>q.elim)
  rw[compTurn_list]
  refine wpAny_bind (wpAny_standAt (wpAny_bind ?_))
  rcases turn i n σ' H' w5 with⟨stop,q⟩|⟨go,Nx,hN,step⟩
  ·refine thn (T.done (cxComp X N scope fp s2 (upd H1 D (.lst []))) rfl rfl rfl hc i [] s' σ' H' _ I5 (fx fr5) st5 stop) fun r s6 ⟨hr,I6⟩=>?_
   subst hr
   refine wpAny_pure (hR H' s6 (I3.call' I6.os I6.base I6.hok I6.bare fun b hb=>?_) ?_ I6.free q)
   ·exact⟨(f2 b hb).2.2.2.1,(f2 b hb).2.1,(f2 b hb).2.2.2.2.1,(f2 b hb).2.2.2.2.2⟩
   ·obtain⟨m,hm,_⟩:=I6.loc
    exact⟨m,hm⟩
  ·refine thn (T.item (cxComp X N scope fp s2 (upd H1 D (.lst []))) rfl rfl rfl hc i [] s' σ' H' _ I5 (fx fr5) st5 go) fun r s6 ⟨u,hr,h6⟩=>?_
   subst hr
   refine wpAny_bind (thn h6 fun _ s7 ⟨x,H7,I7,r7,y7,st7,fr7⟩=>?_)
   have I7':=I7.pinned (fx fr7) (T.obj _ _ st7)
   have back:∀{σ8:St} {H8:Hp} {s8:Shared},Inv (cxComp X N scope fp s2 (upd H1 D (.lst []))) ([]++pinsAt fp s7.heap) σ8 H8 s8->Nx σ8 H8->∃m,m<n/\∃i σ' H',Inv (cxComp X N scope fp s2 (upd H1 D (.lst []))) [] σ' H' s8/\tn i s8.heap/\(∀b∈fp,H' b=none)/\W i m σ' H':=fun {σ8 H8 s8} I8 n8=>by
    obtain⟨m',hm,w8⟩:=hN σ8 H8 n8
    refine⟨m',hm,i+1,σ8,H8,I8.unpinned,T.keep _ _ _ st7 fun b hb o e=>(I8.pin (b,o) (List.mem_append_right _ (List.mem_append_right _ (bw_ hb e)))).1,fun b hb=>?_,w8⟩
    obtain⟨o,e,d⟩:=T.obj _ _ st7 b hb
    exact (I8.pin (b,o) (List.mem_append_right _ (List.mem_append_right _ (bw_ hb e)))).2.1
   refine wpAny_bind (thn (hg fp s2 (upd H1 D (.lst [])) _ s7 σ' H7 x u _ I7' r7 (step x H7 y7)) fun _ s8 ⟨σ8,H8,I8,q8⟩=>?_)
   refine wpAny_bind (thn (ht fp s2 (upd H1 D (.lst [])) _ s8 σ8 H8 _ I8 q8) fun b s9 ⟨H9,I9,q9⟩=>?_)
   cases b with
   |false=>
    simp only[Bool.false_eq_true,if_false] at q9 ⊢
    exact wpAny_pure ⟨rfl,back I9 q9⟩
   |true=>
    simp only[if_true] at q9 ⊢
    refine wpAny_bind (wpAny_bind (thn (he fp s2 (upd H1 D (.lst [])) _ s9 σ8 H9 _ I9 q9) fun y s10 ⟨yv,H10,I10,r10,out,hD,hz,q10⟩=>?_))
    refine wpAny_bind (thn (bX_ (X:=cxComp X N scope fp s2 (upd H1 D (.lst []))) _ s10 σ8 H10 (.ref D) [yv] (.ref D) [y] (fun _ H'=>Nx σ8 H') I10 rfl (.cons r10 .nil) ⟨D,out,yv,rfl,rfl,hD,hz,q10⟩) fun _ s11 ⟨_,H11,I11,_,q11⟩=>?_)
    exact wpAny_pure (wpAny_pure ⟨rfl,back I11 q11⟩)
 exact codeAny_compStart_list loop (T.self _ 0 _ _ _ st4 loop)
theorem aP_(N:List Str)(own:Nat)(fr:List Nat)(hi:PI X tg iter wi)(hg:∀fp s H,PG (cxComp X N scope fp s H) tg g)(ht:∀fp s H,PTs (cxComp X N scope fp s H) ifs tc)(he:∀fp s H,PE (cxComp X N scope fp s H) elt te)
  (S:cpCheck X.N X.env.scope N own fr scope=true:=by kernel_rfl) (hc:X.calm=true:=by rfl) (hs:∀x,foldedSetIterable iter X.env x=pure x:=by intro _;rfl) :
  PE X (.ListComp elt [⟨tg,iter,ifs,0⟩] scope pos) (tComp wi own fr g tc te):=by
 intro pins s σ H Q I h
 have S':=CpOk.of S
 rw[eval_ListComp]
 have hclos:closureFor scope X.env=pure (closOf X.env scope.names []):=bS_ fun x hx e=>I.ok.has x.1 (S'.par x hx e)
 refine wpAny_comprehension_free (use:=none) rfl hs hclos S'.kind (fun x hx e=>by rw[S'.look x hx,e]) (thn (hi pins s σ H _ I h) fun v s1 h1=>thn h1 fun itv s2 h2=>?_)
 obtain⟨it,fp,tn,J,H1,rfl,I2,T,st2,f2,k⟩:=h2
 refine wpAny_newObj_type (cE_ ?_)
 have hD:H1 s2.heap.objs.size=none:=I2.fresh
 have I3:=I2.lnew (ys:=[]) (its:=[]) (t':=s2.toks) .nil (Nat.zero_le _)
 have kept:∀b o,s2.heap.get? b=some o->(s2.heap.push { cls:=.type "list",data:=.seq ([]:List Value).toArray }).get? b=some o:=fun b o e=>Heap.get?_push_of_some _ e
 refine gw_ (own:=own) (fr:=fr) (Q:=Q) S' hc hg ht he I3 T (T.keep _ _ _ st2 fun b hb o e=>kept b o e) (fun b hb=>?_) (k _ hD) ?_
 ·refine⟨?_,(f2 b hb).2⟩
  obtain⟨o,e,_⟩:=T.obj _ _ st2 b hb
  rw[a5_ (Nat.ne_of_lt (Heap.lt_size e))]
  exact (f2 b hb).1
 ·rintro H' s' I' ⟨m,hm⟩ hn q
  refine⟨m,hm,fun h' hs'=>⟨.ref s2.heap.objs.size,H',?_,rfl,q⟩⟩
  exact I'.turned (t':=s'.toks) (fun b o hb e=>hs'.extBut b o hb e) hn (Nat.ne_of_gt I3.lt) (.inr I3.sz) (fun x c hcx e=>by
   obtain⟨v,hv⟩:=I3.cell x c hcx
   exact absurd hv.lt (by rw[e];exact Nat.lt_irrefl _)) fun p hp e=>by
    have:=(I3.pin p hp).1
    rw[e] at this
    exact absurd (Heap.lt_size this) (Nat.lt_irrefl _)
def tAsgC(i:Nat)(te:TE):TS:=fun D σ H=>te σ H fun x H1=>D.nx (σ.set i (some x)) H1
theorem fN_{i:Nat}{x:Str}{px:Pos}(N:List Str)(own:Nat)(fr:List Nat)(hN:X.N.Nodup)(hi':X.N[i]? = some x)(hx:Loc X.env.scope x)
  (hi:PI X tg iter wi) (hg:∀fp s H,PG (cxComp X N scope fp s H) tg g) (ht:∀fp s H,PTs (cxComp X N scope fp s H) ifs tc) (he:∀fp s H,PE (cxComp X N scope fp s H) elt te) {pos':Pos}
  (S:cpCheck X.N X.env.scope N own fr scope=true:=by kernel_rfl) (hc:X.calm=true:=by rfl) (hs:∀x,foldedSetIterable iter X.env x=pure x:=by intro _;rfl)
  (hf:X.fn x=true∨X.env.scope.names.lookup x=some .local:=by first|exact .inl rfl|exact .inr rfl|assumption)
  (hsw:swapsWith (.ListComp elt [⟨tg,iter,ifs,0⟩] scope pos) (some (.Name x px)) pos'.line X.env=pure true:=by rfl) :
  PS X (.Assign [.Name x px] (.ListComp elt [⟨tg,iter,ifs,0⟩] scope pos) pos') (tAsgC i (tComp wi own fr g tc te)):=by
 intro pins s σ H E I h
 have S':=CpOk.of S
 rw[exec_Assign_Name_used _ _ _ _ hsw]
 refine wpAny_bind (wpAny_standAt (wpAny_bind ?_))
 show wpAny _ X.A (do let _ <- comprehension (.ListComp elt [⟨tg,iter,ifs,0⟩] scope pos) scope X.env _ (newList []) false (eval iter X.env) (some (assign (.Name x px) X.env))) _ _ s
 have hclos:closureFor scope X.env=pure (closOf X.env scope.names []):=bS_ fun x hx e=>I.ok.has x.1 (S'.par x hx e)
 refine wpAny_bind (wpAny_mono (wpAny_comprehension_free (use:=some (assign (.Name x px) X.env)) (Q:=fun _ s'=>SP X pins E .next s') rfl hs hclos S'.kind (fun x hx e=>by rw[S'.look x hx,e]) (thn (hi pins s σ H _ I h) fun v s1 h1=>thn h1 fun itv s2 h2=>?_))
  (fun _ s' hq=>wpAny_pure (wpAny_pure hq)) fun _ _ e=>e)
 obtain⟨it,fp,tn,J,H1,rfl,I2,T,st2,f2,k⟩:=h2
 refine wpAny_newObj_type (cE_ ?_)
 have hD:H1 s2.heap.objs.size=none:=I2.fresh
 have I3:=I2.lnew (ys:=[]) (its:=[]) (t':=s2.toks) .nil (Nat.zero_le _)
 have kept:∀b o,s2.heap.get? b=some o->(s2.heap.push { cls:=.type "list",data:=.seq ([]:List Value).toArray }).get? b=some o:=fun b o e=>Heap.get?_push_of_some _ e
 refine gw_ (own:=own) (fr:=fr) (Q:=fun x H1=>E.nx (σ.set i (some x)) H1) S' hc hg ht he I3 T (T.keep _ _ _ st2 fun b hb o e=>kept b o e) (fun b hb=>?_) (k _ hD) ?_
 ·refine⟨?_,(f2 b hb).2⟩
  obtain⟨o,e,_⟩:=T.obj _ _ st2 b hb
  rw[a5_ (Nat.ne_of_lt (Heap.lt_size e))]
  exact (f2 b hb).1
 ·rintro H' s' I' ⟨m,hm⟩ hn q
  have cne:∀y c,X.env.cells.lookup y=some c->c≠(s2.heap.push { cls:=.type "list",data:=.seq ([]:List Value).toArray }).objs.size:=fun y c hcx e=>by
   obtain⟨v,hv⟩:=I3.cell y c hcx
   exact absurd hv.lt (by rw[e];exact Nat.lt_irrefl _)
  show wpAny _ X.A (assign (.Name x px) X.env (.ref s2.heap.objs.size)) _ _ s'
  refine wpAny_assign_Name (dE_ (v:=V.ref s2.heap.objs.size) I' hN hi' hx rfl (fun s'' I'' ⟨a,hs2,ha⟩=>?_) hf)
  have hCa:(s2.heap.push { cls:=.type "list",data:=.seq ([]:List Value).toArray }).objs.size≠a:=by
   rcases ha with e|e
   ·rw[e]
    exact Nat.ne_of_gt I3.lt
   ·exact (cne x a e).symm
  refine⟨m,hm.sameBut hs2 hCa,fun h' hs'=>⟨_,H',?_,q⟩⟩
  exact I''.turned (t':=s''.toks) (fun b o hb e=>hs'.extBut b o hb e) hn (Nat.ne_of_gt I3.lt) (.inr I3.sz) cne fun p hp e=>by
    have:=(I3.pin p hp).1
    rw[e] at this
    exact absurd (Heap.lt_size this) (Nat.lt_irrefl _)
end
def GOk(g:TG)(own:Nat)(fv:List (Option V))(dec:V->Hp->List (Option V)->Prop):Prop:=
 ∀(x:V) (o:List (Option V)) (H:Hp) (k:St->Hp->Prop) (o3:List (Option V)),o.length=own->dec x H o3->k (o3++fv) H->g x (o++fv) H k
theorem gok1{fv:List (Option V)}:GOk (gName 0) 1 fv (fun x _ o3=>o3=[some x]):=fun x o H k o3 hl e h=>by
 subst e
 match o,hl with
 |[a],_=>exact h
def dec2(K:PySem.W.Frag):V->Hp->List (Option V)->Prop:=fun x H o3=>∃p u v,x=.ref p/\SqT K H p [u,v]/\o3=[some u,some v]
def dec3(K:PySem.W.Frag):V->Hp->List (Option V)->Prop:=fun x H o3=>∃p u v w,x=.ref p/\SqT K H p [u,v,w]/\o3=[some u,some v,some w]
theorem gok2{K:PySem.W.Frag}{fv:List (Option V)}:GOk (gTup K 2 (gCons (gName 0) (gCons (gName 1) gNil))) 2 fv (dec2 K):=fun x o H k o3 hl e h=>by
 obtain⟨p,u,v,rfl,hp,rfl⟩:=e
 match o,hl with
 |[a,b],_=>exact⟨p,[u,v],rfl,hp,rfl,u,[v],rfl,v,[],rfl,rfl,h⟩
theorem gok3{K:PySem.W.Frag}{fv:List (Option V)}:GOk (gTup K 3 (gCons (gName 0) (gCons (gName 1) (gCons (gName 2) gNil)))) 3 fv (dec3 K):=fun x o H k o3 hl e h=>by
 obtain⟨p,u,v,w,rfl,hp,rfl⟩:=e
 match o,hl with
 |[a,b,c],_=>exact⟨p,[u,v,w],rfl,hp,rfl,u,[v,w],rfl,v,[w],rfl,w,[],rfl,rfl,h⟩
theorem di_{J:It}{g:TG}{tc:TT}{te:TE}{own:Nat}{fv:List (Option V)}{dec:V->Hp->List (Option V)->Prop}{D:Addr}{H:Hp}{Q:VK}{σ0:St}(hσ:σ0=List.replicate own none++fv)(G:GOk g own fv dec)(n:Nat)(Pv:Nat->List V->Hp->Prop)
  (h0:Pv 0 [] (upd H D (.lst []))) (hstop:∀out H',Pv n out H'->J.stop n H'/\Q (.ref D) H')
  (hgo:∀i out H',i<n->Pv i out H'->J.go i H'/\∀x H2,J.yld i H' x H2->∃o3,dec x H2 o3/\o3.length=own/\∀Nx:Hp->Prop,(∀out' H2,Pv (i+1) out' H2->Nx H2)->
   tc (o3++fv) H2 fun b H4=>if b=true then te (o3++fv) H4 fun y H5=>∃out2,H5 D=some (.lst out2)/\out2.length<sizeLine/\Nx (upd H5 D (.lst (out2++[y]))) else Nx H4) :
  CompW J g tc te σ0 D H Q:=by
 subst hσ
 refine⟨fun i m σ' H'=>m=n - i/\i<=n/\(∃o:List (Option V),σ'=o++fv/\o.length=own)/\∃out,Pv i out H',⟨n,by simp,Nat.zero_le _,⟨_,rfl,List.length_replicate⟩,_,h0⟩,?_⟩
 rintro i m σ' H' ⟨rfl,hi,⟨o,rfl,ho⟩,out,p⟩
 by_cases hlt:i<n
 ·obtain⟨go,k⟩:=hgo i out H' hlt p
  refine .inr ⟨go,fun σ2 H2=>(∃o:List (Option V),σ2=o++fv/\o.length=own)/\∃out,Pv (i+1) out H2,fun σ2 H2 q=>⟨n - (i+1),by omega,rfl,hlt,q⟩,fun x H2 y=>?_⟩
  obtain⟨o3,d,l3,q⟩:=k x H2 y
  exact G x o H2 _ o3 ho d (q (fun H2=>(∃o:List (Option V),o3++fv=o++fv/\o.length=own)/\∃out,Pv (i+1) out H2) fun out' H2 z=>⟨⟨o3,rfl,l3⟩,out',z⟩)
 ·have e:i=n:=by omega
  subst e
  exact .inl (hstop out H' p)
theorem aE_{K:PySem.W.Frag}{a:Addr}{xs:List V}{g:TG}{tc:TT}{te:TE}{own:Nat}{fv:List (Option V)}{dec:V->Hp->List (Option V)->Prop}{D:Addr}{H:Hp}{Q:VK}{σ0:St}(hσ:σ0=List.replicate own none++fv)(G:GOk g own fv dec)(Pv:Nat->List V->Hp->Prop)
  (h0:Pv 0 [] (upd H D (.lst []))) (hl:∀i out H',i<=xs.length->Pv i out H'->SqL K H' a xs) (hd:∀out H',Pv xs.length out H'->Q (.ref D) H')
  (hgo:∀i x out H',xs[i]? = some x->Pv i out H'->∃o3,dec x H' o3/\o3.length=own/\∀Nx:Hp->Prop,(∀out' H2,Pv (i+1) out' H2->Nx H2)->
   tc (o3++fv) H' fun b H4=>if b=true then te (o3++fv) H4 fun y H5=>∃out2,H5 D=some (.lst out2)/\out2.length<sizeLine/\Nx (upd H5 D (.lst (out2++[y]))) else Nx H4) :
  CompW (Itl K a) g tc te σ0 D H Q:=by
 refine di_ hσ G xs.length Pv h0 (fun out H' p=>⟨⟨xs,hl _ _ _ (Nat.le_refl _) p,Nat.le_refl _⟩,hd out H' p⟩) fun i out H' hi p=>?_
 have q:=hl i out H' (Nat.le_of_lt hi) p
 refine⟨⟨xs,xs[i],q,by simp[hi]⟩,fun x H2 y=>?_⟩
 obtain⟨e,y⟩:=y
 subst e
 exact hgo i x out _ (y xs q) p
end L2
set_option Elab.async false
set_option linter.all false
set_option maxRecDepth 100000
namespace EvS
open PySem PySem.W PyProof.Rows
def Ok{α:Type}(f:Nat->Nat->Bool)(n:Nat):KasT α->(α->Prop)->Prop
 |.ret a,Q=>Q a
 |.ask i j k,Q=>i<n/\j<n/\Ok f n (k (f i j)) Q
theorem Ok.bind{α β:Type}{f:Nat->Nat->Bool}{n:Nat}{g:α->KasT β}{Q:β->Prop}:∀{t:KasT α} {R:α->Prop},Ok f n t R->(∀a,R a->Ok f n (g a) Q)->Ok f n (t.bind g) Q
 |.ret a,R,h,k=>k a h
 |.ask i j t,R,h,k=>⟨h.1,h.2.1,Ok.bind h.2.2 k⟩
theorem Ok.imp{α:Type}{f:Nat->Nat->Bool}{n:Nat}{Q R:α->Prop}(k:∀a,Q a->R a):∀{t:KasT α},Ok f n t Q->Ok f n t R
 |.ret a,h=>k a h
 |.ask i j t,h=>⟨h.1,h.2.1,Ok.imp k h.2.2⟩
theorem Ok.wp{α:Type}{f:Nat->Nat->Bool}{n:Nat}{cmp:Nat->Nat->(Bool->Shared->Prop)->Shared->Prop}{s:Shared}(hc:∀i j C,i<n->j<n->C (f i j) s->cmp i j C s){Q:α->Prop}{G:α->Shared->Prop}(k:∀a,Q a->G a s) :
  ∀{t:KasT α},Ok f n t Q->t.kasWp cmp G s
 |.ret a,h=>k a h
 |.ask i j t,h=>hc i j _ h.1 h.2.1 (Ok.wp hc k h.2.2)
structure Ord (f:Nat->Nat->Bool):Prop where
 rfl':∀i,f i i=false
 trans:∀{i j k},f j i=false->f k j=false->f k i=false
 tot:∀{i j},f i j=true->f j i=false
section
variable{f:Nat->Nat->Bool}(O:Ord f){N:Nat}
abbrev at'(p:Array Nat)(i:Nat):Nat:=p.getD i 0
def Up(f:Nat->Nat->Bool)(p:Array Nat)(k:Nat):Prop:=∀i j,i<=j->j<k->f (at' p j) (at' p i)=false
def Down(f:Nat->Nat->Bool)(p:Array Nat)(k:Nat):Prop:=∀i j,i<=j->j<k->f (at' p i) (at' p j)=false
def Like(f:Nat->Nat->Bool)(p:Array Nat)(lo k:Nat):Prop:=∀i,lo<=i->i<k->f (at' p i) (at' p (k - 1))=false/\f (at' p (k - 1)) (at' p i)=false
def Good(N:Nat)(p:Array Nat):Prop:=p.Perm (List.range N).toArray
theorem Good.size{p:Array Nat}(h:Good N p):p.size=N:=by
 have:=h.size_eq
 simpa using this
theorem Good.lt{p:Array Nat}(h:Good N p)(hN:0<N)(i:Nat):at' p i<N:=by
 unfold at'
 by_cases hi:i<p.size
 ·have e:p.getD i 0=p[i]:=by simp[Array.getD,hi]
  rw[e]
  have m:p[i]∈(List.range N).toArray:=h.mem_iff.mp (Array.getElem_mem hi)
  simpa using m
 ·have e:p.getD i 0=0:=by simp[Array.getD,hi]
  rw[e]
  exact hN
theorem Good.rev{p:Array Nat}(h:Good N p)(i j:Nat):Good N (kas_rev p i j):=(mirror_perm _ _ _ _).trans h
theorem Good.bub{p:Array Nat}(h:Good N p)(i j:Nat):Good N (bubble p i j):=(bubble_perm _ _ _).trans h
theorem cm_{p q:Array Nat}{i j:Nat}(h:p[i]? = q[j]?):at' p i=at' q j:=by
 unfold at'
 rw[Array.getD_eq_getD_getElem?,Array.getD_eq_getD_getElem?,h]
theorem cD_{p:Array Nat}{i j:Nat}(hj:j<=p.size)(k:Nat):at' (kas_rev p i j) k=if i<=k/\k<j then at' p (i+j - 1 - k) else at' p k:=by
 have e:=getElem?_mirror_all (i:=i) hj k
 unfold kas_rev
 split
 ·rename_i c
  rw[if_pos c] at e
  exact cm_ e
 ·rename_i c
  rw[if_neg c] at e
  exact cm_ e
theorem ie_{p:Array Nat}{k l:Nat}(hk:k<p.size)(hl:l<=k)(i:Nat):at' (bubble p k (k - l)) i=if i=l then at' p k else if l<i/\i<=k then at' p (i - 1) else at' p i:=by
 have e:=getElem?_bubble hk (k - l) (by omega) i
 rw[show k - (k - l)=l by omega] at e
 by_cases c:i=l
 ·rw[if_pos c] at e ⊢
  exact cm_ e
 ·rw[if_neg c] at e ⊢
  split
  ·rename_i d
   rw[if_pos d] at e
   exact cm_ e
  ·rename_i d
   rw[if_neg d] at e
   exact cm_ e
include O
theorem Up.more{p:Array Nat}{n:Nat}(h:Up f p n)(h1:1<=n)(c:f (at' p n) (at' p (n - 1))=false):Up f p (n+1):=fun i j hij hj=>by
 by_cases e:j<n
 ·exact h i j hij e
 ·have e:j=n:=by omega
  subst e
  by_cases e2:i=j
  ·subst e2
   exact O.rfl' _
  ·exact O.trans (h i (j - 1) (by omega) (by omega)) c
theorem Down.more{p:Array Nat}{n:Nat}(h:Down f p n)(h1:1<=n)(c:f (at' p (n - 1)) (at' p n)=false):Down f p (n+1):=fun i j hij hj=>by
 by_cases e:j<n
 ·exact h i j hij e
 ·have e:j=n:=by omega
  subst e
  by_cases e2:i=j
  ·subst e2
   exact O.rfl' _
  ·exact O.trans c (h i (j - 1) (by omega) (by omega))
theorem ge_{p:Array Nat}(g:Good N p)(hN:0<N):∀(m n:Nat),1<=n->Up f p n->Ok f N (kas_asc p m n) fun r=>n<=r/\r<=n+m/\Up f p r/\(r<n+m->f (at' p r) (at' p (r - 1))=true)
 |0,n,_,h=>⟨Nat.le_refl _,Nat.le_refl _,h,fun q=>absurd q (by omega)⟩
 |m+1,n,h1,h=>by
  refine⟨g.lt hN _,g.lt hN _,?_⟩
  dsimp only
  by_cases c:f (at' p n) (at' p (n - 1))=true
  ·rw[if_pos c]
   exact⟨Nat.le_refl _,by omega,h,fun _=>c⟩
  ·rw[if_neg c]
   refine (ge_ g hN m (n+1) (by omega) (h.more O h1 (by simpa using c))).imp fun r ⟨a,b,u,z⟩=>⟨by omega,by omega,u,fun q=>z (by omega)⟩
theorem Like.rev{p:Array Nat}{lo k:Nat}(h:Like f p lo k)(hk:k<=p.size)(i:Nat):f (at' (kas_rev p lo k) i) (at' p i)=false/\f (at' p i) (at' (kas_rev p lo k) i)=false:=by
 rw[cD_ hk]
 split
 ·rename_i c
  obtain⟨a1,a2⟩:=h i c.1 c.2
  obtain⟨b1,b2⟩:=h (lo+k - 1 - i) (by omega) (by omega)
  exact⟨O.trans a2 b1,O.trans b2 a1⟩
 ·exact⟨O.rfl' _,O.rfl' _⟩
theorem Down.rev{p:Array Nat}{lo k n:Nat}(h:Down f p n)(l:Like f p lo k)(hk:k<=p.size):Down f (kas_rev p lo k) n:=fun i j hij hj=>by
 obtain⟨a1,_⟩:=l.rev O hk i
 obtain⟨_,b2⟩:=l.rev O hk j
 exact O.trans (O.trans b2 (h i j hij hj)) a1
theorem d9_(hN:0<N):∀(m:Nat) (p:Array Nat) (n q:Nat),Good N p->1<=n->q+1<=n->n+m<=N->Down f p n->Like f p (n - (q+1)) n->
  Ok f N (kas_desc m p n q) fun r=>Good N r.1/\n<=r.2.1/\r.2.1<=n+m/\Down f r.1 r.2.1/\r.2.2+1<=r.2.1/\Like f r.1 (r.2.1 - (r.2.2+1)) r.2.1
 |0,p,n,q,g,h1,hq,hn,d,l=>⟨g,Nat.le_refl _,Nat.le_refl _,d,hq,l⟩
 |m+1,p,n,q,g,h1,hq,hn,d,l=>by
  refine⟨g.lt hN _,g.lt hN _,?_⟩
  dsimp only
  by_cases c:f (at' p n) (at' p (n - 1))=true
  ·rw[if_pos c]
   have d2:Down f p (n+1):=d.more O h1 (O.tot c)
   have one:∀p':Array Nat,Like f p' (n+1 - (0+1)) (n+1):=fun p' i h2 h3=>by
    have e:i=n+1 - 1:=by omega
    subst e
    exact⟨O.rfl' _,O.rfl' _⟩
   by_cases hq0:q > 0
   ·rw[if_pos hq0]
    have hk:n<=p.size:=by rw[g.size];omega
    exact (d9_ hN m _ (n+1) 0 (g.rev _ _) (by omega) (by omega) (by omega) (d2.rev O l hk) (one _)).imp fun r ⟨a,b,b2,z⟩=>⟨a,by omega,by omega,z⟩
   ·rw[if_neg hq0]
    exact (d9_ hN m _ (n+1) 0 g (by omega) (by omega) (by omega) d2 (one _)).imp fun r ⟨a,b,b2,z⟩=>⟨a,by omega,by omega,z⟩
  ·rw[if_neg c]
   refine⟨g.lt hN _,g.lt hN _,?_⟩
   dsimp only
   have c:f (at' p n) (at' p (n - 1))=false:=by simpa using c
   by_cases e:f (at' p (n - 1)) (at' p n)=true
   ·rw[if_pos e]
    exact⟨g,Nat.le_refl _,by show n<=n+(m+1);omega,d,hq,l⟩
   ·rw[if_neg e]
    have e:f (at' p (n - 1)) (at' p n)=false:=by simpa using e
    refine (d9_ hN m p (n+1) (q+1) g (by omega) (by omega) (by omega) (d.more O h1 e) fun i h2 h3=>?_).imp fun r ⟨a,b,b2,z⟩=>⟨a,by omega,by omega,z⟩
    show f (at' p i) (at' p n)=false/\f (at' p n) (at' p i)=false
    by_cases ei:i=n
    ·subst ei
     exact⟨O.rfl' _,O.rfl' _⟩
    ·obtain⟨a1,a2⟩:=l i (by omega) (by omega)
     exact⟨O.trans e a1,O.trans a2 c⟩
def Counted(f:Nat->Nat->Bool)(N nrem:Nat)(r:Nat × Array Nat):Prop:=Good N r.2/\1<=r.1/\r.1<=nrem/\Up f r.2 r.1
theorem fI_(hN:0<N){p:Array Nat}{n nrem:Nat}(g:Good N p)(h1:1<=n)(hn:n<=nrem)(hr:nrem<=N)(d:Down f p n):Ok f N (kas_tail3 n nrem p) (Counted f N nrem):=by
 unfold kas_tail3
 have u:Up f (kas_rev p 0 n) n:=fun i j hij hj=>by
  rw[cD_ (by rw[g.size];omega),cD_ (by rw[g.size];omega),if_pos (by omega),if_pos (by omega)]
  exact d _ _ (by omega) (by omega)
 exact (ge_ O (g.rev _ _) hN (nrem - n) n h1 u).bind fun m ⟨a,b,u,_⟩=>⟨g.rev _ _,by show 1<=m;omega,by show m<=nrem;omega,u⟩
theorem ct_(hN:0<N){p:Array Nat}{n nrem:Nat}(g:Good N p)(hn:n+1<=nrem)(hr:nrem<=N)(d:Down f p (n+1)):Ok f N (kas_descPart n nrem p) (Counted f N nrem):=by
 unfold kas_descPart
 refine (d9_ O hN (nrem - (n+1)) p (n+1) 0 g (by omega) (by omega) (by omega) d fun i h2 h3=>?_).bind fun r ⟨g',a,b,d',hq,l⟩=>?_
 ·have e:i=n+1 - 1:=by omega
  subst e
  exact⟨O.rfl' _,O.rfl' _⟩
 ·split
  ·exact fI_ O hN (g'.rev _ _) (by omega) (by omega) hr (d'.rev O l (by rw[g'.size];omega))
  ·exact fI_ O hN g' (by omega) (by omega) hr d'
theorem hi_(hN:0<N){p:Array Nat}{nrem:Nat}(g:Good N p)(h1:1<=nrem)(hr:nrem<=N):Ok f N (kas_count nrem p) (Counted f N nrem):=by
 unfold kas_count
 refine (ge_ O g hN (nrem - 1) 1 (Nat.le_refl _) fun i j hij hj=>?_).bind fun n ⟨a,b,u,st⟩=>?_
 ·have e:i=j:=by omega
  subst e
  exact O.rfl' _
 ·by_cases e:(n == nrem)=true
  ·rw[if_pos e]
   exact⟨g,a,by show n<=nrem;omega,u⟩
  ·rw[if_neg e]
   have e:n≠nrem:=by simpa using e
   have c:=st (by omega)
   by_cases h2:n > 1
   ·rw[if_pos h2]
    refine⟨g.lt hN _,g.lt hN _,?_⟩
    dsimp only
    by_cases c2:f (at' p 0) (at' p (n - 1))=true
    ·rw[if_pos c2]
     exact⟨g,a,by show n<=nrem;omega,u⟩
    ·rw[if_neg c2]
     have c2:f (at' p 0) (at' p (n - 1))=false:=by simpa using c2
     refine ct_ O hN (g.rev _ _) (by omega) hr fun i j hij hj=>?_
     by_cases ej:j<n
     ·rw[cD_ (by rw[g.size];omega),cD_ (by rw[g.size];omega),if_pos (by omega),if_pos (by omega)]
      exact u _ _ (by omega) (by omega)
     ·have ej:j=n:=by omega
      subst ej
      by_cases ei:i=j
      ·subst ei
       exact O.rfl' _
      ·rw[cD_ (by rw[g.size];omega),cD_ (by rw[g.size];omega),if_pos (by omega),if_neg (by omega)]
       exact O.trans (O.trans (O.tot c) c2) (u 0 _ (by omega) (by omega))
   ·rw[if_neg h2]
    have e1:n=1:=by omega
    subst e1
    refine ct_ O hN g (by omega) hr fun i j hij hj=>?_
    by_cases ei:i=j
    ·subst ei
     exact O.rfl' _
    ·have q1:i=0:=by omega
     have q2:j=1:=by omega
     subst q1
     subst q2
     exact O.tot c
theorem dd_(hN:0<N){p:Array Nat}{k:Nat}(g:Good N p)(u:Up f p k):∀(m l r:Nat),r - l<=m->l<=r->r<=k->(∀i,i<l->f (at' p k) (at' p i)=false)->(∀i,r<=i->i<k->f (at' p k) (at' p i)=true)->
  Ok f N (kas_place p k m l r) fun x=>x<=k/\(∀i,i<x->f (at' p k) (at' p i)=false)/\∀i,x<=i->i<k->f (at' p k) (at' p i)=true
 |0,l,r,hm,hl,hr,h1,h2=>by
  have e:l=r:=by omega
  subst e
  exact⟨hr,h1,h2⟩
 |m+1,l,r,hm,hl,hr,h1,h2=>by
  unfold kas_place
  by_cases e:l ≥ r
  ·rw[if_pos e]
   have e:l=r:=by omega
   subst e
   exact⟨hr,h1,h2⟩
  ·rw[if_neg e]
   refine⟨g.lt hN _,g.lt hN _,?_⟩
   dsimp only
   by_cases c:f (at' p k) (at' p ((l+r) / 2))=true
   ·rw[if_pos c]
    refine dd_ hN g u m l _ (by omega) (by omega) (by omega) h1 fun i h3 h4=>?_
    by_cases ei:f (at' p k) (at' p i)=true
    ·exact ei
    ·have ei:f (at' p k) (at' p i)=false:=by simpa using ei
     have:=O.trans (u _ i h3 h4) ei
     rw[c] at this
     cases this
   ·rw[if_neg c]
    have c:f (at' p k) (at' p ((l+r) / 2))=false:=by simpa using c
    exact dd_ hN g u m _ r (by omega) (by omega) hr (fun i h3=>O.trans (u i _ (by omega) (by omega)) c) h2
theorem i7_(hN:0<N):∀(m:Nat) (p:Array Nat) (k:Nat),Good N p->k+m=N->Up f p k->Ok f N (kas_bin m p k) fun r=>Good N r/\Up f r N
 |0,p,k,g,e,u=>by
  have e:k=N:=by omega
  subst e
  exact⟨g,u⟩
 |m+1,p,k,g,e,u=>by
  unfold kas_bin
  refine (dd_ O hN g u k 0 k (by omega) (by omega) (Nat.le_refl _) (fun i h=>absurd h (by omega)) fun i h1 h2=>absurd h2 (by omega)).bind fun l ⟨hl,h1,h2⟩=>?_
  have hk:k<p.size:=by rw[g.size];omega
  refine i7_ hN m _ (k+1) (g.bub _ _) (by omega) fun i j hij hj=>?_
  rw[ie_ hk hl,ie_ hk hl]
  by_cases ej:j=l
  ·rw[if_pos ej]
   by_cases ei:i=l
   ·rw[if_pos ei]
    exact O.rfl' _
   ·rw[if_neg ei,if_neg (by omega)]
    exact h1 i (by omega)
  ·rw[if_neg ej]
   by_cases ej2:l<j/\j<=k
   ·rw[if_pos ej2]
    by_cases ei:i=l
    ·rw[if_pos ei]
     exact O.tot (h2 (j - 1) (by omega) (by omega))
    ·rw[if_neg ei]
     by_cases ei2:l<i/\i<=k
     ·rw[if_pos ei2]
      exact u _ _ (by omega) (by omega)
     ·rw[if_neg ei2]
      exact u _ _ (by omega) (by omega)
   ·rw[if_neg ej2]
    rw[if_neg (show ¬i=l by omega),if_neg (show ¬(l<i/\i<=k) by omega)]
    exact u _ _ (by omega) (by omega)
theorem iu_(hN:0<N):Ok f N (kas_sort N) fun p=>Good N p/\Up f p N:=by
 unfold kas_sort
 refine (hi_ O hN (p:=(List.range N).toArray) (Array.Perm.refl _) hN (Nat.le_refl _)).bind fun r ⟨g,h1,h2,u⟩=>?_
 split
 ·rename_i c
  rw[show max r.1 1=r.1 by omega]
  exact i7_ O hN _ _ _ g (by omega) u
 ·rename_i c
  have e:r.1=N:=by omega
  exact⟨g,e▸u⟩
end
end EvS
set_option Elab.async false
set_option linter.all false
set_option maxRecDepth 100000
namespace EvS
open PySem PySem.W PyProof.Rows
section
variable{prog:Program}{w:World}{A:Around}{E:Value->Shared->Prop}{s:Shared}
def Asks(prog:Program)(w:World)(A:Around)(f:Nat->Nat->Bool)(vs:List Value)(s:Shared):Prop:=
 ∃κ,(∀Q:SortKind->Shared->Prop,Q κ s->wpAny (model prog w) A (keyKind' vs.toArray) Q (fun _ _=>False) s)/\∀i j C,i<vs.length->j<vs.length->C (f i j) s->kas_ask prog w A κ vs i j C s
def KeptBut(a:Addr)(h h':Heap):Prop:=∀b o,b≠a->h.get? b=some o->h'.get? b=some o
def putBy(p:Array Nat)(vs:List Value):List Value:=p.toList.map fun i=>vs.getD i Value.none
theorem eo_(vs:List Value):putBy (List.range vs.length).toArray vs=vs:=by
 unfold putBy
 apply List.ext_getElem?
 intro i
 simp only[List.getElem?_map]
 by_cases h:i<vs.length
 ·simp[h]
 ·simp[Nat.le_of_not_lt h]
theorem hw_{a:Addr}{vs:List Value}{n:Nat}{f:Nat->Nat->Bool}{P:Fin->Shared->Prop}(O:Ord f)(ho:s.heap.get? a=some (seqObj "list" vs.toArray n))(h64:vs.length<64)
  (hask:2<=vs.length->∀h',KeptBut a s.heap h'->Asks prog w A f vs { s with heap:=h' })
  (h:∀(p:Array Nat) (h':Heap) (e:Nat),Good vs.length p->Up f p vs.length->h'.get? a=some (seqObj "list" (putBy p vs).toArray e)->KeptBut a s.heap h'->P (.done (.ret .none)) { s with heap:=h' }) :
  wpAny (model prog w) A (Builtin.«list.sort» ⟨[.ref a],[]⟩) P E s:=by
 have haz:a<s.heap.objs.size:=Heap.lt_size ho
 obtain⟨e1,ho1⟩:∃e1,(s.heap.update a (Obj.mapSeq fun _=>(#[]:Array Value))).get? a=some (seqObj "list" #[] e1):=⟨_,get?_update_seq ho (fun _=>#[])⟩
 have l64:vs.length<=sizeLine:=by
  have:=sizeLine_eq
  omega
 rw[list_sort_plain]
 refine wpAny_bind (listItems_at ho rfl (wpAny_bind (listUpdate_at ho rfl (wpAny_bind (seqEpoch_at ho1 rfl (wpAny_bind (wpAny_newTuple (wpAny_bind (wpAny_newList (wpAny_holding ?_) (Nat.zero_le _))) l64)))) (by simpa using l64) (Nat.zero_le _))))
 have keep:∀g:Array Value->Array Value,KeptBut a s.heap ((((s.heap.update a (Obj.mapSeq fun _=>(#[]:Array Value))).push (seqObj "tuple" vs.toArray 0)).push (seqObj "list" #[] 0)).update a (Obj.mapSeq g)):=fun g b o hb e=>by
  refine (Heap.get?_update_other _ _ (Ne.symm hb)).trans (Heap.get?_push_of_some _ (Heap.get?_push_of_some _ ?_))
  exact (Heap.get?_update_other _ _ (Ne.symm hb)).trans e
 have keep0:KeptBut a s.heap (((s.heap.update a (Obj.mapSeq fun _=>(#[]:Array Value))).push (seqObj "tuple" vs.toArray 0)).push (seqObj "list" #[] 0)):=fun b o hb e=>
  Heap.get?_push_of_some _ (Heap.get?_push_of_some _ ((Heap.get?_update_other _ _ (Ne.symm hb)).trans e))
 have hoB:(((s.heap.update a (Obj.mapSeq fun _=>(#[]:Array Value))).push (seqObj "tuple" vs.toArray 0)).push (seqObj "list" #[] 0)).get? a=some (seqObj "list" #[] e1):=Heap.get?_push_of_some _ (Heap.get?_push_of_some _ ho1)
 show wpAny (model prog w) A _ P E { s with heap:=((s.heap.update a (Obj.mapSeq fun _=>(#[]:Array Value))).push (seqObj "tuple" vs.toArray 0)).push (seqObj "list" #[] 0) }
 dsimp only
 by_cases h2:vs.toArray.size<2
 ·rw[if_pos h2,if_pos h2]
  refine wpAny_bind (wpAny_pure ?_)
  rw[StateT.run_pure]
  have eout:((vs.toArray.zip vs.toArray).map fun x:Keyed=>x.2)=(putBy (List.range vs.length).toArray vs).toArray:=by
   rw[eo_]
   apply Array.ext'
   simp[List.map_snd_zip]
  refine wpAny_bind (wpAny_pure (wpAny_bind (seqEpoch_at hoB rfl (wpAny_bind (listUpdate_at hoB rfl ?_ (Nat.zero_le _) ?_)))))
  ·simp only[bne_self_eq_false,Bool.false_eq_true,if_false]
   refine wpAny_pure (h (List.range vs.length).toArray _ _ (Array.Perm.refl _) (fun i j hij hj=>?_) ((get?_update_seq hoB _).trans (congrArg (fun z=>some (seqObj "list" z _)) eout)) (keep _))
   ·have e:i=j:=by
     simp only[List.size_toArray] at h2
     omega
    subst e
    exact O.rfl' _
  ·have e:((vs.toArray.zip vs.toArray).map fun x:Keyed=>x.2).size<=sizeLine+1:=by
    simp only[Array.size_map,Array.size_zip,List.size_toArray]
    omega
   exact e
 ·rw[if_neg h2,if_neg h2]
  have h2':2<=vs.length:=by
   simp only[List.size_toArray] at h2
   omega
  obtain⟨κ,hk,hc⟩:=hask h2' _ keep0
  refine wpAny_bind (wpAny_mono (hk (fun k s'=>k=κ/\s'=_) ⟨rfl,rfl⟩) (fun k s' hks=>?_) fun _ _ x=>x.elim)
  obtain⟨rfl,rfl⟩:=hks
  refine wpAny_bind (wpAny_mono (kat_run (ks:=vs) (vs:=vs) (G:=fun p s'=>s'={ s with heap:=((s.heap.update a (Obj.mapSeq fun _=>(#[]:Array Value))).push (seqObj "tuple" vs.toArray 0)).push (seqObj "list" #[] 0) }/\Good vs.length p/\Up f p vs.length)
   (Q:=fun st' s'=>∃p:Array Nat,arrOf st'=p.map (kas_item (vs.toArray.zip vs.toArray))/\failedOf st'=none/\s'={ s with heap:=((s.heap.update a (Obj.mapSeq fun _=>(#[]:Array Value))).push (seqObj "tuple" vs.toArray 0)).push (seqObj "list" #[] 0) }/\Good vs.length p/\Up f p vs.length)
   rfl h2' h64 (fun p st' s' _ q1 q2 q3=>⟨p,q1,q2,q3⟩) (Ok.wp hc (fun p q=>⟨rfl,q⟩) (iu_ O (by omega)))) ?_ fun _ _ x=>x)
  rintro⟨⟨⟩,st'⟩ s' ⟨p,har,hf,hs',g,u⟩
  have hs':s'={ s with heap:=((s.heap.update a (Obj.mapSeq fun _=>(#[]:Array Value))).push (seqObj "tuple" vs.toArray 0)).push (seqObj "list" #[] 0) }:=hs'
  subst hs'
  have eout:((arrOf st').map fun x:Keyed=>x.2)=(putBy p vs).toArray:=by
   rw[har]
   apply Array.ext'
   unfold putBy
   simp only[Array.map_map,Array.toList_map,List.toList_toArray]
   refine List.map_congr_left fun i _=>?_
   show (kas_item (vs.toArray.zip vs.toArray) i).2=_
   unfold kas_item
   by_cases hi:i<vs.length
   ·simp[Array.getD,hi]
   ·simp[Array.getD,hi,Nat.le_of_not_lt hi]
  have esz:((arrOf st').map fun x:Keyed=>x.2).size=vs.length:=by
   rw[eout]
   unfold putBy
   simp only[List.size_toArray,List.length_map,Array.length_toList]
   exact g.size
  refine wpAny_bind (seqEpoch_at hoB rfl (wpAny_bind (listUpdate_at hoB rfl ?_ (Nat.zero_le _) (by rw[esz];omega))))
  rw[hf]
  simp only[bne_self_eq_false,Bool.false_eq_true,if_false]
  exact wpAny_pure (h p _ _ g u ((get?_update_seq hoB _).trans (congrArg (fun z=>some (seqObj "list" z _)) eout)) (keep _))
theorem d4_{x:Value}{f:Nat->Nat->Bool}{Q:Value->Shared->Prop}(O:Ord f)
  (hcol:wpAny (model prog w) A.in1 (collect x) (fun vs s1=>vs.length<64/\(2<=vs.length->∀h':Heap,(∀b o,s1.heap.get? b=some o->h'.get? b=some o)->Asks prog w A.in1.in1 f vs { s1 with heap:=h' }) /\
   ∀(p:Array Nat) (h':Heap) (e:Nat),Good vs.length p->Up f p vs.length->h'.get? s1.heap.objs.size=some (seqObj "list" (putBy p vs).toArray e)->(∀b o,s1.heap.get? b=some o->h'.get? b=some o)->Q (.ref s1.heap.objs.size) { s1 with heap:=h' }) E s) :
  wpAny (model prog w) A (call (.builtin "sorted") [x]) Q E s:=by
 refine Calls.call_function_entry kind_sorted plain_sorted entry_sorted (args_sorted1 _) ?_
 unfold Builtin.«sorted»
 refine wpAny_bind (m:=checkCount "sorted" 1 1 _) (wpAny_pure (wpAny_bind (wpAny_mono hcol (fun vs s1 q=>?_) fun _ _ z=>z)))
 obtain⟨h64,hask,hQ⟩:=q
 refine wpAny_bind (wpAny_newList ?_ (by have:=sizeLine_eq;omega))
 have hn:(s1.heap.push (seqObj "list" vs.toArray 0)).get? s1.heap.objs.size=some (seqObj "list" vs.toArray 0):=Heap.get?_push_size _ rfl
 have old:∀h',KeptBut s1.heap.objs.size (s1.heap.push (seqObj "list" vs.toArray 0)) h'->∀b o,s1.heap.get? b=some o->h'.get? b=some o:=fun h' k b o e=>
  k b o (Nat.ne_of_lt (Heap.lt_size e)) (Heap.get?_push_of_some _ e)
 refine wpAny_bind (wpAny_holding (wpAny_call_entry slot_list_sort ⟨_,hn,rfl⟩ entry_list_sort (hw_ O hn h64 (fun h2 h' k=>hask h2 h' (old h' k)) fun p h' e g u q k=>⟨_,rfl,?_⟩) (args_list_sort _)))
 exact wpAny_pure ⟨_,rfl,hQ p h' e g u q (old h' k)⟩
end
end EvS
set_option Elab.async false
set_option linter.all false
set_option maxRecDepth 100000
namespace L2
open PySem PySem.Spec PyProof.Rows PySem.W EvS
def kLt:Key->Key->Bool
 |.inl i,.inl j=>decide (i<j)
 |.inl _,.inr _=>true
 |.inr _,.inl _=>false
 |.inr x,.inr y=>decide (x.cps.toList<y.cps.toList)
def lexK:List Key->List Key->Bool
 |[],[]=>false
 |[],_::_=>true
 |_::_,[]=>false
 |a::r,b::q=>if a=b then lexK r q else kLt a b
theorem jj_:∀a:Key,kLt a a=false
 |.inl i=>by simp[kLt]
 |.inr x=>by simp[kLt,List.lt_irrefl]
theorem dQ_:∀{a b:Key},kLt a b=true->kLt b a=false
 |.inl i,.inl j,h=>by
  simp only[kLt,decide_eq_true_eq,decide_eq_false_iff_not] at *
  omega
 |.inl _,.inr _,_=>rfl
 |.inr _,.inl _,h=>by cases h
 |.inr x,.inr y,h=>by
  simp only[kLt,decide_eq_true_eq,decide_eq_false_iff_not] at *
  exact fun q=>List.lt_irrefl _ (List.lt_trans h q)
theorem fD_:∀{a b:Key},kLt a b=false->kLt b a=false->a=b
 |.inl i,.inl j,h,h2=>by
  simp only[kLt,decide_eq_false_iff_not] at *
  rw[show i=j by omega]
 |.inl _,.inr _,h,_=>by cases h
 |.inr _,.inl _,_,h=>by cases h
 |.inr x,.inr y,h,h2=>by
  simp only[kLt,decide_eq_false_iff_not] at *
  rw[ext_toList (List.le_antisymm (List.not_lt.mp h2) (List.not_lt.mp h))]
theorem fY_:∀{a b c:Key},kLt a b=true->kLt b c=true->kLt a c=true
 |.inl i,.inl j,.inl k,h,h2=>by
  simp only[kLt,decide_eq_true_eq] at *
  omega
 |.inl _,.inl _,.inr _,_,_=>rfl
 |.inl _,.inr _,.inr _,_,_=>rfl
 |.inl _,.inr _,.inl _,_,h=>by cases h
 |.inr _,.inl _,_,h,_=>by cases h
 |.inr _,.inr _,.inl _,_,h=>by cases h
 |.inr x,.inr y,.inr z,h,h2=>by
  simp only[kLt,decide_eq_true_eq] at *
  exact List.lt_trans h h2
theorem eF_:∀a:List Key,lexK a a=false
 |[]=>rfl
 |a::r=>by
  unfold lexK
  rw[if_pos rfl]
  exact eF_ r
theorem bY_:∀{a b:List Key},lexK a b=true->lexK b a=false
 |[],[],h=>by cases h
 |[],_::_,_=>rfl
 |_::_,[],h=>by cases h
 |a::r,b::q,h=>by
  unfold lexK at h ⊢
  by_cases e:a=b
  ·rw[if_pos e] at h
   rw[if_pos e.symm]
   exact bY_ h
  ·rw[if_neg e] at h
   rw[if_neg (Ne.symm e)]
   exact dQ_ h
theorem dl_:∀{a b:List Key},lexK a b=false->lexK b a=false->a=b
 |[],[],_,_=>rfl
 |[],_::_,h,_=>by cases h
 |_::_,[],_,h=>by cases h
 |a::r,b::q,h,h2=>by
  unfold lexK at h h2
  by_cases e:a=b
  ·rw[if_pos e] at h
   rw[if_pos e.symm] at h2
   rw[e,dl_ h h2]
  ·rw[if_neg e] at h
   rw[if_neg (Ne.symm e)] at h2
   exact absurd (fD_ h h2) e
theorem cb_:∀{a b c:List Key},lexK a b=true->lexK b c=true->lexK a c=true
 |[],_,[],h,h2=>by
  rename_i b
  cases b with
  |nil=>cases h
  |cons _ _=>cases h2
 |[],_,_::_,_,_=>rfl
 |_::_,[],_,h,_=>by cases h
 |_::_,_::_,[],_,h=>by cases h
 |a::r,b::q,c::t,h,h2=>by
  unfold lexK at h h2 ⊢
  by_cases e:a=b
  ·subst e
   rw[if_pos rfl] at h
   by_cases e2:a=c
   ·rw[if_pos e2] at h2 ⊢
    exact cb_ h h2
   ·rw[if_neg e2] at h2 ⊢
    exact h2
  ·rw[if_neg e] at h
   by_cases e2:b=c
   ·subst e2
    rw[if_neg e]
    exact h
   ·rw[if_neg e2] at h2
    have h3:=fY_ h h2
    rw[if_neg (fun q=>by rw[q,jj_] at h3;cases h3)]
    exact h3
theorem cT_{a b c:List Key}(h:lexK b a=false)(h2:lexK c b=false):lexK c a=false:=by
 cases e:lexK c a with
 |false=>rfl
 |true=>
  by_cases e1:lexK a b=true
  ·have:=cb_ e e1
   rw[h2] at this
   cases this
  ·have e1:lexK a b=false:=by simpa using e1
   have:=dl_ e1 h
   subst this
   rw[h2] at e
   cases e
def Asc(ks:List (List Key)):Prop:=ks.Pairwise fun a b=>lexK b a=false
theorem cV_:∀{a b:List (List Key)},a.Perm b->Asc a->Asc b->a=b
 |[],b,p,_,_=>by
  have:=p.length_eq
  cases b with
  |nil=>rfl
  |cons _ _=>cases this
 |x::r,[],p,_,_=>by
  have:=p.length_eq
  cases this
 |x::r,y::q,p,h1,h2=>by
  obtain⟨a1,a2⟩:=List.pairwise_cons.mp h1
  obtain⟨b1,b2⟩:=List.pairwise_cons.mp h2
  have e:x=y:=by
   rcases List.mem_cons.mp (p.mem_iff.mp List.mem_cons_self) with m|m
   ·exact m
   ·rcases List.mem_cons.mp (p.mem_iff.mpr List.mem_cons_self) with m2|m2
    ·exact m2.symm
    ·exact dl_ (b1 _ m) (a1 _ m2)
  subst e
  rw[cV_ ((List.perm_cons _).mp p) a2 b2]
def sortKs(ks:List (List Key)):List (List Key):=ks.mergeSort fun a b=>!lexK b a
theorem al_(ks:List (List Key)):(sortKs ks).Perm ks:=List.mergeSort_perm _ _
theorem ff_(ks:List (List Key)):Asc (sortKs ks):=by
 have:=List.pairwise_mergeSort (le:=fun a b=>!lexK b a) (fun a b c h1 h2=>by
  simp only[Bool.not_eq_true'] at *
  exact cT_ h1 h2) (fun a b=>by
  simp only[Bool.or_eq_true,Bool.not_eq_true']
  by_cases e:lexK b a=true
  ·exact .inr (bY_ e)
  ·exact .inl (by simpa using e)) ks
 exact this.imp fun h=>by simpa using h
theorem dZ_{ks ks':List (List Key)}(p:ks'.Perm ks)(h:Asc ks'):ks'=sortKs ks:=cV_ (p.trans (al_ ks).symm) h (ff_ ks)
theorem bo_{α:Type}{p:Array Nat}{n:Nat}(g:Good n p)(F:Nat->α):(p.toList.map F).Perm ((List.range n).map F):=by
 have e:p.toList.Perm (List.range n):=by
  have:=Array.perm_iff_toList_perm.mp g
  simpa using this
 exact e.map F
theorem gb_{p:Array Nat}{ks:List (List Key)}{f:Nat->Nat->Bool}(hf:∀i j,i<ks.length->j<ks.length->f i j=lexK (ks.getD i []) (ks.getD j []))(g:Good ks.length p)(u:Up f p ks.length):Asc (p.toList.map fun i=>ks.getD i []):=by
 unfold Asc
 rw[List.pairwise_map,List.pairwise_iff_getElem]
 intro i j hi hj hij
 have hs:=g.size
 rw[Array.length_toList] at hi hj
 have hj':j<ks.length:=by omega
 have q:=u i j (Nat.le_of_lt hij) hj'
 have hN:0<ks.length:=by omega
 rw[hf _ _ (g.lt hN _) (g.lt hN _)] at q
 have e1:at' p i=p.toList[i]:=by simp[at',Array.getD,hi]
 have e2:at' p j=p.toList[j]:=by simp[at',Array.getD,hj]
 rw[e1,e2] at q
 exact q
theorem ey_(ks:List (List Key)):Ord fun i j=>lexK (ks.getD i []) (ks.getD j []):=⟨fun _=>eF_ _,fun h h2=>cT_ h h2,fun h=>bY_ h⟩
theorem b6_{α:Type}(d:α)(l:List α):((List.range l.length).map fun i=>l.getD i d)=l:=by
 apply List.ext_getElem?
 intro i
 simp only[List.getElem?_map]
 by_cases h:i<l.length
 ·simp[h]
 ·simp[Nat.le_of_not_lt h]
theorem eS_{ys:List V}{vs:List Value}(r:Vals ys vs){p:Array Nat}(g:Good vs.length p):Vals (p.toList.map fun i=>ys.getD i .non) (putBy p vs):=by
 unfold putBy
 have key:∀l:List Nat,(∀i∈l,i<vs.length)->Vals (l.map fun i=>ys.getD i .non) (l.map fun i=>vs.getD i Value.none):=fun l=>by
  induction l with
  |nil=>exact fun _=>.nil
  |cons i l ih=>
   intro h
   refine .cons ?_ (ih fun j hj=>h j (List.mem_cons_of_mem _ hj))
   have hi:=h i List.mem_cons_self
   have hy:i<ys.length:=by rw[r.length];exact hi
   obtain⟨u,hu,ru⟩:=r.get (List.getElem?_eq_getElem hy)
   have e1:ys.getD i .non=ys[i]:=by simp[hy]
   have e2:vs.getD i Value.none=u:=by simp[hu]
   show RelV (ys.getD i .non) (vs.getD i Value.none)
   rw[e1,e2]
   exact ru
 refine key p.toList fun i hi=>?_
 have m:i∈(List.range vs.length).toArray:=g.mem_iff.mp (by simpa using hi)
 simpa using m
theorem gs_:∀{ss:List Str} {vs:List Value},Vals (ss.map V.str) vs->StrsAre vs ss
 |[],_,.nil=>.nil
 |x::r,_,.cons h t=>by
  obtain⟨tk,rfl⟩:=h
  exact .cons x tk (gs_ t)
def sortS(ss:List Str):List Str:=(sortKs (ss.map fun x=>[Sum.inr x])).map fun k=>match k with
 |[.inr x]=>x
 |_=>⟨#[]⟩
def keyS(x:Str):List Key:=[Sum.inr x]
theorem gi_{prog:Program}{w:World}{A:Around}{s:Shared}{ss:List Str}{vs:List Value}(r:StrsAre vs ss)(h2:2<=vs.length):Asks prog w A (fun i j=>lexK ((ss.map keyS).getD i []) ((ss.map keyS).getD j [])) vs s:=by
 refine⟨oneType',fun Q q=>?_,fun i j C hi hj hC=>?_⟩
 ·match vs,h2 with
  |v₁::v₂::t,_=>
   rw[keyKind_strs r]
   exact wpAny_pure q
 ·unfold kas_ask
  rw[keyLt'_oneType]
  have look:∀k,k<vs.length->∃x t,vs.getD k Value.none=.str x t/\(ss.map keyS).getD k []=[Sum.inr x]:=fun k hk=>by
   have e:=r.strs
   obtain⟨x,t,q⟩:=r.all vs[k] (List.getElem_mem hk)
   refine⟨x,t,by simp[hk,q],?_⟩
   have hk':k<ss.length:=by
    rw[<- e,List.length_map]
    exact hk
   have e2:ss[k]=x:=by
    have e3:(vs.map strOf)[k]? = ss[k]?:=by rw[e]
    rw[List.getElem?_map,List.getElem?_eq_getElem hk,List.getElem?_eq_getElem hk',q] at e3
    exact (Option.some.inj e3).symm
   simp[hk',e2,keyS]
  obtain⟨x,t,e1,e2⟩:=look i hi
  obtain⟨y,u,e3,e4⟩:=look j hj
  rw[e1,e3]
  dsimp only at hC
  rw[e2,e4] at hC
  refine oneLt_str ?_
  unfold lexK at hC
  by_cases e:x=y
  ·subst e
   rw[if_pos rfl] at hC
   have:decide (x.cps.toList<x.cps.toList)=false:=by simp[List.lt_irrefl]
   rw[this]
   exact hC
  ·rw[if_neg (fun q=>e (Sum.inr.inj q))] at hC
   exact hC
def isS:Key->Bool
 |.inl _=>false
 |.inr _=>true
theorem fs_{prog:Program}{w:World}{A:Around}{E:Value->Shared->Prop}{s:Shared}{c:Bool}{a b:Key}{p q:Value}{Q:Bool->Shared->Prop}(ra:RelV (kV a) p)(rb:RelV (kV b) q)(hk:isS a=isS b)(h:Q (kLt a b) s) :
  wpAny (model prog w) A (oneLt' c p q) Q E s:=by
 cases a with
 |inl i=>
  cases b with
  |inr y=>cases hk
  |inl j=>
   obtain⟨t,rfl⟩:=ra
   obtain⟨u,rfl⟩:=rb
   cases c with
   |true=>exact oneLt_int h
   |false=>exact kat_one _ _ (lt_int (show PySem.W.BoolBack Q (.bool _) s from h))
 |inr x=>
  cases b with
  |inl j=>cases hk
  |inr y=>
   obtain⟨t,rfl⟩:=ra
   obtain⟨u,rfl⟩:=rb
   cases c with
   |true=>exact oneLt_str h
   |false=>exact kat_one _ _ (PyProof.Rows.lt_str (show PySem.W.BoolBack Q (.bool _) s from h))
theorem iz_{a b:Key}(hk:isS a=isS b):eqV (kV a) (kV b)=decide (a=b):=by
 cases a with
 |inl i=>
  cases b with
  |inr y=>cases hk
  |inl j=>
   show (i == j)=_
   by_cases e:i=j
   ·subst e
    simp
   ·rw[decide_eq_false (fun q=>e (Sum.inl.inj q))]
    simpa using e
 |inr x=>
  cases b with
  |inl j=>cases hk
  |inr y=>
   show (x == y)=_
   by_cases e:x=y
   ·subst e
    simp
   ·rw[decide_eq_false (fun q=>e (Sum.inr.inj q))]
    simpa using e
theorem eE_(a:Key):flatV (kV a)=true:=by cases a<;>rfl
theorem cC_{prog:Program}{w:World}{A:Around}{s:Shared}{Q:Bool->Shared->Prop}:∀{k1 k2:List Key} {us vs:List Value} (i:Nat),Vals (k1.map kV) us->Vals (k2.map kV) vs->k1.map isS=k2.map isS->Q (lexK k1 k2) s->KatLex prog w A true false Q (us.zip vs) i s
 |[],[],_,_,i,.nil,.nil,_,h=>h
 |[],_::_,_,_,_,_,_,h,_=>by cases h
 |_::_,[],_,_,_,_,_,h,_=>by cases h
 |a::k1,b::k2,u::us,v::vs,i,.cons ra r1,.cons rb r2,hk,h=>by
  obtain⟨e1,e2⟩:=List.cons.inj hk
  refine kat_cons ?_
  refine fJ_ ra rb (eE_ a) (eE_ b) prog w _ _ ?_
  rw[iz_ e1]
  unfold lexK at h
  by_cases e:a=b
  ·rw[if_pos e] at h
   rw[decide_eq_true e]
   exact kat_yes (cC_ (i+1) r1 r2 e2 h)
  ·rw[if_neg e] at h
   rw[decide_eq_false e]
   exact kat_no (fs_ ra rb e1 h)
def TupsAt(K:PySem.W.Frag)(H:Hp):List V->List (List Key)->Prop:=Paired fun y k=>∃a,y=V.ref a/\H a=some (.tup (k.map kV))
def Alike(ks:List (List Key))(sh:List Bool):Prop:=sh≠[]/\∀k∈ks,k.map isS=sh
theorem fX_{X:Cx}{pins:List (Addr × Obj)}{σ:St}{H:Hp}{s s':Shared}{A:Around}{ys:List V}{ks:List (List Key)}{sh:List Bool}{vs:List Value}(I:Inv X pins σ H s)(r:Vals ys vs)(t:TupsAt X.K H ys ks)(al:Alike ks sh)(h2:2<=vs.length)
  (kp:∀b o,s.heap.get? b=some o->s'.heap.get? b=some o):Asks X.prog X.w A (fun i j=>lexK (ks.getD i []) (ks.getD j [])) vs s':=by
 have look:∀k,k<vs.length->∃a its,vs.getD k Value.none=.ref a/\Vals ((ks.getD k []).map kV) its/\IsTup s'.heap a its.toArray/\ks.getD k []∈ks:=fun k hk=>by
  have hy:k<ys.length:=by rw[r.length];exact hk
  have hk2:k<ks.length:=by rw[<- Paired.length t];exact hy
  obtain⟨u,hu,ru⟩:=r.get (List.getElem?_eq_getElem hy)
  have gen:∀{ys:List V} {ks:List (List Key)} (k:Nat) (hy:k<ys.length) (hk2:k<ks.length),TupsAt X.K H ys ks->∃a,ys[k]=V.ref a/\H a=some (.tup (ks[k].map kV)):=fun {ys ks} k hy hk2 t=>by
   induction t generalizing k with
   |nil=>exact absurd hy (by simp)
   |cons h t ih=>
    cases k with
    |zero=>exact h
    |succ k=>exact ih k (by simpa using hy) (by simpa using hk2)
  obtain⟨a,e,sq⟩:=gen k hy hk2 t
  obtain⟨its,ri,ti,_⟩:=I.tuple (SqT.of sq)
  rw[e] at ru
  cases ru
  have e2:ks.getD k []=ks[k]:=by simp[hk2]
  refine⟨a,its,by simp[hu],by rw[e2];exact ri,ti.keeps kp,?_⟩
  rw[e2]
  exact List.getElem_mem hk2
 obtain⟨hne,hal⟩:=al
 obtain⟨c,sh',rfl⟩:∃c sh',sh=c::sh':=by
  cases sh with
  |nil=>exact absurd rfl hne
  |cons c sh'=>exact⟨c,sh',rfl⟩
 refine⟨tuples' true,fun Q q=>?_,fun i j C hi hj hC=>?_⟩
 ·have firsts:∀l:List Value,(∀v∈l,∃(a:Addr) (its:List Value) (k:List Key),v=.ref a/\Vals (k.map kV) its/\IsTup s'.heap a its.toArray/\k.map isS=c::sh')->∃fs,KatTups s'.heap l fs/\fs.length=l.length/\∀v∈fs,Looks (model X.prog X.w) s'.heap (typeOf v) (.type (if c then "str" else "int")):=fun l=>by
   induction l with
   |nil=>exact fun _=>⟨[],.nil,rfl,fun _ h=>nomatch h⟩
   |cons v l ih=>
    intro h
    obtain⟨fs,h1,h2,h3⟩:=ih fun v hv=>h v (List.mem_cons_of_mem _ hv)
    obtain⟨a,its,k,rfl,rv,⟨o,ho,hc,n,hd⟩,hk⟩:=h v List.mem_cons_self
    match k,its,rv,hk with
    |k0::k,u::its,.cons r0 _,hk=>
     refine⟨u::fs,.cons ho hc hd (by simp) h1,by simp[h2],fun v hv=>?_⟩
     rcases List.mem_cons.mp hv with e|hv
     ·subst e
      have e0:=(List.cons.inj hk).1
      cases k0 with
      |inl i=>
       obtain⟨t,rfl⟩:=r0
       rw[<- e0]
       exact .now
      |inr x=>
       obtain⟨t,rfl⟩:=r0
       rw[<- e0]
       exact .now
     ·exact h3 v hv
  obtain⟨fs,h1,h3,h4⟩:=firsts vs fun v hv=>by
   obtain⟨k,hk,rfl⟩:=List.getElem_of_mem hv
   obtain⟨a,its,e,rv,ti,m⟩:=look k hk
   refine⟨a,its,_,?_,rv,ti,hal _ m⟩
   rw[<- e]
   simp[hk]
  refine kat_kind h1 (by omega) h4 (by cases c<;>decide) ?_
  have e:((Value.type (if c then "str" else "int")) != Value.type "tuple")=true:=by cases c<;>decide
  rw[e]
  exact q
 ·unfold kas_ask
  obtain⟨a,its,e1,r1,⟨o,ho,_,n,hd⟩,m1⟩:=look i hi
  obtain⟨b,its2,e2,r2,⟨o2,ho2,_,n2,hd2⟩,m2⟩:=look j hj
  rw[e1,e2]
  refine kat_lt ho hd ho2 hd2 ?_
  have l1:=r1.length
  have l2:=r2.length
  have l3:=congrArg List.length ((hal _ m1).trans (hal _ m2).symm)
  simp only[List.length_map] at l1 l2 l3
  rw[show decide (its.toArray.size<its2.toArray.size)=false by simp;omega]
  exact cC_ 0 r1 r2 ((hal _ m1).trans (hal _ m2).symm) hC
end L2
set_option Elab.async false
set_option linter.all false
set_option maxRecDepth 100000
namespace EvD
open PySem PySem.W PyProof.Rows
section
variable{prog:Program}{w:World}{A:Around}{E:Value->Shared->Prop}{s:Shared}
def Raw(h:Heap)(d:Addr)(es:Array DictEntry)(ep:Nat):Prop:=∃o,h.get? d=some o/\o.ExactDict/\o.data=.dict es ep
theorem Raw.stay{h h':Heap}{d:Addr}{es:Array DictEntry}{ep:Nat}(x:Raw h d es ep)(k:∀o,h.get? d=some o->h'.get? d=some o):Raw h' d es ep:=let ⟨o,e,r⟩:=x;⟨o,k o e,r⟩
theorem Raw.ty{d:Addr}{es:Array DictEntry}{ep:Nat}(x:Raw s.heap d es ep):s.TypeIs (.ref d) "dict":=let ⟨o,e,c,_⟩:=x;⟨o,e,c.1⟩
theorem h2_{d:Addr}{es:Array DictEntry}{ep:Nat}{Q:Value->Shared->Prop}(hd:(d == sysModules)=false)(x:Raw s.heap d es ep)
  (q:Q (.ref s.heap.objs.size) { s with heap:=s.heap.push { cls:=.type "dict_keyiterator",data:=.fields #[.ref d,.int 0 0,.int es.size 0,.int ep 0] } }) :
  wpAny (model prog w) A (pyIter (.ref d)) Q E s:=by
 obtain⟨o,ho,hc,hdat⟩:=id x
 refine wpAny_pyIter_slot x.ty F.slot_dict_iter (wpAny_call_entry F.slot_dict_iter x.ty F.entry_dict_iter ?_ (F.args_dict_iter_1 _))
 unfold Builtin.«dict.__iter__» Builtin.Dict.dictSlotNone
 refine wpAny_bind (wpAny_bind (wpAny_notOrdered_dict x.ty (show wpAny _ _ (pure (Value.ref d)) _ _ s from wpAny_pure (show wpAny _ _ (Builtin.Dict.showsAll d >>= _) _ _ s from ?_))))
 unfold Builtin.Dict.showsAll
 rw[if_neg (by rw[hd];decide)]
 refine wpAny_bind (wpAny_pure (wpAny_bind (wpAny_dictEntries ho hdat (wpAny_bind (wpAny_dictEpoch ho hdat (wpAny_bind (wpAny_newObj_type (wpAny_pure ⟨_,rfl,"dict_keyiterator",_,⟨_,Heap.get?_push_size _ rfl,rfl⟩,F.slot_dict_keyiterator_next.lookup,?_⟩))))))))
 exact q
theorem h4_{it d:Addr}{i ep:Nat}{es:Array DictEntry}{Q:Option Value->Shared->Prop}(hit:s.heap.IsKeyIter it d i es.size ep)(x:Raw s.heap d es ep)(hi:i<es.size)
  (q:∀h',h'.IsKeyIter it d (i+1) es.size ep->Heap.SameBut it s.heap h'->Q (some es[i].key) { s with heap:=h' }):wpAny (model prog w) A (pyNext (.ref it)) Q E s:=by
 obtain⟨o,ho,hc,hd⟩:=id hit
 obtain⟨od,hod,hcd,hdd⟩:=id x
 unfold pyNext
 refine wpAny_bind (wpAny_attempt (wpAny_callSpecial?_slot (name:=Str.ofString "__next__") hit.typeIs F.slot_dict_keyiterator_next (wpAny_call_entry F.slot_dict_keyiterator_next hit.typeIs F.entry_dict_keyiterator_next ?_ (F.args_dict_keyiterator_next_1 _))))
 refine wpAny_bind (wpAny_pure (wpAny_bind (wpAny_bind ?_)))
 first|refine wpAny_bind (wpAny_typeNameOfWhole_keyiter hit.typeIs (wpAny_pure (wpAny_bind (wpAny_fieldsOf ho hd ?_))))|refine wpAny_bind (wpAny_typeNameOf_keyiter hit.typeIs (wpAny_pure (wpAny_bind (wpAny_fieldsOf ho hd ?_))))
 simp only[show Builtin.Dict_items.ownsTuple "dict_keyiterator"=false by decide,Bool.false_eq_true,if_false]
 refine (show wpAny _ _ (if (Value.ref d == Value.none)=true then _ else _) _ _ s from ?_)
 rw[if_neg (fun z=>by cases z)]
 refine wpAny_bind (wpAny_pure (wpAny_bind (wpAny_dictEntries hod hdd ?_)))
 rw[if_neg (by simp)]
 refine wpAny_bind (wpAny_pure (wpAny_bind (wpAny_dictEpoch hod hdd ?_)))
 rw[if_neg (by simp)]
 refine wpAny_pure ?_
 simp only[show ¬((i:Int)<0) from by omega,if_false,Int.toNat_natCast,Array.getElem?_eq_getElem hi]
 refine wpAny_bind ?_
 first|refine wpAny_bind (wpAny_typeNameOfWhole_keyiter hit.typeIs (wpAny_pure (wpAny_bind (wpAny_isOneOf_keyiter hit.typeIs ?_))))|refine wpAny_bind (wpAny_typeNameOf_keyiter hit.typeIs (wpAny_pure (wpAny_bind (wpAny_isOneOf_keyiter hit.typeIs ?_))))
 refine (show wpAny _ _ (setField (.ref it) 1 (rawInt ((i:Int)+1)) >>= _) _ _ s from wpAny_bind (wpAny_setField ho hd (by simp) ?_))
 have turned:(s.heap.update it (Obj.mapFields (·.setIfInBounds 1 (rawInt ((i:Int)+1))))).IsKeyIter it d (i+1) es.size ep:=
  ⟨_,Heap.get?_update_self _ ho (Obj.isFreed_of_fields (Obj.data_mapFields hd _)),(Obj.cls_mapFields ..).trans hc,by rw[Obj.data_mapFields hd];simp[rawInt]⟩
 refine wpAny_bind (wpAny_holding (wpAny_bind (wpAny_isOneOf_keyiter (s:={ s with heap:=s.heap.update it (Obj.mapFields (·.setIfInBounds 1 (rawInt ((i:Int)+1)))) }) turned.typeIs ?_)))
 exact (show wpAny _ _ (pure es[i].key) _ _ _ from wpAny_pure (wpAny_pure ⟨_,rfl,wpAny_pure (q _ turned (Heap.SameBut.update ..))⟩))
theorem hT_{it d:Addr}{ep:Nat}{es:Array DictEntry}{Q:Option Value->Shared->Prop}(hh:A.handled=none)(hit:s.heap.IsKeyIter it d es.size es.size ep)(x:Raw s.heap d es ep)
  (q:∀h',Heap.ExtBut it s.heap h'->Q none { s with heap:=h' }):wpAny (model prog w) A (pyNext (.ref it)) Q E s:=by
 obtain⟨o,ho,hc,hd⟩:=id hit
 obtain⟨od,hod,hcd,hdd⟩:=id x
 unfold pyNext
 refine wpAny_bind (wpAny_attempt (wpAny_callSpecial?_slot (name:=Str.ofString "__next__") hit.typeIs F.slot_dict_keyiterator_next (wpAny_call_entry F.slot_dict_keyiterator_next hit.typeIs F.entry_dict_keyiterator_next ?_ (F.args_dict_keyiterator_next_1 _))))
 refine wpAny_bind (wpAny_pure (wpAny_bind (wpAny_bind ?_)))
 first|refine wpAny_bind (wpAny_typeNameOfWhole_keyiter hit.typeIs (wpAny_pure (wpAny_bind (wpAny_fieldsOf ho hd ?_))))|refine wpAny_bind (wpAny_typeNameOf_keyiter hit.typeIs (wpAny_pure (wpAny_bind (wpAny_fieldsOf ho hd ?_))))
 simp only[show Builtin.Dict_items.ownsTuple "dict_keyiterator"=false by decide,Bool.false_eq_true,if_false]
 refine (show wpAny _ _ (if (Value.ref d == Value.none)=true then _ else _) _ _ s from ?_)
 rw[if_neg (fun z=>by cases z)]
 refine wpAny_bind (wpAny_pure (wpAny_bind (wpAny_dictEntries hod hdd ?_)))
 rw[if_neg (by simp)]
 refine wpAny_bind (wpAny_pure (wpAny_bind (wpAny_dictEpoch hod hdd ?_)))
 rw[if_neg (by simp)]
 refine wpAny_pure ?_
 simp only[show ¬((es.size:Int)<0) from by omega,if_false,Int.toNat_natCast,Array.getElem?_eq_none (Nat.le_refl _)]
 refine wpAny_bind ?_
 first|refine wpAny_bind (wpAny_typeNameOfWhole_keyiter hit.typeIs (wpAny_pure ?g))|refine wpAny_bind (wpAny_typeNameOf_keyiter hit.typeIs (wpAny_pure ?g))
 refine (show wpAny _ _ (setField (.ref it) 0 .none >>= _) _ _ s from wpAny_bind (wpAny_setField ho hd (by simp) (show wpAny _ _ (newExc (.type "StopIteration") [] >>= _) _ _ _ from wpAny_bind ?_)))
 simp only[newExc,newTuple]
 refine wpAny_bind (wpAny_newObj_type (wpAny_bind (m:=firstArgMember _ _) (wpAny_of_eq (a:=Value.none) (by first|rfl|(simp only[firstArgMember];rfl)) (wpAny_newObj_type ?_ (by size_fits)))) (by size_fits))
 simp only[raiseNew]
 refine wpAny_bind (wpAny_handled ?_)
 rw[show A.in1.handled=none from hh]
 refine wpAny_bind (wpAny_pure (wpAny_throw ?_))
 exact wpAny_bind (wpAny_isInstance (T:="StopIteration") (b:=true) ⟨_,Heap.get?_push_size _ rfl,rfl⟩ isSubtype_stop (wpAny_pure (q _ (((Heap.SameBut.update ..).extBut.push _).push _))))
theorem g2_(hh:A.handled=none)(I d:Addr)(hne:d≠I)(es:Array DictEntry)(ep:Nat) :
  Walks prog w A I [I,d] [I] es.size (fun i v=>∃h:i<es.size,v=es[i].key) (fun i h=>h.IsKeyIter I d i es.size ep/\Raw h d es ep) where
 sub:=fun b hb=>by simp only[List.mem_singleton] at hb;simp[hb]
 frame:=fun _ _ _ st k=>⟨st.1.at fun o e=>k I (by simp) o e,st.2.stay fun o e=>k d (by simp) o e⟩
 item:=fun i s Q E hi st hQ=>h4_ st.1 st.2 hi fun h' hit' hs'=>hQ _ h' s.toks ⟨hi,rfl⟩ ⟨hit',st.2.stay fun o e=>hs'.extBut d o hne e⟩ fun b o hb e=>hs'.extBut b o (fun h=>hb (by simp[h])) e
 done:=fun s Q E st hQ=>hT_ hh st.1 st.2 fun h' he'=>hQ h' s.toks fun b o hb e=>he' b o (fun h=>hb (by simp[h])) e
 self:=fun _ _ _ _ st hQ=>wpAny_pyIter_keyiter st.1 hQ
theorem jk_{d:Addr}{es:Array DictEntry}{ep:Nat}(lo:(d == sysModules)=false):KdlSrc prog w "dict" d d es.size (fun i v=>∃h:i<es.size,v=es[i].key) (fun h=>Raw h d es ep) where
 type:=fun s x=>x.ty
 there:=fun h x=>let ⟨o,e,_⟩:=x;⟨Heap.lt_size e,Heap.lt_size e⟩
 keep:=fun h h' x k=>x.stay fun o e=>k d (.inl rfl) o e
 notList:=by decide
 notTuple:=by decide
 hint:=fun _ _ s _ x q=>kdl_hint_dict x.ty q
 iter:=fun A s hh x=>⟨_,_,fun E Q q=>h2_ lo x q,g2_ hh _ d (let ⟨o,e,_⟩:=x;Nat.ne_of_lt (Heap.lt_size e)) es ep,⟨⟨_,Heap.get?_push_size _ rfl,rfl,rfl⟩,x.stay fun o e=>Heap.get?_push_of_some _ e⟩⟩
end
end EvD
set_option Elab.async false
set_option linter.all false
set_option maxRecDepth 100000
namespace EvD
open PySem PySem.W PyProof.Rows
theorem cH_:typeLookup (.type "list") "keys"=pure none:=by rw[typeLookup_type,builtinLookup_eq_fast];kernel_rfl
theorem fT_{prog:Program}{w:World}{A:Around}{s:Shared}{a:Addr}{xs:Array Value}{k:Nat}{tk:Tok}{R:Result->Shared->Prop}(hx:s.heap.get? a=some (seqObj "list" xs k))(h:raisesAttr (.ref a) "keys" A R s) :
  codeAny (model prog w) A (.call (.builtin "list.__getattribute__") ⟨[.ref a,.str "keys" tk],[]⟩) R s:=by
 refine codeAny_call_builtin F.slot_list_getattribute.plain am_entry_list_getattribute (F.slot_list_getattribute.check _ _ _ _ _ _ _ _ ⟨_,hx,rfl⟩ (F.args_list_getattribute_2 _ _) ?_)
 exact meets_getattribute_miss_list a xs k #[] "keys" tk cH_ (by decide) (by size_fits) prog w A R s ⟨hx,h⟩
theorem noKeys{prog:Program}{w:World}{A:Around}{E:Value->Shared->Prop}{s:Shared}{a:Addr}{xs:Array Value}{k:Nat}{Q:Option Value->Shared->Prop}(hx:s.heap.get? a=some (seqObj "list" xs k))(hA:A.handled=none)
  (h:∀h' tk,(∀b o,s.heap.get? b=some o->h'.get? b=some o)->Q none { s with heap:=h',toks:=tk }):wpAny (model prog w) A (getAttr? (.ref a) "keys") Q E s:=by
 obtain⟨hp,g,d,tk,os⟩:=s
 have ty:∀tk',(⟨hp,g,d,tk',os⟩:Shared).TypeIs (.ref a) "list":=fun _=>⟨_,hx,rfl⟩
 have f1:=sub_AttributeError
 have f2:=F.slot_list_getattribute.lookup
 have f3:=F.slot_list_getattribute.bind (.ref a)
 have f4:=am_list_getattr_none
 unfold getAttr? getAttrBy? getAttrBy
 repeat (any_goals (first|assumption|exact ty _|wp_step))
 refine fT_ hx ⟨hA,fun h' tk' e hx'=>?_⟩
 obtain⟨t',u',he⟩:=hx'.there
 show wpAny _ _ (getattributeRaised _ _ _ _ _ _ _) _ _ _
 unfold getattributeRaised
 repeat (any_goals (first|assumption|wp_step))
 exact h _ _ hx'.keeps
end EvD
set_option Elab.async false
set_option linter.all false
set_option maxRecDepth 100000
namespace EvD
open PySem PySem.W PyProof.Rows
theorem dW_:entryFor table "dict.update.loop"=some Builtin.«dict.update.loop»:=entryFor_of_tree (by kernel_rfl)
theorem bT_:plainId "dict.update.loop"=true:=by decide +kernel
theorem i3_(d it:Addr)(i:Int)(tk:Tok):Builtin.«dict.update.loop» ⟨[.ref d,.ref it,.int i tk,.none],[]⟩=(do
  let r <- pyNext (.ref it)
  match r with
  |none=>do Builtin.Dict.addKeywords d [];ret .none
  |some item=>do
   holding [item] (do
    let pair <- (Builtin.Dict.pairItems item).tryCatch fun e=>do
     if !(<- isInstance e (.type "TypeError")) then throw e
     rule "dict.update.element-no-sequence"
     raiseError "TypeError" s!"cannot convert dictionary update sequence element #{i} to a sequence"
    match pair with
    |[k,v]=>holding [k,v] (dictSet d k v)
    |l=>do
     rule "dict.update.element-length"
     raiseError "ValueError" s!"dictionary update sequence element #{i} has length {l.length}; 2 is required")
   again (.builtin "dict.update.loop" ⟨[.ref d,.ref it,rawInt (i+1),.none],[]⟩)):=by
 unfold Builtin.«dict.update.loop»
 refine congrArg (fun f=>pyNext (.ref it) >>= f) (funext fun r=>?_)
 cases r<;>rfl
section
variable{prog:Program}{w:World}{K:Type}[DecidableEq K]{knd:PySem.KeyKind prog w K}{A:Around}
def PairsIn(knd:PySem.KeyKind prog w K)(h:Heap):List Value->List (K × Value)->Prop:=Paired fun v p=>∃a key,v=.ref a/\IsTup h a #[key,p.2]/\knd.is p.1 key=true
def mergeP(kvs:List (K × Value))(ps:List (K × Value)):List (K × Value):=ps.foldl (fun acc p=>stored acc p.1 p.2) kvs
theorem fk_(kvs:List (K × Value))(k:K)(v:Value):(stored kvs k v).length<=kvs.length+1:=by
 unfold stored
 split
 ·simp
 ·simp
theorem co_{h:Heap}{b it l:Addr}{i:Nat}{ys:Array Value}(t:IsTup h b ys)(q:h.IsListIter it l i):b≠it:=fun z=>by
 obtain⟨o,ho,hc,_⟩:=t
 obtain⟨o2,ho2,hc2,_⟩:=q
 subst z
 rw[ho] at ho2
 cases ho2
 rw[hc] at hc2
 exact absurd hc2 (by decide)
theorem ec_{h:Heap}{b d:Addr}{ys:Array Value}{kvs:List (K × Value)}(t:IsTup h b ys)(q:h.DictOf knd d kvs):b≠d:=fun z=>by
 obtain⟨o,ho,hc,_⟩:=t
 obtain⟨o2,es,ep,ho2,hc2,_⟩:=q
 subst z
 rw[ho] at ho2
 cases ho2
 have hc3:=hc2.1
 rw[hc] at hc3
 exact absurd hc3 (by decide)
theorem dI_{h h':Heap}{d:Addr}{kvs:List (K × Value)}(q:h.DictOf knd d kvs)(k:∀o,h.get? d=some o->h'.get? d=some o):h'.DictOf knd d kvs:=by
 obtain⟨o,es,ep,ho,r⟩:=q
 exact⟨o,es,ep,k _ ho,r⟩
theorem hW_{it l d a:Addr}{i:Nat}{its:List Value}{key x:Value}{k:K}{kvs:List (K × Value)}{s:Shared}{R:Result->Shared->Prop}{tk:Tok}(hdi:d≠it)(hi:its.toArray[i]? = some (.ref a))(ht:IsTup s.heap a #[key,x])(hk:knd.is k key=true)
  (hit:s.heap.IsListIter it l i) (hl:s.heap.IsList l its.toArray) (hd:s.heap.DictOf knd d kvs) (hz:kvs.length<=1000)
  (hR:∀h2,h2.DictOf knd d (stored kvs k x)->(∀b o,b≠d->b≠it->s.heap.get? b=some o->h2.get? b=some o)->h2.IsListIter it l (i+1)->codeAny (model prog w) A (.builtin "dict.update.loop" ⟨[.ref d,.ref it,rawInt ((i:Int)+1),.none],[]⟩) R { s with heap:=h2,toks:=s.toks+1 }) :
  codeAny (model prog w) A (.builtin "dict.update.loop" ⟨[.ref d,.ref it,.int i tk,.none],[]⟩) R s:=by
 refine codeAny_builtin dW_ ?_
 rw[Around.under_plainId bT_ _,i3_]
 refine wpAny_bind (wpAny_pyNext_list_item hit hl hi fun h1 hit1 hs1=>?_)
 obtain⟨ot,hot,hct,nt,hdt⟩:=id ht
 have hot1:h1.get? a=some ot:=hs1.extBut _ _ (co_ ht hit) hot
 refine wpAny_bind (wpAny_holding (wpAny_bind (wpAny_tryCatch ?_)))
 unfold Builtin.Dict.pairItems
 refine wpAny_bind (wpAny_typeOf (T:="tuple") ⟨ot,hot1,hct⟩ ?_)
 rw[if_pos (by decide)]
 unfold seqItems?
 refine wpAny_bind (wpAny_bind (wpAny_load hot1 ?_))
 rw[hdt]
 refine wpAny_pure (wpAny_pure ?_)
 refine (show wpAny _ _ (holding [key,x] (dictSet d key x)) _ _ _ from wpAny_holding (wpAny_dictSet_pairs hk (dI_ hd fun o q=>hs1.extBut _ _ hdi q) (fun h2 hd2 hs2=>?_) (by have:=sizeLine_eq;omega)))
 exact wpAny_pure ⟨plainId_quiet bT_ _,hR h2 hd2 (fun b o h3 h4 q=>hs2.extBut _ _ h3 (hs1.extBut _ _ h4 q)) (hit1.extBut hs2.extBut (Ne.symm hdi))⟩
theorem iF_{it l d:Addr}{i:Nat}{its:List Value}{kvs:List (K × Value)}{s:Shared}{R:Result->Shared->Prop}{tk:Tok}(hdi:d≠it)(hh:A.handled=none)(hi:its.toArray[i]? = none)
  (hit:s.heap.IsListIter it l i) (hl:s.heap.IsList l its.toArray) (hd:s.heap.DictOf knd d kvs)
  (hR:∀h',h'.DictOf knd d kvs->(∀b o,b≠it->s.heap.get? b=some o->h'.get? b=some o)->R (.ok (.ret .none)) { s with heap:=h' }) :
  codeAny (model prog w) A (.builtin "dict.update.loop" ⟨[.ref d,.ref it,.int i tk,.none],[]⟩) R s:=by
 refine codeAny_builtin dW_ ?_
 rw[Around.under_plainId bT_ _,i3_]
 refine wpAny_bind (wpAny_pyNext_list_end hh hit hl hi fun h' he=>?_)
 exact wpAny_bind (m:=Builtin.Dict.addKeywords d []) (wpAny_pure (wpAny_pure (hR h' (dI_ hd fun o q=>he _ _ hdi q) fun b o hb q=>he b o hb q)))
theorem jS_{it l d:Addr}(hil:l≠it)(hdi:d≠it)(hdl:d≠l)(hh:A.handled=none){its:List Value}(rest:List Value):∀(ps:List (K × Value)) (i:Nat) (kvs:List (K × Value)) (s:Shared) (R:Result->Shared->Prop) (tk:Tok),its.drop i=rest->PairsIn knd s.heap rest ps->
  s.heap.IsListIter it l i->s.heap.IsList l its.toArray->s.heap.DictOf knd d kvs->kvs.length+ps.length<=1000->
  (∀h' tk',h'.DictOf knd d (mergeP kvs ps)->(∀b o,b≠d->b≠it->s.heap.get? b=some o->h'.get? b=some o)->R (.ok (.ret .none)) { s with heap:=h',toks:=tk' })->
  codeAny (model prog w) A (.builtin "dict.update.loop" ⟨[.ref d,.ref it,.int i tk,.none],[]⟩) R s:=by
 induction rest with
 |nil=>
  intro ps i kvs s R tk e hp hit hl hd hz hR
  cases hp
  have hi:its.toArray[i]? = none:=by
   have:=congrArg List.length e
   simp only[List.length_drop,List.length_nil] at this
   simp
   omega
  exact iF_ hdi hh hi hit hl hd fun h' hd' kp=>hR h' s.toks hd' fun b o _ hb q=>kp b o hb q
 |cons v rest ih=>
  intro ps i kvs s R tk e hp hit hl hd hz hR
  cases hp with
  |@cons _ p _ ps h0 hr=>
  obtain⟨a,key,hv,ht,hk⟩:=h0
  obtain⟨k,x⟩:=p
  subst hv
  have hi:its.toArray[i]? = some (.ref a):=by
   have q:(its.drop i)[0]? = some (.ref a):=by rw[e];rfl
   rw[List.getElem?_drop] at q
   simpa using q
  have e':its.drop (i+1)=rest:=by
   rw[<- List.drop_drop,e]
   rfl
  simp only[List.length_cons] at hz
  refine hW_ hdi hi ht hk hit hl hd (by omega) fun h2 hd2 kp hit2=>?_
  have c1:((i:Int)+1)=((i+1:Nat):Int):=by omega
  rw[c1]
  refine ih ps (i+1) (stored kvs k x) _ R 0 e' (L2.Paired.mapP hr fun v p ⟨b,ky,e1,t1,k1⟩=>⟨b,ky,e1,?_,k1⟩) hit2 (hl.at fun o q=>kp _ _ (Ne.symm hdl) hil q) hd2 (by have:=fk_ kvs k x;omega) fun h' tk' hd' kp'=>hR h' tk' hd' fun b o h3 h4 q=>kp' b o h3 h4 (kp b o h3 h4 q)
  obtain⟨o,ho,r⟩:=id t1
  exact⟨o,kp _ _ (ec_ t1 hd) (co_ t1 hit) ho,r⟩
theorem du_{E:Value->Shared->Prop}{s:Shared}{l:Addr}{its:List Value}{n:Nat}{ps:List (K × Value)}{Q:Value->Shared->Prop}(hh:A.handled=none)(ho:s.heap.get? l=some (seqObj "list" its.toArray n))(hp:PairsIn knd s.heap its ps)(hz:ps.length<=1000)
  (h:∀h' tk',h'.DictOf knd s.heap.objs.size (mergeP [] ps)->(∀b o,s.heap.get? b=some o->h'.get? b=some o)->Q (.ref s.heap.objs.size) { s with heap:=h',toks:=tk' }) :
  wpAny (model prog w) A (call (.type "dict") [.ref l]) Q E s:=by
 refine callType_codes (Q₁:=fun obj s₁=>obj=.ref s.heap.objs.size/\s₁={ s with heap:=s.heap.push { cls:=.type "dict",data:=.dict #[] } }) F.kt_called_dict (F.kt_typeCall_dict_1 _) F.entry_dict_init (kt_code_dict_new _ ⟨rfl,rfl⟩) ?_
 rintro obj s₁ ⟨rfl,rfl⟩
 have hnew:(s.heap.push { cls:=.type "dict",data:=.dict #[] }).DictOf knd s.heap.objs.size []:=Heap.DictOf.new s.heap
 have hl1:(s.heap.push { cls:=.type "dict",data:=.dict #[] }).get? l=some (seqObj "list" its.toArray n):=Heap.get?_push_of_some _ ho
 refine⟨hnew.typeIs,F.args_dict_init_2 _ _,?_⟩
 unfold Builtin.«dict.__init__» Builtin.Dict.selfAndRest
 refine wpAny_bind (wpAny_bind (wpAny_notOrdered_dict hnew.typeIs ?_))
 refine (show wpAny _ _ (pure (s.heap.objs.size,[Value.ref l])) _ _ _ from wpAny_pure ?_)
 refine (show wpAny _ _ (Builtin.Dict.updateFrom "dict.__init__" s.heap.objs.size (.ref l) [] .none) _ _ _ from ?_)
 unfold Builtin.Dict.updateFrom
 refine wpAny_bind (wpAny_typeOf (T:="list") ⟨_,hl1,rfl⟩ ?_)
 rw[if_pos (by decide)]
 refine wpAny_bind (noKeys hl1 hh fun h2 tk2 k2=>?_)
 simp only[Option.isNone_none,if_true]
 have hl2:h2.get? l=some (seqObj "list" its.toArray n):=k2 _ _ hl1
 refine wpAny_bind (wpAny_rule (wpAny_bind (wpAny_pyIter_list ⟨_,hl2,rfl,_,rfl⟩ ?_)))
 refine wpAny_pure ⟨plainId_quiet bT_ _,?_⟩
 have all:∀{b o},s.heap.get? b=some o->(h2.push { cls:=.type "list_iterator",data:=.fields #[.ref l,.int 0 0] }).get? b=some o:=fun q=>Heap.get?_push_of_some _ (k2 _ _ (Heap.get?_push_of_some _ q))
 have hd2:h2.DictOf knd s.heap.objs.size []:=by
  obtain⟨o,es,ep,ho,r⟩:=hnew
  exact⟨o,es,ep,k2 _ _ ho,r⟩
 have sz2:s.heap.objs.size<h2.objs.size:=by
  obtain⟨o,es,ep,ho,r⟩:=hd2
  exact Heap.lt_size ho
 have lz:l<s.heap.objs.size:=Heap.lt_size ho
 refine jS_ (A:=A.in1) (knd:=knd) (its:=its) (it:=h2.objs.size) (l:=l) (d:=s.heap.objs.size) (Nat.ne_of_lt (Nat.lt_trans lz sz2)) (Nat.ne_of_lt sz2) (Nat.ne_of_gt lz) hh its ps 0 [] _ _ 0 rfl (L2.Paired.mapP hp fun v p ⟨b,ky,e1,t1,k1⟩=>⟨b,ky,e1,t1.keeps fun b o q=>all q,k1⟩)
  ⟨_,Heap.get?_push_size _ rfl,rfl,rfl⟩ ⟨_,Heap.get?_push_of_some _ hl2,rfl,_,rfl⟩ (by
   obtain⟨o,es,ep,ho,r⟩:=hd2
   exact⟨o,es,ep,Heap.get?_push_of_some _ ho,r⟩) (by simpa using hz) fun h' tk' hd' kp=>⟨rfl,h h' tk' hd' fun b o q=>?_⟩
 have bl:b<s.heap.objs.size:=Heap.lt_size q
 exact kp b o (Nat.ne_of_lt bl) (Nat.ne_of_lt (Nat.lt_trans bl sz2)) (all q)
end
end EvD
set_option Elab.async false
set_option linter.all false
set_option maxRecDepth 100000
namespace L2
open PySem PySem.Spec PyProof.Rows PySem.W EvS EvD
theorem TupsAt.same{K:PySem.W.Frag}{H H':Hp}{ys:List V}{ks:List (List Key)}(t:TupsAt K H ys ks)(e:Same H H'):TupsAt K H' ys ks:=Paired.mapP t fun y k ⟨a,z,q⟩=>⟨a,z,e _ _ q⟩
theorem Same.new{H:Hp}{l:Addr}{o:HO}(h:H l=none):Same H (upd H l o):=fun b u e=>by rw[a5_ (a7_ e h)];exact e
section
variable{X:Cx}{pins:List (Addr × Obj)}{σ:St}{H H':Hp}{s:Shared}{h':Heap}{t':Nat}
theorem Inv.many(I:Inv X pins σ H s)(k:∀b o,s.heap.get? b=some o->h'.get? b=some o)(hold:Same H H')(hnew:∀b,H b=none->b<s.heap.objs.size->H' b=none)
  (hob:∀b o,H' b=some o->H b=none->∃xs its,o=.tup xs/\xs.length<=sizeLine/\Vals xs its/\IsTup h' b its.toArray/\∃o,h'.get? b=some o/\o.dict=none):Inv X pins σ H' { s with heap:=h',toks:=t' }:=by
 refine I.un ⟨fun b o q _ _ _=>k b o q,fun b o q _ _ _=>⟨o.slots,k b o q⟩,fun b o q n _=>hnew b n (Heap.lt_size q),fun b o q _=>⟨o,k b o q⟩,fun b xs q=>hold b _ q,fun b o u q=>hold b _ q,fun b ps q=>⟨#[],by rw[Array.append_empty];exact hold b _ q⟩⟩ fun b o q=>?_
 cases e:H b with
 |some u=>
  have e2:=hold b u e
  rw[q] at e2
  cases e2
  exact (I.hok b o e).stay (fun c v _ z=>k c v z) (fun c z=>hold c _ z) fun c xs z=>hold c _ z
 |none=>
  obtain⟨xs,its,rfl,z,r,t⟩:=hob b o q e
  exact⟨z,its,r,t⟩
end
section
variable{X:Cx}{pins:List (Addr × Obj)}{σ:St}{H:Hp}{s:Shared}{A:Around}{E:Value->Shared->Prop}
theorem c3_{P:Nat->Value->Prop}{acc:Array Value}{ys:List V}(h:ItemsOf P acc ys.length)(hp:∀(j:Nat) v,P j v->∀y,ys[j]? = some y->RelV y v):Vals ys acc.toList:=by
 have gen:∀(ys:List V) (vs:List Value),ys.length=vs.length->(∀(j:Nat) y v,ys[j]? = some y->vs[j]? = some v->RelV y v)->Vals ys vs:=fun ys=>by
  induction ys with
  |nil=>
   intro vs hl _
   cases vs with
   |nil=>exact .nil
   |cons _ _=>cases hl
  |cons y ys ih=>
   intro vs hl h
   cases vs with
   |nil=>cases hl
   |cons v vs=>exact .cons (h 0 y v rfl rfl) (ih vs (by simpa using hl) fun j y v a b=>h (j+1) y v (by simpa using a) (by simpa using b))
 refine gen ys acc.toList (by rw[Array.length_toList];exact h.1.symm) fun j y v a b=>hp j v (h.2 j v ?_) y a
 rw[<- Array.getElem?_toList]
 exact b
theorem ij_{d:Addr}{kvs:List (Key × V)}(I:Inv X pins σ H s)(h:Rd H d (.dK kvs)):∃(P:Nat->Value->Prop) (OK:Heap->Prop),KdlSrc X.prog X.w "dict" d d (kvs.map fun kv=>kV kv.1).length P OK/\OK s.heap/\∀(j:Nat) v,P j v->∀y,(kvs.map fun kv=>kV kv.1)[j]? = some y->RelV y v:=by
 obtain⟨z,hd,vs,rel,dd⟩:=bO_ I.hok h
 obtain⟨ep,dat⟩:=dd.dictAt
 have hl:=rel.length
 refine⟨fun i v=>∃k x,vs[i]? = some (k,x)/\(mixKind X.prog X.w).is k v=true,fun h=>h.DictAt (mixKind X.prog X.w) d vs ep,(by rw[List.length_map,hl];exact kdl_dict (knd:=mixKind X.prog X.w) (kvs:=vs) (ep:=ep) hd),dat,fun j v ⟨k,x,e,hk⟩ y hy=>?_⟩
 rw[List.getElem?_map] at hy
 have ek:kvs.map (·.1)=vs.map (·.1):=rel.keys
 have e2:(kvs.map (·.1))[j]? = (vs.map (·.1))[j]?:=by rw[ek]
 rw[List.getElem?_map,List.getElem?_map,e] at e2
 cases e3:kvs[j]? with
 |none=>rw[e3] at e2;cases e2
 |some kv=>
  rw[e3] at e2 hy
  have e4:kv.1=k:=Option.some.inj e2
  have e5:kV kv.1=y:=Option.some.inj hy
  rw[<- e5,e4]
  have hk:keyIs k v=true:=hk
  rcases an_ hk with⟨i,t,rfl,rfl⟩|⟨x,t,rfl,rfl⟩
  ·exact⟨t,rfl⟩
  ·exact⟨t,rfl⟩
theorem jw_{d:Addr}{kvs:List (Key × V)}{R:List Value->Shared->Prop}(hh:A.handled=none)(I:Inv X pins σ H s)(h:Rd H d (.dK kvs))(q:∀vs s1,Inv X pins σ H s1->Vals (kvs.map fun kv=>kV kv.1) vs->R vs s1):wpAny (model X.prog X.w) A (collect (.ref d)) R E s:=by
 obtain⟨P,OK,S,ok,hp⟩:=ij_ I h
 refine kdu_collect S hh ok ?_ fun h' tk acc k a=>q _ _ (I.kept k) (c3_ a hp)
 rw[List.length_map]
 exact (bO_ I.hok h).1
theorem jI_{d:Addr}{kvs:List (List Key × V)}(I:Inv X pins σ H s)(h:Rd H d (.dT kvs)):∃(ys:List V) (P:Nat->Value->Prop) (OK:Heap->Prop),TupsAt X.K H ys (kvs.map (·.1))/\ys.length<=sizeLine/\KdlSrc X.prog X.w "dict" d d ys.length P OK/\OK s.heap/\∀(j:Nat) v,P j v->∀y,ys[j]? = some y->RelV y v:=by
 obtain⟨z,hd,xs,rel,o,es,ep,ho,hc,hdat,hes,nd⟩:=h.ok I.hok
 have l1:es.size=xs.length:=by
  have:=congrArg List.length hes
  simpa using this
 have l2:=Paired.length rel
 refine⟨xs.map fun x=>V.ref x.2.1,fun i v=>∃h:i<es.size,v=es[i].key,fun h=>Raw h d es ep,?_,by rw[List.length_map];omega,(by rw[List.length_map,<- l1];exact jk_ (es:=es) (ep:=ep) hd),⟨o,ho,hc,hdat⟩,fun j v ⟨hj,e⟩ y hy=>?_⟩
 ·have gen:∀{kvs:List (List Key × V)} {xs:List (List Key × Addr × Value)},KT H kvs xs->TupsAt X.K H (xs.map fun x=>V.ref x.2.1) (kvs.map (·.1)):=fun {kvs xs} r=>by
   induction r with
   |nil=>exact .nil
   |cons h _ ih=>exact .cons ⟨_,rfl,h.2.1⟩ ih
  exact gen rel
 ·rw[List.getElem?_map] at hy
  have hx:j<xs.length:=by omega
  rw[List.getElem?_eq_getElem hx] at hy
  have e1:V.ref xs[j].2.1=y:=Option.some.inj hy
  have e2:es[j]=entryOfKey (tupleKind (mixKind X.prog X.w)) xs[j]:=by
   have e3:es.toList[j]? = (xs.map (entryOfKey (tupleKind (mixKind X.prog X.w))))[j]?:=by rw[hes]
   rw[List.getElem?_map,List.getElem?_eq_getElem hx,Array.getElem?_toList,Array.getElem?_eq_getElem hj] at e3
   exact Option.some.inj e3
  rw[<- e1,e,e2]
  rfl
theorem jT_{d:Addr}{kvs:List (List Key × V)}{R:List Value->Shared->Prop}(hh:A.handled=none)(I:Inv X pins σ H s)(h:Rd H d (.dT kvs))(q:∀ys vs s1,Inv X pins σ H s1->Vals ys vs->TupsAt X.K H ys (kvs.map (·.1))->R vs s1):wpAny (model X.prog X.w) A (collect (.ref d)) R E s:=by
 obtain⟨ys,P,OK,t,z,S,ok,hp⟩:=jI_ I h
 exact kdu_collect S hh ok z fun h' tk acc k a=>q ys _ _ (I.kept k) (c3_ a hp) t
def itemsV(v d:Addr):HO:=.ext fun h=>h.IsItemsView v d
def valuesV(v d:Addr):HO:=.ext fun h=>h.IsValuesView v d
def PairsAt(K:PySem.W.Frag)(H:Hp):List V->List (Key × V)->Prop:=Paired fun y p=>∃a,y=V.ref a/\H a=some (.tup [kV p.1,p.2])
theorem gQ_{v d:Addr}{kvs:List (Key × V)}{R:List Value->Shared->Prop}(hh:A.handled=none)(I:Inv X pins σ H s)(hv:H v=some (itemsV v d))(h:Rd H d (.dK kvs))(q:∀H1 ys vs s1,Inv X pins σ H1 s1->Same H H1->Vals ys vs->PairsAt X.K H1 ys kvs->R vs s1) :
  wpAny (model X.prog X.w) A (collect (.ref v)) R E s:=by
 obtain⟨z,hd,vs,rel,dd⟩:=bO_ I.hok h
 obtain⟨ep,dat⟩:=dd.dictAt
 obtain⟨iv,_,_⟩:=I.hok v _ hv
 have hl:=rel.length
 refine kdx_collect (knd:=mixKind X.prog X.w) (kvs:=vs) (ep:=ep) hh iv dat (by omega) fun h' tk as k la G=>?_
 have up:∀b,b∈as->s.heap.objs.size<b:=G.above
 have at1:∀(j:Nat) b p,as[j]? = some b->kvs[j]? = some p->∃its,Vals [kV p.1,p.2] its/\IsTup h' b its.toArray/\∃o,h'.get? b=some o/\o.dict=none:=fun j b p hj hp=>by
  obtain⟨key,kk,x,e1,e2,e3⟩:=G.pairs j b hj
  have gen:∀{kvs:List (Key × V)} {vs:List (Key × Value)},KV kvs vs->∀(j:Nat),vs[j]? = some (kk,x)->kvs[j]? = some p->p.1=kk/\RelV p.2 x:=fun {kvs vs} r=>by
   induction r with
   |nil=>intro j e;simp at e
   |@cons p' q _ _ h _ ih=>
    intro j e e'
    cases j with
    |zero=>
     have e:q=(kk,x):=by simpa using e
     have e':p'=p:=by simpa using e'
     subst e'
     rw[e] at h
     exact h
    |succ j=>exact ih j (by simpa using e) (by simpa using e')
  obtain⟨g1,g2⟩:=gen rel j e1 hp
  refine⟨[key,x],.cons ?_ (.cons g2 .nil),⟨_,e3,rfl,_,rfl⟩,_,e3,rfl⟩
  rw[g1]
  have e2:keyIs kk key=true:=e2
  rcases an_ e2 with⟨i,t,rfl,rfl⟩|⟨x,t,rfl,rfl⟩
  ·exact⟨t,rfl⟩
  ·exact⟨t,rfl⟩
 have look:∀{as:List Addr} {kvs:List (Key × V)},as.Pairwise (· < ·)->∀(j:Nat) b p,as[j]? = some b->kvs[j]? = some p->(as.zip kvs).lookup b=some p:=fun {as}=>by
  induction as with
  |nil=>intro kvs _ j b p e;simp at e
  |cons a as ih=>
   intro kvs pw j b p e e'
   cases kvs with
   |nil=>simp at e'
   |cons q kvs=>
    obtain⟨p1,p2⟩:=List.pairwise_cons.mp pw
    show ((a,q)::as.zip kvs).lookup b=some p
    cases j with
    |zero=>
     have e:a=b:=by simpa using e
     have e':q=p:=by simpa using e'
     subst e
     subst e'
     rw[List.lookup_cons_self]
    |succ j=>
     have e:as[j]? = some b:=by simpa using e
     have e':kvs[j]? = some p:=by simpa using e'
     have lt:=p1 b (List.mem_of_getElem? e)
     rw[List.lookup_cons,show (b == a)=false by simp only[beq_eq_false_iff_ne];exact Nat.ne_of_gt lt]
     exact ih p2 j b p e e'
 have lk:as.length=kvs.length:=by omega
 let H1:Hp:=fun b=>if b∈as then ((as.zip kvs).lookup b).map fun p=>HO.tup [kV p.1,p.2] else H b
 have h1in:∀(j:Nat) b p,as[j]? = some b->kvs[j]? = some p->H1 b=some (.tup [kV p.1,p.2]):=fun j b p e e'=>by
  show (if b∈as then _ else _)=_
  rw[if_pos (List.mem_of_getElem? e),look G.rise j b p e e']
  rfl
 have h1out:∀b,b∉as->H1 b=H b:=fun b hb=>if_neg hb
 have old:∀b,b<s.heap.objs.size->b∉as:=fun b hb m=>absurd (up b m) (by omega)
 refine q H1 (as.map V.ref) _ _ (I.many (t':=tk) k (fun b o e=>by rw[h1out b (old b (I.hok.lt e))];exact e) (fun b e hb=>by rw[h1out b (old b hb)];exact e) fun b o e e0=>?_) (fun b o e=>by rw[h1out b (old b (I.hok.lt e))];exact e) ?_ ?_
 ·by_cases m:b∈as
  ·obtain⟨j,hj⟩:=List.mem_iff_getElem?.mp m
   have jl:j<kvs.length:=by
    have:=(List.getElem?_eq_some_iff.mp hj).1
    omega
   have e':=h1in j b kvs[j] hj (List.getElem?_eq_getElem jl)
   rw[e] at e'
   cases e'
   obtain⟨its,r,t⟩:=at1 j b _ hj (List.getElem?_eq_getElem jl)
   exact⟨_,its,rfl,by show 2<=sizeLine;decide,r,t⟩
  ·rw[h1out b m,e0] at e
   cases e
 ·have gen:∀as:List Addr,Vals (as.map V.ref) (as.map Value.ref):=fun as=>by
   induction as with
   |nil=>exact .nil
   |cons a as ih=>exact .cons rfl ih
  exact gen as
 ·have gen:∀(as':List Addr) (kvs':List (Key × V)),as'.length=kvs'.length->(∀(j:Nat) b p,as'[j]? = some b->kvs'[j]? = some p->H1 b=some (.tup [kV p.1,p.2]))->PairsAt X.K H1 (as'.map V.ref) kvs':=fun as'=>by
   induction as' with
   |nil=>
    intro kvs' hl _
    cases kvs' with
    |nil=>exact .nil
    |cons _ _=>cases hl
   |cons a as' ih=>
    intro kvs' hl h
    cases kvs' with
    |nil=>cases hl
    |cons p kvs'=>exact .cons ⟨a,rfl,h 0 a p rfl rfl⟩ (ih kvs' (by simpa using hl) fun j b p e e'=>h (j+1) b p (by simpa using e) (by simpa using e'))
  exact gen as kvs lk h1in
end
end L2
set_option Elab.async false
set_option linter.all false
set_option maxRecDepth 100000
namespace L2
open PySem PySem.Spec PyProof.Rows PySem.W EvS EvD
theorem hX_{a b:List Str}(h:a.map keyS=b.map keyS):a=b:=by
 induction a generalizing b with
 |nil=>
  cases b with
  |nil=>rfl
  |cons _ _=>cases h
 |cons x a ih=>
  cases b with
  |nil=>cases h
  |cons y b=>
   obtain⟨h1,h2⟩:=List.cons.inj h
   have h1:[(Sum.inr x:Key)]=[Sum.inr y]:=h1
   cases h1
   rw[ih h2]
theorem cU_(ss:List Str):(sortS ss).map keyS=sortKs (ss.map keyS):=by
 have all:∀k∈sortKs (ss.map keyS),∃x,k=keyS x:=fun k hk=>by
  obtain⟨x,_,e⟩:=List.mem_map.mp ((al_ _).mem_iff.mp hk)
  exact⟨x,e.symm⟩
 have gen:∀l:List (List Key),(∀k∈l,∃x,k=keyS x)->(l.map fun k=>match k with | [.inr x]=>x|_=>(⟨#[]⟩:Str)).map keyS=l:=fun l=>by
  induction l with
  |nil=>exact fun _=>rfl
  |cons k l ih=>
   intro h
   obtain⟨x,rfl⟩:=h k List.mem_cons_self
   rw[List.map_cons,List.map_cons,ih fun k hk=>h k (List.mem_cons_of_mem _ hk)]
   rfl
 exact gen _ all
theorem aF_(ss:List Str):(sortS ss).Perm ss:=by
 have p:((sortS ss).map keyS).Perm (ss.map keyS):=by rw[cU_];exact al_ _
 have back:∀l:List Str,(l.map keyS).map (fun k=>match k with | [.inr x]=>x|_=>(⟨#[]⟩:Str))=l:=fun l=>by
  rw[List.map_map]
  induction l with
  |nil=>rfl
  |cons x l ih=>rw[List.map_cons,ih];rfl
 have q:=p.map (fun k=>match k with | [.inr x]=>x|_=>(⟨#[]⟩:Str))
 rwa [back,back] at q
section
variable{X:Cx}{pins:List (Addr × Obj)}{σ:St}{H:Hp}{s:Shared}
theorem dM_{u:Value}{ss:List Str}{Q:VK}(h64:ss.length<64)(hcol:wpAny (model X.prog X.w) X.A.in1 (collect u) (fun vs s1=>∃H1,Inv X pins σ H1 s1/\Vals (ss.map V.str) vs/\∀l,H1 l=none->Q (.ref l) (upd H1 l (.lst ((sortS ss).map V.str)))) X.xe s) :
  wpAny (model X.prog X.w) X.A (call (.builtin "sorted") [u]) (EP X pins σ Q) X.xe s:=by
 refine d4_ (ey_ (ss.map keyS)) (thn hcol fun vs s1 ⟨H1,I1,r,q⟩=>?_)
 have hl:vs.length=ss.length:=by rw[<- r.length,List.length_map]
 refine⟨by omega,fun h2 h' _=>gi_ (gs_ r) h2,fun p h' e g up hD kp=>?_⟩
 have g':Good (ss.map keyS).length p:=by rw[List.length_map,<- hl];exact g
 have asc:=gb_ (ks:=ss.map keyS) (fun i j _ _=>rfl) g' (by rw[List.length_map,<- hl];exact up)
 have perm:(p.toList.map fun i=>(ss.map keyS).getD i []).Perm (ss.map keyS):=by
  have:=bo_ g' fun i=>(ss.map keyS).getD i []
  rwa [b6_] at this
 have es:=dZ_ perm asc
 have inr:∀i∈p.toList,i<ss.length:=fun i hi=>by
  have m:i∈(List.range vs.length).toArray:=g.mem_iff.mp (by simpa using hi)
  rw[hl] at m
  simpa using m
 have e1:(p.toList.map fun i=>ss.getD i ⟨#[]⟩)=sortS ss:=by
  refine hX_ ?_
  rw[cU_,<- es,List.map_map]
  refine List.map_congr_left fun i hi=>?_
  have:=inr i hi
  simp[this]
 have rv:=eS_ r g
 have e2:(p.toList.map fun i=>(ss.map V.str).getD i .non)=(sortS ss).map V.str:=by
  rw[<- e1,List.map_map]
  refine List.map_congr_left fun i hi=>?_
  have:=inr i hi
  simp[this]
 rw[e2] at rv
 refine⟨.ref s1.heap.objs.size,_,I1.laid (t':=s1.toks) kp (Nat.le_refl _) (show ObjOk X.prog X.w _ h' _ (.lst ((sortS ss).map V.str)) from ⟨?_,putBy p vs,e,rv,hD⟩),rfl,q _ (I1.hok.fresh (Nat.le_refl _))⟩
 rw[List.length_map,(aF_ ss).length_eq]
 have:=sizeLine_eq
 omega
theorem hK_{K:PySem.W.Frag}{H:Hp}{ys:List V}{ks:List (List Key)}(t:TupsAt K H ys ks):∀l:List Nat,(∀i∈l,i<ys.length)->TupsAt K H (l.map fun i=>ys.getD i .non) (l.map fun i=>ks.getD i []):=fun l=>by
 induction l with
 |nil=>exact fun _=>.nil
 |cons i l ih=>
  intro h
  refine .cons ?_ (ih fun j hj=>h j (List.mem_cons_of_mem _ hj))
  have hi:=h i List.mem_cons_self
  have gen:∀{ys:List V} {ks:List (List Key)} (i:Nat),i<ys.length->TupsAt K H ys ks->∃a,ys.getD i .non=V.ref a/\H a=some (.tup ((ks.getD i []).map kV)):=fun {ys ks} i hy t=>by
   induction t generalizing i with
   |nil=>exact absurd hy (by simp)
   |cons h t ih=>
    cases i with
    |zero=>exact h
    |succ i=>exact ih i (by simpa using hy)
  exact gen i hi t
theorem c8_{u:Value}{ks:List (List Key)}{sh:List Bool}{Q:VK}(h64:ks.length<64)(al:Alike ks sh)
  (hcol:wpAny (model X.prog X.w) X.A.in1 (collect u) (fun vs s1=>∃H1 ys,Inv X pins σ H1 s1/\Vals ys vs/\TupsAt X.K H1 ys ks/\∀l zs,H1 l=none->TupsAt X.K H1 zs (sortKs ks)->zs.Perm ys->Q (.ref l) (upd H1 l (.lst zs))) X.xe s) :
  wpAny (model X.prog X.w) X.A (call (.builtin "sorted") [u]) (EP X pins σ Q) X.xe s:=by
 refine d4_ (ey_ ks) (thn hcol fun vs s1 ⟨H1,ys,I1,r,t,q⟩=>?_)
 have l1:=r.length
 have l2:=Paired.length t
 have hl:vs.length=ks.length:=by omega
 refine⟨by omega,fun h2 h' k=>fX_ I1 r t al h2 k,fun p h' e g up hD kp=>?_⟩
 have g':Good ks.length p:=by rw[<- hl];exact g
 have asc:=gb_ (ks:=ks) (fun i j _ _=>rfl) g' (by rw[<- hl];exact up)
 have perm:(p.toList.map fun i=>ks.getD i []).Perm ks:=by
  have:=bo_ g' fun i=>ks.getD i []
  rwa [b6_] at this
 have es:=dZ_ perm asc
 have inr:∀i∈p.toList,i<ys.length:=fun i hi=>by
  have m:i∈(List.range vs.length).toArray:=g.mem_iff.mp (by simpa using hi)
  rw[<- l1] at m
  simpa using m
 have tz:=hK_ t p.toList inr
 rw[es] at tz
 have rv:=eS_ r g
 have pz:(p.toList.map fun i=>ys.getD i .non).Perm ys:=by
  have:=bo_ (n:=ys.length) (by rw[l1];exact g) fun i=>ys.getD i .non
  rwa [b6_] at this
 refine⟨.ref s1.heap.objs.size,_,I1.laid (t':=s1.toks) kp (Nat.le_refl _) (show ObjOk X.prog X.w _ h' _ (.lst (p.toList.map fun i=>ys.getD i .non)) from ⟨?_,putBy p vs,e,rv,hD⟩),rfl,q _ _ (I1.hok.fresh (Nat.le_refl _)) tz pz⟩
 rw[pz.length_eq]
 have:=sizeLine_eq
 omega
end
section
variable{X:Cx}
def rSortDT(K:PySem.W.Frag):List V->Hp->VK->Prop:=fun xs H Q=>∃d kvs sh,xs=[.ref d]/\H d=some (.dT kvs)/\Alike (kvs.map (·.1)) sh/\kvs.length<64/\∀l zs,H l=none->TupsAt K H zs (sortKs (kvs.map (·.1)))->Q (.ref l) (upd H l (.lst zs))
theorem es_(hc:X.calm=true):CallR X (.builtin "sorted") (rSortDT X.K):=by
 intro pins s σ H xs us Q I r h
 obtain⟨d,kvs,sh,rfl,hd,al,h64,q⟩:=h
 obtain⟨u,rfl,ru⟩:=vals1 r
 cases ru
 exact c8_ (by rw[List.length_map];exact h64) al (jT_ (I.ok.hd hc) I (.inl hd) fun ys vs s1 I1 r1 t=>⟨H,ys,I1,r1,t,fun l zs n t' _=>q l zs n t'⟩)
def rSortDS:List V->Hp->VK->Prop:=fun xs H Q=>∃d kvs ss,xs=[.ref d]/\H d=some (.dK kvs)/\kvs.map (·.1)=ss.map Sum.inr/\ss.length<64/\∀l,H l=none->Q (.ref l) (upd H l (.lst ((sortS ss).map V.str)))
theorem ed_(hc:X.calm=true):CallR X (.builtin "sorted") rSortDS:=by
 intro pins s σ H xs us Q I r h
 obtain⟨d,kvs,ss,rfl,hd,ek,h64,q⟩:=h
 obtain⟨u,rfl,ru⟩:=vals1 r
 cases ru
 refine dM_ h64 (jw_ (I.ok.hd hc) I (.inl hd) fun vs s1 I1 r1=>⟨H,I1,?_,q⟩)
 have e:(kvs.map fun kv=>kV kv.1)=ss.map V.str:=by
  rw[show (kvs.map fun kv=>kV kv.1)=(kvs.map (·.1)).map kV by rw[List.map_map];rfl,ek,List.map_map]
  rfl
 rwa [e] at r1
def rSortI(K:PySem.W.Frag):List V->Hp->VK->Prop:=fun xs H Q=>∃(v d:Addr) (kvs:List (Key × V)) (ks:List (Key × Key)) (sh:List Bool),xs=[.ref v]/\H v=some (itemsV v d)/\H d=some (.dK kvs)/\kvs=ks.map (fun k:Key × Key=>(k.1,kV k.2))/\Alike (ks.map fun k=>[k.1,k.2]) sh/\ks.length<64 /\
 ∀l H1 zs,Same H H1->H1 l=none->TupsAt K H1 zs (sortKs (ks.map fun k=>[k.1,k.2]))->Q (.ref l) (upd H1 l (.lst zs))
theorem f2_(hc:X.calm=true):CallR X (.builtin "sorted") (rSortI X.K):=by
 intro pins s σ H xs us Q I r h
 obtain⟨v,d,kvs,ks,sh,rfl,hv,hd,ek,al,h64,q⟩:=h
 obtain⟨u,rfl,ru⟩:=vals1 r
 cases ru
 refine c8_ (by rw[List.length_map];exact h64) al (gQ_ (I.ok.hd hc) I hv (.inl hd) fun H1 ys vs s1 I1 sm r1 t=>⟨H1,ys,I1,r1,?_,fun l zs n t' _=>q l H1 zs sm n t'⟩)
 subst ek
 have gen:∀(ks:List (Key × Key)) (ys:List V),PairsAt X.K H1 ys (ks.map (fun k:Key × Key=>(k.1,kV k.2)))->TupsAt X.K H1 ys (ks.map fun k=>[k.1,k.2]):=fun ks=>by
  induction ks with
  |nil=>
   intro ys t
   cases t
   exact .nil
  |cons k ks ih=>
   intro ys t
   cases t with
   |cons h t=>exact .cons h (ih _ t)
 exact gen ks ys t
def rListD:List V->Hp->VK->Prop:=fun xs H Q=>∃d kvs,xs=[.ref d]/\Rd H d (.dK kvs)/\∀l,H l=none->Q (.ref l) (upd H l (.lst (kvs.map fun kv=>kV kv.1)))
theorem c1_(hc:X.calm=true):CallR X (.type "list") rListD:=by
 intro pins s σ H xs us Q I r h
 obtain⟨d,kvs,rfl,hd,q⟩:=h
 obtain⟨u,rfl,ru⟩:=vals1 r
 cases ru
 obtain⟨P,OK,S,ok,hp⟩:=ij_ I hd
 have z:=(bO_ I.hok hd).1
 refine kdl_call S (I.ok.hd hc) ok (by rw[List.length_map];exact z) fun h' tk acc c k hD a=>?_
 refine⟨.ref s.heap.objs.size,_,I.laid (t':=tk) k (Nat.le_refl _) (show ObjOk X.prog X.w _ h' _ (.lst (kvs.map fun kv=>kV kv.1)) from ⟨by rw[List.length_map];exact z,acc.toList,c,c3_ a hp,by rw[Array.toArray_toList];exact hD⟩),rfl,q _ I.fresh⟩
theorem KV.mergeP{κ:Type}[DecidableEq κ]:∀{more:List (κ × V)} {rs:List (κ × Value)} {kvs:List (κ × V)} {vs:List (κ × Value)},KV more rs->KV kvs vs->KV (more.foldl (fun acc kv=>putK acc kv.1 kv.2) kvs) (EvD.mergeP vs rs):=fun {more rs kvs vs} h=>by
 induction h generalizing kvs vs with
 |nil=>exact fun h=>h
 |@cons p q _ _ h _ ih=>
  intro h2
  obtain⟨k,y⟩:=p
  obtain⟨k',u⟩:=q
  obtain⟨h1,h3⟩:=h
  have h1:k=k':=h1
  subst h1
  exact ih (h2.put k h3)
def rDictOf(K:PySem.W.Frag):List V->Hp->VK->Prop:=fun xs H Q=>∃p ys kvs,xs=[.ref p]/\H p=some (.lst ys)/\PairsAt K H ys kvs/\kvs.length<=1000/\∀l,H l=none->Q (.ref l) (upd H l (.dK (mergeK [] kvs)))
theorem aT_(hc:X.calm=true):CallR X (.type "dict") (rDictOf X.K):=by
 intro pins s σ H xs us Q I r h
 obtain⟨p,ys,kvs,rfl,hp,t,hz,q⟩:=h
 obtain⟨u,rfl,ru⟩:=vals1 r
 cases ru
 obtain⟨z,its,n,rv,hl,ho⟩:=I.lstM hp
 have gen:∀{ys:List V} {its:List Value} {kvs:List (Key × V)},Vals ys its->PairsAt X.K H ys kvs->∃ps,KV kvs ps/\PairsIn (mixKind X.prog X.w) s.heap its ps:=fun {ys its kvs} rv t=>by
  induction t generalizing its with
  |nil=>
   cases rv
   exact⟨[],.nil,.nil⟩
  |@cons y p ys kvs h t ih=>
   cases rv with
   |cons r0 rv=>
    obtain⟨ps,h1,h2⟩:=ih rv
    obtain⟨a,e,sq⟩:=h
    subst e
    cases r0
    obtain⟨tv,rt,it,_⟩:=I.tuple (SqT.of sq)
    obtain⟨key,x,e2,rk,rx⟩:=vals2 rt
    subst e2
    refine⟨(p.1,x)::ps,Paired.cons (show p.1=p.1/\RelV p.2 x from ⟨rfl,rx⟩) h1,Paired.cons (show ∃a' key',Value.ref a=.ref a'/\IsTup s.heap a' #[key',x]/\(mixKind X.prog X.w).is p.1 key'=true from ⟨a,key,rfl,it,d6_ rk⟩) h2⟩
 obtain⟨ps,h1,h2⟩:=gen rv t
 have lp:=KV.length h1
 refine du_ (knd:=mixKind X.prog X.w) (I.ok.hd hc) ho h2 (by omega) fun h' tk hd kp=>?_
 refine⟨.ref s.heap.objs.size,_,I.laid (t':=tk) kp (Nat.le_refl _) (fy_ ?_ (beq_eq_false_iff_ne.mpr (Ne.symm (Nat.ne_of_lt I.big))) (KV.mergeP h1 .nil) hd),rfl,q _ I.fresh⟩
 have:=bn_ kvs []
 have:=sizeLine_eq
 simp only[List.length_nil] at *
 show (mergeK [] kvs).length<=sizeLine
 omega
theorem eO_:∀{bs:List Bool} {vs:List Value},Vals (bs.map V.bl) vs->vs=bs.map Value.bool
 |[],_,.nil=>rfl
 |b::bs,_,.cons h t=>by
  cases h
  rw[eO_ t]
  rfl
def rAll(K:PySem.W.Frag)(g:List Bool->Bool):List V->Hp->VK->Prop:=fun xs H Q=>∃p bs,xs=[.ref p]/\SqL K H p (bs.map V.bl)/\Q (.bl (g bs)) H
theorem h8_(hc:X.calm=true):CallR X (.builtin "all") (rAll X.K fun bs=>bs.all id):=by
 intro pins s σ H xs us Q I r h
 obtain⟨p,bs,rfl,hp,q⟩:=h
 obtain⟨u,rfl,ru⟩:=vals1 r
 cases ru
 obtain⟨its,rv,pl,z⟩:=I.list hp
 obtain rfl:=eO_ rv
 have hl:=pl.isList
 have lt:p<s.heap.objs.size:=by obtain⟨_,e,_⟩:=hl;exact Heap.lt_size e
 refine call_all_walk (wpAny_pyIter_list hl ⟨s.heap.objs.size,[s.heap.objs.size,p],[s.heap.objs.size],(bs.map Value.bool).toArray.size,_,_,fun i=>(bs[i]?).getD true,rfl,Walks.list (A:=X.A.in1) (I.ok.hd hc) _ p (Nat.ne_of_lt lt) _,⟨⟨_,Heap.get?_push_size _ rfl,rfl,rfl⟩,hl.push _⟩,fun i v s' Q' E' hP hQ=>?_,fun h' tk hk=>?_⟩)
 ·have hP:(bs.map Value.bool).toArray[i]? = some v:=hP
  simp only[List.getElem?_toArray,List.getElem?_map] at hP
  cases e:bs[i]? with
  |none=>rw[e] at hP;cases hP
  |some b=>
   have hQ:Q' ((bs[i]?).getD true) s':=hQ
   rw[e] at hP hQ
   cases hP
   exact wpAny_truthy_bool hQ
 ·have e:((List.range (bs.map Value.bool).toArray.size).all fun i=>(bs[i]?).getD true)=bs.all id:=by
   rw[List.size_toArray,List.length_map]
   exact LSm.range_all bs
  rw[e]
  exact⟨.bl _,H,I.kept (LSm.kept_iter hk),rfl,q⟩
theorem gU_:∀{ns:List Int} {vs:List Value},Vals (ns.map V.int) vs->IntsAre vs ns
 |[],_,.nil=>.nil
 |n::ns,_,.cons h t=>by
  obtain⟨tk,rfl⟩:=h
  exact .cons _ _ (gU_ t)
def rMax(K:PySem.W.Frag):List V->Hp->VK->Prop:=fun xs H Q=>∃(p:Addr) (ns:List Int),xs=[.ref p]/\SqL K H p (ns.map V.int)/\0<ns.length/\∀m,m∈ns->(∀a∈ns,a<=m)->Q (.int m) H
theorem hn_(hc:X.calm=true):CallR X (.builtin "max") (rMax X.K):=by
 intro pins s σ H xs us Q I r h
 obtain⟨p,ns,rfl,hp,hn,q⟩:=h
 obtain⟨u,rfl,ru⟩:=vals1 r
 cases ru
 obtain⟨its,rv,pl,z⟩:=I.list hp
 have hi:=gU_ rv
 obtain⟨xs,e⟩:=hi.allInts.items
 have hl:=pl.isList
 have hns:ns=xs.toList.map (·.1):=by rw[<- hi.numsOf,<- nums_intItems,<- e]
 have hsz:0<xs.size:=by
  have h3:=hn
  rw[hns] at h3
  simpa using h3
 rw[e] at hl
 refine max_intList (I.ok.hd hc) hl hsz fun v h' tk hv hk=>?_
 obtain⟨t,rfl⟩:=intItems_at hv
 obtain⟨h1,h2⟩:=argBest_gt (numAt xs) (xs.size - 1)
 refine⟨.int _,H,I.kept hk,⟨t,rfl⟩,q _ ?_ fun a ha=>?_⟩
 ·rw[hns,numAt_eq]
  exact getD_mem (by rw[List.length_map,Array.length_toList];omega)
 ·rw[hns] at ha
  obtain⟨j,hj,rfl⟩:=mem_getD ha
  rw[List.length_map,Array.length_toList] at hj
  rw[<- numAt_eq]
  exact h2 j (by omega)
end
end L2
set_option Elab.async false
set_option linter.all false
set_option maxRecDepth 100000
namespace EvN
open PySem PySem.SeqAt PyProof.Rows
open AutoSeq1 (wpAny_loadPart')
open MeetsSeq MeetsSeq2 MeetsSeq3 SeqRoads2
section
variable{prog:Program}{w:World}{A:Around}{E:Value->Shared->Prop}{s:Shared}
end
end EvN
set_option Elab.async false
set_option linter.all false
set_option maxRecDepth 100000
namespace L2
open PySem PySem.Spec PyProof.Rows PySem.W EvS EvD
abbrev Rp(D:Type):=Hp->V->D->Prop
structure Cmp (X:Cx) (n:Nat) {D:Type} [DecidableEq D] (R:Rp D):Prop where
 eq:∀{pins:List (Addr × Obj)} {σ:St} {H:Hp} {s:Shared} {A:Around} {x y:V} {u v:Value} {d e:D},Inv X pins σ H s->RelV x u->RelV y v->R H x d->R H y e->A.units+n<cLine->SeqAt.EqAt A s u v (decide (d=e))
 one:∀{pins:List (Addr × Obj)} {σ:St} {H:Hp} {s:Shared} {x:V} {d e:D},Inv X pins σ H s->R H x d->R H x e->d=e
def rS:Rp Str:=fun _ x d=>x=.str d
def r2(K:PySem.W.Frag){D1 D2:Type}(R1:Rp D1)(R2:Rp D2):Rp (D1 × D2):=fun H x d=>∃a u v,x=.ref a/\SqT K H a [u,v]/\R1 H u d.1/\R2 H v d.2
def rL(K:PySem.W.Frag){D:Type}(R:Rp D):Rp (List D):=fun H x ds=>∃a xs,x=.ref a/\SqL K H a xs/\Paired (R H) xs ds
section
variable{X:Cx}
theorem cmpS:Cmp X 0 rS where
 eq:=fun {pins σ H s A x y u v d e} I ru rv hx hy hu=>by
  have hx:x=.str d:=hx
  have hy:y=.str e:=hy
  subst hx
  subst hy
  have q:=fJ_ (A:=A) (s:=s) ru rv rfl rfl
  have e2:eqV (.str d) (.str e)=decide (d=e):=by
   show (d == e)=_
   by_cases h:d=e
   ·subst h;simp
   ·simp[h]
  rwa [e2] at q
 one:=fun {pins σ H s x d e} I hx hy=>by
  have hx:x=.str d:=hx
  have hy:x=.str e:=hy
  rw[hx] at hy
  exact V.str.inj hy
theorem cZ_{h:Heap}{a:Addr}{its:Array Value}(t:IsTup h a its):h.IsTuple a its:=t
theorem cmp2{n m:Nat}{D1 D2:Type}[DecidableEq D1][DecidableEq D2]{R1:Rp D1}{R2:Rp D2}(c1:Cmp X n R1)(c2:Cmp X m R2):Cmp X (max n m+1) (r2 X.K R1 R2) where
 one:=fun {pins σ H s x d e} I hx hy=>by
  obtain⟨a,u,v,rfl,t,q1,q2⟩:=hx
  obtain⟨b,u',v',e0,t',q1',q2'⟩:=hy
  cases e0
  have e1:=I.tuple_inj t t'
  cases e1
  exact Prod.ext (c1.one I q1 q1') (c2.one I q2 q2')
 eq:=fun {pins σ H s A x y u v d e} I ru rv hx hy hu=>by
  have hx':=hx
  have hy':=hy
  obtain⟨a,x1,x2,rfl,t,q1,q2⟩:=hx
  obtain⟨b,y1,y2,rfl,t',q1',q2'⟩:=hy
  cases ru
  cases rv
  by_cases hab:a=b
  ·subst hab
   have e1:=I.tuple_inj t t'
   cases e1
   have:d=e:=Prod.ext (c1.one I q1 q1') (c2.one I q2 q2')
   rw[decide_eq_true this]
   exact SeqAt.EqAt.same _
  ·obtain⟨its,r,it,_⟩:=I.tuple t
   obtain⟨its',r',it',_⟩:=I.tuple t'
   obtain⟨u1,u2,rfl,r1,r2⟩:=vals2 r
   obtain⟨w1,w2,rfl,r1',r2'⟩:=vals2 r'
   have key:=SeqAt.EqAt.of_refs hab (SeqAt.RcAt.tuples (A:=A) (s:=s) (e:=fun j=>if j=0 then decide (d.1=e.1) else decide (d.2=e.2)) (cZ_ it) (cZ_ it') (by omega) fun j h1 h2=>by
    match j,h1,h2 with
    |0,_,_=>exact c1.eq I r1 r1' q1 q1' (by show A.units+1+n<cLine;omega)
    |1,_,_=>exact c2.eq I r2 r2' q2 q2' (by show A.units+1+m<cLine;omega))
   have e3:((List.range (min [u1,u2].toArray.size [w1,w2].toArray.size)).all (fun j=>if j=0 then decide (d.1=e.1) else decide (d.2=e.2))&&[u1,u2].toArray.size == [w1,w2].toArray.size)=decide (d=e):=by
    show (decide (d.1=e.1)&&(decide (d.2=e.2)&&true)&&true)=_
    by_cases h1:d.1=e.1
    ·by_cases h2:d.2=e.2
     ·have:d=e:=Prod.ext h1 h2
      simp[this]
     ·have:¬d=e:=fun z=>h2 (by rw[z])
      simp[h1,h2,this]
    ·have:¬d=e:=fun z=>h1 (by rw[z])
     simp[h1,this]
   rw[e3] at key
   exact key
theorem aS_{α β:Type}{F:α->β->Prop}:∀{l:List α} {m:List β},Paired F l m->∀(i:Nat) (h1:i<l.length) (h2:i<m.length),F l[i] m[i]
 |_,_,.cons h t,0,_,_=>h
 |_,_,.cons h t,i+1,h1,h2=>aS_ t i (by simpa using h1) (by simpa using h2)
def rInD(K:PySem.W.Frag){D:Type}[DecidableEq D](R:Rp D)(neg:Bool):V->V->Hp->VK->Prop:=fun x y H Q=>∃d es,R H x d/\rL K R H y es/\Q (.bl (if neg then !decide (d∈es) else decide (d∈es))) H
theorem jy_{D:Type}[DecidableEq D]{n:Nat}{R:Rp D}(c:Cmp X n R){pins:List (Addr × Obj)}{σ:St}{H:Hp}{s:Shared}{A:Around}(I:Inv X pins σ H s){x:V}{u:Value}{d:D}(ru:RelV x u)(hx:R H x d)(hu:A.units+n<cLine):∀{ys:List V} {vs:List Value} {es:List D},Vals ys vs->Paired (R H) ys es->
  ∃f:Value->Bool,(∀w∈vs,SeqAt.EqAt A s w u (f w))/\vs.any f=decide (d∈es):=fun {ys vs es} rv hy=>by
 let f:Value->Bool:=fun w=>@decide (∃y e,RelV y w/\R H y e/\e=d) (Classical.propDecidable _)
 have sound:∀y w e,RelV y w->R H y e->f w=decide (e=d):=fun y w e h1 h2=>by
  by_cases z:e=d
  ·rw[decide_eq_true z]
   exact @decide_eq_true _ (Classical.propDecidable _) ⟨y,e,h1,h2,z⟩
  ·rw[decide_eq_false z]
   refine @decide_eq_false _ (Classical.propDecidable _) fun⟨y',e',g1,g2,g3⟩=>z ?_
   have:y'=y:=RelV.inj g1 h1
   subst this
   rw[<- g3]
   exact c.one I h2 g2
 refine⟨f,?_,?_⟩
 ·induction rv generalizing es with
  |nil=>exact fun w hw=>nomatch hw
  |cons h t ih=>
   cases hy with
   |cons g t'=>
    intro w hw
    rcases List.mem_cons.mp hw with rfl|hw
    ·rw[sound _ _ _ h g]
     exact c.eq I h ru g hx hu
    ·exact ih t' w hw
 ·induction rv generalizing es with
  |nil=>
   cases hy
   simp
  |cons h t ih=>
   cases hy with
   |@cons _ e _ es g t'=>
    rw[List.any_cons,ih t',sound _ _ _ h g]
    by_cases z:e=d
    ·subst z
     simp
    ·by_cases z2:d∈es
     ·simp[z2]
     ·have:¬d∈e::es:=fun q=>by
       rcases List.mem_cons.mp q with q|q
       ·exact z q.symm
       ·exact z2 q
      rw[decide_eq_false z,decide_eq_false z2,decide_eq_false this]
      rfl
theorem i1_{n:Nat}{D:Type}[DecidableEq D]{R:Rp D}(c:Cmp X n R)(hu:X.A.units+n+1<cLine):OpR X (compareOp .In) (rInD X.K R false):=by
 intro pins s σ H x y v u Q I rx ry h
 obtain⟨d,es,hx,⟨a,ys,rfl,t,q⟩,hq⟩:=h
 cases ry
 obtain⟨us,r,pl,_⟩:=I.list t
 obtain⟨f,h1,h2⟩:=jy_ c I (A:=X.A.in1) rx hx (by show X.A.units+1+n<cLine;omega) r q
 refine SeqAt.in_listAt f pl.isList (fun w hw=>h1 w (by simpa using hw)) ⟨.bl _,H,I,rfl,?_⟩
 rw[show us.toArray.any f=us.any f by simp,h2]
 exact hq
end
end L2
set_option Elab.async false
set_option linter.all false
set_option maxRecDepth 100000
namespace L2
open PySem PySem.Spec PyProof.Rows PySem.W EvS EvD
section
variable{X:Cx}
def rIsi(K:PySem.W.Frag):List V->Hp->VK->Prop:=fun xs H Q=>∃x T t b,xs=[x,.ty T]/\TyOf K H x t/\PySem.W.kitOne K t (.type T)=some b/\Q (.bl b) H
theorem ap_:CallR X (.builtin "isinstance") (rIsi X.K):=by
 intro pins s σ H xs us Q I r h
 obtain⟨x,T,t,b,rfl,ty,e,q⟩:=h
 obtain⟨u,w',rfl,ru,rw'⟩:=vals2 r
 cases (show w'=Value.type T from rw')
 exact dU_ I ru ty e fun tk=>⟨.bl b,H,I.tok tk,rfl,q⟩
theorem dX_:OpR X (compareOp .LtE) (fun x y H Q=>∃i j,x=.str i/\y=.str j/\Q (.bl (!decide (j.cps.toList<i.cps.toList))) H):=by
 intro pins s σ H x y v u Q I rx ry h
 obtain⟨i,j,rfl,rfl,q⟩:=h
 obtain⟨t,rfl⟩:=rx
 obtain⟨t',rfl⟩:=ry
 exact PySem.P.le_str ⟨.bl _,H,I,rfl,q⟩
def tView(mk:Addr->Addr->HO)(td:TE):TE:=fun σ H Q=>td σ H fun x H1=>∃d kvs,x=.ref d/\H1 d=some (.dK kvs)/\∀v,H1 v=none->Q (.ref v) (upd H1 v (mk v d))
theorem go_{pins:List (Addr × Obj)}{σ:St}{H:Hp}{s:Shared}{d:Addr}{cls:String}(I:Inv X pins σ H s)(φ:Heap->Prop)(hφ:φ (s.heap.push { cls:=.type cls,data:=.fields #[.ref d] }))(hs:∀h1 h2:Heap,φ h1->(∀o,h1.get? s.heap.objs.size=some o->h2.get? s.heap.objs.size=some o)->φ h2) :
  Inv X pins σ (upd H s.heap.objs.size (.ext φ)) { s with heap:=s.heap.push { cls:=.type cls,data:=.fields #[.ref d] } }:=
 I.laid (t':=s.toks) (fun _ _ q=>Heap.get?_push_of_some _ q) (Nat.le_refl _) ⟨hφ,⟨_,Heap.get?_push_size _ rfl⟩,hs⟩
theorem bz_{o:Expr}{td:TE}{apos cpos:Pos}(ho:PE X o td)(hbase:attributeBase o "items" X.env (eval o X.env)=eval o X.env:=by rfl)(hline:(apos.endLine == cpos.line)=true:=by rfl):PE X (.Call (.Attribute o "items" apos) [] [] cpos) (tView itemsV td):=by
 intro pins s σ H Q I h
 refine wpAny_Call_method0_late hbase hline (thn (ho pins s σ H _ I h) fun v s1 ⟨x,H1,I1,r1,d,kvs,e,hd,q⟩=>?_)
 subst e
 cases r1
 obtain⟨t1,t2,t3⟩:=ic_ I1 (.inl ⟨kvs,.inl hd⟩)
 obtain⟨_,_,vs,rel,dd⟩:=ei_ I1.hok hd
 refine⟨"dict","dict.items",PySem.F.plainAttrs_dict,PySem.F.slot_dict_items,PySem.F.type_dict_items,t1,t2,Calls.callWith_builtin rfl (PySem.evalArgs_none ?_)⟩
 refine call_meetsIn PySem.F.slot_dict_items t1 PySem.F.entry_dict_items (PySem.F.args_dict_items_1 _) (meets_dict_items (mixKind X.prog X.w) d t3) ⟨⟨vs,dd⟩,?_⟩
 exact⟨.ref _,_,go_ I1 _ ⟨_,Heap.get?_push_size _ rfl,rfl,rfl⟩ fun h1 h2 ⟨o,e,r⟩ k=>⟨o,k o e,r⟩,rfl,q _ I1.fresh⟩
theorem e0_{o:Expr}{td:TE}{apos cpos:Pos}(ho:PE X o td)(hbase:attributeBase o "values" X.env (eval o X.env)=eval o X.env:=by rfl)(hline:(apos.endLine == cpos.line)=true:=by rfl):PE X (.Call (.Attribute o "values" apos) [] [] cpos) (tView valuesV td):=by
 intro pins s σ H Q I h
 refine wpAny_Call_method0_late hbase hline (thn (ho pins s σ H _ I h) fun v s1 ⟨x,H1,I1,r1,d,kvs,e,hd,q⟩=>?_)
 subst e
 cases r1
 obtain⟨t1,t2,t3⟩:=ic_ I1 (.inl ⟨kvs,.inl hd⟩)
 obtain⟨_,_,vs,rel,dd⟩:=ei_ I1.hok hd
 refine⟨"dict","dict.values",PySem.F.plainAttrs_dict,PySem.F.slot_dict_values,PySem.F.type_dict_values,t1,t2,Calls.callWith_builtin rfl (PySem.evalArgs_none ?_)⟩
 refine call_meetsIn PySem.F.slot_dict_values t1 PySem.F.entry_dict_values (PySem.F.args_dict_values_1 _) (meets_dict_values (mixKind X.prog X.w) d t3) ⟨⟨vs,dd⟩,?_⟩
 exact⟨.ref _,_,go_ I1 _ ⟨_,Heap.get?_push_size _ rfl,rfl,rfl⟩ fun h1 h2 ⟨o,e,r⟩ k=>⟨o,k o e,r⟩,rfl,q _ I1.fresh⟩
end
section
variable{X:Cx}{pins:List (Addr × Obj)}{σ:St}{H:Hp}{s:Shared}{d:Addr}{kvs:List (Key × V)}
theorem Inv.freeze(I:Inv X pins σ H s)(h:H d=some (.dK kvs)):∃o,s.heap.get? d=some o/\Inv X pins σ (upd H d (.frz o (.dK kvs))) s:=by
 obtain⟨z,hd,vs,rel,dd⟩:=ei_ I.hok h
 obtain⟨o,es,ep,ho,r⟩:=id dd
 have other:∀{b u},H b=some u->u≠.dK kvs->upd H d (.frz o (.dK kvs)) b=some u:=fun {b u} e ne=>by rw[a5_ (aQ_ e h ne)];exact e
 refine⟨o,ho,I.un (h':=s.heap) (t':=s.toks) ⟨fun b u q _ _ _=>q,fun b u q _ _ _=>⟨u.slots,q⟩,fun b u q n _=>?_,fun b u q _=>⟨u,q⟩,fun b xs q=>other q (by simp),fun b u v q=>other q (by simp),fun b ps q=>⟨#[],by rw[Array.append_empty];exact other q (by simp)⟩⟩ fun b u q=>?_⟩
 ·by_cases e:b=d
  ·subst e;rw[h] at n;cases n
  ·rw[a5_ e];exact n
 ·by_cases e:b=d
  ·subst e
   rw[a1_] at q
   cases q
   exact⟨ho,z,hd,vs,rel,dd⟩
  ·rw[a5_ e] at q
   exact (I.hok b u q).stay (fun c v _ z=>z) (fun c z=>other z (by simp)) fun c xs z=>other z (by simp)
theorem Inv.thaw{o:Obj}(I:Inv X pins σ H s)(h:H d=some (.frz o (.dK kvs)))(h0:∀o u,X.H₀ d≠some (.frz o u)):Inv X pins σ (upd H d (.dK kvs)) s:=by
 have other:∀{b u},H b=some u->(∀o v,u≠.frz o v)->upd H d (.dK kvs) b=some u:=fun {b u} e ne=>by rw[a5_ (aQ_ e h (ne _ _))];exact e
 have none':∀{b},H b=none->upd H d (.dK kvs) b=none:=fun {b} e=>by
  rw[a5_ (fun z=>by subst z;rw[h] at e;cases e)];exact e
 refine⟨I.ok,I.os,I.bare,⟨I.base.keep,I.base.slot,fun b u q n hx=>none' (I.base.free b u q n hx),I.base.there,fun b xs q=>other (I.base.tups b xs q) (by simp),fun b u v q=>?_,fun b ps q=>?_⟩,I.loc,I.cell,none' I.free,fun x c e=>none' (I.freeC x c e),fun p hp=>?_,fun b u q=>?_,I.len⟩
 ·have:=I.base.frzs b u v q
  rw[a5_ (fun z=>by subst z;exact h0 _ _ q)]
  exact this
 ·obtain⟨more,e⟩:=I.base.tbls b ps q
  exact⟨more,other e (by simp)⟩
 ·obtain⟨a1,a2,a3⟩:=I.pin p hp
  exact⟨a1,none' a2,a3⟩
 ·by_cases e:b=d
  ·subst e
   rw[a1_] at q
   cases q
   obtain⟨ho,z,hd,vs,rel,dd⟩:=I.hok b _ h
   exact⟨z,hd,vs,rel,dd⟩
  ·rw[a5_ e] at q
   exact (I.hok b u q).stay (fun c v _ z=>z) (fun c z=>other z (by simp)) fun c xs z=>other z (by simp)
end
def tThaw(t:TE):TE:=fun σ H Q=>∃d kvs,H d=some (.dK kvs)/\t σ H fun v H1=>∃o,H1 d=some (.frz o (.dK kvs))/\Q v (upd H1 d (.dK kvs))
theorem j0_{X:Cx}{e:Expr}{t:TE}(h:PE X e t):PE X e (tThaw t):=by
 intro pins s σ H Q I q
 obtain⟨d,kvs,hd,q⟩:=q
 refine thn (h pins s σ H _ I q) fun u s' ⟨v,H1,I1,r,o,hf,q1⟩=>⟨v,_,I1.thaw hf (fun o u z=>?_),r,q1⟩
 have:=I.base.frzs _ _ _ z
 rw[hd] at this
 cases this
def Itv(d:Addr)(o:Obj)(kvs:List (Key × V)):It:=⟨fun i H=>H d=some (.frz o (.dK kvs))/\i<kvs.length,fun i H x H'=>H'=H/\∃k,kvs[i]? = some (k,x),fun i H=>H d=some (.frz o (.dK kvs))/\kvs.length<=i⟩
theorem by_{X:Cx}{pins:List (Addr × Obj)}{σ:St}{H:Hp}{s:Shared}{d:Addr}{kvs:List (Key × V)}{o:Obj}{es:Array DictEntry}{ep:Nat}(I:Inv X pins σ H s)(h:H d=some (.frz o (.dK kvs)))(ho:o.data=.dict es ep):∃vs,KV kvs vs/\s.heap.DictAt (mixKind X.prog X.w) d vs ep:=by
 obtain⟨e,z,hd,vs,rel,o',es',ep',e',c',d',r⟩:=I.hok d _ h
 rw[e] at e'
 cases e'
 rw[ho] at d'
 cases d'
 exact⟨vs,rel,o,es,e,c',ho,r⟩
theorem gB_{κ:Type}{kvs:List (κ × V)}{vs:List (κ × Value)}(r:KV kvs vs):∀(i:Nat) {k:κ} {x:V},kvs[i]? = some (k,x)->∃u,vs[i]? = some (k,u)/\RelV x u:=by
 induction r with
 |nil=>intro i k x e;simp at e
 |@cons p q _ _ h _ ih=>
  intro i k x e
  cases i with
  |zero=>
   have e:p=(k,x):=by simpa using e
   subst e
   refine⟨q.2,?_,h.2⟩
   rw[List.getElem?_cons_zero]
   have h1:k=q.1:=h.1
   rw[h1]
  |succ i=>exact ih i (by simpa using e)
theorem fK_{P:Program}{w:World}{K:PySem.W.Frag}{tg:Expr}(d it:Addr)(o:Obj)(kvs:List (Key × V)){es:Array DictEntry}{ep:Nat}(ho:o.data=.dict es ep):Turn P w K tg (Itv d o kvs) [it] it (fun i h=>h.IsValIter it d i kvs.length ep) where
 mem:=by simp
 obj:=fun i h st b hb=>by
  obtain rfl:b=it:=by simpa using hb
  obtain⟨o,e,c,d⟩:=st
  exact⟨o,e,fun v z=>by rw[d] at z;cases z⟩
 keep:=fun i h h' st k=>st.at fun o e=>k it (by simp) o e
 item:=by
  intro X hP hw hK hc i pins s σ H E I hf st hg
  subst hP hw hK
  obtain⟨hd,hi⟩:=hg
  obtain⟨vs,rel,dat⟩:=by_ I hd ho
  obtain⟨⟨k,x⟩,hx⟩:∃p,kvs[i]? = some p:=⟨kvs[i],by simp[hi]⟩
  obtain⟨u,hu,ru⟩:=gB_ rel i hx
  obtain⟨f0,f1,f2,f3,f4,f5⟩:=hf it (by simp)
  rw[rel.length] at st
  refine wpAny_pyNext_values_item st dat hu fun h' st' sb=>?_
  have I1:Inv X pins σ H { s with heap:=h' }:=I.turned (t':=s.toks) (fun b o hb e=>(sb.2 b hb).trans e) f0 f1 f3 f4 f5
  obtain⟨o',e,c,dd⟩:=id st'
  refine⟨u,rfl,gk_ (s:={ s with heap:=h' }) e c dd (by decide) ⟨x,H,I1,ru,⟨rfl,k,hx⟩,?_,fun b hb=>(hf b hb).1⟩⟩
  show h'.IsValIter it d (i+1) kvs.length ep
  rw[rel.length]
  exact st'
 done:=by
  intro X hP hw hK hc i pins s σ H E I hf st hg
  subst hP hw hK
  obtain⟨hd,hi⟩:=hg
  obtain⟨vs,rel,dat⟩:=by_ I hd ho
  obtain⟨f0,f1,f2,f3,f4,f5⟩:=hf it (by simp)
  rw[rel.length] at st hi
  exact wpAny_pyNext_values_end (I.ok.hd hc) st dat (by simp;omega) fun h' eb=>⟨rfl,I.turned (t':=s.toks) (fun b o hb e=>eb b o hb e) f0 f1 f3 f4 f5⟩
 self:=fun _ _ _ _ _ st h=>wpAny_pyIter_valiter st h
def iVals(tv:TE):TI:=fun σ H R=>tv σ H fun x H1=>∃v d kvs,x=.ref v/\H1 v=some (valuesV v d)/\H1 d=some (.dK kvs)/\∀o,R (Itv d o kvs) (upd H1 d (.frz o (.dK kvs)))
theorem j3_{X:Cx}{tg e:Expr}{tv:TE}(he:PE X e tv):PI X tg e (iVals tv):=by
 intro pins s σ H R I h
 refine thn (he pins s σ H _ I h) fun u s1 ⟨x,H1,I1,r1,v,d,kvs,ex,hv,hd,q⟩=>?_
 subst ex
 cases r1
 obtain⟨iv,_,_⟩:=I1.hok v _ hv
 obtain⟨o,ho,I2⟩:=I1.freeze hd
 obtain⟨z,_,vs,rel,o',es,ep,ho',c',dt,r⟩:=ei_ I1.hok hd
 rw[ho] at ho'
 cases ho'
 have hne:v≠d:=aQ_ hv hd (by intro z;cases z)
 refine wpAny_pyIter_values (knd:=mixKind X.prog X.w) (kvs:=vs) (ep:=ep) iv ⟨o,es,ho,c',dt,r⟩ ?_
 refine⟨s1.heap.objs.size,[s1.heap.objs.size],_,_,_,rfl,I2.kept (t':=s1.toks) fun b o e=>Heap.get?_push_of_some _ e,fK_ d _ o kvs dt,?_,fun b hb=>?_,q o⟩
 ·rw[rel.length]
  exact⟨_,Heap.get?_push_size _ rfl,rfl,rfl⟩
 ·obtain rfl:b=s1.heap.objs.size:=by simpa using hb
  exact I2.fpOk (Nat.le_refl _) (I2.hok.fresh (Nat.le_refl _))
def Its(x:Str):It:=⟨fun i _=>i<x.cps.size,fun i H v H'=>H'=H/\∃c,x.cps[i]? = some c/\v=.str ⟨#[c]⟩,fun i _=>x.cps.size<=i⟩
theorem f9_{P:Program}{w:World}{K:PySem.W.Frag}{tg:Expr}(it:Addr)(x:Str)(t:Tok):Turn P w K tg (Its x) [it] it (fun i h=>i<=x.cps.size/\h.IsStrIter it "str_ascii_iterator" x t i) where
 mem:=by simp
 obj:=fun i h st b hb=>by
  obtain rfl:b=it:=by simpa using hb
  obtain⟨o,e,c,d⟩:=st.2
  exact⟨o,e,fun v z=>by rw[d] at z;cases z⟩
 keep:=fun i h h' st k=>⟨st.1,let ⟨o,ho,r⟩:=st.2;⟨o,k it (by simp) o ho,r⟩⟩
 item:=by
  intro X hP hw hK hc i pins s σ H E I hf st hg
  subst hP hw hK
  have hg:i<x.cps.size:=hg
  obtain⟨f0,f1,f2,f3,f4,f5⟩:=hf it (by simp)
  refine wpAny_pyNext_ascii_item st.2 (c:=x.cps[i]) (by simp[hg]) fun h' st' sb=>?_
  have I1:Inv X pins σ H { s with heap:=h',toks:=s.toks+1 }:=I.turned (t':=s.toks+1) (fun b o hb e=>(sb.2 b hb).trans e) f0 f1 f3 f4 f5
  obtain⟨o',e,c,dd⟩:=id st'
  exact⟨_,rfl,gk_ (s:={ s with heap:=h',toks:=s.toks+1 }) e c dd (by decide) ⟨.str ⟨#[x.cps[i]]⟩,H,I1,⟨_,rfl⟩,⟨rfl,_,by simp[hg],rfl⟩,⟨hg,st'⟩,fun b hb=>(hf b hb).1⟩⟩
 done:=by
  intro X hP hw hK hc i pins s σ H E I hf st hg
  subst hP hw hK
  have hg:x.cps.size<=i:=hg
  obtain⟨f0,f1,f2,f3,f4,f5⟩:=hf it (by simp)
  exact wpAny_pyNext_ascii_end (I.ok.hd hc) st.2 (by simp[hg]) fun h' eb=>⟨rfl,I.turned (t':=s.toks) (fun b o hb e=>eb b o hb e) f0 f1 f3 f4 f5⟩
 self:=fun _ _ _ _ _ st h=>wpAny_pyIter_striter_ascii st.2 h
theorem gL_{P:Program}{w:World}{K:PySem.W.Frag}{tg:Expr}(it:Addr)(x:Str)(t:Tok):Turn P w K tg (Its x) [it] it (fun i h=>i<=x.cps.size/\h.IsStrIter it "str_iterator" x t i) where
 mem:=by simp
 obj:=fun i h st b hb=>by
  obtain rfl:b=it:=by simpa using hb
  obtain⟨o,e,c,d⟩:=st.2
  exact⟨o,e,fun v z=>by rw[d] at z;cases z⟩
 keep:=fun i h h' st k=>⟨st.1,let ⟨o,ho,r⟩:=st.2;⟨o,k it (by simp) o ho,r⟩⟩
 item:=by
  intro X hP hw hK hc i pins s σ H E I hf st hg
  subst hP hw hK
  have hg:i<x.cps.size:=hg
  obtain⟨f0,f1,f2,f3,f4,f5⟩:=hf it (by simp)
  refine wpAny_pyNext_wide_item st.2 (c:=x.cps[i]) (by simp[hg]) fun h' st' sb=>?_
  have I1:Inv X pins σ H { s with heap:=h',toks:=s.toks+1 }:=I.turned (t':=s.toks+1) (fun b o hb e=>(sb.2 b hb).trans e) f0 f1 f3 f4 f5
  obtain⟨o',e,c,dd⟩:=id st'
  exact⟨_,rfl,gk_ (s:={ s with heap:=h',toks:=s.toks+1 }) e c dd (by decide) ⟨.str ⟨#[x.cps[i]]⟩,H,I1,⟨_,rfl⟩,⟨rfl,_,by simp[hg],rfl⟩,⟨hg,st'⟩,fun b hb=>(hf b hb).1⟩⟩
 done:=by
  intro X hP hw hK hc i pins s σ H E I hf st hg
  subst hP hw hK
  have hg:x.cps.size<=i:=hg
  obtain⟨f0,f1,f2,f3,f4,f5⟩:=hf it (by simp)
  exact wpAny_pyNext_wide_end (I.ok.hd hc) st.2 (by simp[hg]) fun h' eb=>⟨rfl,I.turned (t':=s.toks) (fun b o hb e=>eb b o hb e) f0 f1 f3 f4 f5⟩
 self:=fun _ _ _ _ _ st h=>wpAny_pyIter_striter_wide st.2 h
def iStr(tl:TE):TI:=fun σ H R=>tl σ H fun v H1=>∃x,v=.str x/\R (Its x) H1
theorem jB_{X:Cx}{tg l:Expr}{tl:TE}(hl:PE X l tl):PI X tg l (iStr tl):=by
 intro pins s σ H R I h
 refine thn (hl pins s σ H _ I h) fun v s1 ⟨y,H1,I1,r1,x,e,q⟩=>?_
 subst e
 obtain⟨t,rfl⟩:=r1
 have fp:∀b∈[s1.heap.objs.size],FpOk X pins H1 b:=fun b hb=>by
  obtain rfl:b=s1.heap.objs.size:=by simpa using hb
  exact I1.fpOk (Nat.le_refl _) (I1.hok.fresh (Nat.le_refl _))
 cases ha:x.cps.all (· < 128)
 ·refine wpAny_pyIter_wide ha ?_
  exact⟨s1.heap.objs.size,[s1.heap.objs.size],_,_,H1,rfl,I1.kept (t':=s1.toks) fun b o e=>Heap.get?_push_of_some _ e,gL_ _ x t,⟨Nat.zero_le _,_,Heap.get?_push_size _ rfl,rfl,rfl⟩,fp,q⟩
 ·refine wpAny_pyIter_ascii ha ?_
  exact⟨s1.heap.objs.size,[s1.heap.objs.size],_,_,H1,rfl,I1.kept (t':=s1.toks) fun b o e=>Heap.get?_push_of_some _ e,f9_ _ x t,⟨Nat.zero_le _,_,Heap.get?_push_size _ rfl,rfl,rfl⟩,fp,q⟩
end L2
namespace L2
open PySem PySem.Spec PyProof.Rows PySem.W EvS EvD
theorem opK{X:Cx}{f:Value->Value->Sem Value}{K:PySem.W.Frag}(r:PySem.W.Frag->R2)(h:OpR X f (r X.K))(hK:X.K=K:=by rfl):OpR X f (r K):=by
 subst hK
 exact h
theorem callK{X:Cx}{f:Value}{K:PySem.W.Frag}(r:PySem.W.Frag->List V->Hp->VK->Prop)(h:CallR X f (r X.K))(hK:X.K=K:=by rfl):CallR X f (r K):=by
 subst hK
 exact h
def rLen(K:PySem.W.Frag):List V->Hp->VK->Prop:=fun xs H Q=>∃p ys,xs=[.ref p]/\(SqL K H p ys∨SqT K H p ys)/\Q (.int ys.length) H
theorem cLen{X:Cx}{K:PySem.W.Frag}(hK:X.K=K:=by rfl):CallR X (.builtin "len") (rLen K):=callK rLen ai_ hK
theorem dp_{X:Cx}{N:List Str}{scope:Scope}{fp:List Addr}{s:Shared}{H:Hp}{es:List Expr}{k:Nat}{pos:Pos}{t:TGs}{n:Nat}(h:PGs (cxComp X N scope fp s H) es t)(hc:X.calm=true:=by rfl)
  (hn:(assignEach es (cxComp X N scope fp s H).env).length=n:=by rfl) (hst:(assignEach es (cxComp X N scope fp s H).env).findIdx? (·.1)=none:=by rfl):PG (cxComp X N scope fp s H) (.Tuple es k pos) (gTup X.K n t):=c5_ (X:=cxComp X N scope fp s H) hc h hn hst
end L2
set_option Elab.async false
set_option linter.all false
set_option maxRecDepth 100000
namespace Ev
open PySem L2
def top(i:Nat):Stmt:=PySem.Challenge.pw_evenpieces_k49_what_bounds_refuse.main.body.getD i (.Pass ⟨0,0,0,0⟩)
abbrev sIsW:Stmt:=top 13
abbrev sWhole:Stmt:=top 14
abbrev sName:Stmt:=top 15
abbrev sLesser:Stmt:=top 16
abbrev sPair:Stmt:=top 17
abbrev sSorted:Stmt:=top 18
abbrev sAnew:Stmt:=top 19
abbrev sHand:Stmt:=top 27
abbrev sStr:Stmt:=top 28
abbrev sTies:Stmt:=top 29
abbrev sNear:Stmt:=top 30
abbrev sWeb:Stmt:=top 32
def ltS(a b:Str):Bool:=decide (a.cps.toList<b.cps.toList)
def ord2(a b:Str):Str × Str:=if ltS a b=true then (a,b) else (b,a)
section
variable{P:Program}{w:World}{K:PySem.W.Frag}{mg:Str->Option Value}{base:Heap}
theorem scLesser:FnScope ["one","other"] ["one","other"] (defScope sLesser):=⟨rfl,rfl,rfl,by decide +kernel,rfl,by decide +kernel,by decide +kernel⟩
def spLesser:Sp:=fun vs H Q _=>∃a b,vs=[.str a,.str b]/\∀t,H t=none->Q (.ref t) (upd H t (.tup [.str (ord2 a b).1,.str (ord2 a b).2]))
theorem gY_{f:Addr}{fd:FuncData}(F:Fun K "lesser_first" "lesser_first" sLesser f fd):FnOk P w K mg base CX0 1 f fd ["one","other"] spLesser:=by
 refine F.ok scLesser (fun vs H Q E h=>?_) (fun cdv A outer s H vs Q E hr h=>?_)
 ·obtain⟨a,b,rfl,_⟩:=h
  rfl
 ·obtain⟨a,b,rfl,k⟩:=h
  refine⟨_,a4_ (aa_ (hF_ (am_ gv_ (pv 0) (pv 1) (nomark _)) (aC_ (a0_ (pv 0) (a0_ (pv 1) a3_))) (aC_ (a0_ (pv 1) (a0_ (pv 0) a3_))))),?_⟩
  refine⟨_,rfl,_,rfl,a,b,rfl,rfl,_,rfl,?_⟩
  refine ite2 (fun c=>?_) (fun c=>?_)
  ·refine⟨_,rfl,_,rfl,by show 2<=sizeLine;decide,fun t ht=>?_⟩
   have:=k t ht
   rwa [show ord2 a b=(a,b) from if_pos c] at this
  ·refine⟨_,rfl,_,rfl,by show 2<=sizeLine;decide,fun t ht=>?_⟩
   have:=k t ht
   rwa [show ord2 a b=(b,a) from if_neg c] at this
theorem scWhole:FnScope ["thing","least","most"] ["thing","least","most"] (defScope sWhole):=⟨rfl,rfl,rfl,by decide +kernel,rfl,by decide +kernel,by decide +kernel⟩
def spWhole:Sp:=fun vs H Q _=>∃i a b:Int,vs=[.int i,.int a,.int b]/\Q (.bl (decide (a<=i)&&decide (i<=b))) H
structure Bi (mg:Str->Option Value):Prop where
 isi:mg "isinstance"=none
 int:mg "int"=none
 bool:mg "bool"=none
 str:mg "str"=none
 tuple:mg "tuple"=none
 list:mg "list"=none
 dict:mg "dict"=none
 len:mg "len"=none
 all:mg "all"=none
 sorted:mg "sorted"=none
 max:mg "max"=none
 range:mg "range"=none
 any:mg "any"=none
 enum:mg "enumerate"=none
 min:mg "min"=none
 abs:mg "abs"=none
structure Cal (P:Program) (w:World) (K:PySem.W.Frag) (mg:Str->Option Value) (base:Heap) (k:Nat) (x:Str) (ps:List Str) (sp:Sp):Prop where
 ex:∃f fd,FnOk P w K mg base CX0 k f fd ps sp/\mg x=some (.ref f)/\PySem.W.keepIn K (.ref f)=true/\Binds K fd ps []
theorem ag_{X:Cx}{k:Nat}{x:Str}{ps:List Str}{sp:Sp}{p pos:Pos}{e:Expr}{es:List Expr}{t:TA}(c:Cal X.prog X.w X.K X.mg X.base k x ps sp)(hr:Room k X.A)(ha:PA X (e::es) t)(hg:Gl X x:=by rfl)(hdb:(x == ("__debug__":Str))=false:=by decide)
  (he:starEach (e::es) X.env=(false,eval e X.env)::starEach es X.env:=by rfl) (hpl:(backTo pos (starEach es X.env)).any (·.1)=false:=by rfl):PE X (.Call (.Name x p) (e::es) [] pos) (tCall sp [] E0 t):=by
 obtain⟨f,fd,F,m,kp,b⟩:=c.ex
 exact gJ_ F hr hg m kp b .nil pass0 ha hdb he hpl
theorem scIsW:FnScope ["thing"] ["thing"] (defScope sIsW):=⟨rfl,rfl,rfl,by decide +kernel,rfl,by decide +kernel,by decide +kernel⟩
def spIsW:Sp:=fun vs H Q _=>∃i:Int,vs=[.int i]/\Q (.bl true) H
theorem jv_{f:Addr}{fd:FuncData}(F:Fun K "is_whole" "is_whole" sIsW f fd)(B:Bi mg):FnOk P w K mg base CX0 1 f fd ["thing"] spIsW:=by
 refine F.ok scIsW (fun vs H Q E h=>?_) (fun cdv A outer s H vs Q E hr h=>?_)
 ·obtain⟨i,rfl,_⟩:=h
  rfl
 ·obtain⟨i,rfl,k⟩:=h
  refine⟨_,a4_ (aa_ (aX_ (a8_ ap_ (by rfl) B.isi PyProof.Rows.Boot.«isinstance» (a0_ (pv 0) (a0_ (aA_ (v:=.ty "int") (by rfl) B.int PyProof.Rows.Boot.«int» rfl) a3_))) (aO_ (eV_ (a8_ ap_ (by rfl) B.isi PyProof.Rows.Boot.«isinstance» (a0_ (pv 0) (a0_ (aA_ (v:=.ty "bool") (by rfl) B.bool PyProof.Rows.Boot.«bool» rfl) a3_))))))),?_⟩
  exact⟨_,rfl,_,_,_,_,rfl,.int i,rfl,_,rfl,iteT ⟨_,rfl,_,_,_,_,rfl,.int i,rfl,_,rfl,k⟩⟩
theorem eK_{f:Addr}{fd:FuncData}(F:Fun K "is_whole_within" "is_whole_within" sWhole f fd)(cI:Cal P w K mg base 1 "is_whole" ["thing"] spIsW):FnOk P w K mg base CX0 2 f fd ["thing","least","most"] spWhole:=by
 refine F.ok scWhole (fun vs H Q E h=>?_) (fun cdv A outer s H vs Q E hr h=>?_)
 ·obtain⟨i,a,b,rfl,_⟩:=h
  rfl
 ·obtain⟨i,a,b,rfl,k⟩:=h
  refine⟨_,a4_ (aa_ (aX_ (ag_ cI hr (a0_ (pv 0) a3_)) (aO_ (dq_ dw_ dw_ (pv 1) (pv 0) (pv 2))))),?_⟩
  refine⟨_,rfl,i,rfl,_,rfl,iteT ?_⟩
  refine⟨_,rfl,_,rfl,_,_,rfl,rfl,_,rfl,?_⟩
  refine ite2 (fun c=>?_) (fun c=>?_)
  ·refine⟨_,rfl,_,_,rfl,rfl,?_⟩
   rw[c] at k
   exact k
  ·rw[show decide (a<=i)=false by simpa using c] at k
   exact k
def okc(c:Nat):Bool:=decide (97<=c)&&decide (c<=122)
def nameB(x:Str):Bool:=decide (1<=x.length)&&decide (x.length<=8)&&x.cps.toList.all okc
theorem scName:FnScope ["thing"] ["thing"] (defScope sName):=⟨rfl,rfl,rfl,by decide +kernel,rfl,by decide +kernel,by decide +kernel⟩
def spName:Sp:=fun vs H Q _=>∃x:Str,vs=[.str x]/\x.length<=100000/\∀H',Same H H'->Q (.bl (nameB x)) H'
theorem jo_{c:Nat}:(!decide ((⟨#[c]⟩:Str).cps.toList<("a":Str).cps.toList))=decide (97<=c):=by
 have e:("a":Str).cps.toList=[97]:=by decide +kernel
 rw[e]
 show (!decide ([c] < [97]))=decide (97<=c)
 by_cases h:97<=c
 ·have:¬[c] < [97]:=by simp[List.cons_lt_cons_iff];omega
  simp[this,h]
 ·have:[c] < [97]:=by simp[List.cons_lt_cons_iff];omega
  simp[this,h]
theorem il_{c:Nat}:(!decide (("z":Str).cps.toList<(⟨#[c]⟩:Str).cps.toList))=decide (c<=122):=by
 have e:("z":Str).cps.toList=[122]:=by decide +kernel
 rw[e]
 show (!decide ([122] < [c]))=decide (c<=122)
 by_cases h:c<=122
 ·have:¬[122] < [c]:=by simp[List.cons_lt_cons_iff];omega
  simp[this,h]
 ·have:[122] < [c]:=by simp[List.cons_lt_cons_iff];omega
  simp[this,h]
theorem jd_{f:Addr}{fd:FuncData}(F:Fun K "is_name" "is_name" sName f fd)(B:Bi mg){t8:Tok}(m8:mg "MOST_LETTERS"=some (.int 8 t8)):FnOk P w K mg base CX0 1 f fd ["thing"] spName:=by
 refine F.ok scName (fun vs H Q E h=>?_) (fun cdv A outer s H vs Q E hr h=>?_)
 ·obtain⟨x,rfl,_⟩:=h
  rfl
 ·obtain⟨x,rfl,hz,k⟩:=h
  have sz:=sizeLine_eq
  refine⟨_,a2_ (ak_ (f0_ (av_ (ax_ (a8_ ap_ (by rfl) B.isi PyProof.Rows.Boot.«isinstance» (a0_ (pv 0) (a0_ (aA_ (v:=.ty "str") (by rfl) B.str PyProof.Rows.Boot.«str» rfl) a3_)))))
    (d5_ (av_ (eH_ dw_ dw_ a6_ (a8_ e1_ (by rfl) B.len PySem.boot_len (a0_ (pv 0) a3_)) (aK_ (v:=.int 8) (by rfl) m8 ⟨t8,rfl⟩))))).pt (a4_ (aa_ bu_)) ac_)
   (a4_ (aa_ (a8_ (h8_ rfl) (by rfl) B.all PyProof.Rows.Boot.«all» (a0_
    (aP_ ["letter"] 1 [] (jB_ (pv 0)) (fun fp s H=>ae_ (i:=0) (show (["letter"]:List Str).Nodup by decide +kernel) rfl (Or.inl rfl)) (fun fp s H=>aV_) (fun fp s H=>dq_ dX_ dX_ a9_ (pv 0) a9_)) a3_)))),?_⟩
  refine⟨_,rfl,_,_,_,_,rfl,.str x,rfl,_,rfl,?_⟩
  refine iteF ?_
  refine⟨_,rfl,x,rfl,by omega,_,_,rfl,rfl,_,rfl,?_⟩
  have fin:(decide (1<=x.length)&&decide (x.length<=8))=false->∀H',Same H H'->Q (.bl false) H':=fun e H' sm=>by
   have:=k H' sm
   rwa [show nameB x=false by unfold nameB;rw[e];rfl] at this
  refine ite2 (fun c=>?_) (fun c=>?_)
  ·have c1:1<=x.length:=by
    have:(1:Int)<=(x.length:Int):=by simpa using c
    omega
   refine⟨_,_,rfl,rfl,_,rfl,?_⟩
   refine ite2 (fun c2=>?_) (fun c2=>?_)
   ·-- too long
    have c3:¬x.length<=8:=by
     have:¬((x.length:Int)<=8):=by simpa using c2
     omega
    exact fin (by rw[decide_eq_false c3,Bool.and_false]) H (Same.refl H)
   ·have c3:x.length<=8:=by
     have:(x.length:Int)<=8:=by simpa using c2
     omega
    refine⟨_,rfl,x,rfl,fun D hD=>?_⟩
    refine di_ (own:=1) (fv:=[]) rfl gok1 x.cps.size (fun i out H'=>H'=upd H D (.lst out)/\out=((x.cps.toList.take i).map okc).map V.bl) ⟨rfl,by simp⟩ (fun out H' ⟨e1,e2⟩=>?_) (fun i out H' hi ⟨e1,e2⟩=>?_)
    ·refine⟨Nat.le_refl _,D,x.cps.toList.map okc,rfl,.of ?_,?_⟩
     ·rw[e1,a1_,e2,List.take_of_length_le (by simp)]
     ·have:=k H' (by rw[e1];exact Same.new hD)
      rwa [show nameB x=(x.cps.toList.map okc).all id by unfold nameB;rw[decide_eq_true c1,decide_eq_true c3,List.all_map];rfl] at this
    ·refine⟨hi,fun v H2 y=>?_⟩
     obtain⟨eH,c,hc,rfl⟩:=y
     subst eH
     refine⟨_,rfl,rfl,fun Nx hN=>yesT ?_⟩
     have lo:out.length<sizeLine:=by
      rw[e2]
      have hs:x.length=x.cps.size:=rfl
      simp only[List.length_map,List.length_take,Array.length_toList]
      omega
     have nx:Nx (upd H2 D (.lst (out++[V.bl (okc c)]))):=hN (out++[V.bl (okc c)]) _ ⟨by rw[e1,e7_],by
      rw[e2,List.take_add_one]
      simp[hc]⟩
     have atD:H2 D=some (.lst out):=by rw[e1,a1_]
     refine⟨_,rfl,_,_,rfl,rfl,_,rfl,?_⟩
     rw[jo_]
     refine ite2 (fun c2=>?_) (fun c2=>?_)
     ·refine⟨_,_,rfl,rfl,out,atD,lo,?_⟩
      rw[il_]
      rwa [show okc c=decide (c<=122) by unfold okc;rw[c2];rfl] at nx
     ·refine⟨out,atD,lo,?_⟩
      rwa [show okc c=false by unfold okc;rw[show decide (97<=c)=false by simpa using c2];rfl] at nx
  ·have c1:¬1<=x.length:=by
    have:¬((1:Int)<=(x.length:Int)):=by simpa using c
    omega
   exact⟨_,rfl,iteT (fin (by rw[decide_eq_false c1];rfl) H (Same.refl H))⟩
end
end Ev
set_option Elab.async false
set_option linter.all false
set_option maxRecDepth 100000
namespace Ev
open PySem L2
def kT(t:Str × Str):List Key:=[.inr t.1,.inr t.2]
def goodT(t:Str × Str):Prop:=nameB t.1=true/\nameB t.2=true/\t.1≠t.2
theorem bQ_{x:Str}(h:nameB x=true):x.length<=8:=by
 unfold nameB at h
 simp only[Bool.and_eq_true,decide_eq_true_eq] at h
 exact h.1.2
theorem hpT{H:Hp}{p:Addr}{t:Str × Str}(h:H p=some (.tup ((kT t).map kV))):H p=some (.tup [.str t.1,.str t.2]):=h
section
variable{P:Program}{w:World}{K:PySem.W.Frag}{mg:Str->Option Value}{base:Heap}
theorem scPair:FnScope ["thing"] ["thing"] (defScope sPair):=⟨rfl,rfl,rfl,by decide +kernel,rfl,by decide +kernel,by decide +kernel⟩
def spPair:Sp:=fun vs H Q _=>∃(p:Addr) (a b:Str),vs=[.ref p]/\H p=some (.tup [.str a,.str b])/\a.length<=100000/\b.length<=100000/\∀H',Same H H'->Q (.bl (nameB a&&nameB b&&!decide (a=b))) H'
theorem is_{f:Addr}{fd:FuncData}(F:Fun K "is_pair_of_names" "is_pair_of_names" sPair f fd)(B:Bi mg)(cN:Cal P w K mg base 1 "is_name" ["thing"] spName):FnOk P w K mg base CX0 2 f fd ["thing"] spPair:=by
 refine F.ok scPair (fun vs H Q E h=>?_) (fun cdv A outer s H vs Q E hr h=>?_)
 ·obtain⟨p,a,b,rfl,_⟩:=h
  rfl
 ·obtain⟨p,a,b,rfl,hp,la,lb,k⟩:=h
  refine⟨_,a2_ (ak_ (f0_ (av_ (ax_ (a8_ ap_ (by rfl) B.isi PyProof.Rows.Boot.«isinstance» (a0_ (pv 0) (a0_ (aA_ (v:=.ty "tuple") (by rfl) B.tuple PyProof.Rows.Boot.«tuple» rfl) a3_)))))
    (d5_ (am_ cu_ (a8_ ai_ (by rfl) B.len PySem.boot_len (a0_ (pv 0) a3_)) a6_ (nomark _)))).pt (a4_ (aa_ bu_)) ac_)
   (a4_ (aa_ (aX_ (ag_ cN hr (a0_ (as_ ar_ (pv 0) a6_ (fun _ _=>rfl)) a3_)) (aX_ (ag_ cN hr (a0_ (as_ ar_ (pv 0) a6_ (fun _ _=>rfl)) a3_))
    (aO_ (aR_ cu_ (as_ ar_ (pv 0) a6_ (fun _ _=>rfl)) (as_ ar_ (pv 0) a6_ (fun _ _=>rfl)) (nomark _))))))),?_⟩
  refine⟨_,rfl,_,_,_,_,rfl,.tup hp,rfl,_,rfl,iteF ?_⟩
  refine⟨_,rfl,p,_,rfl,.inr (.of hp),rfl,_,rfl,?_⟩
  refine iteNS (show V.int ((2:Nat):Int)=V.int 2 from rfl) ?_
  refine⟨_,rfl,p,_,_,_,rfl,rfl,.of hp,rfl,a,rfl,la,fun H1 s1=>⟨_,rfl,?_⟩⟩
  have hp1:=s1 _ _ hp
  refine ite2 (fun c=>?_) (fun c=>?_)
  ·refine⟨_,rfl,p,_,_,_,rfl,rfl,.of hp1,rfl,b,rfl,lb,fun H2 s2=>⟨_,rfl,?_⟩⟩
   have hp2:=s2 _ _ hp1
   have kk:=k H2 (s1.trans s2)
   refine ite2 (fun c2=>?_) (fun c2=>?_)
   ·refine⟨_,rfl,p,_,_,_,rfl,rfl,.of hp2,rfl,_,rfl,p,_,_,_,rfl,rfl,.of hp2,rfl,rfl,?_⟩
    rw[c,c2] at kk
    have e:decide (V.str a=V.str b)=decide (a=b):=by
     by_cases z:a=b
     ·simp[z]
     ·simp[z]
    show Q (.bl (!decide (V.str a=V.str b))) H2
    rw[e]
    exact kk
   ·rw[c,show nameB b=false by simpa using c2] at kk
    exact kk
  ·have kk:=k H1 s1
   rw[show nameB a=false by simpa using c] at kk
   exact kk
theorem scSorted:FnScope ["ties","found","pair","tie"] ["ties"] (defScope sSorted):=⟨rfl,rfl,rfl,by decide +kernel,rfl,by decide +kernel,by decide +kernel⟩
def spSorted(K:PySem.W.Frag):Sp:=fun vs H Q _=>∃(l:Addr) (ys:List V) (ts:List (Str × Str)),vs=[.ref l]/\H l=some (.lst ys)/\TupsAt K H ys (ts.map kT)/\(∀t∈ts,goodT t)/\(ts.map fun t=>kT (ord2 t.1 t.2)).Nodup/\ts.length<64 /\
 ∀l' zs H',Same H H'->H l'=none->H' l'=some (.lst zs)->TupsAt K H' zs (sortKs (ts.map fun t=>kT (ord2 t.1 t.2)))->Q (.ref l') H'
theorem bd_{α β γ:Type}{F:α->γ->Prop}{g:β->γ}{ys:List α}{ts:List β}(t:Paired F ys (ts.map g)){i:Nat}{y:α}(h:ys[i]? = some y):∃x,ts[i]? = some x/\F y (g x):=by
 have hi:i<ys.length:=(List.getElem?_eq_some_iff.mp h).1
 have hl:=Paired.length t
 rw[List.length_map] at hl
 have:=aS_ t i hi (by rw[List.length_map];omega)
 rw[List.getElem_map] at this
 refine⟨ts[i],List.getElem?_eq_getElem (by omega),?_⟩
 rw[(List.getElem?_eq_some_iff.mp h).2] at this
 exact this
theorem aB_{κ:Type}[DecidableEq κ]{kvs:List (κ × V)}{k:κ}(h:k∉kvs.map (·.1)):valV kvs k=none:=by
 cases e:valV kvs k with
 |none=>rfl
 |some v=>exact absurd (j8_ e) h
theorem aD_{α β:Type}(g:α->β){ts:List α}{i:Nat}{x:α}(h:ts[i]? = some x):(ts.take (i+1)).map g=(ts.take i).map g++[g x]:=by
 rw[List.take_add_one,h,List.map_append]
 rfl
theorem b8_{α β:Type}{g:α->β}{ts:List α}{i:Nat}{x:α}(h:(ts.map g).Nodup)(hx:ts[i]? = some x):g x∉(ts.take i).map g:=by
 intro m
 have hi:i<ts.length:=(List.getElem?_eq_some_iff.mp hx).1
 obtain⟨y,hy,e⟩:=List.mem_map.mp m
 obtain⟨j,hj,e2⟩:=List.getElem_of_mem hy
 rw[List.length_take] at hj
 rw[List.getElem_take] at e2
 rw[List.nodup_iff_pairwise_ne,List.pairwise_map,List.pairwise_iff_getElem] at h
 refine h j i (by omega) hi (by omega) ?_
 rw[e2,e,(List.getElem?_eq_some_iff.mp hx).2]
theorem gt_{f:Addr}{fd:FuncData}(F:Fun K "sorted_ties" "sorted_ties" sSorted f fd)(B:Bi mg)(cP:Cal P w K mg base 2 "is_pair_of_names" ["thing"] spPair)(cL:Cal P w K mg base 1 "lesser_first" ["one","other"] spLesser):FnOk P w K mg base CX0 3 f fd ["ties"] (spSorted K):=by
 refine F.ok scSorted (fun vs H Q E h=>?_) (fun cdv A outer s H vs Q E hr h=>?_)
 ·obtain⟨l,ys,ts,rfl,_⟩:=h
  rfl
 ·obtain⟨l,ys,ts,rfl,hl,tu,good,nd,h64,k⟩:=h
  have hu:=bk_ hr
  have hr1:Room 1 _:=hr.mono (by decide)
  have sz:=sizeLine_eq
  refine⟨_,a2_ (ak_ (av_ (ax_ (a8_ ap_ (by rfl) B.isi PyProof.Rows.Boot.«isinstance» (a0_ (pv 0) (a0_ (aA_ (v:=.ty "list") (by rfl) B.list PyProof.Rows.Boot.«list» rfl) a3_))))) ad_ ac_)
   (a2_ (ab_ (i:=1) scSorted.nd rfl (Or.inl rfl) hh_)
   (a2_ (b1_ PassesOwn.never rfl (au_ (pv 0)) (ae_ (i:=2) scSorted.nd rfl (Or.inl rfl))
    (a2_ (ak_ (av_ (ax_ (ag_ cP hr (a0_ (pv 2) a3_)))) ad_ ac_)
    (a2_ (ab_ (i:=3) scSorted.nd rfl (Or.inl rfl) (ag_ cL hr1 (a0_ (as_ ar_ (pv 2) a6_ (fun _ _=>rfl)) (a0_ (as_ ar_ (pv 2) a6_ (fun _ _=>rfl)) a3_))))
    (a2_ (ak_ (c7_ (d0_ hu (pv 3) (pv 1))) ad_ ac_)
    (a4_ (bG_ hu (pv 1) (pv 3) bu_ rfl))))))
   (a4_ (aa_ (a8_ (es_ rfl) (by rfl) B.sorted PyProof.Rows.Boot.«sorted» (a0_ (pv 1) a3_)))))),?_⟩
  refine⟨_,rfl,_,_,_,_,rfl,.lst hl,rfl,_,rfl,iteF ?_⟩
  intro d hd
  have s0:Same H (upd H d (.dT [])):=Same.new hd
  refine⟨_,rfl,l,rfl,⟨_,.of (s0 _ _ hl)⟩,aW_ (K:=K) (a:=l) (xs:=ys) (fun i σ H2=>∃(v3 v4:Option V),σ=[some (.ref l),some (.ref d),v3,v4]/\Same H H2/\H2 d=some (.dT ((ts.take i).map fun t=>(kT (ord2 t.1 t.2),V.bl true)))) ⟨none,none,rfl,s0,a1_⟩ (fun i σ H2 _ ⟨_,_,_,s2,_⟩=>.of (s2 _ _ hl)) ?_ ?_⟩
  ·rintro i y σ H2 hy ⟨v3,v4,rfl,s2,hd2⟩
   obtain⟨t,ht,a,rfl,ha⟩:=bd_ tu hy
   obtain⟨g1,g2,g3⟩:=good t (List.mem_of_getElem? ht)
   have ha2:=s2 _ _ (hpT ha)
   refine⟨_,rfl,a,t.1,t.2,rfl,ha2,by have:=bQ_ g1;omega,by have:=bQ_ g2;omega,fun H3 s3=>⟨_,rfl,?_⟩⟩
   have ha3:=s3 _ _ ha2
   have hd3:=s3 _ _ hd2
   rw[g1,g2,decide_eq_false g3]
   refine iteF ?_
   refine⟨_,rfl,a,_,_,_,rfl,rfl,.of ha3,rfl,_,rfl,a,_,_,_,rfl,rfl,.of ha3,rfl,t.1,t.2,rfl,fun b hb=>?_⟩
   have s4:Same H3 (upd H3 b (.tup [.str (ord2 t.1 t.2).1,.str (ord2 t.1 t.2).2])):=Same.new hb
   have hd4:=s4 _ _ hd3
   have hb4:upd H3 b (.tup [.str (ord2 t.1 t.2).1,.str (ord2 t.1 t.2).2]) b=some (.tup ((kT (ord2 t.1 t.2)).map kV)):=a1_
   have nov:valV ((ts.take i).map fun t=>(kT (ord2 t.1 t.2),V.bl true)) (kT (ord2 t.1 t.2))=none:=aB_ (by
    rw[List.map_map]
    exact b8_ (g:=fun t=>kT (ord2 t.1 t.2)) nd ht)
   refine⟨_,rfl,_,rfl,d,_,rfl,.t (k:=kT (ord2 t.1 t.2)) hd4 hb4,_,rfl,?_⟩
   rw[nov]
   refine iteF ?_
   refine⟨_,rfl,_,rfl,d,_,rfl,.t (k:=kT (ord2 t.1 t.2)) hd4 hb4 (by rw[List.length_map,List.length_take];omega),?_⟩
   refine⟨_,_,rfl,fun c o e=>?_,?_⟩
   ·rw[a5_ (a7_ e hd)]
    exact s4 _ _ (s3 _ _ (s2 _ _ e))
   ·rw[a1_,bA_ _ nov,aD_ _ ht]
  ·rintro σ H2 ⟨v3,v4,rfl,s2,hd2⟩
   have le:=Paired.length tu
   rw[List.length_map] at le
   rw[le,List.take_length] at hd2
   refine⟨_,rfl,d,_,[true,true],rfl,hd2,⟨by decide,fun k hk=>?_⟩,by rw[List.length_map];exact h64,fun l' zs hn tz=>?_⟩
   ·rw[List.map_map] at hk
    obtain⟨t,_,rfl⟩:=List.mem_map.mp hk
    rfl
   ·rw[List.map_map] at tz
    exact k l' zs _ (s2.trans (Same.new hn)) (s2.free hn) a1_ (tz.same (Same.new hn))
theorem scAnew:FnScope ["ties"] ["ties"] (defScope sAnew):=⟨rfl,rfl,rfl,by decide +kernel,rfl,by decide +kernel,by decide +kernel⟩
def spAnew(K:PySem.W.Frag):Sp:=fun vs H Q _=>∃(l:Addr) (ys:List V) (ts:List (Str × Str)),vs=[.ref l]/\H l=some (.lst ys)/\TupsAt K H ys (ts.map kT)/\ts.length<=1000 /\
 ∀l' zs H',Same H H'->H l'=none->H' l'=some (.lst zs)->TupsAt K H' zs (ts.map kT)->Q (.ref l') H'
theorem gl_{K:PySem.W.Frag}{H:Hp}{ys:List V}{ks:List (List Key)}{a:Addr}{k:List Key}(t:TupsAt K H ys ks)(h:H a=some (.tup (k.map kV))):TupsAt K H (ys++[.ref a]) (ks++[k]):=Paired.snoc t ⟨a,rfl,h⟩
theorem ay_{H H1:Hp}{D:Addr}{o:HO}(h:Same H H1)(hD:H D=none):Same H (upd H1 D o):=fun b u e=>by rw[a5_ (a7_ e hD)];exact h b u e
theorem hp_{K:PySem.W.Frag}{H:Hp}{ys:List V}{ks:List (List Key)}{D:Addr}{o:HO}{xs:List V}(t:TupsAt K H ys ks)(hD:H D=some (.lst xs)):TupsAt K (upd H D o) ys ks:=Paired.mapP t fun y k ⟨a,z,q⟩=>⟨a,z,by rw[a5_ (aQ_ q hD (by intro z;cases z))];exact q⟩
theorem iv_{f:Addr}{fd:FuncData}(F:Fun K "ties_anew" "ties_anew" sAnew f fd):FnOk P w K mg base CX0 1 f fd ["ties"] (spAnew K):=by
 refine F.ok scAnew (fun vs H Q E h=>?_) (fun cdv A outer s H vs Q E hr h=>?_)
 ·obtain⟨l,ys,ts,rfl,_⟩:=h
  rfl
 ·obtain⟨l,ys,ts,rfl,hl,tu,hz,k⟩:=h
  have sz:=sizeLine_eq
  refine⟨_,a4_ (aa_ (aP_ ["one","other"] 2 [] (au_ (pv 0)) (fun fp s H=>dp_ (n:=2) (aj_ (ae_ (i:=0) (show (["one","other"]:List Str).Nodup by decide +kernel) rfl (Or.inl rfl)) (aj_ (ae_ (i:=1) (show (["one","other"]:List Str).Nodup by decide +kernel) rfl (Or.inl rfl)) b3_)))
   (fun fp s H=>aV_) (fun fp s H=>aC_ (a0_ (pv 0) (a0_ (pv 1) a3_))))),?_⟩
  refine⟨_,rfl,l,rfl,⟨_,.of hl⟩,fun D hD=>?_⟩
  have le:=Paired.length tu
  rw[List.length_map] at le
  refine aE_ (own:=2) (fv:=[]) (xs:=ys) rfl gok2 (fun i out H'=>Same H H'/\H' D=some (.lst out)/\TupsAt K H' out ((ts.take i).map kT)) ⟨Same.new hD,a1_,.nil⟩ (fun i out H' _ ⟨sm,_,_⟩=>.of (sm _ _ hl)) (fun out H' ⟨sm,hd,tz⟩=>?_) (fun i x out H' hx ⟨sm,hd,tz⟩=>?_)
  ·rw[le,List.take_length] at tz
   exact k D out H' sm hD hd tz
  ·obtain⟨t,ht,a,rfl,ha⟩:=bd_ tu hx
   refine⟨_,⟨a,_,_,rfl,.of (sm _ _ (hpT ha)),rfl⟩,rfl,fun Nx hN=>yesT ?_⟩
   refine⟨_,rfl,_,rfl,by show 2<=sizeLine;decide,fun p hp=>⟨out,(Same.new hp) _ _ hd,?_,?_⟩⟩
   ·have:=Paired.length tz
    rw[List.length_map,List.length_take] at this
    omega
   ·have hp2:upd H' p (.tup [.str t.1,.str t.2]) p=some (.tup ((kT t).map kV)):=a1_
    refine hN (out++[.ref p]) _ ⟨ay_ (sm.trans (Same.new hp)) hD,a1_,?_⟩
    rw[aD_ _ ht]
    exact hp_ (gl_ (tz.same (Same.new hp)) hp2) ((Same.new hp) _ _ hd)
end
end Ev
set_option Elab.async false
set_option linter.all false
set_option maxRecDepth 100000
namespace Ev
open PySem L2
def kH(h:Str × Int):List Key:=[.inr h.1,.inl h.2]
def goodH(h:Str × Int):Prop:=nameB h.1=true/\1<=h.2/\h.2<=1000
def kvOf:List Key->Key × V
 |[k,v]=>(k,kV v)
 |_=>(.inl 0,.non)
def sortH(hs:List (Str × Int)):List (Key × V):=(sortKs (hs.map kH)).map kvOf
theorem hpH{H:Hp}{p:Addr}{t:Str × Int}(h:H p=some (.tup ((kH t).map kV))):H p=some (.tup [.str t.1,.int t.2]):=h
theorem cL_:∀(more kvs:List (Key × V)),(kvs.map (·.1)++more.map (·.1)).Nodup->mergeK kvs more=kvs++more
 |[],kvs,_=>by
  show kvs=kvs++[]
  rw[List.append_nil]
 |p::more,kvs,h=>by
  show mergeK (putK kvs p.1 p.2) more=kvs++p::more
  have hn:valV kvs p.1=none:=aB_ fun m=>by
   rw[List.map_cons,List.nodup_append] at h
   exact h.2.2 p.1 m p.1 List.mem_cons_self rfl
  rw[bA_ _ hn,cL_ more (kvs++[(p.1,p.2)])]
  ·simp
  ·simpa using h
theorem aU_{more:List (Key × V)}(h:(more.map (·.1)).Nodup):mergeK [] more=more:=by
 rw[cL_ more [] (by simpa using h)]
 rfl
theorem cW_(hs:List (Str × Int)):((sortH hs).map (·.1)).Perm (hs.map fun h=>Sum.inr h.1):=by
 unfold sortH
 rw[List.map_map]
 have p:=(al_ (hs.map kH)).map fun k=>(kvOf k).1
 rw[List.map_map] at p
 exact p
theorem cn_{hs:List (Str × Int)}(h:(hs.map (·.1)).Nodup):((sortH hs).map (·.1)).Nodup:=by
 refine (cW_ hs).nodup_iff.mpr ?_
 have:(hs.map fun h=>(Sum.inr h.1:Key))=(hs.map (·.1)).map Sum.inr:=by rw[List.map_map];rfl
 rw[this,List.nodup_iff_pairwise_ne,List.pairwise_map]
 exact h.imp fun n e=>n (Sum.inr.inj e)
theorem roomU{k:Nat}{A:Around}(hr:Room k A)(n:Nat)(h:n+1<=64:=by decide):A.units+n+1<cLine:=by
 have:=hr.units
 omega
section
variable{P:Program}{w:World}{K:PySem.W.Frag}{mg:Str->Option Value}{base:Heap}
theorem scHand:FnScope ["thing"] ["thing"] (defScope sHand):=⟨rfl,rfl,rfl,by decide +kernel,rfl,by decide +kernel,by decide +kernel⟩
def spHand:Sp:=fun vs H Q _=>∃(p:Addr) (a:Str) (n:Int),vs=[.ref p]/\H p=some (.tup [.str a,.int n])/\a.length<=100000/\∀H',Same H H'->Q (.bl (nameB a&&(decide (1<=n)&&decide (n<=1000)))) H'
theorem jh_{f:Addr}{fd:FuncData}(F:Fun K "is_hand_with_strength" "is_hand_with_strength" sHand f fd)(B:Bi mg)(cN:Cal P w K mg base 1 "is_name" ["thing"] spName)(cW:Cal P w K mg base 2 "is_whole_within" ["thing","least","most"] spWhole){tk:Tok}(mS:mg "MOST_STRENGTH"=some (.int 1000 tk)) :
  FnOk P w K mg base CX0 3 f fd ["thing"] spHand:=by
 refine F.ok scHand (fun vs H Q E h=>?_) (fun cdv A outer s H vs Q E hr h=>?_)
 ·obtain⟨p,a,b,rfl,_⟩:=h
  rfl
 ·obtain⟨p,a,n,rfl,hp,la,k⟩:=h
  have hr1:Room 1 _:=hr.mono (by decide)
  refine⟨_,a2_ (ak_ (f0_ (av_ (ax_ (a8_ ap_ (by rfl) B.isi PyProof.Rows.Boot.«isinstance» (a0_ (pv 0) (a0_ (aA_ (v:=.ty "tuple") (by rfl) B.tuple PyProof.Rows.Boot.«tuple» rfl) a3_)))))
    (d5_ (am_ cu_ (a8_ ai_ (by rfl) B.len PySem.boot_len (a0_ (pv 0) a3_)) a6_ (nomark _)))).pt (a4_ (aa_ bu_)) ac_)
   (a4_ (aa_ (aX_ (ag_ cN hr1 (a0_ (as_ ar_ (pv 0) a6_ (fun _ _=>rfl)) a3_)) (aO_ (ag_ cW hr (a0_ (as_ ar_ (pv 0) a6_ (fun _ _=>rfl)) (a0_ a6_ (a0_ (aK_ (v:=.int 1000) (by rfl) mS ⟨tk,rfl⟩) a3_)))))))),?_⟩
  refine⟨_,rfl,_,_,_,_,rfl,.tup hp,rfl,_,rfl,iteF ?_⟩
  refine⟨_,rfl,p,_,rfl,.inr (.of hp),rfl,_,rfl,?_⟩
  refine iteNS (show V.int ((2:Nat):Int)=V.int 2 from rfl) ?_
  refine⟨_,rfl,p,_,_,_,rfl,rfl,.of hp,rfl,a,rfl,la,fun H1 s1=>⟨_,rfl,?_⟩⟩
  have hp1:=s1 _ _ hp
  have kk:=k H1 s1
  refine ite2 (fun c=>?_) (fun c=>?_)
  ·refine⟨_,rfl,p,_,_,_,rfl,rfl,.of hp1,rfl,n,1,1000,rfl,?_⟩
   rw[c] at kk
   exact kk
  ·rw[show nameB a=false by simpa using c] at kk
   exact kk
theorem scStr:FnScope ["hands","found","hand"] ["hands"] (defScope sStr):=⟨rfl,rfl,rfl,by decide +kernel,rfl,by decide +kernel,by decide +kernel⟩
def spStr(K:PySem.W.Frag):Sp:=fun vs H Q _=>∃(l:Addr) (ys:List V) (hs:List (Str × Int)),vs=[.ref l]/\H l=some (.lst ys)/\TupsAt K H ys (hs.map kH)/\(∀h∈hs,goodH h)/\(hs.map (·.1)).Nodup/\1<=hs.length/\hs.length<=8 /\
 ∀d H',Same H H'->H d=none->H' d=some (.dK (sortH hs))->Q (.ref d) H'
theorem jZ_{f:Addr}{fd:FuncData}(F:Fun K "checked_strengths" "checked_strengths" sStr f fd)(B:Bi mg)(cH:Cal P w K mg base 3 "is_hand_with_strength" ["thing"] spHand){tk:Tok}(mH:mg "MOST_HANDS"=some (.int 8 tk)):FnOk P w K mg base CX0 4 f fd ["hands"] (spStr K):=by
 refine F.ok scStr (fun vs H Q E h=>?_) (fun cdv A outer s H vs Q E hr h=>?_)
 ·obtain⟨l,ys,hs,rfl,_⟩:=h
  rfl
 ·obtain⟨l,ys,hs,rfl,hl,tu,good,nd,h1,h8,k⟩:=h
  have hu:=bk_ hr
  have sz:=sizeLine_eq
  have le:=Paired.length tu
  rw[List.length_map] at le
  refine⟨_,a2_ (ak_ (f0_ (av_ (ax_ (a8_ ap_ (by rfl) B.isi PyProof.Rows.Boot.«isinstance» (a0_ (pv 0) (a0_ (aA_ (v:=.ty "list") (by rfl) B.list PyProof.Rows.Boot.«list» rfl) a3_)))))
    (d5_ (av_ (eH_ dw_ dw_ a6_ (a8_ ai_ (by rfl) B.len PySem.boot_len (a0_ (pv 0) a3_)) (aK_ (v:=.int 8) (by rfl) mH ⟨tk,rfl⟩))))).pt ad_ ac_)
   (a2_ (ab_ (i:=1) scStr.nd rfl (Or.inl rfl) cf_)
   (a2_ (b1_ PassesOwn.never rfl (au_ (pv 0)) (ae_ (i:=2) scStr.nd rfl (Or.inl rfl))
    (a2_ (ak_ (av_ (ax_ (ag_ cH hr (a0_ (pv 2) a3_)))) ad_ ac_)
    (a2_ (ak_ (c7_ (d0_ hu (as_ ar_ (pv 2) a6_ (fun _ _=>rfl)) (pv 1))) ad_ ac_)
    (a4_ (bG_ hu (pv 1) (as_ ar_ (pv 2) a6_ (fun _ _=>rfl)) (as_ ar_ (pv 2) a6_ (fun _ _=>rfl)) rfl)))))
   (a4_ (aa_ (aJ_ (aT_ rfl) (by rfl) B.dict PyProof.Rows.Boot.«dict» (a0_ (a8_ (f2_ rfl) (by rfl) B.sorted PyProof.Rows.Boot.«sorted» (a0_ (bz_ (pv 1)) a3_)) a3_)))))),?_⟩
  refine⟨_,rfl,_,_,_,_,rfl,.lst hl,rfl,_,rfl,iteF ?_⟩
  refine⟨_,rfl,l,_,rfl,.inl (.of hl),_,_,rfl,rfl,_,rfl,?_⟩
  rw[decide_eq_true (show (1:Int)<=(ys.length:Int) by omega)]
  refine iteT ⟨_,_,rfl,rfl,_,rfl,?_⟩
  rw[decide_eq_true (show (ys.length:Int)<=8 by omega)]
  refine iteF ?_
  intro d hd
  have s0:Same H (upd H d (.dK [])):=Same.new hd
  refine⟨_,rfl,l,rfl,⟨_,.of (s0 _ _ hl)⟩,aW_ (K:=K) (a:=l) (xs:=ys) (fun i σ H2=>∃(v2:Option V),σ=[some (.ref l),some (.ref d),v2]/\Same H H2/\H2 d=some (.dK ((hs.take i).map fun h=>(Sum.inr h.1,V.int h.2)))) ⟨none,rfl,s0,a1_⟩ (fun i σ H2 _ ⟨_,_,s2,_⟩=>.of (s2 _ _ hl)) ?_ ?_⟩
  ·rintro i y σ H2 hy ⟨v2,rfl,s2,hd2⟩
   obtain⟨t,ht,a,rfl,ha⟩:=bd_ tu hy
   obtain⟨g1,g2,g3⟩:=good t (List.mem_of_getElem? ht)
   have ha2:=s2 _ _ (hpH ha)
   refine⟨_,rfl,a,t.1,t.2,rfl,ha2,by have:=bQ_ g1;omega,fun H3 s3=>⟨_,rfl,?_⟩⟩
   have ha3:=s3 _ _ ha2
   have hd3:=s3 _ _ hd2
   rw[g1,decide_eq_true g2,decide_eq_true g3]
   refine iteF ?_
   have nov:valV ((hs.take i).map fun h=>((Sum.inr h.1:Key),V.int h.2)) (Sum.inr t.1)=none:=aB_ (by
    rw[List.map_map]
    have q:=b8_ (g:=fun h:Str × Int=>h.1) nd ht
    intro m
    obtain⟨h,hh,e⟩:=List.mem_map.mp m
    exact q (List.mem_map.mpr ⟨h,hh,Sum.inr.inj e⟩))
   refine⟨_,rfl,a,_,_,_,rfl,rfl,.of ha3,rfl,_,rfl,d,_,rfl,.k (k:=Sum.inr t.1) hd3,_,rfl,?_⟩
   rw[nov]
   refine iteF ?_
   refine⟨_,rfl,a,_,_,_,rfl,rfl,.of ha3,rfl,_,rfl,_,rfl,a,_,_,_,rfl,rfl,.of ha3,rfl,d,_,rfl,.k (k:=Sum.inr t.1) hd3 (by rw[List.length_map,List.length_take];omega),?_⟩
   refine⟨_,rfl,fun c o e=>?_,?_⟩
   ·rw[a5_ (a7_ e hd)]
    exact s3 _ _ (s2 _ _ e)
   ·rw[a1_,bA_ _ nov,aD_ _ ht]
  ·rintro σ H2 ⟨v2,rfl,s2,hd2⟩
   rw[le,List.take_length] at hd2
   refine⟨_,rfl,d,_,rfl,hd2,fun v hv=>?_⟩
   have s3:Same H2 (upd H2 v (itemsV v d)):=Same.new hv
   refine⟨v,d,_,hs.map fun h=>(Sum.inr h.1,Sum.inl h.2),[true,false],rfl,a1_,s3 _ _ hd2,by rw[List.map_map];rfl,⟨by decide,fun q hq=>?_⟩,by rw[List.length_map];omega,fun l' H4 zs s4 hn tz=>?_⟩
   ·rw[List.map_map] at hq
    obtain⟨h,_,rfl⟩:=List.mem_map.mp hq
    rfl
   ·have ez:((hs.map fun h=>((Sum.inr h.1:Key),(Sum.inl h.2:Key))).map fun k=>[k.1,k.2])=hs.map kH:=by rw[List.map_map];rfl
    rw[ez] at tz
    have pz:PairsAt K (upd H4 l' (.lst zs)) zs (sortH hs):=by
     have shape:∀k∈sortKs (hs.map kH),∃a b,k=[a,b]:=fun k hk=>by
      obtain⟨h,_,e⟩:=List.mem_map.mp ((al_ _).mem_iff.mp hk)
      exact⟨_,_,e.symm⟩
     have gen:∀(ks:List (List Key)) (zs:List V),(∀k∈ks,∃a b,k=[a,b])->TupsAt K (upd H4 l' (.lst zs)) zs ks->PairsAt K (upd H4 l' (.lst zs)) zs (ks.map kvOf):=fun ks=>by
      intro zs
      generalize upd H4 l' (.lst zs)=HH
      intro sh t
      induction t with
      |nil=>exact .nil
      |cons h t ih=>
       obtain⟨a,b,rfl⟩:=sh _ List.mem_cons_self
       exact .cons h (ih fun k hk=>sh k (List.mem_cons_of_mem _ hk))
     exact gen _ _ shape (tz.same (Same.new hn))
    refine⟨l',zs,_,rfl,a1_,pz,?_,fun d' hd'=>?_⟩
    ·have:=(cW_ hs).length_eq
     simp only[List.length_map] at this
     omega
    ·rw[aU_ (cn_ nd)]
     have sAll:Same H (upd H4 l' (.lst zs)):=(s2.trans (s3.trans s4)).trans (Same.new hn)
     exact k d' _ (sAll.trans (Same.new hd')) (sAll.free hd') a1_
theorem scTies:FnScope ["ties","strengths","found","one","other"] ["ties","strengths"] (defScope sTies):=⟨rfl,rfl,rfl,by decide +kernel,rfl,by decide +kernel,by decide +kernel⟩
def spTies(K:PySem.W.Frag):Sp:=fun vs H Q _=>∃(l d:Addr) (ys:List V) (ts:List (Str × Str)) (kvs:List (Key × V)),vs=[.ref l,.ref d]/\H l=some (.lst ys)/\TupsAt K H ys (ts.map kT)/\(∀t∈ts,goodT t)/\(ts.map fun t=>kT (ord2 t.1 t.2)).Nodup/\ts.length<64 /\
 H d=some (.dK kvs)/\(∀t∈ts,(valV kvs (Sum.inr t.1)).isSome=true/\(valV kvs (Sum.inr t.2)).isSome=true) /\
 ∀l' zs H',Same H H'->H l'=none->H' l'=some (.lst zs)->TupsAt K H' zs (sortKs (ts.map fun t=>kT (ord2 t.1 t.2)))->Q (.ref l') H'
theorem ep_(a b:Str):ord2 a b=(a,b)∨ord2 a b=(b,a):=by
 unfold ord2
 split
 ·exact .inl rfl
 ·exact .inr rfl
theorem iW_{f:Addr}{fd:FuncData}(F:Fun K "checked_ties" "checked_ties" sTies f fd)(B:Bi mg)(cS:Cal P w K mg base 3 "sorted_ties" ["ties"] (spSorted K)):FnOk P w K mg base CX0 4 f fd ["ties","strengths"] (spTies K):=by
 refine F.ok scTies (fun vs H Q E h=>?_) (fun cdv A outer s H vs Q E hr h=>?_)
 ·obtain⟨l,d,ys,ts,kvs,rfl,_⟩:=h
  rfl
 ·obtain⟨l,d,ys,ts,kvs,rfl,hl,tu,good,nd,h64,hd,there,k⟩:=h
  have hu:=bk_ hr
  refine⟨_,a2_ (ab_ (i:=2) scTies.nd rfl (Or.inl rfl) (ag_ cS hr (a0_ (pv 0) a3_)))
   (a2_ (ak_ (c7_ (g6_ (pv 2))) ad_ ac_)
   (a2_ (b1_ PassesOwn.never rfl (au_ (pv 2)) (c5_ rfl (aj_ (ae_ (i:=3) scTies.nd rfl (Or.inl rfl)) (aj_ (ae_ (i:=4) scTies.nd rfl (Or.inl rfl)) b3_)))
    (a4_ (ak_ (f0_ (c7_ (dR_ hu (pv 3) (pv 1))) (d5_ (c7_ (dR_ hu (pv 4) (pv 1))))).pt ad_ ac_)))
   (a4_ (aa_ (pv 2))))),?_⟩
  refine⟨_,rfl,l,ys,ts,rfl,hl,tu,good,nd,h64,fun l' zs H1 s1 hf hl1 tz=>?_⟩
  refine⟨_,rfl,_,rfl,iteF ?_⟩
  refine⟨_,rfl,l',rfl,⟨_,.of hl1⟩,aW_ (K:=K) (a:=l') (xs:=zs) (fun i σ H2=>∃(v3 v4:Option V),σ=[some (.ref l),some (.ref d),some (.ref l'),v3,v4]/\H2=H1) ⟨none,none,rfl,rfl⟩ (fun i σ H2 _ ⟨_,_,_,e⟩=>by subst e;exact .of hl1) ?_ ?_⟩
  ·rintro i y σ H2 hy ⟨v3,v4,rfl,rfl⟩
   have ez:=Paired.length tz
   have hi:i<zs.length:=(List.getElem?_eq_some_iff.mp hy).1
   obtain⟨a,e,ha⟩:=aS_ tz i hi (by omega)
   rw[(List.getElem?_eq_some_iff.mp hy).2] at e
   subst e
   obtain⟨t,ht,e⟩:=List.mem_map.mp ((al_ _).mem_iff.mp (List.getElem_mem (show i<(sortKs (ts.map fun t=>kT (ord2 t.1 t.2))).length by omega)))
   rw[<- e] at ha
   obtain⟨t1,t2⟩:=there t ht
   have both:(valV kvs (Sum.inr (ord2 t.1 t.2).1)).isSome=true/\(valV kvs (Sum.inr (ord2 t.1 t.2).2)).isSome=true:=by
    rcases ep_ t.1 t.2 with q|q
    ·rw[q];exact⟨t1,t2⟩
    ·rw[q];exact⟨t2,t1⟩
   have hd1:=s1 _ _ hd
   refine⟨a,_,rfl,.of (hpT ha),rfl,_,_,rfl,_,_,rfl,rfl,?_⟩
   refine⟨_,rfl,_,rfl,d,_,rfl,.k (k:=Sum.inr (ord2 t.1 t.2).1) hd1,_,rfl,?_⟩
   rw[both.1]
   refine iteF ?_
   refine⟨_,rfl,_,rfl,d,_,rfl,.k (k:=Sum.inr (ord2 t.1 t.2).2) hd1,_,rfl,?_⟩
   rw[both.2]
   refine iteF ?_
   exact⟨_,_,rfl,rfl⟩
  ·rintro σ H2 ⟨v3,v4,rfl,rfl⟩
   exact⟨_,rfl,k l' zs _ s1 hf hl1 tz⟩
def near(ns:List Str)(ts:List (Str × Str))(n:Str):List Str:=ns.filter fun o=>decide (ord2 n o∈ts)
theorem scNear:FnScope ["names","ties","found","hand"] ["names","ties"] (defScope sNear):=⟨rfl,rfl,rfl,by decide +kernel,rfl,by decide +kernel,by decide +kernel⟩
def nearKV(ns:List Str)(as:List Addr):List (Key × V):=(ns.zip as).map fun p=>(Sum.inr p.1,V.ref p.2)
def spNear(K:PySem.W.Frag):Sp:=fun vs H Q _=>∃(l1 l2:Addr) (ns:List Str) (zs:List V) (ts:List (Str × Str)),vs=[.ref l1,.ref l2]/\H l1=some (.lst (ns.map V.str))/\H l2=some (.lst zs)/\TupsAt K H zs (ts.map kT)/\ns.Nodup/\ns.length<=1000/\l1≠l2 /\
 ∀d as H',Same H H'->H d=none->as.length=ns.length->H' d=some (.dK (nearKV ns as))->(∀(i:Nat) n a,ns[i]? = some n->as[i]? = some a->H a=none/\H' a=some (.lst ((near ns ts n).map V.str)))->Q (.ref d) H'
theorem fr_{K:PySem.W.Frag}{H:Hp}:∀{ts:List (Str × Str)} {zs:List V},TupsAt K H zs (ts.map kT)->Paired (r2 K rS rS H) zs ts
 |[],_,.nil=>.nil
 |t::ts,_,.cons ⟨a,e,h⟩ r=>.cons ⟨a,_,_,e,.of (hpT h),rfl,rfl⟩ (fr_ r)
theorem aw_{ns:List Str}{i:Nat}{x:V}(h:(ns.map V.str)[i]? = some x):∃n,ns[i]? = some n/\x=.str n:=by
 rw[List.getElem?_map] at h
 cases e:ns[i]? with
 |none=>rw[e] at h;cases h
 |some n=>rw[e] at h;exact⟨n,rfl,(Option.some.inj h).symm⟩
theorem cx_{α:Type}(p:α->Bool){l:List α}{i:Nat}{x:α}(h:l[i]? = some x):(l.take (i+1)).filter p=(l.take i).filter p++(if p x then [x] else []):=PySem.take_succ_filter p l i x h
theorem iT_{f:Addr}{fd:FuncData}(F:Fun K "neighbours_of_all" "neighbours_of_all" sNear f fd)(cL:Cal P w K mg base 1 "lesser_first" ["one","other"] spLesser):FnOk P w K mg base CX0 2 f fd ["names","ties"] (spNear K):=by
 refine F.ok scNear (fun vs H Q E h=>?_) (fun cdv A outer s H vs Q E hr h=>?_)
 ·obtain⟨l1,l2,ns,zs,ts,rfl,_⟩:=h
  rfl
 ·obtain⟨l1,l2,ns,zs,ts,rfl,hl1,hl2,tz,nd,h8,hne,k⟩:=h
  have hu:=bk_ hr
  have hu3:=hr.units
  have sz:=sizeLine_eq
  refine⟨_,a2_ (ab_ (i:=2) scNear.nd rfl (Or.inl rfl) cf_)
   (a2_ (b1_ PassesOwn.never rfl (au_ (pv 0)) (ae_ (i:=3) scNear.nd rfl (Or.inr rfl))
    (a4_ (bG_ hu (pv 2) (pv 3) (aP_ ["other","hand","ties"] 1 [3,1] (au_ (pv 0)) (fun fp s H=>ae_ (i:=0) (show (["other","hand","ties"]:List Str).Nodup by decide +kernel) rfl (Or.inl rfl))
     (fun fp s H=>fS_ (am_ (opK (K:=K) (fun K=>rInD K (r2 K rS rS) false) (i1_ (cmp2 cmpS cmpS) (roomU hr _))) (ag_ cL hr (a0_ (pv 1) (a0_ (pv 0) a3_))) (pv 2) (by with_unfolding_all rfl))) (fun fp s H=>pv 0)) rfl)))
   (a4_ (aa_ (pv 2)))),?_⟩
  intro d hd
  have s0:Same H (upd H d (.dK [])):=Same.new hd
  refine⟨_,rfl,l1,rfl,⟨_,.of (s0 _ _ hl1)⟩,aW_ (K:=K) (a:=l1) (xs:=ns.map V.str) (fun i σ H2=>∃(v3:Option V) (as:List Addr),σ=[some (.ref l1),some (.ref l2),some (.ref d),v3]/\Same H H2/\as.length=i/\H2 d=some (.dK (nearKV (ns.take i) as)) /\
   ∀(j:Nat) n a,ns[j]? = some n->as[j]? = some a->H a=none/\a≠d/\H2 a=some (.lst ((near ns ts n).map V.str))) ⟨none,[],rfl,s0,rfl,a1_,fun j n a _ e=>by simp at e⟩ (fun i σ H2 _ ⟨_,_,_,s2,_⟩=>.of (s2 _ _ hl1)) ?_ ?_⟩
  ·rintro i y σ H2 hy ⟨v3,as,rfl,s2,la,hd2,lists⟩
   obtain⟨n,hn,rfl⟩:=aw_ hy
   have hi:i<ns.length:=(List.getElem?_eq_some_iff.mp hn).1
   have lk:(nearKV (ns.take i) as).length=i:=by
    unfold nearKV
    rw[List.length_map,List.length_zip,List.length_take]
    omega
   refine⟨_,rfl,l1,rfl,⟨_,.of (s2 _ _ hl1)⟩,fun D hD=>?_⟩
   refine aE_ (own:=1) (fv:=[some (.str n),some (.ref l2)]) (xs:=ns.map V.str) rfl gok1 (fun j out H'=>Same H2 H'/\H' D=some (.lst out)/\out=((ns.take j).filter fun o=>decide (ord2 n o∈ts)).map V.str) ⟨Same.new hD,a1_,rfl⟩ (fun j out H' _ ⟨sm,_,_⟩=>.of (sm _ _ (s2 _ _ hl1))) (fun out H' ⟨sm,hD',eo⟩=>?_) (fun j x out H' hx ⟨sm,hD',eo⟩=>?_)
   ·rw[List.length_map,List.take_length] at eo
    have nov:valV (nearKV (ns.take i) as) (Sum.inr n)=none:=aB_ fun m=>by
     unfold nearKV at m
     rw[List.map_map] at m
     obtain⟨p,hp,e⟩:=List.mem_map.mp m
     have e:p.1=n:=Sum.inr.inj e
     have q:=b8_ (g:=id) (by rw[List.map_id];exact nd) hn
     rw[List.map_id] at q
     exact q (e▸(List.of_mem_zip hp).1)
    have neD:D≠d:=fun z=>by subst z;rw[hD] at hd2;cases hd2
    refine⟨_,rfl,_,rfl,d,_,rfl,.k (k:=Sum.inr n) (sm _ _ hd2) (by omega),?_⟩
    refine⟨_,as++[D],rfl,fun c o e=>?_,by rw[List.length_append,la];rfl,?_,fun j n' a hn' ha=>?_⟩
    ·rw[a5_ (a7_ e hd)]
     exact sm _ _ (s2 _ _ e)
    ·rw[a1_,bA_ _ nov]
     congr 2
     unfold nearKV
     rw[List.take_add_one,hn,List.zip_append (by rw[List.length_take];omega),List.map_append]
     rfl
    ·by_cases hj:j<as.length
     ·rw[List.getElem?_append_left hj] at ha
      obtain⟨q1,q2,q3⟩:=lists j n' a hn' ha
      refine⟨q1,q2,?_⟩
      rw[a5_ q2]
      exact sm _ _ q3
     ·have hj2:j=i:=by
       have:=(List.getElem?_eq_some_iff.mp ha).1
       rw[List.length_append] at this
       simp only[List.length_singleton] at this
       omega
      subst hj2
      rw[List.getElem?_append_right (by omega),la,Nat.sub_self] at ha
      have ha:D=a:=by simpa using ha
      subst ha
      rw[hn] at hn'
      cases hn'
      refine⟨s2.free hD,neD,?_⟩
      rw[a5_ neD,hD',eo]
      rfl
   ·obtain⟨o,ho,rfl⟩:=aw_ hx
    refine⟨_,rfl,rfl,fun Nx hN=>?_⟩
    refine⟨_,rfl,_,rfl,n,o,rfl,fun t ht=>?_⟩
    have s3:Same H' (upd H' t (.tup [.str (ord2 n o).1,.str (ord2 n o).2])):=Same.new ht
    have tz':=((tz.same s2).same sm).same s3
    have lo:out.length<sizeLine:=by
     rw[eo,List.length_map]
     have:=List.length_filter_le (fun o=>decide (ord2 n o∈ts)) (ns.take j)
     rw[List.length_take] at this
     omega
    refine⟨_,rfl,ord2 n o,ts,⟨t,_,_,rfl,.of a1_,rfl,rfl⟩,⟨l2,zs,rfl,.of (s3 _ _ (sm _ _ (s2 _ _ hl2))),fr_ tz'⟩,_,rfl,?_⟩
    refine ite2 (fun c=>?_) (fun c=>?_)
    ·refine⟨_,rfl,out,s3 _ _ hD',lo,hN _ _ ⟨ay_ (sm.trans s3) hD,a1_,?_⟩⟩
     have c:decide (ord2 n o∈ts)=true:=by simpa using c
     rw[cx_ _ ho,if_pos c,List.map_append,eo]
     rfl
    ·refine hN _ _ ⟨sm.trans s3,s3 _ _ hD',?_⟩
     have c:¬decide (ord2 n o∈ts)=true:=by simpa using c
     rw[cx_ _ ho,if_neg c,List.append_nil,eo]
  ·rintro σ H2 ⟨v3,as,rfl,s2,la,hd2,lists⟩
   rw[List.length_map] at la hd2
   rw[List.take_length] at hd2
   exact⟨_,rfl,k d as _ s2 hd la hd2 fun j n a h1 h2=>⟨(lists j n a h1 h2).1,(lists j n a h1 h2).2.2⟩⟩
end
end Ev
set_option Elab.async false
set_option linter.all false
set_option maxRecDepth 100000
namespace Ev
open PySem L2
abbrev sInit:Stmt:=inClass sWeb 0
abbrev sHas:Stmt:=inClass sWeb 1
abbrev sHands:Stmt:=inClass sWeb 2
abbrev sStrength:Stmt:=inClass sWeb 3
abbrev sTied:Stmt:=inClass sWeb 5
abbrev sTiesM:Stmt:=inClass sWeb 6
abbrev sMost:Stmt:=inClass sWeb 7
def fstK:List Key->Str
 |.inr a::_=>a
 |_=>⟨#[]⟩
def twoK:List Key->Str × Str
 |[.inr a,.inr b]=>(a,b)
 |_=>(⟨#[]⟩,⟨#[]⟩)
def nmsOf(hs:List (Str × Int)):List Str:=(sortKs (hs.map kH)).map fstK
def tsOf(ts:List (Str × Str)):List (Str × Str):=(sortKs (ts.map fun t=>kT (ord2 t.1 t.2))).map twoK
theorem cw_(ts:List (Str × Str)):(tsOf ts).map kT=sortKs (ts.map fun t=>kT (ord2 t.1 t.2)):=by
 unfold tsOf
 rw[List.map_map]
 have all:∀k∈sortKs (ts.map fun t=>kT (ord2 t.1 t.2)),∃t:Str × Str,k=kT t:=fun k hk=>by
  obtain⟨t,_,e⟩:=List.mem_map.mp ((al_ _).mem_iff.mp hk)
  exact⟨_,e.symm⟩
 generalize sortKs (ts.map fun t=>kT (ord2 t.1 t.2))=l at all
 induction l with
 |nil=>rfl
 |cons k l ih=>
  obtain⟨t,rfl⟩:=all k List.mem_cons_self
  rw[List.map_cons,ih fun k hk=>all k (List.mem_cons_of_mem _ hk)]
  rfl
theorem cX_(hs:List (Str × Int)):∀k∈sortKs (hs.map kH),∃h:Str × Int,h∈hs/\k=kH h:=fun k hk=>by
 obtain⟨t,ht,e⟩:=List.mem_map.mp ((al_ _).mem_iff.mp hk)
 exact⟨t,ht,e.symm⟩
theorem ex_(hs:List (Str × Int)):((sortH hs).map fun kv=>kV kv.1)=(nmsOf hs).map V.str:=by
 unfold sortH nmsOf
 rw[List.map_map,List.map_map]
 refine List.map_congr_left fun k hk=>?_
 obtain⟨h,_,rfl⟩:=cX_ hs k hk
 rfl
theorem eA_(hs:List (Str × Int)):(sortH hs).map (·.1)=(nmsOf hs).map Sum.inr:=by
 unfold sortH nmsOf
 rw[List.map_map,List.map_map]
 refine List.map_congr_left fun k hk=>?_
 obtain⟨h,_,rfl⟩:=cX_ hs k hk
 rfl
theorem aL_(hs:List (Str × Int)):(nmsOf hs).Perm (hs.map (·.1)):=by
 unfold nmsOf
 have p:=(al_ (hs.map kH)).map fstK
 rw[List.map_map] at p
 exact p
theorem dJ_{κ:Type}[DecidableEq κ]{kvs:List (κ × V)}{k:κ}(h:k∈kvs.map (·.1)):(valV kvs k).isSome=true:=by
 rw[<- bL_]
 obtain⟨p,hp,e⟩:=List.mem_map.mp h
 exact List.any_eq_true.mpr ⟨p,hp,decide_eq_true e⟩
theorem dc_{hs:List (Str × Int)}{n:Str}:(valV (sortH hs) (Sum.inr n)).isSome=decide (n∈hs.map (·.1)):=by
 by_cases h:n∈hs.map (·.1)
 ·rw[decide_eq_true h]
  refine dJ_ ?_
  rw[eA_]
  exact List.mem_map.mpr ⟨n,(aL_ hs).mem_iff.mpr h,rfl⟩
 ·rw[decide_eq_false h,aB_]
  ·rfl
  ·rw[eA_]
   intro m
   obtain⟨x,hx,e⟩:=List.mem_map.mp m
   cases e
   exact h ((aL_ hs).mem_iff.mp hx)
theorem n12:¬(("strength_by_hand":Str)="sorted_pairs"):=by decide +kernel
theorem n13:¬(("strength_by_hand":Str)="neighbours_by_hand"):=by decide +kernel
theorem n23:¬(("sorted_pairs":Str)="neighbours_by_hand"):=by decide +kernel
def flds(d1 l2 d3:Addr):List (Str × V):=putF "neighbours_by_hand" (.ref d3) (putF "sorted_pairs" (.ref l2) (putF "strength_by_hand" (.ref d1) []))
theorem eW_(d1 l2 d3:Addr):(flds d1 l2 d3).lookup ("strength_by_hand":Str)=some (.ref d1):=by
 unfold flds
 rw[af_,if_neg n13,af_,if_neg n12,af_,if_pos rfl]
theorem jL_(d1 l2 d3:Addr):(flds d1 l2 d3).lookup ("sorted_pairs":Str)=some (.ref l2):=by
 unfold flds
 rw[af_,if_neg n23,af_,if_pos rfl]
theorem ih_(d1 l2 d3:Addr):(flds d1 l2 d3).lookup ("neighbours_by_hand":Str)=some (.ref d3):=by
 unfold flds
 rw[af_,if_pos rfl]
theorem aG_(d1 l2 d3:Addr){m:Str}(h1:¬m="strength_by_hand")(h2:¬m="sorted_pairs")(h3:¬m="neighbours_by_hand"):(flds d1 l2 d3).lookup m=none:=by
 unfold flds
 rw[af_,if_neg h3,af_,if_neg h2,af_,if_neg h1]
 all_goals rfl
structure WebAt (K:PySem.W.Frag) (C:Addr) (H:Hp) (p:Addr) (hs:List (Str × Int)) (ts:List (Str × Str)) (fp:List Addr):Prop where
 ex:∃(dx d1 l2 d3:Addr) (zs:List V) (as:List Addr),fp=p::d1::l2::d3::as/\H p=some (.ins C dx (flds d1 l2 d3))/\H d1=some (.dK (sortH hs))/\H l2=some (.lst zs)/\TupsAt K H zs ((tsOf ts).map kT)/\H d3=some (.dK (nearKV (nmsOf hs) as))/\as.length=(nmsOf hs).length /\
  ∀(i:Nat) n a,(nmsOf hs)[i]? = some n->as[i]? = some a->H a=some (.lst ((near (nmsOf hs) (tsOf ts) n).map V.str))
theorem WebAt.keep{K:PySem.W.Frag}{C:Addr}{H H':Hp}{p:Addr}{hs:List (Str × Int)}{ts:List (Str × Str)}{fp:List Addr}(W:WebAt K C H p hs ts fp)(k:∀b∈fp,∀o,H b=some o->H' b=some o)(kt:∀b xs,H b=some (.tup xs)->H' b=some (.tup xs)):WebAt K C H' p hs ts fp:=by
 obtain⟨dx,d1,l2,d3,zs,as,rfl,h1,h2,h3,h4,h5,h6,h7⟩:=W.ex
 refine⟨dx,d1,l2,d3,zs,as,rfl,k _ (by simp) _ h1,k _ (by simp) _ h2,k _ (by simp) _ h3,Paired.mapP h4 fun y q ⟨a,e,z⟩=>⟨a,e,kt _ _ z⟩,k _ (by simp) _ h5,h6,fun i n a e1 e2=>k _ ?_ _ (h7 i n a e1 e2)⟩
 have:=List.mem_of_getElem? e2
 simp[this]
theorem WebAt.same{K:PySem.W.Frag}{C:Addr}{H H':Hp}{p:Addr}{hs:List (Str × Int)}{ts:List (Str × Str)}{fp:List Addr}(W:WebAt K C H p hs ts fp)(s:Same H H'):WebAt K C H' p hs ts fp:=W.keep (fun b _ o e=>s b o e) fun b xs e=>s b _ e
structure Good (hs:List (Str × Int)) (ts:List (Str × Str)):Prop where
 hok:∀h∈hs,goodH h
 hnd:(hs.map (·.1)).Nodup
 h1:1<=hs.length
 h8:hs.length<=8
 tok:∀t∈ts,goodT t
 tnd:(ts.map fun t=>kT (ord2 t.1 t.2)).Nodup
 t64:ts.length<64
 tin:∀t∈ts,t.1∈hs.map (·.1)/\t.2∈hs.map (·.1)
theorem Good.nnd{hs:List (Str × Int)}{ts:List (Str × Str)}(G:Good hs ts):(nmsOf hs).Nodup:=(aL_ hs).nodup_iff.mpr G.hnd
theorem Good.nlen{hs:List (Str × Int)}{ts:List (Str × Str)}(G:Good hs ts):(nmsOf hs).length=hs.length:=by
 rw[(aL_ hs).length_eq,List.length_map]
theorem eD_(ts:List (Str × Str)):(tsOf ts).length=ts.length:=by
 unfold tsOf
 rw[List.length_map,(al_ _).length_eq,List.length_map]
structure Txt (K:PySem.W.Frag) (mg:Str->Option Value) (C:Addr):Prop where
 cl:Cls K C
 nS:NoAttr K C "strength_by_hand"
 nP:NoAttr K C "sorted_pairs"
 nN:NoAttr K C "neighbours_by_hand"
section
variable{P:Program}{w:World}{K:PySem.W.Frag}{mg:Str->Option Value}{base:Heap}
theorem scInit:FnScope ["self","hands","ties","strengths","checked"] ["self","hands","ties"] (defScope sInit):=⟨rfl,rfl,rfl,by decide +kernel,rfl,by decide +kernel,by decide +kernel⟩
def spInit(K:PySem.W.Frag)(C:Addr):Sp:=fun vs H Q _=>∃(p dx lh lt:Addr) (ys zs:List V) (hs:List (Str × Int)) (ts:List (Str × Str)),vs=[.ref p,.ref lh,.ref lt]/\H p=some (.ins C dx [])/\H lh=some (.lst ys)/\TupsAt K H ys (hs.map kH)/\H lt=some (.lst zs)/\TupsAt K H zs (ts.map kT)/\Good hs ts /\
 ∀fp H',(∀b o,H b=some o->b≠p->H' b=some o)->WebAt K C H' p hs ts fp->(∀b∈fp,b=p∨H b=none)->Q .non H'
theorem iM_{f C:Addr}{fd:FuncData}(F:Fun K "__init__" "Web.__init__" sInit f fd)(T:Txt K mg C)(B:Bi mg)(cS:Cal P w K mg base 4 "checked_strengths" ["hands"] (spStr K))(cT:Cal P w K mg base 4 "checked_ties" ["ties","strengths"] (spTies K))(cN:Cal P w K mg base 2 "neighbours_of_all" ["names","ties"] (spNear K)) :
  FnOk P w K mg base CX0 5 f fd ["self","hands","ties"] (spInit K C):=by
 refine F.ok scInit (fun vs H Q E h=>?_) (fun cdv A outer s H vs Q E hr h=>?_)
 ·obtain⟨p,dx,lh,lt,ys,zs,hs,ts,rfl,_⟩:=h
  rfl
 ·obtain⟨p,dx,lh,lt,ys,zs,hs,ts,rfl,hp,hlh,th,hlt,tt,G,k⟩:=h
  have hr3:Room 3 _:=hr.mono (by decide)
  have hr2:Room 2 _:=hr.mono (by decide)
  refine⟨_,a2_ (ab_ (i:=3) scInit.nd rfl (Or.inl rfl) (ag_ cS hr (a0_ (pv 1) a3_)))
   (a2_ (ab_ (i:=4) scInit.nd rfl (Or.inl rfl) (ag_ cT hr (a0_ (pv 2) (a0_ (pv 3) a3_))))
   (a2_ (cP_ (pv 0) (pv 3) rfl) (a2_ (cP_ (pv 0) (pv 4) rfl)
   (a4_ (cP_ (pv 0) (ag_ cN hr2 (a0_ (aJ_ (c1_ rfl) (by rfl) B.list PyProof.Rows.Boot.«list» (a0_ (pv 3) a3_)) (a0_ (pv 4) a3_))) rfl))))),?_⟩
  refine⟨_,rfl,lh,ys,hs,rfl,hlh,th,G.hok,G.hnd,G.h1,G.h8,fun d1 H1 s1 f1 hd1=>?_⟩
  refine⟨_,rfl,_,rfl,lt,d1,zs,ts,_,rfl,s1 _ _ hlt,tt.same s1,G.tok,G.tnd,G.t64,hd1,fun t ht=>?_,fun l2 zs2 H2 s2 f2 hl2 tz=>?_⟩
  ·rw[dc_,dc_]
   exact⟨decide_eq_true (G.tin t ht).1,decide_eq_true (G.tin t ht).2⟩
  have hd12:=s2 _ _ hd1
  have hp2:=s2 _ _ (s1 _ _ hp)
  have p1:p≠d1:=aQ_ hp2 hd12 (by intro z;cases z)
  have p2:p≠l2:=aQ_ hp2 hl2 (by intro z;cases z)
  refine⟨_,rfl,_,rfl,p,C,dx,[],rfl,hp2,T.cl,T.nS,by show 0<1000;decide,?_⟩
  refine⟨_,rfl,_,rfl,p,C,dx,_,rfl,a1_,T.cl,T.nP,by show 1<1000;decide,?_⟩
  let H3:Hp:=upd (upd H2 p (.ins C dx (putF "strength_by_hand" (.ref d1) []))) p (.ins C dx (putF "sorted_pairs" (.ref l2) (putF "strength_by_hand" (.ref d1) [])))
  have h3:∀{b o},H2 b=some o->b≠p->H3 b=some o:=fun e ne=>by
   show upd (upd H2 p _) p _ _=_
   rw[a5_ ne,a5_ ne]
   exact e
  have h3p:H3 p=some (.ins C dx (putF "sorted_pairs" (.ref l2) (putF "strength_by_hand" (.ref d1) []))):=a1_
  have none3:∀{b},H3 b=none->H2 b=none:=fun {b} e=>by
   by_cases z:b=p
   ·subst z;rw[h3p] at e;cases e
   ·have e:upd (upd H2 p _) p _ b=none:=e
    rw[a5_ z,a5_ z] at e
    exact e
  have tz3:TupsAt K H3 zs2 ((tsOf ts).map kT):=by
   rw[cw_]
   exact Paired.mapP tz fun y q ⟨a,e,z⟩=>⟨a,e,h3 z (aQ_ z hp2 (by intro z;cases z))⟩
  refine⟨_,rfl,d1,_,rfl,.inl (h3 hd12 p1.symm),fun l1 hl1=>?_⟩
  rw[ex_]
  have s4:Same H3 (upd H3 l1 (.lst ((nmsOf hs).map V.str))):=Same.new hl1
  have ne12:l1≠l2:=(a7_ (H:=H3) (h3 hl2 p2.symm) hl1).symm
  refine⟨_,rfl,l1,l2,nmsOf hs,zs2,tsOf ts,rfl,a1_,s4 _ _ (h3 hl2 p2.symm),tz3.same s4,G.nnd,by rw[G.nlen];have:=G.h8;omega,ne12,fun d3 as H5 s5 f5 la hd3 lists=>?_⟩
  have hp5:=s5 _ _ (s4 _ _ h3p)
  refine⟨_,rfl,p,C,dx,_,rfl,hp5,T.cl,T.nN,by show 2<1000;decide,?_⟩
  have up:∀{b o},H2 b=some o->b≠p->upd H5 p (.ins C dx (flds d1 l2 d3)) b=some o:=fun e ne=>by
   rw[a5_ ne]
   exact s5 _ _ (s4 _ _ (h3 e ne))
  have fr5:∀{b},upd H3 l1 (.lst ((nmsOf hs).map V.str)) b=none->H b=none:=fun e=>s1.free (s2.free (none3 (s4.free e)))
  have hd3p:d3≠p:=(a7_ (s4 _ _ h3p) f5).symm
  refine k (p::d1::l2::d3::as) _ (fun b o e ne=>up (s2 _ _ (s1 _ _ e)) ne) ⟨dx,d1,l2,d3,zs2,as,rfl,a1_,up hd12 p1.symm,up hl2 p2.symm,?_,?_,la,fun i n a e1 e2=>?_⟩ fun b hb=>?_
  ·exact Paired.mapP (tz3.same (s4.trans s5)) fun y q ⟨a,e,z⟩=>⟨a,e,by rw[a5_ (aQ_ z hp5 (by intro z;cases z))];exact z⟩
  ·rw[a5_ hd3p]
   exact hd3
  ·obtain⟨q1,q2⟩:=lists i n a e1 e2
   rw[a5_ (aQ_ q2 hp5 (by intro z;cases z))]
   exact q2
  ·simp only[List.mem_cons] at hb
   rcases hb with rfl|rfl|rfl|rfl|hb
   ·exact .inl rfl
   ·exact .inr f1
   ·exact .inr (s1.free f2)
   ·exact .inr (fr5 f5)
   ·obtain⟨i,hi,e⟩:=List.getElem_of_mem hb
    have e1:as[i]? = some b:=by rw[List.getElem?_eq_getElem hi,e]
    have hn:i<(nmsOf hs).length:=by omega
    exact .inr (fr5 (lists i _ b (List.getElem?_eq_getElem hn) e1).1)
end
end Ev
set_option Elab.async false
set_option linter.all false
set_option maxRecDepth 100000
namespace Ev
open PySem L2
structure CalM (P:Program) (w:World) (K:PySem.W.Frag) (mg:Str->Option Value) (base:Heap) (C:Addr) (k:Nat) (m:Str) (ps:List Str) (sp:Sp):Prop where
 ex:∃f fd,FnOk P w K mg base CX0 k f fd ps sp/\Meth K C m f/\Binds K fd ps []
theorem bR_{X:Cx}{C:Addr}{k:Nat}{m:Str}{ps:List Str}{sp:Sp}{pos apos:Pos}{o e:Expr}{es:List Expr}{ta:TE}{t:TA}{pl:Sem Bool}(c:CalM X.prog X.w X.K X.mg X.base C k m ps sp)(cl:Cls X.K C)(hr:Room k X.A)(he:PE X o ta)(ha:PA X (e::es) t)
  (hst:starEach (e::es) X.env=(false,eval e X.env)::starEach es X.env:=by rfl) (hpl:(backTo pos (starEach es X.env)).any (·.1)=false:=by rfl)
  (ht:eval (.Call (.Attribute o m apos) (e::es) [] pos) X.env=(do
   let ov <- eval o X.env
   standAt apos.atName
   let (f,first) <- holding [ov] (getMethod ov m pl)
   callWith pos f first (backTo pos (starEach (e::es) X.env)) (backToKw pos (keywordEach [] X.env))):=by rfl) :
  PE X (.Call (.Attribute o m apos) (e::es) [] pos) (tMeth C m sp [] E0 ta t):=by
 obtain⟨f,fd,F,hm,b⟩:=c.ex
 exact gq_ he cl hm F hr b .nil pass0 ha hst hpl ht
theorem bW_{X:Cx}{C:Addr}{k:Nat}{m:Str}{ps:List Str}{sp:Sp}{pos apos:Pos}{o:Expr}{ta:TE}{pl:Sem Bool}(c:CalM X.prog X.w X.K X.mg X.base C k m ps sp)(cl:Cls X.K C)(hr:Room k X.A)(he:PE X o ta)
  (ht:eval (.Call (.Attribute o m apos) [] [] pos) X.env=(do
   let ov <- eval o X.env
   standAt apos.atName
   let (f,first) <- holding [ov] (getMethod ov m pl)
   callWith pos f first (backTo pos (starEach [] X.env)) (backToKw pos (keywordEach [] X.env))):=by rfl) :
  PE X (.Call (.Attribute o m apos) [] [] pos) (tMeth C m sp [] E0 ta tNil):=by
 obtain⟨f,fd,F,hm,b⟩:=c.ex
 exact hD_ he cl hm F hr b .nil pass0 ht
theorem fg_{hs:List (Str × Int)}(nd:(hs.map (·.1)).Nodup){x:Str}{n:Int}(h:(x,n)∈hs):valV (sortH hs) (Sum.inr x)=some (.int n):=by
 have m:((Sum.inr x:Key),V.int n)∈sortH hs:=by
  unfold sortH
  refine List.mem_map.mpr ⟨kH (x,n),(al_ _).mem_iff.mpr (List.mem_map.mpr ⟨_,h,rfl⟩),rfl⟩
 have nk:=cn_ nd
 generalize sortH hs=kvs at m nk
 induction kvs with
 |nil=>cases m
 |cons p r ih=>
  obtain⟨n1,n2⟩:=List.nodup_cons.mp nk
  rcases List.mem_cons.mp m with e|m
  ·rw[<- e]
   exact bl_ rfl
  ·rw[bj_ (fun e:p.1=Sum.inr x=>n1 (List.mem_map.mpr ⟨_,m,e.symm⟩))]
   exact ih m n2
theorem g8_{ns:List Str}{as:List Addr}(nd:ns.Nodup)(la:as.length=ns.length){i:Nat}{n:Str}(hn:ns[i]? = some n):∃a,as[i]? = some a/\valV (nearKV ns as) (Sum.inr n)=some (.ref a):=by
 induction ns generalizing as i with
 |nil=>simp at hn
 |cons x ns ih=>
  cases as with
  |nil=>cases la
  |cons b as=>
   obtain⟨n1,n2⟩:=List.nodup_cons.mp nd
   cases i with
   |zero=>
    have e:x=n:=by simpa using hn
    subst e
    exact⟨b,rfl,bl_ rfl⟩
   |succ i=>
    have hn:ns[i]? = some n:=by simpa using hn
    obtain⟨a,h1,h2⟩:=ih n2 (by simpa using la) hn
    refine⟨a,by simpa using h1,?_⟩
    show valV ((Sum.inr x,V.ref b)::nearKV ns as) (Sum.inr n)=_
    rw[bj_ fun e=>n1 (by rw[show x=n from Sum.inr.inj e];exact List.mem_of_getElem? hn)]
    exact h2
section
variable{P:Program}{w:World}{K:PySem.W.Frag}{mg:Str->Option Value}{base:Heap}
theorem scHas:FnScope ["self","thing"] ["self","thing"] (defScope sHas):=⟨rfl,rfl,rfl,by decide +kernel,rfl,by decide +kernel,by decide +kernel⟩
def spHas(K:PySem.W.Frag)(C:Addr):Sp:=fun vs H Q _=>∃(p:Addr) (x:Str) (hs:List (Str × Int)) (ts:List (Str × Str)) (fp:List Addr),vs=[.ref p,.str x]/\WebAt K C H p hs ts fp/\Q (.bl (decide (x∈hs.map (·.1)))) H
theorem jN_{f C:Addr}{fd:FuncData}(F:Fun K "has_hand" "Web.has_hand" sHas f fd)(T:Txt K mg C)(B:Bi mg):FnOk P w K mg base CX0 1 f fd ["self","thing"] (spHas K C):=by
 refine F.ok scHas (fun vs H Q E h=>?_) (fun cdv A outer s H vs Q E hr h=>?_)
 ·obtain⟨p,x,hs,ts,fp,rfl,_⟩:=h
  rfl
 ·obtain⟨p,x,hs,ts,fp,rfl,W,k⟩:=h
  have hu:=bk_ hr
  obtain⟨dx,d1,l2,d3,zs,as,rfl,h1,h2,h3,h4,h5,h6,h7⟩:=W.ex
  refine⟨_,a4_ (aa_ (aX_ (a8_ ap_ (by rfl) B.isi PyProof.Rows.Boot.«isinstance» (a0_ (pv 1) (a0_ (aA_ (v:=.ty "str") (by rfl) B.str PyProof.Rows.Boot.«str» rfl) a3_))) (aO_ (dx_ (d0_ hu (pv 1) (aM_ (pv 0) rfl)))))),?_⟩
  refine⟨_,rfl,_,_,_,_,rfl,.str x,rfl,_,rfl,iteT ?_⟩
  refine⟨_,rfl,_,rfl,p,C,dx,_,_,rfl,h1,T.cl,T.nS,eW_ _ _ _,d1,_,rfl,.k (k:=Sum.inr x) h2,?_⟩
  rw[dc_]
  exact k
theorem scHands:FnScope ["self"] ["self"] (defScope sHands):=⟨rfl,rfl,rfl,by decide +kernel,rfl,by decide +kernel,by decide +kernel⟩
def spHands(K:PySem.W.Frag)(C:Addr):Sp:=fun vs H Q _=>∃(p:Addr) (hs:List (Str × Int)) (ts:List (Str × Str)) (fp:List Addr),vs=[.ref p]/\WebAt K C H p hs ts fp/\∀l,H l=none->Q (.ref l) (upd H l (.lst ((nmsOf hs).map V.str)))
theorem hL_{f C:Addr}{fd:FuncData}(F:Fun K "hands" "Web.hands" sHands f fd)(T:Txt K mg C)(B:Bi mg):FnOk P w K mg base CX0 1 f fd ["self"] (spHands K C):=by
 refine F.ok scHands (fun vs H Q E h=>?_) (fun cdv A outer s H vs Q E hr h=>?_)
 ·obtain⟨p,hs,ts,fp,rfl,_⟩:=h
  rfl
 ·obtain⟨p,hs,ts,fp,rfl,W,k⟩:=h
  obtain⟨dx,d1,l2,d3,zs,as,rfl,h1,h2,h3,h4,h5,h6,h7⟩:=W.ex
  refine⟨_,a4_ (aa_ (aJ_ (c1_ rfl) (by rfl) B.list PyProof.Rows.Boot.«list» (a0_ (aM_ (pv 0) rfl) a3_))),?_⟩
  refine⟨_,rfl,p,C,dx,_,_,rfl,h1,T.cl,T.nS,eW_ _ _ _,d1,_,rfl,.inl h2,fun l hl=>?_⟩
  rw[ex_]
  exact k l hl
theorem scStrength:FnScope ["self","hand"] ["self","hand"] (defScope sStrength):=⟨rfl,rfl,rfl,by decide +kernel,rfl,by decide +kernel,by decide +kernel⟩
def spStrength(K:PySem.W.Frag)(C:Addr):Sp:=fun vs H Q _=>∃(p:Addr) (x:Str) (n:Int) (hs:List (Str × Int)) (ts:List (Str × Str)) (fp:List Addr),vs=[.ref p,.str x]/\WebAt K C H p hs ts fp/\(hs.map (·.1)).Nodup/\(x,n)∈hs/\Q (.int n) H
theorem ee_{f C:Addr}{fd:FuncData}(F:Fun K "strength" "Web.strength" sStrength f fd)(T:Txt K mg C)(cH:CalM P w K mg base C 1 "has_hand" ["self","thing"] (spHas K C)):FnOk P w K mg base CX0 2 f fd ["self","hand"] (spStrength K C):=by
 refine F.ok scStrength (fun vs H Q E h=>?_) (fun cdv A outer s H vs Q E hr h=>?_)
 ·obtain⟨p,x,n,hs,ts,fp,rfl,_⟩:=h
  rfl
 ·obtain⟨p,x,n,hs,ts,fp,rfl,W,nd,hx,k⟩:=h
  have hu:=bk_ hr
  obtain⟨dx,d1,l2,d3,zs,as,rfl,h1,h2,h3,h4,h5,h6,h7⟩:=id W.ex
  refine⟨_,a2_ (ak_ (av_ (ax_ (bR_ cH T.cl hr (pv 0) (a0_ (pv 1) a3_)))) ad_ ac_) (a4_ (aa_ (bH_ hu (aM_ (pv 0) rfl) (pv 1) (fun _ _=>rfl)))),?_⟩
  refine⟨_,rfl,p,dx,_,rfl,h1,aG_ _ _ _ (by decide +kernel) (by decide +kernel) (by decide +kernel),_,rfl,p,x,hs,ts,_,rfl,W,_,rfl,?_⟩
  rw[decide_eq_true (List.mem_map.mpr ⟨_,hx,rfl⟩)]
  refine iteF ?_
  refine⟨_,rfl,p,C,dx,_,_,rfl,h1,T.cl,T.nS,eW_ _ _ _,_,rfl,d1,_,rfl,?_,k⟩
  rw[<- fg_ nd hx]
  exact .k (k:=Sum.inr x) h2
theorem jO_{H:Hp}{hs:List (Str × Int)}{ts:List (Str × Str)}{as:List Addr}{x:Str}(nd:(nmsOf hs).Nodup)(hx:x∈hs.map (·.1))(la:as.length=(nmsOf hs).length)
  (h7:∀(i:Nat) n a,(nmsOf hs)[i]? = some n->as[i]? = some a->H a=some (.lst ((near (nmsOf hs) (tsOf ts) n).map V.str))):∃a,valV (nearKV (nmsOf hs) as) (Sum.inr x)=some (.ref a)/\H a=some (.lst ((near (nmsOf hs) (tsOf ts) x).map V.str)):=by
 obtain⟨i,hi,e⟩:=List.getElem_of_mem ((aL_ hs).mem_iff.mpr hx)
 have hn:(nmsOf hs)[i]? = some x:=by rw[List.getElem?_eq_getElem hi,e]
 obtain⟨a,h1,h2⟩:=g8_ nd la hn
 exact⟨a,h2,h7 i x a hn h1⟩
theorem scTied:FnScope ["self","one","other"] ["self","one","other"] (defScope sTied):=⟨rfl,rfl,rfl,by decide +kernel,rfl,by decide +kernel,by decide +kernel⟩
theorem ez_{H:Hp}:∀ns:List Str,Paired (rS H) (ns.map V.str) ns
 |[]=>.nil
 |_::ns=>.cons rfl (ez_ ns)
theorem scTiesM:FnScope ["self"] ["self"] (defScope sTiesM):=⟨rfl,rfl,rfl,by decide +kernel,rfl,by decide +kernel,by decide +kernel⟩
def spTiesM(K:PySem.W.Frag)(C:Addr):Sp:=fun vs H Q _=>∃(p:Addr) (hs:List (Str × Int)) (ts:List (Str × Str)) (fp:List Addr),vs=[.ref p]/\WebAt K C H p hs ts fp/\ts.length<64/\∀l zs H',Same H H'->H l=none->H' l=some (.lst zs)->TupsAt K H' zs ((tsOf ts).map kT)->Q (.ref l) H'
theorem h9_{f C:Addr}{fd:FuncData}(F:Fun K "ties" "Web.ties" sTiesM f fd)(T:Txt K mg C)(cA:Cal P w K mg base 1 "ties_anew" ["ties"] (spAnew K)):FnOk P w K mg base CX0 2 f fd ["self"] (spTiesM K C):=by
 refine F.ok scTiesM (fun vs H Q E h=>?_) (fun cdv A outer s H vs Q E hr h=>?_)
 ·obtain⟨p,hs,ts,fp,rfl,_⟩:=h
  rfl
 ·obtain⟨p,hs,ts,fp,rfl,W,h64,k⟩:=h
  obtain⟨dx,d1,l2,d3,zs,as,rfl,h1,h2,h3,h4,h5,h6,h7⟩:=W.ex
  refine⟨_,a4_ (aa_ (ag_ cA hr (a0_ (aM_ (pv 0) rfl) a3_))),?_⟩
  exact⟨_,rfl,p,C,dx,_,_,rfl,h1,T.cl,T.nP,jL_ _ _ _,l2,zs,tsOf ts,rfl,h3,h4,by rw[eD_];omega,k⟩
theorem scMost:FnScope ["self"] ["self"] (defScope sMost):=⟨rfl,rfl,rfl,by decide +kernel,rfl,by decide +kernel,by decide +kernel⟩
def lens(hs:List (Str × Int))(ts:List (Str × Str)):List Int:=(nmsOf hs).map fun n=>((near (nmsOf hs) (tsOf ts) n).length:Int)
def spMost(K:PySem.W.Frag)(C:Addr):Sp:=fun vs H Q _=>∃(p:Addr) (hs:List (Str × Int)) (ts:List (Str × Str)) (fp:List Addr),vs=[.ref p]/\WebAt K C H p hs ts fp/\0<(nmsOf hs).length/\(nmsOf hs).length<=1000/\∀m H',Same H H'->m∈lens hs ts->(∀a∈lens hs ts,a<=m)->Q (.int m) H'
theorem iG_{f C:Addr}{fd:FuncData}(F:Fun K "most_neighbours" "Web.most_neighbours" sMost f fd)(T:Txt K mg C)(B:Bi mg):FnOk P w K mg base CX0 1 f fd ["self"] (spMost K C):=by
 refine F.ok scMost (fun vs H Q E h=>?_) (fun cdv A outer s H vs Q E hr h=>?_)
 ·obtain⟨p,hs,ts,fp,rfl,_⟩:=h
  rfl
 ·obtain⟨p,hs,ts,fp,rfl,W,h0,h8,k⟩:=h
  have sz:=sizeLine_eq
  obtain⟨dx,d1,l2,d3,zs,as,rfl,h1,h2,h3,h4,h5,h6,h7⟩:=W.ex
  refine⟨_,a4_ (aa_ (a8_ (hn_ rfl) (by rfl) B.max PyProof.Rows.Boot.«max» (a0_ (j0_ (aP_ ["row"] 1 [] (j3_ (e0_ (aM_ (pv 0) rfl))) (fun fp s H=>ae_ (i:=0) (show (["row"]:List Str).Nodup by decide +kernel) rfl (Or.inl rfl)) (fun fp s H=>aV_)
   (fun fp s H=>a8_ (cLen (K:=K)) (by rfl) B.len PySem.boot_len (a0_ (pv 0) a3_)))) a3_))),?_⟩
  refine⟨d3,_,h5,_,rfl,p,C,dx,_,_,rfl,h1,T.cl,T.nN,ih_ _ _ _,d3,_,rfl,h5,fun v hv=>?_⟩
  have s1:Same H (upd H v (valuesV v d3)):=Same.new hv
  refine⟨v,d3,_,rfl,a1_,s1 _ _ h5,fun o D hD=>?_⟩
  have lk:(nearKV (nmsOf hs) as).length=(nmsOf hs).length:=by
   unfold nearKV
   rw[List.length_map,List.length_zip]
   omega
  have base':∀{b u},H b=some u->u≠.dK (nearKV (nmsOf hs) as)->upd (upd H v (valuesV v d3)) d3 (.frz o (.dK (nearKV (nmsOf hs) as))) b=some u:=fun e ne=>by
   rw[a5_ (aQ_ e h5 ne)]
   exact s1 _ _ e
  refine di_ (own:=1) (fv:=[]) rfl gok1 (nmsOf hs).length (fun i out H'=>Same (upd (upd H v (valuesV v d3)) d3 (.frz o (.dK (nearKV (nmsOf hs) as)))) H'/\H' D=some (.lst out)/\out=((lens hs ts).take i).map V.int) ⟨Same.new hD,a1_,rfl⟩ (fun out H' ⟨sm,hD',eo⟩=>?_) (fun i out H' hi ⟨sm,hD',eo⟩=>?_)
  ·have hf:=sm _ _ (show upd (upd H v (valuesV v d3)) d3 (.frz o (.dK (nearKV (nmsOf hs) as))) d3=some _ from a1_)
   have Dd:D≠d3:=aQ_ hD' hf (by intro z;cases z)
   have ll:(lens hs ts).length=(nmsOf hs).length:=by unfold lens;rw[List.length_map]
   rw[<- ll,List.take_length] at eo
   refine⟨⟨hf,by omega⟩,o,hf,D,lens hs ts,rfl,.of ?_,by omega,fun m hm hle=>k m _ (fun b u e=>?_) hm hle⟩
   ·rw[a5_ Dd,hD',eo]
   ·by_cases z:b=d3
    ·subst z
     rw[a1_,<- h5]
     exact e
    ·rw[a5_ z]
     exact sm _ _ (by rw[a5_ z];exact s1 _ _ e)
  ·have hf:=sm _ _ (show upd (upd H v (valuesV v d3)) d3 (.frz o (.dK (nearKV (nmsOf hs) as))) d3=some _ from a1_)
   refine⟨⟨hf,by omega⟩,fun x H2 y=>?_⟩
   obtain⟨eH,kk,hk⟩:=y
   subst eH
   have hn:(nmsOf hs)[i]? = some (nmsOf hs)[i]:=List.getElem?_eq_getElem hi
   have ha:as[i]? = some (as[i]'(by omega)):=List.getElem?_eq_getElem (by omega)
   have ex:x=.ref (as[i]'(by omega)):=by
    unfold nearKV at hk
    rw[List.getElem?_map,List.getElem?_eq_getElem (by rw[List.length_zip];omega),List.getElem_zip] at hk
    exact (Prod.mk.inj (Option.some.inj hk)).2.symm
   subst ex
   have hrow:=h7 i _ _ hn ha
   refine⟨_,rfl,rfl,fun Nx hN=>yesT ?_⟩
   refine⟨_,rfl,_,_,rfl,.inl (.of (sm _ _ (base' hrow (by intro z;cases z)))),out,hD',?_,hN _ _ ⟨ay_ sm hD,a1_,?_⟩⟩
   ·rw[eo,List.length_map,List.length_take]
    unfold lens
    rw[List.length_map]
    omega
   ·rw[aD_ _ (show (lens hs ts)[i]? = some (((near (nmsOf hs) (tsOf ts) (nmsOf hs)[i]).length:Nat):Int) by unfold lens;rw[List.getElem?_map,hn];rfl),eo,List.length_map]
end
end Ev
set_option Elab.async false
set_option linter.all false
set_option maxRecDepth 100000
namespace L2
open PySem PySem.Spec PyProof.Rows PySem.W
def Ite(K:PySem.W.Frag)(a:Addr):It:=
 ⟨fun i H=>∃xs x,SqL K H a xs/\xs[i]? = some x,fun i H y H'=>∃t x,y=.ref t/\H t=none/\(∀xs,SqL K H a xs->xs[i]? = some x)/\H'=upd H t (.tup [.int i,x]),fun i H=>∃xs,SqL K H a xs/\xs.length=i⟩
theorem Inv.turnedN{X:Cx}{pins:List (Addr × Obj)}{σ:St}{H:Hp}{s:Shared}{h':Heap}{t':Nat}{fp:List Addr}{T:Addr}{xs:List V}{its:List Value}(I:Inv X pins σ H s)(k:∀b o,b∉fp->s.heap.get? b=some o->h'.get? b=some o)(hf:∀b∈fp,FpOk X pins H b)
  (hT:s.heap.objs.size<=T) (hz:xs.length<=sizeLine) (r:Vals xs its) (ht:IsTup h' T its.toArray/\∃o,h'.get? T=some o/\o.dict=none):Inv X pins σ (upd H T (.tup xs)) { s with heap:=h',toks:=t' }:=by
 have fT:H T=none:=I.hok.fresh hT
 have nf:∀b u,H b=some u->b∉fp:=fun b u e hb=>by rw[(hf b hb).1] at e;cases e
 have old:∀{b u},H b=some u->upd H T (.tup xs) b=some u:=fun e=>by rw[a5_ (a7_ e fT)];exact e
 refine I.step (g':=s.gens) (d':=s.drawn) (ch:=fp) (fun b hb=>?_) (fun b o _ _ hc e _=>k b o hc e) (fun b o _ _ hc e _=>⟨o.slots,k b o hc e⟩) (fun b o _ e n=>?_)
  (fun b o hc e=>⟨o,k b o hc e⟩) (fun b ys e=>old e) (fun b o u e=>old e) (fun b ps e=>⟨#[],by rw[Array.append_empty];exact old e⟩) (fun m hm=>?_) (fun b u e=>?_) I.bare
 ·obtain⟨f0,f1,f2,f3,f4,f5⟩:=hf b hb
  exact⟨f3,f1,f4,f5⟩
 ·rw[a5_ (fun z=>by subst z;exact absurd (Heap.lt_size e) (Nat.not_lt.mpr hT))]
  exact n
 ·obtain⟨o,es,ep,ho,r⟩:=hm
  exact⟨o,es,ep,k _ o (fun hb=>(hf _ hb).2.1 rfl) ho,r⟩
 ·by_cases z:b=T
  ·subst z
   rw[a1_] at e
   cases e
   exact⟨hz,its,r,ht⟩
  ·rw[a5_ z] at e
   refine (I.hok b u e).stay (fun c v hc q=>k c v ?_ q) (fun _ q=>old q) fun _ _ q=>old q
   rcases hc with z|z
   ·rw[z];exact nf b u e
   ·exact nf c _ z
theorem Inv.turnedF{X:Cx}{pins:List (Addr × Obj)}{σ:St}{H:Hp}{s:Shared}{h':Heap}{t':Nat}{fp:List Addr}(I:Inv X pins σ H s)(k:∀b o,b∉fp->s.heap.get? b=some o->h'.get? b=some o)(hf:∀b∈fp,FpOk X pins H b):Inv X pins σ H { s with heap:=h',toks:=t' }:=by
 have nf:∀b u,H b=some u->b∉fp:=fun b u e hb=>by rw[(hf b hb).1] at e;cases e
 refine I.step (g':=s.gens) (d':=s.drawn) (ch:=fp) (fun b hb=>?_) (fun b o _ _ hc e _=>k b o hc e) (fun b o _ _ hc e _=>⟨o.slots,k b o hc e⟩) (fun b o _ e n=>n)
  (fun b o hc e=>⟨o,k b o hc e⟩) (fun b ys e=>e) (fun b o u e=>e) (fun b ps e=>⟨#[],by rw[Array.append_empty];exact e⟩) (fun m hm=>?_) (fun b u e=>?_) I.bare
 ·obtain⟨f0,f1,f2,f3,f4,f5⟩:=hf b hb
  exact⟨f3,f1,f4,f5⟩
 ·obtain⟨o,es,ep,ho,r⟩:=hm
  exact⟨o,es,ep,k _ o (fun hb=>(hf _ hb).2.1 rfl) ho,r⟩
 ·refine (I.hok b u e).stay (fun c v hc q=>k c v ?_ q) (fun _ q=>q) fun _ _ q=>q
  rcases hc with z|z
  ·rw[z];exact nf b u e
  ·exact nf c _ z
theorem fR_{P:Program}{w:World}{K:PySem.W.Frag}{elts:List Expr}{k:Nat}{pos:Pos}(a e it:Addr)(h1:e≠it)(h2:a≠e)(h3:a≠it):Turn P w K (.Tuple elts k pos) (Ite K a) [e,it] e (fun i h=>(∃old,IsEnum h e it i old)/\h.IsListIter it a i) where
 mem:=by simp
 obj:=fun i h st b hb=>by
  obtain⟨⟨old,q⟩,o,e2,c,d⟩:=st
  rcases List.mem_cons.mp hb with rfl|hb
  ·exact⟨_,q,fun v z=>by cases z⟩
  ·obtain rfl:b=it:=by simpa using hb
   exact⟨o,e2,fun v z=>by rw[d] at z;cases z⟩
 keep:=fun i h h' st kk=>by
  obtain⟨⟨old,q⟩,st2⟩:=st
  exact⟨⟨old,kk e (by simp) _ q⟩,st2.at fun o q2=>kk it (by simp) o q2⟩
 item:=by
  intro X hP hw hK hc i pins s σ H E I hf st hg
  subst hP hw hK
  obtain⟨xs,x,hq,hx⟩:=hg
  obtain⟨its,rv,p,hz⟩:=I.list hq
  obtain⟨u,hu,ru⟩:=rv.get hx
  have W:=WalksT.enumerate (prog:=X.prog) (w:=X.w) (A:=X.A) (I.ok.hd hc) e it a h1 h2 h3 its.toArray
  have hi:i<its.toArray.size:=by
   simp only[List.size_toArray]
   exact (List.getElem?_eq_some_iff.mp hu).1
  obtain⟨old,he⟩:=st.1
  have hit:=st.2
  refine wpAny_pyNext_enum_item he hit p.isList (x:=u) (by rw[List.getElem?_toArray];exact hu) h1 fun h' ho hit' hTo hsz hk=>?_
  have helt:e<s.heap.objs.size:=Heap.lt_size he
  have hilt:it<s.heap.objs.size:=by obtain⟨_,x,_⟩:=hit;exact Heap.lt_size x
  have mid:(∃x,IsEnumOut h' e it ((i:Int)+1) x s.heap.objs.size)/\h'.IsListIter it a (i+1)/\h'.IsList a its.toArray/\s.heap.objs.size≠e/\s.heap.objs.size≠it:=⟨⟨_,ho⟩,hit',p.isList.at fun o x=>hk a o h2 h3 x,Nat.ne_of_gt helt,Nat.ne_of_gt hilt⟩
  have kk:∀b o,b∉[e,it]->s.heap.get? b=some o->h'.get? b=some o:=fun b o hb x=>hk b o (fun e'=>hb (by simp[e'])) (fun e'=>hb (by simp[e'])) x
  have isT:h'.IsTuple s.heap.objs.size #[.int i s.toks,u]:=⟨_,hTo,rfl,_,rfl⟩
  obtain⟨T,eT⟩:∃T,T=s.heap.objs.size:=⟨_,rfl⟩
  obtain⟨t,et⟩:∃t,t=s.toks:=⟨_,rfl⟩
  obtain⟨tk,htk⟩:∃tk,tk=s.toks+1:=⟨_,rfl⟩
  rw[<- eT] at isT mid hTo ⊢
  have hT:s.heap.objs.size<=T:=Nat.le_of_eq eT.symm
  rw[<- et] at isT hTo
  rw[<- htk]
  refine⟨_,rfl,W.go elts k pos i T { s with heap:=h',toks:=tk } _ _ mid fun h2' st' kk2=>?_⟩
  have nT:T∉[e,it]:=W.apart i T h' mid
  have isT2:h2'.IsTuple T #[.int i t,u]:=by
   obtain⟨o,q,r⟩:=isT
   exact⟨o,kk2 T o nT q,r⟩
  have I1:Inv X pins σ (upd H T (.tup [.int i,x])) { s with heap:=h2',toks:=tk }:=I.turnedN (t':=tk) (fp:=[e,it]) (its:=[.int i t,u]) (fun b o hb q=>kk2 b o hb (kk b o hb q)) hf hT (by show 2<=sizeLine;decide) (.cons ⟨t,rfl⟩ (.cons ru .nil)) ⟨isT2,_,kk2 T _ nT hTo,rfl⟩
  refine⟨.ref T,_,I1,rfl,⟨T,x,rfl,I.hok.fresh hT,fun ys hy=>by rw[I.list_inj hy hq];exact hx,rfl⟩,⟨?_,st'.2.1⟩,fun b hb=>?_⟩
  ·obtain⟨old,q⟩:=st'.1
   exact⟨old,by simpa using q⟩
  ·rw[a5_ (fun z:b=T=>nT (by rw[<- z];exact hb))]
   exact (hf b hb).1
 done:=by
  intro X hP hw hK hc i pins s σ H E I hf st hg
  subst hP hw hK
  obtain⟨xs,hq,hx⟩:=hg
  obtain⟨its,rv,p,hz⟩:=I.list hq
  have W:=WalksT.enumerate (prog:=X.prog) (w:=X.w) (A:=X.A) (I.ok.hd hc) e it a h1 h2 h3 its.toArray
  have hn:its.toArray.size=i:=by
   have:=rv.length
   simp only[List.size_toArray]
   omega
  refine W.done s _ _ (by rw[hn];exact⟨st.1,st.2,p.isList⟩) fun h' tk kk=>⟨rfl,I.turnedF (t':=tk) (fp:=[e,it]) kk hf⟩
 self:=fun A i s Q E st h=>by
  obtain⟨old,q⟩:=st.1
  exact wpAny_pyIter_enum q h
def iEnum(K:PySem.W.Frag)(ta:TA):TI:=fun σ H R=>ta σ H fun vs H1=>∃a,vs=[.ref a]/\(∃xs,SqL K H1 a xs)/\R (Ite K a) H1
theorem iP_{X:Cx}{elts:List Expr}{kk:Nat}{p2:Pos}{a:Expr}{ta:TA}{p pos:Pos}(hg:Gl X "enumerate")(hm:X.mg "enumerate"=none)(ha:PA X [a] ta)(hs:starEach [a] X.env=[(false,eval a X.env)]:=by rfl):PI X (.Tuple elts kk p2) (.Call (.Name "enumerate" p) [a] [] pos) (iEnum X.K ta):=by
 intro pins s σ H R I h
 refine Call_ (dG_ I hg hm boot_enumerate (PyProof.Rows.callWith_type1 (thn (ha pos pins s σ H _ I h) fun us s1 ⟨vs,H1,I1,r1,q1⟩=>?_) hs rfl))
 obtain⟨l,e,⟨xs,hq⟩,q⟩:=q1
 subst e
 cases r1 with
 |cons r rr=>
  cases rr
  cases r
  obtain⟨its,rv,pl,hz⟩:=I1.list hq
  have ll:l<s1.heap.objs.size:=by obtain⟨_,e,_⟩:=pl.isList;exact Heap.lt_size e
  refine call_enumerate_list pl.isList fun h' he hi hn kp=>?_
  refine wpAny_pyIter_enum he ?_
  refine⟨s1.heap.objs.size+1,[s1.heap.objs.size+1,s1.heap.objs.size],_,_,H1,rfl,I1.kept (t':=s1.toks) kp,fR_ l _ _ (Nat.succ_ne_self _) (Nat.ne_of_lt (Nat.lt_succ_of_lt ll)) (Nat.ne_of_lt ll),⟨⟨_,he⟩,hi⟩,fun b hb=>?_,q⟩
  have e:s1.heap.objs.size<=b:=by
   rcases List.mem_cons.mp hb with rfl|hb
   ·exact Nat.le_succ _
   ·obtain rfl:b=s1.heap.objs.size:=by simpa using hb
    exact Nat.le_refl _
  exact I1.fpOk e (I1.hok.fresh e)
theorem hf_{K:PySem.W.Frag}{a:Addr}{xs:List V}{g:TG}{tb:TS}{D:Ends}{σ:St}{H:Hp}(Pv:Nat->St->Hp->Prop)(h0:Pv 0 σ H)(hl:∀i σ H,i<=xs.length->Pv i σ H->SqL K H a xs)
  (hs:∀i x σ H,xs[i]? = some x->Pv i σ H->∀t,H t=none->g (.ref t) σ (upd H t (.tup [.int i,x])) fun σ2 H2=>tb { D with nx:=Pv (i+1),ct:=Pv (i+1),bk:=D.nx } σ2 H2) (hd:∀σ H,Pv xs.length σ H->D.nx σ H) :
  ∃W:Nat->Nat->St->Hp->Prop,(∃m,W 0 m σ H)/\∀i m σ H,W i m σ H->
   ((Ite K a).stop i H/\D.nx σ H)∨((Ite K a).go i H/\∃N:St->Hp->Prop,(∀σ' H',N σ' H'->∃m',m'<m/\W (i+1) m' σ' H')/\∀x H',(Ite K a).yld i H x H'->g x σ H' fun σ2 H2=>tb { D with nx:=N,ct:=N,bk:=D.nx } σ2 H2):=by
 refine⟨fun i m σ H=>m=xs.length - i/\i<=xs.length/\Pv i σ H,⟨xs.length,by simp,Nat.zero_le _,h0⟩,?_⟩
 rintro i m σ H ⟨rfl,hi,p⟩
 have q:=hl i σ H hi p
 by_cases hlt:i<xs.length
 ·refine .inr ⟨⟨xs,xs[i],q,by simp[hlt]⟩,Pv (i+1),fun σ' H' p'=>⟨xs.length - (i+1),by omega,rfl,hlt,p'⟩,fun x H' y=>?_⟩
  obtain⟨t,x,rfl,ht,y,rfl⟩:=y
  exact hs i x σ H (y xs q) p t ht
 ·have e:i=xs.length:=by omega
  subst e
  exact .inl ⟨⟨xs,q,rfl⟩,hd σ H p⟩
end L2
set_option Elab.async false
set_option linter.all false
set_option maxRecDepth 100000
namespace L2
open PySem PySem.Spec PyProof.Rows
theorem ObjOk.here{P:Program}{w:World}{H:Hp}{h:Heap}{a:Addr}{o:HO}(x:ObjOk P w H h a o):∃u,h.get? a=some u:=by
 cases o with
 |lst xs=>obtain⟨_,_,_,_,e⟩:=x;exact⟨_,e⟩
 |tup xs=>obtain⟨_,_,_,⟨o,e,_⟩,_⟩:=x;exact⟨_,e⟩
 |dK kvs=>obtain⟨_,_,_,_,o,_,_,e,_⟩:=x;exact⟨_,e⟩
 |dT kvs=>obtain⟨_,_,_,_,o,_,_,e,_⟩:=x;exact⟨_,e⟩
 |set S n=>obtain⟨o,_,_,_,e,_⟩:=x;exact⟨_,e⟩
 |ins C dx fs=>obtain⟨_,_,_,e,_⟩:=x;exact⟨_,e⟩
 |own y=>exact x
 |xd fs=>obtain⟨_,⟨_,_,_,e,_⟩,_⟩:=x;exact⟨_,e⟩
 |rng lo hi=>obtain⟨_,_,_,e⟩:=x;exact⟨_,e⟩
 |frz ob u=>obtain⟨e,_⟩:=x;exact⟨_,e⟩
 |tbl ps=>exact⟨_,show h.get? a=some _ from x⟩
 |met f y=>exact⟨_,show h.get? a=some _ from x⟩
 |ext φ=>obtain⟨_,e,_⟩:=x;exact e
def InB(B:Heap)(l:List Env)(H:Hp)(h0 h:Heap):Prop:=
 ∀b o,h.get? b=some o->b∉frs l->((H b).isSome=true∨∃o0,h0.get? b=some o0)->B.get? b=some o
section
variable{P:Program}{w:World}{H H':Hp}{B h0 h h1:Heap}{l:List Env}
theorem b9_(hok:HOk P w H' h)(fr:∀b∈frs l,H' b=none)(i:InB B l H' h0 h)(st:B.StaysIn h1):HOk P w H' h1:=fun b o e=>
 (hok b o e).stay (fun c u hc q=>by
  have hs:∃x,H' c=some x:=by
   rcases hc with z|z
   ·exact⟨o,z▸e⟩
   ·exact⟨_,z⟩
  obtain⟨x,hx⟩:=hs
  exact st c u (i c u q (fun m=>by rw[fr c m] at hx;cases hx) (.inl (by rw[hx];rfl)))) (fun _ q=>q) (fun _ _ q=>q)
theorem bv_(un:Un (frs l) [] H H' h0 h)(ff:h.FunFrames B l)(i:InB B l H' h0 h)(st:B.StaysIn h1)(up:h.UpToSlots h1):Un (frs l) [] H H' h0 h1 where
 keep:=fun b o q n hb hx=>st b o (i b o (un.keep b o q n hb hx) hb (.inr ⟨o,q⟩))
 slot:=fun b o q n hb hx=>by
  obtain⟨sl,e⟩:=un.slot b o q n hb hx
  obtain⟨_,o',e',d⟩:=ff.mem hb
  rw[e] at e';cases e'
  obtain⟨sl2,e2⟩:=up b _ e d
  exact⟨sl2,e2⟩
 free:=un.free
 there:=fun b o q hx=>by
  obtain⟨o',e⟩:=un.there b o q hx
  by_cases hb:b∈frs l
  ·obtain⟨_,o2,e',d⟩:=ff.mem hb
   rw[e] at e';cases e'
   obtain⟨sl2,e2⟩:=up b _ e d
   exact⟨_,e2⟩
  ·exact⟨o',st b o' (i b o' e hb (.inr ⟨o,q⟩))⟩
 tups:=un.tups
 frzs:=un.frzs
 tbls:=un.tbls
theorem bB_(hok:HOk P w H' h)(un:Un (frs l) [] H H' h0 h)(i:InB B l H' h0 h)(st:B.StaysIn h1):InB B l H' h0 h1:=fun b o e hb c=>by
 have:∃u,h.get? b=some u:=by
  rcases c with z|⟨o0,z⟩
  ·obtain⟨x,hx⟩:=Option.isSome_iff_exists.mp z
   exact (hok b x hx).here
  ·exact un.there b o0 z (by simp)
 obtain⟨u,hu⟩:=this
 have q:=i b u hu hb c
 have:=st b u q
 rw[e] at this;cases this
 exact q
end
def CX1(P:Program)(w:World):CXT:=fun l H s E e s'=>
 ∃a cls H' B a0,e=Value.ref a/\s'.os=s.os/\AllBare s'.gens/\Un (frs l) [] H H' s.heap s'.heap/\HOk P w H' s'.heap/\Heap.FlyingW B l a cls a0 s'.heap/\InB B l H' s.heap s'.heap/\E cls none H'
section
variable{X:Cx}{pins:List (Addr × Obj)}{σ:St}{H H':Hp}{s s1:Shared}{B h:Heap}{a:Addr}{cls a0:Value}{E:XK}
theorem ce_(I:Inv X pins σ H s)(un:Un (frs X.stack) [] H H' s.heap h):∀b∈frs X.stack,H' b=none:=fun b hb=>by
 obtain⟨_,o,ho,_⟩:=I.stack.mem hb
 exact un.free b o ho (I.stkFree b hb) (by simp)
theorem cs_(I:Inv X pins σ H s)(hex:X.ex=[])(os:s1.os=s.os)(bare:AllBare s1.gens)(un:Un (frs X.stack) [] H H' s.heap h)(hok:HOk X.prog X.w H' h)(i:InB B X.stack H' s.heap h)(ff:h.FunFrames B X.stack)(up:h.UpToSlots s1.heap)
  (fl:Heap.FlyingW B X.outer a cls a0 s1.heap) (hE:E cls none H'):CX1 X.prog X.w X.outer X.H₀ X.s₀ E (.ref a) s1:=by
 have un1:=bv_ un ff i fl.1 up
 have hok1:=b9_ hok (ce_ I un) i fl.1
 have I1:Inv X pins σ H' s1:=I.call' os un1 hok1 bare (fun b z=>absurd z (by simp))
 have bs:=I1.base
 rw[hex] at bs
 refine⟨a,cls,H',B,a0,rfl,I1.os,I1.bare,bs,I1.hok,fl,fun b o e hb c=>?_,hE⟩
 have nL:b≠X.env.locals:=by
  rcases c with z|⟨o0,z⟩
  ·intro q
   rw[q,I1.free] at z
   cases z
  ·exact Nat.ne_of_lt (Nat.lt_of_lt_of_le (Heap.lt_size z) I.ok.above)
 refine bB_ hok un i fl.1 b o e (fun hm=>?_) (c.imp id fun⟨o0,z⟩=>I.base.there b o0 z (by rw[hex];simp))
 rcases List.mem_cons.mp (I.stkSub b hm) with z|z
 ·exact nL z
 ·exact hb z
end
section
variable{P:Program}{w:World}{K:PySem.W.Frag}{mg:Str->Option Value}{base:Heap}{N:List Str}{qual:Str}{scope:Scope}{f:Addr}{cd:Value}{A:Around}{outer:List Env}{s:Shared}{H:Hp}{E:XK}
theorem passes1:Passes (CX1 P w) (cxOf (CX1 P w) P w K mg base N qual scope f cd A outer s H E) E:=by
 intro pins σ H1 s1 e s' I hc
 obtain⟨a,cls,H',B,a0,rfl,os,bare,un,hok,fl,i,hE⟩:=hc
 refine wpAny_leaves_onW (base:=B) I.ok.frames rfl fl fun h1 fl1 up=>?_
 exact cs_ (s1:={ s' with heap:=h1 }) I rfl os bare un hok i fl.2.2.1 up fl1 hE
def Raises(X:Cx)(E:XK):Prop:=∀(pins:List (Addr × Obj)) (σ:St) (H:Hp) (s:Shared) (h':Heap) (e:Addr) (cls:Value) (vs:List Value),Inv X pins σ H s->Heap.MadeExcOf s.heap h' e cls vs->E cls none H->X.xe (.ref e) { s with heap:=h' }
theorem raises1:Raises (cxOf (CX1 P w) P w K mg base N qual scope f cd A outer s H E) E:=by
 intro pins σ H1 s1 h' e cls vs I hx hE
 have ff:=PySem.W.funFrames_hide (as:=frs (cxOf (CX1 P w) P w K mg base N qual scope f cd A outer s H E).stack) I.stack (fun env he b hb=>List.mem_filterMap.mpr ⟨env,he,hb⟩)
 refine wpAny_leaves_madeW (base:=PySem.W.hideAll s1.heap (frs (cxOf (CX1 P w) P w K mg base N qual scope f cd A outer s H E).stack)) (h:=s1.heap) I.ok.frames rfl (fun b o q=>PySem.W.of_hideAll _ q) ff hx fun h1 t fl tup nt up=>?_
 exact cs_ (s1:={ s1 with heap:=h1 }) I rfl rfl I.bare Un.refl I.hok (fun b o q hb _=>PySem.W.hideAll_get _ q hb) ff ((Heap.UpToSlots.of_keeps hx.keeps).trans up) fl hE
end
section
variable{X:Cx}{x:Str}{C:Addr}{bm:List Value}{B newId initId:String}{np cpos pos:Pos}{e₀:Expr}{t:TA}{E:XK}
theorem ju_{K:PySem.W.Frag}{h:Heap}{mg:Str->Option Value}{bmB:List Value}(X:K.In h)(hm:mg x=some (.ref C))(q:PySem.W.excIn K C bmB newId=true):OwnCls x C bmB newId mg h:=by
 refine⟨hm,?_⟩
 unfold PySem.W.excIn at q
 split at q
 ·rename_i dd cd sl ho
  split at q
  ·rename_i C' bm k0 k1 k2 k3 n k5 hm' hs
   simp only[Bool.and_eq_true,beq_iff_eq,Bool.not_eq_true'] at q
   obtain⟨⟨⟨⟨⟨rfl,rfl⟩,hdel⟩,ht⟩,hok⟩,hni⟩:=q
   obtain⟨nm,bs,mro,ns,qn,hd,sn,sub,ab,col,del⟩:=cd
   dsimp only at hm' hdel hok hni
   subst hm' hdel
   have hsl:sl=#[k0,k1,k2,k3,some (.builtin n),k5]:=by
    obtain⟨l⟩:=sl
    simp only at hs
    rw[hs]
   subst hsl
   exact⟨bm,ns,nm,qn,bs,hd,sn,sub,ab,col,dd,k0,k1,k2,k3,k5,_,X _ _ ho,.of_isNs (PySem.W.isNs_of_in X hok),PySem.W.nsMap_none_of_in X hok hni,PySem.W.tail_of_in X ht⟩
  ·cases q
 ·cases q
def tRaise(cls:Value)(E:XK)(t:TA):TS:=fun _ σ H=>t σ H fun vs H1=>vs.length<=sizeLine/\E cls none H1
theorem bh_(hh:X.calm=true)(R:Raises X E)(hm:X.mg x=some (.ref C))(qx:PySem.W.excIn X.K C bm newId=true)(FB:ExcBaseFacts B newId initId bm)(hg:Gl X x)(ha:PA X [e₀] t)
  (he:starEach [e₀] X.env=(false,eval e₀ X.env)::starEach [] X.env:=by rfl) (hpl:(backTo cpos (starEach [e₀] X.env)).any (·.1)=false:=by rfl) (hd:(x == ("__debug__":Str))=false:=by decide) :
  PS X (.Raise (some (.Call (.Name x np) [e₀] [] cpos)) none pos) (tRaise (.ref C) E t):=by
 intro pins s σ H D I h
 have O:=ju_ I.ok.mod.kin hm qx
 obtain⟨tl,N,nm,q,bs,hdct,sn,sub,ab,col,dd,k0,k1,k2,k3,k5,mN,hC,hN,hni,T⟩:=O.obj
 refine wpAny_Raise_call_subT (C:=C) (nm:=nm) (q:=q) (N:=N) (bs:=bs) (bm:=tl) (hdct:=hdct) (sn:=sn) (sub:=sub) (ab:=ab) (col:=col) (dd:=dd) (k0:=k0) (k1:=k1) (k2:=k2) (k3:=k3) (k5:=k5)
  FB (mN:=mN) (T.hasType FB.hasBase) (I.ok.hd hh) hpl hni (bJ_ I hg O.bound ⟨rfl,?_⟩ hd)
 have ha':=ha cpos pins s σ H _ I h
 rw[he] at ha' ⊢
 refine Calls.evalArgs_plain (wpAny_mono ha' (fun us s₂ ⟨vs,H1,I1,r,z,q⟩=>⟨rfl,by rw[<- r.length];exact z,I1.bk _ _ hC,hN.keeps I1.bk,T.keeps I1.bk,fun h' e hm=>R pins σ H1 s₂ h' e _ _ I1 hm q⟩) fun _ _ y=>y)
end
section
variable{P:Program}{w:World}{K:PySem.W.Frag}{mg:Str->Option Value}{base:Heap}
theorem Fun.okX{x qual:Str}{st:Stmt}{f:Addr}{fd:FuncData}{N ps:List Str}{k:Nat}{sp:Sp}(F:Fun K x qual st f fd)(S:FnScope N ps (defScope st))(len:∀vs H Q E,sp vs H Q E->vs.length=ps.length)
  (hbody:∀(cdv:Value) (A:Around) (outer:List Env) (s:Shared) (H:Hp) (vs:List V) (Q:VK) (E:XK),Room k (A.deeper (envOfC qual (defScope st) s.heap.objs.size f cdv))->sp vs H Q E->
   ∃t,PSs (cxOf (CX1 P w) P w K mg base N qual (defScope st) f cdv A outer s H E) (defBody st) t/\t { nx:=fun _ H'=>Q .non H',rt:=Q } (start N vs) H):FnOk P w K mg base (CX1 P w) (k+1) f fd ps sp:=by
 obtain⟨oc,od,kV,doc,pm,an,cdv,ct,osl,rfl,lk,hcd⟩:=F.ex
 refine hr_ lk hcd S len fun A outer s H vs Q E hr hsp=>?_
 obtain⟨t,h,q⟩:=hbody cdv A outer s H vs Q E hr hsp
 exact⟨t,h,q⟩
theorem FnOk.up{CX:CXT}{k:Nat}{f:Addr}{fd:FuncData}{ps:List Str}{sp:Sp}(F:FnOk P w K mg base CX0 k f fd ps sp):FnOk P w K mg base CX k f fd ps sp:=
 ⟨F.len,fun A outer s H args us vs Q E hr he hb hv hs=>codeAny_mono (F.run A outer s H args us vs Q E hr he hb hv hs) fun r s' h=>by
  cases r with
  |error e=>exact h.elim
  |ok fl=>cases fl<;>exact h⟩
end
end L2
set_option Elab.async false
set_option linter.all false
set_option maxRecDepth 100000
namespace L2
open PySem PySem.Spec PySem.Calls PyProof.Rows PySem.W Builtin Builtin.ObjectAttr Builtin.Getset_descriptor
structure ExcK (K:PySem.W.Frag) (C:Addr):Prop where
 cl:(clsIn K C).isSome=true
 ga:findIn K (.ref C) "__getattribute__"=some (some (.builtin "BaseException.__getattribute__"))
 ha:findIn K (.ref C) "__getattr__"=some none
 ca:findIn K (.ref C) "__class__"=some (some (.builtin "object.__class__"))
 gt:specialIn K (.builtin "object.__class__") "__get__"=some (some (.builtin "getset_descriptor.__get__"))
 tk:takesIn K (.builtin "object.__class__")=some true
 mo:mroIn K C (.type "object")=some true
 mb:mroIn K C (.type "BaseException")=some true
section
variable{prog:Program}{w:World}{A:Around}{E:Value->Shared->Prop}{s:Shared}{K:PySem.W.Frag}{x C:Addr}
theorem dm_{R:Result->Shared->Prop}{tp:Value}(X:K.In s.heap)(L0:Looks (model prog w) s.heap (typeOf (.ref x)) (.ref C))(hm:mroIn K C (.type "object")=some true)
  (h:R (.ok (.ret (.ref C))) s):codeAny (model prog w) A (.call (.builtin "getset_descriptor.__get__") ⟨[.builtin "object.__class__",.ref x,tp],[]⟩) R s:=by
 obtain⟨hh,g,dr,t,os⟩:=s
 have L1:=looks_mroIn (M:=model prog w) X hm
 refine codeAny_call_builtin KF.slot_gs.plain KF.entry_gs (KF.slot_gs.check _ _ _ _ _ _ _ _ KF.type_class (KF.args_gs _ _ _) ?_)
 unfold Builtin.«getset_descriptor.__get__» descrGet
 rw[dga_obj]
 refine wpAny_bind (wpAny_pure ?_)
 unfold descrGetter descrCheckInstance descrNameAndClass isInstance
 simp only[KF.owner_class]
 repeat lk
 refine⟨Code.quiet_builtin _ (by decide +kernel),codeAny_builtin KF.entry_class ?_⟩
 unfold Builtin.«object.__class__» shownTypeOf
 repeat lk
 exact h
theorem hP_{M:Model}{h:Heap}(k:ExcK K C)(X:K.In h):Looks M h (find (.ref x) (.ref C) "__class__") (.bind (.builtin "getset_descriptor.__get__") (.builtin "object.__class__")):=by
 refine (looks_findIn X k.ca).andThen ((show Looks M h (getOf (some (.builtin "object.__class__"))) _ from looks_specialIn X k.gt).andThen ?_)
 exact (show Looks M h (dataDescriptor? (some _) (some _)) (some (_,_)) from (looks_takesIn X k.tk).andThen .now).andThen (Looks.tag .now)
theorem fo_{tk:Tok}{Q:Fin->Shared->Prop}(k:ExcK K C)(X:K.In s.heap)(L0:Looks (model prog w) s.heap (typeOf (.ref x)) (.ref C))(hq:Q (.done (.ret (.ref C))) s) :
  wpAny (model prog w) A (Builtin.«object.__getattribute__» ⟨[.ref x,.str "__class__" tk],[]⟩) Q E s:=by
 obtain⟨hh,g,dr,t,os⟩:=s
 have L1:=hP_ (M:=model prog w) (x:=x) k X
 unfold Builtin.«object.__getattribute__»
 refine wpAny_bind (wpAny_pure ?_)
 refine wpAny_bind (wpAny_pure ?_)
 refine wpAny_bind (L0.at ?_)
 refine wpAny_bind (L1.at ?_)
 show wpAny _ _ (holding [_] (call _ [_,.ref x,.ref C]) >>= ret) _ _ _
 exact wpAny_bind (wpAny_holding (wpAny_call (dm_ X L0 k.mo (wpAny_pure hq))))
theorem cI_{Q:Option Value->Shared->Prop}(k:ExcK K C)(X:K.In s.heap)(L0:∀M,Looks M s.heap (typeOf (.ref x)) (.ref C))(h:Q (some (.ref C)) { s with toks:=s.toks+1 }) :
  wpAny (model prog w) A (getAttr? (.ref x) "__class__") Q E s:=by
 obtain⟨hh,g,d,t,os⟩:=s
 have L0':=L0 (model prog w)
 have L1:=looks_findIn (M:=model prog w) X k.ga
 have L2:=looks_findIn (M:=model prog w) X k.ha
 have LB:Looks (model prog w) hh (isInstance (.ref x) (.type "BaseException")) true:=L0'.andThen (looks_mroIn X k.mb)
 have hk:builtinKind "BaseException.__getattribute__"=some .slot:=by decide +kernel
 have hsplit:splitId "BaseException.__getattribute__"=some ("BaseException","__getattribute__"):=by decide +kernel
 unfold getAttr? getAttrBy? getAttrBy
 refine wpAny_bind (wpAny_mkText (wpAny_bind (wpAny_attempt (wpAny_holding (wpAny_bind (L0'.at (wpAny_bind (L1.at ?_))))))))
 show wpAny _ _ (getAttrByItsOwn _ _ _ _ _ _) _ _ _
 unfold getAttrByItsOwn hookBefore
 refine wpAny_bind (L2.at ?_)
 refine wpAny_bind (wpAny_attempt (wpAny_holding ?_))
 show wpAny _ _ (boundAndCalled _ _ _) _ _ _
 unfold boundAndCalled
 refine wpAny_bind (wpAny_of_eq (PySem.F.attr_ValueError.ga.bind (.ref x)) ?_)
 refine wpAny_call (codeAny_call_builtin PySem.F.attr_ValueError.ga.plain PySem.F.entry_bexc_ga ?_)
 simp only[checkBuiltinCall,hk,hsplit]
 refine wpAny_bind (LB.at ?_)
 have ha:=PySem.F.args_bexc_ga (.ref x) (.str "__class__" t)
 have key:∀{A':Around} {E':Value->Shared->Prop} {R:Unit->Shared->Prop},R () ⟨hh,g,d,t+1,os⟩->wpAny (model prog w) A' (match Manifest.signature? "BaseException.__getattribute__" with
   |some sig=>Bind.checkArgs "BaseException.__getattribute__" sig { pos:=[Value.ref x]++[Value.str (Str.ofString "__class__") t] }
   |x=>pure ()) R E' ⟨hh,g,d,t+1,os⟩:=by
  intro A' E' R hR
  have ha':(match Manifest.signature? "BaseException.__getattribute__" with
   |some sig=>Bind.checkArgs "BaseException.__getattribute__" sig { pos:=[Value.ref x]++[Value.str (Str.ofString "__class__") t] }
   |x=>pure ())=pure ():=ha
  rw[ha']
  exact wpAny_pure hR
 rw[if_neg (by decide)]
 refine key ?_
 refine fo_ (C:=C) k X L0' ?_
 exact wpAny_pure (wpAny_pure h)
theorem hd_{a:Addr}(k:ExcK K C):KitX K (.ref a) (.ref C) (fun h=>∃o,h.get? a=some o/\o.cls=.ref C) where
 ty:=fun M h _ ⟨o,h1,h2⟩=>h2▸(Looks.ld h1).andThen .now
 it:=fun _ _ X _=>by
  obtain⟨cdD,hcD⟩:=Option.isSome_iff_exists.mp k.cl
  unfold clsIn at hcD
  split at hcD
  ·rename_i c' d' cd' sl' ho
   intro A' Q' E' s' kk q
   unfold isType loadHead
   exact wpAny_bind (wpAny_loadPart (kk _ _ (X _ _ ho)) (wpAny_pure q))
  ·cases hcD
 ne:=fun h tp dd its n sl X htp=>by
  obtain⟨cdD,hcD⟩:=Option.isSome_iff_exists.mp k.cl
  refine Bool.eq_false_iff.mpr fun q=>?_
  have e:C=tp:=Value.ref.inj (beq_iff_eq.mp q)
  subst e
  unfold clsIn at hcD
  split at hcD
  ·rename_i c' d' cd' sl' ho
   have z:=(X _ _ ho).symm.trans htp
   cases z
  ·cases hcD
 ca:=fun X ⟨o,h1,h2⟩ q=>cI_ k X (fun M=>h2▸(Looks.ld h1).andThen .now) q
end
section
variable{X:Cx}
def clsV:V->Option Value
 |.ref C=>some (.ref C)
 |.ty T=>some (.type T)
 |_=>none
theorem hC_{c:V}{u v:Value}(r:RelV c u)(h:clsV c=some v):u=v:=by
 cases c with
 |ref C=>cases h;exact r
 |ty T=>cases h;exact r
 |_=>cases h
def rIsiC(K:PySem.W.Frag):List V->Hp->VK->Prop:=fun xs H Q=>∃x C t b,xs=[x,.ref C]/\TyOf K H x t/\PySem.W.kitOne K t (.ref C)=some b/\Q (.bl b) H
theorem gP_:CallR X (.builtin "isinstance") (rIsiC X.K):=by
 intro pins s σ H xs us Q I r h
 obtain⟨x,C,t,b,rfl,ty,e,q⟩:=h
 obtain⟨u,w',rfl,ru,rw'⟩:=vals2 r
 cases (show w'=Value.ref C from rw')
 exact dU_ I ru ty e fun tk=>⟨.bl b,H,I.tok tk,rfl,q⟩
end
end L2
set_option Elab.async false
set_option linter.all false
set_option maxRecDepth 100000
namespace L2
open PySem PySem.Spec PyProof.Rows
abbrev Cx.inX(X:Cx)(a:Addr):Cx:={ X with A:=X.A.mark (some (.ref a)),calm:=false }
section
variable{X:Cx}{pins:List (Addr × Obj)}{σ:St}{H:Hp}{s:Shared}{a:Addr}
theorem Cx.Ok.inX(ok:X.Ok)(a:Addr):(X.inX a).Ok:=
 ⟨ok.mod,ok.kind,ok.glob,ok.blt,ok.above,ok.inj,ok.has,ok.cab,fun z=>absurd z (by simp),ok.frames,ok.stk,ok.exf,ok.bs,ok.bsz,ok.noex,ok.exfs,ok.funs,ok.frf⟩
theorem Inv.inX(I:Inv X pins σ H s)(a:Addr):Inv (X.inX a) pins σ H s:=⟨I.ok.inX a,I.os,I.bare,I.base,I.loc,I.cell,I.free,I.freeC,I.pin,I.hok,I.len⟩
theorem Inv.outX(ok:X.Ok)(I:Inv (X.inX a) pins σ H s):Inv X pins σ H s:=⟨ok,I.os,I.bare,I.base,I.loc,I.cell,I.free,I.freeC,I.pin,I.hok,I.len⟩
theorem dk_{M:Model}{A:Around}{E:Value->Shared->Prop}{i:Nat}{n:Str}{pos:Pos}{Q:Unit->Shared->Prop}(I:Inv X pins σ H s)(hN:X.N.Nodup)(hi:X.N[i]? = some n)(hl:X.env.scope.names.lookup n=some .local)
  (h:∀s',Inv X pins (σ.set i none) H s'->Q () s'):wpAny M A (do bindName X.env n .none;unbindBehindTheSuite X.env n pos) Q E s:=by
 obtain⟨m,hn,hl'⟩:=id I.loc
 have hcls:(X.env.scope.kind == .class || (X.env.scope.kind == .module&&X.env.locals != X.env.globals))=false:=by rw[I.ok.kind];rfl
 have hiσ:i<σ.length:=by rw[I.len];exact (List.getElem?_eq_some_iff.mp hi).1
 have cne:=I.cne
 refine wpAny_nameGoes_keeps hl hn hcls fun h' v hn' hs=>?_
 obtain⟨oL,_,_,hoL,_⟩:=id hn
 refine h _ ⟨I.ok,I.os,I.bare,⟨fun b o e n hb hx=>?_,fun b o e n hb hx=>?_,I.base.free,fun b o e hx=>?_,I.base.tups,I.base.frzs,I.base.tbls⟩,⟨_,hn',fun j y v' e1 e2 e3=>?_⟩,fun y c e=>?_,I.free,I.freeC,fun p hp=>?_,fun b ob e=>?_,by simpa using I.len⟩
 ·exact (hs.2 b (Nat.ne_of_lt (Nat.lt_of_lt_of_le (Heap.lt_size e) I.ok.above))).trans (I.base.keep b o e n hb hx)
 ·obtain⟨sl,e1⟩:=I.base.slot b o e n hb hx
  exact⟨sl,(hs.2 b (Nat.ne_of_lt (Nat.lt_of_lt_of_le (Heap.lt_size e) I.ok.above))).trans e1⟩
 ·obtain⟨o',e1⟩:=I.base.there b o e hx
  exact⟨o',(hs.2 b (Nat.ne_of_lt (Nat.lt_of_lt_of_le (Heap.lt_size e) I.ok.above))).trans e1⟩
 ·by_cases hj:j=i
  ·subst hj
   rw[List.getElem?_set_self hiσ] at e2
   cases e2
  ·rw[List.getElem?_set_ne (Ne.symm hj)] at e2
   obtain⟨u',r',q⟩:=hl' j y v' e1 e2 e3
   refine⟨u',r',?_⟩
   rcases q with⟨k,e⟩|⟨k,c,e,z⟩
   ·refine .inl ⟨k,?_⟩
    have:y≠n:=fun e=>hj (dh_ hN e1 (e▸hi))
    simp[this,e]
   ·exact .inr ⟨k,c,e,z.sameBut hs (cne y c e)⟩
 ·obtain⟨w',z⟩:=I.cell y c e
  exact⟨w',z.sameBut hs (cne y c e)⟩
 ·obtain⟨e,n,ne,nf,d⟩:=I.pin p hp
  exact⟨(hs.2 p.1 ne).trans e,n,ne,nf,d⟩
 ·refine (I.hok b ob e).stay (fun c w' hc q=>(hs.2 c ?_).trans q) (fun _ q=>q) fun _ _ q=>q
  rintro rfl
  rcases hc with z|hc
  ·rw[<- z,I.free] at e;cases e
  ·rw[I.free] at hc;cases hc
end
section
variable{X:Cx}{st:Stmt}{e c:Expr}{te:XS->TE}{t u:XS->TS}{pos:Pos}{a b:List Stmt}{tc:TT}
end
section
variable{X:Cx}{k:Nat}{f C:Addr}{fd:FuncData}{ps:List Str}{sp:Sp}{dvs:List V}{ds:List Value}{ES:XS}{x m:Str}{p pos apos:Pos}{e o:Expr}{es:List Expr}{ta:TE}{t:TA}
end
section
variable{X:Cx}{i:Nat}{x n:Str}{D C:Addr}{np hpos pos:Pos}{b₀:Stmt}{suite body:List Stmt}{tb:XS->TS}{ts:TS}
def Ends.gone(D:Ends)(i:Nat):Ends:={ nx:=fun σ H=>D.nx (σ.set i none) H,rt:=D.rt,bk:=fun σ H=>D.bk (σ.set i none) H,ct:=fun σ H=>D.ct (σ.set i none) H }
end
end L2
set_option Elab.async false
set_option linter.all false
set_option maxRecDepth 100000
namespace Ev
open PySem L2
abbrev sCell:Stmt:=top 62
abbrev sDigit:Stmt:=top 65
abbrev sGd:Stmt:=top 20
abbrev sFrac:Stmt:=top 22
abbrev sLess:Stmt:=top 23
abbrev sIsRule:Stmt:=top 47
abbrev sWords:Stmt:=top 48
abbrev sGuard:Stmt:=top 49
abbrev sLet:Stmt:=top 50
abbrev sCGuard:Stmt:=top 53
abbrev sCWeight:Stmt:=top 54
abbrev sAlong:Stmt:=top 57
abbrev sGap:Stmt:=top 58
abbrev sMixed:Stmt:=top 63
abbrev sState:Stmt:=top 64
abbrev sCWays:Stmt:=top 35
abbrev sCPiece:Stmt:=top 36
abbrev sCPieces:Stmt:=top 37
abbrev sGoods:Stmt:=top 38
abbrev sCStand:Stmt:=top 40
abbrev sLoadsAt:Stmt:=top 41
abbrev sLM:Stmt:=top 21
abbrev sMult:Stmt:=top 42
abbrev sLevels:Stmt:=top 43
abbrev sSumAt:Stmt:=top 44
abbrev sRowsBy:Stmt:=top 51
abbrev sLeastSum:Stmt:=top 55
abbrev sRestBy:Stmt:=top 56
abbrev sHeavy:Stmt:=top 59
abbrev sWorst:Stmt:=top 60
abbrev sFirstRow:Stmt:=top 31
abbrev sLRules:Stmt:=top 66
abbrev sSure:Stmt:=top 67
abbrev sSaid:Stmt:=top 68
abbrev sFirst:Stmt:=top 69
abbrev sLaw:Stmt:=top 70
def But(l:Addr)(H H':Hp):Prop:=∀b o,H b=some o->b≠l->H' b=some o
theorem But.of{l:Addr}{H H1:Hp}(h:Same H H1):But l H H1:=fun b o e _=>h b o e
theorem But.upd{l:Addr}{H:Hp}{o:HO}:But l H (upd H l o):=fun b u e n=>by rw[a5_ n];exact e
def stt(H:Hp)(l:Addr):Prop:=∃a b c:Int,H l=some (.lst [.int a,.int b,.int c])
theorem stt.same{H H':Hp}{l:Addr}(h:stt H l)(s:Same H H'):stt H' l:=by
 obtain⟨a,b,c,e⟩:=h
 exact⟨a,b,c,s _ _ e⟩
theorem stt.ne{H:Hp}{l a:Addr}(h:stt H l)(e:H a=none):a≠l:=by
 rintro rfl
 obtain⟨x,y,z,h⟩:=h
 rw[e] at h
 cases h
theorem fU_{α:Type}{xs:List α}{i:Int}(h0:0<=i)(h1:i<xs.length):atI xs i=xs[i.toNat]?:=by
 unfold atI ixN
 rw[if_pos h0,if_pos h1]
 rfl
section
variable{P:Program}{w:World}{K:PySem.W.Frag}{mg:Str->Option Value}{base:Heap}
end
end Ev
namespace Ev
open PySem L2
end Ev
namespace Ev
open PySem L2
section
end
end Ev
namespace Ev
open PySem L2
def kO(t:Str × Str):List Key:=kT (ord2 t.1 t.2)
structure TI (ns:List Str) (k j:Nat) (ts:List (Str × Str)):Prop where
 at':∀t∈ts,∃(a b:Nat) (x y:Str),b<a/\(a<k∨(a=k/\b<j))/\ns[a]? = some x/\ns[b]? = some y/\(t=(x,y)∨t=(y,x))
 nd:(ts.map kO).Nodup
 len:ts.length<=7 * k+j
theorem fu_{a b:Str × Str}(h:kT a=kT b):a=b:=by
 unfold kT at h
 obtain⟨h1,h2⟩:=List.cons.inj h
 obtain⟨h2,_⟩:=List.cons.inj h2
 exact Prod.ext (Sum.inr.inj h1) (Sum.inr.inj h2)
end Ev
set_option Elab.async false
set_option linter.all false
set_option maxRecDepth 100000
namespace Ev
open PySem L2
theorem gV_{a b:Str}(h:ltS a b=true):ltS b a=false:=dQ_ (a:=Sum.inr a) (b:=Sum.inr b) h
theorem ip_{a b:Str}(h:ltS a b=false)(h2:ltS b a=false):a=b:=Sum.inr.inj (fD_ (a:=Sum.inr a) (b:=Sum.inr b) h h2)
theorem gT_(a b:Str):ord2 a b=ord2 b a:=by
 unfold ord2
 by_cases h:ltS a b=true
 ·rw[if_pos h,if_neg (by rw[gV_ h];decide)]
 ·by_cases h2:ltS b a=true
  ·rw[if_neg h,if_pos h2]
  ·have:=ip_ (by simpa using h) (by simpa using h2)
   subst this
   rw[if_neg h]
theorem tsOf_mem{ts:List (Str × Str)}{x:Str × Str}:x∈tsOf ts ↔ ∃t∈ts,ord2 t.1 t.2=x:=by
 have e:kT x∈(tsOf ts).map kT ↔ x∈tsOf ts:=⟨fun h=>by
  obtain⟨y,hy,e⟩:=List.mem_map.mp h
  rw[<- fu_ e]
  exact hy,fun h=>List.mem_map.mpr ⟨x,h,rfl⟩⟩
 rw[<- e,cw_,(al_ _).mem_iff,List.mem_map]
 exact⟨fun⟨t,ht,q⟩=>⟨t,ht,fu_ q⟩,fun⟨t,ht,q⟩=>⟨t,ht,by rw[q]⟩⟩
end Ev
set_option Elab.async false
set_option linter.all false
set_option maxRecDepth 100000
namespace L2
open PySem PySem.Spec PyProof.Rows
section
variable{X:Cx}
end
end L2
set_option Elab.async false
set_option linter.all false
set_option maxRecDepth 100000
namespace L2
open PySem PySem.Spec PyProof.Rows PySem.Builtin PySem.Builtin.Str
theorem dN_:∀(l:List (Str × Tok)),Vals ((l.map (·.1)).map V.str) (strValues l)
 |[]=>.nil
 |(x,t)::l=>.cons ⟨t,rfl⟩ (dN_ l)
section
variable{X:Cx}
end
end L2
set_option Elab.async false
set_option linter.all false
set_option maxRecDepth 100000
namespace L2
open PySem PySem.Spec PyProof.Rows PySem.W
section
variable{X:Cx}
end
end L2
set_option Elab.async false
set_option linter.all false
set_option maxRecDepth 100000
namespace Ev
open PySem L2
theorem hitL{α:Type}{p:α->Prop}{xs:List α}{r:Int}{n:Nat}(hn:xs.length=n)(h0:0<=r)(h1:r<(n:Int))(h:∀v∈xs,p v):∃v,atI xs r=some v/\p v:=by
 have hl:r.toNat<xs.length:=by omega
 refine⟨xs[r.toNat],?_,h _ (List.getElem_mem hl)⟩
 rw[fU_ h0 (by omega),List.getElem?_eq_getElem hl]
section
variable{P:Program}{w:World}{K:PySem.W.Frag}{mg:Str->Option Value}{base:Heap}
theorem scCell:FnScope ["_law_script","_law_k"] ["_law_script","_law_k"] (defScope sCell):=⟨rfl,rfl,rfl,by decide +kernel,rfl,by decide +kernel,by decide +kernel⟩
def spCell(K:PySem.W.Frag):Sp:=fun vs H Q _=>∃(l:Addr) (ns:List Int) (k:Int),vs=[.ref l,.int k]/\0<=k/\SqL K H l (ns.map V.int)/\∀n,Q (.int n) H
theorem j9_{f:Addr}{fd:FuncData}(F:Fun K "_law_cell_at" "_law_cell_at" sCell f fd)(B:Bi mg):FnOk P w K mg base CX0 1 f fd ["_law_script","_law_k"] (spCell K):=by
 refine F.ok scCell (fun vs H Q E h=>?_) (fun cdv A outer s H vs Q E hr h=>?_)
 ·obtain⟨l,ns,k,rfl,_⟩:=h
  rfl
 ·obtain⟨l,ns,i,rfl,h0,hl,k⟩:=h
  refine⟨_,a2_ (ak_ (am_ jV_ (pv 1) (a8_ ai_ (by rfl) B.len PySem.boot_len (a0_ (pv 0) a3_)) (nomark _)) (a4_ (aa_ (as_ aI_ (pv 0) (pv 1) (fun _ _=>rfl)))) ac_) (a4_ (aa_ a6_)),?_⟩
  refine⟨_,rfl,_,rfl,l,_,rfl,.inl hl,_,_,rfl,rfl,_,rfl,?_⟩
  refine ite2 (fun c=>?_) (fun c=>?_)
  ·have c:i<(ns.map V.int).length:=by simpa using c
   have e:atI (ns.map V.int) i=some (.int (ns[i.toNat]'(by rw[List.length_map] at c;omega))):=by
    rw[fU_ h0 c,List.getElem?_map,List.getElem?_eq_getElem (by rw[List.length_map] at c;omega)]
    rfl
   exact⟨_,rfl,_,rfl,l,_,_,_,rfl,rfl,hl,e,k _⟩
  ·exact k 0
theorem scMixed:FnScope ["_law_number"] ["_law_number"] (defScope sMixed):=⟨rfl,rfl,rfl,by decide +kernel,rfl,by decide +kernel,by decide +kernel⟩
def spMixed:Sp:=fun vs H Q _=>∃n:Int,vs=[.int n]/\∀r:Int,Q (.int r) H
theorem small(x:Int):-(2 ^ 64)<x % 2147483647/\x % 2147483647<2 ^ 64:=by
 have a:=Int.emod_nonneg x (show (2147483647:Int)≠0 by decide)
 have b:=Int.emod_lt_of_pos x (show (0:Int)<2147483647 by decide)
 omega
theorem small1(x:Int):-(2 ^ 64)<x % 2147483647+1/\x % 2147483647+1<2 ^ 64:=by
 have a:=Int.emod_nonneg x (show (2147483647:Int)≠0 by decide)
 have b:=Int.emod_lt_of_pos x (show (0:Int)<2147483647 by decide)
 omega
theorem hQ_{f:Addr}{fd:FuncData}(F:Fun K "_law_mixed" "_law_mixed" sMixed f fd):FnOk P w K mg base CX0 1 f fd ["_law_number"] spMixed:=by
 refine F.ok scMixed (fun vs H Q E h=>?_) (fun cdv A outer s H vs Q E hr h=>?_)
 ·obtain⟨n,rfl,_⟩:=h
  rfl
 ·obtain⟨n,rfl,k⟩:=h
  refine' ⟨_,a2_ ?s1 (a2_ ?s2 ?s3),?kk⟩
  case s1=>exact ab_ (i:=0) scMixed.nd rfl (Or.inl rfl) (ah_ c9_ (ah_ aN_ (ah_ ba_ (ah_ c9_ (pv 0) a6_) a6_) a6_) a6_)
  case s2=>exact ab_ (i:=0) scMixed.nd rfl (Or.inl rfl) (ah_ c9_ (ah_ aN_ (pv 0) (ah_ ba_ (ah_ b7_ (pv 0) a6_) a6_)) a6_)
  case s3=>exact a4_ (aa_ (ah_ c9_ (ah_ aN_ (ah_ ba_ (pv 0) a6_) (ah_ ba_ (ah_ b7_ (pv 0) a6_) a6_)) a6_))
  case' kk=>skip
  refine⟨_,rfl,_,_,rfl,rfl,by show (0:Int)<2147483647;decide,_,_,rfl,rfl,_,_,rfl,rfl,.inl (small1 n),_,_,rfl,rfl,by show (0:Int)<2147483647;decide,?_⟩
  refine⟨_,rfl,_,rfl,_,_,rfl,rfl,⟨by decide,by decide⟩,_,_,rfl,rfl,_,_,rfl,rfl,.inl (small _),_,_,rfl,rfl,by show (0:Int)<2147483647;decide,?_⟩
  exact⟨_,rfl,_,_,rfl,rfl,_,rfl,_,_,rfl,rfl,⟨by decide,by decide⟩,_,_,rfl,rfl,_,_,rfl,rfl,.inl (small1 _),_,_,rfl,rfl,by show (0:Int)<2147483629;decide,k _⟩
theorem scState:FnScope ["_law_cell","_law_k"] ["_law_cell","_law_k"] (defScope sState):=⟨rfl,rfl,rfl,by decide +kernel,rfl,by decide +kernel,by decide +kernel⟩
def spState:Sp:=fun vs H Q _=>∃(c:Int) (i:Nat),vs=[.int c,.int i]/\i<100/\∀l H',Same H H'->H l=none->stt H' l->Q (.ref l) H'
theorem he_{f:Addr}{fd:FuncData}(F:Fun K "_law_state" "_law_state" sState f fd):FnOk P w K mg base CX0 1 f fd ["_law_cell","_law_k"] spState:=by
 refine F.ok scState (fun vs H Q E h=>?_) (fun cdv A outer s H vs Q E hr h=>?_)
 ·obtain⟨c,i,rfl,_⟩:=h
  rfl
 ·obtain⟨c,i,rfl,hi,k⟩:=h
  refine⟨_,a4_ (aa_ (az_ (a0_ (ah_ b7_ (pv 0) a6_) (a0_ (ah_ c9_ (pv 0) a6_) (a0_ (ah_ ba_ (pv 0) (ah_ aN_ a6_ (pv 1))) a3_))))),?_⟩
  refine⟨_,rfl,_,_,rfl,rfl,⟨by decide,by decide⟩,_,rfl,_,_,rfl,rfl,by show (0:Int)<2;decide,_,rfl,_,rfl,_,_,rfl,rfl,.inl ⟨by decide,by decide⟩,_,_,rfl,rfl,by show 3<=sizeLine;decide,fun l hl=>?_⟩
  exact k l _ (Same.new hl) hl ⟨_,_,_,a1_⟩
theorem scDigit:FnScope ["_law_state_here","_law_base","_law_found"] ["_law_state_here","_law_base"] (defScope sDigit):=⟨rfl,rfl,rfl,by decide +kernel,rfl,by decide +kernel,by decide +kernel⟩
def spDigit:Sp:=fun vs H Q _=>∃(l:Addr) (b:Int),vs=[.ref l,.int b]/\0<b/\b<1073741824/\stt H l/\∀r H',0<=r->r<b->But l H H'->stt H' l->Q (.int r) H'
theorem hJ_{f:Addr}{fd:FuncData}(F:Fun K "_law_digit" "_law_digit" sDigit f fd)(cM:Cal P w K mg base 1 "_law_mixed" ["_law_number"] spMixed):FnOk P w K mg base CX0 2 f fd ["_law_state_here","_law_base"] spDigit:=by
 refine F.ok scDigit (fun vs H Q E h=>?_) (fun cdv A outer s H vs Q E hr h=>?_)
 ·obtain⟨l,b,rfl,_⟩:=h
  rfl
 ·obtain⟨l,b,rfl,h0,h1,⟨x,y,z,hl⟩,k⟩:=h
  refine' ⟨_,a2_ ?s1 (a2_ ?s2 ?s3),?kk⟩
  case s1=>exact ak_ (jr_ (am_ cd_ (as_ aI_ (pv 0) a6_ (fun _ _=>rfl)) a6_ (nomark _)) (j6_ (am_ jM_ (as_ aI_ (pv 0) a6_ (fun _ _=>rfl)) a6_ (nomark _)))).pt (a2_ (ab_ (i:=2) scDigit.nd rfl (Or.inl rfl) (ah_ c9_ (as_ aI_ (pv 0) a6_ (fun _ _=>rfl)) (pv 1))) (a2_ (ig_ (ah_ b7_ (as_ aI_ (pv 0) a6_ (fun _ _=>rfl)) (pv 1)) (ik_ (pv 0) a6_ eM_)) (a4_ (aa_ (pv 2))))) ac_
  case s2=>exact ig_ (ag_ cM hr (a0_ (ah_ ba_ (as_ aI_ (pv 0) a6_ (fun _ _=>rfl)) a6_) a3_)) (ik_ (pv 0) a6_ eM_)
  case s3=>exact a4_ (aa_ (ah_ c9_ (ah_ b7_ (as_ aI_ (pv 0) a6_ (fun _ _=>rfl)) a6_) (pv 1)))
  case' kk=>skip
  have other:∀{R:Prop},R->R:=fun h=>h
  refine⟨_,rfl,l,_,_,_,rfl,rfl,.of hl,rfl,rfl,_,rfl,?_⟩
  refine ite2 (fun c=>?_) (fun c=>?_)
  ·refine⟨_,rfl,l,_,_,_,rfl,rfl,.of hl,rfl,_,_,rfl,rfl,_,rfl,?_⟩
   refine ite2 (fun c2=>?_) (fun c2=>?_)
   ·refine⟨_,rfl,l,_,_,_,rfl,rfl,.of hl,rfl,_,rfl,_,_,rfl,rfl,h0,?_⟩
    refine⟨_,rfl,l,_,_,_,rfl,rfl,.of hl,rfl,_,rfl,_,_,rfl,rfl,⟨h0,h1⟩,_,rfl,l,_,_,0,rfl,rfl,hl,rfl,?_⟩
    exact⟨_,rfl,k _ _ (Int.emod_nonneg _ (by omega)) (Int.emod_lt_of_pos _ h0) But.upd ⟨_,_,_,a1_⟩⟩
   ·refine⟨_,rfl,l,_,_,_,rfl,rfl,.of hl,rfl,_,_,rfl,rfl,_,rfl,fun r=>⟨_,rfl,l,_,_,2,rfl,rfl,hl,rfl,?_⟩⟩
    refine⟨_,rfl,l,_,_,_,rfl,rfl,.of a1_,rfl,_,_,rfl,rfl,⟨by decide,by decide⟩,_,rfl,_,_,rfl,rfl,h0,?_⟩
    exact k _ _ (Int.emod_nonneg _ (by omega)) (Int.emod_lt_of_pos _ h0) But.upd ⟨_,_,_,a1_⟩
  ·refine⟨_,rfl,l,_,_,_,rfl,rfl,.of hl,rfl,_,_,rfl,rfl,_,rfl,fun r=>⟨_,rfl,l,_,_,2,rfl,rfl,hl,rfl,?_⟩⟩
   refine⟨_,rfl,l,_,_,_,rfl,rfl,.of a1_,rfl,_,_,rfl,rfl,⟨by decide,by decide⟩,_,rfl,_,_,rfl,rfl,h0,?_⟩
   exact k _ _ (Int.emod_nonneg _ (by omega)) (Int.emod_lt_of_pos _ h0) But.upd ⟨_,_,_,a1_⟩
end
end Ev
set_option Elab.async false
set_option linter.all false
set_option maxRecDepth 100000
namespace Ev
open PySem L2
theorem seqG{t u:TS}{D:Ends}{σ:St}{H:Hp}(R:St->Hp->Prop)(later:∀σ H,R σ H->u D σ H)(now:∀N:St->Hp->Prop,(∀σ H,R σ H->N σ H)->t { D with nx:=N } σ H):tSeq t u D σ H:=now (u D) later
theorem setG{i:Nat}{v:V}{σ:St}{H:Hp}{N:St->Hp->Prop}(h:N (σ.set i (some v)) H):gName i v σ H N:=h
theorem gx_(ys:List V)(k:Nat):cutV ys none (some (k:Int))=ys.take k:=by
 unfold cutV
 rw[HT.sIx_none,HT.sIx_nat,List.drop_zero,Nat.sub_zero]
 by_cases h:k<=ys.length
 ·rw[Nat.min_eq_left h]
 ·rw[Nat.min_eq_right (by omega),List.take_of_length_le (Nat.le_refl _),List.take_of_length_le (by omega)]
def strOf(hs:List (Str × Int))(n:Str):Int:=((hs.find? fun h=>decide (h.1=n)).map (·.2)).getD 0
theorem aY_{hs:List (Str × Int)}{n:Str}(h:n∈hs.map (·.1)):(n,strOf hs n)∈hs:=by
 unfold strOf
 obtain⟨x,hx,e⟩:=List.mem_map.mp h
 cases q:hs.find? fun h=>decide (h.1=n) with
 |none=>
  have:=List.find?_eq_none.mp q x hx
  simp[e] at this
 |some y=>
  have m:=List.mem_of_find?_eq_some q
  have:=List.find?_some q
  have e2:y.1=n:=by simpa using this
  show (n,y.2)∈hs
  rw[<- e2]
  exact m
def fr(a b:Int):Int × Int:=(a / (Int.gcd a b:Int),b / (Int.gcd a b:Int))
theorem hY_{a b:Int}(ha:0<=a)(h:0<b):Int.gcd b (a % b)=Int.gcd a b:=by
 obtain⟨m,rfl⟩:=Int.eq_ofNat_of_zero_le ha
 obtain⟨n,rfl⟩:=Int.eq_ofNat_of_zero_le (Int.le_of_lt h)
 rw[<- Int.natCast_emod]
 show Nat.gcd n (m % n)=Nat.gcd m n
 rw[Nat.gcd_comm n,<- Nat.gcd_rec,Nat.gcd_comm]
def redF(t d:Int):Int × Int:=(t / (Int.gcd t d:Int),d / (Int.gcd t d:Int))
theorem ir_{t d:Int}(hd:0<d):∃g:Int,0<g/\t=g * (redF t d).1/\d=g * (redF t d).2/\0<(redF t d).2/\Int.gcd (redF t d).1 (redF t d).2=1:=by
 have hg:0<Int.gcd t d:=Int.gcd_pos_of_ne_zero_right t (by omega)
 obtain⟨k,hk⟩:=Int.gcd_dvd_left t d
 obtain⟨m,hm⟩:=Int.gcd_dvd_right t d
 have gp:(0:Int)<(Int.gcd t d:Int):=by omega
 have e1:(redF t d).1=k:=by
  show t / (Int.gcd t d:Int)=k
  exact Int.ediv_eq_of_eq_mul_right (by omega) hk
 have e2:(redF t d).2=m:=by
  show d / (Int.gcd t d:Int)=m
  exact Int.ediv_eq_of_eq_mul_right (by omega) hm
 refine⟨(Int.gcd t d:Int),gp,by rw[e1];exact hk,by rw[e2];exact hm,?_,?_⟩
 ·rw[e2]
  have:0<(Int.gcd t d:Int) * m:=by rw[<- hm];exact hd
  exact Int.pos_of_mul_pos_right this gp
 ·rw[e1,e2]
  have h3:Int.gcd t d=Int.gcd t d * Int.gcd k m:=by
   have:=Int.gcd_mul_left (Int.gcd t d:Int) k m
   rw[<- hk,<- hm] at this
   rw[Int.natAbs_natCast] at this
   exact this
  exact (Nat.eq_of_mul_eq_mul_left hg (by rw[Nat.mul_one];exact h3)).symm
def grS(a x:Int × Int):Int × Int:=if a.1 * x.2<x.1 * a.2 then x else a
def gr(xs:List (Int × Int)):Int × Int:=xs.foldl grS (0,1)
theorem eB_{a1 a2 b1 b2 c1 c2:Int}(ha:0<a2)(hb:0<b2)(hc:0<c2)(h1:a1 * b2<=b1 * a2)(h2:b1 * c2<=c1 * b2):a1 * c2<=c1 * a2:=by
 have k1:=Int.mul_le_mul_of_nonneg_right h1 (Int.le_of_lt hc)
 have k2:=Int.mul_le_mul_of_nonneg_right h2 (Int.le_of_lt ha)
 refine Int.le_of_mul_le_mul_right (a:=b2) ?_ hb
 have e1:a1 * c2 * b2=a1 * b2 * c2:=by grind
 have e2:b1 * a2 * c2=b1 * c2 * a2:=by grind
 have e3:c1 * a2 * b2=c1 * b2 * a2:=by grind
 rw[e1,e3]
 rw[e2] at k1
 exact Int.le_trans k1 k2
theorem fC_:∀(xs:List (Int × Int)) (a:Int × Int),0<a.2->(∀x∈xs,0<x.2)->0<(xs.foldl grS a).2/\(xs.foldl grS a=a∨xs.foldl grS a∈xs)/\a.1 * (xs.foldl grS a).2<=(xs.foldl grS a).1 * a.2/\∀x∈xs,x.1 * (xs.foldl grS a).2<=(xs.foldl grS a).1 * x.2
 |[],a,ha,_=>⟨ha,.inl rfl,Int.le_refl _,by simp⟩
 |x::xs,a,ha,h=>by
  have hx:=h x List.mem_cons_self
  have step:0<(grS a x).2/\(grS a x=a∨grS a x=x)/\a.1 * (grS a x).2<=(grS a x).1 * a.2/\x.1 * (grS a x).2<=(grS a x).1 * x.2:=by
   unfold grS
   by_cases c:a.1 * x.2<x.1 * a.2
   ·rw[if_pos c]
    exact⟨hx,.inr rfl,Int.le_of_lt c,Int.le_refl _⟩
   ·rw[if_neg c]
    exact⟨ha,.inl rfl,Int.le_refl _,by omega⟩
  obtain⟨s1,s2,s3,s4⟩:=step
  obtain⟨r1,r2,r3,r4⟩:=fC_ xs (grS a x) s1 fun y hy=>h y (List.mem_cons_of_mem _ hy)
  refine⟨r1,?_,eB_ ha s1 r1 s3 r3,fun y hy=>?_⟩
  ·rcases r2 with e|e
   ·rcases s2 with z|z
    ·exact .inl (e.trans z)
    ·exact .inr (by rw[List.foldl_cons,e,z];exact List.mem_cons_self)
   ·exact .inr (List.mem_cons_of_mem _ e)
  ·rcases List.mem_cons.mp hy with rfl|hy
   ·exact eB_ hx s1 r1 s4 r3
   ·exact r4 y hy
theorem jt_{a b:Int}(hb:0<b)(hb2:b<=2000000):0<(Int.gcd a b:Int)/\(Int.gcd a b:Int)<1073741824:=by
 have h1:0<Int.gcd a b:=Int.gcd_pos_of_ne_zero_right a (by omega)
 have h2:(Int.gcd a b:Int) ∣ b:=Int.gcd_dvd_right a b
 have h3:=Int.le_of_dvd hb h2
 omega
section
variable{P:Program}{w:World}{K:PySem.W.Frag}{mg:Str->Option Value}{base:Heap}
theorem scGd:FnScope ["one","other","rest","divisor","left"] ["one","other"] (defScope sGd):=⟨rfl,rfl,rfl,by decide +kernel,rfl,by decide +kernel,by decide +kernel⟩
def spGd:Sp:=fun vs H Q _=>∃a b:Int,vs=[.int a,.int b]/\0<=a/\0<b/\Q (.int (Int.gcd a b)) H
theorem k4_{f:Addr}{fd:FuncData}(F:Fun K "greatest_divisor" "greatest_divisor" sGd f fd):FnOk P w K mg base CX0 1 f fd ["one","other"] spGd:=by
 refine F.ok scGd (fun vs H Q E h=>?_) (fun cdv A outer s H vs Q E hr h=>?_)
 ·obtain⟨a,b,rfl,_⟩:=h
  rfl
 ·obtain⟨a,b,rfl,ha,hb,k⟩:=h
  refine' ⟨_,a2_ ?s1 (a2_ ?s2 (a2_ ?s3 ?s4)),?kk⟩
  case s1=>exact ab_ (i:=2) scGd.nd rfl (Or.inl rfl) (pv 0)
  case s2=>exact ab_ (i:=3) scGd.nd rfl (Or.inl rfl) (pv 1)
  case s3=>exact hI_ PassesOwn.never (am_ cu_ (pv 2) a6_ (nomark _)) (a2_ (ab_ (i:=4) scGd.nd rfl (Or.inl rfl) (ah_ c9_ (pv 3) (pv 2))) (a2_ (ab_ (i:=3) scGd.nd rfl (Or.inl rfl) (pv 2)) (a4_ (ab_ (i:=2) scGd.nd rfl (Or.inl rfl) (pv 4)))))
  case s4=>exact a4_ (aa_ (pv 3))
  case' kk=>skip
  refine⟨_,rfl,_,rfl,?_⟩
  refine hu_ (fun σ H'=>H'=H/\∃(r d:Int) (v4:Option V),σ=[some (.int a),some (.int b),some (.int r),some (.int d),v4]/\0<=r/\0<d/\Int.gcd r d=Int.gcd a b) (fun σ _=>match σ with | [_,_,some (.int r),_,_]=>r.toNat|_=>0) ⟨rfl,a,b,none,rfl,ha,hb,rfl⟩ ?_ ?_
  ·rintro σ H' ⟨rfl,r,d,v4,rfl,hr0,hd,e⟩
   refine⟨_,rfl,rfl,_,rfl,?_⟩
   refine ite2 (fun c=>?_) (fun c=>?_)
   ·have hr1:0<r:=by
     have:r≠0:=by
      intro z
      subst z
      simp at c
     omega
    refine⟨_,rfl,_,rfl,_,_,rfl,rfl,hr1,_,rfl,_,rfl,?_⟩
    have h1:=Int.emod_nonneg d (Int.ne_of_gt hr1)
    have h2:=Int.emod_lt_of_pos d hr1
    refine⟨⟨rfl,_,_,_,rfl,h1,hr1,?_⟩,?_⟩
    ·rw[<- e,Int.gcd_comm (d % r) r,hY_ (Int.le_of_lt hd) hr1,Int.gcd_comm]
    ·show (d % r).toNat<r.toNat
     omega
   ·have hr1:r=0:=by simpa using c
    subst hr1
    refine⟨_,rfl,?_⟩
    have e2:(Int.gcd a b:Int)=d:=by
     rw[<- e,Int.gcd_zero_left]
     omega
    rw[<- e2]
    exact k
  ·intro σ H' Q1 Q2 hq h
   obtain⟨x,e,h⟩:=h
   exact⟨x,e,h.1,h.2.choose,h.2.choose_spec.1,hq _ _ h.2.choose_spec.2⟩
theorem scFrac:FnScope ["top","below","divisor"] ["top","below"] (defScope sFrac):=⟨rfl,rfl,rfl,by decide +kernel,rfl,by decide +kernel,by decide +kernel⟩
def spFrac:Sp:=fun vs H Q _=>∃a b:Int,vs=[.int a,.int b]/\0<=a/\0<b/\b<=2000000/\∀t,H t=none->Q (.ref t) (upd H t (.tup [.int (fr a b).1,.int (fr a b).2]))
theorem jm_{f:Addr}{fd:FuncData}(F:Fun K "fraction_of" "fraction_of" sFrac f fd)(cG:Cal P w K mg base 1 "greatest_divisor" ["one","other"] spGd):FnOk P w K mg base CX0 2 f fd ["top","below"] spFrac:=by
 refine F.ok scFrac (fun vs H Q E h=>?_) (fun cdv A outer s H vs Q E hr h=>?_)
 ·obtain⟨a,b,rfl,_⟩:=h
  rfl
 ·obtain⟨a,b,rfl,ha,hb,hb2,k⟩:=h
  have g:=jt_ (a:=a) hb hb2
  refine⟨_,a2_ (ab_ (i:=2) scFrac.nd rfl (Or.inl rfl) (ag_ cG hr (a0_ (pv 0) (a0_ (pv 1) a3_)))) (a4_ (aa_ (aC_ (a0_ (ah_ b7_ (pv 0) (pv 2)) (a0_ (ah_ b7_ (pv 1) (pv 2)) a3_))))),?_⟩
  refine⟨_,rfl,_,rfl,a,b,rfl,ha,hb,?_⟩
  exact⟨_,rfl,_,rfl,_,_,rfl,rfl,g,_,rfl,_,rfl,_,_,rfl,rfl,g,by show 2<=sizeLine;decide,k⟩
theorem scLess:FnScope ["one","other"] ["one","other"] (defScope sLess):=⟨rfl,rfl,rfl,by decide +kernel,rfl,by decide +kernel,by decide +kernel⟩
def FrAt(H:Hp)(a:Addr)(x:Int × Int):Prop:=H a=some (.tup [.int x.1,.int x.2])
theorem FrAt.same{H H':Hp}{a:Addr}{x:Int × Int}(h:FrAt H a x)(s:Same H H'):FrAt H' a x:=s _ _ h
def ltF(x y:Int × Int):Bool:=decide (x.1 * y.2<y.1 * x.2)
def sm(x:Int × Int):Prop:=0<x.2/\x.2<2 ^ 64
def spLess:Sp:=fun vs H Q _=>∃(a b:Addr) (x y:Int × Int),vs=[.ref a,.ref b]/\FrAt H a x/\FrAt H b y/\sm x/\sm y/\Q (.bl (ltF x y)) H
theorem in_{f:Addr}{fd:FuncData}(F:Fun K "is_less" "is_less" sLess f fd):FnOk P w K mg base CX0 1 f fd ["one","other"] spLess:=by
 refine F.ok scLess (fun vs H Q E h=>?_) (fun cdv A outer s H vs Q E hr h=>?_)
 ·obtain⟨a,b,x,y,rfl,_⟩:=h
  rfl
 ·obtain⟨a,b,x,y,rfl,ha,hb,hx,hy,k⟩:=h
  refine⟨_,a4_ (aa_ (aR_ jV_ (ah_ aN_ (as_ ar_ (pv 0) a6_ (fun _ _=>rfl)) (as_ ar_ (pv 1) a6_ (fun _ _=>rfl))) (ah_ aN_ (as_ ar_ (pv 1) a6_ (fun _ _=>rfl)) (as_ ar_ (pv 0) a6_ (fun _ _=>rfl))) (nomark _))),?_⟩
  unfold sm at hx hy
  refine⟨_,rfl,a,_,_,_,rfl,rfl,.of ha,rfl,_,rfl,b,_,_,_,rfl,rfl,.of hb,rfl,_,_,rfl,rfl,.inr ⟨by omega,by omega⟩,?_⟩
  exact⟨_,rfl,b,_,_,_,rfl,rfl,.of hb,rfl,_,rfl,a,_,_,_,rfl,rfl,.of ha,rfl,_,_,rfl,rfl,.inr ⟨by omega,by omega⟩,_,_,rfl,rfl,k⟩
end
end Ev
set_option Elab.async false
set_option linter.all false
set_option maxRecDepth 100000
namespace L2
open PySem PySem.Spec PyProof.Rows
def entsOf(w:World)(l:List (Str × Tok × Value)):List DictEntry:=l.map fun x=>⟨hashStr w x.1,.str x.1 x.2.1,x.2.2⟩
def KDict(K:PySem.W.Frag)(w:World)(d:Addr)(kvs:List (Str × V)):Prop:=
 (d == sysModules)=false/\(kvs.map (·.1)).Nodup/\∃(l:List (Str × Tok × Value)) (o:Obj) (es:Array DictEntry) (ep:Nat),K.lookup d=some o/\o.ExactDict/\o.data=.dict es ep/\es.toList=entsOf w l/\Paired (fun(p:Str × V) (x:Str × Tok × Value)=>p.1=x.1/\RelV p.2 x.2.2) kvs l
theorem dA_{P:Program}{w:World}:∀{l:List (Str × Tok × Value)},Pairs (mixKind P w) (entsOf w l) (l.map fun x=>((Sum.inr x.1:Key),x.2.2))
 |[]=>.nil
 |x::l=>.cons (bI_ P w x.1 x.2.1) rfl (dA_ (l:=l))
theorem eR_{kvs:List (Str × V)}{l:List (Str × Tok × Value)}(h:Paired (fun(p:Str × V) (x:Str × Tok × Value)=>p.1=x.1/\RelV p.2 x.2.2) kvs l):kvs.map (·.1)=l.map (·.1):=by
 induction h with
 |nil=>rfl
 |cons a _ ih=>rw[List.map_cons,List.map_cons,ih,a.1]
theorem KDict.of{P:Program}{K:PySem.W.Frag}{w:World}{d:Addr}{kvs:List (Str × V)}{h:Heap}(k:KDict K w d kvs)(X:K.In h):∃l:List (Str × Tok × Value),Paired (fun(p:Str × V) (x:Str × Tok × Value)=>p.1=x.1/\RelV p.2 x.2.2) kvs l/\h.DictOf (mixKind P w) d (l.map fun x=>((Sum.inr x.1:Key),x.2.2)):=by
 obtain⟨_,nd,l,o,es,ep,ho,hx,hd,he,hp⟩:=k
 refine⟨l,hp,o,es,ep,X _ _ ho,hx,hd,fun e m=>?_,?_,?_⟩
 ·have m:e∈entsOf w l:=by
   rw[<- he]
   simpa using m
  obtain⟨x,_,rfl⟩:=List.mem_map.mp m
  exact⟨Sum.inr x.1,bI_ P w x.1 x.2.1,rfl⟩
 ·rw[he]
  exact dA_
 ·rw[eR_ hp] at nd
  rw[List.map_map,List.nodup_iff_pairwise_ne,List.pairwise_map]
  rw[List.nodup_iff_pairwise_ne,List.pairwise_map] at nd
  exact nd.imp fun n e=>n (Sum.inr.inj e)
theorem ji_{kvs:List (Str × V)}{l:List (Str × Tok × Value)}(h:Paired (fun(p:Str × V) (x:Str × Tok × Value)=>p.1=x.1/\RelV p.2 x.2.2) kvs l)(nd:(kvs.map (·.1)).Nodup){z:Str}{v:V}(m:(z,v)∈kvs):∃u,valueAt (l.map fun x=>((Sum.inr x.1:Key),x.2.2)) (Sum.inr z)=some u/\RelV v u:=by
 unfold valueAt
 induction h with
 |nil=>cases m
 |@cons p x kvs l a _ ih=>
  rw[List.map_cons] at nd ⊢
  rw[List.find?_cons]
  obtain⟨n1,n2⟩:=List.nodup_cons.mp nd
  by_cases e:x.1=z
  ·rcases List.mem_cons.mp m with m|m
   ·subst m
    refine⟨x.2.2,?_,a.2⟩
    simp[e]
   ·exact absurd (by rw[a.1,e];exact List.mem_map.mpr ⟨_,m,rfl⟩) n1
  ·rcases List.mem_cons.mp m with m|m
   ·subst m
    exact absurd a.1.symm e
   ·have:=ih n2 m
    simp[e]
    simpa using this
theorem gf_{kvs:List (Str × V)}{l:List (Str × Tok × Value)}(h:Paired (fun(p:Str × V) (x:Str × Tok × Value)=>p.1=x.1/\RelV p.2 x.2.2) kvs l)(z:Str):(valueAt (l.map fun x=>((Sum.inr x.1:Key),x.2.2)) (Sum.inr z)).isSome=decide (z∈kvs.map (·.1)):=by
 rw[eR_ h]
 unfold valueAt
 rw[Option.isSome_map,List.isSome_find?]
 rw[Bool.eq_iff_iff,List.any_eq_true,decide_eq_true_iff]
 constructor
 ·rintro⟨kv,hm,e⟩
  obtain⟨x,hx,rfl⟩:=List.mem_map.mp hm
  have e:(Sum.inr x.1:Key)=Sum.inr z:=by simpa using e
  exact List.mem_map.mpr ⟨x,hx,Sum.inr.inj e⟩
 ·intro m
  obtain⟨x,hx,e⟩:=List.mem_map.mp m
  exact⟨_,List.mem_map.mpr ⟨x,hx,rfl⟩,by simp[e]⟩
section
variable{X:Cx}{o i:Expr}{pos:Pos}{td ty:TE}
def tKIn(K:PySem.W.Frag)(w:World)(ty td:TE):TE:=fun σ H Q=>ty σ H fun y H1=>td σ H1 fun x H2=>∃d kvs z,x=.ref d/\KDict K w d kvs/\y=.str z/\Q (.bl (decide (z∈kvs.map (·.1)))) H2
theorem i2_(hi:PE X i ty)(ho:PE X o td):PC X .In i o (tKIn X.K X.w ty td):=by
 intro pins s σ H Q I h
 refine thn (hi pins s σ H _ I h) fun iv s1 ⟨y,H1,I1,ry,q1⟩=>thn (ho pins s1 σ H1 _ I1 q1) fun u s2 ⟨x,H2,I2,rx,d,kvs,z,ex,kd,ey,q2⟩=>?_
 subst ex
 subst ey
 obtain rfl:u=Value.ref d:=rx
 obtain⟨l,hp,dd⟩:=kd.of (P:=X.prog) I2.kIn
 refine wpAny_in_of (d6_ (k:=Sum.inr z) ry) kd.1 dd.mapOf ?_
 rw[gf_ hp]
 exact⟨.bl _,H2,I2.tok _,rfl,q2⟩
def tKGet(K:PySem.W.Frag)(w:World)(td ty:TE):TE:=fun σ H Q=>td σ H fun x H1=>ty σ H1 fun y H2=>∃d kvs z v,x=.ref d/\KDict K w d kvs/\y=.str z/\(z,v)∈kvs/\Q v H2
theorem iy_(ho:PE X o td)(hi:PE X i ty)(hs:NoSl i):PE X (.Subscript o i pos) (tKGet X.K X.w td ty):=by
 intro pins s σ H Q I h
 refine gW_ PySem.F.slot_dict_getitem.lookup hs (thn (ho pins s σ H _ I h) fun u s1 ⟨x,H1,I1,rx,q1⟩=>thn (hi pins s1 σ H1 _ I1 q1) fun iv s2 ⟨y,H2,I2,ry,d,kvs,z,v,ex,kd,ey,hm,q2⟩=>?_)
 subst ex
 subst ey
 obtain rfl:u=Value.ref d:=rx
 obtain⟨l,hp,dd⟩:=kd.of (P:=X.prog) I2.kIn
 obtain⟨w',hw,rw'⟩:=ji_ hp kd.2.1 hm
 exact⟨dd.mapOf.typeIs,wpAny_getItem_of (d6_ (k:=Sum.inr z) ry) dd.mapOf hw ⟨v,H2,I2.tok _,rw',q2⟩⟩
end
end L2
set_option Elab.async false
set_option linter.all false
set_option maxRecDepth 100000
namespace Ev
open PySem L2
abbrev Rl:=Str × Str × Str × Option Str
def rl:List Rl:=[("least one high","least","one",some "high"),("least one fall","least","one",some "fall"),("least one calm","least","one",some "calm"),("least all high","least","all",some "high"),("least all fall","least","all",some "fall"),("least all calm","least","all",some "calm"),("below one high","below","one",some "high"),("below one fall","below","one",some "fall"),("below one calm","below","one",some "calm"),("below all high","below","all",some "high"),("below all fall","below","all",some "fall"),("below all calm","below","all",some "calm"),("shares one","shares","one",none),("shares all","shares","all",none),("turns high","turns","all",some "high"),("turns fall","turns","all",some "fall"),("turns calm","turns","all",some "calm")]
def optV:Option Str->V
 |some x=>.str x
 |none=>.non
def rnames:List Str:=rl.map (·.1)
theorem fx_:rnames.Nodup:=by decide +kernel
def rkv(as:List Addr):List (Str × V):=List.zipWith (fun(r:Rl) a=>(r.1,V.ref a)) rl as
structure RulesAt (K:PySem.W.Frag) (w:World) (mg:Str->Option Value) (d:Addr) (as:List Addr):Prop where
 mg:mg "RULES"=some (.ref d)
 len:as.length=17
 kd:KDict K w d (rkv as)
 tup:Paired (fun a (r:Rl)=>∀H,SqT K H a [.str r.2.1,.str r.2.2.1,optV r.2.2.2]) as rl
theorem cr_{as:List Addr}(h:as.length=17):(rkv as).map (·.1)=rnames:=by
 have:∀(rs:List Rl) (as:List Addr),as.length=rs.length->(List.zipWith (fun(r:Rl) a=>(r.1,V.ref a)) rs as).map (·.1)=rs.map (·.1):=by
  intro rs
  induction rs with
  |nil=>intro as _;rfl
  |cons r rs ih=>
   intro as e
   cases as with
   |nil=>cases e
   |cons a as=>
    rw[List.zipWith_cons_cons,List.map_cons,List.map_cons,ih as (by simpa using e)]
 exact this rl as h
theorem id_{K:PySem.W.Frag}:∀{rs:List Rl} {as:List Addr},Paired (fun a (r:Rl)=>∀H,SqT K H a [.str r.2.1,.str r.2.2.1,optV r.2.2.2]) as rs->∀r∈rs,∃a,(r.1,V.ref a)∈List.zipWith (fun(r:Rl) a=>(r.1,V.ref a)) rs as/\∀H,SqT K H a [.str r.2.1,.str r.2.2.1,optV r.2.2.2]
 |_,_,.nil,r,h=>by cases h
 |r0::rs,a::as,.cons h t,r,m=>by
  rw[List.zipWith_cons_cons]
  rcases List.mem_cons.mp m with rfl|m
  ·exact⟨a,List.mem_cons_self,h⟩
  ·obtain⟨b,hb,hs⟩:=id_ t r m
   exact⟨b,List.mem_cons_of_mem _ hb,hs⟩
def inB(ns:List Str):Option Str->Bool
 |some x=>decide (x∈ns)
 |none=>false
section
variable{P:Program}{w:World}{K:PySem.W.Frag}{mg:Str->Option Value}{base:Heap}
theorem scIsRule:FnScope ["thing"] ["thing"] (defScope sIsRule):=⟨rfl,rfl,rfl,by decide +kernel,rfl,by decide +kernel,by decide +kernel⟩
def spIsRule:Sp:=fun vs H Q _=>∃r∈rl,vs=[.str r.1]/\Q (.bl true) H
theorem gd_{f d:Addr}{as:List Addr}{fd:FuncData}(F:Fun K "is_rule" "is_rule" sIsRule f fd)(B:Bi mg)(R:RulesAt K w mg d as):FnOk P w K mg base CX0 1 f fd ["thing"] spIsRule:=by
 refine F.ok scIsRule (fun vs H Q E h=>?_) (fun cdv A outer s H vs Q E hr h=>?_)
 ·obtain⟨r,hr,rfl,_⟩:=h
  rfl
 ·obtain⟨r,hr',rfl,k⟩:=h
  refine⟨_,a4_ (aa_ (aX_ (a8_ ap_ (by rfl) B.isi PyProof.Rows.Boot.«isinstance» (a0_ (pv 0) (a0_ (aA_ (v:=.ty "str") (by rfl) B.str PyProof.Rows.Boot.«str» rfl) a3_))) (aO_ (dx_ (i2_ (pv 0) (aK_ (v:=.ref d) (by rfl) R.mg rfl)))))),?_⟩
  refine⟨_,rfl,_,_,_,_,rfl,.str r.1,rfl,_,rfl,iteT ⟨_,rfl,d,_,r.1,rfl,R.kd,rfl,?_⟩⟩
  rw[cr_ R.len,show decide (r.1∈rnames)=true from decide_eq_true (List.mem_map.mpr ⟨r,hr',rfl⟩)]
  exact k
theorem scWords:FnScope ["rule"] ["rule"] (defScope sWords):=⟨rfl,rfl,rfl,by decide +kernel,rfl,by decide +kernel,by decide +kernel⟩
def spWords(K:PySem.W.Frag):Sp:=fun vs H Q _=>∃r∈rl,vs=[.str r.1]/\∀a,(∀H',SqT K H' a [.str r.2.1,.str r.2.2.1,optV r.2.2.2])->Q (.ref a) H
theorem hv_{f d:Addr}{as:List Addr}{fd:FuncData}(F:Fun K "checked_words" "checked_words" sWords f fd)(R:RulesAt K w mg d as)(cI:Cal P w K mg base 1 "is_rule" ["thing"] spIsRule):FnOk P w K mg base CX0 2 f fd ["rule"] (spWords K):=by
 refine F.ok scWords (fun vs H Q E h=>?_) (fun cdv A outer s H vs Q E hr h=>?_)
 ·obtain⟨r,hr,rfl,_⟩:=h
  rfl
 ·obtain⟨r,hr',rfl,k⟩:=h
  refine⟨_,a2_ (ak_ (av_ (ax_ (ag_ cI hr (a0_ (pv 0) a3_)))) (a4_ do_) ac_) (a4_ (aa_ (iy_ (aK_ (v:=.ref d) (by rfl) R.mg rfl) (pv 0) (fun _ _=>rfl)))),?_⟩
  obtain⟨a,ha,hs⟩:=id_ R.tup r hr'
  exact⟨_,rfl,r,hr',rfl,_,rfl,iteF ⟨_,rfl,d,_,r.1,.ref a,rfl,R.kd,rfl,ha,k a hs⟩⟩
def guB(gs:List Str)(r:Rl):Bool:=decide (r.2.1="shares") || (inB gs r.2.2.2&&(decide (r.2.1="turns") || decide (r.2.2.1="one")))
theorem scGuard:FnScope ["rule","guards","words"] ["rule","guards"] (defScope sGuard):=⟨rfl,rfl,rfl,by decide +kernel,rfl,by decide +kernel,by decide +kernel⟩
def spGuard(K:PySem.W.Frag):Sp:=fun vs H Q E=>∃r∈rl,∃t gs,vs=[.str r.1,.ref t]/\H t=some (.tup (gs.map V.str))/\Q (.bl (guB gs r)) H
theorem jb_:∀r∈rl,r.2.1≠"shares"->r.2.2.2.isSome=true:=by decide +kernel
theorem dn_(x:Str)(gs:List Str):inV (.str x) (gs.map V.str)=decide (x∈gs):=by
 unfold inV
 induction gs with
 |nil=>rfl
 |cons g gs ih=>
  rw[List.map_cons,List.any_cons,ih]
  have:eqV (V.str g) (V.str x)=decide (g=x):=by
   unfold eqV
   by_cases e:g=x
   ·simp[e]
   ·simp[e]
  rw[this]
  by_cases e:g=x
  ·simp[e]
  ·have e2:¬x=g:=fun z=>e z.symm
   simp[e,e2]
theorem bq_(gs:List Str):(gs.map V.str).all flatV=true:=by
 rw[List.all_eq_true]
 intro v hv
 obtain⟨x,_,rfl⟩:=List.mem_map.mp hv
 rfl
theorem h6_{f:Addr}{fd:FuncData}(F:Fun K "is_shares_or_guarded_by" "is_shares_or_guarded_by" sGuard f fd)(cW:Cal P w K mg base 2 "checked_words" ["rule"] (spWords K)):FnOk P w K mg base CX0 3 f fd ["rule","guards"] (spGuard K):=by
 refine F.ok scGuard (fun vs H Q E h=>?_) (fun cdv A outer s H vs Q E hr h=>?_)
 ·obtain⟨r,hr,t,gs,rfl,_⟩:=h
  rfl
 ·obtain⟨r,hr',t,gs,rfl,ht,k⟩:=h
  refine' ⟨_,a2_ ?s1 (a2_ ?s2 ?s3),?kk⟩
  case s1=>exact ab_ (i:=2) scGuard.nd rfl (Or.inl rfl) (ag_ cW hr (a0_ (pv 0) a3_))
  case s2=>exact ak_ (am_ cd_ (as_ ar_ (pv 2) a6_ (fun _ _=>rfl)) a9_ (nomark _)) (a4_ (aa_ bu_)) ac_
  case s3=>exact a4_ (aa_ (aX_ (aR_ fw_ (as_ ar_ (pv 2) a6_ (fun _ _=>rfl)) (pv 1) (by with_unfolding_all rfl)) (aO_ (iL_ (aR_ cd_ (as_ ar_ (pv 2) a6_ (fun _ _=>rfl)) a9_ (nomark _)) (aO_ (aR_ cd_ (as_ ar_ (pv 2) a6_ (fun _ _=>rfl)) a9_ (nomark _)))))))
  case' kk=>skip
  refine⟨_,rfl,r,hr',rfl,fun a ha=>?_⟩
  have deq:∀x y:Str,decide (V.str x=V.str y)=decide (x=y):=fun x y=>by
   by_cases e:x=y
   ·simp[e]
   ·simp[e]
  refine⟨_,rfl,a,_,_,_,rfl,rfl,ha H,rfl,rfl,_,rfl,?_⟩
  rw[deq]
  unfold guB at k
  refine ite2 (fun c=>?_) (fun c=>?_)
  ·rw[c,Bool.true_or] at k
   exact k
  ·have c':decide (r.2.1="shares")=false:=by simpa using c
   rw[c',Bool.false_or] at k
   have hs:=jb_ r hr' (by simpa using c)
   obtain⟨g,eg⟩:=Option.isSome_iff_exists.mp hs
   rw[eg] at k ha
   refine⟨_,rfl,a,_,_,_,rfl,rfl,ha H,rfl,_,rfl,t,_,rfl,.inr (.of ht),rfl,bq_ gs,_,rfl,?_⟩
   rw[if_neg Bool.false_ne_true,show inV (optV (some g)) (gs.map V.str)=decide (g∈gs) from dn_ g gs]
   have k:Q (.bl (decide (g∈gs)&&(decide (r.2.1="turns") || decide (r.2.2.1="one")))) H:=k
   refine ite2 (fun c2=>?_) (fun c2=>?_)
   ·rw[c2,Bool.true_and] at k
    refine⟨_,rfl,a,_,_,_,rfl,rfl,ha H,rfl,rfl,_,rfl,?_⟩
    rw[deq]
    refine ite2 (fun c3=>?_) (fun c3=>?_)
    ·rw[c3,Bool.true_or] at k
     exact k
    ·rw[show decide (r.2.1="turns")=false by simpa using c3,Bool.false_or] at k
     refine⟨_,rfl,a,_,_,_,rfl,rfl,ha H,rfl,rfl,?_⟩
     rw[deq]
     exact k
   ·rw[show decide (g∈gs)=false by simpa using c2,Bool.false_and] at k
    exact k
theorem scLet:FnScope ["rule"] ["rule"] (defScope sLet):=⟨rfl,rfl,rfl,by decide +kernel,rfl,by decide +kernel,by decide +kernel⟩
def spLet:Sp:=fun vs H Q _=>∃r∈rl,vs=[.str r.1]/\∀H',Same H H'->Q (.bl (guB ["fall","calm"] r)) H'
theorem if_{f:Addr}{fd:FuncData}(F:Fun K "is_let_by" "is_let_by" sLet f fd)(cG:Cal P w K mg base 3 "is_shares_or_guarded_by" ["rule","guards"] (spGuard K)):FnOk P w K mg base CX0 4 f fd ["rule"] spLet:=by
 refine F.ok scLet (fun vs H Q E h=>?_) (fun cdv A outer s H vs Q E hr h=>?_)
 ·obtain⟨r,hr,rfl,_⟩:=h
  rfl
 ·obtain⟨r,hr',rfl,k⟩:=h
  refine⟨_,a4_ (aa_ (ag_ cG hr (a0_ (pv 0) (a0_ (aC_ (a0_ a9_ (a0_ a9_ a3_))) a3_)))),?_⟩
  refine⟨_,rfl,by show 2<=sizeLine;decide,fun t ht=>?_⟩
  exact⟨r,hr',t,["fall","calm"],rfl,a1_,k _ (Same.new ht)⟩
theorem scCGuard:FnScope ["rule"] ["rule"] (defScope sCGuard):=⟨rfl,rfl,rfl,by decide +kernel,rfl,by decide +kernel,by decide +kernel⟩
def spCGuard:Sp:=fun vs H Q _=>∃r∈rl,vs=[.str r.1]/\guB ["fall","calm"] r=true/\∀H',Same H H'->Q (optV r.2.2.2) H'
theorem dO_{f:Addr}{fd:FuncData}(F:Fun K "checked_guard" "checked_guard" sCGuard f fd)(cL:Cal P w K mg base 4 "is_let_by" ["rule"] spLet)(cW:Cal P w K mg base 2 "checked_words" ["rule"] (spWords K)):FnOk P w K mg base CX0 5 f fd ["rule"] spCGuard:=by
 refine F.ok scCGuard (fun vs H Q E h=>?_) (fun cdv A outer s H vs Q E hr h=>?_)
 ·obtain⟨r,hr,rfl,_⟩:=h
  rfl
 ·obtain⟨r,hr',rfl,g,k⟩:=h
  have hr2:Room 2 _:=hr.mono (by decide)
  refine⟨_,a2_ (ak_ (av_ (ax_ (ag_ cL hr (a0_ (pv 0) a3_)))) (a4_ do_) ac_) (a4_ (aa_ (as_ ar_ (ag_ cW hr2 (a0_ (pv 0) a3_)) a6_ (fun _ _=>rfl)))),?_⟩
  refine⟨_,rfl,r,hr',rfl,fun H1 s1=>⟨_,rfl,?_⟩⟩
  rw[g]
  refine iteF ⟨_,rfl,r,hr',rfl,fun a ha=>?_⟩
  exact⟨a,_,_,_,rfl,rfl,ha H1,rfl,k _ s1⟩
theorem scCWeight:FnScope ["thing"] ["thing"] (defScope sCWeight):=⟨rfl,rfl,rfl,by decide +kernel,rfl,by decide +kernel,by decide +kernel⟩
def spCWeight:Sp:=fun vs H Q _=>∃x:Int,vs=[.int x]/\1<=x/\x<=1000000000/\Q .non H
theorem cO_{f:Addr}{fd:FuncData}{tk:Tok}(F:Fun K "check_weight" "check_weight" sCWeight f fd)(mW:mg "MOST_WEIGHT"=some (.int 1000000000 tk))(cW:Cal P w K mg base 2 "is_whole_within" ["thing","least","most"] spWhole):FnOk P w K mg base CX0 3 f fd ["thing"] spCWeight:=by
 refine F.ok scCWeight (fun vs H Q E h=>?_) (fun cdv A outer s H vs Q E hr h=>?_)
 ·obtain⟨r,rfl,_⟩:=h
  rfl
 ·obtain⟨x,rfl,h1,h2,k⟩:=h
  refine⟨_,a4_ (ak_ (av_ (ax_ (ag_ cW hr (a0_ (pv 0) (a0_ a6_ (a0_ (aK_ (v:=.int 1000000000) (by rfl) mW ⟨_,rfl⟩) a3_)))))) (a4_ do_) ac_),?_⟩
  refine⟨_,rfl,x,1,1000000000,rfl,_,rfl,?_⟩
  rw[decide_eq_true h1,decide_eq_true h2]
  exact iteF k
end
end Ev
set_option Elab.async false
set_option linter.all false
set_option maxRecDepth 100000
namespace Ev
open PySem L2
def bnd(g:Option Str)(wt m s r:Int):Int × Int:=if g=some "fall" then (wt * (s+r),2 * s * r) else if g=some "calm" then (wt * (s+r) - 1,s * r) else (wt * (s+r) * (m+1) - 1,s * r)
theorem ib_{g:Option Str}{wt m s r:Int}(w1:1<=wt)(w2:wt<=1000000000)(m0:0<=m)(m8:m<=1000)(s1:1<=s)(s2:s<=1000)(r1:1<=r)(r2:r<=1000):0<=(bnd g wt m s r).1/\0<(bnd g wt m s r).2/\(bnd g wt m s r).2<=2000000:=by
 have a:0<s * r:=Int.mul_pos (by omega) (by omega)
 have b:s * r<=1000 * 1000:=Int.mul_le_mul s2 r2 (by omega) (by decide)
 have c:1 * 2<=wt * (s+r):=Int.mul_le_mul w1 (by omega) (by decide) (by omega)
 have d:wt * (s+r) * 1<=wt * (s+r) * (m+1):=Int.mul_le_mul_of_nonneg_left (by omega) (by omega)
 have e:2 * s * r=2 * (s * r):=Int.mul_assoc _ _ _
 unfold bnd
 split
 ·exact⟨by show 0<=wt * (s+r);omega,by show 0<2 * s * r;omega,by show 2 * s * r<=_;omega⟩
 ·split
  ·exact⟨by show 0<=wt * (s+r) - 1;omega,by show 0<s * r;omega,by show s * r<=_;omega⟩
  ·exact⟨by show 0<=wt * (s+r) * (m+1) - 1;omega,by show 0<s * r;omega,by show s * r<=_;omega⟩
def isMost(hs:List (Str × Int))(ts:List (Str × Str))(m:Int):Prop:=m∈lens hs ts/\∀a∈lens hs ts,a<=m
theorem isMost.pos{hs:List (Str × Int)}{ts:List (Str × Str)}{m:Int}(h:isMost hs ts m)(G:Good hs ts):0<=m/\m<=1000:=by
 obtain⟨n,hn,rfl⟩:=List.mem_map.mp h.1
 have:(near (nmsOf hs) (tsOf ts) n).length<=(nmsOf hs).length:=List.length_filter_le _ _
 have:=G.nlen
 have:=G.h8
 omega
theorem isMost.eq{hs:List (Str × Int)}{ts:List (Str × Str)}{m m':Int}(h:isMost hs ts m)(h':isMost hs ts m'):m=m':=by
 have:=h.2 _ h'.1
 have:=h'.2 _ h.1
 omega
section
variable{P:Program}{w:World}{K:PySem.W.Frag}{mg:Str->Option Value}{base:Heap}
theorem scAlong:FnScope ["web","weight","guard","tie","s","r","burden"] ["web","weight","guard","tie"] (defScope sAlong):=⟨rfl,rfl,rfl,by decide +kernel,rfl,by decide +kernel,by decide +kernel⟩
def spAlong(K:PySem.W.Frag)(C:Addr):Sp:=fun vs H Q _=>∃(p t:Addr) (wt m:Int) (g:Option Str) (tt:Str × Str) (hs:List (Str × Int)) (ts:List (Str × Str)) (fp:List Addr),vs=[.ref p,.int wt,optV g,.ref t]/\WebAt K C H p hs ts fp/\Good hs ts/\H t=some (.tup ((kT tt).map kV))/\tt.1∈hs.map (·.1)/\tt.2∈hs.map (·.1)/\1<=wt/\wt<=1000000000/\isMost hs ts m /\
 ∀a H',Same H H'->H a=none->FrAt H' a (redF (bnd g wt m (strOf hs tt.1) (strOf hs tt.2)).1 (bnd g wt m (strOf hs tt.1) (strOf hs tt.2)).2)->Q (.ref a) H'
theorem dr_(g:Option Str)(x:Str):scal (optV g) (.str x)=true/\decide (optV g=.str x)=decide (g=some x):=by
 cases g with
 |none=>exact⟨rfl,by rw[decide_eq_false (by intro z;cases z),decide_eq_false (by intro z;cases z)]⟩
 |some y=>
  refine⟨rfl,?_⟩
  show decide (V.str y=V.str x)=_
  by_cases e:y=x
  ·simp[e]
  ·simp[e]
theorem hs_{f C:Addr}{fd:FuncData}(F:Fun K "gap_along" "gap_along" sAlong f fd)(T:Txt K mg C)(cS:CalM P w K mg base C 2 "strength" ["self","hand"] (spStrength K C))(cM:CalM P w K mg base C 1 "most_neighbours" ["self"] (spMost K C))(cF:Cal P w K mg base 2 "fraction_of" ["top","below"] spFrac):FnOk P w K mg base CX0 3 f fd ["web","weight","guard","tie"] (spAlong K C):=by
 refine F.ok scAlong (fun vs H Q E h=>?_) (fun cdv A outer s H vs Q E hr h=>?_)
 ·obtain⟨p,t,wt,m,g,tt,hs,ts,fp,rfl,_⟩:=h
  rfl
 ·obtain⟨p,t,wt,m,g,tt,hs,ts,fp,rfl,W,G,ht,i1,i2,w1,w2,M,k⟩:=h
  have sz:=sizeLine_eq
  have hr1:Room 1 _:=hr.mono (by decide)
  refine' ⟨_,?r0,?kk⟩
  case' r0=>refine' a2_ ?s1 ?r1
  case' r1=>refine' a2_ ?s2 ?r2
  case' r2=>refine' a2_ ?s3 ?r3
  case' r3=>refine' a2_ ?s4 ?r4
  case' r4=>refine' a2_ ?s5 ?r5
  case' r5=>refine' a4_ ?s6
  case s1=>exact ab_ (i:=4) scAlong.nd rfl (Or.inl rfl) (bR_ cS T.cl hr (pv 0) (a0_ (as_ ar_ (pv 3) a6_ (fun _ _=>rfl)) a3_))
  case s2=>exact ab_ (i:=5) scAlong.nd rfl (Or.inl rfl) (bR_ cS T.cl hr (pv 0) (a0_ (as_ ar_ (pv 3) a6_ (fun _ _=>rfl)) a3_))
  case s3=>exact ab_ (i:=6) scAlong.nd rfl (Or.inl rfl) (ah_ aN_ (pv 1) (ah_ ba_ (pv 4) (pv 5)))
  case s4=>exact ak_ (am_ cd_ (pv 2) a9_ (nomark _)) (a4_ (aa_ (ag_ cF hr (a0_ (pv 6) (a0_ (ah_ aN_ (ah_ aN_ a6_ (pv 4)) (pv 5)) a3_))))) ac_
  case s5=>exact ak_ (am_ cd_ (pv 2) a9_ (nomark _)) (a4_ (aa_ (ag_ cF hr (a0_ (ah_ ev_ (pv 6) a6_) (a0_ (ah_ aN_ (pv 4) (pv 5)) a3_))))) ac_
  case s6=>exact aa_ (ag_ cF hr (a0_ (ah_ ev_ (ah_ aN_ (pv 6) (ah_ ba_ (bW_ cM T.cl hr1 (pv 0)) a6_)) a6_) (a0_ (ah_ aN_ (pv 4) (pv 5)) a3_)))
  case' kk=>skip
  have ht':H t=some (.tup [.str tt.1,.str tt.2]):=ht
  have m1:=aY_ i1
  have m2:=aY_ i2
  have g1:=(G.hok _ m1).2
  have g2:=(G.hok _ m2).2
  dsimp only at g1 g2
  have ok:=ib_ (g:=g) w1 w2 (M.pos G).1 (M.pos G).2 g1.1 g1.2 g2.1 g2.2
  generalize strOf hs tt.1=sa at m1 g1 ok k
  generalize strOf hs tt.2=sb at m2 g2 ok k
  obtain⟨dx,d1,l2,d3,zs,as,efp,e1,e2,e3,e4,e5,e6,e7⟩:=W.ex
  have hnS:(flds d1 l2 d3).lookup ("strength":Str)=none:=aG_ _ _ _ (by decide +kernel) (by decide +kernel) (by decide +kernel)
  have hnM:(flds d1 l2 d3).lookup ("most_neighbours":Str)=none:=aG_ _ _ _ (by decide +kernel) (by decide +kernel) (by decide +kernel)
  refine⟨_,rfl,p,dx,_,rfl,e1,hnS,_,rfl,t,_,_,_,rfl,rfl,.of ht',rfl,p,tt.1,sa,hs,ts,fp,rfl,W,G.hnd,m1,?_⟩
  refine⟨_,rfl,p,dx,_,rfl,e1,hnS,_,rfl,t,_,_,_,rfl,rfl,.of ht',rfl,p,tt.2,sb,hs,ts,fp,rfl,W,G.hnd,m2,?_⟩
  refine⟨_,rfl,_,rfl,_,rfl,_,_,rfl,rfl,_,_,rfl,rfl,.inl ⟨by omega,by omega⟩,?_⟩
  refine⟨_,rfl,(dr_ g "fall").1,_,rfl,?_⟩
  rw[(dr_ g "fall").2]
  unfold bnd at ok k
  refine ite2 (fun c=>?_) (fun c=>?_)
  ·have c':g=some "fall":=by simpa using c
   rw[if_pos c'] at ok k
   refine⟨_,rfl,_,rfl,_,_,rfl,rfl,.inl ⟨by decide,by decide⟩,_,rfl,_,_,rfl,rfl,.inr ⟨by omega,by omega⟩,_,_,rfl,ok.1,ok.2.1,ok.2.2,fun a ha=>k a _ (Same.new ha) ha a1_⟩
  ·have c':¬g=some "fall":=by simpa using c
   rw[if_neg c'] at ok k
   refine⟨_,rfl,(dr_ g "calm").1,_,rfl,?_⟩
   rw[(dr_ g "calm").2]
   refine ite2 (fun c2=>?_) (fun c2=>?_)
   ·have c2':g=some "calm":=by simpa using c2
    rw[if_pos c2'] at ok k
    exact⟨_,rfl,_,_,rfl,rfl,_,rfl,_,rfl,_,_,rfl,rfl,.inr ⟨by omega,by omega⟩,_,_,rfl,ok.1,ok.2.1,ok.2.2,fun a ha=>k a _ (Same.new ha) ha a1_⟩
   ·have c2':¬g=some "calm":=by simpa using c2
    rw[if_neg c2'] at ok k
    refine⟨_,rfl,_,rfl,p,dx,_,rfl,e1,hnM,p,hs,ts,fp,rfl,W,by rw[G.nlen];exact G.h1,by have:=G.nlen;have:=G.h8;omega,fun m' H1 s1 hm1 hm2=>?_⟩
    obtain rfl:m=m':=M.eq ⟨hm1,hm2⟩
    have mp:=M.pos G
    exact⟨_,_,rfl,rfl,_,_,rfl,rfl,.inr ⟨by omega,by omega⟩,_,_,rfl,rfl,_,rfl,_,rfl,_,_,rfl,rfl,.inr ⟨by omega,by omega⟩,_,_,rfl,ok.1,ok.2.1,ok.2.2,fun a ha=>k a _ (s1.trans (Same.new ha)) (s1.free ha) a1_⟩
end
end Ev
set_option Elab.async false
set_option linter.all false
set_option maxRecDepth 100000
namespace Ev
open PySem L2
def own1(g:Option Str)(wt m:Int)(hs:List (Str × Int))(t:Str × Str):Int × Int:=bnd g wt m (strOf hs t.1) (strOf hs t.2)
def gapT(g:Option Str)(wt m:Int)(hs:List (Str × Int))(t:Str × Str):Int × Int:=redF (own1 g wt m hs t).1 (own1 g wt m hs t).2
def gapL(g:Option Str)(wt m:Int)(hs:List (Str × Int))(l:List (Str × Str)):Int × Int:=gr (l.map (gapT g wt m hs))
structure Ok (wt m:Int) (hs:List (Str × Int)) (ts:List (Str × Str)):Prop where
 w1:1<=wt
 w2:wt<=1000000000
 G:Good hs ts
 M:isMost hs ts m
theorem gu_{hs:List (Str × Int)}{ts:List (Str × Str)}(G:Good hs ts){t:Str × Str}(h:t∈tsOf ts):t.1∈hs.map (·.1)/\t.2∈hs.map (·.1):=by
 obtain⟨t0,h0,e⟩:=tsOf_mem.mp h
 have:=G.tin t0 h0
 rcases ep_ t0.1 t0.2 with z|z
 ·rw[z] at e
  subst e
  exact this
 ·rw[z] at e
  subst e
  exact⟨this.2,this.1⟩
section
variable{wt m:Int}{hs:List (Str × Int)}{ts:List (Str × Str)}{g:Option Str}{t:Str × Str}
theorem Ok.own(O:Ok wt m hs ts)(h1:t.1∈hs.map (·.1))(h2:t.2∈hs.map (·.1)):0<=(own1 g wt m hs t).1/\0<(own1 g wt m hs t).2/\(own1 g wt m hs t).2<=2000000:=by
 have g1:=(O.G.hok _ (aY_ h1)).2
 have g2:=(O.G.hok _ (aY_ h2)).2
 exact ib_ O.w1 O.w2 (O.M.pos O.G).1 (O.M.pos O.G).2 g1.1 g1.2 g2.1 g2.2
theorem iB_{t d:Int}(hd:0<d):0<(redF t d).2/\(redF t d).2<=d:=by
 obtain⟨k,k0,_,e,h0,_⟩:=ir_ (t:=t) hd
 refine⟨h0,?_⟩
 have:=Int.mul_le_mul_of_nonneg_right (show 1<=k by omega) (Int.le_of_lt h0)
 omega
theorem Ok.gap(O:Ok wt m hs ts)(h1:t.1∈hs.map (·.1))(h2:t.2∈hs.map (·.1)):0<(gapT g wt m hs t).2/\(gapT g wt m hs t).2<=2000000:=by
 have a:=O.own (g:=g) h1 h2
 have b:=iB_ (t:=(own1 g wt m hs t).1) a.2.1
 exact⟨b.1,Int.le_trans b.2 a.2.2⟩
theorem io_(xs:List (Int × Int))(x:Int × Int):gr (xs++[x])=grS (gr xs) x:=by
 unfold gr
 rw[List.foldl_append]
 rfl
theorem Ok.gapL(O:Ok wt m hs ts){l:List (Str × Str)}(h:∀t∈l,t.1∈hs.map (·.1)/\t.2∈hs.map (·.1)):0<(gapL g wt m hs l).2/\(gapL g wt m hs l).2<=2000000:=by
 have pos:∀x∈l.map (gapT g wt m hs),0<x.2/\x.2<=2000000:=fun x hx=>by
  obtain⟨t,ht,rfl⟩:=List.mem_map.mp hx
  exact O.gap (h t ht).1 (h t ht).2
 obtain⟨a,b,_⟩:=fC_ (l.map (gapT g wt m hs)) (0,1) (by decide) (fun x hx=>(pos x hx).1)
 refine⟨a,?_⟩
 rcases b with b|b
 ·unfold Ev.gapL gr
  rw[b]
  decide
 ·exact (pos _ b).2
end
section
variable{P:Program}{w:World}{K:PySem.W.Frag}{mg:Str->Option Value}{base:Heap}
theorem scGap:FnScope ["web","weight","rule","guard","found","tie","gap"] ["web","weight","rule"] (defScope sGap):=⟨rfl,rfl,rfl,by decide +kernel,rfl,by decide +kernel,by decide +kernel⟩
def spGap(K:PySem.W.Frag)(C:Addr):Sp:=fun vs H Q _=>∃(p:Addr) (wt m:Int) (hs:List (Str × Int)) (ts:List (Str × Str)) (fp:List Addr),∃r∈rl,vs=[.ref p,.int wt,.str r.1]/\guB ["fall","calm"] r=true/\WebAt K C H p hs ts fp/\Ok wt m hs ts /\
 ∀a H',Same H H'->H a=none->FrAt H' a (gapL r.2.2.2 wt m hs (tsOf ts))->Q (.ref a) H'
theorem jp_{f C:Addr}{fd:FuncData}(F:Fun K "gap_of" "gap_of" sGap f fd)(T:Txt K mg C)(cG:Cal P w K mg base 5 "checked_guard" ["rule"] spCGuard)(cW:Cal P w K mg base 3 "check_weight" ["thing"] spCWeight)(cF:Cal P w K mg base 2 "fraction_of" ["top","below"] spFrac)(cT:CalM P w K mg base C 2 "ties" ["self"] (spTiesM K C))(cA:Cal P w K mg base 3 "gap_along" ["web","weight","guard","tie"] (spAlong K C))(cL:Cal P w K mg base 1 "is_less" ["one","other"] spLess):FnOk P w K mg base CX0 6 f fd ["web","weight","rule"] (spGap K C):=by
 refine F.ok scGap (fun vs H Q E h=>?_) (fun cdv A outer s H vs Q E hr h=>?_)
 ·obtain⟨p,wt,m,hs,ts,fp,r,hr,rfl,_⟩:=h
  rfl
 ·obtain⟨p,wt,m,hs,ts,fp,r,hr',rfl,gu,W,O,k⟩:=h
  have sz:=sizeLine_eq
  have hr1:Room 1 _:=hr.mono (by decide)
  have hr2:Room 2 _:=hr.mono (by decide)
  have hr3:Room 3 _:=hr.mono (by decide)
  refine' ⟨_,?r0,?kk⟩
  case' r0=>refine' a2_ ?s1 ?r1
  case' r1=>refine' a2_ ?s2 ?r2
  case' r2=>refine' a2_ ?s3 ?r3
  case' r3=>refine' a2_ ?s4 ?r4
  case' r4=>refine' a4_ ?s5
  case s1=>exact ab_ (i:=3) scGap.nd rfl (Or.inl rfl) (ag_ cG hr (a0_ (pv 2) a3_))
  case s2=>exact b5_ (ag_ cW hr3 (a0_ (pv 1) a3_))
  case s3=>exact ab_ (i:=4) scGap.nd rfl (Or.inl rfl) (ag_ cF hr2 (a0_ a6_ (a0_ a6_ a3_)))
  case' s4=>refine' b1_ PassesOwn.never rfl (au_ (bW_ cT T.cl hr2 (pv 0))) (ae_ (i:=5) scGap.nd rfl (Or.inl rfl)) ?b0
  case' b0=>refine' a2_ ?b1 ?b2
  case b1=>exact ab_ (i:=6) scGap.nd rfl (Or.inl rfl) (ag_ cA hr3 (a0_ (pv 0) (a0_ (pv 1) (a0_ (pv 3) (a0_ (pv 5) a3_)))))
  case b2=>exact a4_ (ak_ (ax_ (ag_ cL hr1 (a0_ (pv 4) (a0_ (pv 6) a3_)))) (a4_ (ab_ (i:=4) scGap.nd rfl (Or.inl rfl) (pv 6))) ac_)
  case s5=>exact aa_ (pv 4)
  case' kk=>skip
  obtain⟨dx,d1,l2,d3,zs,as,efp,e1,e2,e3,e4,e5,e6,e7⟩:=W.ex
  have hnT:(flds d1 l2 d3).lookup ("ties":Str)=none:=aG_ _ _ _ (by decide +kernel) (by decide +kernel) (by decide +kernel)
  refine⟨_,rfl,r,hr',rfl,gu,fun H1 s1=>?_⟩
  refine⟨_,rfl,wt,rfl,O.w1,O.w2,?_⟩
  refine⟨0,1,rfl,by decide,by decide,by decide,fun a0 ha0=>?_⟩
  have s2:=Same.new (o:=.tup [.int (fr 0 1).1,.int (fr 0 1).2]) ha0
  have f2:FrAt (upd H1 a0 (.tup [.int (fr 0 1).1,.int (fr 0 1).2])) a0 (gapL r.2.2.2 wt m hs []):=a1_
  have n0:=s1.free ha0
  have s02:=s1.trans s2
  generalize upd H1 a0 (.tup [.int (fr 0 1).1,.int (fr 0 1).2])=H2 at s02 f2 ⊢
  clear s2
  refine setG ?_
  dsimp only
  refine seqG (fun σ H'=>∃(a:Addr) (v5 v6:Option V),σ=[some (.ref p),some (.int wt),some (.str r.1),some (optV r.2.2.2),some (.ref a),v5,v6]/\Same H H'/\H a=none/\FrAt H' a (gapL r.2.2.2 wt m hs (tsOf ts))) ?last ?loop
  case last=>
   rintro σ H3 ⟨a,v5,v6,rfl,s3,na,fa⟩
   exact⟨_,rfl,k a H3 s3 na fa⟩
  case loop=>
   intro N hN
   refine⟨_,rfl,p,dx,_,rfl,s02 _ _ e1,hnT,p,hs,ts,fp,rfl,W.same s02,O.G.t64,fun l ys H3 s3 nl hl tu=>?_⟩
   have s03:=s02.trans s3
   refine⟨l,rfl,⟨_,.of hl⟩,aW_ (K:=K) (a:=l) (xs:=ys) (fun i σ H'=>∃(a:Addr) (v5 v6:Option V),σ=[some (.ref p),some (.int wt),some (.str r.1),some (optV r.2.2.2),some (.ref a),v5,v6]/\Same H3 H'/\H a=none/\FrAt H' a (gapL r.2.2.2 wt m hs ((tsOf ts).take i)))
    ⟨a0,none,none,rfl,Same.refl _,n0,f2.same s3⟩ (fun i σ H' _ ⟨_,_,_,_,q,_⟩=>.of (q _ _ hl)) ?_ ?_⟩
   rotate_left 1
   ·rintro σ H' ⟨a,v5,v6,rfl,s4,na,fa⟩
    have:=Paired.length tu
    rw[List.length_map] at this
    rw[this,List.take_length] at fa
    exact hN _ _ ⟨a,v5,v6,rfl,s03.trans s4,na,fa⟩
   rintro i y σ H4 hy ⟨a,v5,v6,rfl,s4,na,fa⟩
   obtain⟨t,ht,q,rfl,hq⟩:=bd_ tu hy
   have mt:=List.mem_of_getElem? ht
   have ti:=gu_ O.G mt
   have s04:=s03.trans s4
   refine⟨_,rfl,_,rfl,_,rfl,_,rfl,p,q,wt,m,r.2.2.2,t,hs,ts,fp,rfl,W.same s04,O.G,s4 _ _ hq,ti.1,ti.2,O.w1,O.w2,O.M,fun b H5 s5 nb fb=>?_⟩
   have fb:FrAt H5 b (gapT r.2.2.2 wt m hs t):=fb
   have pl:=O.gapL (g:=r.2.2.2) (l:=(tsOf ts).take i) fun t ht=>gu_ O.G (List.mem_of_mem_take ht)
   have pt:=O.gap (g:=r.2.2.2) ti.1 ti.2
   refine⟨_,rfl,_,rfl,a,b,_,_,rfl,fa.same s5,fb,⟨pl.1,by omega⟩,⟨pt.1,by omega⟩,_,rfl,?_⟩
   have eg:gapL r.2.2.2 wt m hs ((tsOf ts).take (i+1))=grS (gapL r.2.2.2 wt m hs ((tsOf ts).take i)) (gapT r.2.2.2 wt m hs t):=by
    unfold gapL
    rw[aD_ _ ht,io_]
   refine ite2 (fun c=>?_) (fun c=>?_)
   ·refine⟨_,rfl,b,_,_,rfl,s4.trans s5,s04.free nb,?_⟩
    rw[eg]
    unfold grS
    rw[if_pos (by simpa [ltF] using c)]
    exact fb
   ·refine⟨a,_,_,rfl,s4.trans s5,na,?_⟩
    rw[eg]
    unfold grS
    rw[if_neg (by simpa [ltF] using c)]
    exact fa.same s5
end
end Ev
set_option Elab.async false
set_option linter.all false
set_option maxRecDepth 100000
namespace HT
open PySem PySem.Spec PyProof.Rows
section
variable{prog:Program}{w:World}{A:Around}{E:Value->Shared->Prop}{s:Shared}
end
end HT
namespace L2
open PySem PySem.Spec PyProof.Rows
section
variable{X:Cx}{e st:Expr}{te ts:TE}{pos p2:Pos}
end
end L2
set_option Elab.async false
set_option linter.all false
set_option maxRecDepth 100000
namespace Ev
open PySem L2
structure WaysOf (ts ws:List (Str × Str)):Prop where
 good:∀w∈ws,goodT w
 nd:(ws.map kO).Nodup
 inn:∀w∈ws,kO w∈ts.map kO
 len:ws.length<=ts.length
def WyAt(K:PySem.W.Frag)(H:Hp)(v:V):Option (List (Str × Str))->Prop
 |none=>v=.non
 |some ws=>∃a ys,v=.ref a/\H a=some (.lst ys)/\TupsAt K H ys (ws.map kT)
theorem WyAt.same{K:PySem.W.Frag}{H H':Hp}{v:V}{o:Option (List (Str × Str))}(h:WyAt K H v o)(s:Same H H'):WyAt K H' v o:=by
 cases o with
 |none=>exact h
 |some ws=>
  obtain⟨a,ys,e,ha,t⟩:=h
  exact⟨a,ys,e,s _ _ ha,t.same s⟩
abbrev Pc:=Str × Int × Option (List (Str × Str))
def PcAt(K:PySem.W.Frag)(H:Hp)(y:V)(p:Pc):Prop:=∃t v,y=.ref t/\H t=some (.tup [.str p.1,.int p.2.1,v])/\WyAt K H v p.2.2
abbrev PcsAt(K:PySem.W.Frag)(H:Hp)(ys:List V)(ps:List Pc):Prop:=Paired (PcAt K H) ys ps
structure GoodP (ts:List (Str × Str)) (p:Pc):Prop where
 nm:nameB p.1=true
 w1:1<=p.2.1
 w2:p.2.1<=1000000000
 ws:∀ws,p.2.2=some ws->WaysOf ts ws
theorem PcAt.same{K:PySem.W.Frag}{H H':Hp}{y:V}{p:Pc}(h:PcAt K H y p)(s:Same H H'):PcAt K H' y p:=by
 obtain⟨t,v,e,ht,hv⟩:=h
 exact⟨t,v,e,s _ _ ht,hv.same s⟩
end Ev
set_option Elab.async false
set_option linter.all false
set_option maxRecDepth 100000
namespace Ev
open PySem L2
theorem b2_{α β:Type}{F:α->β->Prop}:∀{ys ys':List α} {ks ks':List β},Paired F ys ks->Paired F ys' ks'->Paired F (ys++ys') (ks++ks')
 |_,_,_,_,.nil,h=>h
 |_,_,_,_,.cons a t,h=>.cons a (b2_ t h)
def StrV(K:PySem.W.Frag)(H:Hp)(v:V):Option Str->Prop
 |some x=>v=.str x
 |none=>∃t,TyOf K H v t/\PySem.W.kitOne K t (.type "str")=some false
def tiedB(hs:List (Str × Int))(ts:List (Str × Str)):Option Str->Option Str->Bool
 |some x,some y=>decide (x∈hs.map (·.1))&&(decide (y∈hs.map (·.1))&&decide (y∈near (nmsOf hs) (tsOf ts) x))
 |_,_=>false
theorem c2_(hs:List (Str × Int))(ts:List (Str × Str))(x y:Str):tiedB hs ts (some x) (some y)=(decide (x∈hs.map (·.1))&&(decide (y∈hs.map (·.1))&&decide (y∈near (nmsOf hs) (tsOf ts) x))):=rfl
section
variable{P:Program}{w:World}{K:PySem.W.Frag}{mg:Str->Option Value}{base:Heap}
def spHasA(K:PySem.W.Frag)(C:Addr):Sp:=fun vs H Q _=>∃(p:Addr) (v:V) (x:Option Str) (hs:List (Str × Int)) (ts:List (Str × Str)) (fp:List Addr),vs=[.ref p,v]/\WebAt K C H p hs ts fp/\StrV K H v x/\Q (.bl (inB (hs.map (·.1)) x)) H
theorem j4_{f C:Addr}{fd:FuncData}(F:Fun K "has_hand" "Web.has_hand" sHas f fd)(T:Txt K mg C)(B:Bi mg):FnOk P w K mg base CX0 1 f fd ["self","thing"] (spHasA K C):=by
 refine F.ok scHas (fun vs H Q E h=>?_) (fun cdv A outer s H vs Q E hr h=>?_)
 ·obtain⟨p,v,x,hs,ts,fp,rfl,_⟩:=h
  rfl
 ·obtain⟨p,v,x,hs,ts,fp,rfl,W,sv,k⟩:=h
  have hu:=bk_ hr
  obtain⟨dx,d1,l2,d3,zs,as,rfl,h1,h2,h3,h4,h5,h6,h7⟩:=W.ex
  refine⟨_,a4_ (aa_ (aX_ (a8_ ap_ (by rfl) B.isi PyProof.Rows.Boot.«isinstance» (a0_ (pv 1) (a0_ (aA_ (v:=.ty "str") (by rfl) B.str PyProof.Rows.Boot.«str» rfl) a3_))) (aO_ (dx_ (d0_ hu (pv 1) (aM_ (pv 0) rfl)))))),?_⟩
  cases x with
  |some x=>
   cases (show v=.str x from sv)
   refine⟨_,rfl,_,_,_,_,rfl,.str x,rfl,_,rfl,iteT ?_⟩
   refine⟨_,rfl,_,rfl,p,C,dx,_,_,rfl,h1,T.cl,T.nS,eW_ _ _ _,d1,_,rfl,.k (k:=Sum.inr x) h2,?_⟩
   rw[dc_]
   exact k
  |none=>
   obtain⟨t,ty,e⟩:=sv
   exact⟨_,rfl,_,_,_,_,rfl,ty,e,_,rfl,iteF k⟩
def spTiedA(K:PySem.W.Frag)(C:Addr):Sp:=fun vs H Q _=>∃(p:Addr) (v u:V) (x y:Option Str) (hs:List (Str × Int)) (ts:List (Str × Str)) (fp:List Addr),vs=[.ref p,v,u]/\WebAt K C H p hs ts fp/\(nmsOf hs).Nodup/\StrV K H v x/\StrV K H u y/\Q (.bl (tiedB hs ts x y)) H
theorem hH_{f C:Addr}{fd:FuncData}(F:Fun K "are_tied" "Web.are_tied" sTied f fd)(T:Txt K mg C)(cH:CalM P w K mg base C 1 "has_hand" ["self","thing"] (spHasA K C)):FnOk P w K mg base CX0 2 f fd ["self","one","other"] (spTiedA K C):=by
 refine F.ok scTied (fun vs H Q E h=>?_) (fun cdv A outer s H vs Q E hr h=>?_)
 ·obtain⟨p,v,u,x,y,hs,ts,fp,rfl,_⟩:=h
  rfl
 ·obtain⟨p,v,u,x,y,hs,ts,fp,rfl,W,nd,sv,su,k⟩:=h
  have hu:=bk_ hr
  obtain⟨dx,d1,l2,d3,zs,as,rfl,h1,h2,h3,h4,h5,h6,h7⟩:=id W.ex
  have hno:(flds d1 l2 d3).lookup ("has_hand":Str)=none:=aG_ _ _ _ (by decide +kernel) (by decide +kernel) (by decide +kernel)
  refine⟨_,a4_ (aa_ (aX_ (bR_ cH T.cl hr (pv 0) (a0_ (pv 1) a3_)) (aX_ (bR_ cH T.cl hr (pv 0) (a0_ (pv 2) a3_)) (aO_ (aR_ (i1_ cmpS (roomU hr 0)) (pv 2) (bH_ hu (aM_ (pv 0) rfl) (pv 1) (fun _ _=>rfl)) (by with_unfolding_all rfl)))))),?_⟩
  refine⟨_,rfl,p,dx,_,rfl,h1,hno,_,rfl,p,v,x,hs,ts,_,rfl,W,sv,_,rfl,?_⟩
  cases x with
  |none=>exact iteF k
  |some x=>
   cases (show v=.str x from sv)
   refine ite2 (fun c=>?_) (fun c=>?_)
   ·have hx:x∈hs.map (·.1):=of_decide_eq_true c
    obtain⟨a,e1,ha⟩:=jO_ nd hx h6 h7
    refine⟨_,rfl,p,dx,_,rfl,h1,hno,_,rfl,p,u,y,hs,ts,_,rfl,W,su,_,rfl,?_⟩
    cases y with
    |none=>exact iteF k
    |some y=>
     cases (show u=.str y from su)
     rw[c2_,decide_eq_true hx,Bool.true_and] at k
     refine ite2 (fun c2=>?_) (fun c2=>?_)
     ·have hy:y∈hs.map (·.1):=of_decide_eq_true c2
      rw[decide_eq_true hy,Bool.true_and] at k
      refine⟨_,rfl,_,rfl,p,C,dx,_,_,rfl,h1,T.cl,T.nN,ih_ _ _ _,_,rfl,d3,.ref a,rfl,?_,y,_,rfl,⟨a,_,rfl,.of ha,ez_ _⟩,k⟩
      rw[<- e1]
      exact .k (k:=Sum.inr x) h5
     ·have hy:¬y∈hs.map (·.1):=fun z=>c2 (decide_eq_true z)
      rw[decide_eq_false hy,Bool.false_and] at k
      exact k
   ·have hx:¬x∈hs.map (·.1):=fun z=>c (decide_eq_true z)
    cases y with
    |none=>exact k
    |some y=>
     rw[c2_,decide_eq_false hx,Bool.false_and] at k
     exact k
theorem hb_{hs:List (Str × Int)}{ts ws:List (Str × Str)}(G:Good hs ts)(W:WaysOf ts ws){t:Str × Str}(ht:t∈tsOf ws):tiedB hs ts (some t.1) (some t.2)=true:=by
 obtain⟨x,hx,ex⟩:=tsOf_mem.mp ht
 obtain⟨u,hu,eu⟩:=List.mem_map.mp (W.inn x hx)
 have eo:ord2 u.1 u.2=t:=(fu_ eu).trans ex
 have both:t.1∈hs.map (·.1)/\t.2∈hs.map (·.1)/\ord2 t.1 t.2=t:=by
  obtain⟨g1,g2⟩:=G.tin u hu
  rcases ep_ u.1 u.2 with e|e
  ·rw[<- eo,e]
   exact⟨g1,g2,e⟩
  ·rw[<- eo,e]
   exact⟨g2,g1,(gT_ _ _).trans e⟩
 obtain⟨m1,m2,m3⟩:=both
 have m4:t.2∈near (nmsOf hs) (tsOf ts) t.1:=List.mem_filter.mpr ⟨(aL_ hs).mem_iff.mpr m2,decide_eq_true (by rw[m3];exact tsOf_mem.mpr ⟨u,hu,eo⟩)⟩
 rw[c2_,decide_eq_true m1,decide_eq_true m2,decide_eq_true m4]
 rfl
theorem scCWays:FnScope ["web","ways","found","one","other"] ["web","ways"] (defScope sCWays):=⟨rfl,rfl,rfl,by decide +kernel,rfl,by decide +kernel,by decide +kernel⟩
def spCWays(K:PySem.W.Frag)(C:Addr):Sp:=fun vs H Q _=>∃(p:Addr) (v:V) (o:Option (List (Str × Str))) (hs:List (Str × Int)) (ts:List (Str × Str)) (fp:List Addr),vs=[.ref p,v]/\WebAt K C H p hs ts fp/\Good hs ts/\WyAt K H v o/\(∀ws,o=some ws->WaysOf ts ws) /\
 ∀v' H',Same H H'->WyAt K H' v' (o.map tsOf)->(∀a,v'=.ref a->H a=none)->Q v' H'
theorem ht_{f C:Addr}{fd:FuncData}(F:Fun K "checked_ways" "checked_ways" sCWays f fd)(T:Txt K mg C)(cS:Cal P w K mg base 3 "sorted_ties" ["ties"] (spSorted K))(cT:CalM P w K mg base C 2 "are_tied" ["self","one","other"] (spTiedA K C)):FnOk P w K mg base CX0 4 f fd ["web","ways"] (spCWays K C):=by
 refine F.ok scCWays (fun vs H Q E h=>?_) (fun cdv A outer s H vs Q E hr h=>?_)
 ·obtain⟨p,v,o,hs,ts,fp,rfl,_⟩:=h
  rfl
 ·obtain⟨p,v,o,hs,ts,fp,rfl,W,G,wy,gw,k⟩:=h
  have hu:=bk_ hr
  have hr2:Room 2 _:=hr.mono (by decide)
  refine⟨_,a2_ (ak_ (c7_ (g6_ (pv 1))) (a4_ (aa_ ci_)) ac_)
   (a2_ (ab_ (i:=2) scCWays.nd rfl (Or.inl rfl) (ag_ cS hr (a0_ (pv 1) a3_)))
   (a2_ (ak_ (c7_ (g6_ (pv 2))) ad_ ac_)
   (a2_ (b1_ PassesOwn.never rfl (au_ (pv 2)) (c5_ rfl (aj_ (ae_ (i:=3) scCWays.nd rfl (Or.inl rfl)) (aj_ (ae_ (i:=4) scCWays.nd rfl (Or.inl rfl)) b3_)))
    (a4_ (ak_ (av_ (ax_ (bR_ cT T.cl hr2 (pv 0) (a0_ (pv 3) (a0_ (pv 4) a3_))))) ad_ ac_)))
   (a4_ (aa_ (pv 2)))))),?_⟩
  cases o with
  |none=>
   cases (show v=.non from wy)
   exact⟨_,rfl,_,rfl,iteT (k .non H (Same.refl H) rfl (fun a z=>by cases z))⟩
  |some ws=>
   obtain⟨a,ys,rfl,ha,tu⟩:=wy
   have Wo:=gw ws rfl
   refine⟨_,rfl,_,rfl,iteF ?_⟩
   refine⟨_,rfl,a,ys,ws,rfl,ha,tu,Wo.good,Wo.nd,by have:=Wo.len;have:=G.t64;omega,fun l' zs H1 s1 hf hl1 tz=>?_⟩
   refine⟨_,rfl,_,rfl,iteF ?_⟩
   have W1:=W.same s1
   obtain⟨dx,d1,l2,d3,zs0,as,rfl,h1,h2,h3,h4,h5,h6,h7⟩:=id W1.ex
   have hno:(flds d1 l2 d3).lookup ("are_tied":Str)=none:=aG_ _ _ _ (by decide +kernel) (by decide +kernel) (by decide +kernel)
   rw[<- cw_] at tz
   refine⟨_,rfl,l',rfl,⟨_,.of hl1⟩,aW_ (K:=K) (a:=l') (xs:=zs) (fun i σ H2=>∃(v3 v4:Option V),σ=[some (.ref p),some (.ref a),some (.ref l'),v3,v4]/\H2=H1) ⟨none,none,rfl,rfl⟩ (fun i σ H2 _ ⟨_,_,_,e⟩=>by subst e;exact .of hl1) ?_ ?_⟩
   ·rintro i y σ H2 hy ⟨v3,v4,rfl,rfl⟩
    obtain⟨t,ht,q,rfl,hq⟩:=bd_ tz hy
    refine⟨q,_,rfl,.of (hpT hq),rfl,_,_,rfl,_,_,rfl,rfl,?_⟩
    refine⟨_,rfl,p,dx,_,rfl,h1,hno,_,rfl,_,rfl,p,_,_,some t.1,some t.2,hs,ts,_,rfl,W1,G.nnd,rfl,rfl,_,rfl,?_⟩
    rw[hb_ G Wo (List.mem_of_getElem? ht)]
    refine iteF ?_
    exact⟨_,_,rfl,rfl⟩
   ·rintro σ H2 ⟨v3,v4,rfl,rfl⟩
    exact⟨_,rfl,k (.ref l') _ s1 ⟨l',zs,rfl,hl1,tz⟩ (fun c z=>by cases z;exact hf)⟩
def nrm(p:Pc):Pc:=(p.1,p.2.1,p.2.2.map tsOf)
def PcNew(K:PySem.W.Frag)(H0 H:Hp)(y:V)(p:Pc):Prop:=∃t v,y=.ref t/\H t=some (.tup [.str p.1,.int p.2.1,v])/\WyAt K H v p.2.2/\∀a,v=.ref a->H0 a=none
theorem PcNew.same{K:PySem.W.Frag}{H0 H H':Hp}{y:V}{p:Pc}(h:PcNew K H0 H y p)(s:Same H H'):PcNew K H0 H' y p:=by
 obtain⟨t,v,e,ht,hv,hn⟩:=h
 exact⟨t,v,e,s _ _ ht,hv.same s,hn⟩
theorem WyAt.up{K:PySem.W.Frag}{H:Hp}{D:Addr}{u:HO}{v:V}{o:Option (List (Str × Str))}(h:WyAt K H v o)(n1:∀xs,H D≠some (.lst xs))(n2:∀xs,H D≠some (.tup xs)):WyAt K (upd H D u) v o:=by
 cases o with
 |none=>exact h
 |some ws=>
  obtain⟨a,ys,e,ha,t⟩:=h
  exact⟨a,ys,e,by rw[a5_ (fun z:a=D=>n1 ys (z▸ha))];exact ha,Paired.mapP t fun y k ⟨b,z,q⟩=>⟨b,z,by rw[a5_ (fun z:b=D=>n2 _ (z▸q))];exact q⟩⟩
theorem PcNew.up{K:PySem.W.Frag}{H0 H:Hp}{D:Addr}{u:HO}{y:V}{p:Pc}(h:PcNew K H0 H y p)(n1:∀xs,H D≠some (.lst xs))(n2:∀xs,H D≠some (.tup xs)):PcNew K H0 (upd H D u) y p:=by
 obtain⟨t,v,e,ht,hv,hn⟩:=h
 exact⟨t,v,e,by rw[a5_ (fun z:t=D=>n2 _ (z▸ht))];exact ht,hv.up n1 n2,hn⟩
theorem eX_{ps:List Pc}{cs:List V}(nd:(ps.map (·.1)).Nodup)(hl:cs.length=ps.length):∀{j:Nat} {q:Pc} {c:V},ps[j]? = some q->cs[j]? = some c->valV ((ps.zip cs).map fun q=>((Sum.inr q.1.1:Key),q.2)) (Sum.inr q.1)=some c:=by
 induction ps generalizing cs with
 |nil=>
  intro j q c h
  simp at h
 |cons p ps ih=>
  intro j q c h1 h2
  cases cs with
  |nil=>cases hl
  |cons b cs=>
   rw[List.map_cons] at nd
   obtain⟨n1,n2⟩:=List.nodup_cons.mp nd
   cases j with
   |zero=>
    have e1:p=q:=by simpa using h1
    have e2:b=c:=by simpa using h2
    subst e1 e2
    exact bl_ rfl
   |succ j=>
    have h1:ps[j]? = some q:=by simpa using h1
    have h2:cs[j]? = some c:=by simpa using h2
    show valV ((Sum.inr p.1,b)::((ps.zip cs).map fun q=>((Sum.inr q.1.1:Key),q.2))) (Sum.inr q.1)=_
    rw[bj_ fun e=>n1 (by rw[show p.1=q.1 from Sum.inr.inj e];exact List.mem_map.mpr ⟨q,List.mem_of_getElem? h1,rfl⟩)]
    exact ih n2 (by simpa using hl) h1 h2
theorem scCPiece:FnScope ["web","piece"] ["web","piece"] (defScope sCPiece):=⟨rfl,rfl,rfl,by decide +kernel,rfl,by decide +kernel,by decide +kernel⟩
def spCPiece(K:PySem.W.Frag)(C:Addr):Sp:=fun vs H Q _=>∃(p:Addr) (y:V) (q:Pc) (hs:List (Str × Int)) (ts:List (Str × Str)) (fp:List Addr),vs=[.ref p,y]/\WebAt K C H p hs ts fp/\Good hs ts/\PcAt K H y q/\GoodP ts q /\
 ∀y' H',Same H H'->PcNew K H H' y' (nrm q)->Q y' H'
theorem fP_{f C:Addr}{fd:FuncData}(F:Fun K "checked_piece" "checked_piece" sCPiece f fd)(B:Bi mg)(cN:Cal P w K mg base 1 "is_name" ["thing"] spName)(cW:Cal P w K mg base 2 "is_whole_within" ["thing","least","most"] spWhole)(cC:Cal P w K mg base 4 "checked_ways" ["web","ways"] (spCWays K C)){tk:Tok}(mW:mg "MOST_WEIGHT"=some (.int 1000000000 tk)) :
  FnOk P w K mg base CX0 5 f fd ["web","piece"] (spCPiece K C):=by
 refine F.ok scCPiece (fun vs H Q E h=>?_) (fun cdv A outer s H vs Q E hr h=>?_)
 ·obtain⟨p,y,q,hs,ts,fp,rfl,_⟩:=h
  rfl
 ·obtain⟨p,y,q,hs,ts,fp,rfl,W,G,⟨t,v,rfl,ht,wy⟩,gp,k⟩:=h
  have hr1:Room 1 _:=hr.mono (by decide)
  have hr2:Room 2 _:=hr.mono (by decide)
  refine⟨_,a2_ (ak_ (f0_ (av_ (ax_ (a8_ ap_ (by rfl) B.isi PyProof.Rows.Boot.«isinstance» (a0_ (pv 1) (a0_ (aA_ (v:=.ty "tuple") (by rfl) B.tuple PyProof.Rows.Boot.«tuple» rfl) a3_)))))
    (d5_ (am_ cu_ (a8_ ai_ (by rfl) B.len PySem.boot_len (a0_ (pv 1) a3_)) a6_ (nomark _)))).pt ad_ ac_)
   (a2_ (ak_ (av_ (ax_ (ag_ cN hr1 (a0_ (as_ ar_ (pv 1) a6_ (fun _ _=>rfl)) a3_)))) ad_ ac_)
   (a2_ (ak_ (av_ (ax_ (ag_ cW hr2 (a0_ (as_ ar_ (pv 1) a6_ (fun _ _=>rfl)) (a0_ a6_ (a0_ (aK_ (v:=.int 1000000000) (by rfl) mW ⟨tk,rfl⟩) a3_)))))) ad_ ac_)
   (a4_ (aa_ (aC_ (a0_ (as_ ar_ (pv 1) a6_ (fun _ _=>rfl)) (a0_ (as_ ar_ (pv 1) a6_ (fun _ _=>rfl)) (a0_ (ag_ cC hr (a0_ (pv 0) (a0_ (as_ ar_ (pv 1) a6_ (fun _ _=>rfl)) a3_))) a3_)))))))),?_⟩
  refine⟨_,rfl,_,_,_,_,rfl,.tup ht,rfl,_,rfl,iteF ?_⟩
  refine⟨_,rfl,t,_,rfl,.inr (.of ht),rfl,_,rfl,?_⟩
  refine iteNS (show V.int ((3:Nat):Int)=V.int 3 from rfl) ?_
  refine⟨_,rfl,t,_,_,_,rfl,rfl,.of ht,rfl,q.1,rfl,by have:=bQ_ gp.nm;omega,fun H1 s1=>⟨_,rfl,?_⟩⟩
  rw[gp.nm]
  refine iteF ?_
  have ht1:=s1 _ _ ht
  refine⟨_,rfl,t,_,_,_,rfl,rfl,.of ht1,rfl,q.2.1,1,1000000000,rfl,_,rfl,?_⟩
  rw[decide_eq_true gp.w1,decide_eq_true gp.w2]
  refine iteF ?_
  refine⟨_,rfl,t,_,_,_,rfl,rfl,.of ht1,rfl,_,rfl,t,_,_,_,rfl,rfl,.of ht1,rfl,_,rfl,_,rfl,t,_,_,_,rfl,rfl,.of ht1,rfl,p,v,q.2.2,hs,ts,fp,rfl,W.same s1,G,wy.same s1,gp.ws,fun v' H2 s2 wy2 hf=>?_⟩
  refine⟨by show 3<=sizeLine;decide,fun t' ht'=>?_⟩
  exact k (.ref t') _ (s1.trans (s2.trans (Same.new ht'))) ⟨t',v',rfl,a1_,wy2.same (Same.new ht'),fun a z=>s1.free (hf a z)⟩
theorem scCPieces:FnScope ["web","pieces","found","piece","checked"] ["web","pieces"] (defScope sCPieces):=⟨rfl,rfl,rfl,by decide +kernel,rfl,by decide +kernel,by decide +kernel⟩
structure Qs (ps qs:List Pc):Prop where
 nms:qs.map (·.1)=sortS (ps.map (·.1))
 mem:∀q∈qs,∃p∈ps,q=nrm p
def spCPieces(K:PySem.W.Frag)(C:Addr):Sp:=fun vs H Q _=>∃(p l:Addr) (ys:List V) (ps:List Pc) (hs:List (Str × Int)) (ts:List (Str × Str)) (fp:List Addr),vs=[.ref p,.ref l]/\WebAt K C H p hs ts fp/\Good hs ts/\H l=some (.lst ys)/\PcsAt K H ys ps/\(∀q∈ps,GoodP ts q)/\(ps.map (·.1)).Nodup/\ps.length<64 /\
 ∀l' zs qs H',Same H H'->H' l'=some (.lst zs)->Paired (PcNew K H H') zs qs->Qs ps qs->Q (.ref l') H'
theorem f7_{f C:Addr}{fd:FuncData}(F:Fun K "checked_pieces" "checked_pieces" sCPieces f fd)(B:Bi mg)(cP:Cal P w K mg base 5 "checked_piece" ["web","piece"] (spCPiece K C)):FnOk P w K mg base CX0 6 f fd ["web","pieces"] (spCPieces K C):=by
 refine F.ok scCPieces (fun vs H Q E h=>?_) (fun cdv A outer s H vs Q E hr h=>?_)
 ·obtain⟨p,l,ys,ps,hs,ts,fp,rfl,_⟩:=h
  rfl
 ·obtain⟨p,l,ys,ps,hs,ts,fp,rfl,W,G,hl,pc,gp,nd,h64,k⟩:=h
  have hu:=bk_ hr
  have sz:=sizeLine_eq
  have le:=Paired.length pc
  refine⟨_,a2_ (ak_ (av_ (ax_ (a8_ ap_ (by rfl) B.isi PyProof.Rows.Boot.«isinstance» (a0_ (pv 1) (a0_ (aA_ (v:=.ty "list") (by rfl) B.list PyProof.Rows.Boot.«list» rfl) a3_))))) ad_ ac_)
   (a2_ (ab_ (i:=2) scCPieces.nd rfl (Or.inr rfl) cf_)
   (a2_ (b1_ PassesOwn.never rfl (au_ (pv 1)) (ae_ (i:=3) scCPieces.nd rfl (Or.inl rfl))
    (a2_ (ab_ (i:=4) scCPieces.nd rfl (Or.inl rfl) (ag_ cP hr (a0_ (pv 0) (a0_ (pv 3) a3_))))
    (a2_ (ak_ (c7_ (d0_ hu (as_ ar_ (pv 4) a6_ (fun _ _=>rfl)) (pv 2))) ad_ ac_)
    (a4_ (bG_ hu (pv 2) (as_ ar_ (pv 4) a6_ (fun _ _=>rfl)) (pv 4) rfl)))))
   (a4_ (aa_ (aP_ ["name","found"] 1 [2] (au_ (a8_ (ed_ rfl) (by rfl) B.sorted PyProof.Rows.Boot.«sorted» (a0_ (pv 2) a3_))) (fun fp s H=>ae_ (i:=0) (show (["name","found"]:List Str).Nodup by decide +kernel) rfl (Or.inl rfl)) (fun fp s H=>aV_)
    (fun fp s H=>bH_ hu (pv 1) (pv 0) (fun _ _=>rfl))))))),?_⟩
  refine⟨_,rfl,_,_,_,_,rfl,.lst hl,rfl,_,rfl,iteF ?_⟩
  intro d hd
  have s0:Same H (upd H d (.dK [])):=Same.new hd
  refine⟨_,rfl,l,rfl,⟨_,.of (s0 _ _ hl)⟩,aW_ (K:=K) (a:=l) (xs:=ys) (fun i σ H2=>∃(v3 v4:Option V) (cs:List V),σ=[some (.ref p),some (.ref l),some (.ref d),v3,v4]/\Same H H2/\Paired (PcNew K H H2) cs ((ps.take i).map nrm)/\H2 d=some (.dK (((ps.take i).zip cs).map fun q=>(Sum.inr q.1.1,q.2)))) ⟨none,none,[],rfl,s0,.nil,a1_⟩ (fun i σ H2 _ ⟨_,_,_,_,s2,_⟩=>.of (s2 _ _ hl)) ?_ ?_⟩
  ·rintro i y σ H2 hy ⟨v3,v4,cs,rfl,s2,pn,hd2⟩
   have hi:i<ys.length:=(List.getElem?_eq_some_iff.mp hy).1
   have hq:ps[i]? = some (ps[i]'(by omega)):=List.getElem?_eq_getElem (by omega)
   have py:=aS_ pc i hi (by omega)
   rw[(List.getElem?_eq_some_iff.mp hy).2] at py
   generalize ps[i]'(by omega)=q at hq py
   refine⟨_,rfl,_,rfl,p,y,q,hs,ts,fp,rfl,W.same s2,G,py.same s2,gp q (List.mem_of_getElem? hq),fun y' H3 s3 pw=>?_⟩
   obtain⟨t,v,rfl,ht,wy,hf⟩:=pw
   have hd3:=s3 _ _ hd2
   have lc:=Paired.length pn
   rw[List.length_map,List.length_take] at lc
   have keys:((((ps.take i).zip cs).map fun q=>((Sum.inr q.1.1:Key),q.2)).map (·.1))=((ps.take i).map (·.1)).map Sum.inr:=by
    rw[List.map_map]
    have:((fun x:Key × V=>x.1) ∘ fun q:Pc × V=>((Sum.inr q.1.1:Key),q.2))=(fun p:Pc=>(Sum.inr p.1:Key)) ∘ Prod.fst:=rfl
    rw[this,<- List.map_map,List.map_fst_zip (by rw[List.length_take];omega),List.map_map]
    rfl
   have nov:valV (((ps.take i).zip cs).map fun q=>((Sum.inr q.1.1:Key),q.2)) (Sum.inr q.1)=none:=aB_ (by
    rw[keys]
    intro m
    obtain⟨x,hx,e⟩:=List.mem_map.mp m
    cases e
    exact b8_ (g:=fun p:Pc=>p.1) nd hq hx)
   refine⟨_,rfl,t,_,_,_,rfl,rfl,.of ht,rfl,_,rfl,d,_,rfl,.k (k:=Sum.inr q.1) hd3,_,rfl,?_⟩
   rw[nov]
   refine iteF ?_
   refine⟨_,rfl,_,rfl,_,rfl,t,_,_,_,rfl,rfl,.of ht,rfl,d,_,rfl,.k (k:=Sum.inr q.1) hd3 (by rw[List.length_map,List.length_zip,List.length_take];omega),?_⟩
   have s23:=s2.trans s3
   have n1:∀xs,H3 d≠some (.lst xs):=fun xs z=>by rw[hd3] at z;cases z
   have n2:∀xs,H3 d≠some (.tup xs):=fun xs z=>by rw[hd3] at z;cases z
   refine⟨_,_,cs++[.ref t],rfl,fun c o e=>?_,?_,?_⟩
   ·rw[a5_ (a7_ e hd)]
    exact s23 _ _ e
   ·rw[List.take_add_one,hq,List.map_append]
    exact b2_ (Paired.mapP pn fun y q h=>(h.same s3).up n1 n2) (.cons (PcNew.up ⟨t,v,rfl,ht,wy,fun a z=>s2.free (hf a z)⟩ n1 n2) .nil)
   ·rw[a1_,bA_ _ nov,List.take_add_one,hq,List.zip_append (by rw[List.length_take];omega),List.map_append]
    rfl
  ·rintro σ H2 ⟨v3,v4,cs,rfl,s2,pn,hd2⟩
   rw[le,List.take_length] at pn hd2
   have lc:=Paired.length pn
   rw[List.length_map] at lc
   have keys:(((ps.zip cs).map fun q=>((Sum.inr q.1.1:Key),q.2)).map (·.1))=(ps.map (·.1)).map Sum.inr:=by
    rw[List.map_map]
    have:((fun x:Key × V=>x.1) ∘ fun q:Pc × V=>((Sum.inr q.1.1:Key),q.2))=(fun p:Pc=>(Sum.inr p.1:Key)) ∘ Prod.fst:=rfl
    rw[this,<- List.map_map,List.map_fst_zip (by omega),List.map_map]
    rfl
   refine⟨_,rfl,d,_,ps.map (·.1),rfl,hd2,keys,by rw[List.length_map];exact h64,fun ls hls=>?_⟩
   have s3:=Same.new (o:=.lst ((sortS (ps.map (·.1))).map V.str)) hls
   have hl3:upd H2 ls (.lst ((sortS (ps.map (·.1))).map V.str)) ls=some (.lst ((sortS (ps.map (·.1))).map V.str)):=a1_
   refine⟨ls,rfl,⟨_,.of hl3⟩,fun D hD=>?_⟩
   generalize upd H2 ls (.lst ((sortS (ps.map (·.1))).map V.str))=H3 at s3 hl3 hD ⊢
   have lss:(sortS (ps.map (·.1))).length=ps.length:=by rw[(aF_ _).length_eq,List.length_map]
   refine aE_ (own:=1) (fv:=[some (.ref d)]) (xs:=(sortS (ps.map (·.1))).map V.str) rfl gok1 (fun i out H'=>∃qs:List Pc,Same H3 H'/\H' D=some (.lst out)/\Paired (PcNew K H H2) out qs/\qs.map (·.1)=(sortS (ps.map (·.1))).take i/\∀q∈qs,∃p∈ps,q=nrm p) ⟨[],Same.new hD,a1_,.nil,rfl,by simp⟩ (fun i out H' _ ⟨_,sm,_⟩=>.of (sm _ _ hl3)) (fun zs H4 ⟨qs,s4,hD4,pq,en,mem⟩=>?_) (fun i x out H' hx ⟨qs,sm,hD',pq,en,mem⟩=>?_)
   ·rw[List.length_map,List.take_length] at en
    exact k D zs qs H4 (s2.trans (s3.trans s4)) hD4 (Paired.mapP pq fun y q h=>h.same (s3.trans s4)) ⟨en,mem⟩
   ·obtain⟨n,hn,rfl⟩:=aw_ hx
    have hm:n∈ps.map (·.1):=(aF_ _).mem_iff.mp (List.mem_of_getElem? hn)
    obtain⟨q,hq,eq⟩:=List.mem_map.mp hm
    obtain⟨j,hj,ej⟩:=List.getElem_of_mem hq
    have hqj:ps[j]? = some q:=by rw[List.getElem?_eq_getElem hj,ej]
    have hcj:cs[j]? = some (cs[j]'(by omega)):=List.getElem?_eq_getElem (by omega)
    have hv:=eX_ nd lc hqj hcj
    have pj:=aS_ pn j (by omega) (by rw[List.length_map];omega)
    rw[List.getElem_map,ej] at pj
    generalize cs[j]'(by omega)=c at hcj hv pj
    rw[eq] at hv
    have lo:=Paired.length pq
    have lq:=congrArg List.length en
    rw[List.length_map,List.length_take] at lq
    have hi:i<(sortS (ps.map (·.1))).length:=(List.getElem?_eq_some_iff.mp hn).1
    refine⟨_,rfl,rfl,fun Nx hN=>yesT ?_⟩
    refine⟨_,rfl,_,rfl,d,c,rfl,?_,out,hD',by omega,hN _ _ ⟨qs++[nrm q],ay_ sm hD,a1_,?_,?_,?_⟩⟩
    ·rw[<- hv]
     exact .k (k:=Sum.inr n) (sm _ _ (s3 _ _ hd2))
    ·exact b2_ pq (.cons pj .nil)
    ·rw[List.map_append,en,List.take_add_one,hn,<- eq]
     rfl
    ·intro q' hq'
     rcases List.mem_append.mp hq' with hq'|hq'
     ·exact mem q' hq'
     ·obtain rfl:q'=nrm q:=by simpa using hq'
      exact⟨q,hq,rfl⟩
end
end Ev
set_option Elab.async false
set_option linter.all false
set_option maxRecDepth 100000
namespace Ev
open PySem L2
abbrev sGInit:Stmt:=inClass sGoods 0
abbrev sGHas:Stmt:=inClass sGoods 1
abbrev sGNames:Stmt:=inClass sGoods 2
abbrev sGWeight:Stmt:=inClass sGoods 3
def gflds(p dw dy:Addr):List (Str × V):=putF "ways_by_name" (.ref dy) (putF "weight_by_name" (.ref dw) (putF "web" (.ref p) []))
theorem g12:¬(("web":Str)="weight_by_name"):=by decide +kernel
theorem g13:¬(("web":Str)="ways_by_name"):=by decide +kernel
theorem g23:¬(("weight_by_name":Str)="ways_by_name"):=by decide +kernel
theorem bs_(p dw dy:Addr):(gflds p dw dy).lookup ("web":Str)=some (.ref p):=by
 unfold gflds
 rw[af_,if_neg g13,af_,if_neg g12,af_,if_pos rfl]
theorem e3_(p dw dy:Addr):(gflds p dw dy).lookup ("weight_by_name":Str)=some (.ref dw):=by
 unfold gflds
 rw[af_,if_neg g23,af_,if_pos rfl]
theorem bx_(p dw dy:Addr){m:Str}(h1:¬m="web")(h2:¬m="weight_by_name")(h3:¬m="ways_by_name"):(gflds p dw dy).lookup m=none:=by
 unfold gflds
 rw[af_,if_neg h3,af_,if_neg h2,af_,if_neg h1]
 all_goals rfl
def wKV(qs:List Pc):List (Key × V):=qs.map fun q=>(Sum.inr q.1,V.int q.2.1)
def yKV(qs:List Pc)(vs:List V):List (Key × V):=(qs.zip vs).map fun x=>(Sum.inr x.1.1,x.2)
theorem eI_(qs:List Pc):(wKV qs).map (·.1)=(qs.map (·.1)).map Sum.inr:=by
 unfold wKV
 rw[List.map_map,List.map_map]
 rfl
theorem h7_{qs:List Pc}{vs:List V}(h:vs.length=qs.length):(yKV qs vs).map (·.1)=(qs.map (·.1)).map Sum.inr:=by
 unfold yKV
 rw[List.map_map]
 have:((fun x:Key × V=>x.1) ∘ fun q:Pc × V=>((Sum.inr q.1.1:Key),q.2))=(fun p:Pc=>(Sum.inr p.1:Key)) ∘ Prod.fst:=rfl
 rw[this,<- List.map_map,List.map_fst_zip (by omega),List.map_map]
 rfl
structure GoodsAt (K:PySem.W.Frag) (CG CW:Addr) (H:Hp) (g p:Addr) (hs:List (Str × Int)) (ts:List (Str × Str)) (qs:List Pc) (fp:List Addr):Prop where
 ex:∃(dx dw dy:Addr) (vs:List V) (fpw:List Addr),H g=some (.ins CG dx (gflds p dw dy))/\WebAt K CW H p hs ts fpw/\H dw=some (.dK (wKV qs))/\H dy=some (.dK (yKV qs vs))/\Paired (fun v (q:Pc)=>WyAt K H v q.2.2) vs qs /\
  g∈fp/\dw∈fp/\dy∈fp/\(∀b∈fpw,b∈fp)/\∀v∈vs,∀a,v=.ref a->a∈fp
theorem bF_{α β:Type}{F G:α->β->Prop}:∀{l:List α} {m:List β},Paired F l m->(∀a∈l,∀b,F a b->G a b)->Paired G l m
 |_,_,.nil,_=>.nil
 |_,_,.cons h t,f=>.cons (f _ List.mem_cons_self _ h) (bF_ t fun a ha=>f a (List.mem_cons_of_mem _ ha))
theorem WyAt.keep{K:PySem.W.Frag}{H H':Hp}{v:V}{o:Option (List (Str × Str))}(h:WyAt K H v o)(k:∀a,v=.ref a->∀u,H a=some u->H' a=some u)(kt:∀b xs,H b=some (.tup xs)->H' b=some (.tup xs)):WyAt K H' v o:=by
 cases o with
 |none=>exact h
 |some ws=>
  obtain⟨a,ys,e,ha,t⟩:=h
  exact⟨a,ys,e,k a e _ ha,Paired.mapP t fun y q ⟨b,z,hb⟩=>⟨b,z,kt _ _ hb⟩⟩
theorem GoodsAt.keep{K:PySem.W.Frag}{CG CW:Addr}{H H':Hp}{g p:Addr}{hs:List (Str × Int)}{ts:List (Str × Str)}{qs:List Pc}{fp:List Addr}(G:GoodsAt K CG CW H g p hs ts qs fp)(k:∀b∈fp,∀o,H b=some o->H' b=some o)(kt:∀b xs,H b=some (.tup xs)->H' b=some (.tup xs)):GoodsAt K CG CW H' g p hs ts qs fp:=by
 obtain⟨dx,dw,dy,vs,fpw,h1,h2,h3,h4,h5,m1,m2,m3,m4,m5⟩:=G.ex
 exact⟨dx,dw,dy,vs,fpw,k _ m1 _ h1,h2.keep (fun b hb o e=>k b (m4 b hb) o e) kt,k _ m2 _ h3,k _ m3 _ h4,bF_ h5 fun v hv q h=>h.keep (fun a z u e=>k a (m5 v hv a z) u e) kt,m1,m2,m3,m4,m5⟩
theorem GoodsAt.same{K:PySem.W.Frag}{CG CW:Addr}{H H':Hp}{g p:Addr}{hs:List (Str × Int)}{ts:List (Str × Str)}{qs:List Pc}{fp:List Addr}(G:GoodsAt K CG CW H g p hs ts qs fp)(s:Same H H'):GoodsAt K CG CW H' g p hs ts qs fp:=G.keep (fun b _ o e=>s b o e) fun b xs e=>s b _ e
structure TxtG (K:PySem.W.Frag) (CG:Addr):Prop where
 cl:Cls K CG
 nW:NoAttr K CG "web"
 nG:NoAttr K CG "weight_by_name"
 nY:NoAttr K CG "ways_by_name"
structure InsK (K:PySem.W.Frag) (C:Addr):Prop where
 ha:PySem.W.findIn K (.ref C) "__class__"=some (some (.builtin "object.__class__"))
 hn:PySem.W.specialIn K (.builtin "object.__class__") "__get__"=some (some (.builtin "getset_descriptor.__get__"))
 tk:PySem.W.takesIn K (.builtin "object.__class__")=some true
 mo:PySem.W.mroIn K C (.type "object")=some true
theorem hc_(K:PySem.W.Frag)(c:Value):PySem.W.kitOne K c c=some true:=by
 unfold PySem.W.kitOne
 rw[if_pos (beq_self_eq_true c)]
theorem eG_{K:PySem.W.Frag}{H0 H:Hp}:∀{zs:List V} {qs:List Pc},Paired (PcNew K H0 H) zs qs->∃vs:List V,vs.length=qs.length/\Paired (fun z (x:Pc × V)=>∃t,z=.ref t/\H t=some (.tup [.str x.1.1,.int x.1.2.1,x.2])) zs (qs.zip vs)/\Paired (fun v (q:Pc)=>WyAt K H v q.2.2) vs qs/\∀v∈vs,∀a,v=.ref a->H0 a=none
 |_,_,.nil=>⟨[],rfl,.nil,.nil,by simp⟩
 |_,_,.cons ⟨t,v,e,ht,wy,hn⟩ r=>by
  obtain⟨vs,h1,h2,h3,h4⟩:=eG_ r
  refine⟨v::vs,by simp[h1],.cons ⟨t,e,ht⟩ h2,.cons wy h3,fun u hu=>?_⟩
  rcases List.mem_cons.mp hu with rfl|hu
  ·exact hn
  ·exact h4 u hu
theorem eY_{K:PySem.W.Frag}{l D:Addr}{zs:List V}{xs:List (Pc × V)}{H:Hp}{Q:VK}{σ0:St}{j:Nat}(sel:Pc × V->V)(hj:∀x:Pc × V,[some (V.str x.1.1),some (V.int x.1.2.1),some x.2][j]? = some (some (sel x)))(hσ:σ0=[none,none,none])(hl:H l=some (.lst zs))
  (pz:Paired (fun z (x:Pc × V)=>∃t,z=.ref t/\H t=some (.tup [.str x.1.1,.int x.1.2.1,x.2])) zs xs) (h1000:xs.length<=1000) (hD:H D=none)
  (q:∀H' out,Same H H'->H' D=some (.lst out)->PairsAt K H' out (xs.map fun x=>(Sum.inr x.1.1,sel x))->Q (.ref D) H') :
  CompW (Itl K l) (gTup K 3 (gCons (gName 0) (gCons (gName 1) (gCons (gName 2) gNil)))) tYes (tTup (tCons (tVar 0) (tCons (tVar j) tNil))) σ0 D H Q:=by
 have sz:=sizeLine_eq
 have le:=Paired.length pz
 refine aE_ (own:=3) (fv:=[]) (xs:=zs) hσ gok3 (fun i out H'=>Same H H'/\H' D=some (.lst out)/\PairsAt K H' out ((xs.take i).map fun x=>(Sum.inr x.1.1,sel x))) ⟨Same.new hD,a1_,.nil⟩ (fun i out H' _ ⟨sm,_,_⟩=>.of (sm _ _ hl)) (fun out H4 ⟨sm,hD4,eo⟩=>?_) (fun i y out H' hy ⟨sm,hD',eo⟩=>?_)
 ·rw[le,List.take_length] at eo
  exact q _ _ sm hD4 eo
 ·have hi:i<zs.length:=(List.getElem?_eq_some_iff.mp hy).1
  have hx:xs[i]? = some (xs[i]'(by omega)):=List.getElem?_eq_getElem (by omega)
  obtain⟨t,et,ht⟩:=aS_ pz i hi (by omega)
  rw[(List.getElem?_eq_some_iff.mp hy).2] at et
  subst et
  generalize xs[i]'(by omega)=x at hx ht
  have lo:=Paired.length eo
  rw[List.length_map,List.length_take] at lo
  refine⟨_,⟨t,_,_,_,rfl,.of (sm _ _ ht),rfl⟩,rfl,fun Nx hN=>yesT ?_⟩
  refine⟨_,rfl,_,hj x,by show 2<=sizeLine;decide,fun p hp=>?_⟩
  have s2:=Same.new (o:=.tup [.str x.1.1,sel x]) hp
  refine⟨out,s2 _ _ hD',by omega,hN _ _ ⟨ay_ (sm.trans s2) hD,a1_,?_⟩⟩
  rw[aD_ _ hx]
  have pD:∀{b:Addr} {ys:List V},upd H' p (.tup [.str x.1.1,sel x]) b=some (.tup ys)->b≠D:=fun hb=>aQ_ hb (s2 _ _ hD') (by intro z;cases z)
  refine b2_ (Paired.mapP eo fun y kv ⟨b,z,hb⟩=>⟨b,z,by rw[a5_ (pD (s2 _ _ hb))];exact s2 _ _ hb⟩) (.cons ⟨p,rfl,?_⟩ .nil)
  have hp2:upd H' p (.tup [.str x.1.1,sel x]) p=some (.tup [.str x.1.1,sel x]):=a1_
  rw[a5_ (pD hp2)]
  exact hp2
section
variable{P:Program}{w:World}{K:PySem.W.Frag}{mg:Str->Option Value}{base:Heap}
theorem scGInit:FnScope ["self","web","pieces","checked"] ["self","web","pieces"] (defScope sGInit):=⟨rfl,rfl,rfl,by decide +kernel,rfl,by decide +kernel,by decide +kernel⟩
def spGInit(K:PySem.W.Frag)(CG CW:Addr):Sp:=fun vs H Q _=>∃(g dx p l:Addr) (ys:List V) (ps:List Pc) (hs:List (Str × Int)) (ts:List (Str × Str)) (fpw:List Addr),vs=[.ref g,.ref p,.ref l]/\H g=some (.ins CG dx [])/\WebAt K CW H p hs ts fpw/\g∉fpw/\Good hs ts/\H l=some (.lst ys)/\PcsAt K H ys ps/\(∀q∈ps,GoodP ts q)/\(ps.map (·.1)).Nodup/\ps.length<64 /\
 ∀qs fp H',(∀b o,H b=some o->b≠g->H' b=some o)->GoodsAt K CG CW H' g p hs ts qs fp->Qs ps qs->(∀b∈fp,b=g∨b∈fpw∨H b=none)->Q .non H'
theorem hS_{f CG CW:Addr}{fd:FuncData}(F:Fun K "__init__" "Goods.__init__" sGInit f fd)(T:TxtG K CG)(TW:Txt K mg CW)(IW:InsK K CW)(B:Bi mg)(mWeb:mg "Web"=some (.ref CW))(cP:Cal P w K mg base 6 "checked_pieces" ["web","pieces"] (spCPieces K CW)):FnOk P w K mg base CX0 7 f fd ["self","web","pieces"] (spGInit K CG CW):=by
 refine F.ok scGInit (fun vs H Q E h=>?_) (fun cdv A outer s H vs Q E hr h=>?_)
 ·obtain⟨g,dx,p,l,ys,ps,hs,ts,fpw,rfl,_⟩:=h
  rfl
 ·obtain⟨g,dx,p,l,ys,ps,hs,ts,fpw,rfl,hg,W,gw,G,hl,pc,gp,nd,h64,k⟩:=h
  refine⟨_,a2_ (ak_ (av_ (ax_ (a8_ gP_ (by rfl) B.isi PyProof.Rows.Boot.«isinstance» (a0_ (pv 1) (a0_ (aK_ (v:=.ref CW) (by rfl) mWeb rfl) a3_))))) ad_ ac_)
   (a2_ (ab_ (i:=3) scGInit.nd rfl (Or.inl rfl) (ag_ cP hr (a0_ (pv 1) (a0_ (pv 2) a3_))))
   (a2_ (cP_ (pv 0) (pv 1) rfl)
   (a2_ (cP_ (pv 0) (aJ_ (aT_ rfl) (by rfl) B.dict PyProof.Rows.Boot.«dict» (a0_ (aP_ ["name","weight","ways"] 3 [] (au_ (pv 3)) (fun fp s H=>dp_ (n:=3) (aj_ (ae_ (i:=0) (show (["name","weight","ways"]:List Str).Nodup by decide +kernel) rfl (Or.inl rfl)) (aj_ (ae_ (i:=1) (show (["name","weight","ways"]:List Str).Nodup by decide +kernel) rfl (Or.inl rfl)) (aj_ (ae_ (i:=2) (show (["name","weight","ways"]:List Str).Nodup by decide +kernel) rfl (Or.inl rfl)) b3_)))) (fun fp s H=>aV_) (fun fp s H=>aC_ (a0_ (pv 0) (a0_ (pv 1) a3_)))) a3_)) rfl)
   (a4_ (cP_ (pv 0) (aJ_ (aT_ rfl) (by rfl) B.dict PyProof.Rows.Boot.«dict» (a0_ (aP_ ["name","weight","ways"] 3 [] (au_ (pv 3)) (fun fp s H=>dp_ (n:=3) (aj_ (ae_ (i:=0) (show (["name","weight","ways"]:List Str).Nodup by decide +kernel) rfl (Or.inl rfl)) (aj_ (ae_ (i:=1) (show (["name","weight","ways"]:List Str).Nodup by decide +kernel) rfl (Or.inl rfl)) (aj_ (ae_ (i:=2) (show (["name","weight","ways"]:List Str).Nodup by decide +kernel) rfl (Or.inl rfl)) b3_)))) (fun fp s H=>aV_) (fun fp s H=>aC_ (a0_ (pv 0) (a0_ (pv 2) a3_)))) a3_)) rfl))))),?_⟩
  obtain⟨dxw,d1,l2,d3,zs0,as,ef,w1,_⟩:=id W.ex
  refine⟨_,rfl,_,_,_,_,rfl,.ins w1 TW.cl IW.ha IW.hn IW.tk IW.mo,hc_ _ _,_,rfl,iteF ?_⟩
  refine⟨_,rfl,_,rfl,p,l,ys,ps,hs,ts,fpw,rfl,W,G,hl,pc,gp,nd,h64,fun lc zs qs H1 s1 hlc pn Qq=>?_⟩
  obtain⟨vs,lv,pz,wys,vnew⟩:=eG_ pn
  have hg1:=s1 _ _ hg
  have lq:qs.length=ps.length:=by
   have:=congrArg List.length Qq.nms
   rw[List.length_map,(aF_ _).length_eq,List.length_map] at this
   exact this
  have qnd:(qs.map (·.1)).Nodup:=by
   rw[Qq.nms]
   exact (aF_ _).nodup_iff.mpr nd
  refine⟨_,rfl,_,rfl,g,CG,dx,[],rfl,hg1,T.cl,T.nW,by show 0<1000;decide,?_⟩
  have up1:∀{b o},H1 b=some o->b≠g->upd H1 g (.ins CG dx (putF "web" (.ref p) [])) b=some o:=fun e ne=>by rw[a5_ ne];exact e
  have hg2:upd H1 g (.ins CG dx (putF "web" (.ref p) [])) g=some (.ins CG dx (putF "web" (.ref p) [])):=a1_
  have fr1:∀{b},upd H1 g (.ins CG dx (putF "web" (.ref p) [])) b=none->H1 b=none:=fun {b} e=>by
   by_cases z:b=g
   ·rw[z,a1_] at e;cases e
   ·rw[a5_ z] at e;exact e
  generalize upd H1 g (.ins CG dx (putF "web" (.ref p) []))=H2 at up1 hg2 fr1 ⊢
  have lcg:lc≠g:=aQ_ hlc hg1 (by intro z;cases z)
  have pz2:Paired (fun z (x:Pc × V)=>∃t,z=.ref t/\H2 t=some (.tup [.str x.1.1,.int x.1.2.1,x.2])) zs (qs.zip vs):=Paired.mapP pz fun z x ⟨t,e,ht⟩=>⟨t,e,up1 ht (aQ_ ht hg1 (by intro z;cases z))⟩
  have z1000:(qs.zip vs).length<=1000:=by rw[List.length_zip];omega
  refine⟨_,rfl,lc,rfl,⟨_,.of (up1 hlc lcg)⟩,fun D hD=>?_⟩
  refine eY_ (fun x=>.int x.1.2.1) (fun x=>rfl) rfl (up1 hlc lcg) pz2 z1000 hD fun H3 out s3 hD3 pa3=>?_
  refine⟨D,out,_,rfl,hD3,pa3,by rw[List.length_map];exact z1000,fun dw hdw=>?_⟩
  have ekv:((qs.zip vs).map fun x:Pc × V=>((Sum.inr x.1.1:Key),V.int x.1.2.1))=wKV qs:=by
   unfold wKV
   have:(fun x:Pc × V=>((Sum.inr x.1.1:Key),V.int x.1.2.1))=(fun q:Pc=>((Sum.inr q.1:Key),V.int q.2.1)) ∘ Prod.fst:=rfl
   rw[this,<- List.map_map,List.map_fst_zip (by omega)]
  have ndk:(qs.map (·.1)).map (Sum.inr:Str->Key) |>.Nodup:=by
   rw[List.nodup_iff_pairwise_ne,List.pairwise_map]
   exact qnd.imp fun n e=>n (Sum.inr.inj e)
  rw[ekv,aU_ (by rw[eI_];exact ndk)]
  have s4:=Same.new (o:=.dK (wKV qs)) hdw
  have hg4:=s4 _ _ (s3 _ _ hg2)
  refine⟨_,rfl,g,CG,dx,_,rfl,hg4,T.cl,T.nG,by show 1<1000;decide,?_⟩
  have s24:=s3.trans s4
  have hdw4:upd H3 dw (.dK (wKV qs)) dw=some (.dK (wKV qs)):=a1_
  have dwg:dw≠g:=(a7_ (s3 _ _ hg2) hdw).symm
  have fr4:∀{b},upd H3 dw (.dK (wKV qs)) b=none->H2 b=none:=fun e=>s24.free e
  have dwn:H2 dw=none:=s3.free hdw
  generalize upd H3 dw (.dK (wKV qs))=H4 at s4 hg4 s24 hdw4 fr4 ⊢
  have up5:∀{b o},H4 b=some o->b≠g->upd H4 g (.ins CG dx (putF "weight_by_name" (.ref dw) (putF "web" (.ref p) []))) b=some o:=fun e ne=>by rw[a5_ ne];exact e
  have hg5:upd H4 g (.ins CG dx (putF "weight_by_name" (.ref dw) (putF "web" (.ref p) []))) g=some (.ins CG dx (putF "weight_by_name" (.ref dw) (putF "web" (.ref p) []))):=a1_
  have fr5:∀{b},upd H4 g (.ins CG dx (putF "weight_by_name" (.ref dw) (putF "web" (.ref p) []))) b=none->H4 b=none:=fun {b} e=>by
   by_cases z:b=g
   ·rw[z,a1_] at e;cases e
   ·rw[a5_ z] at e;exact e
  generalize upd H4 g (.ins CG dx (putF "weight_by_name" (.ref dw) (putF "web" (.ref p) [])))=H5 at up5 hg5 fr5 ⊢
  have up15:∀{b o},H1 b=some o->b≠g->H5 b=some o:=fun e ne=>up5 (s24 _ _ (up1 e ne)) ne
  have pz5:Paired (fun z (x:Pc × V)=>∃t,z=.ref t/\H5 t=some (.tup [.str x.1.1,.int x.1.2.1,x.2])) zs (qs.zip vs):=Paired.mapP pz fun z x ⟨t,e,ht⟩=>⟨t,e,up15 ht (aQ_ ht hg1 (by intro z;cases z))⟩
  refine⟨_,rfl,lc,rfl,⟨_,.of (up15 hlc lcg)⟩,fun D2 hD2=>?_⟩
  refine eY_ (fun x=>x.2) (fun x=>rfl) rfl (up15 hlc lcg) pz5 z1000 hD2 fun H6 out2 s6 hD6 pa6=>?_
  refine⟨D2,out2,_,rfl,hD6,pa6,by rw[List.length_map];exact z1000,fun dy hdy=>?_⟩
  rw[show ((qs.zip vs).map fun x:Pc × V=>((Sum.inr x.1.1:Key),x.2))=yKV qs vs from rfl,aU_ (by rw[h7_ lv];exact ndk)]
  have s7:=Same.new (o:=.dK (yKV qs vs)) hdy
  have s57:=s6.trans s7
  have hg7:=s57 _ _ hg5
  refine⟨_,rfl,g,CG,dx,_,rfl,hg7,T.cl,T.nY,by show 2<1000;decide,?_⟩
  have hdy7:upd H6 dy (.dK (yKV qs vs)) dy=some (.dK (yKV qs vs)):=a1_
  have dyg:dy≠g:=(a7_ (s6 _ _ hg5) hdy).symm
  have dyn:H5 dy=none:=s6.free hdy
  generalize upd H6 dy (.dK (yKV qs vs))=H7 at s7 s57 hg7 hdy7 ⊢
  have fin:∀{b o},H1 b=some o->b≠g->upd H7 g (.ins CG dx (gflds p dw dy)) b=some o:=fun e ne=>by
   rw[a5_ ne]
   exact s57 _ _ (up15 e ne)
  have tupf:∀b xs,H1 b=some (.tup xs)->upd H7 g (.ins CG dx (gflds p dw dy)) b=some (.tup xs):=fun b xs e=>fin e (aQ_ e hg1 (by intro z;cases z))
  have nH:∀{b},H1 b=none->H b=none:=fun e=>s1.free e
  refine k qs (g::dw::dy::(fpw++vs.filterMap fun v=>match v with | .ref a=>some a|_=>none)) _ (fun b o e ne=>fin (s1 _ _ e) ne) ⟨dx,dw,dy,vs,fpw,a1_,?_,?_,?_,?_,by simp,by simp,by simp,fun b hb=>by simp[hb],fun v hv a z=>?_⟩ Qq fun b hb=>?_
  ·exact W.keep (fun b hb o e=>fin (s1 _ _ e) (fun z=>gw (z▸hb))) fun b xs e=>tupf b xs (s1 _ _ e)
  ·rw[a5_ dwg]
   exact s57 _ _ (up5 hdw4 dwg)
  ·rw[a5_ dyg]
   exact hdy7
  ·exact bF_ wys fun v hv q h=>h.keep (fun a z u e=>fin e (fun zz=>by
    subst zz
    have:=vnew v hv _ z
    rw[hg] at this
    cases this)) fun b xs e=>tupf b xs e
  ·refine List.mem_cons_of_mem _ (List.mem_cons_of_mem _ (List.mem_cons_of_mem _ (List.mem_append_right _ (List.mem_filterMap.mpr ⟨v,hv,?_⟩))))
   rw[z]
  ·simp only[List.mem_cons,List.mem_append,List.mem_filterMap] at hb
   rcases hb with rfl|rfl|rfl|hb|⟨v,hv,e⟩
   ·exact .inl rfl
   ·exact .inr (.inr (nH (fr1 dwn)))
   ·exact .inr (.inr (nH (fr1 (s24.free (fr5 dyn)))))
   ·exact .inr (.inl hb)
   ·cases v with
    |ref a=>
     cases e
     exact .inr (.inr (vnew _ hv _ rfl))
    |_=>cases e
end
end Ev
set_option Elab.async false
set_option linter.all false
set_option maxRecDepth 100000
namespace L2
open PySem
theorem pass1{P:Program}{w:World}{X:Cx}:Passes (CX1 P w) X E0:=fun _ _ _ _ _ _ _ h=>by
 obtain⟨_,_,_,_,_,_,_,_,_,_,_,_,z⟩:=h
 exact z.elim
end L2
namespace Ev
open PySem L2
structure CalX (P:Program) (w:World) (K:PySem.W.Frag) (mg:Str->Option Value) (base:Heap) (C:Addr) (k:Nat) (m:Str) (ps:List Str) (sp:Sp):Prop where
 ex:∃f fd,FnOk P w K mg base (CX1 P w) k f fd ps sp/\Meth K C m f/\Binds K fd ps []
theorem k0_{X:Cx}{C:Addr}{k:Nat}{m:Str}{ps:List Str}{sp:Sp}{pos apos:Pos}{o e:Expr}{es:List Expr}{ta:TE}{t:TA}{pl:Sem Bool}(c:CalX X.prog X.w X.K X.mg X.base C k m ps sp)(cl:Cls X.K C)(hr:Room k X.A)(he:PE X o ta)(ha:PA X (e::es) t)
  (hst:starEach (e::es) X.env=(false,eval e X.env)::starEach es X.env:=by rfl) (hpl:(backTo pos (starEach es X.env)).any (·.1)=false:=by rfl)
  (ht:eval (.Call (.Attribute o m apos) (e::es) [] pos) X.env=(do
   let ov <- eval o X.env
   standAt apos.atName
   let (f,first) <- holding [ov] (getMethod ov m pl)
   callWith pos f first (backTo pos (starEach (e::es) X.env)) (backToKw pos (keywordEach [] X.env))):=by rfl) :
  PE X (.Call (.Attribute o m apos) (e::es) [] pos) (tMeth C m sp [] E0 ta t):=by
 obtain⟨f,fd,F,hm,b⟩:=c.ex
 exact gq_ he cl hm F hr b .nil pass1 ha hst hpl ht
theorem eb_{kvs:List (Key × V)}{ns:List Str}(h:kvs.map (·.1)=ns.map Sum.inr)(x:Str):(valV kvs (Sum.inr x)).isSome=decide (x∈ns):=by
 by_cases hx:x∈ns
 ·rw[decide_eq_true hx]
  refine dJ_ ?_
  rw[h]
  exact List.mem_map.mpr ⟨x,hx,rfl⟩
 ·rw[decide_eq_false hx,aB_]
  ·rfl
  ·rw[h]
   intro m
   obtain⟨y,hy,e⟩:=List.mem_map.mp m
   cases e
   exact hx hy
theorem jU_{qs:List Pc}(nd:(qs.map (·.1)).Nodup){q:Pc}(hq:q∈qs):valV (wKV qs) (Sum.inr q.1)=some (.int q.2.1):=by
 obtain⟨j,hj,e⟩:=List.getElem_of_mem hq
 have:=eX_ (ps:=qs) (cs:=qs.map fun q=>V.int q.2.1) nd (by rw[List.length_map]) (j:=j) (q:=q) (c:=.int q.2.1) (by rw[List.getElem?_eq_getElem hj,e]) (by rw[List.getElem?_map,List.getElem?_eq_getElem hj,e];rfl)
 have e2:((qs.zip (qs.map fun q=>V.int q.2.1)).map fun q=>((Sum.inr q.1.1:Key),q.2))=wKV qs:=by
  unfold wKV
  rw[List.zip_map_right,List.map_map]
  have:qs.zip qs=qs.map fun q=>(q,q):=by
   clear nd hq this hj e j
   induction qs with
   |nil=>rfl
   |cons a l ih=>rw[List.zip_cons_cons,ih,List.map_cons]
  rw[this,List.map_map]
  rfl
 rwa [e2] at this
section
variable{P:Program}{w:World}{K:PySem.W.Frag}{mg:Str->Option Value}{base:Heap}
theorem scGHas:FnScope ["self","thing"] ["self","thing"] (defScope sGHas):=⟨rfl,rfl,rfl,by decide +kernel,rfl,by decide +kernel,by decide +kernel⟩
def spGHas(K:PySem.W.Frag)(CG CW:Addr):Sp:=fun vs H Q _=>∃(g p:Addr) (v:V) (x:Option Str) (hs:List (Str × Int)) (ts:List (Str × Str)) (qs:List Pc) (fp:List Addr),vs=[.ref g,v]/\GoodsAt K CG CW H g p hs ts qs fp/\StrV K H v x/\Q (.bl (inB (qs.map (·.1)) x)) H
theorem iC_{f CG CW:Addr}{fd:FuncData}(F:Fun K "has_piece" "Goods.has_piece" sGHas f fd)(T:TxtG K CG)(B:Bi mg):FnOk P w K mg base CX0 1 f fd ["self","thing"] (spGHas K CG CW):=by
 refine F.ok scGHas (fun vs H Q E h=>?_) (fun cdv A outer s H vs Q E hr h=>?_)
 ·obtain⟨g,p,v,x,hs,ts,qs,fp,rfl,_⟩:=h
  rfl
 ·obtain⟨g,p,v,x,hs,ts,qs,fp,rfl,G,sv,k⟩:=h
  have hu:=bk_ hr
  obtain⟨dx,dw,dy,vs,fpw,h1,h2,h3,h4,h5,m1,m2,m3,m4,m5⟩:=G.ex
  refine⟨_,a4_ (aa_ (aX_ (a8_ ap_ (by rfl) B.isi PyProof.Rows.Boot.«isinstance» (a0_ (pv 1) (a0_ (aA_ (v:=.ty "str") (by rfl) B.str PyProof.Rows.Boot.«str» rfl) a3_))) (aO_ (dx_ (d0_ hu (pv 1) (aM_ (pv 0) rfl)))))),?_⟩
  cases x with
  |some x=>
   cases (show v=.str x from sv)
   refine⟨_,rfl,_,_,_,_,rfl,.str x,rfl,_,rfl,iteT ?_⟩
   refine⟨_,rfl,_,rfl,g,CG,dx,_,_,rfl,h1,T.cl,T.nG,e3_ _ _ _,dw,_,rfl,.k (k:=Sum.inr x) h3,?_⟩
   rw[eb_ (eI_ qs)]
   exact k
  |none=>
   obtain⟨t,ty,e⟩:=sv
   exact⟨_,rfl,_,_,_,_,rfl,ty,e,_,rfl,iteF k⟩
theorem scGNames:FnScope ["self"] ["self"] (defScope sGNames):=⟨rfl,rfl,rfl,by decide +kernel,rfl,by decide +kernel,by decide +kernel⟩
def spGNames(K:PySem.W.Frag)(CG CW:Addr):Sp:=fun vs H Q _=>∃(g p:Addr) (hs:List (Str × Int)) (ts:List (Str × Str)) (qs:List Pc) (fp:List Addr),vs=[.ref g]/\GoodsAt K CG CW H g p hs ts qs fp/\∀l,H l=none->Q (.ref l) (upd H l (.lst ((qs.map (·.1)).map V.str)))
theorem gg_{f CG CW:Addr}{fd:FuncData}(F:Fun K "names" "Goods.names" sGNames f fd)(T:TxtG K CG)(B:Bi mg):FnOk P w K mg base CX0 1 f fd ["self"] (spGNames K CG CW):=by
 refine F.ok scGNames (fun vs H Q E h=>?_) (fun cdv A outer s H vs Q E hr h=>?_)
 ·obtain⟨g,p,hs,ts,qs,fp,rfl,_⟩:=h
  rfl
 ·obtain⟨g,p,hs,ts,qs,fp,rfl,G,k⟩:=h
  obtain⟨dx,dw,dy,vs,fpw,h1,h2,h3,h4,h5,m1,m2,m3,m4,m5⟩:=G.ex
  refine⟨_,a4_ (aa_ (aJ_ (c1_ rfl) (by rfl) B.list PyProof.Rows.Boot.«list» (a0_ (aM_ (pv 0) rfl) a3_))),?_⟩
  refine⟨_,rfl,g,CG,dx,_,_,rfl,h1,T.cl,T.nG,e3_ _ _ _,dw,_,rfl,.inl h3,fun l hl=>?_⟩
  have e:((wKV qs).map fun kv=>kV kv.1)=(qs.map (·.1)).map V.str:=by
   unfold wKV
   rw[List.map_map,List.map_map]
   rfl
  rw[e]
  exact k l hl
structure Ref (K:PySem.W.Frag) (mg:Str->Option Value) (x:Str) (C:Addr):Prop where
 mg:mg x=some (.ref C)
 ex:PySem.W.excIn K C [.type "ValueError",.type "Exception",.type "BaseException",.type "object"] "ValueError.__new__"=true
theorem scGWeight:FnScope ["self","piece"] ["self","piece"] (defScope sGWeight):=⟨rfl,rfl,rfl,by decide +kernel,rfl,by decide +kernel,by decide +kernel⟩
def spGWeight(K:PySem.W.Frag)(CG CW CP:Addr):Sp:=fun vs H Q E=>∃(g p:Addr) (v:V) (x:Option Str) (hs:List (Str × Int)) (ts:List (Str × Str)) (qs:List Pc) (fp:List Addr),vs=[.ref g,v]/\GoodsAt K CG CW H g p hs ts qs fp/\(qs.map (·.1)).Nodup/\StrV K H v x /\
 ((∃q∈qs,x=some q.1/\Q (.int q.2.1) H)∨(inB (qs.map (·.1)) x=false/\E (.ref CP) none H))
theorem fn_{f CG CW CP:Addr}{fd:FuncData}(F:Fun K "weight" "Goods.weight" sGWeight f fd)(T:TxtG K CG)(R:Ref K mg "NoPiece" CP)(cH:CalM P w K mg base CG 1 "has_piece" ["self","thing"] (spGHas K CG CW)):FnOk P w K mg base (CX1 P w) 2 f fd ["self","piece"] (spGWeight K CG CW CP):=by
 refine F.okX scGWeight (fun vs H Q E h=>?_) (fun cdv A outer s H vs Q E hr h=>?_)
 ·obtain⟨g,p,v,x,hs,ts,qs,fp,rfl,_⟩:=h
  rfl
 ·obtain⟨g,p,v,x,hs,ts,qs,fp,rfl,G,nd,sv,k⟩:=h
  have hu:=bk_ hr
  obtain⟨dx,dw,dy,vs,fpw,h1,h2,h3,h4,h5,m1,m2,m3,m4,m5⟩:=id G.ex
  have hno:(gflds p dw dy).lookup ("has_piece":Str)=none:=bx_ _ _ _ (by decide +kernel) (by decide +kernel) (by decide +kernel)
  refine⟨_,a2_ (ak_ (av_ (ax_ (bR_ cH T.cl hr (pv 0) (a0_ (pv 1) a3_)))) (a4_ (bh_ rfl raises1 R.mg R.ex PySem.F.excBase_ValueError (by rfl) (a0_ a9_ a3_))) ac_) (a4_ (aa_ (bH_ hu (aM_ (pv 0) rfl) (pv 1) (fun _ _=>rfl)))),?_⟩
  refine⟨_,rfl,g,dx,_,rfl,h1,hno,_,rfl,g,p,v,x,hs,ts,qs,fp,rfl,G,sv,_,rfl,?_⟩
  rcases k with⟨q,hq,rfl,k⟩|⟨hb,k⟩
  ·cases (show v=.str q.1 from sv)
   rw[show inB (qs.map (·.1)) (some q.1)=true from decide_eq_true (List.mem_map.mpr ⟨q,hq,rfl⟩)]
   refine iteF ?_
   refine⟨_,rfl,g,CG,dx,_,_,rfl,h1,T.cl,T.nG,e3_ _ _ _,_,rfl,dw,_,rfl,?_,k⟩
   rw[<- jU_ nd hq]
   exact .k (k:=Sum.inr q.1) h3
  ·rw[hb]
   exact iteT ⟨by show 1<=sizeLine;decide,k⟩
end
end Ev
set_option Elab.async false
set_option linter.all false
set_option maxRecDepth 100000
namespace L2
open PySem PySem.Spec PyProof.Rows PySem.W
theorem iV_{P:Program}{w:World}{k:Key}{key:Value}(h:(mixKind P w).is k key=true):RelV (kV k) key:=by
 have e2:keyIs k key=true:=h
 rcases an_ e2 with⟨i,t,rfl,rfl⟩|⟨x,t,rfl,rfl⟩
 ·exact⟨t,rfl⟩
 ·exact⟨t,rfl⟩
def Itm(d:Addr)(o:Obj)(kvs:List (Key × V)):It:=⟨fun i H=>H d=some (.frz o (.dK kvs))/\i<kvs.length,fun i H y H'=>∃t k x,y=.ref t/\H t=none/\kvs[i]? = some (k,x)/\H'=upd H t (.tup [kV k,x]),fun i H=>H d=some (.frz o (.dK kvs))/\kvs.length<=i⟩
theorem f5_{P:Program}{w:World}{K:PySem.W.Frag}{elts:List Expr}{kk:Nat}{pos:Pos}(d it:Addr)(o:Obj)(kvs:List (Key × V)){es:Array DictEntry}{ep:Nat}(ho:o.data=.dict es ep):Turn P w K (.Tuple elts kk pos) (Itm d o kvs) [it] it (fun i h=>∃ok ov,IsItemIter h it d i kvs.length ep ok ov) where
 mem:=by simp
 obj:=fun i h st b hb=>by
  obtain rfl:b=it:=by simpa using hb
  obtain⟨ok,ov,q⟩:=st
  exact⟨_,q,fun v z=>by cases z⟩
 keep:=fun i h h' st k=>by
  obtain⟨ok,ov,q⟩:=st
  exact⟨ok,ov,k it (by simp) _ q⟩
 item:=by
  intro X hP hw hK hc i pins s σ H E I hf st hg
  subst hP hw hK
  obtain⟨hd,hi⟩:=hg
  obtain⟨vs,rel,dat⟩:=by_ I hd ho
  obtain⟨⟨k,x⟩,hx⟩:∃p,kvs[i]? = some p:=⟨kvs[i],by simp[hi]⟩
  obtain⟨u,hu,ru⟩:=gB_ rel i hx
  obtain⟨ok,ov,st⟩:=st
  have itl:it<s.heap.objs.size:=Heap.lt_size st
  rw[rel.length] at st
  refine wpAny_pyNext_items_item st dat hu fun key h' hk out ht sz kp=>?_
  refine⟨_,rfl,wpAny_letOwnedTupleGo_items (s:={ s with heap:=h' }) out fun h2 st2 sb=>?_⟩
  have nT:s.heap.objs.size≠it:=Nat.ne_of_gt itl
  have I1:Inv X pins σ (upd H s.heap.objs.size (.tup [kV k,x])) { s with heap:=h2 }:=I.turnedN (t':=s.toks) (fp:=[it]) (its:=[key,u]) (fun b o hb q=>(sb.2 b (by simpa using hb)).trans (kp b o (by simpa using hb) q)) hf (Nat.le_refl _) (by show 2<=sizeLine;decide) (.cons (iV_ hk) (.cons ru .nil)) ⟨⟨_,(sb.2 _ nT).trans ht,rfl,_,rfl⟩,_,(sb.2 _ nT).trans ht,rfl⟩
  refine⟨.ref _,_,I1,rfl,⟨_,k,x,rfl,I.hok.fresh (Nat.le_refl _),hx,rfl⟩,⟨_,_,by rw[rel.length];exact st2⟩,fun b hb=>?_⟩
  have e:b=it:=by simpa using hb
  rw[a5_ (fun z=>nT (z.symm.trans e))]
  exact (hf b hb).1
 done:=by
  intro X hP hw hK hc i pins s σ H E I hf st hg
  subst hP hw hK
  obtain⟨hd,hi⟩:=hg
  obtain⟨vs,rel,dat⟩:=by_ I hd ho
  obtain⟨f0,f1,f2,f3,f4,f5⟩:=hf it (by simp)
  obtain⟨ok,ov,st⟩:=st
  rw[rel.length] at st hi
  exact wpAny_pyNext_items_end (I.ok.hd hc) st dat (by simp;omega) fun h' eb=>⟨rfl,I.turned (t':=s.toks) (fun b o hb e=>eb b o hb e) f0 f1 f3 f4 f5⟩
 self:=fun A i s Q E st h=>by
  obtain⟨ok,ov,q⟩:=st
  exact kcp_self q h
def iItems(tv:TE):TI:=fun σ H R=>tv σ H fun x H1=>∃v d kvs,x=.ref v/\H1 v=some (itemsV v d)/\H1 d=some (.dK kvs)/\∀o,R (Itm d o kvs) (upd H1 d (.frz o (.dK kvs)))
theorem bP_{X:Cx}{elts:List Expr}{kk:Nat}{p2:Pos}{e:Expr}{tv:TE}(he:PE X e tv):PI X (.Tuple elts kk p2) e (iItems tv):=by
 intro pins s σ H R I h
 refine thn (he pins s σ H _ I h) fun u s1 ⟨x,H1,I1,r1,v,d,kvs,ex,hv,hd,q⟩=>?_
 subst ex
 cases r1
 obtain⟨iv,_,_⟩:=I1.hok v _ hv
 obtain⟨o,ho,I2⟩:=I1.freeze hd
 obtain⟨z,_,vs,rel,o',es,ep,ho',c',dt,r⟩:=ei_ I1.hok hd
 rw[ho] at ho'
 cases ho'
 refine wpAny_pyIter_items (knd:=mixKind X.prog X.w) (kvs:=vs) (ep:=ep) iv ⟨o,es,ho,c',dt,r⟩ ?_
 refine⟨s1.heap.objs.size,[s1.heap.objs.size],_,_,_,rfl,I2.kept (t':=s1.toks) fun b o e=>Heap.get?_push_of_some _ e,f5_ d _ o kvs dt,?_,fun b hb=>?_,q o⟩
 ·rw[rel.length]
  exact⟨.none,.none,Heap.get?_push_size _ rfl⟩
 ·obtain rfl:b=s1.heap.objs.size:=by simpa using hb
  exact I2.fpOk (Nat.le_refl _) (I2.hok.fresh (Nat.le_refl _))
theorem bN_{d:Addr}{o:Obj}{kvs:List (Key × V)}{g:TG}{tb:TS}{D:Ends}{σ:St}{H:Hp}(Pv:Nat->St->Hp->Prop)(h0:Pv 0 σ H)(hl:∀i σ H,i<=kvs.length->Pv i σ H->H d=some (.frz o (.dK kvs)))
  (hs:∀i k x σ H,kvs[i]? = some (k,x)->Pv i σ H->∀t,H t=none->g (.ref t) σ (upd H t (.tup [kV k,x])) fun σ2 H2=>tb { D with nx:=Pv (i+1),ct:=Pv (i+1),bk:=D.nx } σ2 H2) (hd:∀σ H,Pv kvs.length σ H->D.nx σ H) :
  ∃W:Nat->Nat->St->Hp->Prop,(∃m,W 0 m σ H)/\∀i m σ H,W i m σ H->
   ((Itm d o kvs).stop i H/\D.nx σ H)∨((Itm d o kvs).go i H/\∃N:St->Hp->Prop,(∀σ' H',N σ' H'->∃m',m'<m/\W (i+1) m' σ' H')/\∀x H',(Itm d o kvs).yld i H x H'->g x σ H' fun σ2 H2=>tb { D with nx:=N,ct:=N,bk:=D.nx } σ2 H2):=by
 refine⟨fun i m σ H=>m=kvs.length - i/\i<=kvs.length/\Pv i σ H,⟨kvs.length,by simp,Nat.zero_le _,h0⟩,?_⟩
 rintro i m σ H ⟨rfl,hi,p⟩
 have q:=hl i σ H hi p
 by_cases hlt:i<kvs.length
 ·refine .inr ⟨⟨q,hlt⟩,Pv (i+1),fun σ' H' p'=>⟨kvs.length - (i+1),by omega,rfl,hlt,p'⟩,fun x H' y=>?_⟩
  obtain⟨t,k,x,rfl,ht,hx,rfl⟩:=y
  exact hs i k x σ H hx p t ht
 ·have e:i=kvs.length:=by omega
  subst e
  exact .inl ⟨⟨q,Nat.le_refl _⟩,hd σ H p⟩
def tThawS(t:TS):TS:=fun D σ H=>∃d kvs,H d=some (.dK kvs)/\t { nx:=fun σ1 H1=>∃o,H1 d=some (.frz o (.dK kvs))/\D.nx σ1 (upd H1 d (.dK kvs)),rt:=fun v H1=>∃o,H1 d=some (.frz o (.dK kvs))/\D.rt v (upd H1 d (.dK kvs)) } σ H
theorem ek_{X:Cx}{st:Stmt}{t:TS}(h:PS X st t):PS X st (tThawS t):=by
 intro pins s σ H D I q
 obtain⟨d,kvs,hd,q⟩:=q
 have nf:∀o u,X.H₀ d≠some (.frz o u):=fun o u z=>by
  have:=I.base.frzs _ _ _ z
  rw[hd] at this
  cases this
 refine thn (h pins s σ H _ I q) fun f s' p=>?_
 cases f with
 |next=>
  obtain⟨σ1,H1,I1,o,hf,q1⟩:=p
  exact⟨σ1,_,I1.thaw hf nf,q1⟩
 |brk=>
  obtain⟨σ1,H1,I1,q1⟩:=p
  exact False.elim q1
 |cont=>
  obtain⟨σ1,H1,I1,q1⟩:=p
  exact False.elim q1
 |ret u=>
  obtain⟨v,σ1,H1,I1,r,o,hf,q1⟩:=p
  exact⟨v,σ1,_,I1.thaw hf nf,r,q1⟩
theorem d1_:∀{ns:List Int} {its:List Value},Vals (ns.map V.int) its->∃xs:List (Int × Tok),its.toArray=intItems xs.toArray/\xs.map (·.1)=ns
 |[],_,.nil=>⟨[],by unfold intItems;simp,rfl⟩
 |n::ns,_,.cons ⟨t,e⟩ r=>by
  obtain⟨xs,h1,h2⟩:=d1_ r
  refine⟨(n,t)::xs,?_,by simp[h2]⟩
  subst e
  apply Array.ext'
  have h3:=congrArg Array.toList h1
  unfold intItems at h3 ⊢
  simp at h3 ⊢
  exact h3
theorem cG_{xs:List (Int × Tok)}:∀n,n<=xs.length->preSum (numAt xs.toArray) n=((xs.map (·.1)).take n).sum
 |0,_=>by simp[preSum]
 |n+1,h=>by
  have ih:=cG_ (xs:=xs) n (by omega)
  show preSum (numAt xs.toArray) n+numAt xs.toArray n=_
  rw[ih,List.take_add_one,List.sum_append]
  congr 1
  unfold numAt
  rw[List.getElem?_toArray,List.getElem?_map,List.getElem?_eq_getElem (by omega)]
  simp
def rSumI(K:PySem.W.Frag):List V->Hp->VK->Prop:=fun xs H Q=>∃(l:Addr) (ns:List Int),xs=[.ref l]/\SqL K H l (ns.map V.int)/\Q (.int ns.sum) H
theorem dD_{X:Cx}(hc:X.calm=true):CallR X (.builtin "sum") (rSumI X.K):=by
 intro pins s σ H xs us Q I r h
 obtain⟨l,ns,rfl,hl,q⟩:=h
 obtain⟨u,rfl,ru⟩:=vals1 r
 cases ru
 obtain⟨its,rv,p,hz⟩:=I.list hl
 obtain⟨zs,e1,e2⟩:=d1_ rv
 have il:=p.isList
 rw[e1] at il
 refine sum_intListG (I.ok.hd hc) il fun h' tk t' k=>?_
 refine⟨.int ns.sum,H,I.kept (t':=tk) k,⟨t',?_⟩,q⟩
 have:preSum (numAt zs.toArray) zs.toArray.size=ns.sum:=by
  rw[List.size_toArray,cG_ _ (Nat.le_refl _),<- e2,List.take_of_length_le (by simp)]
 rw[this]
end L2
set_option Elab.async false
set_option linter.all false
set_option maxRecDepth 100000
namespace Ev
open PySem L2
structure Fz (d:Addr) (o:Obj) (kvs:List (Key × V)) (H H':Hp):Prop where
 at_:H' d=some (.frz o (.dK kvs))
 sm:∀b u,b≠d->H b=some u->H' b=some u
section
variable{d:Addr}{o:Obj}{kvs:List (Key × V)}{H H' H2:Hp}
theorem Fz.start:Fz d o kvs H (upd H d (.frz o (.dK kvs))):=⟨a1_,fun b u ne e=>by rw[a5_ ne];exact e⟩
theorem Fz.step(f:Fz d o kvs H H')(s:Same H' H2):Fz d o kvs H H2:=⟨s _ _ f.at_,fun b u ne e=>s _ _ (f.sm b u ne e)⟩
theorem Fz.thaw(f:Fz d o kvs H H')(hd:H d=some (.dK kvs)):Same H (upd H' d (.dK kvs)):=fun b u e=>by
 by_cases z:b=d
 ·subst z
  rw[hd] at e
  cases e
  exact a1_
 ·rw[a5_ z]
  exact f.sm b u z e
theorem Fz.goods{K:PySem.W.Frag}{CG CW g p:Addr}{hs:List (Str × Int)}{ts:List (Str × Str)}{qs:List Pc}{fp:List Addr}(f:Fz d o kvs H H')(hd:H d=some (.dK kvs))(G:GoodsAt K CG CW H g p hs ts qs fp)(nd:d∉fp):GoodsAt K CG CW H' g p hs ts qs fp:=
 G.keep (fun b hb u e=>f.sm b u (fun z=>nd (z▸hb)) e) fun b xs e=>f.sm b _ (aQ_ e hd (by intro z;cases z)) e
end
def mKV(ns:List Str)(g:Str->V):List (Key × V):=ns.map fun n=>(Sum.inr n,g n)
theorem dj_(ns:List Str)(g:Str->V):(mKV ns g).map (·.1)=ns.map Sum.inr:=by
 unfold mKV
 rw[List.map_map]
 rfl
theorem b0_(ns:List Str)(g:Str->V):(mKV ns g).length=ns.length:=List.length_map _
theorem db_{ns:List Str}{g:Str->V}{n:Str}(h:n∈ns):valV (mKV ns g) (Sum.inr n)=some (g n):=by
 induction ns with
 |nil=>cases h
 |cons m ns ih=>
  by_cases e:m=n
  ·subst e
   exact bl_ rfl
  ·have:valV (mKV (m::ns) g) (Sum.inr n)=valV (mKV ns g) (Sum.inr n):=bj_ fun z=>e (Sum.inr.inj z)
   rw[this]
   rcases List.mem_cons.mp h with z|z
   ·exact absurd z.symm e
   ·exact ih z
theorem dt_{ns:List Str}{g k:Str->V}(h:∀n∈ns,g n=k n):mKV ns g=mKV ns k:=List.map_congr_left fun n hn=>by rw[h n hn]
theorem iY_{ns:List Str}{g:Str->V}{n:Str}{v:V}(h:n∈ns):putK (mKV ns g) (Sum.inr n) v=mKV ns fun m=>if m=n then v else g m:=by
 unfold putK
 rw[if_pos]
 ·unfold mKV
  rw[List.map_map]
  refine List.map_congr_left fun m _=>?_
  by_cases e:m=n
  ·subst e
   simp
  ·have:¬((Sum.inr m:Key)=Sum.inr n):=fun z=>e (Sum.inr.inj z)
   simp[e]
 ·refine List.any_eq_true.mpr ⟨(Sum.inr n,g n),List.mem_map.mpr ⟨n,h,rfl⟩,by simp⟩
theorem iO_{ns:List Str}{g:Str->V}{n:Str}{v:V}(h:n∉ns):putK (mKV ns g) (Sum.inr n) v=mKV (ns++[n]) fun m=>if m=n then v else g m:=by
 rw[bA_ _ (aB_ (by
  rw[dj_]
  intro m
  obtain⟨x,hx,e⟩:=List.mem_map.mp m
  exact h (Sum.inr.inj e▸hx)))]
 unfold mKV
 rw[List.map_append]
 congr 1
 ·refine List.map_congr_left fun m hm=>?_
  have e:¬m=n:=fun z=>h (z▸hm)
  simp[e]
 ·simp
theorem dK_{ns:List Str}{g:Str->V}{i:Nat}{k:Key}{x:V}(h:(mKV ns g)[i]? = some (k,x)):∃n,ns[i]? = some n/\k=Sum.inr n/\x=g n:=by
 unfold mKV at h
 rw[List.getElem?_map] at h
 cases e:ns[i]? with
 |none=>rw[e] at h;cases h
 |some n=>
  rw[e] at h
  have h:=Option.some.inj h
  exact⟨n,rfl,(congrArg Prod.fst h).symm,(congrArg Prod.snd h).symm⟩
theorem hO_{ns:List Str}(nd:ns.Nodup){i:Nat}{n:Str}(h:ns[i]? = some n):n∉ns.take i:=by
 have q:=b8_ (g:=id) (ts:=ns) (by rw[List.map_id];exact nd) h
 rwa [List.map_id] at q
theorem bp_{ns:List Str}{i:Nat}{n:Str}(h:ns[i]? = some n):ns.take (i+1)=ns.take i++[n]:=by
 rw[List.take_add_one,h]
 rfl
abbrev stF(ns:List Str)(f:Str->Str):List (Key × V):=mKV ns fun n=>.str (f n)
def wOf(q:Pc):Str × Int:=(q.1,q.2.1)
def ld(f:Str->Str)(ws:List (Str × Int))(h:Str):Int:=((ws.filter fun x=>decide (f x.1=h)).map (·.2)).sum
theorem iE_(f:Str->Str)(ws:List (Str × Int))(x:Str × Int)(h:Str):ld f (ws++[x]) h=if h=f x.1 then ld f ws h+x.2 else ld f ws h:=by
 unfold ld
 rw[List.filter_append]
 by_cases e:f x.1=h
 ·rw[if_pos e.symm,List.map_append,List.sum_append]
  simp[e]
 ·rw[if_neg fun z=>e z.symm]
  simp[e]
theorem gD_:∀{l:List Int},(∀x∈l,0<=x)->0<=l.sum
 |[],_=>by simp
 |x::l,h=>by
  rw[List.sum_cons]
  have:=h x List.mem_cons_self
  have:=gD_ (l:=l) fun y hy=>h y (List.mem_cons_of_mem _ hy)
  omega
theorem jz_{f:Str->Str}{ws:List (Str × Int)}{h:Str}(p:∀x∈ws,0<=x.2):0<=ld f ws h:=gD_ fun x hx=>by
 obtain⟨y,hy,rfl⟩:=List.mem_map.mp hx
 exact p y (List.mem_filter.mp hy).1
theorem Qs.nd{ps qs:List Pc}(Q:Qs ps qs)(nd:(ps.map (·.1)).Nodup):(qs.map (·.1)).Nodup:=by
 rw[Q.nms]
 exact (aF_ _).nodup_iff.mpr nd
theorem Qs.len{ps qs:List Pc}(Q:Qs ps qs):qs.length=ps.length:=by
 have:=congrArg List.length Q.nms
 rw[List.length_map,(aF_ _).length_eq,List.length_map] at this
 exact this
end Ev
set_option Elab.async false
set_option linter.all false
set_option maxRecDepth 100000
namespace Ev
open PySem L2
section
variable{P:Program}{w:World}{K:PySem.W.Frag}{mg:Str->Option Value}{base:Heap}
structure StandOk (hs:List (Str × Int)) (qs:List Pc) (ns:List Str) (f:Str->Str):Prop where
 perm:ns.Perm (qs.map (·.1))
 at_:∀n∈ns,f n∈hs.map (·.1)
theorem scCStand:FnScope ["goods","stand","piece","hand","names"] ["goods","stand"] (defScope sCStand):=⟨rfl,rfl,rfl,by decide +kernel,rfl,by decide +kernel,by decide +kernel⟩
def spCStand(K:PySem.W.Frag)(CG CW:Addr):Sp:=fun vs H Q _=>∃(g p d:Addr) (hs:List (Str × Int)) (ts:List (Str × Str)) (qs:List Pc) (fp:List Addr) (ns:List Str) (f:Str->Str),vs=[.ref g,.ref d]/\GoodsAt K CG CW H g p hs ts qs fp/\d∉fp/\H d=some (.dK (stF ns f))/\StandOk hs qs ns f/\(qs.map (·.1)).Nodup/\qs.length<64 /\
 ∀d' H',Same H H'->H d'=none->H' d'=some (.dK (stF (qs.map (·.1)) f))->Q (.ref d') H'
theorem gh_{f CG CW:Addr}{fd:FuncData}(F:Fun K "checked_stand" "checked_stand" sCStand f fd)(B:Bi mg)(T:TxtG K CG)(TW:Txt K mg CW)(cH:CalM P w K mg base CG 1 "has_piece" ["self","thing"] (spGHas K CG CW))(cW:CalM P w K mg base CW 1 "has_hand" ["self","thing"] (spHas K CW))(cN:CalM P w K mg base CG 1 "names" ["self"] (spGNames K CG CW)) :
  FnOk P w K mg base CX0 2 f fd ["goods","stand"] (spCStand K CG CW):=by
 refine F.ok scCStand (fun vs H Q E h=>?_) (fun cdv A outer s H vs Q E hr h=>?_)
 ·obtain⟨g,p,d,hs,ts,qs,fp,ns,f,rfl,_⟩:=h
  rfl
 ·obtain⟨g,p,d,hs,ts,qs,fp,ns,f,rfl,G,dfp,hd,so,nd,h64,k⟩:=h
  have hu:=bk_ hr
  have sz:=sizeLine_eq
  refine' ⟨_,?r0,?kk⟩
  case' r0=>refine' a2_ ?s1 ?r1
  case s1=>exact ak_ (av_ (ax_ (a8_ ap_ (by rfl) B.isi PyProof.Rows.Boot.«isinstance» (a0_ (pv 1) (a0_ (aA_ (v:=.ty "dict") (by rfl) B.dict PyProof.Rows.Boot.«dict» rfl) a3_))))) ad_ ac_
  case' r1=>refine' a2_ ?s2 ?r2
  case' s2=>refine' ek_ (b1_ PassesOwn.never rfl ?i2 ?g2 ?b2)
  case i2=>exact bP_ (bz_ (pv 1))
  case g2=>exact c5_ rfl (aj_ (ae_ (i:=2) scCStand.nd rfl (Or.inl rfl)) (aj_ (ae_ (i:=3) scCStand.nd rfl (Or.inl rfl)) b3_))
  case b2=>exact a2_ (ak_ (av_ (ax_ (bR_ cH T.cl hr (pv 0) (a0_ (pv 2) a3_)))) ad_ ac_) (a4_ (ak_ (av_ (ax_ (bR_ cW TW.cl hr (aM_ (pv 0) rfl) (a0_ (pv 3) a3_)))) ad_ ac_))
  case' r2=>refine' a2_ ?s3 ?r3
  case s3=>exact ab_ (i:=4) scCStand.nd rfl (Or.inl rfl) (bW_ cN T.cl hr (pv 0))
  case' r3=>refine' a2_ ?s4 (a4_ ?s5)
  case s4=>exact ak_ (am_ cu_ (a8_ dv_ (by rfl) B.len PySem.boot_len (a0_ (pv 1) a3_)) (a8_ ai_ (by rfl) B.len PySem.boot_len (a0_ (pv 4) a3_)) (nomark _)) ad_ ac_
  case s5=>exact aa_ (aJ_ (aT_ rfl) (by rfl) B.dict PyProof.Rows.Boot.«dict» (a0_ (aP_ ["piece","stand"] 1 [1] (au_ (pv 4)) (fun fp s H=>ae_ (i:=0) (show (["piece","stand"]:List Str).Nodup by decide +kernel) rfl (Or.inl rfl)) (fun fp s H=>aV_) (fun fp s H=>aC_ (a0_ (pv 0) (a0_ (bH_ hu (pv 1) (pv 0) (fun _ _=>rfl)) a3_)))) a3_))
  case' kk=>skip
  have lns:ns.length=qs.length:=by rw[so.perm.length_eq,List.length_map]
  refine⟨_,rfl,_,_,_,_,rfl,.dK hd,rfl,_,rfl,iteF ?_⟩
  refine⟨d,_,hd,?_⟩
  refine⟨_,rfl,d,_,rfl,hd,fun v hv=>?_⟩
  have s1:=Same.new (o:=itemsV v d) hv
  have hv1:upd H v (itemsV v d) v=some (itemsV v d):=a1_
  have G1:=G.same s1
  have hd1:=s1 _ _ hd
  generalize upd H v (itemsV v d)=H1 at s1 hv1 G1 hd1 ⊢
  refine⟨v,d,_,rfl,hv1,hd1,fun o=>?_⟩
  refine bN_ (fun i σ H'=>∃(v2 v3:Option V),σ=[some (.ref g),some (.ref d),v2,v3,none]/\Fz d o (stF ns f) H1 H') ⟨none,none,rfl,Fz.start⟩ (fun i σ H' _ ⟨_,_,_,z⟩=>z.at_) ?_ ?_
  ·rintro i ky x σ H2 hx ⟨v2,v3,rfl,fz⟩ t ht
   obtain⟨n,hn,rfl,rfl⟩:=dK_ hx
   have nm:=List.mem_of_getElem? hn
   have s2:=Same.new (o:=.tup [.str n,.str (f n)]) ht
   have fz2:=fz.step s2
   have e2:upd H2 t (.tup [.str n,.str (f n)]) t=some (.tup [.str n,.str (f n)]):=a1_
   show gTup _ _ _ _ _ (upd H2 t (.tup [.str n,.str (f n)])) _
   generalize upd H2 t (.tup [.str n,.str (f n)])=H3 at s2 fz2 e2 ⊢
   refine⟨t,_,rfl,.of e2,rfl,_,_,rfl,_,_,rfl,rfl,?_⟩
   have G3:=fz2.goods hd1 G1 dfp
   obtain⟨dx,dw,dy,vs,fpw,h1,h2,h3,h4,h5,m1,m2,m3,m4,m5⟩:=id G3.ex
   obtain⟨dxw,d1,l2,d3,zs0,as,ef,w1,_⟩:=id h2.ex
   have hno:(gflds p dw dy).lookup ("has_piece":Str)=none:=bx_ _ _ _ (by decide +kernel) (by decide +kernel) (by decide +kernel)
   have hnw:(flds d1 l2 d3).lookup ("has_hand":Str)=none:=aG_ _ _ _ (by decide +kernel) (by decide +kernel) (by decide +kernel)
   refine⟨_,rfl,g,dx,_,rfl,h1,hno,_,rfl,g,p,.str n,some n,hs,ts,qs,fp,rfl,G3,rfl,_,rfl,?_⟩
   rw[show inB (qs.map (·.1)) (some n)=true from decide_eq_true (so.perm.mem_iff.mp nm)]
   refine iteF ?_
   refine⟨_,rfl,g,CG,dx,_,_,rfl,h1,T.cl,T.nW,bs_ _ _ _,p,dxw,_,rfl,w1,hnw,_,rfl,p,f n,hs,ts,fpw,rfl,h2,_,rfl,?_⟩
   rw[decide_eq_true (so.at_ n nm)]
   exact iteF ⟨_,_,rfl,fz2⟩
  rintro σ H2 ⟨v2,v3,rfl,fz⟩
  refine⟨o,fz.at_,?_⟩
  have s2:=s1.trans (fz.thaw hd1)
  have hd2:upd H2 d (.dK (stF ns f)) d=some (.dK (stF ns f)):=a1_
  generalize upd H2 d (.dK (stF ns f))=H3 at s2 hd2 ⊢
  have G3:=G.same s2
  obtain⟨dx,dw,dy,vs,fpw,h1,h2,h3,h4,h5,m1,m2,m3,m4,m5⟩:=id G3.ex
  refine⟨_,rfl,g,dx,_,rfl,h1,bx_ _ _ _ (by decide +kernel) (by decide +kernel) (by decide +kernel),g,p,hs,ts,qs,fp,rfl,G3,fun ln hln=>?_⟩
  have s3:=Same.new (o:=.lst ((qs.map (·.1)).map V.str)) hln
  have e3:upd H3 ln (.lst ((qs.map (·.1)).map V.str)) ln=some (.lst ((qs.map (·.1)).map V.str)):=a1_
  have hd3:=s3 _ _ hd2
  generalize upd H3 ln (.lst ((qs.map (·.1)).map V.str))=H4 at s3 e3 hd3 ⊢
  refine⟨_,rfl,d,_,rfl,hd3,_,rfl,ln,_,rfl,.inl (.of e3),rfl,_,rfl,?_⟩
  rw[b0_,List.length_map,List.length_map,lns]
  simp only[bne_self_eq_false,decide_true,Bool.not_true]
  refine iteF ?_
  have s04:=s2.trans s3
  refine⟨_,rfl,ln,rfl,⟨_,.of e3⟩,fun D hD=>?_⟩
  refine aE_ (own:=1) (fv:=[some (.ref d)]) (xs:=(qs.map (·.1)).map V.str) rfl gok1 (fun i out H'=>Same H4 H'/\H' D=some (.lst out)/\PairsAt K H' out (stF ((qs.map (·.1)).take i) f)) ⟨Same.new hD,a1_,.nil⟩ (fun i out H' _ ⟨sm,_,_⟩=>.of (sm _ _ e3)) (fun out H5 ⟨sm,hD5,pa⟩=>?_) (fun i y out H' hy ⟨sm,hD',pa⟩=>?_)
  ·rw[List.length_map,List.take_length] at pa
   refine⟨D,out,_,rfl,hD5,pa,by rw[b0_,List.length_map];omega,fun d' hd'=>?_⟩
   have ndk:((stF (qs.map (·.1)) f).map (·.1)).Nodup:=by
    rw[dj_,List.nodup_iff_pairwise_ne,List.pairwise_map]
    exact nd.imp fun n e=>n (Sum.inr.inj e)
   rw[aU_ ndk]
   exact k d' _ ((s04.trans sm).trans (Same.new hd')) (s04.free (sm.free hd')) a1_
  ·obtain⟨n,hn,rfl⟩:=aw_ hy
   have hi:i<(qs.map (·.1)).length:=(List.getElem?_eq_some_iff.mp hn).1
   rw[List.length_map] at hi
   have nm:n∈ns:=so.perm.mem_iff.mpr (List.mem_of_getElem? hn)
   refine⟨_,rfl,rfl,fun Nx hN=>yesT ?_⟩
   refine⟨_,rfl,_,rfl,_,rfl,d,.str (f n),rfl,?_,by show 2<=sizeLine;decide,fun t ht=>?_⟩
   ·rw[<- db_ (g:=fun n=>V.str (f n)) nm]
    exact .k (k:=Sum.inr n) (sm _ _ hd3)
   have s5:=Same.new (o:=.tup [.str n,.str (f n)]) ht
   have lo:=Paired.length pa
   rw[b0_,List.length_take,List.length_map] at lo
   refine⟨out,s5 _ _ hD',by omega,hN _ _ ⟨ay_ (sm.trans s5) hD,a1_,?_⟩⟩
   have ht5:upd H' t (.tup [.str n,.str (f n)]) t=some (.tup [.str n,.str (f n)]):=a1_
   have pD:∀{b:Addr} {ys:List V},upd H' t (.tup [.str n,.str (f n)]) b=some (.tup ys)->b≠D:=fun hb=>aQ_ hb (s5 _ _ hD') (by intro z;cases z)
   rw[bp_ hn]
   show PairsAt K _ _ (((qs.map (·.1)).take i++[n]).map _)
   rw[List.map_append]
   exact b2_ (Paired.mapP pa fun y kv ⟨b,z,hb⟩=>⟨b,z,by rw[a5_ (pD (s5 _ _ hb))];exact s5 _ _ hb⟩) (.cons ⟨t,rfl,by rw[a5_ (pD ht5)];exact ht5⟩ .nil)
end
end Ev
set_option Elab.async false
set_option linter.all false
set_option maxRecDepth 100000
namespace Ev
open PySem L2
theorem WebAt.has{K:PySem.W.Frag}{C:Addr}{H:Hp}{p:Addr}{hs:List (Str × Int)}{ts:List (Str × Str)}{fp:List Addr}(W:WebAt K C H p hs ts fp){b:Addr}(hb:b∈fp):∃o,H b=some o:=by
 obtain⟨dx,d1,l2,d3,zs,as,rfl,h1,h2,h3,h4,h5,h6,h7⟩:=W.ex
 simp only[List.mem_cons] at hb
 rcases hb with rfl|rfl|rfl|rfl|hb
 ·exact⟨_,h1⟩
 ·exact⟨_,h2⟩
 ·exact⟨_,h3⟩
 ·exact⟨_,h5⟩
 ·obtain⟨i,hi,e⟩:=List.getElem_of_mem hb
  exact⟨_,h7 i ((nmsOf hs)[i]'(by omega)) b (List.getElem?_eq_getElem (by omega)) (by rw[<- e];exact List.getElem?_eq_getElem hi)⟩
section
variable{d d2:Addr}{o:Obj}{kvs:List (Key × V)}{H H' H1:Hp}{u:HO}
theorem Fz.start'(s:Same H H1):Fz d o kvs H (upd H1 d (.frz o (.dK kvs))):=⟨a1_,fun b u ne e=>by rw[a5_ ne];exact s _ _ e⟩
theorem Fz.put(f:Fz d o kvs H H')(hn:H d2=none)(ne:d2≠d):Fz d o kvs H (upd H' d2 u):=⟨by rw[a5_ ne.symm];exact f.at_,fun b u nb e=>by rw[a5_ (a7_ e hn)];exact f.sm b u nb e⟩
end
section
variable{P:Program}{w:World}{K:PySem.W.Frag}{mg:Str->Option Value}{base:Heap}
theorem scLoadsAt:FnScope ["goods","placed","hand","found","piece"] ["goods","placed"] (defScope sLoadsAt):=⟨rfl,rfl,rfl,by decide +kernel,rfl,by decide +kernel,by decide +kernel⟩
structure Placed (K:PySem.W.Frag) (CG CW:Addr) (H:Hp) (g p d:Addr) (hs:List (Str × Int)) (ts:List (Str × Str)) (qs:List Pc) (fp:List Addr) (f:Str->Str):Prop where
 G:GoodsAt K CG CW H g p hs ts qs fp
 Gd:Good hs ts
 dfp:d∉fp
 hd:H d=some (.dK (stF (qs.map (·.1)) f))
 at_:∀n∈qs.map (·.1),f n∈hs.map (·.1)
 nd:(qs.map (·.1)).Nodup
 h64:qs.length<64
abbrev ldV(hs:List (Str × Int))(qs:List Pc)(f:Str->Str):List (Key × V):=mKV (nmsOf hs) fun h=>.int (ld f (qs.map wOf) h)
def spLoadsAt(K:PySem.W.Frag)(CG CW:Addr):Sp:=fun vs H Q _=>∃(g p d:Addr) (hs:List (Str × Int)) (ts:List (Str × Str)) (qs:List Pc) (fp:List Addr) (f:Str->Str),vs=[.ref g,.ref d]/\Placed K CG CW H g p d hs ts qs fp f /\
 ∀d' H',Same H H'->H d'=none->H' d'=some (.dK (ldV hs qs f))->Q (.ref d') H'
theorem fj_{f CG CW CP:Addr}{fd:FuncData}(F:Fun K "loads_at" "loads_at" sLoadsAt f fd)(B:Bi mg)(T:TxtG K CG)(TW:Txt K mg CW)(cH:CalM P w K mg base CW 1 "hands" ["self"] (spHands K CW))(cW:CalX P w K mg base CG 2 "weight" ["self","piece"] (spGWeight K CG CW CP)) :
  FnOk P w K mg base CX0 3 f fd ["goods","placed"] (spLoadsAt K CG CW):=by
 refine F.ok scLoadsAt (fun vs H Q E h=>?_) (fun cdv A outer s H vs Q E hr h=>?_)
 ·obtain⟨g,p,d,hs,ts,qs,fp,f,rfl,_⟩:=h
  rfl
 ·obtain⟨g,p,d,hs,ts,qs,fp,f,rfl,Pl,k⟩:=h
  have hu:=bk_ hr
  have sz:=sizeLine_eq
  have hr1:Room 1 _:=hr.mono (by decide)
  refine' ⟨_,?r0,?kk⟩
  case' r0=>refine' a2_ ?s1 ?r1
  case s1=>exact ab_ (i:=3) scLoadsAt.nd rfl (Or.inl rfl) (aJ_ (aT_ rfl) (by rfl) B.dict PyProof.Rows.Boot.«dict» (a0_ (aP_ ["hand"] 1 [] (au_ (bW_ cH TW.cl hr1 (aM_ (pv 0) rfl))) (fun fp s H=>ae_ (i:=0) (show (["hand"]:List Str).Nodup by decide +kernel) rfl (Or.inl rfl)) (fun fp s H=>aV_) (fun fp s H=>aC_ (a0_ (pv 0) (a0_ a6_ a3_)))) a3_))
  case' r1=>refine' a2_ ?s2 ?r2
  case' s2=>refine' ek_ (b1_ PassesOwn.never rfl ?i2 ?g2 (a4_ ?b2))
  case i2=>exact bP_ (bz_ (pv 1))
  case g2=>exact c5_ rfl (aj_ (ae_ (i:=4) scLoadsAt.nd rfl (Or.inl rfl)) (aj_ (ae_ (i:=2) scLoadsAt.nd rfl (Or.inl rfl)) b3_))
  case b2=>exact bG_ hu (pv 3) (pv 2) (ah_ ba_ (bH_ hu (pv 3) (pv 2) (fun _ _=>rfl)) (k0_ cW T.cl hr (pv 0) (a0_ (pv 4) a3_))) rfl
  case r2=>exact a4_ (aa_ (pv 3))
  case' kk=>skip
  have nl:=Pl.Gd.nlen
  have h8:=Pl.Gd.h8
  obtain⟨dx,dw,dy,vs,fpw,h1,h2,h3,h4,h5,m1,m2,m3,m4,m5⟩:=id Pl.G.ex
  obtain⟨dxw,d1,l2,d3,zs0,as,ef,w1,_⟩:=id h2.ex
  have hnw:(flds d1 l2 d3).lookup ("hands":Str)=none:=aG_ _ _ _ (by decide +kernel) (by decide +kernel) (by decide +kernel)
  refine⟨_,rfl,g,CG,dx,_,_,rfl,h1,T.cl,T.nW,bs_ _ _ _,p,dxw,_,rfl,w1,hnw,p,hs,ts,fpw,rfl,h2,fun lh hlh=>?_⟩
  have s1:=Same.new (o:=.lst ((nmsOf hs).map V.str)) hlh
  have e1:upd H lh (.lst ((nmsOf hs).map V.str)) lh=some (.lst ((nmsOf hs).map V.str)):=a1_
  generalize upd H lh (.lst ((nmsOf hs).map V.str))=H1 at s1 e1 ⊢
  refine⟨lh,rfl,⟨_,.of e1⟩,fun D hD=>?_⟩
  refine aE_ (own:=1) (fv:=[]) (xs:=(nmsOf hs).map V.str) rfl gok1 (fun i out H'=>Same H1 H'/\H' D=some (.lst out)/\PairsAt K H' out (mKV ((nmsOf hs).take i) fun _=>.int 0)) ⟨Same.new hD,a1_,.nil⟩ (fun i out H' _ ⟨sm,_,_⟩=>.of (sm _ _ e1)) (fun out H5 ⟨sm,hD5,pa⟩=>?_) (fun i y out H' hy ⟨sm,hD',pa⟩=>?_)
  rotate_left 1
  ·obtain⟨n,hn,rfl⟩:=aw_ hy
   have hi:i<(nmsOf hs).length:=(List.getElem?_eq_some_iff.mp hn).1
   refine⟨_,rfl,rfl,fun Nx hN=>yesT ?_⟩
   refine⟨_,rfl,by show 2<=sizeLine;decide,fun t ht=>?_⟩
   have s5:=Same.new (o:=.tup [.str n,.int 0]) ht
   have lo:=Paired.length pa
   rw[b0_,List.length_take] at lo
   refine⟨out,s5 _ _ hD',by omega,hN _ _ ⟨ay_ (sm.trans s5) hD,a1_,?_⟩⟩
   have ht5:upd H' t (.tup [.str n,.int 0]) t=some (.tup [.str n,.int 0]):=a1_
   have pD:∀{b:Addr} {ys:List V},upd H' t (.tup [.str n,.int 0]) b=some (.tup ys)->b≠D:=fun hb=>aQ_ hb (s5 _ _ hD') (by intro z;cases z)
   rw[bp_ hn]
   show PairsAt K _ _ (((nmsOf hs).take i++[n]).map _)
   rw[List.map_append]
   exact b2_ (Paired.mapP pa fun y kv ⟨b,z,hb⟩=>⟨b,z,by rw[a5_ (pD (s5 _ _ hb))];exact s5 _ _ hb⟩) (.cons ⟨t,rfl,by rw[a5_ (pD ht5)];exact ht5⟩ .nil)
  rw[List.length_map,List.take_length] at pa
  refine⟨D,out,_,rfl,hD5,pa,by rw[b0_];omega,fun d2 hd2=>?_⟩
  have ndk:((mKV (nmsOf hs) fun _=>V.int 0).map (·.1)).Nodup:=by
   rw[dj_,List.nodup_iff_pairwise_ne,List.pairwise_map]
   exact Pl.Gd.nnd.imp fun n e=>n (Sum.inr.inj e)
  rw[aU_ ndk]
  have s2:=(s1.trans sm).trans (Same.new (o:=.dK (mKV (nmsOf hs) fun _=>V.int 0)) hd2)
  have e2:upd H5 d2 (.dK (mKV (nmsOf hs) fun _=>V.int 0)) d2=some (.dK (mKV (nmsOf hs) fun _=>V.int 0)):=a1_
  have n2:H d2=none:=s1.free (sm.free hd2)
  show tSeq _ _ _ _ (upd H5 d2 (.dK (mKV (nmsOf hs) fun _=>V.int 0)))
  generalize upd H5 d2 (.dK (mKV (nmsOf hs) fun _=>V.int 0))=H6 at s2 e2 ⊢
  have d2d:d2≠d:=(a7_ Pl.hd n2).symm
  refine⟨d,_,s2 _ _ Pl.hd,?_⟩
  refine⟨_,rfl,d,_,rfl,s2 _ _ Pl.hd,fun v hv=>?_⟩
  have s3:=Same.new (o:=itemsV v d) hv
  have hv1:upd H6 v (itemsV v d) v=some (itemsV v d):=a1_
  have e3:=s3 _ _ e2
  have s03:=s2.trans s3
  generalize upd H6 v (itemsV v d)=H7 at s3 hv1 e3 s03 ⊢
  refine⟨v,d,_,rfl,hv1,s03 _ _ Pl.hd,fun o=>?_⟩
  refine bN_ (fun i σ H'=>∃(v2 v4:Option V),σ=[some (.ref g),some (.ref d),v2,some (.ref d2),v4]/\Fz d o (stF (qs.map (·.1)) f) H H'/\H' d2=some (.dK (mKV (nmsOf hs) fun h=>.int (ld f ((qs.take i).map wOf) h)))) ⟨none,none,rfl,Fz.start' s03,by rw[a5_ d2d];exact e3⟩ (fun i σ H' _ ⟨_,_,_,z,_⟩=>z.at_) ?_ ?_
  ·rintro i ky x σ H8 hx ⟨v2,v4,rfl,fz,e8⟩ t ht
   obtain⟨n,hn,rfl,rfl⟩:=dK_ hx
   have hi:i<qs.length:=by
    have:=(List.getElem?_eq_some_iff.mp hn).1
    rwa [List.length_map] at this
   have hq:qs[i]? = some (qs[i]'hi):=List.getElem?_eq_getElem hi
   have en:n=(qs[i]'hi).1:=by
    rw[List.getElem?_map,hq] at hn
    exact (Option.some.inj hn).symm
   have fm:f n∈nmsOf hs:=(aL_ hs).mem_iff.mpr (Pl.at_ n (List.mem_of_getElem? hn))
   generalize qs[i]'hi=q at hq en
   have s8:=Same.new (o:=.tup [.str n,.str (f n)]) ht
   have fz2:=fz.step s8
   have e9:=s8 _ _ e8
   have et:upd H8 t (.tup [.str n,.str (f n)]) t=some (.tup [.str n,.str (f n)]):=a1_
   show gTup _ _ _ _ _ (upd H8 t (.tup [.str n,.str (f n)])) _
   generalize upd H8 t (.tup [.str n,.str (f n)])=H9 at s8 fz2 e9 et ⊢
   refine⟨t,_,rfl,.of et,rfl,_,_,rfl,_,_,rfl,rfl,?_⟩
   have G9:=fz2.goods Pl.hd Pl.G Pl.dfp
   obtain⟨dx,dw,dy,vs,fpw,h1,h2,h3,h4,h5,m1,m2,m3,m4,m5⟩:=id G9.ex
   have hno:(gflds p dw dy).lookup ("weight":Str)=none:=bx_ _ _ _ (by decide +kernel) (by decide +kernel) (by decide +kernel)
   refine⟨_,rfl,_,rfl,d2,.int (ld f ((qs.take i).map wOf) (f n)),rfl,?_,_,rfl,g,dx,_,rfl,h1,hno,_,rfl,g,p,.str n,some n,hs,ts,qs,fp,rfl,G9,Pl.nd,rfl,.inl ⟨q,List.mem_of_getElem? hq,congrArg some en,?_⟩⟩
   ·rw[<- db_ (g:=fun h=>V.int (ld f ((qs.take i).map wOf) h)) fm]
    exact .k (k:=Sum.inr (f n)) e9
   refine⟨_,_,rfl,rfl,_,rfl,_,rfl,d2,_,rfl,.k (k:=Sum.inr (f n)) e9 (by rw[b0_];omega),?_⟩
   refine⟨_,_,rfl,fz2.put n2 d2d,?_⟩
   rw[a1_,iY_ fm]
   congr 2
   refine dt_ fun m _=>?_
   have e5:(qs.take (i+1)).map wOf=(qs.take i).map wOf++[wOf q]:=by
    rw[List.take_add_one,hq,List.map_append]
    rfl
   rw[e5,iE_]
   show (if m=f n then V.int (ld f ((qs.take i).map wOf) (f n)+q.2.1) else V.int (ld f ((qs.take i).map wOf) m))=V.int (if m=f q.1 then _ else _)
   rw[<- en]
   by_cases z:m=f n
   ·rw[if_pos z,if_pos z,z]
    rfl
   ·rw[if_neg z,if_neg z]
  rintro σ H8 ⟨v2,v4,rfl,fz,e8⟩
  refine⟨o,fz.at_,?_⟩
  rw[b0_,List.length_map,List.take_length] at e8
  exact⟨_,rfl,k d2 _ (fz.thaw Pl.hd) n2 (by rw[a5_ d2d];exact e8)⟩
end
end Ev
set_option Elab.async false
set_option linter.all false
set_option maxRecDepth 100000
namespace L2
open PySem PySem.Spec PyProof.Rows PySem.W
theorem fm_{d:Addr}{o:Obj}{kvs:List (Key × V)}{g:TG}{tc:TT}{te:TE}{own:Nat}{fv:List (Option V)}{dec:V->Hp->List (Option V)->Prop}{D:Addr}{H:Hp}{Q:VK}{σ0:St}(hσ:σ0=List.replicate own none++fv)(G:GOk g own fv dec)(Pv:Nat->List V->Hp->Prop)
  (h0:Pv 0 [] (upd H D (.lst []))) (hl:∀i out H',i<=kvs.length->Pv i out H'->H' d=some (.frz o (.dK kvs))) (hd:∀out H',Pv kvs.length out H'->Q (.ref D) H')
  (hgo:∀i k x out H',kvs[i]? = some (k,x)->Pv i out H'->∀t,H' t=none->∃o3,dec (.ref t) (upd H' t (.tup [kV k,x])) o3/\o3.length=own/\∀Nx:Hp->Prop,(∀out' H2,Pv (i+1) out' H2->Nx H2)->
   tc (o3++fv) (upd H' t (.tup [kV k,x])) fun b H4=>if b=true then te (o3++fv) H4 fun y H5=>∃out2,H5 D=some (.lst out2)/\out2.length<sizeLine/\Nx (upd H5 D (.lst (out2++[y]))) else Nx H4) :
  CompW (Itm d o kvs) g tc te σ0 D H Q:=by
 refine di_ hσ G kvs.length Pv h0 (fun out H' p=>⟨⟨hl _ _ _ (Nat.le_refl _) p,Nat.le_refl _⟩,hd out H' p⟩) fun i out H' hi p=>?_
 have q:=hl i out H' (Nat.le_of_lt hi) p
 refine⟨⟨q,hi⟩,fun x H2 y=>?_⟩
 obtain⟨t,k,v,rfl,ht,hx,rfl⟩:=y
 exact hgo i k v out H' hx p t ht
section
variable{X:Cx}
end
end L2
namespace Ev
open PySem L2
theorem gm_{A:Around}{s:Shared}{ns:List Str}{f g:Str->Str}{vb:List (Key × Value)}(rb:KV (stF ns g) vb):∀(ms:List Str) (va:List (Key × Value)),KV (stF ms f) va->(∀m∈ms,m∈ns)->PySem.W.KeqHits A s vb va (ms.all fun n=>decide (f n=g n))
 |[],va,r,_=>by
  cases r
  exact .nil
 |m::ms,va,r,h=>by
  cases r with
  |@cons _ q _ va' h1 r=>
   have hm:=h m List.mem_cons_self
   obtain⟨y,hy,ry⟩:=RelO.some_of (v:=.str (g m)) (o:=valueAt vb (Sum.inr m)) (by rw[<- db_ (g:=fun n=>V.str (g n)) hm];exact rb.val _)
   obtain⟨k,v⟩:=q
   obtain⟨e1,e2⟩:=h1
   have e1:(Sum.inr m:Key)=k:=e1
   subst e1
   obtain⟨t,rfl⟩:=(show ∃t,v=Value.str (f m) t from e2)
   obtain⟨u,rfl⟩:=(show ∃t,y=Value.str (g m) t from ry)
   have q:=SeqAt.EqAt.str_str (A:=A) (s:=s) (f m) t (g m) u
   rw[show (f m == g m)=decide (f m=g m) by by_cases z:f m=g m<;>simp[z]] at q
   exact .hit hy q (gm_ rb ms va' r fun x hx=>h x (List.mem_cons_of_mem _ hx))
def lcmI(a n:Int):Int:=a / (Int.gcd a n:Int) * n
theorem iH_{a n:Int}(ha:0<a)(hn:0<n):lcmI a n=(Int.lcm a n:Int):=by
 obtain⟨p,rfl⟩:=Int.eq_ofNat_of_zero_le (Int.le_of_lt ha)
 obtain⟨q,rfl⟩:=Int.eq_ofNat_of_zero_le (Int.le_of_lt hn)
 show ((p:Int) / ((Nat.gcd p q:Nat):Int)) * (q:Int)=((Nat.lcm p q:Nat):Int)
 rw[<- Int.natCast_ediv,<- Int.natCast_mul,Nat.div_mul_right_comm (Nat.gcd_dvd_left p q)]
 rfl
def lcmL(ns:List Int):Int:=ns.foldl lcmI 1
theorem eL_:∀(ns:List Int) (a:Int),0<a->(∀n∈ns,0<n)->0<ns.foldl lcmI a/\∀x:Int,0<=x->(ns.foldl lcmI a ∣ x ↔ a ∣ x/\∀n∈ns,n ∣ x)
 |[],a,ha,_=>⟨ha,fun x _=>by simp⟩
 |n::ns,a,ha,h=>by
  have hn:=h n List.mem_cons_self
  have e:=iH_ ha hn
  have p:0<lcmI a n:=by
   rw[e]
   have:=Nat.lcm_pos (m:=a.natAbs) (n:=n.natAbs) (by omega) (by omega)
   have:0<Int.lcm a n:=this
   omega
  obtain⟨h1,h2⟩:=eL_ ns (lcmI a n) p fun m hm=>h m (List.mem_cons_of_mem _ hm)
  refine⟨h1,fun x hx=>(h2 x hx).trans ?_⟩
  obtain⟨z,rfl⟩:=Int.eq_ofNat_of_zero_le hx
  rw[e,Int.natCast_dvd_natCast,Int.lcm_dvd_iff]
  constructor
  ·rintro⟨⟨q1,q2⟩,q3⟩
   exact⟨q1,fun m hm=>by
    rcases List.mem_cons.mp hm with rfl|hm
    ·exact q2
    ·exact q3 m hm⟩
  ·rintro⟨q1,q2⟩
   exact⟨⟨q1,q2 n List.mem_cons_self⟩,fun m hm=>q2 m (List.mem_cons_of_mem _ hm)⟩
theorem hj_{ns:List Int}(h:∀n∈ns,0<n):0<lcmL ns:=(eL_ ns 1 (by decide) h).1
theorem iw_(f:Str->Str)(x:Str × Int)(ws:List (Str × Int))(h:Str):ld f (x::ws) h=(if f x.1=h then x.2 else 0)+ld f ws h:=by
 unfold ld
 by_cases e:f x.1=h
 ·simp[e]
 ·simp[e]
def sumF(ns:List Str)(L c:Str->Int):Int:=(ns.map fun h=>L h * (L h * c h)).sum
end Ev
set_option Elab.async false
set_option linter.all false
set_option maxRecDepth 100000
namespace Ev
open PySem L2
theorem js_{f:Str->Str}{h:Str}:∀{ws:List (Str × Int)},(∀x∈ws,0<=x.2/\x.2<=1000000000)->ld f ws h<=1000000000 * ws.length
 |[],_=>by
  unfold ld
  simp
 |x::ws,p=>by
  have h1:=p x List.mem_cons_self
  have h2:=js_ (f:=f) (h:=h) (ws:=ws) fun y hy=>p y (List.mem_cons_of_mem _ hy)
  rw[iw_,List.length_cons]
  by_cases z:f x.1=h
  ·rw[if_pos z]
   omega
  ·rw[if_neg z]
   omega
def mulOf(hs:List (Str × Int)):Int:=lcmL ((nmsOf hs).map (strOf hs))
theorem cA_{hs:List (Str × Int)}{ts:List (Str × Str)}(G:Good hs ts){n:Str}(h:n∈nmsOf hs):1<=strOf hs n/\strOf hs n<=1000:=(G.hok _ (aY_ ((aL_ hs).mem_iff.mp h))).2
section
variable{P:Program}{w:World}{K:PySem.W.Frag}{mg:Str->Option Value}{base:Heap}
theorem scLM:FnScope ["numbers","found","number"] ["numbers"] (defScope sLM):=⟨rfl,rfl,rfl,by decide +kernel,rfl,by decide +kernel,by decide +kernel⟩
def spLM(K:PySem.W.Frag):Sp:=fun vs H Q _=>∃(l:Addr) (ns:List Int),vs=[.ref l]/\SqL K H l (ns.map V.int)/\(∀n∈ns,1<=n/\n<=1000)/\Q (.int (lcmL ns)) H
theorem hg_{ns:List Int}{i:Nat}{n:Int}(h:ns[i]? = some n):lcmL (ns.take (i+1))=lcmI (lcmL (ns.take i)) n:=by
 unfold lcmL
 rw[List.take_add_one,h,List.foldl_append]
 rfl
theorem eh_{ns:List Int}{i:Nat}{y:V}(h:(ns.map V.int)[i]? = some y):∃n,ns[i]? = some n/\y=.int n:=by
 rw[List.getElem?_map] at h
 cases e:ns[i]? with
 |none=>rw[e] at h;cases h
 |some n=>rw[e] at h;exact⟨n,rfl,(Option.some.inj h).symm⟩
theorem k2_{f:Addr}{fd:FuncData}(F:Fun K "least_multiple" "least_multiple" sLM f fd)(cG:Cal P w K mg base 1 "greatest_divisor" ["one","other"] spGd):FnOk P w K mg base CX0 2 f fd ["numbers"] (spLM K):=by
 refine F.ok scLM (fun vs H Q E h=>?_) (fun cdv A outer s H vs Q E hr h=>?_)
 ·obtain⟨l,ns,rfl,_⟩:=h
  rfl
 ·obtain⟨l,ns,rfl,hl,b,k⟩:=h
  refine' ⟨_,a2_ ?s1 (a2_ ?s2 (a4_ ?s3)),?kk⟩
  case s1=>exact ab_ (i:=1) scLM.nd rfl (Or.inl rfl) a6_
  case s2=>exact b1_ PassesOwn.never rfl (au_ (pv 0)) (ae_ (i:=2) scLM.nd rfl (Or.inl rfl)) (a4_ (ab_ (i:=1) scLM.nd rfl (Or.inl rfl) (ah_ aN_ (ah_ b7_ (pv 1) (ag_ cG hr (a0_ (pv 1) (a0_ (pv 2) a3_)))) (pv 2))))
  case s3=>exact aa_ (pv 1)
  case' kk=>skip
  refine⟨_,rfl,l,rfl,⟨_,hl⟩,aW_ (K:=K) (a:=l) (xs:=ns.map V.int) (fun i σ H'=>H'=H/\∃(v2:Option V),σ=[some (.ref l),some (.int (lcmL (ns.take i))),v2]) ⟨rfl,none,rfl⟩ (fun i σ H' _ ⟨e,_⟩=>by rw[e];exact hl) ?_ ?_⟩
  ·rintro i y σ H' hy ⟨rfl,v2,rfl⟩
   obtain⟨n,hn,rfl⟩:=eh_ hy
   have bn:=b n (List.mem_of_getElem? hn)
   have p:=hj_ (ns:=ns.take i) fun m hm=>by
    have:=b m (List.take_subset _ _ hm)
    omega
   refine⟨_,rfl,_,rfl,_,rfl,_,_,rfl,Int.le_of_lt p,by omega,_,_,rfl,rfl,jt_ (by omega) (Int.le_trans bn.2 (by decide)),_,rfl,_,_,rfl,rfl,.inr ⟨by omega,by omega⟩,rfl,some (.int n),?_⟩
   rw[hg_ hn]
   rfl
  ·rintro σ H' ⟨rfl,v2,rfl⟩
   refine⟨_,rfl,?_⟩
   rw[List.length_map,List.take_length]
   exact k
theorem scMult:FnScope ["web"] ["web"] (defScope sMult):=⟨rfl,rfl,rfl,by decide +kernel,rfl,by decide +kernel,by decide +kernel⟩
def spMult(K:PySem.W.Frag)(C:Addr):Sp:=fun vs H Q _=>∃(p:Addr) (hs:List (Str × Int)) (ts:List (Str × Str)) (fp:List Addr),vs=[.ref p]/\WebAt K C H p hs ts fp/\Good hs ts/\∀H',Same H H'->Q (.int (mulOf hs)) H'
theorem jg_{f CW:Addr}{fd:FuncData}(F:Fun K "multiple_of_strengths" "multiple_of_strengths" sMult f fd)(TW:Txt K mg CW)(cL:Cal P w K mg base 2 "least_multiple" ["numbers"] (spLM K))(cH:CalM P w K mg base CW 1 "hands" ["self"] (spHands K CW))(cS:CalM P w K mg base CW 2 "strength" ["self","hand"] (spStrength K CW)):FnOk P w K mg base CX0 3 f fd ["web"] (spMult K CW):=by
 refine F.ok scMult (fun vs H Q E h=>?_) (fun cdv A outer s H vs Q E hr h=>?_)
 ·obtain⟨p,hs,ts,fp,rfl,_⟩:=h
  rfl
 ·obtain⟨p,hs,ts,fp,rfl,W,G,k⟩:=h
  have sz:=sizeLine_eq
  have nl:=G.nlen
  have h8:=G.h8
  refine' ⟨_,a4_ (aa_ (ag_ cL hr (a0_ (aP_ ["hand","web"] 1 [0] (au_ (bW_ cH TW.cl (hr.mono (by decide)) (pv 0))) (fun fp s H=>ae_ (i:=0) (show (["hand","web"]:List Str).Nodup by decide +kernel) rfl (Or.inl rfl)) (fun fp s H=>aV_) (fun fp s H=>?e1)) a3_))),?kk⟩
  case e1=>exact bR_ cS TW.cl hr (pv 1) (a0_ (pv 0) a3_)
  case' kk=>skip
  obtain⟨dxw,d1,l2,d3,zs0,as,ef,w1,_⟩:=id W.ex
  refine⟨_,rfl,p,dxw,_,rfl,w1,aG_ _ _ _ (by decide +kernel) (by decide +kernel) (by decide +kernel),p,hs,ts,fp,rfl,W,fun lh hlh=>?_⟩
  have s1:=Same.new (o:=.lst ((nmsOf hs).map V.str)) hlh
  have e1:upd H lh (.lst ((nmsOf hs).map V.str)) lh=some (.lst ((nmsOf hs).map V.str)):=a1_
  generalize upd H lh (.lst ((nmsOf hs).map V.str))=H1 at s1 e1 ⊢
  refine⟨lh,rfl,⟨_,.of e1⟩,fun D hD=>?_⟩
  refine aE_ (own:=1) (fv:=[some (.ref p)]) (xs:=(nmsOf hs).map V.str) rfl gok1 (fun i out H'=>Same H1 H'/\H' D=some (.lst out)/\out=(((nmsOf hs).take i).map (strOf hs)).map V.int) ⟨Same.new hD,a1_,rfl⟩ (fun i out H' _ ⟨sm,_,_⟩=>.of (sm _ _ e1)) (fun out H5 ⟨sm,hD5,eo⟩=>?_) (fun i y out H' hy ⟨sm,hD',eo⟩=>?_)
  ·rw[List.length_map,List.take_length] at eo
   rw[eo] at hD5
   refine⟨D,_,rfl,.of hD5,fun n hn=>?_,k H5 (s1.trans sm)⟩
   obtain⟨m,hm,rfl⟩:=List.mem_map.mp hn
   exact cA_ G hm
  ·obtain⟨n,hn,rfl⟩:=aw_ hy
   have hi:i<(nmsOf hs).length:=(List.getElem?_eq_some_iff.mp hn).1
   refine⟨_,rfl,rfl,fun Nx hN=>yesT ?_⟩
   have W':=(W.same s1).same sm
   obtain⟨dxw,d1,l2,d3,zs0,as,ef,w1,_⟩:=id W'.ex
   refine⟨_,rfl,p,dxw,_,rfl,w1,aG_ _ _ _ (by decide +kernel) (by decide +kernel) (by decide +kernel),_,rfl,p,n,strOf hs n,hs,ts,fp,rfl,W',G.hnd,aY_ ((aL_ hs).mem_iff.mp (List.mem_of_getElem? hn)),?_⟩
   refine⟨out,hD',by rw[eo,List.length_map,List.length_map,List.length_take];omega,hN _ _ ⟨ay_ sm hD,a1_,?_⟩⟩
   rw[bp_ hn,List.map_append,List.map_append,eo]
   rfl
theorem scLevels:FnScope ["goods","placed","multiple","found","hand","load"] ["goods","placed"] (defScope sLevels):=⟨rfl,rfl,rfl,by decide +kernel,rfl,by decide +kernel,by decide +kernel⟩
def lvF(hs:List (Str × Int))(qs:List Pc)(f:Str->Str)(h:Str):Int:=ld f (qs.map wOf) h * (mulOf hs / strOf hs h)
def spLevels(K:PySem.W.Frag)(CG CW:Addr):Sp:=fun vs H Q _=>∃(g p d:Addr) (hs:List (Str × Int)) (ts:List (Str × Str)) (qs:List Pc) (fp:List Addr) (f:Str->Str),vs=[.ref g,.ref d]/\Placed K CG CW H g p d hs ts qs fp f/\(∀q∈qs,0<=q.2.1/\q.2.1<=1000000000) /\
 ∀d' H',Same H H'->H d'=none->H' d'=some (.dK (mKV (nmsOf hs) fun h=>.int (lvF hs qs f h)))->Q (.ref d') H'
theorem iX_{qs:List Pc}(wp:∀q∈qs,0<=q.2.1/\q.2.1<=1000000000)(h64:qs.length<64)(f:Str->Str)(h:Str):0<=ld f (qs.map wOf) h/\ld f (qs.map wOf) h<=64000000000:=by
 have p:∀x∈qs.map wOf,0<=x.2/\x.2<=1000000000:=fun x hx=>by
  obtain⟨q,hq,rfl⟩:=List.mem_map.mp hx
  exact wp q hq
 have h1:=js_ (f:=f) (h:=h) p
 rw[List.length_map] at h1
 exact⟨jz_ fun x hx=>(p x hx).1,by omega⟩
theorem gC_{f CG CW:Addr}{fd:FuncData}(F:Fun K "levels_at" "levels_at" sLevels f fd)(T:TxtG K CG)(TW:Txt K mg CW)(cL:Cal P w K mg base 3 "loads_at" ["goods","placed"] (spLoadsAt K CG CW))(cM:Cal P w K mg base 3 "multiple_of_strengths" ["web"] (spMult K CW))(cS:CalM P w K mg base CW 2 "strength" ["self","hand"] (spStrength K CW)) :
  FnOk P w K mg base CX0 4 f fd ["goods","placed"] (spLevels K CG CW):=by
 refine F.ok scLevels (fun vs H Q E h=>?_) (fun cdv A outer s H vs Q E hr h=>?_)
 ·obtain⟨g,p,d,hs,ts,qs,fp,f,rfl,_⟩:=h
  rfl
 ·obtain⟨g,p,d,hs,ts,qs,fp,f,rfl,Pl,wp,k⟩:=h
  have hu:=bk_ hr
  have sz:=sizeLine_eq
  have hr2:Room 2 _:=hr.mono (by decide)
  refine' ⟨_,?r0,?kk⟩
  case' r0=>refine' a2_ ?s0 (a2_ ?s1 (a2_ ?s2 ?r2))
  case s0=>exact ab_ (i:=2) scLevels.nd rfl (Or.inl rfl) (ag_ cM hr (a0_ (aM_ (pv 0) rfl) a3_))
  case s1=>exact ab_ (i:=3) scLevels.nd rfl (Or.inl rfl) cf_
  case' s2=>refine' b1_ PassesOwn.never rfl ?i2 ?g2 (a4_ ?b2)
  case i2=>exact bP_ (bz_ (ag_ cL hr (a0_ (pv 0) (a0_ (pv 1) a3_))))
  case g2=>exact c5_ rfl (aj_ (ae_ (i:=4) scLevels.nd rfl (Or.inl rfl)) (aj_ (ae_ (i:=5) scLevels.nd rfl (Or.inl rfl)) b3_))
  case b2=>exact bG_ hu (pv 3) (pv 4) (ah_ aN_ (pv 5) (ah_ b7_ (pv 2) (bR_ cS TW.cl hr2 (aM_ (pv 0) rfl) (a0_ (pv 4) a3_)))) rfl
  case r2=>exact a4_ (aa_ (pv 3))
  case' kk=>skip
  have nl:=Pl.Gd.nlen
  have h8:=Pl.Gd.h8
  obtain⟨dx,dw,dy,vs,fpw,h1,h2,_⟩:=id Pl.G.ex
  refine⟨_,rfl,g,CG,dx,_,_,rfl,h1,T.cl,T.nW,bs_ _ _ _,p,hs,ts,fpw,rfl,h2,Pl.Gd,fun H0 s0=>?_⟩
  intro d2 hd2
  have s1:=s0.trans (Same.new (o:=.dK []) hd2)
  have e1:upd H0 d2 (.dK []) d2=some (.dK []):=a1_
  have n2:H d2=none:=s0.free hd2
  show tSeq _ _ _ _ (upd H0 d2 (.dK []))
  generalize upd H0 d2 (.dK [])=H1 at s1 e1 ⊢
  have Pl1:Placed K CG CW H1 g p d hs ts qs fp f:=⟨Pl.G.same s1,Pl.Gd,Pl.dfp,s1 _ _ Pl.hd,Pl.at_,Pl.nd,Pl.h64⟩
  refine⟨_,rfl,_,rfl,g,p,d,hs,ts,qs,fp,f,rfl,Pl1,fun dl H2 s2 hdl e2=>?_⟩
  refine⟨dl,_,rfl,e2,fun v hv=>?_⟩
  have s3:=Same.new (o:=itemsV v dl) hv
  have hv1:upd H2 v (itemsV v dl) v=some (itemsV v dl):=a1_
  have e3:=s3 _ _ e2
  have s13:=s2.trans s3
  generalize upd H2 v (itemsV v dl)=H3 at s3 hv1 e3 s13 ⊢
  have ndl:H dl=none:=s1.free hdl
  have d2l:d2≠dl:=a7_ e1 hdl
  refine⟨v,dl,_,rfl,hv1,e3,fun o=>?_⟩
  refine bN_ (fun i σ H'=>∃(v4 v5:Option V),σ=[some (.ref g),some (.ref d),some (.int (mulOf hs)),some (.ref d2),v4,v5]/\Same H H'/\H' dl=some (.frz o (.dK (ldV hs qs f)))/\H' d2=some (.dK (mKV ((nmsOf hs).take i) fun h=>.int (lvF hs qs f h)))) ⟨none,none,rfl,ay_ (s1.trans s13) ndl,a1_,by rw[a5_ d2l];exact s13 _ _ e1⟩ (fun i σ H' _ ⟨_,_,_,_,z,_⟩=>z) ?_ ?_
  ·rintro i ky x σ H8 hx ⟨v4,v5,rfl,s8,f8,e8⟩ t ht
   obtain⟨n,hn,rfl,rfl⟩:=dK_ hx
   have hi:i<(nmsOf hs).length:=(List.getElem?_eq_some_iff.mp hn).1
   have nm:n∈hs.map (·.1):=(aL_ hs).mem_iff.mp (List.mem_of_getElem? hn)
   have sm:=aY_ nm
   have sg:=cA_ Pl.Gd (List.mem_of_getElem? hn)
   have lo:=iX_ wp Pl.h64 f n
   have ss:=Same.new (o:=.tup [.str n,.int (ld f (qs.map wOf) n)]) ht
   have s9:=s8.trans ss
   have e9:=ss _ _ e8
   have f9:=ss _ _ f8
   have et:upd H8 t (.tup [.str n,.int (ld f (qs.map wOf) n)]) t=some (.tup [.str n,.int (ld f (qs.map wOf) n)]):=a1_
   show gTup _ _ _ _ _ (upd H8 t (.tup [.str n,.int (ld f (qs.map wOf) n)])) _
   generalize upd H8 t (.tup [.str n,.int (ld f (qs.map wOf) n)])=H9 at ss s9 e9 f9 et ⊢
   refine⟨t,_,rfl,.of et,rfl,_,_,rfl,_,_,rfl,rfl,?_⟩
   have G9:=Pl.G.same s9
   obtain⟨dx,dw,dy,vs,fpw,h1,h2,h3,h4,h5,m1,m2,m3,m4,m5⟩:=id G9.ex
   obtain⟨dxw,d1,l2,d3,zs0,as,ef,w1,_⟩:=id h2.ex
   have hnw:(flds d1 l2 d3).lookup ("strength":Str)=none:=aG_ _ _ _ (by decide +kernel) (by decide +kernel) (by decide +kernel)
   refine⟨_,rfl,_,rfl,_,rfl,g,CG,dx,_,_,rfl,h1,T.cl,T.nW,bs_ _ _ _,p,dxw,_,rfl,w1,hnw,_,rfl,p,n,strOf hs n,hs,ts,fpw,rfl,h2,Pl.Gd.hnd,sm,?_⟩
   refine⟨_,_,rfl,rfl,⟨by omega,by omega⟩,_,_,rfl,rfl,.inl ⟨by omega,by omega⟩,_,rfl,_,rfl,d2,_,rfl,.k (k:=Sum.inr n) e9 (by rw[b0_,List.length_take];omega),?_⟩
   refine⟨_,_,rfl,ay_ s9 n2,by rw[a5_ d2l.symm];exact f9,?_⟩
   rw[a1_,bp_ hn,iO_ (hO_ Pl.Gd.nnd hn)]
   congr 2
   refine dt_ fun m _=>?_
   by_cases z:m=n
   ·subst z
    simp[lvF]
   ·simp[z]
  rintro σ H8 ⟨v4,v5,rfl,s8,f8,e8⟩
  rw[b0_,List.take_length] at e8
  exact⟨_,rfl,k d2 H8 s8 n2 e8⟩
theorem scSumAt:FnScope ["goods","placed","levels"] ["goods","placed"] (defScope sSumAt):=⟨rfl,rfl,rfl,by decide +kernel,rfl,by decide +kernel,by decide +kernel⟩
def smF(hs:List (Str × Int))(qs:List Pc)(f:Str->Str):Int:=sumF (nmsOf hs) (ld f (qs.map wOf)) fun h=>mulOf hs / strOf hs h
def spSumAt(K:PySem.W.Frag)(CG CW:Addr):Sp:=fun vs H Q _=>∃(g p d:Addr) (hs:List (Str × Int)) (ts:List (Str × Str)) (qs:List Pc) (fp:List Addr) (f:Str->Str),vs=[.ref g,.ref d]/\Placed K CG CW H g p d hs ts qs fp f/\(∀q∈qs,0<=q.2.1/\q.2.1<=1000000000)/\∀H',Same H H'->Q (.int (smF hs qs f)) H'
theorem hA_{f CG CW:Addr}{fd:FuncData}(F:Fun K "sum_at" "sum_at" sSumAt f fd)(mSum:mg "sum"=none)(cL:Cal P w K mg base 3 "loads_at" ["goods","placed"] (spLoadsAt K CG CW))(cV:Cal P w K mg base 4 "levels_at" ["goods","placed"] (spLevels K CG CW)):FnOk P w K mg base CX0 5 f fd ["goods","placed"] (spSumAt K CG CW):=by
 refine F.ok scSumAt (fun vs H Q E h=>?_) (fun cdv A outer s H vs Q E hr h=>?_)
 ·obtain⟨g,p,d,hs,ts,qs,fp,f,rfl,_⟩:=h
  rfl
 ·obtain⟨g,p,d,hs,ts,qs,fp,f,rfl,Pl,wp,k⟩:=h
  have hu:=bk_ hr
  have sz:=sizeLine_eq
  have nl:=Pl.Gd.nlen
  have h8:=Pl.Gd.h8
  refine' ⟨_,a2_ ?s1 (a4_ ?s2),?kk⟩
  case s1=>exact ab_ (i:=2) scSumAt.nd rfl (Or.inr rfl) (ag_ cV hr (a0_ (pv 0) (a0_ (pv 1) a3_)))
  case' s2=>refine' aa_ (a8_ (dD_ rfl) (by rfl) mSum PyProof.Rows.boot_sum (a0_ (aP_ ["hand","load","levels"] 2 [2] (bP_ (bz_ (ag_ cL (hr.mono (by decide)) (a0_ (pv 0) (a0_ (pv 1) a3_))))) (fun fp s H=>?g1) (fun fp s H=>aV_) (fun fp s H=>?e1)) a3_))
  case g1=>exact dp_ (n:=2) (aj_ (ae_ (i:=0) (show (["hand","load","levels"]:List Str).Nodup by decide +kernel) rfl (Or.inl rfl)) (aj_ (ae_ (i:=1) (show (["hand","load","levels"]:List Str).Nodup by decide +kernel) rfl (Or.inl rfl)) b3_))
  case e1=>exact ah_ aN_ (pv 1) (bH_ hu (pv 2) (pv 0) (fun _ _=>rfl))
  case' kk=>skip
  refine⟨_,rfl,_,rfl,g,p,d,hs,ts,qs,fp,f,rfl,Pl,wp,fun dv H1 s1 n1 e1=>?_⟩
  have Pl1:Placed K CG CW H1 g p d hs ts qs fp f:=⟨Pl.G.same s1,Pl.Gd,Pl.dfp,s1 _ _ Pl.hd,Pl.at_,Pl.nd,Pl.h64⟩
  refine⟨_,rfl,_,rfl,g,p,d,hs,ts,qs,fp,f,rfl,Pl1,fun dl H2 s2 n2 e2=>?_⟩
  refine⟨dl,_,rfl,e2,fun v hv=>?_⟩
  have s3:=Same.new (o:=itemsV v dl) hv
  have hv1:upd H2 v (itemsV v dl) v=some (itemsV v dl):=a1_
  have e3:=s3 _ _ e2
  have s13:=s2.trans s3
  generalize upd H2 v (itemsV v dl)=H3 at s3 hv1 e3 s13 ⊢
  refine⟨v,dl,_,rfl,hv1,e3,fun o D hD=>?_⟩
  have dvl:dv≠dl:=a7_ e1 n2
  have sf:Same H1 (upd H3 dl (.frz o (.dK (ldV hs qs f)))):=ay_ s13 n2
  have ef:upd H3 dl (.frz o (.dK (ldV hs qs f))) dl=some (.frz o (.dK (ldV hs qs f))):=a1_
  generalize upd H3 dl (.frz o (.dK (ldV hs qs f)))=H4 at sf ef hD ⊢
  refine fm_ (own:=2) (fv:=[some (.ref dv)]) rfl gok2 (fun i out H'=>Same H4 H'/\H' D=some (.lst out)/\out=(((nmsOf hs).take i).map fun h=>ld f (qs.map wOf) h * lvF hs qs f h).map V.int) ⟨Same.new hD,a1_,rfl⟩ (fun i out H' _ ⟨sm,_,_⟩=>sm _ _ ef) (fun out H5 ⟨sm,hD5,eo⟩=>?_) (fun i ky x out H' hx ⟨sm,hD',eo⟩ t ht=>?_)
  ·rw[b0_,List.take_length] at eo
   rw[eo] at hD5
   exact⟨D,_,rfl,.of hD5,k H5 (s1.trans (sf.trans sm))⟩
  ·obtain⟨n,hn,rfl,rfl⟩:=dK_ hx
   have hi:i<(nmsOf hs).length:=(List.getElem?_eq_some_iff.mp hn).1
   have nm:=List.mem_of_getElem? hn
   have lo:=iX_ wp Pl.h64 f n
   have ss:=Same.new (o:=.tup [.str n,.int (ld f (qs.map wOf) n)]) ht
   have et:upd H' t (.tup [.str n,.int (ld f (qs.map wOf) n)]) t=some (.tup [.str n,.int (ld f (qs.map wOf) n)]):=a1_
   refine⟨[some (.str n),some (.int (ld f (qs.map wOf) n))],⟨t,_,_,rfl,.of et,rfl⟩,rfl,fun Nx hN=>yesT ?_⟩
   have s4:=(sf.trans sm).trans ss
   have sD:=ss _ _ hD'
   have s5:=sm.trans ss
   show tOp _ _ _ _ (upd H' t (.tup [.str n,.int (ld f (qs.map wOf) n)])) _
   generalize upd H' t (.tup [.str n,.int (ld f (qs.map wOf) n)])=H6 at s4 sD s5 ⊢
   refine⟨_,rfl,_,rfl,_,rfl,dv,.int (lvF hs qs f n),rfl,?_,_,_,rfl,rfl,.inl ⟨by omega,by omega⟩,out,sD,by rw[eo,List.length_map,List.length_map,List.length_take];omega,hN _ _ ⟨ay_ s5 hD,a1_,?_⟩⟩
   ·rw[<- db_ (g:=fun h=>V.int (lvF hs qs f h)) nm]
    exact .k (k:=Sum.inr n) (s4 _ _ e1)
   ·rw[bp_ hn,List.map_append,List.map_append,eo]
    rfl
end
end Ev
set_option Elab.async false
set_option linter.all false
set_option maxRecDepth 100000
namespace L2
open PySem PySem.Spec PyProof.Rows
def CXH(P:Program)(w:World)(L:Addr):CXT:=fun l H s E e s'=>
 ∃a cls H' B a0,e=Value.ref a/\s'.os=s.os/\AllBare s'.gens/\Un (frs l) [] H H' s.heap s'.heap/\HOk P w H' s'.heap/\Heap.HeldW B l a cls a0 L s'.heap/\InB B l H' s.heap s'.heap/\E cls none H'
def XQ(X:Cx)(E:XK):Value->Shared->Prop:=fun e s'=>∃pins σ H s,Inv X pins σ H s /\
 (CX1 X.prog X.w X.stack H s E e s'∨CXH X.prog X.w X.env.locals X.stack H s E e s'∨∃h' a cls vs,e=Value.ref a/\s'={ s with heap:=h' }/\Heap.MadeExcOf s.heap h' a cls vs/\E cls none H)
section
variable{M:Model}{A:Around}{E:Value->Shared->Prop}{s:Shared}
theorem el_{B:Heap}{l:List Env}{e L:Addr}{cls a0:Value}{Q:Unit->Shared->Prop}(hh:Heap.HeldW B l e cls a0 L s.heap)
  (hQ:∀h',Heap.HeldW B l e cls a0 L h'->s.heap.UpToSlots h'->Q () { s with heap:=h' }):wpAny M A (setFlight (.ref e) (some L)) Q E s:=by
 obtain⟨st,ne,ff,oe,vs,T,oT,ts,he,hc,hd,h1,nT,Te,hT,dT,h3⟩:=hh
 have z3:3<ts.size:=(Array.getElem?_eq_some_iff.mp h3).1
 have oth:∀b o,s.heap.get? b=some o->b≠T->(s.heap.update T (Obj.mapFields (·.setIfInBounds 3 (rawInt L)))).get? b=some o:=fun b o q n=>by
  rw[Heap.get?_update_other _ _ n.symm]
  exact q
 have nrec:∀b o,s.heap.get? b=some o->(∀us,o.data≠.fields us)->b≠T:=fun b o q n y=>by
  subst y
  rw[hT] at q
  cases q
  exact n ts dT
 unfold setFlight
 refine wpAny_bind (wpAny_field he hd h1 ?_)
 rw[if_pos (by simp)]
 refine wpAny_setField hT dT z3 (hQ _ ⟨fun b o q=>?_,ne,?_,?_⟩ ?_)
 ·exact oth b o (st b o q) fun y=>by
   rw[y,nT] at q
   cases q
 ·exact ff.of_keeps fun b o q n=>⟨o,oth b o q (nrec b o q n),rfl⟩
 ·refine⟨oe,vs,T,_,_,oth e oe he Te.symm,hc,hd,h1,nT,Te,Heap.get?_update_self _ hT (Obj.isFreed_of_fields (Obj.data_mapFields dT _)),Obj.data_mapFields dT _,?_⟩
  simp[z3]
 ·exact fun b o q n=>⟨o.slots,oth b o q (nrec b o q n)⟩
theorem g0_{B:Heap}{env:Env}{l:List Env}{e L:Addr}{cls a0:Value}(hf:env.frame=some L)(hh:Heap.HeldW B l e cls a0 L s.heap)
  (hQ:∀h',Heap.HeldW B l e cls a0 L h'->s.heap.UpToSlots h'->E (.ref e) { s with heap:=h' }):cameBackBy M A env E (.ref e) s:=by
 unfold cameBackBy
 have hh2:=hh
 obtain⟨st,ne,ff,oe,vs,T,oT,ts,he,hc,hd,h1,nT,Te,hT,dT,h3⟩:=hh
 refine wpAny_bind (wpAny_field he hd h1 ?_)
 rw[if_neg (by simp),hf]
 exact el_ hh2 fun h' q up=>hQ h' q up
end
section
variable{X:Cx}{E:XK}
theorem gr_{pins:List (Addr × Obj)}{σ:St}{H H':Hp}{s s':Shared}{B h1:Heap}{a L:Addr}{cls a0:Value}(I:Inv X pins σ H s)(os:s'.os=s.os)(bare:AllBare s'.gens)(un:Un (frs X.stack) [] H H' s.heap s'.heap)(hok:HOk X.prog X.w H' s'.heap)
  (ff:s'.heap.FunFrames B X.stack) (i:InB B X.stack H' s.heap s'.heap) (hE:E cls none H') (hd:Heap.HeldW B X.stack a cls a0 L h1) (up:s'.heap.UpToSlots h1):CXH X.prog X.w L X.stack H s E (.ref a) { s' with heap:=h1 }:=
 ⟨a,cls,H',B,a0,rfl,os,bare,bv_ un ff i hd.1 up,b9_ hok (ce_ I un) i hd.1,hd,bB_ hok un i hd.1,hE⟩
theorem passQ(hst:X.stack=X.env::X.outer)(hfr:X.env.frame=some X.env.locals):PassesOwn (model X.prog X.w) X.A X.env (XQ X E):=by
 intro e s' h
 obtain⟨pins,σ,H,s,I,c⟩:=h
 have back:∀s2,CXH X.prog X.w X.env.locals X.stack H s E e s2->cameBackBy (model X.prog X.w) X.A X.env (XQ X E) e s2:=fun s2 hc=>by
  obtain⟨a,cls,H',B,a0,rfl,os,bare,un,hok,hd,i,hE⟩:=hc
  exact g0_ hfr hd fun h' q up=>⟨pins,σ,H,s,I,.inr (.inl (gr_ I os bare un hok hd.2.2.1 i hE q up))⟩
 unfold notedBy
 have fin:wpAny (model X.prog X.w) X.A (noteFrame e X.env) (fun _ s2=>CXH X.prog X.w X.env.locals X.stack H s E e s2) (cameBackBy (model X.prog X.w) X.A X.env (XQ X E)) s':=by
  rcases c with c|c|⟨h',a,cls,vs,rfl,rfl,hx,hE⟩
  ·obtain⟨a,cls,H',B,a0,rfl,os,bare,un,hok,fl,i,hE⟩:=c
   refine wpAny_looks_onW (base:=B) (by rw[I.ok.frames,hst]) hfr (by rw[<- hst];exact fl) fun h4 hd up=>?_
   rw[<- hst] at hd
   exact gr_ I os bare un hok fl.2.2.1 i hE hd up
  ·obtain⟨a,cls,H',B,a0,rfl,os,bare,un,hok,hd,i,hE⟩:=c
   exact wpAny_noteFrame_againW hfr hd.2.2.2 ⟨a,cls,H',B,a0,rfl,os,bare,un,hok,hd,i,hE⟩
  ·have ff:=PySem.W.funFrames_hide (as:=frs X.stack) I.stack (fun env he b hb=>List.mem_filterMap.mpr ⟨env,he,hb⟩)
   have hk:(PySem.W.hideAll s.heap (frs X.stack)).StaysIn s.heap:=fun b o q=>PySem.W.of_hideAll _ q
   obtain⟨t,he,htn,ht⟩:=hx.there
   have frs0:∀b,s.heap.get? b=none->(PySem.W.hideAll s.heap (frs X.stack)).get? b=none:=fun b hb=>by
    cases hq:(PySem.W.hideAll s.heap (frs X.stack)).get? b with
    |none=>rfl
    |some o'=>
     have:=hk b o' hq
     rw[hb] at this
     cases this
   have ff1:Heap.FunFrames h' (PySem.W.hideAll s.heap (frs X.stack)) X.stack:=ff.of_keeps fun b o hb _=>⟨o,hx.keeps b o hb,rfl⟩
   unfold noteFrame
   simp only[hfr]
   refine wpAny_bind (wpAny_field he rfl rfl ?_)
   rw[if_neg (by simp)]
   refine wpAny_entryW (base:=PySem.W.hideAll s.heap (frs X.stack)) (outer:=X.outer) (a0:=.ref t) (by rw[I.ok.frames,hst]) (by rw[<- hst];exact ff1) hfr he (fun b o q=>hx.keeps b o (hk b o q)) (frs0 a hx.new) rfl (by simp) rfl fun h4 nt=>?_
   rw[<- hst] at nt
   obtain⟨k1,k2,k3,k4⟩:=nt
   have un:Un (frs X.stack) [] H H s.heap h':=Un.kept hx.keeps
   have hok:HOk X.prog X.w H h':=I.hok.kept hx.keeps
   have i:InB (PySem.W.hideAll s.heap (frs X.stack)) X.stack H s.heap h':=fun b o q hb c=>by
    rcases c with c|⟨o0,z⟩
    ·obtain⟨u,hu⟩:=Option.isSome_iff_exists.mp c
     obtain⟨o1,z⟩:=(I.hok b u hu).here
     have:=hx.keeps b o1 z
     rw[q] at this
     cases this
     exact PySem.W.hideAll_get _ z hb
    ·have:=hx.keeps b o0 z
     rw[q] at this
     cases this
     exact PySem.W.hideAll_get _ z hb
   exact gr_ (s':={ s with heap:=h' }) I rfl I.bare un hok ff1 i hE ⟨k1,frs0 a hx.new,k2,k3⟩ k4
 exact wpAny_mono fin (fun _ s2 q=>back s2 q) fun _ _ z=>z
end
section
variable{P:Program}{w:World}{K:PySem.W.Frag}{mg:Str->Option Value}{base:Heap}
abbrev cxQ(P:Program)(w:World)(K:PySem.W.Frag)(mg:Str->Option Value)(base:Heap)(N:List Str)(qual:Str)(scope:Scope)(f:Addr)(cd:Value)(A:Around)(outer:List Env)(s:Shared)(H:Hp)(E:XK):Cx:=
 (cxOf (CX1 P w) P w K mg base N qual scope f cd A outer s H E).wish (XQ (cxOf (CX1 P w) P w K mg base N qual scope f cd A outer s H E) E)
section
variable{N:List Str}{qual:Str}{scope:Scope}{f:Addr}{cd:Value}{A:Around}{outer:List Env}{s:Shared}{H:Hp}{E:XK}
theorem ownQ:PassesOwn (model P w) (cxQ P w K mg base N qual scope f cd A outer s H E).A (cxQ P w K mg base N qual scope f cd A outer s H E).env (cxQ P w K mg base N qual scope f cd A outer s H E).xe:=passQ (X:=cxOf (CX1 P w) P w K mg base N qual scope f cd A outer s H E) rfl rfl
theorem passesQ:Passes (CX1 P w) (cxQ P w K mg base N qual scope f cd A outer s H E) E:=fun pins σ H1 s1 e s' I hc=>⟨pins,σ,H1,s1,I.unwish,.inl hc⟩
theorem raisesQ:Raises (cxQ P w K mg base N qual scope f cd A outer s H E) E:=fun pins σ H1 s1 h' e cls vs I hx hE=>⟨pins,σ,H1,s1,I.unwish,.inr (.inr ⟨h',e,cls,vs,rfl,rfl,hx,hE⟩)⟩
theorem leaveQ{e:Value}{s':Shared}(h:XQ (cxOf (CX1 P w) P w K mg base N qual scope f cd A outer s H E) E e s'):(cxOf (CX1 P w) P w K mg base N qual scope f cd A outer s H E).xe e s':=by
 obtain⟨pins,σ,H1,s1,I,c⟩:=h
 rcases c with c|c|⟨h',a,cls,vs,rfl,rfl,hx,hE⟩
 ·exact passes1 pins σ H1 s1 e s' I c
 ·obtain⟨a,cls,H',B,a0,rfl,os,bare,un,hok,hd,i,hE⟩:=c
  show wpAny _ _ (leaving _ _) _ _ _
  unfold leaving
  refine wpAny_bind (wpAny_noteFrame_againW rfl hd.2.2.2 (wpAny_landsW hd fun h1 fl up=>?_))
  have ff:=hd.2.2.1
  obtain⟨k1,k2,⟨_,_,k3⟩,k4⟩:=fl
  exact cs_ (s1:={ s' with heap:=h1 }) I rfl os bare un hok i ff up ⟨k1,k2,k3,k4⟩ hE
 ·exact raises1 pins σ H1 s1 h' a cls vs I hx hE
end
theorem Fun.okQ{x qual:Str}{st:Stmt}{f:Addr}{fd:FuncData}{N ps:List Str}{k:Nat}{sp:Sp}(F:Fun K x qual st f fd)(S:FnScope N ps (defScope st))(len:∀vs H Q E,sp vs H Q E->vs.length=ps.length)
  (hbody:∀(cdv:Value) (A:Around) (outer:List Env) (s:Shared) (H:Hp) (vs:List V) (Q:VK) (E:XK),Room k (A.deeper (envOfC qual (defScope st) s.heap.objs.size f cdv))->sp vs H Q E->
   PassesOwn (model P w) (cxQ P w K mg base N qual (defScope st) f cdv A outer s H E).A (cxQ P w K mg base N qual (defScope st) f cdv A outer s H E).env (cxQ P w K mg base N qual (defScope st) f cdv A outer s H E).xe->
   Passes (CX1 P w) (cxQ P w K mg base N qual (defScope st) f cdv A outer s H E) E->Raises (cxQ P w K mg base N qual (defScope st) f cdv A outer s H E) E->
   ∃t,PSs (cxQ P w K mg base N qual (defScope st) f cdv A outer s H E) (defBody st) t/\t { nx:=fun _ H'=>Q .non H',rt:=Q } (start N vs) H):FnOk P w K mg base (CX1 P w) (k+1) f fd ps sp:=
 F.okX S len fun cdv A outer s H vs Q E hr hsp=>by
  obtain⟨t,h,q⟩:=hbody cdv A outer s H vs Q E hr hsp ownQ passesQ raisesQ
  exact⟨t,fun pins s1 σ H1 D I hw=>wpAny_mono (h pins s1 σ H1 D (I.wish _) hw) (fun _ _ q=>q.unwish) fun _ _ z=>leaveQ z,q⟩
end
end L2
set_option Elab.async false
set_option linter.all false
set_option maxRecDepth 100000
namespace L2
open PySem PySem.Spec PySem.Calls PyProof.Rows PySem.W
section
variable{M:Model}{A:Around}{E:Value->Shared->Prop}{s:Shared}{base:Heap}{env:Env}{outer:List Env}{L e:Addr}{cls a0:Value}{Q:Unit->Shared->Prop}
def TracedD(h base:Heap)(e:Addr)(cls a0:Value)(dd:Option Addr):Prop:=∃oe vs T oT ts,h.get? e=some oe/\(oe.cls=cls/\vs[0]? = some a0)/\oe.data=Data.fields vs/\vs[1]? = some (Value.ref T)/\base.get? T=none/\T≠e/\h.get? T=some oT/\oT.data=Data.fields ts/\ts[3]? = some Value.none/\oe.dict=dd
def FlyingD(base:Heap)(l:List Env)(e:Addr)(cls a0:Value)(dd:Option Addr)(h:Heap):Prop:=base.StaysIn h/\base.get? e=none/\h.FunFrames base l/\TracedD h base e cls a0 dd
theorem newEntryD{oe:Obj}{vs:Array Value}{head:Value}{hadNext:Bool}(hfr:A.frames=some (env::outer))(hl:s.heap.FunFrames base (env::outer))(hf:env.frame=some L)(he:s.heap.get? e=some oe)(hkb:base.StaysIn s.heap)(hen:base.get? e=none)(hd:oe.data=Data.fields vs)(hsz:1<vs.size)(h0:vs[0]? = some a0)
  (h:∀h',base.StaysIn h'->h'.FunFrames base (env::outer)->TracedD h' base e oe.cls a0 oe.dict->s.heap.UpToSlots h'->Q () { s with heap:=h' }) :
  wpAny M A (do
   let a <- PySem.frameOf env
   let pl <- entryPlaceOf L hadNext
   let b <- EntryCells.newEntry head a Value.none (rawInt L) Value.none pl
   setField (Value.ref e) 1 b) (fun _ s'=>wpAny M A (setFlight (Value.ref e) none) Q E s') E s:=by
 have hene:e∉List.filterMap (fun x=>x.frame) (env::outer):=fun hm=>by
  obtain⟨_,o,ho,hnf⟩:=Heap.FunFrames.mem hl hm
  rw[he] at ho
  cases ho
  exact hnf vs hd
 refine wpAny_bind (wpAny_frameOf_fun hfr hl hf fun h₁ hs₁=>wpAny_bind (wpAny_entryPlaceOf fun pl hpl=>?_))
 unfold EntryCells.newEntry newFields
 have hsz1:h₁.objs.size=s.heap.objs.size:=hs₁.1
 have he₁:=(hs₁.right.left e hene).trans he
 have hlt:∀b o,s.heap.get? b=some o->b≠h₁.objs.size:=fun b o q=>Nat.ne_of_lt (by rw[hsz1];exact Heap.lt_size q)
 have hbn:base.get? h₁.objs.size=none:=by
  cases q:base.get? h₁.objs.size with
  |none=>rfl
  |some o=>exact absurd rfl (hlt _ o (hkb _ o q))
 have hbase:∀b o,base.get? b=some o->h₁.get? b=some o:=fun b o q=>(hs₁.right.left b (fun hm=>by
  have:=(Heap.FunFrames.mem hl hm).1
  rw[q] at this
  cases this)).trans (hkb b o q)
 obtain⟨tbs,htb,ht3⟩:∃tbs:Array Value,([head,Value.ref L,Value.none,rawInt ↑L,Value.none]++if pl.isEmpty=true then List.replicate 6 Value.none else pl).toArray=tbs/\3<tbs.size:=⟨_,rfl,by simp⟩
 have hts:tbs.size<=sizeLine+2:=by
  rw[<- htb]
  rcases hpl with rfl|⟨a,b,c,d,c9,b10,_,rfl⟩
  ·show 11<=sizeLine+2
   decide
  ·show 11<=sizeLine+2
   decide
 refine wpAny_bind (wpAny_newObj_type ?_ (by rw[htb];exact hts))
 rw[htb]
 have he₂:(h₁.push { cls:=Value.type "traceback",data:=Data.fields tbs }).get? e=some oe:=Heap.get?_push_of_some _ he₁
 have hn₂:(h₁.push { cls:=Value.type "traceback",data:=Data.fields tbs }).get? h₁.objs.size=some { cls:=Value.type "traceback",data:=Data.fields tbs }:=Heap.get?_push_size h₁ rfl
 have hTe:h₁.objs.size≠e:=(hlt e oe he).symm
 refine wpAny_setField he₂ hd hsz ?_
 have hd₃:=Obj.data_mapFields hd fun x=>x.setIfInBounds 1 (Value.ref h₁.objs.size)
 have he₃:=Heap.get?_update_self (Obj.mapFields fun x=>x.setIfInBounds 1 (Value.ref h₁.objs.size)) he₂ (Obj.isFreed_of_fields hd₃)
 have hn₃:=(Heap.get?_update_other (h₁.push { cls:=Value.type "traceback",data:=Data.fields tbs }) (Obj.mapFields fun x=>x.setIfInBounds 1 (Value.ref h₁.objs.size)) hTe.symm).trans hn₂
 unfold setFlight
 refine wpAny_bind (wpAny_field (x:=.ref h₁.objs.size) he₃ hd₃ (by simp[hsz]) ?_)
 rw[if_pos (by simp)]
 refine wpAny_setField hn₃ rfl ht3 ?_
 have hd₄:=Obj.data_mapFields (o:={ cls:=Value.type "traceback",data:=Data.fields tbs }) rfl fun x=>x.setIfInBounds 3 Value.none
 have hn₄:=Heap.get?_update_self (Obj.mapFields fun x=>x.setIfInBounds 3 Value.none) hn₃ (Obj.isFreed_of_fields hd₄)
 have he₄:=(Heap.get?_update_other ((h₁.push { cls:=Value.type "traceback",data:=Data.fields tbs }).update e (Obj.mapFields fun x=>x.setIfInBounds 1 (Value.ref h₁.objs.size))) (Obj.mapFields fun x=>x.setIfInBounds 3 Value.none) hTe).trans he₃
 have oth:∀b o,b≠e->b≠h₁.objs.size->h₁.get? b=some o->(((h₁.push { cls:=Value.type "traceback",data:=Data.fields tbs }).update e (Obj.mapFields fun x=>x.setIfInBounds 1 (Value.ref h₁.objs.size))).update h₁.objs.size (Obj.mapFields fun x=>x.setIfInBounds 3 Value.none)).get? b=some o:=fun b o n1 n2 q=>
  (Heap.get?_update_other _ _ n2.symm).trans ((Heap.get?_update_other _ _ n1.symm).trans (Heap.get?_push_of_some _ q))
 have hec:((Obj.mapFields fun x=>x.setIfInBounds 1 (Value.ref h₁.objs.size)) oe).cls=oe.cls/\((Obj.mapFields fun x=>x.setIfInBounds 1 (Value.ref h₁.objs.size)) oe).dict=oe.dict:=by
  obtain⟨c,dt,da,sl⟩:=oe
  have:da=Data.fields vs:=hd
  subst this
  exact⟨rfl,rfl⟩
 have ups:∀b o,s.heap.get? b=some o->(∀vs,o.data≠Data.fields vs)->∃sl,(((h₁.push { cls:=Value.type "traceback",data:=Data.fields tbs }).update e (Obj.mapFields fun x=>x.setIfInBounds 1 (Value.ref h₁.objs.size))).update h₁.objs.size (Obj.mapFields fun x=>x.setIfInBounds 3 Value.none)).get? b=some { cls:=o.cls,dict:=o.dict,data:=o.data,slots:=sl }:=fun b o q nf=>by
  obtain⟨sl,q1⟩:=hs₁.right.right b o q
  refine⟨sl,oth b _ (fun z=>?_) (hlt b o q) q1⟩
  subst z
  rw[he] at q
  cases q
  exact nf vs hd
 refine h _ (fun b o q=>oth b o (fun z=>?_) (fun z=>?_) (hbase b o q)) (Heap.FunFrames.of_keeps (fun b o q nf=>?_) hl) ⟨_,_,h₁.objs.size,_,_,he₄,⟨hec.1,?_⟩,hd₃,?_,hbn,hTe,hn₄,hd₄,?_,hec.2⟩ ups
 ·subst z
  rw[hen] at q
  cases q
 ·subst z
  rw[hbn] at q
  cases q
 ·obtain⟨sl,q1⟩:=ups b o q nf
  exact⟨_,q1,rfl⟩
 ·rw[Array.getElem?_setIfInBounds]
  simpa using h0
 ·simp[hsz]
 ·simp[ht3]
theorem FlyingD.obj{dd:Option Addr}{l:List Env}{h:Heap}(f:FlyingD base l e cls a0 dd h):∃oe vs,h.get? e=some oe/\oe.cls=cls/\oe.data=Data.fields vs/\oe.dict=dd:=by
 obtain⟨f1,f2,f3,oe,vs,T,oT,ts,h1,h2,h3,h4,h5,h6,h7,h8,h9,h10⟩:=f
 exact⟨oe,vs,h1,h2.1,h3,h10⟩
theorem FlyingD.less{dd:Option Addr}{h:Heap}(f:FlyingD base (env::outer) e cls a0 dd h):FlyingD base outer e cls a0 dd h:=⟨f.1,f.2.1,f.2.2.1.2.2,f.2.2.2⟩
theorem ca_{dd:Option Addr}(hfr:A.frames=some (env::outer))(hf:env.frame=some L)(hfl:FlyingD base (env::outer) e cls a0 dd s.heap)
  (hQ:∀h',FlyingD base (env::outer) e cls a0 dd h'->s.heap.UpToSlots h'->Q () { s with heap:=h' }):wpAny M A (noteFrame (Value.ref e) env) (fun _ s₂=>wpAny M A (setFlight (Value.ref e) none) Q E s₂) E s:=by
 obtain⟨f1,f2,f3,oe,vs,T,oT,ts,he,⟨hc,h0⟩,hd,h1,hnT,hTe,hT,hdT,h3,hdd⟩:=hfl
 unfold noteFrame
 rw[hf]
 dsimp only
 refine wpAny_bind (wpAny_field he hd h1 ?_)
 rw[if_pos (by simp)]
 refine wpAny_bind (wpAny_field hT hdT h3 ?_)
 rw[if_neg (by simp[rawInt])]
 refine wpAny_bind (wpAny_setField hT hdT (Array.getElem?_eq_some_iff.mp h3).1 ?_)
 have other:∀b,b≠T->(s.heap.update T (Obj.mapFields fun x=>x.setIfInBounds 3 Value.none)).get? b=s.heap.get? b:=fun b hb=>Heap.get?_update_other _ _ hb.symm
 have nrec:∀b o,s.heap.get? b=some o->(∀vs,o.data≠Data.fields vs)->b≠T:=fun b o q nf z=>by
  subst z
  rw[hT] at q
  cases q
  exact nf ts hdT
 refine newEntryD (base:=base) (s:={ s with heap:=s.heap.update T (Obj.mapFields fun x=>x.setIfInBounds 3 Value.none) }) hfr (Heap.FunFrames.of_keeps (fun b o q nf=>⟨o,(other b (nrec b o q nf)).trans q,rfl⟩) f3) hf ((other e hTe.symm).trans he) (fun b o q=>(other b (fun z=>?_)).trans (f1 b o q)) f2 hd (Array.getElem?_eq_some_iff.mp h1).1 h0 fun h' g1 g2 g3 g4=>?_
 ·subst z
  rw[hnT] at q
  cases q
 ·refine hQ h' ⟨g1,f2,g2,?_⟩ fun b o q nf=>g4 b o ((other b (nrec b o q nf)).trans q) nf
  rw[hc,hdd] at g3
  exact g3
theorem d3_{dd:Option Addr}(hfr:A.frames=some (env::outer))(hf:env.frame=some L)(hfl:FlyingD base (env::outer) e cls a0 dd s.heap)
  (hQ:∀h',FlyingD base outer e cls a0 dd h'->s.heap.UpToSlots h'->Q () { s with heap:=h' }):wpAny M A (leaving env (Value.ref e)) Q E s:=by
 unfold leaving
 exact wpAny_bind (ca_ hfr hf hfl fun h' f u=>hQ h' f.less u)
theorem dS_{dd:Option Addr}{l:List Env}(hfl:FlyingD base l e cls a0 dd s.heap)(hQ:∀h',FlyingD base l e cls a0 dd h'->s.heap.UpToSlots h'->Q () { s with heap:=h' }):wpAny M A (setFlight (Value.ref e) none) Q E s:=by
 obtain⟨f1,f2,f3,oe,vs,T,oT,ts,he,⟨hc,h0⟩,hd,h1,hnT,hTe,hT,hdT,h3,hdd⟩:=hfl
 unfold setFlight
 refine wpAny_bind (wpAny_field he hd h1 ?_)
 rw[if_pos (by simp)]
 refine wpAny_setField hT hdT (Array.getElem?_eq_some_iff.mp h3).1 ?_
 have other:∀b,b≠T->(s.heap.update T (Obj.mapFields fun x=>x.setIfInBounds 3 Value.none)).get? b=s.heap.get? b:=fun b hb=>Heap.get?_update_other _ _ hb.symm
 have nrec:∀b o,s.heap.get? b=some o->(∀vs,o.data≠Data.fields vs)->b≠T:=fun b o q nf z=>by
  subst z
  rw[hT] at q
  cases q
  exact nf ts hdT
 have hd4:=Obj.data_mapFields hdT fun x=>x.setIfInBounds 3 Value.none
 have hT4:=Heap.get?_update_self (Obj.mapFields fun x=>x.setIfInBounds 3 Value.none) hT (Obj.isFreed_of_fields hd4)
 refine hQ _ ⟨fun b o q=>(other b (fun z=>?_)).trans (f1 b o q),f2,Heap.FunFrames.of_keeps (fun b o q nf=>⟨o,(other b (nrec b o q nf)).trans q,rfl⟩) f3,oe,vs,T,_,_,(other e hTe.symm).trans he,⟨hc,h0⟩,hd,h1,hnT,hTe,hT4,hd4,?_,hdd⟩ fun b o q nf=>⟨o.slots,(other b (nrec b o q nf)).trans q⟩
 ·subst z
  rw[hnT] at q
  cases q
 ·have:=(Array.getElem?_eq_some_iff.mp h3).1
  simp[this]
theorem bM_{dd:Option Addr}{oe:Obj}{vs:Array Value}(hfr:A.frames=some (env::outer))(hf:env.frame=some L)(st:base.StaysIn s.heap)(ff:s.heap.FunFrames base (env::outer))(hen:base.get? e=none)(he:s.heap.get? e=some oe)(hc:oe.cls=cls)(hdd:oe.dict=dd)(hd:oe.data=Data.fields vs)(h0:vs[0]? = some a0)(h1:vs[1]? = some Value.none)
  (hQ:∀h',FlyingD base outer e cls a0 dd h'->s.heap.UpToSlots h'->Q () { s with heap:=h' }):wpAny M A (leaving env (Value.ref e)) Q E s:=by
 unfold leaving noteFrame
 rw[hf]
 dsimp only
 refine wpAny_bind (wpAny_bind (wpAny_field he hd h1 ?_))
 rw[if_neg (by simp)]
 refine newEntryD (base:=base) hfr ff hf he st hen hd (Array.getElem?_eq_some_iff.mp h1).1 h0 fun h' g1 g2 g3 g4=>?_
 refine hQ h' ⟨g1,hen,g2.2.2,?_⟩ g4
 rw[hc,hdd] at g3
 exact g3
end
end L2
set_option Elab.async false
set_option linter.all false
set_option maxRecDepth 100000
namespace L2
open PySem PySem.Spec PySem.Calls PyProof.Rows PySem.W
section
variable{prog:Program}{w:World}{A:Around}{E:Value->Shared->Prop}{h:Heap}{g:Array GenState}{d:Drawn}{t:Nat}{os:OsState}{nm q:Str}{C N f:Addr}{bs bm bmB:List Value}{hdct:Bool}{sn:List Str}{sub:List Value}{ab:Bool}{col:Option Bool}{dd:Option Addr}{k0 k1 k2 k3 k5:Option Value}{B newId initId:String}{K:PySem.W.Frag}{rest:List Value}
end
end L2
set_option Elab.async false
set_option linter.all false
set_option maxRecDepth 100000
namespace L2
open PySem PySem.Spec PySem.Calls PyProof.Rows PySem.W Builtin Builtin.ObjectAttr
def excMro(C CE:Addr):List Value:=[.ref C,.ref CE,.type "ValueError",.type "Exception",.type "BaseException",.type "object"]
section
variable{prog:Program}{w:World}{A:Around}{E:Value->Shared->Prop}{s:Shared}{K:PySem.W.Frag}{x C CE:Addr}{ox:Obj}{od:Option Obj}{name:Str}{tk:Tok}{v:Value}{cd:ClassData}
end
end L2
set_option Elab.async false
set_option linter.all false
set_option maxRecDepth 100000
namespace L2
open PySem PySem.Spec PySem.Calls PyProof.Rows PySem.W
section
variable{M:Model}{A:Around}{E:Value->Shared->Prop}{s:Shared}{env:Env}{nm q:Str}{C N:Addr}{bs bm:List Value}{hdct:Bool}{sn:List Str}{sub:List Value}{ab:Bool}{col:Option Bool}{dd:Option Addr}{k0 k1 k2 k3 k5:Option Value}{newId:String}
end
end L2
set_option Elab.async false
set_option linter.all false
set_option maxRecDepth 100000
namespace L2
open PySem PySem.Spec PySem.Calls PyProof.Rows PySem.W
def excInO(K:PySem.W.Frag)(C:Addr)(bmB:List Value)(newId:String):Bool:=
 match K.lookup C with
 |some ⟨.type "type",_,.cls cd,sl⟩=>
  match cd.mro,sl.toList with
  |.ref C'::bm,[_,_,_,_,some (.builtin n),_]=>C' == C&&n == newId&&!cd.hasDel&&tailIn K bmB bm&&nsOkIn K cd.ns
  |_,_=>false
 |_=>false
def clsO(K:PySem.W.Frag)(C CE:Addr):Bool:=
 match clsIn K C with
 |some cd=>cd.mro == excMro C CE&&cd.hasDict
 |none=>false
structure ExO (K:PySem.W.Frag) (C CE:Addr):Prop where
 kx:ExcK K C
 ex:excInO K C bmV "ValueError.__new__"=true
 es:findIn K (.ref C) "__setattr__"=some (some (.builtin "object.__setattr__"))
 cl:clsO K C CE=true
structure ExF (K:PySem.W.Frag) (C:Addr) (f:Str):Prop where
 tk:takerIn K C f=some none
 fd:findIn K (.ref C) f=some none
structure ExB (K:PySem.W.Frag) (CE:Addr):Prop where
 sp:specialIn K (.ref CE) "__getattribute__"=some (some (.builtin "type.__getattribute__"))
 rd:readsIn K CE (.type "type")=true
 fc:findCls K (.ref CE) (.type "type") "__init__"=some (.val (.builtin "ValueError.__init__"))
def exn(e C a0:Addr)(dd:Option Addr):HO:=.ext fun h=>∃o,h.get? e=some o/\o.cls=.ref C/\o.dict=dd/\o.data=.fields #[.ref a0,.none,.none,.none,.bool false,.none]
def exq(e C:Addr)(dd:Option Addr):HO:=.ext fun h=>∃o vs,h.get? e=some o/\o.cls=.ref C/\o.dict=dd/\o.data=.fields vs
section
variable{P:Program}{w:World}{H:Hp}{h:Heap}{e C a0 d:Addr}{dd:Option Addr}{fs:List (Str × V)}
theorem jq_{o:Obj}{vs:Array Value}(h1:h.get? e=some o)(h2:o.cls=.ref C)(h3:o.dict=dd)(h4:o.data=.fields vs):ObjOk P w H h e (exq e C dd):=⟨⟨o,vs,h1,h2,h3,h4⟩,⟨o,h1⟩,fun _ _ ⟨u,vs,q,r⟩ k=>⟨u,vs,k u q,r⟩⟩
end
section
variable{X:Cx}{C CE:Addr}{x f:Str}{p apos pos pos':Pos}{o e value:Expr}{es:List Expr}{ta tv:TE}{t:TA}
end
end L2
set_option Elab.async false
set_option linter.all false
set_option maxRecDepth 100000
namespace L2
open PySem PySem.Spec PySem.Calls PyProof.Rows PySem.W
def CX2(P:Program)(w:World):CXT:=fun l H s E e s'=>
 ∃a cls H' B a0 dd,e=Value.ref a/\s'.os=s.os/\AllBare s'.gens/\Un (frs l) [] H H' s.heap s'.heap/\HOk P w H' s'.heap/\FlyingD B l a cls a0 dd s'.heap/\InB B l H' s.heap s'.heap/\E cls dd H'
section
variable{X:Cx}{pins:List (Addr × Obj)}{σ:St}{H H':Hp}{s s1:Shared}{B h:Heap}{a:Addr}{cls a0:Value}{dd:Option Addr}{E:XK}
theorem c4_(I:Inv X pins σ H s)(hex:X.ex=[])(os:s1.os=s.os)(bare:AllBare s1.gens)(un:Un (frs X.stack) [] H H' s.heap h)(hok:HOk X.prog X.w H' h)(i:InB B X.stack H' s.heap h)(ff:h.FunFrames B X.stack)(up:h.UpToSlots s1.heap)
  (fl:FlyingD B X.outer a cls a0 dd s1.heap) (hE:E cls dd H'):CX2 X.prog X.w X.outer X.H₀ X.s₀ E (.ref a) s1:=by
 have un1:=bv_ un ff i fl.1 up
 have hok1:=b9_ hok (ce_ I un) i fl.1
 have I1:Inv X pins σ H' s1:=I.call' os un1 hok1 bare (fun b z=>absurd z (by simp))
 have bs:=I1.base
 rw[hex] at bs
 refine⟨a,cls,H',B,a0,dd,rfl,I1.os,I1.bare,bs,I1.hok,fl,fun b o e hb c=>?_,hE⟩
 have nL:b≠X.env.locals:=by
  rcases c with z|⟨o0,z⟩
  ·intro q
   rw[q,I1.free] at z
   cases z
  ·exact Nat.ne_of_lt (Nat.lt_of_lt_of_le (Heap.lt_size z) I.ok.above)
 refine bB_ hok un i fl.1 b o e (fun hm=>?_) (c.imp id fun⟨o0,z⟩=>I.base.there b o0 z (by rw[hex];simp))
 rcases List.mem_cons.mp (I.stkSub b hm) with z|z
 ·exact nL z
 ·exact hb z
def dropH(H:Hp)(e:Addr):Hp:=fun b=>if b=e then none else H b
theorem bb_{e:Addr}:dropH H e e=none:=by unfold dropH;rw[if_pos rfl]
theorem bV_{e b:Addr}(n:b≠e):dropH H e b=H b:=by unfold dropH;rw[if_neg n]
theorem gp_{e C a1:Addr}(I:Inv X pins σ H s)(hex:X.ex=[])(hfs:X.fs=frs X.outer)(hst:X.stack=X.env::X.outer)(he:H e=some (exn e C a1 dd))(hnew:X.s₀.heap.objs.size<=e)(os:s1.os=s.os)(bare:AllBare s1.gens)(hB:B=PySem.W.hideAll s.heap (e::frs X.stack))(up:s.heap.UpToSlots s1.heap)
  (fl:FlyingD B X.outer e (.ref C) a0 dd s1.heap) (hE:E (.ref C) dd (dropH H e)):CX2 X.prog X.w X.outer X.H₀ X.s₀ E (.ref e) s1:=by
 have nd:∀{b:Addr} {u:HO},H b=some u->u≠exn e C a1 dd->dropH H e b=some u:=fun q n=>by rw[bV_ (aQ_ q he n)];exact q
 have bs:=I.base
 rw[hex,hfs] at bs
 have un:Un (frs X.outer) [] X.H₀ (dropH H e) X.s₀.heap s.heap:=⟨bs.keep,bs.slot,fun b o q n z=>by
   by_cases y:b=e
   ·rw[y];exact bb_
   ·rw[bV_ y];exact bs.free b o q n z,bs.there,fun b xs q=>nd (bs.tups b xs q) (by intro z;cases z),fun b o u q=>nd (bs.frzs b o u q) (by intro z;cases z),fun b p q=>by
   obtain⟨more,z⟩:=bs.tbls b p q
   exact⟨more,nd z (by intro z;cases z)⟩⟩
 have hok:HOk X.prog X.w (dropH H e) s.heap:=fun b u q=>by
  have y:b≠e:=fun y=>by rw[y,bb_] at q;cases q
  rw[bV_ y] at q
  exact (I.hok b u q).stay (fun _ _ _ z=>z) (fun c z=>nd z (by intro z;cases z)) fun c xs z=>nd z (by intro z;cases z)
 have fso:∀b∈frs X.outer,dropH H e b=none:=fun b hb=>by
  by_cases y:b=e
  ·rw[y];exact bb_
  ·rw[bV_ y]
   refine I.stkFree b ?_
   rw[hst]
   obtain⟨v,hv,e⟩:=List.mem_filterMap.mp hb
   exact List.mem_filterMap.mpr ⟨v,List.mem_cons_of_mem _ hv,e⟩
 have i:InB B X.outer (dropH H e) X.s₀.heap s.heap:=fun b o q hb c=>by
  rw[hB]
  have nL:b≠X.env.locals:=by
   rcases c with z|⟨o0,z⟩
   ·intro y
    by_cases ye:b=e
    ·rw[ye,bb_] at z;cases z
    ·rw[bV_ ye,y,I.free] at z
     cases z
   ·exact Nat.ne_of_lt (Nat.lt_of_lt_of_le (Heap.lt_size z) I.ok.above)
  have ne:b≠e:=by
   rcases c with z|⟨o0,z⟩
   ·intro y
    rw[y,bb_] at z
    cases z
   ·exact Nat.ne_of_lt (Nat.lt_of_lt_of_le (Heap.lt_size z) hnew)
  refine PySem.W.hideAll_get _ q fun hm=>?_
  rcases List.mem_cons.mp hm with z|hm
  ·exact ne z
  ·rcases List.mem_cons.mp (I.stkSub b hm) with z|z
   ·exact nL z
   ·exact hb (hfs▸z)
 have ff:s.heap.FunFrames B X.outer:=by
  have z:=PySem.W.funFrames_hide (as:=e::frs X.stack) I.stack (fun env he b hb=>List.mem_cons_of_mem _ (List.mem_filterMap.mpr ⟨env,he,hb⟩))
  rw[<- hB,hst] at z
  exact z.2.2
 exact⟨e,_,_,B,a0,dd,rfl,os.trans I.os,bare,bv_ un ff i fl.1 up,b9_ hok fso i fl.1,fl,bB_ hok un i fl.1,hE⟩
end
section
variable{P:Program}{w:World}{K:PySem.W.Frag}{mg:Str->Option Value}{base:Heap}{N:List Str}{qual:Str}{scope:Scope}{f:Addr}{cd:Value}{A:Around}{outer:List Env}{s:Shared}{H:Hp}{E:XK}
theorem passes2:Passes (CX2 P w) (cxOf (CX2 P w) P w K mg base N qual scope f cd A outer s H E) E:=by
 intro pins σ H1 s1 e s' I hc
 obtain⟨a,cls,H',B,a0,dd,rfl,os,bare,un,hok,fl,i,hE⟩:=hc
 refine d3_ (base:=B) I.ok.frames rfl fl fun h1 fl1 up=>?_
 exact c4_ (s1:={ s' with heap:=h1 }) I rfl os bare un hok i fl.2.2.1 up fl1 hE
def RaisesO(X:Cx)(E:XK):Prop:=∀(pins:List (Addr × Obj)) (σ:St) (H:Hp) (s:Shared) (e C a1:Addr) (dd:Option Addr),Inv X pins σ H s->H e=some (exn e C a1 dd)->X.s₀.heap.objs.size<=e->E (.ref C) dd (dropH H e)->X.xe (.ref e) s
theorem raisesO:RaisesO (cxOf (CX2 P w) P w K mg base N qual scope f cd A outer s H E) E:=by
 intro pins σ H1 s1 e C a1 dd I he hnew hE
 obtain⟨oe,h1,h2,h3,h4⟩:=(I.hok e _ he).1
 have ff:=PySem.W.funFrames_hide (as:=e::frs (cxOf (CX2 P w) P w K mg base N qual scope f cd A outer s H E).stack) I.stack (fun env he b hb=>List.mem_cons_of_mem _ (List.mem_filterMap.mpr ⟨env,he,hb⟩))
 refine bM_ (base:=PySem.W.hideAll s1.heap (e::frs (cxOf (CX2 P w) P w K mg base N qual scope f cd A outer s H E).stack)) I.ok.frames rfl (fun b o q=>PySem.W.of_hideAll _ q) ff ?_ h1 h2 h3 h4 rfl rfl fun h' fl up=>?_
 ·exact PySem.W.hideAll_none _ List.mem_cons_self
 ·exact gp_ (s1:={ s1 with heap:=h' }) I rfl rfl rfl he hnew rfl I.bare rfl up fl hE
end
section
variable{X:Cx}{x:Str}{C f:Addr}{fd:FuncData}{ps:List Str}{sp:Sp}{k:Nat}{np cpos pos:Pos}{e:Expr}{es:List Expr}{t:TA}{E:XK}
end
end L2
set_option Elab.async false
set_option linter.all false
set_option maxRecDepth 100000
namespace L2
open PySem PySem.Spec PySem.Calls PyProof.Rows PySem.W
section
variable{X:Cx}{i:Nat}{x n:Str}{D C:Addr}{np hpos pos:Pos}{b₀:Stmt}{suite body:List Stmt}{tb:XK->TS}{ts:TS}{rest:List ExceptHandler}
def XE(X:Cx)(i:Nat)(C:Addr)(ts:TS)(R:Ends):XK:=fun cls dd H'=>cls=.ref C/\∀(σ:St) (a:Addr),σ.length=X.N.length->H' a=none->ts (R.gone i) (σ.set i (some (.ref a))) (upd H' a (exq a C dd))
theorem f1_{pins:List (Addr × Obj)}{σ:St}{H:Hp}{s s':Shared}{e:Value}{R:Ends}(hN:X.N.Nodup)(hi:X.N[i]? = some n)(hl:X.env.scope.names.lookup n=some .local)(hst:X.stack=X.env::X.outer)(hfr:X.env.frame=some X.env.locals)
  (hg:Gl X x) (hm:X.mg x=some (.ref D)) (hx:PySem.W.exmOne X.K (.ref C) (.ref D)=some true) (hs:∀a,PSs (X.inX a).nox (b₀::suite) ts) (I:Inv X pins σ H s)
  (hc:CX2 X.prog X.w X.stack H s (XE X i C ts R) e s') (hd:(x == ("__debug__":Str))=false:=by decide) :
  wpAny (model X.prog X.w) X.A (noteFrame e X.env) (fun _ s₂=>wpAny (model X.prog X.w) X.A (setFlight e none) (fun _ s₃=>
   wpAny (model X.prog X.w) X.A (handleBy e X.env (.ExceptHandler (some (.Name x np)) (some n) (b₀::suite) hpos::rest)) (SP X pins R) X.xe s₃) X.xe s₂) X.xe s':=by
 obtain⟨a,cls,H',B,a0,dd,rfl,os,bare,un,hok,fl,i',rfl,hE⟩:=hc
 have fr:=ce_ I un
 have ff:=fl.2.2.1
 refine ca_ (base:=B) (by rw[I.ok.frames,hst]) hfr (by rw[<- hst];exact fl) fun h₅ fl5 up45=>?_
 rw[<- hst] at fl5
 have un5:=bv_ un ff i' fl5.1 up45
 have hok5:=b9_ hok fr i' fl5.1
 have in5:=bB_ hok un i' fl5.1
 have I5:Inv X pins σ H' { s' with heap:=h₅ }:=I.call' (s':={ s' with heap:=h₅ }) os un5 hok5 bare (fun b z=>absurd z (by simp))
 have J5:=I5.inX a
 obtain⟨oe,vs5,he5,hce,_⟩:=fl5.obj
 refine wpAny_handleBy_cons (codeAny_handlers_test (bJ_ (X:=X.inX a) J5 hg hm ?_ hd)) (by intro q;cases q)
 refine (PySem.W.exm_one (K:=X.K) J5.kIn (by subst_eqs;exact hce▸(PySem.W.Looks.ld he5).andThen .now) hx).at ?_
 refine codeAny_handlers_suite_as ?_
 refine dS_ (base:=B) (by exact fl5) fun h₆ fl6 up6=>?_
 have ff5:=fl5.2.2.1
 have un6:=bv_ un5 ff5 in5 fl6.1 up6
 have hok6:=b9_ hok5 fr in5 fl6.1
 have in6:=bB_ hok5 un5 in5 fl6.1
 have I6:Inv X pins σ H' { s' with heap:=h₆ }:=I.call' (s':={ s' with heap:=h₆ }) os un6 hok6 bare (fun b z=>absurd z (by simp))
 obtain⟨ox,vs,hx6,hcx,hdx,hddx⟩:=fl6.obj
 have nfr:a∉frs X.stack:=fun hm=>by
  obtain⟨_,o,ho,d⟩:=fl6.2.2.1.mem hm
  have ho:h₆.get? a=some o:=ho
  rw[hx6] at ho;cases ho
  exact d _ hdx
 have nB:B.get? a=none:=fl6.2.1
 have nH:H' a=none:=by
  cases q:H' a with
  |none=>rfl
  |some u=>
   have z:=in6 a ox hx6 nfr (.inl (by rw[q];rfl))
   rw[nB] at z;cases z
 have nS:s.heap.get? a=none:=by
  cases q:s.heap.get? a with
  |none=>rfl
  |some u=>
   have z:=in6 a ox hx6 nfr (.inr ⟨u,q⟩)
   rw[nB] at z;cases z
 have ntr:∀c,H' c≠none->c≠a:=fun c z q=>z (q▸nH)
 have un7:Un (frs X.stack) [] H (upd H' a (exq a C dd)) s.heap h₆:=
  ⟨un6.keep,un6.slot,fun b o q m z=>by
   rw[a5_ (fun y=>by rw[y,nS] at q;cases q)]
   exact un6.free b o q m z,un6.there,fun b xs q=>by
   have:=un6.tups b xs q
   rw[a5_ (ntr b (by rw[this];simp))]
   exact this,fun b o u q=>by
   have:=un6.frzs b o u q
   rw[a5_ (ntr b (by rw[this];simp))]
   exact this,fun b p q=>by
   obtain⟨more,this⟩:=un6.tbls b p q
   exact⟨more,by rw[a5_ (ntr b (by rw[this];simp))];exact this⟩⟩
 have hok7:HOk X.prog X.w (upd H' a (exq a C dd)) h₆:=fun b u q=>by
  by_cases hb:b=a
  ·subst hb
   rw[a1_] at q;cases q
   exact jq_ hx6 hcx hddx hdx
  ·rw[a5_ hb] at q
   exact (hok6 b u q).stay (fun _ _ _ z=>z) (fun c z=>by rw[a5_ (ntr c (by rw[z];simp))];exact z) fun c xs z=>by rw[a5_ (ntr c (by rw[z];simp))];exact z
 have I7:Inv X pins σ (upd H' a (exq a C dd)) { s' with heap:=h₆ }:=I.call' (s':={ s' with heap:=h₆ }) os un7 hok7 bare (fun b z=>absurd z (by simp))
 refine d8_ (X:=X.inX a) (v:=.ref a) (I7.inX a) hN hi (.inl hl) rfl (fun s8 I8=>?_) (.inr hl)
 refine wpAny_mono (hs a pins s8 _ _ _ (I8.wish _) (hE σ a I.len nH)) (fun f s9 q=>?_) fun _ _ z=>False.elim z
 have q:=q.unwish
 show wpAny _ _ _ _ _ _
 cases f with
 |next=>
  obtain⟨σ',H9,I9,q⟩:=q
  exact dk_ (X:=X) (I9.outX I.ok) hN hi hl fun s10 I10=>⟨_,_,I10,q⟩
 |brk=>
  obtain⟨σ',H9,I9,q⟩:=q
  exact dk_ (X:=X) (I9.outX I.ok) hN hi hl fun s10 I10=>⟨_,_,I10,q⟩
 |cont=>
  obtain⟨σ',H9,I9,q⟩:=q
  exact dk_ (X:=X) (I9.outX I.ok) hN hi hl fun s10 I10=>⟨_,_,I10,q⟩
 |ret u=>
  obtain⟨v,σ',H9,I9,r,q⟩:=q
  exact dk_ (X:=X) (I9.outX I.ok) hN hi hl fun s10 I10=>⟨v,_,_,I10,r,q⟩
abbrev Cx.atW(X:Cx)(W:Value->Shared->Prop)(pn:List (Addr × Obj)):Cx:={ X with xe:=W,pn:=pn }
theorem Cx.Ok.atW(ok:X.Ok)(W:Value->Shared->Prop)(pn:List (Addr × Obj)):(X.atW W pn).Ok:=
 ⟨ok.mod,ok.kind,ok.glob,ok.blt,ok.above,ok.inj,ok.has,ok.cab,ok.hd,ok.frames,ok.stk,ok.exf,ok.bs,ok.bsz,ok.noex,ok.exfs,ok.funs,ok.frf⟩
theorem Inv.toAt{pins:List (Addr × Obj)}{σ:St}{H:Hp}{s:Shared}(I:Inv X pins σ H s)(W:Value->Shared->Prop):Inv (X.atW W (X.pn++pins)) [] σ H s:=⟨I.ok.atW W _,I.os,I.bare,I.base,I.loc,I.cell,I.free,I.freeC,fun p hp=>I.pin p (by simpa using hp),I.hok,I.len⟩
theorem Inv.ofAt{pins p2:List (Addr × Obj)}{σ:St}{H:Hp}{s:Shared}{W:Value->Shared->Prop}(ok:X.Ok)(I:Inv (X.atW W (X.pn++pins)) p2 σ H s):Inv X pins σ H s:=⟨ok,I.os,I.bare,I.base,I.loc,I.cell,I.free,I.freeC,fun p hp=>I.pin p (List.mem_append_left _ hp),I.hok,I.len⟩
end
end L2
set_option Elab.async false
set_option linter.all false
set_option maxRecDepth 100000
namespace L2
open PySem PySem.Spec PySem.Calls PyProof.Rows PySem.W
section
variable{P:Program}{w:World}{K:PySem.W.Frag}{mg:Str->Option Value}{base:Heap}{N:List Str}{qual:Str}{scope:Scope}{f:Addr}{cd:Value}{A:Around}{outer:List Env}{s:Shared}{H:Hp}{E:XK}
theorem raises2:Raises (cxOf (CX2 P w) P w K mg base N qual scope f cd A outer s H E) E:=by
 intro pins σ H1 s1 h' e cls vs I hx hE
 have ff:=PySem.W.funFrames_hide (as:=frs (cxOf (CX2 P w) P w K mg base N qual scope f cd A outer s H E).stack) I.stack (fun env he b hb=>List.mem_filterMap.mpr ⟨env,he,hb⟩)
 obtain⟨t,he,_⟩:=hx.there
 refine bM_ (s:={ s1 with heap:=h' }) (base:=PySem.W.hideAll s1.heap (frs (cxOf (CX2 P w) P w K mg base N qual scope f cd A outer s H E).stack)) (dd:=none) I.ok.frames rfl (fun b o q=>hx.keeps _ _ (PySem.W.of_hideAll _ q)) (Heap.FunFrames.of_keeps (fun b o q _=>⟨o,hx.keeps _ _ q,rfl⟩) ff) ?_ he rfl rfl rfl rfl rfl fun h1 fl up=>?_
 ·cases q:(PySem.W.hideAll s1.heap (frs (cxOf (CX2 P w) P w K mg base N qual scope f cd A outer s H E).stack)).get? e with
  |none=>rfl
  |some o=>
   have:=PySem.W.of_hideAll _ q
   rw[hx.new] at this
   cases this
 ·exact c4_ (s1:={ s1 with heap:=h1 }) I rfl rfl I.bare Un.refl I.hok (fun b o q hb _=>PySem.W.hideAll_get _ q hb) ff ((Heap.UpToSlots.of_keeps hx.keeps).trans up) fl hE
theorem Fun.okG{x qual:Str}{st:Stmt}{f:Addr}{fd:FuncData}{N ps:List Str}{k:Nat}{sp:Sp}(F:Fun K x qual st f fd)(S:FnScope N ps (defScope st))(len:∀vs H Q E,sp vs H Q E->vs.length=ps.length)
  (hbody:∀(cdv:Value) (A:Around) (outer:List Env) (s:Shared) (H:Hp) (vs:List V) (Q:VK) (E:XK),Room k (A.deeper (envOfC qual (defScope st) s.heap.objs.size f cdv))->sp vs H Q E->
   Passes (CX2 P w) (cxOf (CX2 P w) P w K mg base N qual (defScope st) f cdv A outer s H E) E->RaisesO (cxOf (CX2 P w) P w K mg base N qual (defScope st) f cdv A outer s H E) E->Raises (cxOf (CX2 P w) P w K mg base N qual (defScope st) f cdv A outer s H E) E->
   ∃t,PSs (cxOf (CX2 P w) P w K mg base N qual (defScope st) f cdv A outer s H E) (defBody st) t/\t { nx:=fun _ H'=>Q .non H',rt:=Q } (start N vs) H):FnOk P w K mg base (CX2 P w) (k+1) f fd ps sp:=by
 obtain⟨oc,od,kV,doc,pm,an,cdv,ct,osl,rfl,lk,hcd⟩:=F.ex
 refine hr_ lk hcd S len fun A outer s H vs Q E hr hsp=>?_
 obtain⟨t,h,q⟩:=hbody cdv A outer s H vs Q E hr hsp passes2 raisesO raises2
 exact⟨t,h,q⟩
end
section
variable{X:Cx}{i:Nat}{x x2 n:Str}{D C D2 C2:Addr}{np hpos np2 hpos2 pos:Pos}{b₀ c₀:Stmt}{suite suite2 body:List Stmt}{tb:XK->TS}{ts ts2:TS}
end
section
variable{X:Cx}
def rIsiQ(K:PySem.W.Frag):List V->Hp->VK->Prop:=fun xs H Q=>∃a C dd c cv b,xs=[.ref a,c]/\clsV c=some cv/\H a=some (exq a C dd)/\ExcK K C/\PySem.W.kitOne K (.ref C) cv=some b/\Q (.bl b) H
theorem bt_:CallR X (.builtin "isinstance") (rIsiQ X.K):=by
 intro pins s σ H xs us Q I r h
 obtain⟨a,C,dd,c,cv,b,rfl,hc,ha,k,e,q⟩:=h
 obtain⟨u,w',rfl,ru,rw'⟩:=vals2 r
 cases (show u=Value.ref a from ru)
 cases hC_ rw' hc
 obtain⟨o,vs,h1,h2,_⟩:=(I.hok a _ ha).1
 exact PySem.W.kia_one (hd_ k) I.kIn ⟨o,h1,h2⟩ e (fun z=>nomatch z) fun tk=>⟨.bl b,H,I.tok tk,rfl,q⟩
end
end L2
set_option Elab.async false
set_option linter.all false
set_option maxRecDepth 100000
namespace L2
open PySem PySem.Spec PySem.Calls PyProof.Rows PySem.W
section
variable{X:Cx}{i:Nat}{x n:Str}{D:Addr}{ok:Addr->Prop}{np hpos pos:Pos}{b₀:Stmt}{suite body:List Stmt}{tb:XK->TS}{ts:TS}
def XEF(X:Cx)(i:Nat)(ok:Addr->Prop)(ts:TS)(R:Ends):XK:=fun cls dd H'=>∃C,ok C/\XE X i C ts R cls dd H'
def tTry2F(X:Cx)(i:Nat)(ok:Addr->Prop)(tb:XK->TS)(ts:TS):TS:=fun D σ H=>tb (XEF X i ok ts D) D σ H
theorem h3_(hN:X.N.Nodup)(hi:X.N[i]? = some n)(hl:X.env.scope.names.lookup n=some .local)(hst:X.stack=X.env::X.outer)(hfr:X.env.frame=some X.env.locals)
  (hg:Gl X x) (hm:X.mg x=some (.ref D)) (hx:∀C,ok C->PySem.W.exmOne X.K (.ref C) (.ref D)=some true) (hb:∀(E:XK) (W:Value->Shared->Prop) (pn:List (Addr × Obj)),Passes (CX2 X.prog X.w) (X.atW W pn) E->PSs (X.atW W pn) body (tb E)) (hs:∀a,PSs (X.inX a).nox (b₀::suite) ts) (hd:(x == ("__debug__":Str))=false:=by decide) :
  PS X (.Try body [.ExceptHandler (some (.Name x np)) (some n) (b₀::suite) hpos] [] [] pos) (tTry2F X i ok tb ts):=by
 intro pins s σ H R I h
 have hb':=hb (XEF X i ok ts R) (fun e s'=>∃σ H s,Inv X pins σ H s/\CX2 X.prog X.w X.stack H s (XEF X i ok ts R) e s') (X.pn++pins) (fun p2 σ2 H2 s2 e s' I2 hc=>⟨σ2,H2,s2,I2.ofAt I.ok,hc⟩)
 refine wpAny_Try_except (wpAny_mono (hb' [] s σ H R (I.toAt _) h) (fun f s1 q=>?_) fun e s1 ⟨σ',H',s0,I0,hc⟩=>?_)
 ·cases f with
  |next=>
   obtain⟨σ',H',I',q⟩:=q
   exact wpAny_execs_nil ⟨σ',H',I'.ofAt I.ok,q⟩
  |ret v=>
   obtain⟨v',σ',H',I',r,q⟩:=q
   exact⟨v',σ',H',I'.ofAt I.ok,r,q⟩
  |brk=>
   obtain⟨σ',H',I',q⟩:=q
   exact⟨σ',H',I'.ofAt I.ok,q⟩
  |cont=>
   obtain⟨σ',H',I',q⟩:=q
   exact⟨σ',H',I'.ofAt I.ok,q⟩
 ·obtain⟨a,cls,H2,B,a0,dd,h1,h2,h3,h4,h5,h6,h7,C,okC,hE⟩:=hc
  exact f1_ hN hi hl hst hfr hg hm (hx C okC) hs I0 ⟨a,cls,H2,B,a0,dd,h1,h2,h3,h4,h5,h6,h7,hE⟩ hd
end
end L2
set_option Elab.async false
set_option linter.all false
set_option maxRecDepth 100000
namespace L2
open PySem PySem.Spec PySem.Calls PyProof.Rows PySem.W
theorem FnOk.toX2{P:Program}{w:World}{K:PySem.W.Frag}{mg:Str->Option Value}{base:Heap}{k:Nat}{f:Addr}{fd:FuncData}{ps:List Str}{sp:Sp}(F:FnOk P w K mg base (CX1 P w) k f fd ps sp):FnOk P w K mg base (CX2 P w) k f fd ps (fun vs H Q E=>sp vs H Q (fun cls _ H'=>∀dd,E cls dd H')):=by
 refine⟨fun vs H Q E h=>F.len vs H Q _ h,fun A outer s H args us vs Q E h1 h2 h3 h4 h=>codeAny_mono (F.run A outer s H args us vs Q _ h1 h2 h3 h4 h) fun r s' q=>?_⟩
 cases r with
 |ok fl=>cases fl<;>exact q
 |error e=>
  obtain⟨a,cls,H',B,a0,e1,os,bare,un,hok,fl,i,hE⟩:=q
  obtain⟨f1,f2,f3,oe,vs',T,oT,ts,g1,g2,g3,g4,g5,g6,g7,g8,g9⟩:=fl
  exact⟨a,cls,H',B,a0,oe.dict,e1,os,bare,un,hok,⟨f1,f2,f3,oe,vs',T,oT,ts,g1,g2,g3,g4,g5,g6,g7,g8,g9,rfl⟩,i,hE _⟩
end L2
set_option Elab.async false
set_option linter.all false
set_option maxRecDepth 100000
namespace L2
open PySem PySem.Spec PyProof.Rows
section
variable{X:Cx}
end
section
variable{X:Cx}{k:Nat}{ps:List Str}{x:Str}{p pos:Pos}{e:Expr}{es:List Expr}{tn:TE}{t:TA}
end
end L2
set_option Elab.async false
set_option linter.all false
set_option maxRecDepth 100000
namespace L2
open PySem PySem.Spec PyProof.Rows PySem.W
structure LamScope (ps fvs:List Str) (scope:Scope):Prop where
 nd:(ps++fvs).Nodup
 kind:scope.kind=.function
 co:scope.isCoroutine=false
 gen:scope.isGenerator=false
 par:∀p∈ps,scope.names.lookup p=some .local
 fv:∀x∈fvs,scope.names.lookup x=some .free
 all:∀x,scope.names.lookup x=some .free->x∈fvs
 nocell:∀x∈scope.names,x.2≠.cell
def cxLam(CX:CXT)(P:Program)(w:World)(K:PySem.W.Frag)(mg:Str->Option Value)(base:Heap)(N:List Str)(qual:Str)(scope:Scope)(f:Addr)(cd:Value)(cl:List (Str × Addr))(A:Around)(outer:List Env)(s:Shared)(H:Hp)(E:XK):Cx where
 prog:=P
 w:=w
 K:=K
 mg:=mg
 base:=base
 A:=A.deeper (envX qual scope s.heap.objs.size f cd cl)
 N:=N
 s₀:=s
 H₀:=H
 env:=envX qual scope s.heap.objs.size f cd cl
 outer:=outer
 stack:=envX qual scope s.heap.objs.size f cd cl::outer
 ex:=[]
 calm:=true
 fn:=fun _=>false
 pn:=[]
 xe:=fun e s'=>wpAny (model P w) (A.deeper (envX qual scope s.heap.objs.size f cd cl)) (leaving (envX qual scope s.heap.objs.size f cd cl) e) (fun _ s''=>CX outer H s E e s'') (fun e' s''=>CX outer H s E e' s'') s'
theorem dP_{x:Str}{u:Value}:∀{l:List (Str × Value)},(l.map (·.1)).Nodup->(x,u)∈l->l.lookup x=some u
 |(y,v)::l,nd,h=>by
  have n:=List.nodup_cons.mp nd
  rcases List.mem_cons.mp h with e|h
  ·cases e
   simp[List.lookup]
  ·have ne:x≠y:=fun z=>n.1 (by rw[<- z];exact List.mem_map.mpr ⟨_,h,rfl⟩)
   have:(x == y)=false:=by simpa using ne
   rw[List.lookup_cons,this]
   exact dP_ n.2 h
theorem g9_:∀(ps:List Str) (us:List Value),((ps.zip us).map (·.1)).Sublist ps
 |[],_=>by simp
 |_::_,[]=>by simp
 |p::ps,u::us=>by
  simp only[List.zip_cons_cons,List.map_cons]
  exact (g9_ ps us).cons₂ p
theorem cJ_{ps:List Str}{us:List Value}{i:Nat}{x:Str}{u:Value}(nd:ps.Nodup)(h1:ps[i]? = some x)(h2:us[i]? = some u):(ps.zip us).reverse.lookup x=some u:=by
 refine dP_ ?_ (List.mem_reverse.mpr (List.mem_of_getElem? (i:=i) ?_))
 ·rw[List.map_reverse]
  refine (List.reverse_perm _).nodup_iff.mpr (nd.sublist ?_)
  exact g9_ ps us
 ·rw[List.getElem?_zip_eq_some]
  exact⟨h1,h2⟩
structure CellsAre (fvs:List Str) (cl:List (Str × Addr)) (gs:List V) (h:Heap):Prop where
 inj:∀x y c,cl.lookup x=some c->cl.lookup y=some c->x=y
 has:∀x∈fvs,∃c,cl.lookup x=some c
 all:∀x c,cl.lookup x=some c->∃v,h.IsCell c v
 is:∀(i:Nat) x v,fvs[i]? = some x->gs[i]? = some v->∃c u,cl.lookup x=some c/\RelV v u/\h.IsCell c (some u)
theorem IsCell.keeps{h h':Heap}{c:Addr}{v:Option Value}(x:h.IsCell c v)(k:∀o,h.get? c=some o->h'.get? c=some o):h'.IsCell c v:=let ⟨o,e,d⟩:=x;⟨o,k o e,d⟩
theorem iQ_{CX:CXT}{P:Program}{w:World}{K:PySem.W.Frag}{mg:Str->Option Value}{base:Heap}{ps fvs:List Str}{qual:Str}{scope:Scope}{f:Addr}{cd:Value}{cl:List (Str × Addr)}{A:Around}{outer:List Env}{s:Shared}{H:Hp}{E:XK}{us:List Value}{vs gs:List V}{h1:Heap}{tk:Nat}
  (S:LamScope ps fvs scope) (hd:A.handled=none) (e0:Env0 P w K mg base A outer s H) (hl:vs.length=ps.length) (hg:gs.length=fvs.length) (r:Vals vs us) (C:CellsAre fvs cl gs s.heap) (fc:∀x c,cl.lookup x=some c->H c=none)
  (ns:h1.Ns s.heap.objs.size fun x=>(ps.zip us).reverse.lookup x) (k:∀b o,s.heap.get? b=some o->h1.get? b=some o) :
  Inv (cxLam CX P w K mg base (ps++fvs) qual scope f cd cl A outer s H E) [] (vs.map some++gs.map some) H { s with heap:=h1,toks:=tk }:=by
 have noA:∀b:Addr,b∉(cxLam CX P w K mg base (ps++fvs) qual scope f cd cl A outer s H E).ex:=fun b z=>absurd (show b∈([]:List Addr) from z) (by simp)
 refine⟨⟨e0.mod,S.kind,rfl,rfl,Nat.le_refl _,C.inj,fun y hy=>?_,fun y c h=>(by cases h),fun _=>hd,Around.frames_deeper e0.frames,.inr ⟨rfl,rfl⟩,fun b z=>absurd z (noA b),e0.bs,e0.bsz,fun b _ _=>noA b,fun b z=>absurd z (noA b),e0.funs,e0.frf⟩,
  rfl,e0.bare,Un.kept k,⟨_,ns,fun i y v h1' h2 h3=>?_⟩,fun y c h=>?_,e0.hok.fresh (Nat.le_refl _),fc,fun p hp=>absurd (show p∈([]:List (Addr × Obj)) from hp) (by simp),e0.hok.kept k,?_⟩
 ·have hy:scope.names.lookup y=some .cell∨scope.names.lookup y=some .free:=hy
  rcases hy with hy|hy
  ·exact absurd rfl (S.nocell _ (PySem.mem_of_lookup hy))
  ·exact C.has y (S.all y hy)
 ·have h1':(ps++fvs)[i]? = some y:=h1'
  by_cases hi:i<ps.length
  ·rw[List.getElem?_append_left hi] at h1'
   rw[List.getElem?_append_left (by simpa [hl] using hi),List.getElem?_map] at h2
   obtain⟨v',hv,e⟩:=Option.map_eq_some_iff.mp h2
   cases e
   obtain⟨u,hu,rv⟩:=r.get hv
   refine⟨u,rv,.inl ⟨S.par y (List.mem_of_getElem? h1'),?_⟩⟩
   have ndP:ps.Nodup:=(List.nodup_append.mp S.nd).1
   show (ps.zip us).reverse.lookup y=some u
   exact cJ_ ndP h1' hu
  ·rw[List.getElem?_append_right (by omega)] at h1'
   rw[List.getElem?_append_right (by simp[hl];omega),List.getElem?_map,List.length_map,hl] at h2
   obtain⟨v',hv,e⟩:=Option.map_eq_some_iff.mp h2
   cases e
   obtain⟨c,u,e1,rv,ce⟩:=C.is _ _ _ h1' hv
   exact⟨u,rv,.inr ⟨.inr (S.fv y (List.mem_of_getElem? h1')),c,e1,IsCell.keeps ce fun o e=>k _ _ e⟩⟩
 ·obtain⟨v,ce⟩:=C.all y c h
  exact⟨v,IsCell.keeps ce fun o e=>k _ _ e⟩
 ·show _=(ps++fvs).length
  rw[List.length_append,List.length_append,List.length_map,List.length_map,hl,hg]
theorem jf_{CX:CXT}{P:Program}{w:World}{K:PySem.W.Frag}{mg:Str->Option Value}{base:Heap}{k:Nat}{ps fvs:List Str}{qual:Str}{params:Arguments}{body:PySem.Expr}{scope:Scope}{f c':Addr}{pm ctv:Value}{cl:List (Str × Addr)}{A:Around}{outer:List Env}{s:Shared}{H:Hp}{Q:VK}{E:XK}{us:List Value}{vs gs:List V}{t:TE}
  (S:LamScope ps fvs scope) (hr:Room (k+1) A) (e0:Env0 P w K mg base A outer s H) (hf:s.heap.get? f=some (kla_obj "<lambda>" qual params body scope cl pm c' ctv)) (hcd:s.heap.CodeRec (.ref c') qual)
  (hb:bindArgs (kla_fn "<lambda>" qual params body scope cl pm (.ref c') ctv) ⟨us,[]⟩=pure (ps.zip us)) (hl:vs.length=ps.length) (hg:gs.length=fvs.length) (r:Vals vs us) (C:CellsAre fvs cl gs s.heap) (fc:∀x c,cl.lookup x=some c->H c=none)
  (ht:Room k (A.deeper (envX qual scope s.heap.objs.size f (.ref c') cl))->PE (cxLam CX P w K mg base (ps++fvs) qual scope f (.ref c') cl A outer s H E) body t) (hq:t (vs.map some++gs.map some) H Q) :
  codeAny (model P w) A (.call (.ref f) ⟨us,[]⟩) (CR CX outer P w H s Q E) s:=by
 have lim:s.heap.NoLimit:=e0.mod.nolimit.keeps fun b o e=>(e0.bs b o e).1
 refine kla_callFunE hr.depth hf rfl S.co S.gen rfl hcd ?_
 rw[hb]
 refine wpAny_pure (wpAny_newFunctionEnv S.nocell (fun x hx=>?_) (fun h1 ns sb=>?_) S.kind)
 ·exact S.par x.1 (List.of_mem_zip hx).1
 have k1:∀b o,s.heap.get? b=some o->h1.get? b=some o:=fun b o e=>sb.extBut b o (Nat.ne_of_lt (Heap.lt_size e)) (Heap.get?_push_of_some _ e)
 refine⟨lim.keeps k1,?_⟩
 show codeAny _ _ (.expr body (envX qual scope s.heap.objs.size f (.ref c') cl)) _ _
 have I:=iQ_ (CX:=CX) (qual:=qual) (f:=f) (cd:=.ref c') (E:=E) (tk:=s.toks+(ps.zip us).length) S hr.hd e0 hl hg r C fc ns k1
 refine kla_codeExpr (wpAny_mono (ht (hr.deeper _) [] _ _ H _ I hq) (fun v s' hs=>?_) fun e s' hs=>hs)
 obtain⟨x,H',J,rv,q⟩:=hs
 exact⟨x,H',J.os,J.bare,J.base,J.hok,rv,q⟩
end L2
set_option Elab.async false
set_option linter.all false
set_option maxRecDepth 100000
namespace L2
open PySem PySem.Spec PyProof.Rows PySem.W
def lamH(f:Addr)(qual:Str)(params:Arguments)(body:PySem.Expr)(scope:Scope)(cl:List (Str × Addr))(c':Addr):HO:=.ext fun h=>∃pm ctv,h.get? f=some (kla_obj "<lambda>" qual params body scope cl pm c' ctv)
def codeH(c':Addr)(qual:Str):HO:=.ext fun h=>∃o vs t,h.get? c'=some o/\o.data=.fields vs/\vs[1]? = some (.str qual t)
def tLam(P:Addr)(qual:Str)(params:Arguments)(body:PySem.Expr)(scope:Scope)(pos:Pos)(cl:List (Str × Addr)):TE:=fun _ H Q=>∃ps,H P=some (.tbl ps)/\TriplesOk ps.toList /\
 ((codeAmong pos ps.toList=none/\∀c' f,H c'=none->H f=none->c'≠f->Q (.ref f) (upd (upd (upd H P (.tbl (ps++#[rawInt pos.line,rawInt pos.col,.ref c']))) c' (codeH c' qual)) f (lamH f qual params body scope cl c'))) ∨
  ∃c',codeAmong pos ps.toList=some (.ref c')/\∀f,H f=none->Q (.ref f) (upd H f (lamH f qual params body scope cl c')))
theorem gz_{X:Cx}{params:Arguments}{body:PySem.Expr}{scope:Scope}{pos:Pos}{cl:List (Str × Addr)}{c P:Addr}(hdef:defaultsOf params X.env=([],[]))(hcl:closureFor scope X.env=pure cl)(hcode:X.env.code=.ref c)(C:CodeHd X.base c P)(hbm:X.base.BuiltinsAt X.mg P) :
  PE X (.Lambda params body scope pos) (tLam P (X.env.qual++"<lambda>") params body scope pos cl):=by
 intro pins s σ H Q I h
 obtain⟨ps,hP,ht,h⟩:=h
 have hPh:s.heap.get? P=some (tabObj ps):=I.hok P _ hP
 have hgl:H mainGlobals=none:=by
  obtain⟨o,_,_,e,_⟩:=I.mod.glob
  exact (I.bs _ _ e).2
 refine kla_eval hdef ?_
 rcases h with⟨hn,q⟩|⟨c',hf,q⟩
 ·refine kla_makeFunction hcl I.ok.glob (I.mod.glob.keeps I.bk) hcode (C.keeps I.bk) hPh ht hn (fun z=>by rw[z,hP] at hgl;cases hgl) (hbm.keeps I.bk) fun c' ctv h' tk hx hge hlt hrec htb=>?_
  have fz:s.heap.objs.size<=h'.objs.size:=Nat.le_trans hge (Nat.le_of_lt hlt)
  have nc:H c'=none:=I.hok.fresh hge
  have nf:H h'.objs.size=none:=I.hok.fresh fz
  have cf:c'≠h'.objs.size:=Nat.ne_of_lt hlt
  have Pc:P≠c':=a7_ hP nc
  have Pf:P≠h'.objs.size:=a7_ hP nf
  have old:∀{b u},H b=some u->b≠P->upd (upd (upd H P (.tbl (ps++#[rawInt pos.line,rawInt pos.col,.ref c']))) c' (codeH c' (X.env.qual++"<lambda>"))) h'.objs.size (lamH h'.objs.size (X.env.qual++"<lambda>") params body scope cl c') b=some u:=fun {b u} e n=>by
   rw[a5_ (a7_ e nf),a5_ (a7_ e nc),a5_ n]
   exact e
  have notT:∀{b u},H b=some u->(∀ps,u≠.tbl ps)->b≠P:=fun {b u} e n z=>by
   rw[z,hP] at e
   cases e
   exact n _ rfl
  have kp:∀b o,b≠P->s.heap.get? b=some o->(h'.push (kla_obj "<lambda>" (X.env.qual++"<lambda>") params body scope cl ((X.mg "__name__").getD .none) c' ctv)).get? b=some o:=fun b o n e=>Heap.get?_push_of_some _ (hx b o n e)
  refine⟨.ref h'.objs.size,_,I.un (t':=tk) ⟨fun b o e n _ _=>kp b o (fun z=>by rw[z,hP] at n;cases n) e,fun b o e n _ _=>⟨o.slots,kp b o (fun z=>by rw[z,hP] at n;cases n) e⟩,fun b o e n _=>?_,fun b o e _=>?_,fun b xs e=>old e (notT e (by simp)),fun b o u e=>old e (notT e (by simp)),fun b qs e=>?_⟩ (fun b u e=>?_),rfl,q c' h'.objs.size nc nf cf⟩
  ·have lt:=Heap.lt_size e
   rw[a5_ (Nat.ne_of_lt (Nat.lt_of_lt_of_le lt fz)),a5_ (Nat.ne_of_lt (Nat.lt_of_lt_of_le lt hge)),a5_ (fun z=>by rw[z,hP] at n;cases n)]
   exact n
  ·by_cases z:b=P
   ·subst z
    exact⟨_,Heap.get?_push_of_some _ htb⟩
   ·exact⟨o,kp b o z e⟩
  ·by_cases z:b=P
   ·subst z
    rw[hP] at e
    cases e
    exact⟨_,by rw[a5_ Pf,a5_ Pc,a1_]⟩
   ·exact⟨#[],by rw[Array.append_empty];exact old e z⟩
  ·by_cases z1:b=h'.objs.size
   ·subst z1
    rw[a1_] at e
    cases e
    exact⟨⟨_,_,Heap.get?_push_size _ rfl⟩,⟨_,Heap.get?_push_size _ rfl⟩,fun h1 h2 ⟨pm,cv,e1⟩ k=>⟨pm,cv,k _ e1⟩⟩
   ·rw[a5_ z1] at e
    by_cases z2:b=c'
    ·subst z2
     rw[a1_] at e
     cases e
     obtain⟨c2,oc,vs,t,ec,hoc,hd,hv⟩:=hrec
     cases ec
     exact⟨⟨oc,vs,t,Heap.get?_push_of_some _ hoc,hd,hv⟩,⟨_,Heap.get?_push_of_some _ hoc⟩,fun h1 h2 ⟨o,vs,t,e1,r⟩ k=>⟨o,vs,t,k _ e1,r⟩⟩
    ·rw[a5_ z2] at e
     by_cases z3:b=P
     ·subst z3
      rw[a1_] at e
      cases e
      exact Heap.get?_push_of_some _ htb
     ·rw[a5_ z3] at e
      refine (I.hok b u e).stay (fun d v hd e1=>kp d v ?_ e1) (fun d e1=>old e1 (notT e1 (by simp))) fun d xs e1=>old e1 (notT e1 (by simp))
      rcases hd with rfl|hd
      ·exact z3
      ·exact notT hd (by simp)
 ·refine kla_makeFunctionHit hcl I.ok.glob (I.mod.glob.keeps I.bk) hcode (C.keeps I.bk) hPh ht hf (hbm.keeps I.bk) fun ctv h' tk hk hsz=>?_
  have nf:H h'.objs.size=none:=I.hok.fresh hsz
  refine⟨.ref h'.objs.size,_,I.laid (t':=tk) (fun b o e=>Heap.get?_push_of_some _ (hk b o e)) hsz ?_,rfl,q _ nf⟩
  exact⟨⟨_,_,Heap.get?_push_size _ rfl⟩,⟨_,Heap.get?_push_size _ rfl⟩,fun h1 h2 ⟨pm,cv,e1⟩ k=>⟨pm,cv,k _ e1⟩⟩
end L2
set_option Elab.async false
set_option linter.all false
set_option maxRecDepth 100000
namespace L2
open PySem PySem.Spec PyProof.Rows PySem.W
theorem passesL{P:Program}{w:World}{K:PySem.W.Frag}{mg:Str->Option Value}{base:Heap}{N:List Str}{qual:Str}{scope:Scope}{f:Addr}{cd:Value}{cl:List (Str × Addr)}{A:Around}{outer:List Env}{s:Shared}{H:Hp}{E:XK}:Passes (CX2 P w) (cxLam (CX2 P w) P w K mg base N qual scope f cd cl A outer s H E) E:=by
 intro pins σ H1 s1 e s' I hc
 obtain⟨a,cls,H',B,a0,dd,rfl,os,bare,un,hok,fl,i,hE⟩:=hc
 refine d3_ (base:=B) I.ok.frames rfl fl fun h1 fl1 up=>?_
 exact c4_ (s1:={ s' with heap:=h1 }) I rfl os bare un hok i fl.2.2.1 up fl1 hE
def cellX(c:Addr)(o:Obj):HO:=.ext fun h=>h.get? c=some o
def lend(cs:List (Addr × Obj))(H:Hp):Hp:=fun b=>match cs.lookup b with
 |some o=>some (cellX b o)
 |none=>H b
def unl(cs:List (Addr × Obj))(H:Hp):Hp:=fun b=>match cs.lookup b with
 |some _=>none
 |none=>H b
section
variable{cs:List (Addr × Obj)}{H H':Hp}{b:Addr}{o:Obj}{u:HO}
theorem cq_(h:cs.lookup b=some o):lend cs H b=some (cellX b o):=by unfold lend;rw[h]
theorem ao_(h:cs.lookup b=none):lend cs H b=H b:=by unfold lend;rw[h]
theorem cB_(h:cs.lookup b=some o):unl cs H b=none:=by unfold unl;rw[h]
theorem aH_(h:cs.lookup b=none):unl cs H b=H b:=by unfold unl;rw[h]
theorem cp_(n:∀c o,cs.lookup c=some o->H c=none)(e:H b=some u):cs.lookup b=none:=by
 cases q:cs.lookup b with
 |none=>rfl
 |some o=>
  rw[n b o q] at e
  cases e
theorem eU_(n:∀c o,cs.lookup c=some o->H c=none):unl cs (lend cs H)=H:=funext fun b=>by
 cases q:cs.lookup b with
 |none=>rw[aH_ q,ao_ q]
 |some o=>rw[cB_ q,n b o q]
variable{P:Program}{w:World}{h:Heap}
theorem eN_(ok:HOk P w H h)(n:∀c o,cs.lookup c=some o->H c=none)(at_:∀c o,cs.lookup c=some o->h.get? c=some o):HOk P w (lend cs H) h:=fun b u e=>by
 have old:∀{d v},H d=some v->lend cs H d=some v:=fun e=>by rw[ao_ (cp_ n e)];exact e
 cases q:cs.lookup b with
 |some o=>
  rw[cq_ q] at e
  cases e
  exact⟨at_ b o q,⟨_,at_ b o q⟩,fun h1 h2 e k=>k _ e⟩
 |none=>
  rw[ao_ q] at e
  exact (ok b u e).stay (fun c v _ z=>z) (fun c z=>old z) fun c xs z=>old z
theorem fZ_(ok:HOk P w H h)(n:∀c o,cs.lookup c=some o->H c=some (cellX c o)):HOk P w (unl cs H) h:=fun b u e=>by
 have nin:∀{d v},H d=some v->(∀φ,v≠.ext φ)->unl cs H d=some v:=fun {d v} e ne=>by
  cases q:cs.lookup d with
  |none=>rw[aH_ q];exact e
  |some o=>
   rw[n d o q] at e
   cases e
   exact absurd rfl (ne _)
 cases q:cs.lookup b with
 |some o=>
  rw[cB_ q] at e
  cases e
 |none=>
  rw[aH_ q] at e
  exact (ok b u e).stay (fun c v _ z=>z) (fun c z=>nin z (by simp)) fun c xs z=>nin z (by simp)
end
section
variable{X:Cx}{pins:List (Addr × Obj)}{σ:St}{H:Hp}{s s':Shared}{cs:List (Addr × Obj)}
def OwnCells(X:Cx)(s:Shared)(cs:List (Addr × Obj)):Prop:=∀c o,cs.lookup c=some o->(∃x,X.env.cells.lookup x=some c/\X.fn x=true)/\s.heap.get? c=some o
theorem OwnCells.none'(O:OwnCells X s cs)(I:Inv X pins σ H s):∀c o,cs.lookup c=some o->H c=none:=fun c o e=>by
 obtain⟨⟨x,hx,_⟩,_⟩:=O c o e
 exact I.freeC x c hx
theorem OwnCells.nofr(O:OwnCells X s cs)(I:Inv X pins σ H s):∀b∈frs X.stack,cs.lookup b=none:=fun b hb=>by
 cases q:cs.lookup b with
 |none=>rfl
 |some o=>
  exfalso
  obtain⟨⟨x,hx,hf⟩,_⟩:=O b o q
  rcases List.mem_cons.mp (I.stkSub b hb) with z|z
  ·exact I.cne x b hx z
  ·obtain⟨_,o',ho',_⟩:=I.ok.funs.mem z
   exact absurd (Heap.lt_size ho') (Nat.not_lt.mpr (I.ok.cab x b hf hx))
theorem Inv.lendEnv(I:Inv X pins σ H s)(O:OwnCells X s cs):Env0 X.prog X.w X.K X.mg X.base X.A X.stack s (lend cs H):=by
 have e0:=I.env0
 refine⟨e0.frames,e0.mod,fun b o e=>⟨(e0.bs b o e).1,?_⟩,e0.bsz,e0.funs,fun b hb=>?_,eN_ I.hok (O.none' I) fun c o e=>(O c o e).2,e0.bare⟩
 ·cases q:cs.lookup b with
  |none=>rw[ao_ q];exact (e0.bs b o e).2
  |some o'=>
   exfalso
   obtain⟨⟨x,hx,hf⟩,_⟩:=O b o' q
   exact absurd (Heap.lt_size e) (Nat.not_lt.mpr (Nat.le_trans I.ok.bsz (I.ok.cab x b hf hx)))
 ·rw[ao_ (O.nofr I b hb)]
  exact e0.frf b hb
theorem Inv.lendBack{Q:VK}{u:Value}(I:Inv X pins σ H s)(O:OwnCells X s cs)(h:CE X.stack X.prog X.w (lend cs H) s (fun v H2=>(∀c o,cs.lookup c=some o->H2 c=some (cellX c o))/\Q v (unl cs H2)) u s'):EP X pins σ Q u s':=by
 obtain⟨v,H',os,bare,un,hok,r,hc,q⟩:=h
 have n:=O.none' I
 refine I.after ⟨v,unl cs H',os,bare,⟨fun b o e hb hf hx=>?_,fun b o e hb hf hx=>?_,fun b o e hb hx=>?_,un.there,fun b xs e=>?_,fun b o u e=>?_,fun b ps e=>?_⟩,fZ_ hok hc,r,q⟩
 ·cases q:cs.lookup b with
  |none=>exact un.keep b o e (by rw[ao_ q];exact hb) hf hx
  |some o'=>
   obtain⟨_,e2⟩:=O b o' q
   rw[e] at e2
   cases e2
   exact (hok b _ (hc b o q)).1
 ·exact un.slot b o e (by rw[ao_ (O.nofr I b hf)];exact hb) hf hx
 ·cases q:cs.lookup b with
  |none=>rw[aH_ q];exact un.free b o e (by rw[ao_ q];exact hb) hx
  |some o'=>exact cB_ q
 ·have q:=cp_ n e
  rw[aH_ q]
  exact un.tups b xs (by rw[ao_ q];exact e)
 ·have q:=cp_ n e
  rw[aH_ q]
  exact un.frzs b o u (by rw[ao_ q];exact e)
 ·have q:=cp_ n e
  rw[aH_ q]
  exact un.tbls b ps (by rw[ao_ q];exact e)
def Lent(H:Hp)(cs:List (Addr × Obj)):Prop:=∀c o,cs.lookup c=some o->H c=some (cellX c o)
theorem Lent.nofr(L:Lent H cs)(I:Inv X pins σ H s):∀b∈frs X.stack,cs.lookup b=none:=fun b hb=>by
 cases q:cs.lookup b with
 |none=>rfl
 |some o=>
  have:=I.stkFree b hb
  rw[L b o q] at this
  cases this
theorem Inv.unlEnv(I:Inv X pins σ H s)(L:Lent H cs):Env0 X.prog X.w X.K X.mg X.base X.A X.stack s (unl cs H):=by
 have e0:=I.env0
 have un:∀b,H b=none->unl cs H b=none:=fun b e=>by
  cases q:cs.lookup b with
  |none=>rw[aH_ q];exact e
  |some o=>exact cB_ q
 exact⟨e0.frames,e0.mod,fun b o e=>⟨(e0.bs b o e).1,un b (e0.bs b o e).2⟩,e0.bsz,e0.funs,fun b hb=>un b (e0.frf b hb),fZ_ I.hok L,e0.bare⟩
def NoCs(cs:List (Addr × Obj))(H:Hp):Prop:=∀c o,cs.lookup c=some o->H c=none
theorem i4_{H':Hp}(I:Inv X pins σ H s)(L:Lent H cs)(un:Un (frs X.stack) [] (unl cs H) H' s.heap s'.heap)(hok:HOk X.prog X.w H' s'.heap):Un (frs X.stack) [] H (lend cs H') s.heap s'.heap/\HOk X.prog X.w (lend cs H') s'.heap/\NoCs cs H':=by
 have hin:∀{b},H b=none->cs.lookup b=none:=fun {b} e=>by
  cases q:cs.lookup b with
  |none=>rfl
  |some o=>rw[L b o q] at e;cases e
 have nin:∀{d v},H d=some v->(∀φ,v≠.ext φ)->cs.lookup d=none:=fun {d v} e ne=>by
  cases q:cs.lookup d with
  |none=>rfl
  |some o=>
   rw[L d o q] at e
   cases e
   exact absurd rfl (ne _)
 have nof:∀{b},b∈frs X.stack->cs.lookup b=none:=fun hb=>L.nofr I _ hb
 have at_:∀c o,cs.lookup c=some o->s'.heap.get? c=some o:=fun c o q=>by
  have e:s.heap.get? c=some o:=(I.hok c _ (L c o q)).1
  exact un.keep c o e (cB_ q) (fun z=>by rw[nof z] at q;cases q) (by simp)
 have nn:∀c o,cs.lookup c=some o->H' c=none:=fun c o q=>by
  have e:s.heap.get? c=some o:=(I.hok c _ (L c o q)).1
  exact un.free c o e (cB_ q) (by simp)
 refine⟨⟨fun b o e hb hf hx=>un.keep b o e (by rw[aH_ (hin hb)];exact hb) hf hx,fun b o e hb hf hx=>un.slot b o e (by rw[aH_ (hin hb)];exact hb) hf hx,fun b o e hb hx=>?_,un.there,fun b xs e=>?_,fun b o u e=>?_,fun b ps e=>?_⟩,eN_ hok nn at_,nn⟩
 ·rw[ao_ (hin hb)]
  exact un.free b o e (by rw[aH_ (hin hb)];exact hb) hx
 ·have q:=nin e (by simp)
  rw[ao_ q]
  exact un.tups b xs (by rw[aH_ q];exact e)
 ·have q:=nin e (by simp)
  rw[ao_ q]
  exact un.frzs b o u (by rw[aH_ q];exact e)
 ·have q:=nin e (by simp)
  rw[ao_ q]
  exact un.tbls b ps (by rw[aH_ q];exact e)
def LamOk(P:Program)(w:World)(K:PySem.W.Frag)(mg:Str->Option Value)(base:Heap)(k:Nat)(qual:Str)(params:Arguments)(body:PySem.Expr)(scope:Scope)(ps fvs:List Str)(sp:List V->List V->Hp->VK->XK->Prop):Prop:=
 ∀(A:Around) (outer:List Env) (s:Shared) (H:Hp) (f c':Addr) (pm ctv:Value) (cl:List (Str × Addr)) (us:List Value) (vs gs:List V) (Q:VK) (E:XK),Room k A->Env0 P w K mg base A outer s H->s.heap.get? f=some (kla_obj "<lambda>" qual params body scope cl pm c' ctv)->s.heap.CodeRec (.ref c') qual->
  vs.length=ps.length->gs.length=fvs.length->Vals vs us->CellsAre fvs cl gs s.heap->(∀x c,cl.lookup x=some c->H c=none)->sp vs gs H Q E->codeAny (model P w) A (.call (.ref f) ⟨us,[]⟩) (CR (CX2 P w) outer P w H s Q E) s
theorem lamOk{P:Program}{w:World}{K:PySem.W.Frag}{mg:Str->Option Value}{base:Heap}{k:Nat}{qual:Str}{params:Arguments}{body:PySem.Expr}{scope:Scope}{ps fvs:List Str}{sp:List V->List V->Hp->VK->XK->Prop}(S:LamScope ps fvs scope)
  (hb:∀pm c' ctv cl us,us.length=ps.length->bindArgs (kla_fn "<lambda>" qual params body scope cl pm (.ref c') ctv) ⟨us,[]⟩=pure (ps.zip us))
  (hbody:∀(A:Around) (outer:List Env) (s:Shared) (H:Hp) (f:Addr) (cd:Value) (cl:List (Str × Addr)) (vs gs:List V) (Q:VK) (E:XK),Room k (A.deeper (envX qual scope s.heap.objs.size f cd cl))->sp vs gs H Q E->Passes (CX2 P w) (cxLam (CX2 P w) P w K mg base (ps++fvs) qual scope f cd cl A outer s H E) E->
   ∃t,PE (cxLam (CX2 P w) P w K mg base (ps++fvs) qual scope f cd cl A outer s H E) body t/\t (vs.map some++gs.map some) H Q):LamOk P w K mg base (k+1) qual params body scope ps fvs sp:=by
 intro A outer s H f c' pm ctv cl us vs gs Q E hr e0 hf hcd hl hg r C fc hsp
 obtain⟨t,ht,hq⟩:=hbody A outer s H f (.ref c') cl vs gs Q E (hr.deeper _) hsp passesL
 exact jf_ S hr e0 hf hcd (hb pm c' ctv cl us (by rw[<- r.length];exact hl)) hl hg r C fc (fun _=>ht) hq
theorem iK_{k:Nat}{qual:Str}{params:Arguments}{body:PySem.Expr}{scope:Scope}{ps fvs:List Str}{sp:List V->List V->Hp->VK->XK->Prop}{f c':Addr}{cl:List (Str × Addr)}{us:List Value}{vs gs:List V}{Q:VK}{E:XK}(F:LamOk X.prog X.w X.K X.mg X.base k qual params body scope ps fvs sp)(hr:Room k X.A)(hx:Passes (CX2 X.prog X.w) X E)
  (I:Inv X pins σ H s) (hf:H f=some (lamH f qual params body scope cl c')) (hc:H c'=some (codeH c' qual)) (L:Lent H cs) (hl:vs.length=ps.length) (hg:gs.length=fvs.length) (r:Vals vs us) (C:CellsAre fvs cl gs s.heap) (fc:∀x c,cl.lookup x=some c->(cs.lookup c).isSome=true)
  (h:sp vs gs (unl cs H) (fun v H2=>NoCs cs H2->Q v (lend cs H2)) (fun cls dd H2=>NoCs cs H2->E cls dd (lend cs H2))):wpAny (model X.prog X.w) X.A (call (.ref f) us) (EP X pins σ Q) X.xe s:=by
 obtain⟨⟨pm,ctv,ef⟩,_⟩:=I.hok f _ hf
 obtain⟨⟨oc,vs',t,ec,d1,d2⟩,_⟩:=I.hok c' _ hc
 refine wpAny_call (codeAny_mono (F X.A X.stack s (unl cs H) f c' pm ctv cl us vs gs _ _ hr (I.unlEnv L) ef ⟨c',oc,vs',t,rfl,ec,d1,d2⟩ hl hg r C (fun x c e=>?_) h) fun r s' hq=>?_)
 ·obtain⟨o,q⟩:=Option.isSome_iff_exists.mp (fc x c e)
  exact cB_ q
 cases r with
 |error e=>
  obtain⟨a,cls,H',B,a0,dd,rfl,os,bare,un,hok,fl,i,hE⟩:=hq
  obtain⟨un2,hok2,nc⟩:=i4_ I L un hok
  refine hx pins σ H s _ s' I ⟨a,cls,lend cs H',B,a0,dd,rfl,os,bare,un2,hok2,fl,fun b o e hb hc=>i b o e hb ?_,hE nc⟩
  rcases hc with z|z
  ·cases q:cs.lookup b with
   |none=>rw[ao_ q] at z;exact .inl z
   |some o'=>exact .inr ⟨_,(I.hok b _ (L b o' q)).1⟩
  ·exact .inr z
 |ok fl=>
  cases fl with
  |ret u=>
   obtain⟨v,H',os,bare,un,hok,r,q⟩:=hq
   obtain⟨un2,hok2,nc⟩:=i4_ I L un hok
   exact I.after ⟨v,lend cs H',os,bare,un2,hok2,r,q nc⟩
  |next=>exact False.elim hq
  |brk=>exact False.elim hq
  |cont=>exact False.elim hq
end
end L2
set_option Elab.async false
set_option linter.all false
set_option maxRecDepth 100000
namespace L2
open PySem PySem.Spec PyProof.Rows PySem.W
structure CellsOf (fvs:List Str) (cl:List (Str × Addr)) (cs:List (Addr × Obj)) (gs:List V):Prop where
 len:gs.length=fvs.length
 inj:∀x y c,cl.lookup x=some c->cl.lookup y=some c->x=y
 has:∀x∈fvs,∃c,cl.lookup x=some c
 all:∀x c,cl.lookup x=some c->∃o v,cs.lookup c=some o/\o.data=.cell v
 is:∀(i:Nat) x v,fvs[i]? = some x->gs[i]? = some v->∃c o u,cl.lookup x=some c/\cs.lookup c=some o/\o.data=.cell (some u)/\RelV v u
theorem CellsOf.are{fvs:List Str}{cl:List (Str × Addr)}{cs:List (Addr × Obj)}{gs:List V}{h:Heap}(C:CellsOf fvs cl cs gs)(at_:∀c o,cs.lookup c=some o->h.get? c=some o):CellsAre fvs cl gs h:=⟨C.inj,C.has,fun x c e=>by
 obtain⟨o,v,h1,h2⟩:=C.all x c e
 exact⟨v,o,at_ c o h1,h2⟩,fun i x v h1 h2=>by
 obtain⟨c,o,u,e1,e2,e3,e4⟩:=C.is i x v h1 h2
 exact⟨c,u,e1,e4,o,at_ c o e2,e3⟩⟩
section
variable{X:Cx}{k:Nat}{x:Str}{p pos:Pos}{tn:TE}{qual:Str}{params:Arguments}{body:PySem.Expr}{scope:Scope}{fvs ps:List Str}{sp':List V->List V->Hp->VK->XK->Prop}{E:XK}
def tThunk(qual:Str)(params:Arguments)(body:PySem.Expr)(scope:Scope)(fvs:List Str)(sp:List V->List V->Hp->VK->XK->Prop)(E:XK)(tn:TE):TE:=fun σ H Q=>tn σ H fun x H1=>∃f c' cl cs gs,x=.ref f/\H1 f=some (lamH f qual params body scope cl c')/\H1 c'=some (codeH c' qual)/\Lent H1 cs/\CellsOf fvs cl cs gs/\sp [] gs (unl cs H1) (fun v H2=>NoCs cs H2->Q v (lend cs H2)) (fun cls dd H2=>NoCs cs H2->E cls dd (lend cs H2))
theorem hR_(F:LamOk X.prog X.w X.K X.mg X.base k qual params body scope [] fvs sp')(hr:Room k X.A)(hx:Passes (CX2 X.prog X.w) X E)(hn:PE X (.Name x p) tn):PE X (.Call (.Name x p) [] [] pos) (tThunk qual params body scope fvs sp' E tn):=by
 intro pins s σ H Q I h
 refine wpAny_Call_Name_kw (thn (hn pins s σ H _ I h) fun u s1 ⟨v,H1,I1,r,f,c',cl,cs,gs,ev,hf,hc,L,C,q⟩=>?_)
 subst ev
 cases (show u=Value.ref f from r)
 obtain⟨⟨pm,ctv,ef⟩,_⟩:=I1.hok f _ hf
 refine Calls.callWith_function (evalArgs_nil3 ⟨⟨ef,rfl⟩,?_⟩)
 exact iK_ F hr hx I1 hf hc L rfl C.len .nil (C.are fun c o e=>(I1.hok c _ (L c o e)).1) (fun x c e=>by
  obtain⟨o,v,h1,_⟩:=C.all x c e
  rw[h1]
  rfl) q
end
def csOf(h:Heap)(cl:List (Str × Addr)):List (Addr × Obj):=cl.filterMap fun p=>(h.get? p.2).map fun o=>(p.2,o)
theorem cz_{h:Heap}{c:Addr}{o:Obj}:∀{cl:List (Str × Addr)},(csOf h cl).lookup c=some o->h.get? c=some o/\∃x,(x,c)∈cl
 |(x,d)::cl,e=>by
  unfold csOf at e
  rw[List.filterMap_cons] at e
  cases q:h.get? d with
  |none=>
   rw[q] at e
   obtain⟨h1,y,h2⟩:=cz_ (cl:=cl) e
   exact⟨h1,y,List.mem_cons_of_mem _ h2⟩
  |some u=>
   rw[q] at e
   simp only[Option.map_some] at e
   rw[List.lookup_cons] at e
   by_cases z:c=d
   ·subst z
    simp at e
    subst e
    exact⟨q,x,List.mem_cons_self⟩
   ·have:(c == d)=false:=by simpa using z
    rw[this] at e
    obtain⟨h1,y,h2⟩:=cz_ (cl:=cl) e
    exact⟨h1,y,List.mem_cons_of_mem _ h2⟩
theorem df_{h:Heap}{c:Addr}{o:Obj}{x:Str}(e:h.get? c=some o):∀{cl:List (Str × Addr)},(x,c)∈cl->(csOf h cl).lookup c=some o
 |(y,d)::cl,m=>by
  unfold csOf
  rw[List.filterMap_cons]
  by_cases z:c=d
  ·subst z
   rw[e]
   simp
  ·have m':(x,c)∈cl:=by
    rcases List.mem_cons.mp m with q|q
    ·cases q
     exact absurd rfl z
    ·exact q
   have ih:=df_ e m'
   cases q:h.get? d with
   |none=>exact ih
   |some u=>
    simp only[Option.map_some]
    rw[List.lookup_cons,show (c == d)=false by simpa using z]
    exact ih
section
variable{X:Cx}{k:Nat}{x:Str}{p pos:Pos}{e:PySem.Expr}{es:List PySem.Expr}{ta:TA}{fvs ps:List Str}{sp:Sp}{f:Addr}{fd:FuncData}{cl:List (Str × Addr)}{is:List Nat}
def tCallL(fvs:List Str)(cl:List (Str × Addr))(is:List Nat)(sp:Sp)(t:TA):TE:=fun σ H Q=>t σ H fun vs H1=>∃gs:List V,is.map (fun i=>σ[i]?)=gs.map (fun v=>some (some v)) /\
 ∀cs,CellsOf fvs cl cs gs->(∀c o,cs.lookup c=some o->H1 c=none)->sp vs (lend cs H1) (fun v H2=>Lent H2 cs/\Q v (unl cs H2)) E0
theorem hZ_(F:FnOk X.prog X.w X.K X.mg X.base CX0 k f fd ps sp)(hr:Room k X.A)(hg:Gl X x)(hm:X.mg x=some (.ref f))(hk:PySem.W.keepIn X.K (.ref f)=true)(hb:Binds X.K fd ps [])(ha:PA X (e::es) ta)
  (hin:∀q∈cl,X.env.cells.lookup q.1=some q.2) (hfn:∀q∈cl,X.fn q.1=true) (hcl:∀x∈fvs,∃c,cl.lookup x=some c) (hkd:∀x∈fvs,X.env.scope.names.lookup x=some .cell) (hkl:∀x c,cl.lookup x=some c->x∈fvs) (hN:is.map (fun i=>X.N[i]?)=fvs.map some)
  (hdb:(x == ("__debug__":Str))=false:=by decide) (he:starEach (e::es) X.env=(false,eval e X.env)::starEach es X.env:=by rfl) (hpl:(backTo pos (starEach es X.env)).any (·.1)=false:=by rfl) :
  PE X (.Call (.Name x p) (e::es) [] pos) (tCallL fvs cl is sp ta):=by
 intro pins s σ H Q I h
 refine wpAny_Call_Name_kw (bJ_ I hg hm ?_ hdb)
 refine PySem.W.callWith_K (h₀:=X.base) I.ok.mod.kin hk (thn (ha pos pins s σ H _ I h) fun us s1 ⟨vs,H1,I1,r,gs,hgs,q⟩=>⟨I1.kIn,?_⟩) he hpl
 have lk:∀{x c},cl.lookup x=some c->(x,c)∈cl:=fun e=>PySem.mem_of_lookup e
 have O:OwnCells X s1 (csOf s1.heap cl):=fun c o e=>by
  obtain⟨h1,y,h2⟩:=cz_ e
  exact⟨⟨y,hin _ h2,hfn _ h2⟩,h1⟩
 have len:gs.length=fvs.length:=by
  have a:=congrArg List.length hgs
  have b:=congrArg List.length hN
  simp only[List.length_map] at a b
  omega
 have C:CellsOf fvs cl (csOf s1.heap cl) gs:=by
  refine⟨len,fun a b c h1 h2=>I1.ok.inj a b c (hin _ (lk h1)) (hin _ (lk h2)),hcl,fun a c h1=>?_,fun j a v h1 h2=>?_⟩
  ·obtain⟨v,o,e1,e2⟩:=I1.cell a c (hin _ (lk h1))
   exact⟨o,v,df_ e1 (lk h1),e2⟩
  ·obtain⟨c,hc⟩:=hcl a (List.mem_of_getElem? h1)
   have e1:(is.map fun i=>X.N[i]?)[j]? = some (some a):=by rw[hN,List.getElem?_map,h1];rfl
   have e2:(is.map fun i=>σ[i]?)[j]? = some (some (some v)):=by rw[hgs,List.getElem?_map,h2];rfl
   rw[List.getElem?_map] at e1 e2
   obtain⟨i,hi,e1⟩:=Option.map_eq_some_iff.mp e1
   rw[hi] at e2
   have e2:σ[i]? = some (some v):=Option.some.inj e2
   obtain⟨m,_,hl⟩:=I1.loc
   have kd:=hkd a (List.mem_of_getElem? h1)
   obtain⟨u,ru,lo⟩:=hl i a v e1 e2 (.inr (.inl kd))
   rcases lo with⟨z,_⟩|⟨_,c2,e3,o,e4,e5⟩
   ·have z:X.env.scope.names.lookup a=some .local:=z
    rw[kd] at z
    cases z
   ·rw[hin _ (lk hc)] at e3
    cases e3
    exact⟨c,o,u,hc,df_ e4 (lk hc),e5,ru⟩
 have hsp:=q _ C (O.none' I1)
 refine wpAny_call (codeAny_mono (F.run X.A X.stack s1 (lend (csOf s1.heap cl) H1) ⟨us,[]⟩ us vs _ E0 hr (I1.lendEnv O) (by
  have:=hb s1 us I1.kIn (by rw[List.append_nil,<- r.length];exact F.len _ _ _ _ hsp)
  rw[List.append_nil] at this
  exact this) r hsp) fun r s' hq=>?_)
 cases r with
 |error e=>exact hq.elim
 |ok fl=>
  cases fl with
  |ret u=>exact I1.lendBack O hq
  |next=>exact False.elim hq
  |brk=>exact False.elim hq
  |cont=>exact False.elim hq
end
end L2
set_option Elab.async false
set_option linter.all false
set_option maxRecDepth 100000
namespace L2
open PySem PySem.Spec PyProof.Rows PySem.W
theorem fA_{P:Program}{w:World}{K:PySem.W.Frag}{mg mb:Str->Option Value}{CX:CXT}{k:Nat}{fa a:Addr}{ts:List Addr}{fd:FuncData}{x:Str}{sp:Sp}{s₁:Shared}{vs:List Value}{ns:List Int}
  (hT:∀T∈ts,K.lookup T=none) (eT:∀T∈ts,s₁.heap.get? T=some (tabObj #[])) (hct:∀T∈ts,isCodeTable s₁.heap T)
  (KX:K.In s₁.heap) (hns:s₁.heap.Ns mainGlobals mg) (hb:s₁.heap.Ns builtinsNs mb) (hbb:∀x:Str,x≠"__name__"->mb x=bootBuiltins x) (hlim:s₁.heap.NoLimit) (hg:s₁.gens=#[])
  (ha:s₁.heap.get? a=some { cls:=.type "list",data:=.seq vs.toArray }) (hi:IntsAre vs ns) (hl:ns.length<=sizeLine) (hr:Room k callerA)
  (hbm:∃bm ob,mg "__builtins__"=some (.ref bm)/\bm≠builtinsNs/\s₁.heap.get? bm=some ob/\ob.cls=.type "module"/\ob.dict=some builtinsNs/\ob.data=.plain)
  (F:∀base:Heap,K.In base->base.Ns mainGlobals mg->(∀T∈ts,base.BuiltinsAt mg T)->FnOk P w K mg base CX k fa fd [x] sp) (hbind:∀(s:Shared) (u:Value),BindsTo s fd ⟨[u],[]⟩ [(x,u)])
  (hsp:∀H:Hp,(∀T∈ts,H T=some (.tbl #[]))->SqL K H a (ns.map V.int)->sp [.ref a] H (fun v _=>v=.bl true) fun _ _ _=>False)
  (hCX:∀H e s',CX [] H s₁ (fun _ _ _=>False) e s'->False) :
  codeAny (model P w) callerA (.call (.ref fa) ⟨[.ref a],[]⟩) (fun r s'=>r=.ok (.ret (.bool true))/\OldK s₁.heap s'.heap/\s'.os=s₁.os/\AllBare s'.gens) s₁:=by
 have rv:=dC_ hi
 have lenV:=hi.length
 have aT:∀{b},b∈ts->b≠a:=fun {b} hb z=>by
  have:=eT b hb
  rw[z,ha] at this
  cases this
 have core:∀H:Hp,(∀b,H b=none∨(b∈ts/\H b=some (.tbl #[]))∨(b∉ts/\∃o xs,H b=some (.frz o (.lst xs))))->(∀T∈ts,H T=some (.tbl #[]))->SqL K H a (ns.map V.int)->HOk P w H s₁.heap->(∀b,H b≠none->b=a∨b∈ts)->(H a≠none->K.lookup a=none)->
   codeAny (model P w) callerA (.call (.ref fa) ⟨[.ref a],[]⟩) (fun r s'=>r=.ok (.ret (.bool true))/\OldK s₁.heap s'.heap/\s'.os=s₁.os/\AllBare s'.gens) s₁:=by
  intro H hO hHT hS hok hA hK
  have base_of:∀{b:Addr} {o:Obj},s₁.heap.get? b=some o->H b=none->(hidT s₁.heap H).get? b=some o:=fun e n=>hN_ e n
  have noA:∀{b:Addr} {o:Obj} {es:Array DictEntry} {ep:Nat},s₁.heap.get? b=some o->o.data=.dict es ep->H b=none:=fun {b o es ep} e d=>by
   cases q:H b with
   |none=>rfl
   |some u=>
    rcases hA b (by rw[q];simp) with e'|e'
    ·subst e'
     rw[ha] at e;cases e
     have d':Data.seq vs.toArray _=Data.dict es ep:=d
     cases d'
    ·rw[eT b e'] at e;cases e
     cases d
  have nsK:∀{b:Addr} {m:Str->Option Value},s₁.heap.Ns b m->(hidT s₁.heap H).Ns b m:=fun {b m} ⟨o,es,ep,e,d,r⟩=>⟨o,es,ep,base_of e (noA e d),d,r⟩
  have hKb:K.In (hidT s₁.heap H):=fun b o e=>base_of (KX b o e) (by
   cases q:H b with
   |none=>rfl
   |some u=>
    rcases hA b (by rw[q];simp) with e'|e'
    ·subst e'
     rw[hK (by rw[q];simp)] at e;cases e
    ·rw[hT b e'] at e;cases e)
  have hB:∀T∈ts,(hidT s₁.heap H).BuiltinsAt mg T:=fun T hTs=>by
   obtain⟨bm,ob,h1,h2,h3,h4,h5,h6⟩:=hbm
   have n1:bm≠mainGlobals:=fun z=>by
    obtain⟨o,es,ep,e,d,_⟩:=hns
    rw[z,e] at h3
    cases h3
    rw[d] at h6
    cases h6
   have n2:∀{b},b∈ts->bm≠b:=fun {b} hb z=>by
    rw[z,eT b hb] at h3
    cases h3
    cases h6
   refine⟨bm,ob,h1,h2,n1,n2 hTs,base_of h3 ?_,h4,h5,h6⟩
   cases q:H bm with
   |none=>rfl
   |some u=>
    rcases hA bm (by rw[q];simp) with e'|e'
    ·subst e'
     rw[ha] at h3
     cases h3
     cases h6
    ·exact absurd rfl (n2 e')
  have hM:Mod K mg (hidT s₁.heap H):=⟨hKb,nsK hns,⟨mb,nsK hb,hbb⟩,let ⟨mc,h1,h2⟩:=hlim;⟨mc,nsK h1,h2⟩⟩
  have e0:Env0 P w K mg (hidT s₁.heap H) callerA [] s₁ H:=⟨rfl,hM,fun b o e=>je_ e,Nat.le_of_eq (gH_ _ _),trivial,fun b hb=>absurd (show b∈([]:List Addr) from hb) (by simp),hok,.of_eq hg⟩
  refine codeAny_mono ((F _ hKb (nsK hns) hB).run callerA [] s₁ H ⟨[.ref a],[]⟩ [.ref a] [.ref a] _ _ hr e0 (hbind s₁ (.ref a)) (.cons rfl .nil) (hsp H hHT hS)) fun r s' h=>?_
  cases r with
  |error e=>exact (hCX H e s' h).elim
  |ok fl=>
   cases fl with
   |next=>exact False.elim h
   |brk=>exact False.elim h
   |cont=>exact False.elim h
   |ret u=>
    obtain⟨v,H',os,bare,un,hok',r',q⟩:=h
    have q':v=.bl true:=q
    subst q'
    obtain rfl:u=Value.bool true:=r'
    have main:∀b o,s₁.heap.get? b=some o->s'.heap.get? b=some o∨(b∈ts/\o=tabObj #[]/\∃more,s'.heap.get? b=some (tabObj (#[]++more))):=fun b o e=>by
     cases q:H b with
     |none=>exact .inl (un.keep b o e q (by intro z;exact absurd (show b∈([]:List Addr) from z) (by simp)) (by simp))
     |some u=>
      rcases hO b with z|⟨zT,z⟩|⟨_,ob,xs,z⟩
      ·rw[q] at z;cases z
      ·rw[eT b zT] at e
       cases e
       obtain⟨more,z⟩:=un.tbls b _ z
       exact .inr ⟨zT,rfl,more,hok' b _ z⟩
      ·have z2:=un.frzs b ob _ z
       obtain⟨e1,_⟩:=hok b _ z
       obtain⟨e2,_⟩:=hok' b _ z2
       rw[e] at e1;cases e1
       exact .inl e2
    refine⟨rfl,⟨fun b o e=>?_,fun b o e=>?_⟩,os,bare⟩
    ·rcases main b o e with z|⟨zT,rfl,more,z⟩
     ·exact .inl z
     ·exact .inr (.inl ⟨hct b zT,rfl,_,_,rfl,z⟩)
    ·rcases main b o e with z|⟨_,_,more,z⟩
     ·exact⟨_,z⟩
     ·exact⟨_,z⟩
 cases hk:K.lookup a with
 |some o=>
  have e:=KX a o hk
  rw[ha] at e
  cases e
  refine core (fun b=>if b∈ts then some (.tbl #[]) else none) (fun b=>?_) (fun T h=>if_pos h) (.inr ⟨_,vs.toArray,_,hk,rfl,rfl,rfl,by rw[List.size_toArray,lenV];exact hl,by simpa using rv⟩) (fun b u z=>?_) (fun b z=>?_) fun z=>absurd (if_neg fun q=>aT q rfl) z
  ·by_cases hb:b∈ts
   ·exact .inr (.inl ⟨hb,if_pos hb⟩)
   ·exact .inl (if_neg hb)
  ·by_cases hb:b∈ts
   ·have z':=(if_pos hb).symm.trans z
    cases z'
    exact eT b hb
   ·have z':=(if_neg hb).symm.trans z
    cases z'
  ·by_cases hb:b∈ts
   ·exact .inr hb
   ·exact absurd (if_neg hb) z
 |none=>
  have T2:∀{b:Addr},b∈ts->(fun b=>if b∈ts then some (.tbl #[]) else if b=a then some (HO.frz { cls:=.type "list",data:=.seq vs.toArray } (.lst (ns.map V.int))) else none) b=some (.tbl #[]):=fun {b} hb=>if_pos hb
  refine core (fun b=>if b∈ts then some (.tbl #[]) else if b=a then some (.frz { cls:=.type "list",data:=.seq vs.toArray } (.lst (ns.map V.int))) else none) (fun b=>?_) (fun T h=>if_pos h) (.inl (.inr ⟨{ cls:=.type "list",data:=.seq vs.toArray },(if_neg fun q=>aT q rfl).trans (if_pos rfl)⟩)) (fun b u z=>?_) (fun b z=>?_) fun _=>hk
  ·by_cases hb2:b∈ts
   ·exact .inr (.inl ⟨hb2,if_pos hb2⟩)
   ·by_cases hb:b=a
    ·exact .inr (.inr ⟨hb2,_,_,(if_neg hb2).trans (if_pos hb)⟩)
    ·exact .inl ((if_neg hb2).trans (if_neg hb))
  ·by_cases hb2:b∈ts
   ·have z':=(if_pos hb2).symm.trans z
    cases z'
    exact eT b hb2
   ·by_cases hb:b=a
    ·have z':=((if_neg hb2).trans (if_pos hb)).symm.trans z
     cases z'
     subst hb
     exact⟨ha,by rw[List.length_map];exact hl,vs,_,rv,ha⟩
    ·have z':=((if_neg hb2).trans (if_neg hb)).symm.trans z
     cases z'
  ·by_cases hb2:b∈ts
   ·exact .inr hb2
   ·by_cases hb:b=a
    ·exact .inl hb
    ·exact absurd ((if_neg hb2).trans (if_neg hb)) z
theorem fi_{K:PySem.W.Frag}{T:Addr}(h:T∉K.map (·.1)):K.lookup T=none:=by
 induction K with
 |nil=>rfl
 |cons p K ih=>
  obtain⟨b,o⟩:=p
  simp only[List.map_cons,List.mem_cons,not_or] at h
  rw[List.lookup_cons,show (T == b)=false by simpa using h.1]
  exact ih h.2
theorem walk_ofT{l:PySem.W.OpenLaw}{n k:Nat}{q:Program}{loose:List Str}{XP:(Str->Option Value)->Heap->Prop}{d:DefRec}{K:Params->PySem.W.Frag}{as ts:List Addr}{eas:∀P:Params,as=(K P).map (·.1)}{CX:World->CXT}{sp:World->Sp}{x:Str}
  (hn:l.most=some n) (hn2:n<=sizeLine) (hdf:d.params.defaults=[]) (hr:Room k callerA)
  (hts:(ts.all fun T=>!as.contains T)=true)
  (F:∀(w:World) (mg:Str->Option Value) (fa:Addr) (h:Heap),(K w.params).In h->h.Ns mainGlobals mg->mg d.name=some (.ref fa)->
   ∃fd:FuncData,(∀(s:Shared) (u:Value),BindsTo s fd ⟨[u],[]⟩ [(x,u)])/\(∀T∈ts,isCodeTable h T) /\
    ∀base:Heap,(K w.params).In base->base.Ns mainGlobals mg->(∀T∈ts,base.BuiltinsAt mg T)->FnOk l.prog w (K w.params) mg base (CX w) k fa fd [x] (sp w))
  (hsp:∀(w:World) (H:Hp) (a:Addr) (ns:List Int),ns.length<=n->(∀T∈ts,H T=some (.tbl #[]))->SqL (K w.params) H a (ns.map V.int)->sp w [.ref a] H (fun v _=>v=.bl true) fun _ _ _=>False)
  (hCX:∀(w:World) (H:Hp) (s:Shared) (e:Value) (s':Shared),CX w [] H s (fun _ _ _=>False) e s'->False) :
  PySem.W.WalkO q loose XP (kmHook K as eas ts).says l.row.toRowW d [] (fun f vs=>PySem.call f vs):=by
 refine Att.attach_call hn hdf fun w s₀ s₁ mg mb fa o pm cd doc a vs ns G Y ho hd hcd hmg hobj hints hlen hg=>?_
 have KX:(K w.params).In s₁.heap:=km_in_of Y
 have eT:∀T∈ts,s₁.heap.get? T=some (tabObj #[]):=Y.2
 obtain⟨fd,hb,hct,hF⟩:=F w mg fa _ KX G.T.g hmg
 refine fA_ (fun T h=>fi_ ?_) eT hct KX G.T.g G.T.b G.T.builtins G.T.nolimit hg hobj hints (Nat.le_trans hlen hn2) hr G.T.bmain hF hb (fun H hO hS=>hsp w H a ns hlen hO hS) fun H e s'=>hCX w H s₁ e s'
 have:=List.all_eq_true.mp hts T h
 rw[<- eas w.params]
 simpa using this
end L2
set_option Elab.async false
set_option linter.all false
set_option maxRecDepth 100000
namespace L2
open PySem PySem.Spec PyProof.Rows
section
variable{X:Cx}
end
open PySem.W in
def flatT:List (Pos × Addr)->List Value
 |[]=>[]
 |(p,c)::es=>rawInt p.line::rawInt p.col::.ref c::flatT es
def TabOk(H:Hp)(T:Addr)(qual:Str):Prop:=∃es:List (Pos × Addr),H T=some (.tbl (flatT es).toArray)/\∀e∈es,H e.2=some (codeH e.2 qual)
theorem TabOk.same{H H':Hp}{T:Addr}{qual:Str}(s:Same H H')(h:TabOk H T qual):TabOk H' T qual:=by
 obtain⟨es,a,b⟩:=h
 exact⟨es,s _ _ a,fun e he=>s _ _ (b e he)⟩
theorem eT_:∀es:List (Pos × Addr),TriplesOk (flatT es)
 |[]=>trivial
 |(p,c)::es=>by
  have:=eT_ es
  simp[flatT,TriplesOk,rawInt,this]
theorem dL_:∀(es:List (Pos × Addr)) (p:Pos) (c:Addr),flatT (es++[(p,c)])=flatT es++[rawInt p.line,rawInt p.col,.ref c]
 |[],p,c=>rfl
 |(p',c')::es,p,c=>by
  show rawInt p'.line::rawInt p'.col::.ref c'::flatT (es++[(p,c)])=_
  rw[dL_ es p c]
  rfl
theorem cv_(pos:Pos):∀es:List (Pos × Addr),codeAmong pos (flatT es)=none∨∃e∈es,codeAmong pos (flatT es)=some (.ref e.2)
 |[]=>.inl rfl
 |(p,c)::es=>by
  by_cases h:codeAmong pos (flatT ((p,c)::es))=some (.ref c)
  ·exact .inr ⟨(p,c),List.mem_cons_self,h⟩
  ·have e:codeAmong pos (flatT ((p,c)::es))=codeAmong pos (flatT es):=by
    show codeAmong pos (rawInt p.line::rawInt p.col::.ref c::flatT es)=_
    have h:¬codeAmong pos (rawInt p.line::rawInt p.col::.ref c::flatT es)=some (.ref c):=h
    simp only[codeAmong,rawInt] at h ⊢
    split at h
    ·exact absurd rfl h
    ·rename_i q
     rw[if_neg q]
   rcases cv_ pos es with q|⟨x,hx,q⟩
   ·exact .inl (e.trans q)
   ·exact .inr ⟨x,List.mem_cons_of_mem _ hx,e.trans q⟩
end L2
set_option Elab.async false
set_option linter.all false
set_option maxRecDepth 100000
namespace L2
open PySem PySem.Spec PyProof.Rows PySem.W
section
variable{X:Cx}
theorem cY_{k:V}:∀{xs:List V} {us:List Value},Vals xs us->xs.all flatV=true->us.countP (eqU k)=xs.countP fun y=>eqV y k
 |_,_,.nil,_=>rfl
 |y::xs,u::us,.cons r t,f=>by
  rw[List.all_cons,Bool.and_eq_true] at f
  rw[List.countP_cons,List.countP_cons,cY_ t f.2,eC_ r f.1]
def rCountF:V->List V->Hp->VK->Prop:=fun x vs H Q=>∃(l:Addr) (xs:List V) (k:V),x=.ref l/\vs=[k]/\H l=some (.lst xs)/\flatV k=true/\xs.all flatV=true/\Q (.int ((xs.countP fun y=>eqV y k:Nat):Int)) H
theorem fz_:MtM X "list.count" rCountF:=by
 intro pins s σ H x vs v us Q I rx rv h
 obtain⟨l,xs,k,rfl,rfl,hH,fk,fx,q⟩:=h
 cases rx
 obtain⟨u,rfl,ru⟩:=rv.one
 obtain⟨z,its,n,r,hl,e⟩:=I.lstM hH
 refine call_meets PySem.F.slot_list_count ⟨_,e,rfl⟩ PySem.F.entry_list_count (PySem.F.args_list_count_2 _ _) (SeqAt.list_countAt l its.toArray n none _ u (eqU k)) ⟨e,fun y hy=>bi_ ru fk r fx y (by simpa using hy),?_⟩
 rw[show its.toArray.toList=its from rfl,cY_ r fx]
 exact⟨.int _,H,I.tok _,⟨_,rfl⟩,q⟩
theorem e9_:∀{xs:List V} {us:List Value},Vals xs us->xs.all flatV=true->∀(k:V) (j:Nat) (h:j<us.length),∃h2:j<xs.length,eqU k us[j]=eqV xs[j] k
 |_,_,.nil,_,k,j,h=>absurd h (Nat.not_lt_zero _)
 |y::xs,u::us,.cons r t,f,k,j,h=>by
  rw[List.all_cons,Bool.and_eq_true] at f
  cases j with
  |zero=>exact⟨Nat.zero_lt_succ _,eC_ r f.1⟩
  |succ j=>
   obtain⟨h2,e⟩:=e9_ t f.2 k j (Nat.lt_of_succ_lt_succ h)
   exact⟨Nat.succ_lt_succ h2,e⟩
def rIndexF:V->List V->Hp->VK->Prop:=fun x vs H Q=>∃(l:Addr) (xs:List V) (k:V) (j:Nat),x=.ref l/\vs=[k]/\H l=some (.lst xs)/\flatV k=true/\xs.all flatV=true/\j<1000/\(∃y,xs[j]? = some y/\eqV y k=true)/\(∀i y,i<j->xs[i]? = some y->eqV y k=false)/\Q (.int (j:Int)) H
theorem dF_:MtM X "list.index" rIndexF:=by
 intro pins s σ H x vs v us Q I rx rv h
 obtain⟨l,xs,k,j,rfl,rfl,hH,fk,fx,hj,⟨y,hy,ey⟩,no,q⟩:=h
 cases rx
 obtain⟨u,rfl,ru⟩:=rv.one
 obtain⟨z,its,n,r,hl,e⟩:=I.lstM hH
 obtain⟨hjx,ejx⟩:=List.getElem?_eq_some_iff.mp hy
 refine call_meets PySem.F.slot_list_index ⟨_,e,rfl⟩ PySem.F.entry_list_index (PySem.F.args_list_index_2 _ _) (SeqAt.list_indexAt l its.toArray n none _ u (eqU k) j (by show j<its.length;omega) (by omega) ?_ ?_) ⟨e,fun y hy=>bi_ ru fk r fx y (by simpa using hy),⟨.int _,H,I.tok _,⟨_,rfl⟩,q⟩⟩
 ·obtain⟨h2,e2⟩:=e9_ r fx k j (by omega)
  show eqU k its[j]=true
  rw[e2,ejx]
  exact ey
 ·intro m hm lt
  obtain⟨h2,e2⟩:=e9_ r fx k m (by simpa using hm)
  show eqU k its[m]=false
  rw[e2]
  exact no m _ lt (List.getElem?_eq_getElem h2)
def rInO(K:PySem.W.Frag)(neg:Bool):R2:=fun x y H Q=>rIn K neg x y H Q∨∃(p t:Addr) (ss:List Str) (ts:List V),x=.ref t/\y=.ref p/\SqL K H p (ss.map V.str)/\H t=some (.tup ts)/\Q (.bl neg) H
theorem fO_{A:Around}{s:Shared}{t:Addr}{items:Array Value}(ht:s.heap.IsTuple t items)(hu:A.units<cLine):∀{ss:List Str} {us:List Value},Vals (ss.map V.str) us->∀u∈us,SeqAt.EqAt A s u (.ref t) false
 |[],_,.nil=>fun u hu=>by cases hu
 |x::ss,_::us,.cons r q=>fun u hm=>by
  rcases List.mem_cons.mp hm with rfl|hm
  ·obtain⟨tk,rfl⟩:=r
   exact SeqAt.EqAt.str_tuple x tk ht hu
  ·exact fO_ ht hu q u hm
theorem g4_(hu:X.A.units+1<cLine):OpR X (compareOp .NotIn) (rInO X.K true):=by
 intro pins s σ H x y v u Q I rx ry h
 rcases h with h|⟨p,t,ss,ts,rfl,rfl,hl,ht,q⟩
 ·exact b4_ pins s σ H x y v u Q I rx ry h
 cases rx
 cases ry
 obtain⟨its,r,pl,hz⟩:=I.list hl
 obtain⟨its2,r2,pl2,hz2⟩:=I.tuple (.of ht)
 refine SeqAt.notIn_listAt (fun _=>false) pl.isList (fun w hw=>fO_ (A:=X.A.in1) pl2 hu r w (by simpa using hw)) ⟨.bl _,H,I,rfl,?_⟩
 rw[show its.toArray.any (fun _=>false)=false by simp]
 exact q
end
end L2
set_option Elab.async false
set_option linter.all false
set_option maxRecDepth 100000
namespace L2
open PySem PySem.Spec PyProof.Rows
theorem FnOk.or{P:Program}{w:World}{K:PySem.W.Frag}{mg:Str->Option Value}{base:Heap}{CX:CXT}{k:Nat}{f:Addr}{fd:FuncData}{ps:List Str}{sp sp':Sp}(F:FnOk P w K mg base CX k f fd ps sp)(G:FnOk P w K mg base CX k f fd ps sp'):FnOk P w K mg base CX k f fd ps (fun vs H Q E=>sp vs H Q E∨sp' vs H Q E):=
 ⟨fun vs H Q E h=>h.elim (F.len vs H Q E) (G.len vs H Q E),fun A outer s H args us vs Q E h1 h2 h3 h4 h=>h.elim (F.run A outer s H args us vs Q E h1 h2 h3 h4) (G.run A outer s H args us vs Q E h1 h2 h3 h4)⟩
theorem TyOf.same{K:PySem.W.Frag}{H H':Hp}{v:V}{t:Value}(s:Same H H')(h:TyOf K H v t):TyOf K H' v t:=by
 cases h with
 |non=>exact .non
 |bl x=>exact .bl x
 |int x=>exact .int x
 |str x=>exact .str x
 |flt x=>exact .flt x
 |lst e=>exact .lst (s _ _ e)
 |frz e=>exact .frz (s _ _ e)
 |tup e=>exact .tup (s _ _ e)
 |dK e=>exact .dK (s _ _ e)
 |dT e=>exact .dT (s _ _ e)
 |ins e a b c d f=>exact .ins (s _ _ e) a b c d f
end L2
namespace Ev
open PySem L2
structure CalG (P:Program) (w:World) (K:PySem.W.Frag) (mg:Str->Option Value) (base:Heap) (k:Nat) (x:Str) (ps:List Str) (sp:Sp):Prop where
 ex:∃f fd,FnOk P w K mg base (CX2 P w) k f fd ps sp/\mg x=some (.ref f)/\PySem.W.keepIn K (.ref f)=true/\Binds K fd ps []
theorem cc_{X:Cx}{E:XK}{k:Nat}{x:Str}{ps:List Str}{sp:Sp}{p pos:Pos}{e:Expr}{es:List Expr}{t:TA}(c:CalG X.prog X.w X.K X.mg X.base k x ps sp)(hr:Room k X.A)(hx:Passes (CX2 X.prog X.w) X E)(ha:PA X (e::es) t)(hg:Gl X x:=by rfl)(hdb:(x == ("__debug__":Str))=false:=by decide)
  (he:starEach (e::es) X.env=(false,eval e X.env)::starEach es X.env:=by rfl) (hpl:(backTo pos (starEach es X.env)).any (·.1)=false:=by rfl):PE X (.Call (.Name x p) (e::es) [] pos) (tCall sp [] E t):=by
 obtain⟨f,fd,F,m,kp,b⟩:=c.ex
 exact gJ_ F hr hg m kp b .nil hx ha hdb he hpl
def NoTx(K:PySem.W.Frag)(H:Hp)(ns:List Str)(v:V):Prop:=(∃x,v=.str x/\x∉ns)∨∃ty,TyOf K H v ty/\PySem.W.kitOne K ty (.type "str")=some false
theorem NoTx.same{K:PySem.W.Frag}{H H':Hp}{ns:List Str}{v:V}(s:Same H H')(h:NoTx K H ns v):NoTx K H' ns v:=h.imp id fun⟨ty,a,b⟩=>⟨ty,a.same s,b⟩
def NoInt(K:PySem.W.Frag)(H:Hp)(v:V):Prop:=(∃b,v=.bl b)∨∃ty,TyOf K H v ty/\PySem.W.kitOne K ty (.type "int")=some false
theorem NoInt.same{K:PySem.W.Frag}{H H':Hp}{v:V}(s:Same H H')(h:NoInt K H v):NoInt K H' v:=h.imp id fun⟨ty,a,b⟩=>⟨ty,a.same s,b⟩
def NoWt(K:PySem.W.Frag)(H:Hp)(v:V):Prop:=(∃x:Int,v=.int x/\¬(1<=x/\x<=1000000000))∨NoInt K H v
theorem NoWt.same{K:PySem.W.Frag}{H H':Hp}{v:V}(s:Same H H')(h:NoWt K H v):NoWt K H' v:=h.imp id fun h=>h.same s
section
variable{P:Program}{w:World}{K:PySem.W.Frag}{mg:Str->Option Value}{base:Heap}
def spIsRuleN(K:PySem.W.Frag):Sp:=fun vs H Q _=>∃v,vs=[v]/\NoTx K H rnames v/\Q (.bl false) H
theorem eZ_{f d:Addr}{as:List Addr}{fd:FuncData}(F:Fun K "is_rule" "is_rule" sIsRule f fd)(B:Bi mg)(R:RulesAt K w mg d as):FnOk P w K mg base CX0 1 f fd ["thing"] (spIsRuleN K):=by
 refine F.ok scIsRule (fun vs H Q E h=>?_) (fun cdv A outer s H vs Q E hr h=>?_)
 ·obtain⟨r,rfl,_⟩:=h
  rfl
 ·obtain⟨v,rfl,n,k⟩:=h
  refine⟨_,a4_ (aa_ (aX_ (a8_ ap_ (by rfl) B.isi PyProof.Rows.Boot.«isinstance» (a0_ (pv 0) (a0_ (aA_ (v:=.ty "str") (by rfl) B.str PyProof.Rows.Boot.«str» rfl) a3_))) (aO_ (dx_ (i2_ (pv 0) (aK_ (v:=.ref d) (by rfl) R.mg rfl)))))),?_⟩
  rcases n with⟨x,rfl,hx⟩|⟨ty,h1,h2⟩
  ·refine⟨_,rfl,_,_,_,_,rfl,.str x,rfl,_,rfl,iteT ⟨_,rfl,d,_,x,rfl,R.kd,rfl,?_⟩⟩
   rw[cr_ R.len,decide_eq_false hx]
   exact k
  ·exact⟨_,rfl,_,_,_,_,rfl,h1,h2,_,rfl,iteF k⟩
def spWordsN(K:PySem.W.Frag)(CR:Addr):Sp:=fun vs H _ E=>∃v,vs=[v]/\NoTx K H rnames v/\E (.ref CR) none H
theorem ga_{f CR:Addr}{fd:FuncData}(F:Fun K "checked_words" "checked_words" sWords f fd)(R:Ref K mg "NoRule" CR)(cI:Cal P w K mg base 1 "is_rule" ["thing"] (spIsRuleN K)):FnOk P w K mg base (CX2 P w) 2 f fd ["rule"] (spWordsN K CR):=by
 refine F.okG scWords (fun vs H Q E h=>?_) (fun cdv A outer s H vs Q E hr h hp ro rm=>?_)
 ·obtain⟨r,rfl,_⟩:=h
  rfl
 ·obtain⟨v,rfl,n,k⟩:=h
  refine⟨_,a2_ (ak_ (av_ (ax_ (ag_ cI hr (a0_ (pv 0) a3_)))) (a4_ (bh_ rfl rm R.mg R.ex PySem.F.excBase_ValueError (by rfl) (a0_ a9_ a3_))) ac_) ad_,?_⟩
  exact⟨_,rfl,v,rfl,n,_,rfl,iteT ⟨by show 1<=sizeLine;decide,k⟩⟩
def spGuardN(K:PySem.W.Frag)(CR:Addr):Sp:=fun vs H _ E=>∃v u,vs=[v,u]/\NoTx K H rnames v/\E (.ref CR) none H
theorem gO_{f CR:Addr}{fd:FuncData}(F:Fun K "is_shares_or_guarded_by" "is_shares_or_guarded_by" sGuard f fd)(cW:CalG P w K mg base 2 "checked_words" ["rule"] (spWordsN K CR)):FnOk P w K mg base (CX2 P w) 3 f fd ["rule","guards"] (spGuardN K CR):=by
 refine F.okG scGuard (fun vs H Q E h=>?_) (fun cdv A outer s H vs Q E hr h hp ro rm=>?_)
 ·obtain⟨r,u,rfl,_⟩:=h
  rfl
 ·obtain⟨v,u,rfl,n,k⟩:=h
  refine⟨_,a2_ (ab_ (i:=2) scGuard.nd rfl (Or.inl rfl) (cc_ cW hr hp (a0_ (pv 0) a3_))) ad_,?_⟩
  exact⟨_,rfl,v,rfl,n,k⟩
def spLetN(K:PySem.W.Frag)(CR:Addr):Sp:=fun vs H _ E=>∃v,vs=[v]/\NoTx K H rnames v/\∀H',Same H H'->E (.ref CR) none H'
theorem iS_{f CR:Addr}{fd:FuncData}(F:Fun K "is_let_by" "is_let_by" sLet f fd)(cG:CalG P w K mg base 3 "is_shares_or_guarded_by" ["rule","guards"] (spGuardN K CR)):FnOk P w K mg base (CX2 P w) 4 f fd ["rule"] (spLetN K CR):=by
 refine F.okG scLet (fun vs H Q E h=>?_) (fun cdv A outer s H vs Q E hr h hp ro rm=>?_)
 ·obtain⟨r,rfl,_⟩:=h
  rfl
 ·obtain⟨v,rfl,n,k⟩:=h
  refine⟨_,a4_ (aa_ (cc_ cG hr hp (a0_ (pv 0) (a0_ (aC_ (a0_ a9_ (a0_ a9_ a3_))) a3_)))),?_⟩
  refine⟨_,rfl,by show 2<=sizeLine;decide,fun t ht=>?_⟩
  exact⟨v,_,rfl,n.same (Same.new ht),k _ (Same.new ht)⟩
def spLG(K:PySem.W.Frag)(CR:Addr):Sp:=fun vs H Q E=>spLet vs H Q E∨spLetN K CR vs H Q E
def spCGN(K:PySem.W.Frag)(CR CL:Addr):Sp:=fun vs H _ E=>(∃v,vs=[v]/\NoTx K H rnames v/\∀H',Same H H'->E (.ref CR) none H')∨∃r∈rl,vs=[.str r.1]/\guB ["fall","calm"] r=false/\∀H',Same H H'->E (.ref CL) none H'
theorem f3_{f CR CL:Addr}{fd:FuncData}(F:Fun K "checked_guard" "checked_guard" sCGuard f fd)(R:Ref K mg "NotLetBy" CL)(cL:CalG P w K mg base 4 "is_let_by" ["rule"] (spLG K CR)):FnOk P w K mg base (CX2 P w) 5 f fd ["rule"] (spCGN K CR CL):=by
 refine F.okG scCGuard (fun vs H Q E h=>?_) (fun cdv A outer s H vs Q E hr h hp ro rm=>?_)
 ·rcases h with⟨r,rfl,_⟩|⟨r,_,rfl,_⟩<;>rfl
 ·refine⟨_,a2_ (ak_ (av_ (ax_ (cc_ cL hr hp (a0_ (pv 0) a3_)))) (a4_ (bh_ rfl rm R.mg R.ex PySem.F.excBase_ValueError (by rfl) (a0_ a9_ a3_))) ac_) ad_,?_⟩
  rcases h with⟨v,rfl,n,k⟩|⟨r,hr',rfl,g,k⟩
  ·exact⟨_,rfl,.inr ⟨v,rfl,n,k⟩⟩
  ·refine⟨_,rfl,.inl ⟨r,hr',rfl,fun H1 s1=>⟨_,rfl,?_⟩⟩⟩
   rw[g]
   exact iteT ⟨by show 1<=sizeLine;decide,k _ s1⟩
def spIsWN(K:PySem.W.Frag):Sp:=fun vs H Q _=>∃v,vs=[v]/\NoInt K H v/\Q (.bl false) H
theorem jn_{f:Addr}{fd:FuncData}(F:Fun K "is_whole" "is_whole" sIsW f fd)(B:Bi mg):FnOk P w K mg base CX0 1 f fd ["thing"] (spIsWN K):=by
 refine F.ok scIsW (fun vs H Q E h=>?_) (fun cdv A outer s H vs Q E hr h=>?_)
 ·obtain⟨i,rfl,_⟩:=h
  rfl
 ·obtain⟨v,rfl,n,k⟩:=h
  refine⟨_,a4_ (aa_ (aX_ (a8_ ap_ (by rfl) B.isi PyProof.Rows.Boot.«isinstance» (a0_ (pv 0) (a0_ (aA_ (v:=.ty "int") (by rfl) B.int PyProof.Rows.Boot.«int» rfl) a3_))) (aO_ (eV_ (a8_ ap_ (by rfl) B.isi PyProof.Rows.Boot.«isinstance» (a0_ (pv 0) (a0_ (aA_ (v:=.ty "bool") (by rfl) B.bool PyProof.Rows.Boot.«bool» rfl) a3_))))))),?_⟩
  rcases n with⟨b,rfl⟩|⟨ty,h1,h2⟩
  ·exact⟨_,rfl,_,_,_,_,rfl,.bl b,rfl,_,rfl,iteT ⟨_,rfl,_,_,_,_,rfl,.bl b,rfl,_,rfl,k⟩⟩
  ·exact⟨_,rfl,_,_,_,_,rfl,h1,h2,_,rfl,iteF k⟩
def spWholeN(K:PySem.W.Frag):Sp:=fun vs H Q _=>∃(v:V) (a b:Int),vs=[v,.int a,.int b]/\NoInt K H v/\Q (.bl false) H
theorem g5_{f:Addr}{fd:FuncData}(F:Fun K "is_whole_within" "is_whole_within" sWhole f fd)(cI:Cal P w K mg base 1 "is_whole" ["thing"] (spIsWN K)):FnOk P w K mg base CX0 2 f fd ["thing","least","most"] (spWholeN K):=by
 refine F.ok scWhole (fun vs H Q E h=>?_) (fun cdv A outer s H vs Q E hr h=>?_)
 ·obtain⟨v,a,b,rfl,_⟩:=h
  rfl
 ·obtain⟨v,a,b,rfl,n,k⟩:=h
  refine⟨_,a4_ (aa_ (aX_ (ag_ cI hr (a0_ (pv 0) a3_)) (aO_ (dq_ dw_ dw_ (pv 1) (pv 0) (pv 2))))),?_⟩
  exact⟨_,rfl,v,rfl,n,_,rfl,iteF k⟩
def spWhG(K:PySem.W.Frag):Sp:=fun vs H Q E=>spWhole vs H Q E∨spWholeN K vs H Q E
def spCWeightN(K:PySem.W.Frag)(CT:Addr):Sp:=fun vs H _ E=>∃v,vs=[v]/\NoWt K H v/\E (.ref CT) none H
theorem e8_{f CT:Addr}{fd:FuncData}{tk:Tok}(F:Fun K "check_weight" "check_weight" sCWeight f fd)(R:Ref K mg "NoWeight" CT)(mW:mg "MOST_WEIGHT"=some (.int 1000000000 tk))(cW:Cal P w K mg base 2 "is_whole_within" ["thing","least","most"] (spWhG K)):FnOk P w K mg base (CX2 P w) 3 f fd ["thing"] (spCWeightN K CT):=by
 refine F.okG scCWeight (fun vs H Q E h=>?_) (fun cdv A outer s H vs Q E hr h hp ro rm=>?_)
 ·obtain⟨r,rfl,_⟩:=h
  rfl
 ·obtain⟨v,rfl,n,k⟩:=h
  refine⟨_,a4_ (ak_ (av_ (ax_ (ag_ cW hr (a0_ (pv 0) (a0_ a6_ (a0_ (aK_ (v:=.int 1000000000) (by rfl) mW ⟨_,rfl⟩) a3_)))))) (a4_ (bh_ rfl rm R.mg R.ex PySem.F.excBase_ValueError (by rfl) (a0_ a9_ a3_))) ac_),?_⟩
  rcases n with⟨x,rfl,hx⟩|n
  ·refine⟨_,rfl,.inl ⟨x,1,1000000000,rfl,_,rfl,?_⟩⟩
   rw[show (decide ((1:Int)<=x)&&decide (x<=1000000000))=false by
    by_cases c:1<=x
    ·have:¬x<=1000000000:=fun z=>hx ⟨c,z⟩
     simp[this]
    ·simp[c]]
   exact iteT ⟨by show 1<=sizeLine;decide,k⟩
  ·exact⟨_,rfl,.inr ⟨v,1,1000000000,rfl,n,_,rfl,iteT ⟨by show 1<=sizeLine;decide,k⟩⟩⟩
def spCG(K:PySem.W.Frag)(CR CL:Addr):Sp:=fun vs H Q E=>spCGuard vs H Q E∨spCGN K CR CL vs H Q E
def spCW(K:PySem.W.Frag)(CT:Addr):Sp:=fun vs H Q E=>spCWeight vs H Q E∨spCWeightN K CT vs H Q E
end
end Ev
set_option Elab.async false
set_option linter.all false
set_option maxRecDepth 100000
namespace L2
open PySem PySem.Spec PyProof.Rows PySem.W
section
variable{prog:Program}{w:World}{A:Around}
theorem fh_{d it:Addr}{vs:List (Key × Value)}{ep:Nat}(hh:A.handled=none)(hne:d≠it):Walks prog w A it [it,d] [it] vs.length (fun i v=>∃k,vs[i]? = some (k,v)) (fun i h=>h.IsValIter it d i vs.length ep/\h.DictAt (mixKind prog w) d vs ep) where
 sub:=fun b hb=>by simp at hb;simp[hb]
 frame:=fun i h h' st k=>⟨st.1.at fun o e=>k it (by simp) o e,by
  obtain⟨o,es,ho,r⟩:=st.2
  exact⟨o,es,k d (by simp) o ho,r⟩⟩
 item:=by
  intro i s Q E hi st h
  obtain⟨⟨k,v⟩,hx⟩:∃p,vs[i]? = some p:=⟨vs[i],by simp[hi]⟩
  refine wpAny_pyNext_values_item st.1 st.2 hx fun h' st' sb=>?_
  refine h v h' s.toks ⟨k,hx⟩ ⟨st',?_⟩ fun b o hb e=>(sb.2 b (by simpa using hb)).trans e
  obtain⟨o,es,ho,r⟩:=st.2
  exact⟨o,es,(sb.2 d hne).trans ho,r⟩
 done:=by
  intro s Q E st h
  exact wpAny_pyNext_values_end hh st.1 st.2 (by simp) fun h' eb=>h h' s.toks fun b o hb e=>eb b o (by simpa using hb) e
 self:=fun _ _ _ _ st h=>wpAny_pyIter_valiter st.1 h
end
theorem iU_{ns:List (Key × Int)}{vs:List (Key × Value)}(r:KV (ns.map fun x=>(x.1,V.int x.2)) vs){i:Nat}{k:Key}{v:Value}(h:vs[i]? = some (k,v)):∃n t,(ns.map (·.2))[i]? = some n/\v=.int n t:=by
 have hl:=r.length
 rw[List.length_map] at hl
 have hi:i<ns.length:=by
  have:=(List.getElem?_eq_some_iff.mp h).1
  omega
 obtain⟨u,hu,ru⟩:=gB_ r i (k:=(ns[i]'hi).1) (x:=V.int (ns[i]'hi).2) (by rw[List.getElem?_map,List.getElem?_eq_getElem hi];rfl)
 rw[h] at hu
 have e:=congrArg Prod.snd (Option.some.inj hu)
 obtain⟨t,rfl⟩:=(show ∃t,u=Value.int (ns[i]'hi).2 t from ru)
 exact⟨_,t,by rw[List.getElem?_map,List.getElem?_eq_getElem hi];rfl,e⟩
end L2
set_option Elab.async false
set_option linter.all false
set_option maxRecDepth 100000
namespace L2
open PySem PySem.Spec PyProof.Rows PySem.W
def rSumV:List V->Hp->VK->Prop:=fun xs H Q=>∃(v d:Addr) (ns:List (Key × Int)),xs=[.ref v]/\H v=some (valuesV v d)/\Rd H d (.dK (ns.map fun x=>(x.1,V.int x.2)))/\Q (.int (ns.map (·.2)).sum) H
theorem cQ_(l:List Int):∀n,n<=l.length->preSum (fun i=>(l[i]?).getD 0) n=(l.take n).sum
 |0,_=>by simp[preSum]
 |n+1,h=>by
  show preSum (fun i=>(l[i]?).getD 0) n+(l[n]?).getD 0=_
  rw[cQ_ l n (by omega),List.take_add_one,List.sum_append,List.getElem?_eq_getElem (by omega)]
  simp
theorem fV_{X:Cx}(hc:X.calm=true):CallR X (.builtin "sum") rSumV:=by
 intro pins s σ H xs us Q I r h
 obtain⟨v,d,ns,rfl,hv,hd,q⟩:=h
 obtain⟨u,rfl,ru⟩:=vals1 r
 cases ru
 obtain⟨z,hne,vs,rel,dd⟩:=bO_ I.hok hd
 obtain⟨ep,dat⟩:=dd.dictAt
 obtain⟨iv,_,_⟩:=I.hok v _ hv
 have dlt:d<s.heap.objs.size:=by
  obtain⟨o,es,ho,_⟩:=dat
  exact Heap.lt_size ho
 refine call_sum_walkG (wpAny_pyIter_values (knd:=mixKind X.prog X.w) (kvs:=vs) (ep:=ep) iv dat ?_)
 refine⟨s.heap.objs.size,[s.heap.objs.size,d],[s.heap.objs.size],vs.length,fun i v=>∃k,vs[i]? = some (k,v),_,fun i=>((ns.map (·.2))[i]?).getD 0,rfl,fh_ (ep:=ep) (I.ok.hd hc) (Nat.ne_of_lt dlt),⟨⟨_,Heap.get?_push_size _ rfl,rfl,rfl⟩,?_⟩,fun b hb=>?_,fun i v ⟨k,hv⟩=>?_,fun h' tk t' k=>?_⟩
 ·obtain⟨o,es,ho,r⟩:=dat
  exact⟨o,es,Heap.get?_push_of_some _ ho,r⟩
 ·have hb:b=s.heap.objs.size∨b=d:=by simpa using hb
  show b<(s.heap.objs.push _).size
  rw[Array.size_push]
  rcases hb with e|e
  ·rw[e]
   exact Nat.lt_succ_self _
  ·rw[e]
   exact Nat.lt_succ_of_lt dlt
 ·obtain⟨n,t,e1,e2⟩:=iU_ rel hv
  refine⟨t,?_⟩
  show v=.int (((ns.map (·.2))[i]?).getD 0) t
  rw[e1]
  exact e2
 ·refine⟨.int _,H,I.kept (t':=tk) (fun b o e=>k b o (fun m=>?_) (Heap.get?_push_of_some _ e)),⟨t',?_⟩,q⟩
  rotate_left
  ·have hl:=rel.length
   rw[List.length_map] at hl
   rw[cQ_ _ _ (by rw[List.length_map];omega),List.take_of_length_le (by rw[List.length_map];omega)]
  have m:b=s.heap.objs.size:=by simpa using m
  exact absurd m (Nat.ne_of_lt (Heap.lt_size e))
end L2
set_option Elab.async false
set_option linter.all false
set_option maxRecDepth 100000
namespace Ev
open PySem L2
abbrev sTurns:Stmt:=inClass sWeb 8
section
variable{P:Program}{w:World}{K:PySem.W.Frag}{mg:Str->Option Value}{base:Heap}
theorem scFirstRow:FnScope ["rows","tie","place","row"] ["rows","tie"] (defScope sFirstRow):=⟨rfl,rfl,rfl,by decide +kernel,rfl,by decide +kernel,by decide +kernel⟩
def spFirstRow:Sp:=fun vs H Q _=>∃(lr:Addr) (v:V),vs=[.ref lr,v]/\H lr=some (.lst [])/\Q (.int 0) H
theorem e5_{f:Addr}{fd:FuncData}(F:Fun K "first_row_without" "first_row_without" sFirstRow f fd)(B:Bi mg):FnOk P w K mg base CX0 1 f fd ["rows","tie"] spFirstRow:=by
 refine F.ok scFirstRow (fun vs H Q E h=>?_) (fun cdv A outer s H vs Q E hr h=>?_)
 ·obtain⟨lr,v,rfl,_⟩:=h
  rfl
 ·obtain⟨lr,v,rfl,hl,k⟩:=h
  refine' ⟨_,a2_ ?s1 (a4_ ?s2),?kk⟩
  case s1=>exact b1_ PassesOwn.never rfl (iP_ (by rfl) B.enum (a0_ (pv 0) a3_)) (c5_ rfl (aj_ (ae_ (i:=2) scFirstRow.nd rfl (Or.inl rfl)) (aj_ (ae_ (i:=3) scFirstRow.nd rfl (Or.inl rfl)) b3_))) ad_
  case s2=>exact aa_ (a8_ ai_ (by rfl) B.len PySem.boot_len (a0_ (pv 0) a3_))
  case' kk=>skip
  refine⟨_,rfl,lr,rfl,⟨_,.of hl⟩,hf_ (K:=K) (a:=lr) (xs:=[]) (fun i σ H'=>H=H'/\σ=[some (.ref lr),some v,none,none]) ⟨rfl,rfl⟩ (fun i σ H' _ ⟨e,_⟩=>by subst e;exact .of hl) (fun i x σ H' hx=>by cases hx) ?_⟩
  rintro σ H' ⟨rfl,rfl⟩
  exact⟨_,rfl,lr,_,rfl,.inl (.of hl),k⟩
theorem scTurns:FnScope ["self","rows","tie","place"] ["self"] (defScope sTurns):=⟨rfl,rfl,rfl,by decide +kernel,rfl,by decide +kernel,by decide +kernel⟩
def spTurns1(K:PySem.W.Frag)(C:Addr):Sp:=fun vs H Q _=>∃(p:Addr) (hs:List (Str × Int)) (ts:List (Str × Str)) (fp:List Addr),vs=[.ref p]/\WebAt K C H p hs ts fp/\ts.length=1/\∀l v H',Same H H'->H' l=some (.lst [v])->Q (.ref l) H'
theorem gK_{f C:Addr}{fd:FuncData}(F:Fun K "turns" "Web.turns" sTurns f fd)(B:Bi mg)(T:Txt K mg C)(cT:CalM P w K mg base C 2 "ties" ["self"] (spTiesM K C))(cR:Cal P w K mg base 1 "first_row_without" ["rows","tie"] spFirstRow):FnOk P w K mg base CX0 3 f fd ["self"] (spTurns1 K C):=by
 refine F.ok scTurns (fun vs H Q E h=>?_) (fun cdv A outer s H vs Q E hr h=>?_)
 ·obtain⟨p,hs,ts,fp,rfl,_⟩:=h
  rfl
 ·obtain⟨p,hs,ts,fp,rfl,W,h1,k⟩:=h
  have hr1:Room 1 _:=hr.mono (by decide)
  have sz:=sizeLine_eq
  refine' ⟨_,a2_ ?s1 (a2_ ?s2 (a4_ ?s3)),?kk⟩
  case s1=>exact ab_ (i:=1) scTurns.nd rfl (Or.inl rfl) (az_ a3_)
  case' s2=>refine' b1_ PassesOwn.never rfl (au_ (bW_ cT T.cl hr (pv 0))) (ae_ (i:=2) scTurns.nd rfl (Or.inl rfl)) (a2_ ?b1 (a2_ ?b2 (a4_ ?b3)))
  case b1=>exact ab_ (i:=3) scTurns.nd rfl (Or.inl rfl) (ag_ cR hr1 (a0_ (pv 1) (a0_ (pv 2) a3_)))
  case b2=>exact ak_ (am_ cd_ (pv 3) (a8_ ai_ (by rfl) B.len PySem.boot_len (a0_ (pv 1) a3_)) (nomark _)) (a4_ (b5_ (fl_ PySem.F.plainAttrs_list PySem.F.slot_list_append PySem.F.type_list_append bX_ (pv 1) (a0_ (az_ a3_) a3_)))) ac_
  case b3=>exact b5_ (fl_ PySem.F.plainAttrs_list PySem.F.slot_list_append PySem.F.type_list_append bX_ (as_ aI_ (pv 1) (pv 3) (fun _ _=>rfl)) (a0_ (pv 2) a3_))
  case s3=>exact aa_ (pv 1)
  case' kk=>skip
  refine⟨by show 0<=sizeLine;decide,fun lr nr=>?_⟩
  have s1:=Same.new (o:=.lst []) nr
  have k1:upd H lr (.lst []) lr=some (.lst []):=a1_
  generalize upd H lr (.lst [])=H1 at s1 k1 ⊢
  have W1:=W.same s1
  obtain⟨dx,d1,l2,d3,zs,as,efp,e1,_⟩:=id W1.ex
  refine⟨_,rfl,p,dx,_,rfl,e1,aG_ _ _ _ (by decide +kernel) (by decide +kernel) (by decide +kernel),p,hs,ts,fp,rfl,W1,by omega,fun l ys H2 s2 nl hl tu=>?_⟩
  have k2:=s2 _ _ k1
  have ly:ys.length=1:=by
   have:=Paired.length tu
   rw[List.length_map,eD_] at this
   omega
  have llr:l≠lr:=fun z=>by rw[z,k1] at nl;cases nl
  refine⟨l,rfl,⟨_,.of hl⟩,aW_ (K:=K) (a:=l) (xs:=ys) (fun i σ H3=>∃(v2 v3:Option V),σ=[some (.ref p),some (.ref lr),v2,v3]/\H3 l=some (.lst ys)/\Same H H3/\((i=0/\H2=H3)∨(i=1/\∃v,H3 lr=some (.lst [v])))) ⟨none,none,rfl,hl,s1.trans s2,.inl ⟨rfl,rfl⟩⟩ (fun i σ H3 _ ⟨_,_,_,q,_⟩=>.of q) ?_ ?_⟩
  ·rintro i y σ H3 hy ⟨v2,v3,rfl,q,sm,⟨rfl,rfl⟩|⟨rfl,_⟩⟩
   ·refine⟨_,rfl,_,rfl,lr,y,rfl,k2,?_⟩
    refine setG ?_
    dsimp only
    refine⟨_,rfl,_,rfl,lr,_,rfl,.inl (.of k2),rfl,_,rfl,iteT ?_⟩
    refine⟨_,rfl,.inl ⟨rfl,_,.of k2⟩,by show 0<=sizeLine;decide,fun la na=>?_⟩
    have s4:=Same.new (o:=.lst []) na
    have k4:upd H2 la (.lst []) la=some (.lst []):=a1_
    generalize upd H2 la (.lst [])=H4 at s4 k4 ⊢
    have k24:=s4 _ _ k2
    have q4:=s4 _ _ q
    have ne:la≠lr:=fun z=>by rw[z,k2] at na;cases na
    have nel:la≠l:=fun z=>by rw[z,q] at na;cases na
    refine⟨lr,_,_,rfl,rfl,k24,by show 0<sizeLine;decide,?_⟩
    have k5:upd H4 lr (.lst ([]++[.ref la])) lr=some (.lst [.ref la]):=a1_
    refine⟨_,rfl,_,rfl,lr,_,_,_,rfl,rfl,.of k5,rfl,.inl ⟨rfl,_,.of (by rw[a5_ ne];exact k4)⟩,_,rfl,la,_,_,rfl,rfl,by rw[a5_ ne];exact k4,by show 0<sizeLine;decide,?_⟩
    refine⟨_,_,rfl,?_,fun b o e=>?_,.inr ⟨rfl,.ref la,?_⟩⟩
    ·rw[a5_ nel.symm,a5_ llr]
     exact q4
    ·have n1:b≠la:=a7_ e (sm.free na)
     have n2:b≠lr:=a7_ e nr
     rw[a5_ n1,a5_ n2]
     exact s4 _ _ (sm _ _ e)
    ·rw[a5_ ne.symm]
     exact k5
   ·have:=(List.getElem?_eq_some_iff.mp hy).1
    omega
  ·rintro σ H3 ⟨v2,v3,rfl,q,sm,⟨e,_⟩|⟨_,v,hv⟩⟩
   ·omega
   ·exact⟨_,rfl,k lr v H3 sm hv⟩
theorem scRowsBy:FnScope ["web","rule"] ["web","rule"] (defScope sRowsBy):=⟨rfl,rfl,rfl,by decide +kernel,rfl,by decide +kernel,by decide +kernel⟩
def spRowsBy(K:PySem.W.Frag)(C:Addr):Sp:=fun vs H Q _=>∃(p:Addr) (hs:List (Str × Int)) (ts:List (Str × Str)) (fp:List Addr),∃r∈rl,vs=[.ref p,.str r.1]/\WebAt K C H p hs ts fp/\ts.length=1/\∀H',Same H H'->Q (.int 1) H'
theorem gc_{f C:Addr}{fd:FuncData}(F:Fun K "rows_by" "rows_by" sRowsBy f fd)(B:Bi mg)(T:Txt K mg C)(cW:Cal P w K mg base 2 "checked_words" ["rule"] (spWords K))(cT:CalM P w K mg base C 3 "turns" ["self"] (spTurns1 K C)):FnOk P w K mg base CX0 4 f fd ["web","rule"] (spRowsBy K C):=by
 refine F.ok scRowsBy (fun vs H Q E h=>?_) (fun cdv A outer s H vs Q E hr h=>?_)
 ·obtain⟨p,hs,ts,fp,r,hr,rfl,_⟩:=h
  rfl
 ·obtain⟨p,hs,ts,fp,r,hr',rfl,W,h1,k⟩:=h
  have hr2:Room 2 _:=hr.mono (by decide)
  refine' ⟨_,a2_ ?s1 (a4_ ?s2),?kk⟩
  case s1=>exact ak_ (am_ cu_ (as_ ar_ (ag_ cW hr2 (a0_ (pv 1) a3_)) a6_ (fun _ _=>rfl)) a9_ (nomark _)) (a4_ (aa_ a6_)) ac_
  case s2=>exact aa_ (a8_ (gj_ rfl) (by rfl) B.max PyProof.Rows.Boot.«max» (a0_ a6_ (a0_ (a8_ ai_ (by rfl) B.len PySem.boot_len (a0_ (bW_ cT T.cl hr (pv 0)) a3_)) a3_)))
  case' kk=>skip
  refine⟨_,rfl,r,hr',rfl,fun a ha=>?_⟩
  refine⟨a,_,_,_,rfl,rfl,ha H,rfl,rfl,_,rfl,?_⟩
  refine ite2 (fun c=>?_) (fun c=>?_)
  ·exact k H (Same.refl H)
  ·obtain⟨dx,d1,l2,d3,zs,as,efp,e1,_⟩:=id W.ex
   refine⟨_,rfl,p,dx,_,rfl,e1,aG_ _ _ _ (by decide +kernel) (by decide +kernel) (by decide +kernel),p,hs,ts,fp,rfl,W,h1,fun l v H' s' hl=>?_⟩
   exact⟨l,_,rfl,.inl (.of hl),_,_,rfl,k H' s'⟩
end
end Ev
set_option Elab.async false
set_option linter.all false
set_option maxRecDepth 100000
namespace Ev
open PySem L2
theorem eu_{α:Type}(F:α->Int){B:Int}:∀l:List α,(∀x∈l,0<=F x/\F x<=B)->0<=(l.map F).sum/\(l.map F).sum<=B * l.length
 |[],_=>by simp
 |x::l,h=>by
  obtain⟨a,b⟩:=eu_ F l fun y hy=>h y (List.mem_cons_of_mem _ hy)
  obtain⟨c,d⟩:=h x List.mem_cons_self
  rw[List.map_cons,List.sum_cons,List.length_cons]
  refine⟨by omega,?_⟩
  have:B * ((l.length+1:Nat):Int)=B * l.length+B:=by rw[Int.natCast_add,Int.mul_add];simp
  omega
section
variable{P:Program}{w:World}{K:PySem.W.Frag}{mg:Str->Option Value}{base:Heap}
theorem scLeastSum:FnScope ["goods","placed","web","whole_load","whole_strength","top"] ["goods","placed"] (defScope sLeastSum):=⟨rfl,rfl,rfl,by decide +kernel,rfl,by decide +kernel,by decide +kernel⟩
def spLeastSum(K:PySem.W.Frag)(CG CW:Addr):Sp:=fun vs H Q _=>∃(g p d:Addr) (hs:List (Str × Int)) (ts:List (Str × Str)) (qs:List Pc) (fp:List Addr) (f:Str->Str),vs=[.ref g,.ref d]/\Placed K CG CW H g p d hs ts qs fp f/\(∀q∈qs,0<=q.2.1/\q.2.1<=1000000000)/\∀m H',Same H H'->Q (.int m) H'
set_option maxHeartbeats 1600000 in
theorem er_{f CG CW:Addr}{fd:FuncData}(F:Fun K "least_sum" "least_sum" sLeastSum f fd)(mSum:mg "sum"=none)(T:TxtG K CG)(TW:Txt K mg CW)(cL:Cal P w K mg base 3 "loads_at" ["goods","placed"] (spLoadsAt K CG CW))(cM:Cal P w K mg base 3 "multiple_of_strengths" ["web"] (spMult K CW))(cH:CalM P w K mg base CW 1 "hands" ["self"] (spHands K CW))(cS:CalM P w K mg base CW 2 "strength" ["self","hand"] (spStrength K CW)):FnOk P w K mg base CX0 4 f fd ["goods","placed"] (spLeastSum K CG CW):=by
 refine F.ok scLeastSum (fun vs H Q E h=>?_) (fun cdv A outer s H vs Q E hr h=>?_)
 ·obtain⟨g,p,d,hs,ts,qs,fp,f,rfl,_⟩:=h
  rfl
 ·obtain⟨g,p,d,hs,ts,qs,fp,f,rfl,Pl,wq,k⟩:=h
  have sz:=sizeLine_eq
  have G:=Pl.Gd
  have nl:=G.nlen
  have h8:=G.h8
  have h1:=G.h1
  have hr1:Room 1 _:=hr.mono (by decide)
  have hr2:Room 2 _:=hr.mono (by decide)
  refine' ⟨_,?r0,?kk⟩
  case' r0=>refine' a2_ ?s1 ?r1
  case' r1=>refine' a2_ ?s2 ?r2
  case' r2=>refine' a2_ ?s3 ?r3
  case' r3=>refine' a2_ ?s4 (a4_ ?s5)
  case s1=>exact ab_ (i:=2) scLeastSum.nd rfl (Or.inr rfl) (aM_ (pv 0) rfl)
  case s2=>exact ab_ (i:=3) scLeastSum.nd rfl (Or.inl rfl) (a8_ (fV_ rfl) (by rfl) mSum PyProof.Rows.boot_sum (a0_ (e0_ (ag_ cL hr (a0_ (pv 0) (a0_ (pv 1) a3_)))) a3_))
  case' s3=>refine' ab_ (i:=4) scLeastSum.nd rfl (Or.inl rfl) (a8_ (dD_ rfl) (by rfl) mSum PyProof.Rows.boot_sum (a0_ (aP_ ["hand","web"] 1 [2] (au_ (bW_ cH TW.cl hr1 (pv 2))) (fun fp s H=>ae_ (i:=0) (show (["hand","web"]:List Str).Nodup by decide +kernel) rfl (Or.inl rfl)) (fun fp s H=>aV_) (fun fp s H=>?e1)) a3_))
  case e1=>exact bR_ cS TW.cl hr2 (pv 1) (a0_ (pv 0) a3_)
  case s4=>exact ab_ (i:=5) scLeastSum.nd rfl (Or.inl rfl) (ah_ aN_ (ah_ aN_ (ag_ cM hr (a0_ (pv 2) a3_)) (pv 3)) (pv 3))
  case s5=>exact aa_ (ah_ b7_ (ah_ ev_ (ah_ ba_ (pv 5) (pv 4)) a6_) (pv 4))
  case' kk=>skip
  obtain⟨dx,dw,dy,vs,fpw,g1,g2,g3,g4,g5,m1,m2,m3,m4,m5⟩:=id Pl.G.ex
  refine⟨_,rfl,g,CG,dx,_,_,rfl,g1,T.cl,T.nW,bs_ _ _ _,?_⟩
  refine setG ?_
  dsimp only
  refine⟨_,rfl,_,rfl,g,p,d,hs,ts,qs,fp,f,rfl,Pl,fun d' H1 s1 nd' hd'=>?_⟩
  refine⟨d',_,rfl,hd',fun v hv=>?_⟩
  have s2:=Same.new (o:=valuesV v d') hv
  have k2:upd H1 v (valuesV v d') v=some (valuesV v d'):=a1_
  generalize upd H1 v (valuesV v d')=H2 at s2 k2 ⊢
  have hd2:=s2 _ _ hd'
  have ev:ldV hs qs f=((nmsOf hs).map fun h=>((Sum.inr h:Key),ld f (qs.map wOf) h)).map fun x=>(x.1,V.int x.2):=by
   show (nmsOf hs).map _=_
   rw[List.map_map]
   rfl
  rw[ev] at hd2
  refine⟨v,d',_,rfl,k2,.inl hd2,?_⟩
  rw[List.map_map]
  have lb:=eu_ (fun h=>ld f (qs.map wOf) h) (B:=64000000000) (nmsOf hs) (fun x hx=>iX_ wq Pl.h64 f x)
  obtain⟨L,eL⟩:∃L,L=((nmsOf hs).map fun h=>ld f (qs.map wOf) h).sum:=⟨_,rfl⟩
  rw[<- eL] at lb
  rw[show ((nmsOf hs).map ((fun x:Key × Int=>x.2) ∘ fun h=>((Sum.inr h:Key),ld f (qs.map wOf) h))).sum=L by rw[eL];rfl]
  have lb2:0<=L/\L<=512000000000:=by
   refine⟨lb.1,Int.le_trans lb.2 ?_⟩
   have:((nmsOf hs).length:Int)<=8:=by omega
   omega
  refine setG ?_
  dsimp only
  have W2:=g2.same (s1.trans s2)
  have s02:=s1.trans s2
  obtain⟨dxw,d1,l2,d3,zs0,as,ef,w1,_⟩:=id W2.ex
  refine⟨_,rfl,p,dxw,_,rfl,w1,aG_ _ _ _ (by decide +kernel) (by decide +kernel) (by decide +kernel),p,hs,ts,fpw,rfl,W2,fun lh hlh=>?_⟩
  have s3:=Same.new (o:=.lst ((nmsOf hs).map V.str)) hlh
  have e3:upd H2 lh (.lst ((nmsOf hs).map V.str)) lh=some (.lst ((nmsOf hs).map V.str)):=a1_
  generalize upd H2 lh (.lst ((nmsOf hs).map V.str))=H3 at s3 e3 ⊢
  refine⟨lh,rfl,⟨_,.of e3⟩,fun D hD=>?_⟩
  refine aE_ (own:=1) (fv:=[some (.ref p)]) (xs:=(nmsOf hs).map V.str) rfl gok1 (fun i out H'=>Same H3 H'/\H' D=some (.lst out)/\out=(((nmsOf hs).take i).map (strOf hs)).map V.int) ⟨Same.new hD,a1_,rfl⟩ (fun i out H' _ ⟨sm,_,_⟩=>.of (sm _ _ e3)) (fun out H5 ⟨sm,hD5,eo⟩=>?_) (fun i y out H' hy ⟨sm,hD',eo⟩=>?_)
  ·rw[List.length_map,List.take_length] at eo
   rw[eo] at hD5
   refine⟨D,_,rfl,.of hD5,?_⟩
   have sb:=eu_ (strOf hs) (B:=1000) (nmsOf hs) (fun x hx=>⟨by have:=(cA_ G hx).1;omega,(cA_ G hx).2⟩)
   have s1':1<=((nmsOf hs).map (strOf hs)).sum:=by
    cases e:nmsOf hs with
    |nil=>rw[e] at nl;simp at nl;omega
    |cons x xs=>
     rw[List.map_cons,List.sum_cons]
     have hx:x∈nmsOf hs:=by rw[e];exact List.mem_cons_self
     have a1:=(cA_ G hx).1
     have:=(eu_ (strOf hs) (B:=1000) xs (fun y hy=>⟨by have:=(cA_ (n:=y) G (by rw[e];exact List.mem_cons_of_mem _ hy)).1;omega,(cA_ (n:=y) G (by rw[e];exact List.mem_cons_of_mem _ hy)).2⟩)).1
     omega
   generalize ((nmsOf hs).map (strOf hs)).sum=S at sb s1' ⊢
   have S2:S<1073741824:=by
    have:((nmsOf hs).length:Int)<=8:=by omega
    have:=sb.2
    omega
   refine setG ?_
   dsimp only
   have W5:=g2.same ((s02.trans s3).trans sm)
   refine⟨_,rfl,p,hs,ts,fpw,rfl,W5,G,fun H6 s6=>?_⟩
   refine⟨_,rfl,_,_,rfl,rfl,.inr ⟨by omega,by omega⟩,_,rfl,_,_,rfl,rfl,.inr ⟨by omega,by omega⟩,?_⟩
   exact⟨_,rfl,_,rfl,_,_,rfl,rfl,_,_,rfl,rfl,_,rfl,_,_,rfl,rfl,⟨by omega,S2⟩,k _ H6 (((s02.trans s3).trans sm).trans s6)⟩
  ·obtain⟨n,hn,rfl⟩:=aw_ hy
   have hi:i<(nmsOf hs).length:=(List.getElem?_eq_some_iff.mp hn).1
   refine⟨_,rfl,rfl,fun Nx hN=>yesT ?_⟩
   have W':=(W2.same s3).same sm
   obtain⟨dxw,d1,l2,d3,zs0,as,ef,w1,_⟩:=id W'.ex
   refine⟨_,rfl,p,dxw,_,rfl,w1,aG_ _ _ _ (by decide +kernel) (by decide +kernel) (by decide +kernel),_,rfl,p,n,strOf hs n,hs,ts,fpw,rfl,W',G.hnd,aY_ ((aL_ hs).mem_iff.mp (List.mem_of_getElem? hn)),?_⟩
   refine⟨out,hD',by rw[eo,List.length_map,List.length_map,List.length_take];omega,hN _ _ ⟨ay_ sm hD,a1_,?_⟩⟩
   rw[bp_ hn,List.map_append,List.map_append,eo]
   rfl
end
end Ev
set_option Elab.async false
set_option linter.all false
set_option maxRecDepth 100000
namespace L2
open PySem PySem.Spec PyProof.Rows PySem.W
theorem hq_{X:Cx}{st:Stmt}{t:TS}(h:PS X st t):PS X st (fun D σ H=>∃d kvs o,H d=some (.frz o (.dK kvs))/\(∀o u,X.H₀ d≠some (.frz o u))/\t D σ (upd H d (.dK kvs))):=by
 intro pins s σ H D I q
 obtain⟨d,kvs,o,hd,nf,q⟩:=q
 exact h pins s σ _ D (I.thaw hd nf) q
end L2
namespace Ev
open PySem L2
theorem iteSF{c A B:Prop}[Decidable c](hc:¬c)(h:A):if (!decide c)=true then A else B:=by
 rw[decide_eq_false hc]
 exact iteT h
section
variable{P:Program}{w:World}{K:PySem.W.Frag}{mg:Str->Option Value}{base:Heap}
def NoStd(K:PySem.W.Frag)(H:Hp)(hs:List (Str × Int))(qs:List Pc)(fp:List Addr)(v:V):Prop:=(∃t,TyOf K H v t/\PySem.W.kitOne K t (.type "dict")=some false) ∨
 ∃(d:Addr) (ns:List Str) (f:Str->Str),v=.ref d/\d∉fp/\H d=some (.dK (stF ns f))/\(∀n∈ns,n∈qs.map (·.1))/\((∃n∈ns,f n∉hs.map (·.1))∨ns.length≠qs.length)
def spCStandN(K:PySem.W.Frag)(CG CW CS:Addr):Sp:=fun vs H _ E=>∃(g p:Addr) (v:V) (hs:List (Str × Int)) (ts:List (Str × Str)) (qs:List Pc) (fp:List Addr),vs=[.ref g,v]/\GoodsAt K CG CW H g p hs ts qs fp/\NoStd K H hs qs fp v/\∀H',Same H H'->E (.ref CS) none H'
set_option maxHeartbeats 1600000 in
theorem fb_{f CG CW CS:Addr}{fd:FuncData}(F:Fun K "checked_stand" "checked_stand" sCStand f fd)(B:Bi mg)(R:Ref K mg "NoStand" CS)(T:TxtG K CG)(TW:Txt K mg CW)(cH:CalM P w K mg base CG 1 "has_piece" ["self","thing"] (spGHas K CG CW))(cW:CalM P w K mg base CW 1 "has_hand" ["self","thing"] (spHas K CW))(cN:CalM P w K mg base CG 1 "names" ["self"] (spGNames K CG CW)) :
  FnOk P w K mg base (CX1 P w) 2 f fd ["goods","stand"] (spCStandN K CG CW CS):=by
 refine F.okQ scCStand (fun vs H Q E h=>?_) (fun cdv A outer s H vs Q E hr h own ps rs=>?_)
 ·obtain⟨g,p,v,hs,ts,qs,fp,rfl,_⟩:=h
  rfl
 ·obtain⟨g,p,v,hs,ts,qs,fp,rfl,G,no,k⟩:=h
  have hu:=bk_ hr
  refine' ⟨_,?r0,?kk⟩
  case' r0=>refine' a2_ ?s1 ?r1
  case s1=>exact ak_ (av_ (ax_ (a8_ ap_ (by rfl) B.isi PyProof.Rows.Boot.«isinstance» (a0_ (pv 1) (a0_ (aA_ (v:=.ty "dict") (by rfl) B.dict PyProof.Rows.Boot.«dict» rfl) a3_))))) (a4_ (bh_ rfl rs R.mg R.ex PySem.F.excBase_ValueError (by rfl) (a0_ a9_ a3_))) ac_
  case' r1=>refine' a2_ ?s2 ?r2
  case' s2=>refine' ek_ (b1_ own rfl ?i2 ?g2 ?b2)
  case i2=>exact bP_ (bz_ (pv 1))
  case g2=>exact c5_ rfl (aj_ (ae_ (i:=2) scCStand.nd rfl (Or.inl rfl)) (aj_ (ae_ (i:=3) scCStand.nd rfl (Or.inl rfl)) b3_))
  case b2=>exact a2_ (ak_ (av_ (ax_ (bR_ cH T.cl hr (pv 0) (a0_ (pv 2) a3_)))) ad_ ac_) (a4_ (ak_ (av_ (ax_ (bR_ cW TW.cl hr (aM_ (pv 0) rfl) (a0_ (pv 3) a3_)))) (a4_ (hq_ (bh_ rfl rs R.mg R.ex PySem.F.excBase_ValueError (by rfl) (a0_ a9_ a3_)))) ac_))
  case' r2=>refine' a2_ ?s3 ?r3
  case s3=>exact ab_ (i:=4) scCStand.nd rfl (Or.inl rfl) (bW_ cN T.cl hr (pv 0))
  case' r3=>refine' a2_ ?s4 ad_
  case s4=>exact ak_ (am_ cu_ (a8_ dv_ (by rfl) B.len PySem.boot_len (a0_ (pv 1) a3_)) (a8_ ai_ (by rfl) B.len PySem.boot_len (a0_ (pv 4) a3_)) (nomark _)) (a4_ (bh_ rfl rs R.mg R.ex PySem.F.excBase_ValueError (by rfl) (a0_ a9_ a3_))) ac_
  case' kk=>skip
  have one:1<=sizeLine:=by decide
  rcases no with⟨t,ty,e⟩|⟨d,ns,f,rfl,dfp,hd,inn,bad⟩
  ·exact⟨_,rfl,_,_,_,_,rfl,ty,e,_,rfl,iteT ⟨one,k H (Same.refl H)⟩⟩
  refine⟨_,rfl,_,_,_,_,rfl,.dK hd,rfl,_,rfl,iteF ?_⟩
  refine⟨d,_,hd,?_⟩
  refine⟨_,rfl,d,_,rfl,hd,fun v hv=>?_⟩
  have s1:=Same.new (o:=itemsV v d) hv
  have hv1:upd H v (itemsV v d) v=some (itemsV v d):=a1_
  have G1:=G.same s1
  have hd1:=s1 _ _ hd
  generalize upd H v (itemsV v d)=H1 at s1 hv1 G1 hd1 ⊢
  refine⟨v,d,_,rfl,hv1,hd1,fun o=>?_⟩
  refine bN_ (fun i σ H'=>∃(v2 v3:Option V),σ=[some (.ref g),some (.ref d),v2,v3,none]/\Fz d o (stF ns f) H1 H'/\∀n∈ns.take i,f n∈hs.map (·.1)) ⟨none,none,rfl,Fz.start,by simp⟩ (fun i σ H' _ ⟨_,_,_,z,_⟩=>z.at_) ?_ ?_
  ·rintro i ky x σ H2 hx ⟨v2,v3,rfl,fz,ok⟩ t ht
   obtain⟨n,hn,rfl,rfl⟩:=dK_ hx
   have nm:=List.mem_of_getElem? hn
   have s2:=Same.new (o:=.tup [.str n,.str (f n)]) ht
   have fz2:=fz.step s2
   have e2:upd H2 t (.tup [.str n,.str (f n)]) t=some (.tup [.str n,.str (f n)]):=a1_
   show gTup _ _ _ _ _ (upd H2 t (.tup [.str n,.str (f n)])) _
   generalize upd H2 t (.tup [.str n,.str (f n)])=H3 at s2 fz2 e2 ⊢
   refine⟨t,_,rfl,.of e2,rfl,_,_,rfl,_,_,rfl,rfl,?_⟩
   have G3:=fz2.goods hd1 G1 dfp
   obtain⟨dx,dw,dy,vs,fpw,h1,h2,h3,h4,h5,m1,m2,m3,m4,m5⟩:=id G3.ex
   obtain⟨dxw,d1,l2,d3,zs0,as,ef,w1,_⟩:=id h2.ex
   have hno:(gflds p dw dy).lookup ("has_piece":Str)=none:=bx_ _ _ _ (by decide +kernel) (by decide +kernel) (by decide +kernel)
   have hnw:(flds d1 l2 d3).lookup ("has_hand":Str)=none:=aG_ _ _ _ (by decide +kernel) (by decide +kernel) (by decide +kernel)
   refine⟨_,rfl,g,dx,_,rfl,h1,hno,_,rfl,g,p,.str n,some n,hs,ts,qs,fp,rfl,G3,rfl,_,rfl,?_⟩
   rw[show inB (qs.map (·.1)) (some n)=true from decide_eq_true (inn n nm)]
   refine iteF ?_
   refine⟨_,rfl,g,CG,dx,_,_,rfl,h1,T.cl,T.nW,bs_ _ _ _,p,dxw,_,rfl,w1,hnw,_,rfl,p,f n,hs,ts,fpw,rfl,h2,_,rfl,?_⟩
   by_cases c:f n∈hs.map (·.1)
   ·rw[decide_eq_true c]
    refine iteF ⟨_,_,rfl,fz2,fun m hm=>?_⟩
    rw[bp_ hn] at hm
    rcases List.mem_append.mp hm with hm|hm
    ·exact ok m hm
    ·rw[List.mem_singleton.mp hm];exact c
   ·rw[decide_eq_false c]
    refine iteT ⟨d,_,o,fz2.at_,fun o u z=>?_,one,k _ (s1.trans (fz2.thaw hd1))⟩
    have z:H d=some (.frz o u):=z
    rw[hd] at z
    cases z
  rintro σ H2 ⟨v2,v3,rfl,fz,ok⟩
  refine⟨o,fz.at_,?_⟩
  have s2:=s1.trans (fz.thaw hd1)
  have hd2:upd H2 d (.dK (stF ns f)) d=some (.dK (stF ns f)):=a1_
  generalize upd H2 d (.dK (stF ns f))=H3 at s2 hd2 ⊢
  have G3:=G.same s2
  obtain⟨dx,dw,dy,vs,fpw,h1,h2,h3,h4,h5,m1,m2,m3,m4,m5⟩:=id G3.ex
  refine⟨_,rfl,g,dx,_,rfl,h1,bx_ _ _ _ (by decide +kernel) (by decide +kernel) (by decide +kernel),g,p,hs,ts,qs,fp,rfl,G3,fun ln hln=>?_⟩
  have s3:=Same.new (o:=.lst ((qs.map (·.1)).map V.str)) hln
  have e3:upd H3 ln (.lst ((qs.map (·.1)).map V.str)) ln=some (.lst ((qs.map (·.1)).map V.str)):=a1_
  have hd3:=s3 _ _ hd2
  generalize upd H3 ln (.lst ((qs.map (·.1)).map V.str))=H4 at s3 e3 hd3 ⊢
  refine⟨_,rfl,d,_,rfl,hd3,_,rfl,ln,_,rfl,.inl (.of e3),rfl,_,rfl,?_⟩
  rcases bad with⟨n,hn,nb⟩|ne
  ·rw[b0_,List.take_length] at ok
   exact absurd (ok n hn) nb
  ·refine iteSF (fun z=>ne ?_) ⟨one,k _ (s2.trans s3)⟩
   rw[b0_,List.length_map,List.length_map] at z
   injection z with z
   omega
end
end Ev
set_option Elab.async false
set_option linter.all false
set_option maxRecDepth 100000
namespace Ev
open PySem L2
structure CalC (P:Program) (w:World) (K:PySem.W.Frag) (mg:Str->Option Value) (base:Heap) (C:Addr) (k:Nat) (x:Str) (ps:List Str) (sp:Sp):Prop where
 ex:∃f fd,FnOk P w K mg base CX0 k f fd ps sp/\Mk K C f/\mg x=some (.ref C)/\Binds K fd ps []
theorem hx_{X:Cx}{C:Addr}{k:Nat}{x:Str}{ps:List Str}{sp:Sp}{p pos:Pos}{e:Expr}{es:List Expr}{t:TA}(c:CalC X.prog X.w X.K X.mg X.base C k x ps sp)(hr:Room (k+1) X.A)(ha:PA X (e::es) t)(hg:Gl X x:=by rfl)(hdb:(x == ("__debug__":Str))=false:=by decide)
  (he:starEach (e::es) X.env=(false,eval e X.env)::starEach es X.env:=by rfl) (hpl:(backTo pos (starEach es X.env)).any (·.1)=false:=by rfl):PE X (.Call (.Name x p) (e::es) [] pos) (tMake C sp [] E0 t):=by
 obtain⟨f,fd,F,M,m,b⟩:=c.ex
 exact iq_ M F hr hg m b .nil pass0 ha hdb he hpl
section
variable{P:Program}{w:World}{K:PySem.W.Frag}{mg:Str->Option Value}{base:Heap}
theorem scRestBy:FnScope ["goods","stand","rule","placed"] ["goods","stand","rule"] (defScope sRestBy):=⟨rfl,rfl,rfl,by decide +kernel,rfl,by decide +kernel,by decide +kernel⟩
structure Std1 (K:PySem.W.Frag) (CG CW:Addr) (H:Hp) (g p d:Addr) (hs:List (Str × Int)) (ts:List (Str × Str)) (qs:List Pc) (fp:List Addr) (ns:List Str) (f:Str->Str):Prop where
 G:GoodsAt K CG CW H g p hs ts qs fp
 Gd:Good hs ts
 dfp:d∉fp
 hd:H d=some (.dK (stF ns f))
 so:StandOk hs qs ns f
 nd:(qs.map (·.1)).Nodup
 h64:qs.length<64
 wq:∀q∈qs,0<=q.2.1/\q.2.1<=1000000000
 fpo:∀b∈fp,∃o,H b=some o
 one:ts.length=1
def spRestBy(K:PySem.W.Frag)(CG CW:Addr):Sp:=fun vs H Q _=>∃(g p d:Addr) (hs:List (Str × Int)) (ts:List (Str × Str)) (qs:List Pc) (fp:List Addr) (ns:List Str) (f:Str->Str),∃r∈rl,vs=[.ref g,.ref d,.str r.1]/\Std1 K CG CW H g p d hs ts qs fp ns f/\guB ["fall","calm"] r=true/\∀v H',Same H H'->Q v H'
theorem g1_{f CG CW:Addr}{fd:FuncData}(F:Fun K "rest_by" "rest_by" sRestBy f fd)(T:TxtG K CG)(cG:Cal P w K mg base 5 "checked_guard" ["rule"] spCGuard)(cC:Cal P w K mg base 2 "checked_stand" ["goods","stand"] (spCStand K CG CW))(cS:Cal P w K mg base 5 "sum_at" ["goods","placed"] (spSumAt K CG CW))(cL:Cal P w K mg base 4 "least_sum" ["goods","placed"] (spLeastSum K CG CW))(cR:Cal P w K mg base 4 "rows_by" ["web","rule"] (spRowsBy K CW)):FnOk P w K mg base CX0 6 f fd ["goods","stand","rule"] (spRestBy K CG CW):=by
 refine F.ok scRestBy (fun vs H Q E h=>?_) (fun cdv A outer s H vs Q E hr h=>?_)
 ·obtain⟨g,p,d,hs,ts,qs,fp,ns,f,r,hr,rfl,_⟩:=h
  rfl
 ·obtain⟨g,p,d,hs,ts,qs,fp,ns,f,r,hr',rfl,S,gu,k⟩:=h
  have hr2:Room 2 _:=hr.mono (by decide)
  have hr4:Room 4 _:=hr.mono (by decide)
  refine' ⟨_,a2_ ?s1 (a2_ ?s2 (a4_ ?s3)),?kk⟩
  case s1=>exact b5_ (ag_ cG hr (a0_ (pv 2) a3_))
  case s2=>exact ab_ (i:=3) scRestBy.nd rfl (Or.inl rfl) (ag_ cC hr2 (a0_ (pv 0) (a0_ (pv 1) a3_)))
  case s3=>exact aa_ (ah_ aN_ (ah_ ev_ (ag_ cS hr (a0_ (pv 0) (a0_ (pv 3) a3_))) (ag_ cL hr4 (a0_ (pv 0) (a0_ (pv 3) a3_)))) (ag_ cR hr4 (a0_ (aM_ (pv 0) rfl) (a0_ (pv 2) a3_))))
  case' kk=>skip
  refine⟨_,rfl,r,hr',rfl,gu,fun H1 s1=>?_⟩
  refine⟨_,rfl,_,rfl,g,p,d,hs,ts,qs,fp,ns,f,rfl,S.G.same s1,S.dfp,s1 _ _ S.hd,S.so,S.nd,S.h64,fun d' H2 s2 nd' hd'=>?_⟩
  refine setG ?_
  dsimp only
  have G2:=(S.G.same s1).same s2
  have dfp2:d'∉fp:=fun m=>by
   obtain⟨o,e⟩:=S.fpo d' m
   rw[s1 _ _ e] at nd'
   cases nd'
  have Pl:Placed K CG CW H2 g p d' hs ts qs fp f:=⟨G2,S.Gd,dfp2,hd',fun n hn=>S.so.at_ n (S.so.perm.mem_iff.mpr hn),S.nd,S.h64⟩
  refine⟨_,rfl,_,rfl,g,p,d',hs,ts,qs,fp,f,rfl,Pl,S.wq,fun H3 s3=>?_⟩
  have Pl3:Placed K CG CW H3 g p d' hs ts qs fp f:=⟨G2.same s3,S.Gd,dfp2,s3 _ _ hd',Pl.at_,S.nd,S.h64⟩
  refine⟨_,rfl,_,rfl,g,p,d',hs,ts,qs,fp,f,rfl,Pl3,S.wq,fun m H4 s4=>?_⟩
  refine⟨_,_,rfl,rfl,?_⟩
  obtain⟨dx,dw,dy,vs,fpw,h1,h2,_⟩:=id (Pl3.G.same s4).ex
  refine⟨_,rfl,g,CG,dx,_,_,rfl,h1,T.cl,T.nW,bs_ _ _ _,_,rfl,p,hs,ts,fpw,r,hr',rfl,h2,S.one,fun H5 s5=>?_⟩
  exact⟨_,_,rfl,rfl,.inr ⟨by decide,by decide⟩,k _ H5 ((((s1.trans s2).trans s3).trans s4).trans s5)⟩
def spCStandG(K:PySem.W.Frag)(CG CW CS:Addr):Sp:=fun vs H Q E=>spCStandN K CG CW CS vs H Q (fun c _ H'=>∀dd,E c dd H')
def spRestN(K:PySem.W.Frag)(CG CW CR CL CS:Addr):Sp:=fun vs H _ E=>∃(g p:Addr) (v vr:V) (hs:List (Str × Int)) (ts:List (Str × Str)) (qs:List Pc) (fp:List Addr),vs=[.ref g,v,vr]/\GoodsAt K CG CW H g p hs ts qs fp /\
 ((NoTx K H rnames vr/\∀H',Same H H'->E (.ref CR) none H')∨(∃r∈rl,vr=.str r.1/\guB ["fall","calm"] r=false/\∀H',Same H H'->E (.ref CL) none H') ∨
  ∃r∈rl,vr=.str r.1/\guB ["fall","calm"] r=true/\NoStd K H hs qs fp v/\∀dd H',Same H H'->E (.ref CS) dd H')
theorem NoStd.same{H H':Hp}{hs:List (Str × Int)}{qs:List Pc}{fp:List Addr}{v:V}(h:NoStd K H hs qs fp v)(s:Same H H'):NoStd K H' hs qs fp v:=by
 rcases h with⟨t,ty,e⟩|⟨d,ns,f,rfl,a,hd,b⟩
 ·exact .inl ⟨t,L2.TyOf.same s ty,e⟩
 ·exact .inr ⟨d,ns,f,rfl,a,s _ _ hd,b⟩
theorem hy_{f CG CW CR CL CS:Addr}{fd:FuncData}(F:Fun K "rest_by" "rest_by" sRestBy f fd)(cG:CalG P w K mg base 5 "checked_guard" ["rule"] (spCG K CR CL))(cC:CalG P w K mg base 2 "checked_stand" ["goods","stand"] (spCStandG K CG CW CS)):FnOk P w K mg base (CX2 P w) 6 f fd ["goods","stand","rule"] (spRestN K CG CW CR CL CS):=by
 refine F.okG scRestBy (fun vs H Q E h=>?_) (fun cdv A outer s H vs Q E hr h hp ro rm=>?_)
 ·obtain⟨g,p,v,vr,hs,ts,qs,fp,rfl,_⟩:=h
  rfl
 ·obtain⟨g,p,v,vr,hs,ts,qs,fp,rfl,G,h⟩:=h
  have hr2:Room 2 _:=hr.mono (by decide)
  refine' ⟨_,a2_ ?s1 (a2_ ?s2 ad_),?kk⟩
  case s1=>exact b5_ (cc_ cG hr hp (a0_ (pv 2) a3_))
  case s2=>exact ab_ (i:=3) scRestBy.nd rfl (Or.inl rfl) (cc_ cC hr2 hp (a0_ (pv 0) (a0_ (pv 1) a3_)))
  case' kk=>skip
  rcases h with⟨n,k⟩|⟨r,hr',rfl,gu,k⟩|⟨r,hr',rfl,gu,no,k⟩
  ·exact⟨_,rfl,.inr (.inl ⟨vr,rfl,n,k⟩)⟩
  ·exact⟨_,rfl,.inr (.inr ⟨r,hr',rfl,gu,k⟩)⟩
  ·refine⟨_,rfl,.inl ⟨r,hr',rfl,gu,fun H1 s1=>?_⟩⟩
   exact⟨_,rfl,_,rfl,g,p,v,hs,ts,qs,fp,rfl,G.same s1,no.same s1,fun H' s' dd=>k dd H' (s1.trans s')⟩
def BadWR(K:PySem.W.Frag)(CR CL CT:Addr)(H:Hp)(vw vr:V)(E:XK):Prop:=(NoTx K H rnames vr/\∀H',Same H H'->E (.ref CR) none H')∨(∃r∈rl,vr=.str r.1/\guB ["fall","calm"] r=false/\∀H',Same H H'->E (.ref CL) none H') ∨
  ∃r∈rl,vr=.str r.1/\guB ["fall","calm"] r=true/\NoWt K H vw/\∀H',Same H H'->E (.ref CT) none H'
def spGapN(K:PySem.W.Frag)(CR CL CT:Addr):Sp:=fun vs H _ E=>∃(v vw vr:V),vs=[v,vw,vr]/\BadWR K CR CL CT H vw vr E
theorem ix_{f CR CL CT:Addr}{fd:FuncData}(F:Fun K "gap_of" "gap_of" sGap f fd)(cG:CalG P w K mg base 5 "checked_guard" ["rule"] (spCG K CR CL))(cW:CalG P w K mg base 3 "check_weight" ["thing"] (spCW K CT)):FnOk P w K mg base (CX2 P w) 6 f fd ["web","weight","rule"] (spGapN K CR CL CT):=by
 refine F.okG scGap (fun vs H Q E h=>?_) (fun cdv A outer s H vs Q E hr h hp ro rm=>?_)
 ·obtain⟨v,vw,vr,rfl,_⟩:=h
  rfl
 ·obtain⟨v,vw,vr,rfl,h⟩:=h
  have hr3:Room 3 _:=hr.mono (by decide)
  refine' ⟨_,a2_ ?s1 (a2_ ?s2 ad_),?kk⟩
  case s1=>exact ab_ (i:=3) scGap.nd rfl (Or.inl rfl) (cc_ cG hr hp (a0_ (pv 2) a3_))
  case s2=>exact b5_ (cc_ cW hr3 hp (a0_ (pv 1) a3_))
  case' kk=>skip
  rcases h with⟨n,k⟩|⟨r,hr',rfl,gu,k⟩|⟨r,hr',rfl,gu,no,k⟩
  ·exact⟨_,rfl,.inr (.inl ⟨vr,rfl,n,k⟩)⟩
  ·exact⟨_,rfl,.inr (.inr ⟨r,hr',rfl,gu,k⟩)⟩
  ·refine⟨_,rfl,.inl ⟨r,hr',rfl,gu,fun H1 s1=>?_⟩⟩
   exact⟨_,rfl,.inr ⟨vw,rfl,no.same s1,k H1 s1⟩⟩
theorem scWorst:FnScope ["weight","rule","guard","heavy","pieces","stand"] ["weight","rule"] (defScope sWorst):=⟨rfl,rfl,rfl,by decide +kernel,rfl,by decide +kernel,by decide +kernel⟩
def spWorstN(K:PySem.W.Frag)(CR CL CT:Addr):Sp:=fun vs H _ E=>∃(vw vr:V),vs=[vw,vr]/\BadWR K CR CL CT H vw vr E
theorem gy_{f CR CL CT:Addr}{fd:FuncData}(F:Fun K "worst_of" "worst_of" sWorst f fd)(cG:CalG P w K mg base 5 "checked_guard" ["rule"] (spCG K CR CL))(cW:CalG P w K mg base 3 "check_weight" ["thing"] (spCW K CT)):FnOk P w K mg base (CX2 P w) 6 f fd ["weight","rule"] (spWorstN K CR CL CT):=by
 refine F.okG scWorst (fun vs H Q E h=>?_) (fun cdv A outer s H vs Q E hr h hp ro rm=>?_)
 ·obtain⟨vw,vr,rfl,_⟩:=h
  rfl
 ·obtain⟨vw,vr,rfl,h⟩:=h
  have hr3:Room 3 _:=hr.mono (by decide)
  refine' ⟨_,a2_ ?s1 (a2_ ?s2 ad_),?kk⟩
  case s1=>exact ab_ (i:=2) scWorst.nd rfl (Or.inl rfl) (cc_ cG hr hp (a0_ (pv 1) a3_))
  case s2=>exact b5_ (cc_ cW hr3 hp (a0_ (pv 0) a3_))
  case' kk=>skip
  rcases h with⟨n,k⟩|⟨r,hr',rfl,gu,k⟩|⟨r,hr',rfl,gu,no,k⟩
  ·exact⟨_,rfl,.inr (.inl ⟨vr,rfl,n,k⟩)⟩
  ·exact⟨_,rfl,.inr (.inr ⟨r,hr',rfl,gu,k⟩)⟩
  ·refine⟨_,rfl,.inl ⟨r,hr',rfl,gu,fun H1 s1=>?_⟩⟩
   exact⟨_,rfl,.inr ⟨vw,rfl,no.same s1,k H1 s1⟩⟩
theorem scHeavy:FnScope ["guard"] ["guard"] (defScope sHeavy):=⟨rfl,rfl,rfl,by decide +kernel,rfl,by decide +kernel,by decide +kernel⟩
def heavyL:Option Str->List Str
 |some g=>if g="fall" then (["p"]:List Str) else if g="calm" then (["p","q"]:List Str) else (["p","q","r","s"]:List Str)
 |none=>(["p","q","r","s"]:List Str)
def spHeavy:Sp:=fun vs H Q _=>∃o:Option Str,vs=[optV o]/\∀l,H l=none->Q (.ref l) (upd H l (.lst ((heavyL o).map V.str)))
theorem hG_{f:Addr}{fd:FuncData}(F:Fun K "heavy_pieces" "heavy_pieces" sHeavy f fd):FnOk P w K mg base CX0 1 f fd ["guard"] spHeavy:=by
 refine F.ok scHeavy (fun vs H Q E h=>?_) (fun cdv A outer s H vs Q E hr h=>?_)
 ·obtain⟨o,rfl,_⟩:=h
  rfl
 ·obtain⟨o,rfl,k⟩:=h
  refine' ⟨_,a2_ ?s1 (a2_ ?s2 (a4_ ?s3)),?kk⟩
  case s1=>exact ak_ (am_ cd_ (pv 0) a9_ (nomark _)) (a4_ (aa_ (az_ (a0_ a9_ a3_)))) ac_
  case s2=>exact ak_ (am_ cd_ (pv 0) a9_ (nomark _)) (a4_ (aa_ (az_ (a0_ a9_ (a0_ a9_ a3_))))) ac_
  case s3=>exact aa_ (az_ (a0_ a9_ (a0_ a9_ (a0_ a9_ (a0_ a9_ a3_)))))
  case' kk=>skip
  cases o with
  |none=>exact⟨_,rfl,rfl,_,rfl,iteF ⟨_,rfl,rfl,_,rfl,iteF ⟨by show 4<=sizeLine;decide,k⟩⟩⟩
  |some g=>
   refine⟨_,rfl,rfl,_,rfl,?_⟩
   by_cases c:g="fall"
   ·subst c
    exact iteT ⟨by show 1<=sizeLine;decide,k⟩
   ·rw[show decide (optV (some g)=V.str "fall")=false from decide_eq_false fun z=>c (V.str.inj z)]
    refine iteF ⟨_,rfl,rfl,_,rfl,?_⟩
    by_cases c2:g="calm"
    ·subst c2
     exact iteT ⟨by show 2<=sizeLine;decide,k⟩
    ·rw[show decide (optV (some g)=V.str "calm")=false from decide_eq_false fun z=>c2 (V.str.inj z)]
     refine iteF ⟨by show 4<=sizeLine;decide,fun l hl=>?_⟩
     have:=k l hl
     rw[show heavyL (some g)=(["p","q","r","s"]:List Str) by simp[heavyL,c,c2]] at this
     exact this
end
end Ev
set_option Elab.async false
set_option linter.all false
set_option maxRecDepth 100000
namespace Ev
open PySem L2
def hsW:List (Str × Int):=[("a",1),("b",1)]
def tsW:List (Str × Str):=[("a","b")]
theorem goodW:Good hsW tsW:=⟨by unfold hsW goodH;decide +kernel,by decide +kernel,by decide,by decide,by unfold tsW goodT;decide +kernel,by decide +kernel,by decide,by unfold tsW hsW;decide +kernel⟩
theorem h5_(o:Option Str):(∀n∈heavyL o,nameB n=true/\n≠"t")/\(heavyL o).Nodup/\1<=(heavyL o).length/\(heavyL o).length<=4:=by
 have all:∀l∈([["p"],["p","q"],["p","q","r","s"]]:List (List Str)),(∀n∈l,nameB n=true/\n≠"t")/\l.Nodup/\1<=l.length/\l.length<=4:=by decide +kernel
 refine all _ ?_
 cases o with
 |none=>simp[heavyL]
 |some g=>
  show (if g=("fall":Str) then (["p"]:List Str) else if g=("calm":Str) then (["p","q"]:List Str) else (["p","q","r","s"]:List Str))∈_
  by_cases c:g="fall"
  ·rw[if_pos c]
   exact List.mem_cons_self
  ·rw[if_neg c]
   by_cases c2:g="calm"
   ·rw[if_pos c2]
    exact List.mem_cons_of_mem _ List.mem_cons_self
   ·rw[if_neg c2]
    exact List.mem_cons_of_mem _ (List.mem_cons_of_mem _ List.mem_cons_self)
theorem cg_{α β γ:Type}{F:α->γ->Prop}{k:β->γ}:∀{ys:List α} {as:List β},Paired (fun y a=>F y (k a)) ys as->Paired F ys (as.map k)
 |_,_,.nil=>.nil
 |_,_,.cons h t=>.cons h (cg_ t)
section
variable{P:Program}{w:World}{K:PySem.W.Frag}{mg:Str->Option Value}{base:Heap}
def spWorst:Sp:=fun vs H Q _=>∃wt:Int,∃r∈rl,vs=[.int wt,.str r.1]/\1<=wt/\wt<=1000000000/\guB ["fall","calm"] r=true/\∀v H',Same H H'->Q v H'
set_option maxHeartbeats 1600000 in
theorem hU_{f CG CW:Addr}{fd:FuncData}(F:Fun K "worst_of" "worst_of" sWorst f fd)(B:Bi mg)(cG:Cal P w K mg base 5 "checked_guard" ["rule"] spCGuard)(cW:Cal P w K mg base 3 "check_weight" ["thing"] spCWeight)(cH:Cal P w K mg base 1 "heavy_pieces" ["guard"] spHeavy)(cMk:CalC P w K mg base CW 5 "Web" ["self","hands","ties"] (spInit K CW))(cGd:CalC P w K mg base CG 7 "Goods" ["self","web","pieces"] (spGInit K CG CW)):FnOk P w K mg base CX0 9 f fd ["weight","rule"] spWorst:=by
 refine F.ok scWorst (fun vs H Q E h=>?_) (fun cdv A outer s H vs Q E hr h=>?_)
 ·obtain⟨wt,r,hr,rfl,_⟩:=h
  rfl
 ·obtain⟨wt,r,hr',rfl,w1,w2,gu,k⟩:=h
  have sz:=sizeLine_eq
  have hu:=bk_ hr
  have hr1:Room 1 _:=hr.mono (by decide)
  have hr3:Room 3 _:=hr.mono (by decide)
  have hr5:Room 5 _:=hr.mono (by decide)
  have hr6:Room 6 _:=hr.mono (by decide)
  refine' ⟨_,?r0,?kk⟩
  case' r0=>refine' a2_ ?s1 ?r1
  case' r1=>refine' a2_ ?s2 ?r2
  case' r2=>refine' a2_ ?s3 ?r3
  case' r3=>refine' a2_ ?s4 ?r4
  case' r4=>refine' a2_ ?s5 ?r5
  case' r5=>refine' a2_ ?s6 (a4_ ?s7)
  case s1=>exact ab_ (i:=2) scWorst.nd rfl (Or.inl rfl) (ag_ cG hr5 (a0_ (pv 1) a3_))
  case s2=>exact b5_ (ag_ cW hr3 (a0_ (pv 0) a3_))
  case s3=>exact ab_ (i:=3) scWorst.nd rfl (Or.inl rfl) (ag_ cH hr1 (a0_ (pv 2) a3_))
  case s4=>exact fN_ (i:=4) ["name","weight"] 1 [0] scWorst.nd rfl (Or.inl rfl) (au_ (pv 3)) (fun fp s H=>ae_ (i:=0) (show (["name","weight"]:List Str).Nodup by decide +kernel) rfl (Or.inl rfl)) (fun fp s H=>aV_) (fun fp s H=>aC_ (a0_ (pv 0) (a0_ (pv 1) (a0_ ci_ a3_))))
  case s5=>exact ab_ (i:=5) scWorst.nd rfl (Or.inl rfl) (aJ_ (aT_ rfl) (by rfl) B.dict PyProof.Rows.Boot.«dict» (a0_ (aP_ ["name"] 1 [] (au_ (pv 3)) (fun fp s H=>ae_ (i:=0) (show (["name"]:List Str).Nodup by decide +kernel) rfl (Or.inl rfl)) (fun fp s H=>aV_) (fun fp s H=>aC_ (a0_ (pv 0) (a0_ a9_ a3_)))) a3_))
  case s6=>exact ak_ (am_ cu_ (pv 2) a9_ (nomark _)) (a2_ (b5_ (fl_ PySem.F.plainAttrs_list PySem.F.slot_list_append PySem.F.type_list_append bX_ (pv 4) (a0_ (aC_ (a0_ a9_ (a0_ a6_ (a0_ ci_ a3_)))) a3_))) (a4_ (bG_ hu (pv 5) a9_ a9_ rfl))) ac_
  case s7=>exact aa_ (aC_ (a0_ (hx_ cGd hr (a0_ (hx_ cMk hr6 (a0_ (az_ (a0_ (aC_ (a0_ a9_ (a0_ a6_ a3_))) (a0_ (aC_ (a0_ a9_ (a0_ a6_ a3_))) a3_))) (a0_ (az_ (a0_ (aC_ (a0_ a9_ (a0_ a9_ a3_))) a3_)) a3_))) (a0_ (pv 4) a3_))) (a0_ (pv 5) a3_)))
  case' kk=>skip
  obtain⟨hn,hnd,hl1,hl4⟩:=h5_ r.2.2.2
  refine⟨_,rfl,r,hr',rfl,gu,fun H1 s1=>?_⟩
  refine⟨_,rfl,wt,rfl,w1,w2,?_⟩
  refine⟨_,rfl,r.2.2.2,rfl,fun lh nh=>?_⟩
  have s2:=Same.new (o:=.lst ((heavyL r.2.2.2).map V.str)) nh
  have k2:upd H1 lh (.lst ((heavyL r.2.2.2).map V.str)) lh=some (.lst ((heavyL r.2.2.2).map V.str)):=a1_
  generalize upd H1 lh (.lst ((heavyL r.2.2.2).map V.str))=H2 at s2 k2 ⊢
  have s02:=s1.trans s2
  refine setG ?_
  dsimp only
  generalize heavyL r.2.2.2=ns at hn hnd hl1 hl4 k2 ⊢
  refine⟨_,rfl,lh,rfl,⟨_,.of k2⟩,fun D hD=>?_⟩
  refine aE_ (own:=1) (fv:=[some (.int wt)]) (xs:=ns.map V.str) rfl gok1 (fun i out H'=>Same H2 H'/\H' D=some (.lst out)/\Paired (fun y n=>∃t,y=V.ref t/\H' t=some (.tup [.str n,.int wt,.non])) out (ns.take i)) ⟨Same.new hD,a1_,.nil⟩ (fun i out H' _ ⟨sm,_,_⟩=>.of (sm _ _ k2)) (fun out H3 ⟨s3,hD3,pc⟩=>?_) (fun i y out H' hy ⟨sm,hD',pc⟩=>?_)
  rotate_left
  ·obtain⟨n,hn',rfl⟩:=aw_ hy
   refine⟨_,rfl,rfl,fun Nx hN=>yesT ?_⟩
   refine⟨_,rfl,_,rfl,by show 3<=sizeLine;decide,fun t nt=>?_⟩
   have s4:=Same.new (o:=.tup [.str n,.int wt,.non]) nt
   have k4:upd H' t (.tup [.str n,.int wt,.non]) t=some (.tup [.str n,.int wt,.non]):=a1_
   generalize upd H' t (.tup [.str n,.int wt,.non])=H4 at s4 k4 ⊢
   have lo:=Paired.length pc
   rw[List.length_take] at lo
   have hD4:=s4 _ _ hD'
   refine⟨out,hD4,by omega,hN _ _ ⟨ay_ (sm.trans s4) hD,a1_,?_⟩⟩
   rw[bp_ hn']
   refine Paired.snoc (Paired.mapP pc fun y n ⟨a,e,ha⟩=>⟨a,e,?_⟩) ⟨t,rfl,?_⟩
   ·rw[a5_ (aQ_ (s4 _ _ ha) hD4 (by intro z;cases z))]
    exact s4 _ _ ha
   ·rw[a5_ (aQ_ k4 hD4 (by intro z;cases z))]
    exact k4
  rw[List.length_map,List.take_length] at pc
  have k3:=s3 _ _ k2
  have s03:=s02.trans s3
  clear k2 s2 s1 nh
  have nD:H D=none:=s02.free hD
  refine setG ?_
  dsimp only
  refine seqG (fun σ H4=>∃(ds:Addr) (kvs:List (Key × V)),Same H3 H4/\H4 ds=some (.dK kvs)/\H3 ds=none/\kvs.length<=100/\σ=[some (.int wt),some (.str r.1),some (optV r.2.2.2),some (.ref lh),some (.ref D),some (.ref ds)]) ?a2 ?a1
  case a1=>
   intro N hN
   refine⟨_,rfl,lh,rfl,⟨_,.of k3⟩,fun D2 hD2=>?_⟩
   refine aE_ (own:=1) (fv:=[]) (xs:=ns.map V.str) rfl gok1 (fun i out H'=>Same H3 H'/\H' D2=some (.lst out)/\PairsAt K H' out ((ns.take i).map fun n=>((Sum.inr n:Key),V.str "a"))) ⟨Same.new hD2,a1_,.nil⟩ (fun i out H' _ ⟨sm,_,_⟩=>.of (sm _ _ k3)) (fun out H4 ⟨s4,hD4,pa⟩=>?_) (fun i y out H' hy ⟨sm,hD',pa⟩=>?_)
   rotate_left
   ·obtain⟨n,hn',rfl⟩:=aw_ hy
    refine⟨_,rfl,rfl,fun Nx hNx=>yesT ?_⟩
    refine⟨_,rfl,by show 2<=sizeLine;decide,fun t nt=>?_⟩
    have s4:=Same.new (o:=.tup [.str n,.str "a"]) nt
    have k4:upd H' t (.tup [.str n,.str "a"]) t=some (.tup [.str n,.str "a"]):=a1_
    generalize upd H' t (.tup [.str n,.str "a"])=H4 at s4 k4 ⊢
    have lo:=Paired.length pa
    rw[List.length_map,List.length_take] at lo
    have hD4:=s4 _ _ hD'
    refine⟨out,hD4,by omega,hNx _ _ ⟨ay_ (sm.trans s4) hD2,a1_,?_⟩⟩
    rw[aD_ _ hn']
    refine Paired.snoc (Paired.mapP pa fun y n ⟨a,e,ha⟩=>⟨a,e,?_⟩) ⟨t,rfl,?_⟩
    ·rw[a5_ (aQ_ (s4 _ _ ha) hD4 (by intro z;cases z))]
     exact s4 _ _ ha
    ·rw[a5_ (aQ_ k4 hD4 (by intro z;cases z))]
     exact k4
   ·rw[List.length_map,List.take_length] at pa
    refine⟨D2,out,_,rfl,hD4,pa,by rw[List.length_map];omega,fun ds nds=>?_⟩
    have kn:((ns.map fun n=>((Sum.inr n:Key),V.str "a")).map (·.1)).Nodup:=by
     have e:((ns.map fun n=>((Sum.inr n:Key),V.str "a")).map (·.1))=ns.map Sum.inr:=by rw[List.map_map];rfl
     rw[e,List.nodup_iff_pairwise_ne,List.pairwise_map]
     exact (List.nodup_iff_pairwise_ne.mp hnd).imp fun n e=>n (Sum.inr.inj e)
    rw[aU_ kn]
    exact hN _ _ ⟨ds,_,s4.trans (Same.new nds),a1_,s4.free nds,by rw[List.length_map];omega,rfl⟩
  rintro _ H4 ⟨ds,kvs,s4,hds,nds,lk,rfl⟩
  have hD4:=s4 _ _ hD3
  have pc4:Paired (fun y n=>∃t,y=V.ref t/\H4 t=some (.tup [.str n,.int wt,.non])) out ns:=Paired.mapP pc fun y n ⟨a,e,ha⟩=>⟨a,e,s4 _ _ ha⟩
  have Dds:D≠ds:=fun z=>by rw[z,nds] at hD3;cases hD3
  have gp:∀(x:Str) (m:Int),nameB x=true->1<=m->m<=1000000000->GoodP tsW (x,m,none):=fun x m a b c=>⟨a,b,c,fun ws e=>by cases e⟩
  refine seqG (fun σ H5=>∃(ys:List V) (ps:List Pc) (kvs:List (Key × V)),Same H H5/\H5 D=some (.lst ys)/\PcsAt K H5 ys ps/\(∀q∈ps,GoodP tsW q)/\(ps.map (·.1)).Nodup/\ps.length<64/\σ=[some (.int wt),some (.str r.1),some (optV r.2.2.2),some (.ref lh),some (.ref D),some (.ref ds)]) ?b2 ?b1
  case b1=>
   intro N hN
   have base:∀{H':Hp},Paired (fun y n=>∃t,y=V.ref t/\H' t=some (.tup [.str n,.int wt,.non])) out ns->PcsAt K H' out (ns.map fun n=>((n,wt,none):Pc)):=fun {H'} p=>cg_ (F:=PcAt K H') (Paired.mapP p fun y n ⟨a,e,ha⟩=>⟨a,.non,e,ha,rfl⟩)
   have nm:((ns.map fun n=>((n,wt,none):Pc)).map (·.1))=ns:=by rw[List.map_map];exact List.map_id ns
   have gall:∀q∈ns.map (fun n=>((n,wt,none):Pc)),GoodP tsW q:=fun q hq=>by
    obtain⟨n,hn',rfl⟩:=List.mem_map.mp hq
    exact gp n wt (hn n hn').1 w1 w2
   refine⟨_,rfl,?_,_,rfl,?_⟩
   ·cases r.2.2.2<;>rfl
   refine ite2 (fun c=>?_) (fun c=>?_)
   ·refine⟨_,rfl,.inl ⟨rfl,_,.of hD4⟩,by show 3<=sizeLine;decide,fun t nt=>?_⟩
    have s5:=Same.new (o:=.tup [.str "t",.int 1,.non]) nt
    have k5:upd H4 t (.tup [.str "t",.int 1,.non]) t=some (.tup [.str "t",.int 1,.non]):=a1_
    generalize upd H4 t (.tup [.str "t",.int 1,.non])=H5 at s5 k5 ⊢
    have hD5:=s5 _ _ hD4
    have lo:=Paired.length pc
    refine⟨D,out,_,rfl,rfl,hD5,by omega,?_⟩
    have hds6:upd H5 D (.lst (out++[.ref t])) ds=some (.dK kvs):=by rw[a5_ Dds.symm];exact s5 _ _ hds
    refine⟨_,rfl,ds,_,rfl,.k (k:=Sum.inr "t") hds6 (by omega),?_⟩
    refine hN _ _ ⟨out++[.ref t],(ns.map fun n=>((n,wt,none):Pc))++[(("t",1,none):Pc)],kvs,fun b o e=>?_,?_,?_,fun q hq=>?_,?_,?_,rfl⟩
    ·have n1:b≠ds:=a7_ e (s03.free nds)
     have n2:b≠D:=a7_ e nD
     rw[a5_ n1,a5_ n2]
     exact s5 _ _ (s4 _ _ (s03 _ _ e))
    ·rw[a5_ Dds,a1_]
    ·have tk:∀{a xs},H5 a=some (.tup xs)->upd (upd H5 D (.lst (out++[.ref t]))) ds (.dK (putK kvs (Sum.inr "t") (.str "b"))) a=some (.tup xs):=fun {a xs} e=>by
      rw[a5_ (aQ_ e (s5 _ _ hds) (by intro z;cases z)),a5_ (aQ_ e hD5 (by intro z;cases z))]
      exact e
     refine Paired.snoc (base (Paired.mapP pc4 fun y n ⟨a,e,ha⟩=>⟨a,e,tk (s5 _ _ ha)⟩)) ⟨t,.non,rfl,tk k5,rfl⟩
    ·rcases List.mem_append.mp hq with hq|hq
     ·exact gall q hq
     ·rw[List.mem_singleton.mp hq]
      exact gp "t" 1 (by decide +kernel) (by decide) (by decide)
    ·rw[List.map_append,nm,List.nodup_append]
     refine⟨hnd,by simp,fun a ha b hb e=>?_⟩
     have hb:b="t":=by simpa using hb
     exact (hn a ha).2 (e.trans hb)
    ·rw[List.length_append,List.length_map]
     show ns.length+1<64
     omega
   ·exact hN _ _ ⟨out,_,kvs,s03.trans s4,hD4,base pc4,gall,by rw[nm];exact hnd,by rw[List.length_map];omega,rfl⟩
  rintro _ H5 ⟨ys,ps,kvs',s5,hD5,pcs,gps,pnd,pl,rfl⟩
  clear pc pc4 hD3 hD4 k3 hds nds s4 s03 s3 s02 hD
  refine⟨by show 2<=sizeLine;decide,fun t1 m1=>?_⟩
  have a1:=Same.new (o:=.tup [.str "a",.int 1]) m1
  have c1:upd H5 t1 (.tup [.str "a",.int 1]) t1=some (.tup [.str "a",.int 1]):=a1_
  generalize upd H5 t1 (.tup [.str "a",.int 1])=G1 at a1 c1 ⊢
  refine⟨by show 2<=sizeLine;decide,fun t2 m2=>?_⟩
  have a2:=Same.new (o:=.tup [.str "b",.int 1]) m2
  have c2:upd G1 t2 (.tup [.str "b",.int 1]) t2=some (.tup [.str "b",.int 1]):=a1_
  generalize upd G1 t2 (.tup [.str "b",.int 1])=G2 at a2 c2 ⊢
  refine⟨by show 2<=sizeLine;decide,fun l1 m3=>?_⟩
  have a3:=Same.new (o:=.lst [.ref t1,.ref t2]) m3
  have c3:upd G2 l1 (.lst [.ref t1,.ref t2]) l1=some (.lst [.ref t1,.ref t2]):=a1_
  generalize upd G2 l1 (.lst [.ref t1,.ref t2])=G3 at a3 c3 ⊢
  refine⟨by show 2<=sizeLine;decide,fun t3 m4=>?_⟩
  have a4:=Same.new (o:=.tup [.str "a",.str "b"]) m4
  have c4:upd G3 t3 (.tup [.str "a",.str "b"]) t3=some (.tup [.str "a",.str "b"]):=a1_
  generalize upd G3 t3 (.tup [.str "a",.str "b"])=G4 at a4 c4 ⊢
  refine⟨by show 1<=sizeLine;decide,fun l2 m5=>?_⟩
  have a5:=Same.new (o:=.lst [.ref t3]) m5
  have c5:upd G4 l2 (.lst [.ref t3]) l2=some (.lst [.ref t3]):=a1_
  generalize upd G4 l2 (.lst [.ref t3])=G5 at a5 c5 ⊢
  intro pw dx hpw hdx ne
  have sa:Same G5 (upd G5 dx (.own pw)):=Same.new hdx
  have sb:Same (upd G5 dx (.own pw)) (upd (upd G5 dx (.own pw)) pw (.ins CW dx [])):=Same.new (by rw[a5_ (fun z=>ne z.symm)];exact hpw)
  have sx:=sa.trans sb
  have hpx:upd (upd G5 dx (.own pw)) pw (.ins CW dx []) pw=some (.ins CW dx []):=a1_
  generalize upd (upd G5 dx (.own pw)) pw (.ins CW dx [])=Gx at sx hpx ⊢
  have b5:=a5.trans sx
  have b4:=a4.trans b5
  have b3:=a3.trans b4
  have b2:=a2.trans b3
  have b1:=a1.trans b2
  have tuH:TupsAt K Gx [.ref t1,.ref t2] (hsW.map kH):=.cons ⟨t1,rfl,b2 _ _ c1⟩ (.cons ⟨t2,rfl,b3 _ _ c2⟩ .nil)
  have tuT:TupsAt K Gx [.ref t3] (tsW.map kT):=.cons ⟨t3,rfl,b5 _ _ c4⟩ .nil
  refine⟨pw,dx,l1,l2,_,_,hsW,tsW,rfl,hpx,b4 _ _ c3,tuH,sx _ _ c5,tuT,goodW,fun fp H6 keep WA fresh=>⟨rfl,?_⟩⟩
  have s6:Same H5 H6:=fun b o e=>keep b o (b1 b o e) (a7_ e (((((a1.trans a2).trans a3).trans a4).trans a5).free hpw))
  refine⟨_,rfl,?_⟩
  intro g dg hg hdg neg
  have ga:Same H6 (upd H6 dg (.own g)):=Same.new hdg
  have gb:Same (upd H6 dg (.own g)) (upd (upd H6 dg (.own g)) g (.ins CG dg [])):=Same.new (by rw[a5_ (fun z=>neg z.symm)];exact hg)
  have gx:=ga.trans gb
  have hgx:upd (upd H6 dg (.own g)) g (.ins CG dg []) g=some (.ins CG dg []):=a1_
  generalize upd (upd H6 dg (.own g)) g (.ins CG dg [])=Hx at gx hgx ⊢
  have gfp:g∉fp:=fun m=>by
   obtain⟨o,e⟩:=WebAt.has WA m
   rw[hg] at e
   cases e
  refine⟨g,dg,pw,D,ys,ps,hsW,tsW,fp,rfl,hgx,WA.same gx,gfp,goodW,gx _ _ (s6 _ _ hD5),Paired.mapP pcs fun y p h=>(h.same s6).same gx,gps,pnd,pl,fun qs fp' H7 keep7 GA Q7 fr7=>⟨rfl,?_⟩⟩
  have s7:Same H H7:=fun b o e=>keep7 b o (gx _ _ (s6 _ _ (s5 _ _ e))) (a7_ e ((s5.trans s6).free hg))
  exact⟨_,rfl,by show 2<=sizeLine;decide,fun t nt=>k _ _ (s7.trans (Same.new nt))⟩
end
end Ev
set_option Elab.async false
set_option linter.all false
set_option maxRecDepth 100000
namespace L2
open PySem PySem.Spec PyProof.Rows
theorem slot1{M:Model}{A:Around}{E:Value->Shared->Prop}{s:Shared}{n:String}{a b:Value}{Q:Value × List Value->Shared->Prop}(q:Q (a,[b]) s):wpAny M A (slotArgs n 1 { pos:=[a,b] }) Q E s:=by
 unfold slotArgs
 exact wpAny_ite_false rfl (wpAny_ite_false rfl (wpAny_pure q))
theorem bC_(b:Str)(u:Tok)(l:Addr)(o:Obj)(hd:∃es ep,o.data=.dict es ep):Meets (Builtin.«str.__eq__» { pos:=[.str b u,.ref l] }) fun A R s=>s.heap.get? l=some o/\R (.ok (.ret .notImplemented)) s:=by
 obtain⟨es,ep,hd⟩:=hd
 refine Meets.of_wp fun prog w A R s ⟨hl,h⟩=>?_
 obtain⟨c,dd,dt,sl⟩:=o
 cases (show dt=.dict es ep from hd)
 refine wpAny_bind ?_
 refine wpAny_bind (slot1 ?_)
 refine wpAny_bind ?_
 refine wpAny_bind ?_
 refine wpAny_pure (wpAny_pure (wpAny_pure ?_))
 refine wpAny_bind ?_
 refine wpAny_bind (wpAny_load hl ?_)
 refine wpAny_pure ?_
 refine wpAny_bind (wpAny_rule ?_)
 exact wpAny_pure ⟨_,rfl,h⟩
theorem bE_(b:Str)(u:Tok)(l:Addr):Meets (Builtin.«dict.__eq__» { pos:=[.ref l,.str b u] }) fun A R s=>R (.ok (.ret .notImplemented)) s:=by
 refine Meets.of_wp fun prog w A R s h=>?_
 refine wpAny_bind (?_:wpAny _ _ (Builtin.Dict.dictSlotArgs _ _) _ _ _)
 unfold Builtin.Dict.dictSlotArgs
 refine wpAny_bind ?_
 unfold Builtin.Dict.notOrdered
 refine wpAny_ite_false (by decide) (wpAny_pure ?_)
 refine wpAny_bind (slot1 ?_)
 refine wpAny_pure ?_
 refine wpAny_bind ?_
 unfold isInstance
 refine wpAny_bind (wpAny_pure ?_)
 rw[show isSubtype (.type "str") (.type "dict")=pure false from F.sub_str_dict]
 refine wpAny_pure ?_
 refine wpAny_ite_true rfl ?_
 refine wpAny_bind (wpAny_rule ?_)
 exact wpAny_pure ⟨_,rfl,h⟩
theorem de_{A:Around}{s:Shared}{l:Addr}{o:Obj}(b:Str)(u:Tok)(hl:s.heap.get? l=some o)(hc:o.cls=.type "dict")(hd:∃es ep,o.data=.dict es ep)(hu:A.units<cLine):SeqAt.EqAt A s (.str b u) (.ref l) false:=by
 intro prog w E Q q
 refine wpAny_holding (wpAny_ite_false (by rfl) ?_)
 refine wpAny_bind (SeqAt.rc_eq_decline_or (Ta:="str") (Tb:="dict") (k:=false) (typeIs_str s b u) ⟨o,hl,hc⟩ (by decide) F.sub_dict_str F.slot_str_eq F.slot_dict_eq_refl (fun Q' q'=>?_) (fun Q' q'=>?_) (fun Q' q'=>wpAny_of_eq rfl q') (.inr hu) ?_)
 ·exact call_meets F.slot_str_eq (typeIs_str s b u) F.entry_str_eq (F.args_str_eq_2 _ _) (bC_ b u l o hd) ⟨hl,q'⟩
 ·exact call_meets F.slot_dict_eq_refl ⟨o,hl,hc⟩ F.entry_dict_eq (F.args_dict_eq_2 _ _) (bE_ b u l) q'
 ·exact wpAny_truthy_bool q
section
variable{X:Cx}
def rInP(K:PySem.W.Frag)(neg:Bool):R2:=fun x y H Q=>rInO K neg x y H Q∨∃(p t:Addr) (ss:List Str),x=.ref t/\y=.ref p/\SqL K H p (ss.map V.str)/\((∃xs,H t=some (.lst xs))∨∃kvs,H t=some (.dK kvs))/\Q (.bl neg) H
theorem ew_{A:Around}{s:Shared}{y:Value}(h:∀b u,SeqAt.EqAt A s (.str b u) y false):∀{ss:List Str} {us:List Value},Vals (ss.map V.str) us->∀u∈us,SeqAt.EqAt A s u y false
 |[],_,.nil=>fun u hu=>by cases hu
 |x::ss,_::us,.cons r q=>fun u hm=>by
  rcases List.mem_cons.mp hm with rfl|hm
  ·obtain⟨tk,rfl⟩:=r
   exact h x tk
  ·exact ew_ h q u hm
theorem gG_(hu:X.A.units+1<cLine):OpR X (compareOp .NotIn) (rInP X.K true):=by
 intro pins s σ H x y v u Q I rx ry h
 rcases h with h|⟨p,t,ss,rfl,rfl,hl,ht,q⟩
 ·exact g4_ hu pins s σ H x y v u Q I rx ry h
 cases rx
 cases ry
 obtain⟨its,r,pl,hz⟩:=I.list hl
 have key:∀b u,SeqAt.EqAt X.A.in1 s (.str b u) (.ref t) false:=by
  rcases ht with⟨xs,ht⟩|⟨kvs,ht⟩
  ·obtain⟨its2,r2,pl2,hz2⟩:=I.list (.of ht)
   exact fun b u=>SeqAt.EqAt.str_list b u pl2.isList hu
  ·obtain⟨_,_,vs,_,o,es,ep,h1,h2,h3,_⟩:=I.hok _ _ ht
   exact fun b u=>de_ b u h1 h2.1 ⟨es,ep,h3⟩ hu
 refine SeqAt.notIn_listAt (fun _=>false) pl.isList (fun w hw=>ew_ key r w (by simpa using hw)) ⟨.bl _,H,I,rfl,?_⟩
 rw[show its.toArray.any (fun _=>false)=false by simp]
 exact q
end
end L2
set_option Elab.async false
set_option linter.all false
set_option maxRecDepth 100000
namespace L2
open PySem PySem.Spec PyProof.Rows PySem.W
theorem bD_(b:Str)(u:Tok)(l:Addr)(o:Obj)(hd:∃es ep,o.data=.dict es ep):Meets (Builtin.«str.__ne__» { pos:=[.str b u,.ref l] }) fun A R s=>s.heap.get? l=some o/\R (.ok (.ret .notImplemented)) s:=by
 obtain⟨es,ep,hd⟩:=hd
 refine Meets.of_wp fun prog w A R s ⟨hl,h⟩=>?_
 obtain⟨c,dd,dt,sl⟩:=o
 cases (show dt=.dict es ep from hd)
 refine wpAny_bind ?_
 refine wpAny_bind (slot1 ?_)
 refine wpAny_bind ?_
 refine wpAny_bind ?_
 refine wpAny_pure (wpAny_pure (wpAny_pure ?_))
 refine wpAny_bind ?_
 refine wpAny_bind (wpAny_load hl ?_)
 refine wpAny_pure ?_
 refine wpAny_bind (wpAny_rule ?_)
 exact wpAny_pure ⟨_,rfl,h⟩
theorem aZ_(l:Addr)(x:Value)(ok:Shared->Prop)(hx:∀{prog w A E s} {Q:Bool->Shared->Prop},ok s->Q false s->wpAny (model prog w) A (isInstance x (.type "dict")) Q E s):Meets (Builtin.«dict.__ne__» { pos:=[.ref l,x] }) fun A R s=>ok s/\R (.ok (.ret .notImplemented)) s:=by
 refine Meets.of_wp fun prog w A R s ⟨hs,h⟩=>?_
 refine wpAny_bind (?_:wpAny _ _ (Builtin.Dict.dictSlotArgs _ _) _ _ _)
 unfold Builtin.Dict.dictSlotArgs
 refine wpAny_bind ?_
 unfold Builtin.Dict.notOrdered
 refine wpAny_ite_false (by decide) (wpAny_pure ?_)
 refine wpAny_bind (slot1 ?_)
 refine wpAny_pure ?_
 refine wpAny_bind (hx hs ?_)
 refine wpAny_ite_true rfl ?_
 refine wpAny_bind (wpAny_rule ?_)
 exact wpAny_pure ⟨_,rfl,h⟩
theorem gR_{T:String}(e:isSubtype (.type T) (.type "dict")=pure false){x:Value}{prog:Program}{w:World}{A:Around}{E:Value->Shared->Prop}{s:Shared}{Q:Bool->Shared->Prop}(ht:typeOf x=pure (.type T))(q:Q false s):wpAny (model prog w) A (isInstance x (.type "dict")) Q E s:=by
 unfold isInstance
 rw[ht]
 refine wpAny_bind (wpAny_pure ?_)
 rw[e]
 exact wpAny_pure q
theorem br_(l d:Addr)(o:Obj)(hc:o.cls=.type "dict"):Meets (Builtin.«list.__ne__» { pos:=[.ref l,.ref d] }) fun A R s=>s.heap.get? d=some o/\R (.ok (.ret .notImplemented)) s:=by
 refine Meets.of_wp fun prog w A R s ⟨hd,h⟩=>?_
 refine wpAny_bind (slot1 ?_)
 refine wpAny_bind ?_
 unfold isInstance
 refine wpAny_bind ?_
 refine wpAny_bind (wpAny_load hd ?_)
 refine wpAny_pure ?_
 rw[hc]
 rw[show isSubtype (.type "dict") (.type "list")=pure false from F.sub_dict_list]
 refine wpAny_pure ?_
 refine wpAny_ite_true rfl ?_
 exact wpAny_pure ⟨_,rfl,h⟩
section
variable{X:Cx}
theorem ja_{A:Around}{s:Shared}{x:Value}{d:Addr}{o:Obj}(hd:s.heap.get? d=some o)(hc:o.cls=.type "dict")(hx:(∃b u,x=.str b u)∨x=.none∨∃l items n dd sl,x=.ref l/\s.heap.get? l=some ⟨.type "list",dd,.seq items n,sl⟩)(hdd:∃es ep,o.data=.dict es ep)(hu:A.units<cLine){prog:Program}{w:World}{E:Value->Shared->Prop}{Q:Value->Shared->Prop}(q:Q (.bool true) s) :
  wpAny (model prog w) A (compareOp .NotEq x (.ref d)) Q E s:=by
 have td:s.TypeIs (.ref d) "dict":=⟨o,hd,hc⟩
 rcases hx with⟨b,u,rfl⟩|rfl|⟨l,items,n,dd,sl,rfl,hl⟩
 ·refine (SeqAt.rc_ne_decline_or (Ta:="str") (Tb:="dict") (k:=false) (typeIs_str s b u) td (by decide) F.sub_dict_str F.slot_str_ne F.slot_dict_ne_refl (fun Q' q'=>?_) (fun Q' q'=>?_) (fun Q' q'=>wpAny_of_eq rfl q') (.inr hu) q)
  ·exact call_meets F.slot_str_ne (typeIs_str s b u) F.entry_str_ne (F.args_str_ne_2 _ _) (bD_ b u d o hdd) ⟨hd,q'⟩
  ·exact call_meets F.slot_dict_ne_refl td F.entry_dict_ne (F.args_dict_ne_2 _ _) (aZ_ d _ (fun _=>True) (fun _ q=>gR_ F.sub_str_dict rfl q)) ⟨trivial,q'⟩
 ·refine (SeqAt.rc_ne_decline_or (Ta:="NoneType") (Tb:="dict") (k:=false) rfl td (by decide) F.sub_dict_NoneType F.slot_NoneType_ne F.slot_dict_ne_refl (fun Q' q'=>?_) (fun Q' q'=>?_) (fun Q' q'=>wpAny_of_eq rfl q') (.inr hu) q)
  ·exact call_gives F.slot_NoneType_ne rfl F.entry_NoneType_ne (F.args_NoneType_ne_2 _ _) (SeqAt.NoneType___ne___none_ref_0 d) q'
  ·exact call_meets F.slot_dict_ne_refl td F.entry_dict_ne (F.args_dict_ne_2 _ _) (aZ_ d _ (fun _=>True) (fun _ q=>gR_ F.sub_NoneType_dict rfl q)) ⟨trivial,q'⟩
 ·have tl:s.TypeIs (.ref l) "list":=⟨_,hl,rfl⟩
  have ne:l≠d:=fun z=>by
   rw[z,hd] at hl
   cases hl
   exact absurd hc (by simp)
  refine (SeqAt.rc_ne_decline_or (Ta:="list") (Tb:="dict") (k:=false) tl td (by decide) F.sub_dict_list F.slot_list_ne F.slot_dict_ne_refl (fun Q' q'=>?_) (fun Q' q'=>?_) (fun Q' q'=>?_) (.inr hu) q)
  ·exact call_meets F.slot_list_ne tl F.entry_list_ne (F.args_list_ne_2 _ _) (br_ l d o hc) ⟨hd,q'⟩
  ·refine call_meets F.slot_dict_ne_refl td F.entry_dict_ne (F.args_dict_ne_2 _ _) (aZ_ d _ (fun s=>∃o,s.heap.get? l=some o/\o.cls=.type "list") (fun {prog w A E s Q} ⟨o,e,c⟩ q=>?_)) ⟨⟨_,hl,rfl⟩,q'⟩
   unfold isInstance
   refine wpAny_bind ?_
   refine wpAny_bind (wpAny_load e ?_)
   refine wpAny_pure ?_
   rw[c,show isSubtype (.type "list") (.type "dict")=pure false from F.sub_list_dict]
   exact wpAny_pure q
  ·show wpAny _ _ (isSame (.ref l) (.ref d)) _ _ _
   unfold isSame
   refine wpAny_ite_false (by simpa using ne) ?_
   refine wpAny_bind (wpAny_load hl ?_)
   refine wpAny_bind (wpAny_load hd ?_)
   obtain⟨c,d1,d2,d3⟩:=o
   cases (show c=.type "dict" from hc)
   exact wpAny_pure q'
end
end L2
set_option Elab.async false
set_option linter.all false
set_option maxRecDepth 100000
namespace L2
open PySem PySem.Spec PyProof.Rows PySem.Builtin PySem.Builtin.Str
section
variable{X:Cx}
def rSplitB:V->List V->Hp->VK->Prop:=fun x vs H Q=>∃(z y:Str) (c:Nat),x=.str z/\vs=[.str y]/\y=⟨#[c]⟩/\z.length<=50000/\∀l,H l=none->Q (.ref l) (upd H l (.lst ((Txt.split z y).map V.str)))
theorem ft_:MtM X "str.split" rSplitB:=by
 intro pins s σ H x vs v us Q I rx rv h
 obtain⟨z,y,c,rfl,rfl,ey,hz,q⟩:=h
 obtain⟨t,rfl⟩:=rx
 obtain⟨u,rfl,t2,rfl⟩:=rv.one
 have sz:=sizeLine_eq
 have hy:(y.length == 0)=false:=by rw[ey];rfl
 have hn:(partsBetween z (occurrences z y 0 z.length (z.length+1)) y.length).length<=60000:=by
  rw[length_partsBetween]
  have:=StrLaws.occ_length_le z y 0 z.length (z.length+1)
  omega
 have sl:=PyProof.Rows.split_le z y
 have fin:∀(l:List (Str × Tok)) (k:Nat),l.map (·.1)=Txt.split z y->EP X pins σ Q (.ref s.heap.objs.size) { s with toks:=k,heap:=s.heap.push { cls:=.type "list",data:=.seq (strValues l).toArray } }:=fun l k e=>by
  have vl:=dN_ l
  rw[e] at vl
  refine⟨.ref s.heap.objs.size,_,I.laid (t':=k) (o:=.lst ((Txt.split z y).map V.str)) (fun b ob q=>Heap.get?_push_of_some _ q) (Nat.le_refl _) ?_,rfl,q _ (I.hok.fresh (Nat.le_refl _))⟩
  refine⟨?_,_,0,vl,Heap.get?_push_size _ rfl⟩
  rw[List.length_map]
  omega
 cases hA:(decide (z.length<y.length) || decide (strKind z<strKind y)) with
 |true=>
  refine call_meets PySem.F.slot_str_split (typeIs_str _ _ _) PySem.F.entry_str_split (PySem.F.args_str_split_2 _ _) (meets_str_split_cannot_occur z y t t2 hA) ?_
  exact fin [(z,t)] _ (by unfold Txt.split;rw[if_pos hA];rfl)
 |false=>
  cases hB:(occurrences z y 0 z.length (z.length+1)).isEmpty with
  |true=>
   refine call_meets PySem.F.slot_str_split (typeIs_str _ _ _) PySem.F.entry_str_split (PySem.F.args_str_split_2 _ _) (meets_str_split_not_found z y t t2 hA hy hB) ?_
   exact fin [(z,t)] _ (by unfold Txt.split;rw[if_neg (by rw[hA];decide),if_pos hB];rfl)
  |false=>
   refine call_meets PySem.F.slot_str_split (typeIs_str _ _ _) PySem.F.entry_str_split (PySem.F.args_str_split_2 _ _) (meets_str_split_sep z y t t2 hA hy hB (by omega) (by omega)) ?_
   show wants _ _ _ { s with toks:=_,heap:=s.heap.push { cls:=.type "list",data:=.seq (strsFrom s.toks (partsBetween z (occurrences z y 0 z.length (z.length+1)) y.length)).toArray } }
   rw[strsFrom_eq]
   exact fin (numbered s.toks _) _ ((numbered_texts _ _).trans (by unfold Txt.split;rw[if_neg (by rw[hA];decide),if_neg (by rw[hB];decide)]))
end
end L2
set_option Elab.async false
set_option linter.all false
set_option maxRecDepth 100000
namespace Ev
open PySem L2
section
variable{P:Program}{w:World}{K:PySem.W.Frag}{mg:Str->Option Value}{base:Heap}
def lawG(g:Str):List Str:=[("turns ":Str)++g,("least one ":Str)++g,("least all ":Str)++g]++[("below one ":Str)++g,("below all ":Str)++g]
def lawRules:List Str:=(["shares one","shares all"]:List Str)++(lawG "high"++(lawG "fall"++lawG "calm"))
theorem eq_:lawRules.length=17:=by decide +kernel
theorem e4_:∀x∈lawRules,x∈rnames:=by decide +kernel
theorem scRules:FnScope ["_law_found","_law_guard"] [] (defScope sLRules):=⟨rfl,rfl,rfl,by decide +kernel,rfl,by decide +kernel,by decide +kernel⟩
theorem gl6:∀g∈(["high","fall","calm"]:List Str),g.length=4:=by decide +kernel
def spRules:Sp:=fun vs H Q _=>vs=[]/\∀l H',Same H H'->H l=none->H' l=some (.lst (lawRules.map V.str))->Q (.ref l) H'
theorem hl_{f:Addr}{fd:FuncData}(F:Fun K "_law_rules" "_law_rules" sLRules f fd):FnOk P w K mg base CX0 1 f fd [] spRules:=by
 refine F.ok scRules (fun vs H Q E h=>?_) (fun cdv A outer s H vs Q E hr h=>?_)
 ·obtain⟨rfl,_⟩:=h
  rfl
 ·obtain⟨rfl,k⟩:=h
  have sz:=sizeLine_eq
  refine' ⟨_,a2_ ?s1 (a2_ ?s2 ?s3),?kk⟩
  case s1=>exact ab_ (i:=0) scRules.nd rfl (Or.inl rfl) (az_ (a0_ a9_ (a0_ a9_ a3_)))
  case' s2=>refine' b1_ PassesOwn.never rfl ?i1 ?g1 (a2_ ?b1 (a4_ ?b2))
  case i1=>exact au_ (az_ (a0_ a9_ (a0_ a9_ (a0_ a9_ a3_))))
  case g1=>exact ae_ (i:=1) scRules.nd rfl (Or.inl rfl)
  case b1=>exact ab_ (i:=0) scRules.nd rfl (Or.inl rfl) (ah_ cK_ (pv 0) (az_ (a0_ (ah_ bc_ a9_ (pv 1)) (a0_ (ah_ bc_ a9_ (pv 1)) (a0_ (ah_ bc_ a9_ (pv 1)) a3_)))))
  case b2=>exact ab_ (i:=0) scRules.nd rfl (Or.inl rfl) (ah_ cK_ (pv 0) (az_ (a0_ (ah_ bc_ a9_ (pv 1)) (a0_ (ah_ bc_ a9_ (pv 1)) a3_))))
  case s3=>exact a4_ (aa_ (pv 0))
  case' kk=>skip
  refine⟨by show 2<=sizeLine;decide,fun a ha=>?_⟩
  have s0:=Same.new (o:=.lst [.str "shares one",.str "shares all"]) ha
  refine⟨by show 3<=sizeLine;decide,fun c hc=>?_⟩
  have s1:=Same.new (o:=.lst [.str "high",.str "fall",.str "calm"]) hc
  have hc1:upd (upd H a (.lst [.str "shares one",.str "shares all"])) c (.lst [.str "high",.str "fall",.str "calm"]) c=some (.lst ((["high","fall","calm"]:List Str).map V.str)):=a1_
  refine⟨c,rfl,⟨_,.of hc1⟩,aW_ (K:=K) (a:=c) (xs:=(["high","fall","calm"]:List Str).map V.str) (fun i σ H2=>∃(b:Addr) (v1:Option V),σ=[some (.ref b),v1]/\Same (upd (upd H a (.lst [.str "shares one",.str "shares all"])) c (.lst [.str "high",.str "fall",.str "calm"])) H2/\H b=none/\H2 b=some (.lst (((["shares one","shares all"]:List Str)++(((["high","fall","calm"]:List Str).take i).map lawG).flatten).map V.str))) ⟨a,none,rfl,Same.refl _,ha,s1 _ _ a1_⟩ (fun i σ H2 _ ⟨_,_,_,s2,_⟩=>.of (s2 _ _ hc1)) ?_ ?_⟩
  ·rintro i y σ H2 hy ⟨b,v1,rfl,s2,hb,hb2⟩
   rw[List.getElem?_map] at hy
   obtain⟨g,hg,rfl⟩:=Option.map_eq_some_iff.mp hy
   have g4:=gl6 g (List.mem_of_getElem? hg)
   have hi:i<3:=(List.getElem?_eq_some_iff.mp hg).1
   have ln:(((["shares one","shares all"]:List Str)++(((["high","fall","calm"]:List Str).take i).map lawG).flatten).map V.str).length<=100:=by
    rw[List.length_map,List.length_append,List.length_flatten,List.map_map]
    have:∀(l:List Str),(l.map (List.length ∘ lawG)).sum=5 * l.length:=by
     intro l
     induction l with
     |nil=>rfl
     |cons x l ih=>
      rw[List.map_cons,List.sum_cons,ih,List.length_cons]
      show 5+5 * l.length=_
      omega
    rw[this,List.length_take]
    show 2+5 * min i 3<=100
    omega
   have nx:((["shares one","shares all"]:List Str)++(((["high","fall","calm"]:List Str).take (i+1)).map lawG).flatten)=((["shares one","shares all"]:List Str)++(((["high","fall","calm"]:List Str).take i).map lawG).flatten)++lawG g:=by
    rw[List.take_add_one,hg,List.map_append,List.flatten_append,List.append_assoc]
    simp
   rw[nx]
   clear nx
   generalize ((["shares one","shares all"]:List Str)++(((["high","fall","calm"]:List Str).take i).map lawG).flatten)=pre at hb2 ln ⊢
   refine⟨_,rfl,_,rfl,_,_,rfl,rfl,by rw[g4];decide +kernel,_,rfl,_,_,rfl,rfl,by rw[g4];decide +kernel,_,rfl,_,_,rfl,rfl,by rw[g4];decide +kernel,by show 3<=sizeLine;decide,fun p hp=>?_⟩
   have s3:=Same.new (o:=.lst [.str (("turns ":Str)++g),.str (("least one ":Str)++g),.str (("least all ":Str)++g)]) hp
   refine⟨b,p,_,_,rfl,rfl,s3 _ _ hb2,a1_,by rw[List.length_map] at ln ⊢;show pre.length+3<=sizeLine;omega,fun q hq=>?_⟩
   have s4:=Same.new (o:=.lst (pre.map V.str++[.str (("turns ":Str)++g),.str (("least one ":Str)++g),.str (("least all ":Str)++g)])) hq
   refine⟨_,rfl,_,rfl,_,_,rfl,rfl,by rw[g4];decide +kernel,_,rfl,_,_,rfl,rfl,by rw[g4];decide +kernel,by show 2<=sizeLine;decide,fun p2 hp2=>?_⟩
   have s5:=Same.new (o:=.lst [.str (("below one ":Str)++g),.str (("below all ":Str)++g)]) hp2
   refine⟨q,p2,_,_,rfl,rfl,s5 _ _ a1_,a1_,by rw[List.length_append];rw[List.length_map] at ln ⊢;show pre.length+3+2<=sizeLine;omega,fun q2 hq2=>?_⟩
   have s6:=Same.new (o:=.lst (pre.map V.str++[.str (("turns ":Str)++g),.str (("least one ":Str)++g),.str (("least all ":Str)++g)]++[.str (("below one ":Str)++g),.str (("below all ":Str)++g)])) hq2
   have s35:=s3.trans (s4.trans s5)
   refine⟨q2,_,rfl,s2.trans (s35.trans s6),s0.free (s1.free (s2.free (s35.free hq2))),?_⟩
   rw[a1_,List.map_append]
   unfold lawG
   rw[List.map_append,List.append_assoc]
   rfl
  ·rintro σ H2 ⟨b,v1,rfl,s2,hb,hb2⟩
   exact⟨_,rfl,k b H2 (s0.trans (s1.trans s2)) hb hb2⟩
theorem scSure:FnScope ["_law_rule","_law_words"] ["_law_rule"] (defScope sSure):=⟨rfl,rfl,rfl,by decide +kernel,rfl,by decide +kernel,by decide +kernel⟩
def wds(r:Rl):List Str:=Txt.split r.1 " "
theorem jE_:∀r∈rl,r.1.length<=1000/\atI ((wds r).map V.str) 0=some (.str ((wds r).headD ""))/\atI ((wds r).map V.str) (-1)=some (.str ((wds r).getLastD ""))/\(decide ((wds r).headD ""="shares") || (!decide (("all":Str)∈wds r)&&!decide ((wds r).getLastD ""="high")))=guB ["fall","calm"] r:=by decide +kernel
def spSure:Sp:=fun vs H Q _=>∃r∈rl,vs=[.str r.1]/\∀H',Same H H'->Q (.bl (guB ["fall","calm"] r)) H'
theorem cj_(a b:Str):decide (V.str a=V.str b)=decide (a=b):=by
 by_cases z:a=b
 ·simp[z]
 ·simp[z]
theorem iD_{f:Addr}{fd:FuncData}(F:Fun K "_law_sure" "_law_sure" sSure f fd):FnOk P w K mg base CX0 1 f fd ["_law_rule"] spSure:=by
 refine F.ok scSure (fun vs H Q E h=>?_) (fun cdv A outer s H vs Q E hr h=>?_)
 ·obtain⟨r,hr,rfl,_⟩:=h
  rfl
 ·obtain⟨r,hr',rfl,k⟩:=h
  obtain⟨q1,q2,q3,q4⟩:=jE_ r hr'
  refine' ⟨_,a2_ ?s1 (a4_ ?s2),?kk⟩
  case s1=>exact ab_ (i:=1) scSure.nd rfl (Or.inl rfl) (fl_ PySem.F.plainAttrs_str PySem.F.slot_str_split PySem.F.type_str_split ft_ (pv 0) (a0_ a9_ a3_))
  case s2=>exact aa_ (iL_ (aR_ cd_ (as_ aI_ (pv 1) a6_ (fun _ _=>rfl)) a9_ (nomark _)) (aO_ (aX_ (aR_ b4_ a9_ (pv 1) (by with_unfolding_all rfl)) (aO_ (aR_ cu_ (as_ aI_ (pv 1) (jH_ ia_ a6_) (fun _ _=>rfl)) a9_ (nomark _))))))
  case' kk=>skip
  refine⟨_,rfl,rfl,r.1," ",32,rfl,rfl,rfl,by omega,fun l nl=>?_⟩
  have s1:=Same.new (o:=.lst ((wds r).map V.str)) nl
  have k1:upd H l (.lst ((wds r).map V.str)) l=some (.lst ((wds r).map V.str)):=a1_
  show _
  refine setG ?_
  dsimp only
  change tRet _ _ _ (upd H l (.lst ((wds r).map V.str)))
  generalize upd H l (.lst ((wds r).map V.str))=H1 at s1 k1 ⊢
  have kk:=k H1 s1
  rw[<- q4] at kk
  refine⟨_,rfl,l,_,_,_,rfl,rfl,.of k1,q2,rfl,_,rfl,?_⟩
  rw[cj_]
  refine ite2 (fun c=>?_) (fun c=>?_)
  ·have c:decide ((wds r).headD ""="shares")=true:=c
   rw[c,Bool.true_or] at kk
   exact kk
  ·have c:decide ((wds r).headD ""="shares")=false:=by simpa using c
   rw[c,Bool.false_or] at kk
   refine⟨_,rfl,l,_,rfl,.inl (.of k1),rfl,bq_ _,_,rfl,?_⟩
   rw[if_pos rfl,dn_]
   refine ite2 (fun c2=>?_) (fun c2=>?_)
   ·have c2:(!decide (("all":Str)∈wds r))=true:=c2
    rw[c2,Bool.true_and] at kk
    refine⟨_,rfl,_,rfl,l,_,_,_,rfl,rfl,.of k1,q3,rfl,?_⟩
    rw[cj_]
    exact kk
   ·have c2:(!decide (("all":Str)∈wds r))=false:=by simpa using c2
    rw[c2,Bool.false_and] at kk
    exact kk
end
end Ev
set_option Elab.async false
set_option linter.all false
set_option maxRecDepth 100000
namespace Ev
open PySem L2
theorem i8_{X:Cx}{K:PySem.W.Frag}{o e:Expr}{es:List Expr}{to:TE}{t:TA}{name:Str}{apos cpos:Pos}{T id:String}{r:V->List V->Hp->VK->Prop}(pa:PlainAttrs T)(slot:Slot T name id)(hty:typeOf (.builtin id)=pure (.type "method_descriptor"))(hm:MtR X id r)(ho:PE X o to)(ha:PA X (e::es) t)
  (hK:X.K=K:=by rfl) (hbase:attributeBase o name X.env (eval o X.env)=eval o X.env:=by rfl)
  (hfew:((backTo cpos (starEach (e::es) X.env)).all (fun x=>!x.1)&&(backToKw cpos (keywordEach [] X.env)).all (fun x=>x.1.isSome)
   && decide ((e::es).length+([]:List Keyword).length+(if ([]:List Keyword).isEmpty then 0 else 1)<30))=true:=by rfl)
  (hline:(apos.endLine == cpos.line)=true:=by rfl) (hs:starEach (e::es) X.env=(false,eval e X.env)::starEach es X.env:=by rfl) (hplain:(backTo cpos (starEach es X.env)).any (·.1)=false:=by rfl) :
  PE X (.Call (.Attribute o name apos) (e::es) [] cpos) (tBM K T r to t):=by
 subst hK
 exact fl_ pa slot hty hm ho ha hbase hfew hline hs hplain
def exkIn(K:PySem.W.Frag)(C:Addr):Bool:=(PySem.W.clsIn K C).isSome&&PySem.W.findIn K (.ref C) "__getattribute__" == some (some (.builtin "BaseException.__getattribute__"))&&PySem.W.findIn K (.ref C) "__getattr__" == some none&&PySem.W.findIn K (.ref C) "__class__" == some (some (.builtin "object.__class__")) &&
 PySem.W.specialIn K (.builtin "object.__class__") "__get__" == some (some (.builtin "getset_descriptor.__get__"))&&PySem.W.takesIn K (.builtin "object.__class__") == some true&&PySem.W.mroIn K C (.type "object") == some true&&PySem.W.mroIn K C (.type "BaseException") == some true
theorem jK_{K:PySem.W.Frag}{C:Addr}(h:exkIn K C=true):ExcK K C:=by
 simp only[exkIn,Bool.and_eq_true,beq_iff_eq] at h
 obtain⟨⟨⟨⟨⟨⟨⟨a,b⟩,c⟩,d⟩,e⟩,f⟩,g⟩,i⟩:=h
 exact⟨a,b,c,d,e,f,g,i⟩
def refsIn(K:PySem.W.Frag)(CE:Addr)(cs:List Addr):Bool:=cs.all fun C=>exkIn K C&&PySem.W.exmOne K (.ref C) (.ref CE) == some true&&PySem.W.kitOne K (.ref C) (.type "ValueError") == some true&&cs.all fun D=>PySem.W.kitOne K (.ref C) (.ref D) == some (C == D)
structure Rf (K:PySem.W.Frag) (mg:Str->Option Value) (CE CR CL CS CT:Addr):Prop where
 e:mg "EvenError"=some (.ref CE)
 r:Ref K mg "NoRule" CR
 l:Ref K mg "NotLetBy" CL
 s:Ref K mg "NoStand" CS
 t:Ref K mg "NoWeight" CT
 all:refsIn K CE [CR,CL,CS,CT]=true
 nd:[CR,CL,CS,CT].Nodup
theorem Rf.at_{K:PySem.W.Frag}{mg:Str->Option Value}{CE CR CL CS CT:Addr}(R:Rf K mg CE CR CL CS CT){C:Addr}(hC:C∈[CR,CL,CS,CT]):ExcK K C/\PySem.W.exmOne K (.ref C) (.ref CE)=some true/\PySem.W.kitOne K (.ref C) (.type "ValueError")=some true/\∀D∈[CR,CL,CS,CT],PySem.W.kitOne K (.ref C) (.ref D)=some (C == D):=by
 have h:=List.all_eq_true.mp R.all C hC
 simp only[Bool.and_eq_true,beq_iff_eq] at h
 obtain⟨⟨⟨a,b⟩,c⟩,d⟩:=h
 exact⟨jK_ a,b,c,fun D hD=>by simpa using List.all_eq_true.mp d D hD⟩
theorem len4{α:Type}:∀{l:List α},l.length=4->∃a b c d,l=[a,b,c,d]
 |[a,b,c,d],_=>⟨a,b,c,d,rfl⟩
abbrev SpL:=List V->List V->Hp->VK->XK->Prop
def MonoL(sp:SpL):Prop:=∀vs gs H Q Q' E E',sp vs gs H Q E->(∀v H,Q v H->Q' v H)->(∀c d H,E c d H->E' c d H)->sp vs gs H Q' E'
section
variable{P:Program}{w:World}{K:PySem.W.Frag}{mg:Str->Option Value}{base:Heap}{CE CR CL CS CT:Addr}
theorem four{i:Nat}{Cx:Addr}(nd:[CR,CL,CS,CT].Nodup)(h:[CR,CL,CS,CT][i]? = some Cx):Cx∈[CR,CL,CS,CT]/\i<4/\(Cx == CR)=decide (0=i)/\(Cx == CL)=decide (1=i)/\(Cx == CS)=decide (2=i)/\(Cx == CT)=decide (3=i):=by
 refine⟨List.mem_of_getElem? h,?_⟩
 simp only[List.nodup_cons,List.mem_cons,List.not_mem_nil,or_false,not_or] at nd
 obtain⟨⟨a,b,c⟩,⟨d,e⟩,f,_⟩:=nd
 match i,h with
 |0,h=>cases (Option.some.inj h:CR=Cx);simp[a,b,c,d,e,f]
 |1,h=>cases (Option.some.inj h:CL=Cx);simp[a,b,c,d,e,f,Ne.symm a]
 |2,h=>cases (Option.some.inj h:CS=Cx);simp[Ne.symm b,Ne.symm d,e,f]
 |3,h=>cases (Option.some.inj h:CT=Cx);simp[Ne.symm c,Ne.symm e,Ne.symm f]
theorem scFirst:FnScope ["_law_reasons"] ["_law_reasons"] (defScope sFirst):=⟨rfl,rfl,rfl,by decide +kernel,rfl,by decide +kernel,by decide +kernel⟩
def Due(H:Hp)(v:V)(bs:List Bool):Prop:=((∀b∈bs,b=false)/\v=.str "told")∨∃(t:Addr) (i:Nat),i<4/\v=.ref t/\H t=some (.tup [.int i,.int 1,.bl true])/\bs[i]? = some true/\∀j,j<i->bs[j]? = some false
def spFirst:Sp:=fun vs H Q _=>∃(l:Addr) (bs:List Bool),vs=[.ref l]/\H l=some (.lst (bs.map V.bl))/\bs.length<=4/\∀v H',Same H H'->Due H' v bs->Q v H'
theorem k1_{bs:List Bool}(h:∀b∈bs,b=false):inV (.bl true) (bs.map V.bl)=false:=by
 unfold inV
 rw[List.any_eq_false]
 intro v hv
 obtain⟨b,hb,rfl⟩:=List.mem_map.mp hv
 rw[h b hb]
 decide
theorem k6_{bs:List Bool}{i:Nat}(h:bs[i]? = some true):inV (.bl true) (bs.map V.bl)=true:=by
 unfold inV
 rw[List.any_eq_true]
 exact⟨.bl true,List.mem_map.mpr ⟨true,List.mem_of_getElem? h,rfl⟩,rfl⟩
theorem cR_:∀bs:List Bool,(∀b∈bs,b=false)∨∃i:Nat,bs[i]? = some true/\∀j:Nat,j<i->bs[j]? = some false
 |[]=>.inl (by simp)
 |true::bs=>.inr ⟨0,rfl,fun j hj=>absurd hj (Nat.not_lt_zero _)⟩
 |false::bs=>by
  rcases cR_ bs with h|⟨i,h1,h2⟩
  ·exact .inl fun b hb=>by
    rcases List.mem_cons.mp hb with e|hb
    ·exact e
    ·exact h b hb
  ·refine .inr ⟨i+1,h1,fun j hj=>?_⟩
   cases j with
   |zero=>rfl
   |succ j=>exact h2 j (by omega)
theorem hE_{f:Addr}{fd:FuncData}(F:Fun K "_law_first" "_law_first" sFirst f fd):FnOk P w K mg base CX0 1 f fd ["_law_reasons"] spFirst:=by
 refine F.ok scFirst (fun vs H Q E h=>?_) (fun cdv A outer s H vs Q E hr h=>?_)
 ·obtain⟨l,bs,rfl,_⟩:=h
  rfl
 ·obtain⟨l,bs,rfl,hl,l4,k⟩:=h
  refine' ⟨_,a2_ ?s1 (a4_ ?s2),?kk⟩
  case s1=>exact ak_ (am_ b4_ bu_ (pv 0) (by with_unfolding_all rfl)) (a4_ (aa_ a9_)) ac_
  case s2=>exact aa_ (aC_ (a0_ (fl_ PySem.F.plainAttrs_list PySem.F.slot_list_index PySem.F.type_list_index dF_ (pv 0) (a0_ bu_ a3_)) (a0_ a6_ (a0_ bu_ a3_))))
  case' kk=>skip
  have fl:(bs.map V.bl).all flatV=true:=by
   rw[List.all_eq_true]
   intro v hv
   obtain⟨b,_,rfl⟩:=List.mem_map.mp hv
   rfl
  refine⟨_,rfl,l,_,rfl,.inl (.of hl),rfl,fl,_,rfl,?_⟩
  rw[if_pos rfl]
  rcases cR_ bs with h|⟨i,h1,h2⟩
  ·rw[k1_ h]
   exact iteT (k _ H (Same.refl H) (.inl ⟨h,rfl⟩))
  ·rw[k6_ h1]
   refine iteF ?_
   have hi:i<bs.length:=(List.getElem?_eq_some_iff.mp h1).1
   refine⟨_,rfl,.inl ⟨rfl,_,.of hl⟩,l,_,_,i,rfl,rfl,hl,rfl,fl,by omega,⟨.bl true,by rw[List.getElem?_map,h1];rfl,rfl⟩,fun j y hj hy=>?_,by show 3<=sizeLine;decide,fun t nt=>?_⟩
   ·rw[List.getElem?_map,h2 j hj] at hy
    cases hy
    rfl
   ·exact k _ _ (Same.new nt) (.inr ⟨t,i,by omega,rfl,a1_,h1,h2⟩)
theorem scSaid:FnScope ["_law_ask","_law_found","e","_law_kinds"] ["_law_ask"] (defScope sSaid):=⟨rfl,rfl,rfl,by decide +kernel,rfl,by decide +kernel,by decide +kernel⟩
def spSaid(CR CL CS CT:Addr)(qual:Str)(a:Arguments)(b:Expr)(sc:Scope)(fvs:List Str)(sp:SpL):Sp:=fun vs H Q _=>∃(f c':Addr) (cl:List (Str × Addr)) (cs:List (Addr × Obj)) (gs:List V),vs=[.ref f]/\H f=some (lamH f qual a b sc cl c')/\H c'=some (codeH c' qual)/\Lent H cs/\CellsOf fvs cl cs gs /\
 sp [] gs (unl cs H) (fun _ H2=>NoCs cs H2->Q (.str "told") (lend cs H2)) (fun cls _ H2=>NoCs cs H2->∃(i:Nat) (Cx:Addr),[CR,CL,CS,CT][i]? = some Cx/\cls=.ref Cx/\∀t H',Same (lend cs H2) H'->H' t=some (.tup [.int i,.int 1,.bl true])->Q (.ref t) H')
abbrev tSu(K:PySem.W.Frag)(CR CL CS CT:Addr):L2.TS:=tSeq (tAsg (tLst (tCons (tCB (rIsiQ K) (tCons (tVar 2) (tCons (tC (.ref CR)) tNil))) (tCons (tCB (rIsiQ K) (tCons (tVar 2) (tCons (tC (.ref CL)) tNil))) (tCons (tCB (rIsiQ K) (tCons (tVar 2) (tCons (tC (.ref CS)) tNil))) (tCons (tCB (rIsiQ K) (tCons (tVar 2) (tCons (tC (.ref CT)) tNil))) tNil))))) (gName 3))
 (tAsg (tTup (tCons (tBM K "list" rIndexF (tVar 3) (tCons (tC (.bl true)) tNil)) (tCons (tBM K "list" rCountF (tVar 3) (tCons (tC (.bl true)) tNil)) (tCons (tCB (rIsiQ K) (tCons (tVar 2) (tCons (tC (.ty "ValueError")) tNil))) tNil)))) (gName 1))
set_option maxHeartbeats 1600000 in
theorem em_{f:Addr}{qual:Str}{a:Arguments}{b:Expr}{sc:Scope}{fvs:List Str}{sp:SpL}{kk:Nat}{fd:FuncData}(F:Fun K "_law_said" "_law_said" sSaid f fd)(B:Bi mg)(mV:mg "ValueError"=none)(R:Rf K mg CE CR CL CS CT)(mo:MonoL sp)(cL:LamOk P w K mg base kk qual a b sc [] fvs sp):FnOk P w K mg base CX0 (kk+1) f fd ["_law_ask"] (spSaid CR CL CS CT qual a b sc fvs sp):=by
 refine F.ok scSaid (fun vs H Q E h=>?_) (fun cdv A outer s H vs Q E hr h=>?_)
 ·obtain⟨f,c',cl,cs,gs,rfl,_⟩:=h
  rfl
 ·obtain⟨fl,c',cl,cs,gs,rfl,hf,hc,L,Cs,h⟩:=h
  refine' ⟨_,?r0,?kk⟩
  case' r0=>refine' a2_ ?s1 ?r1
  case' r1=>refine' a2_ ?s2 ?s3
  case s1=>exact ab_ (i:=1) scSaid.nd rfl (Or.inl rfl) a9_
  case' s2=>refine' h3_ (i:=2) (ok:=fun Cx=>Cx∈[CR,CL,CS,CT]) (tb:=fun E=>tDrop (tThunk qual a b sc fvs sp E (tVar 0))) (ts:=tSu K CR CL CS CT) scSaid.nd rfl rfl rfl rfl (by rfl) R.e (fun Cx h=>(R.at_ h).2.1) (fun E W pn hp=>?hb) (fun a=>?hs)
  case hb=>exact a4_ (b5_ (hR_ cL hr hp (pv 0)))
  case' hs=>refine' a2_ ?h1 (a4_ ?h2)
  case h1=>exact ab_ (i:=3) scSaid.nd rfl (Or.inl rfl) (az_ (a0_ (a8_ (callK (K:=K) rIsiQ bt_) (by rfl) B.isi PyProof.Rows.Boot.«isinstance» (a0_ (pv 2) (a0_ (aK_ (v:=.ref CR) (by rfl) R.r.mg rfl) a3_))) (a0_ (a8_ (callK (K:=K) rIsiQ bt_) (by rfl) B.isi PyProof.Rows.Boot.«isinstance» (a0_ (pv 2) (a0_ (aK_ (v:=.ref CL) (by rfl) R.l.mg rfl) a3_))) (a0_ (a8_ (callK (K:=K) rIsiQ bt_) (by rfl) B.isi PyProof.Rows.Boot.«isinstance» (a0_ (pv 2) (a0_ (aK_ (v:=.ref CS) (by rfl) R.s.mg rfl) a3_))) (a0_ (a8_ (callK (K:=K) rIsiQ bt_) (by rfl) B.isi PyProof.Rows.Boot.«isinstance» (a0_ (pv 2) (a0_ (aK_ (v:=.ref CT) (by rfl) R.t.mg rfl) a3_))) a3_)))))
  case h2=>exact ab_ (i:=1) scSaid.nd rfl (Or.inl rfl) (aC_ (a0_ (i8_ (K:=K) PySem.F.plainAttrs_list PySem.F.slot_list_index PySem.F.type_list_index dF_ (pv 3) (a0_ bu_ a3_)) (a0_ (i8_ (K:=K) PySem.F.plainAttrs_list PySem.F.slot_list_count PySem.F.type_list_count fz_ (pv 3) (a0_ bu_ a3_)) (a0_ (a8_ (callK (K:=K) rIsiQ bt_) (by rfl) B.isi PyProof.Rows.Boot.«isinstance» (a0_ (pv 2) (a0_ (aA_ (v:=.ty "ValueError") (by rfl) mV PyProof.Rows.Boot.«ValueError» rfl) a3_))) a3_))))
  case s3=>exact a4_ (aa_ (pv 1))
  case' kk=>skip
  refine⟨_,rfl,fl,c',cl,cs,gs,rfl,hf,hc,L,Cs,mo _ _ _ _ _ _ _ h (fun v H2 z nc=>⟨_,rfl,z nc⟩) (fun cx d H2 z nc=>?_)⟩
  obtain⟨j,Cx,hj,rfl,z2⟩:=z nc
  clear z
  obtain⟨mC,j4,q0,q1,q2,q3⟩:=four R.nd hj
  obtain⟨kx,_,kv,kk⟩:=R.at_ mC
  have k0:=kk CR (by simp)
  have k1:=kk CL (by simp)
  have k2:=kk CS (by simp)
  have k3:=kk CT (by simp)
  rw[q0] at k0
  rw[q1] at k1
  rw[q2] at k2
  rw[q3] at k3
  refine⟨Cx,mC,rfl,fun σ a hl ha=>?_⟩
  obtain⟨u0,u1,u2,u3,rfl⟩:=len4 hl
  generalize lend cs H2=H3 at z2 ha ⊢
  have s1:=Same.new (o:=exq a Cx d) ha
  have ea:upd H3 a (exq a Cx d) a=some (exq a Cx d):=a1_
  generalize upd H3 a (exq a Cx d)=H4 at s1 ea ⊢
  refine⟨_,rfl,a,Cx,d,_,_,_,rfl,rfl,ea,kx,k0,_,rfl,a,Cx,d,_,_,_,rfl,rfl,ea,kx,k1,_,rfl,a,Cx,d,_,_,_,rfl,rfl,ea,kx,k2,_,rfl,a,Cx,d,_,_,_,rfl,rfl,ea,kx,k3,by show 4<=sizeLine;decide,fun l hl=>?_⟩
  have s2:=Same.new (o:=.lst [.bl (decide (0=j)),.bl (decide (1=j)),.bl (decide (2=j)),.bl (decide (3=j))]) hl
  have el:upd H4 l (.lst [.bl (decide (0=j)),.bl (decide (1=j)),.bl (decide (2=j)),.bl (decide (3=j))]) l=some (.lst [.bl (decide (0=j)),.bl (decide (1=j)),.bl (decide (2=j)),.bl (decide (3=j))]):=a1_
  have ea2:=s2 _ _ ea
  refine setG ?_
  dsimp only
  generalize upd H4 l (.lst [.bl (decide (0=j)),.bl (decide (1=j)),.bl (decide (2=j)),.bl (decide (3=j))])=H5 at s2 el ea2 ⊢
  refine⟨_,rfl,.inl ⟨rfl,_,.of el⟩,l,_,_,j,rfl,rfl,el,rfl,rfl,by omega,?_,?_,_,rfl,.inl ⟨rfl,_,.of el⟩,l,_,_,rfl,rfl,el,rfl,rfl,_,rfl,a,Cx,d,_,_,true,rfl,rfl,ea2,kx,kv,by show 3<=sizeLine;decide,fun l2 hl2=>?_⟩
  ·match j,j4 with
   |0,_=>exact⟨_,rfl,rfl⟩
   |1,_=>exact⟨_,rfl,rfl⟩
   |2,_=>exact⟨_,rfl,rfl⟩
   |3,_=>exact⟨_,rfl,rfl⟩
  ·match j,j4 with
   |0,_=>intro i y hi;exact absurd hi (Nat.not_lt_zero _)
   |1,_=>intro i y hi hy;match i,hi,hy with|0,_,hy=>cases hy;rfl
   |2,_=>intro i y hi hy;match i,hi,hy with|0,_,hy=>cases hy;rfl|1,_,hy=>cases hy;rfl
   |3,_=>intro i y hi hy;match i,hi,hy with|0,_,hy=>cases hy;rfl|1,_,hy=>cases hy;rfl|2,_,hy=>cases hy;rfl
  ·have ec:(([.bl (decide (0=j)),.bl (decide (1=j)),.bl (decide (2=j)),.bl (decide (3=j))]:List V).countP fun y=>eqV y (.bl true))=1:=by
    match j,j4 with
    |0,_=>rfl
    |1,_=>rfl
    |2,_=>rfl
    |3,_=>rfl
   rw[ec]
   refine⟨_,rfl,z2 l2 _ ((s1.trans s2).trans (Same.new hl2)) ?_⟩
   exact a1_
end
end Ev
set_option Elab.async false
set_option linter.all false
set_option maxRecDepth 100000
namespace L2
open PySem PySem.Spec PyProof.Rows
section
variable{X:Cx}{x:Str}{C D:Addr}{np hpos pos:Pos}{b₀:Stmt}{suite body:List Stmt}{ts:TS}{tb:XS->TS}
end
end L2
set_option Elab.async false
set_option linter.all false
set_option maxRecDepth 100000
namespace EvT
open PySem PySem.SeqAt PyProof.Rows
open AutoSeq1 (wpAny_loadPart')
open MeetsSeq MeetsSeq2 MeetsSeq3 SeqRoads2
section
variable{prog:Program}{w:World}{A:Around}{E:Value->Shared->Prop}{s:Shared}
theorem it_{l b:Addr}{x1 x2 x3 y1 y2 y3:Value}{n m:Nat}{dl db:Option Addr}{sl sb:Array (Option Value)}{R:Fin->Shared->Prop}
  (gl:s.heap.get? l=some { cls:=.type "tuple",dict:=dl,data:=.seq #[x1,x2,x3] n,slots:=sl }) (gb:s.heap.get? b=some { cls:=.type "tuple",dict:=db,data:=.seq #[y1,y2,y3] m,slots:=sb })
  (h1:∀{Q:Bool->Shared->Prop},Q true s->wpAny (model prog w) A (eqBool x1 y1) Q E s)
  (h2:∀{Q:Bool->Shared->Prop},Q true s->wpAny (model prog w) A (eqBool x2 y2) Q E s)
  (h3:∀{Q:Bool->Shared->Prop},Q true s->wpAny (model prog w) A (eqBool x3 y3) Q E s)
  (h:R (.done (.ret (.bool false))) s) :
  wpAny (model prog w) A (Builtin.«tuple.__ne__» ⟨[.ref l,.ref b],[]⟩) R E s:=by
 obtain⟨hp,g,d,tk,os⟩:=s
 have f3:=AutoSeq1.sub_tuple_tuple
 wp_walk using wpAny_loadPart' gl,wpAny_loadPart' gb,h1,h2,h3
 exact h
theorem ne_tup3At{l b:Addr}{x1 x2 x3 y1 y2 y3:Value}{Q:Value->Shared->Prop}(hl:s.heap.IsTuple l #[x1,x2,x3])(hb:s.heap.IsTuple b #[y1,y2,y3])(hu:A.units<cLine)
  (h1:∀{Q:Bool->Shared->Prop},Q true s->wpAny (model prog w) A.in1 (eqBool x1 y1) Q E s)
  (h2:∀{Q:Bool->Shared->Prop},Q true s->wpAny (model prog w) A.in1 (eqBool x2 y2) Q E s)
  (h3:∀{Q:Bool->Shared->Prop},Q true s->wpAny (model prog w) A.in1 (eqBool x3 y3) Q E s) (h:Q (.bool false) s):wpAny (model prog w) A (compareOp .NotEq (.ref l) (.ref b)) Q E s:=by
 obtain⟨⟨c1,d1,t1,l1⟩,o1,k1,n1,z1⟩:=id hl
 obtain⟨⟨c2,d2,t2,l2⟩,o2,k2,n2,z2⟩:=id hb
 simp only at k1 z1 k2 z2
 subst k1 z1 k2 z2
 have T1:s.TypeIs (.ref l) "tuple":=⟨_,o1,rfl⟩
 have T2:s.TypeIs (.ref b) "tuple":=⟨_,o2,rfl⟩
 have z:=it_ (R:=fun fin s'=>∃v,fin=Fin.done (Flow.ret v)/\v≠Value.notImplemented/\Q v s') o1 o2 h1 h2 h3 ⟨.bool false,rfl,(fun x=>nomatch x),h⟩
 have z2:=wpAny_call_entry F.slot_tuple_ne T1 F.entry_tuple_ne z (F.args_tuple_ne_2 _ _)
 exact wpAny_richCompare_same_room (op:=.NotEq) T1 T2 F.slot_tuple_ne z2 hu
end
end EvT
namespace L2
open PySem PySem.Spec PyProof.Rows PySem.W
theorem fH_{prog:Program}{w:World}{A:Around}{s:Shared}{E:Value->Shared->Prop}{Q:Bool->Shared->Prop}(u:Int)(t t':Tok)(q:Q true s):wpAny (model prog w) A (eqBool (.int u t) (.int u t')) Q E s:=
 SeqAt.EqAt.int_int u t u t' prog w _ _ (by simpa using q)
section
variable{X:Cx}
def rNeSame:R2:=fun x y H Q=>((∃a,x=.str a/\y=.str a)∨∃(t u:Addr) (i:Int),x=.ref t/\y=.ref u/\H t=some (.tup [.int i,.int 1,.bl true])/\H u=some (.tup [.int i,.int 1,.bl true]))/\Q (.bl false) H
theorem cy_(hu:X.A.units<cLine):OpR X (compareOp .NotEq) rNeSame:=by
 intro pins s σ H x y v u Q I rx ry h
 obtain⟨⟨a,rfl,rfl⟩|⟨t,u',i,rfl,rfl,h1,h2⟩,q⟩:=h
 ·exact cu_ pins s σ H _ _ v u Q I rx ry ⟨rfl,by rw[decide_eq_true rfl];exact q⟩
 ·cases rx
  cases ry
  obtain⟨its,r,p,_⟩:=I.tuple (.of h1)
  obtain⟨its2,r2,p2,_⟩:=I.tuple (.of h2)
  cases r with
  |cons e1 r=>cases r with
  |cons e2 r=>cases r with
  |cons e3 r=>
  cases r
  cases r2 with
  |cons f1 r=>cases r with
  |cons f2 r=>cases r with
  |cons f3 r=>
  cases r
  obtain⟨t1,rfl⟩:=e1
  obtain⟨t2,rfl⟩:=e2
  cases e3
  obtain⟨u1,rfl⟩:=f1
  obtain⟨u2,rfl⟩:=f2
  cases f3
  exact EvT.ne_tup3At p p2 hu (fun q=>fH_ _ _ _ q) (fun q=>fH_ _ _ _ q) (fun {Q} q=>SeqAt.EqAt.bool_bool (A:=_) (s:=s) true true _ _ _ _ q) ⟨.bl false,H,I,rfl,q⟩
def rInN(K:PySem.W.Frag)(neg:Bool):R2:=fun x y H Q=>rIn K neg x y H Q∨∃(p t:Addr) (ns:List Int),x=.ref t/\y=.ref p/\SqL K H p (ns.map V.int)/\((∃xs,H t=some (.lst xs))∨∃xs,H t=some (.tup xs))/\Q (.bl neg) H
theorem eJ_{A:Around}{s:Shared}{y:Value}(h:∀b u,SeqAt.EqAt A s (.int b u) y false):∀{ss:List Int} {us:List Value},Vals (ss.map V.int) us->∀u∈us,SeqAt.EqAt A s u y false
 |[],_,.nil=>fun u hu=>by cases hu
 |x::ss,_::us,.cons r q=>fun u hm=>by
  rcases List.mem_cons.mp hm with rfl|hm
  ·obtain⟨tk,rfl⟩:=r
   exact h x tk
  ·exact eJ_ h q u hm
theorem gn_(hu:X.A.units+1<cLine):OpR X (compareOp .NotIn) (rInN X.K true):=by
 intro pins s σ H x y v u Q I rx ry h
 rcases h with h|⟨p,t,ss,rfl,rfl,hl,ht,q⟩
 ·exact b4_ pins s σ H x y v u Q I rx ry h
 cases rx
 cases ry
 obtain⟨its,r,pl,hz⟩:=I.list hl
 have key:∀b u,SeqAt.EqAt X.A.in1 s (.int b u) (.ref t) false:=by
  rcases ht with⟨xs,ht⟩|⟨xs,ht⟩
  ·obtain⟨its2,r2,pl2,hz2⟩:=I.list (.of ht)
   exact fun b u=>SeqAt.EqAt.int_list b u pl2.isList hu
  ·obtain⟨its2,r2,pl2,hz2⟩:=I.tuple (.of ht)
   exact fun b u=>SeqAt.EqAt.int_tuple b u pl2 hu
 refine SeqAt.notIn_listAt (fun _=>false) pl.isList (fun w hw=>eJ_ key r w (by simpa using hw)) ⟨.bl _,H,I,rfl,?_⟩
 rw[show its.toArray.any (fun _=>false)=false by simp]
 exact q
def rNeStd(K:PySem.W.Frag):R2:=fun x y H Q=>∃(b:Addr) (ns:List Str) (g:Str->Str),y=.ref b/\H b=some (.dK (ns.map fun n=>(Sum.inr n,V.str (g n)))) /\
 ((((∃z,x=.str z)∨x=.non∨∃l xs,x=.ref l/\H l=some (.lst xs))/\Q (.bl true) H) ∨
  (∃(a:Addr) (ms:List Str) (f:Str->Str),x=.ref a/\H a=some (.dK (ms.map fun n=>(Sum.inr n,V.str (f n))))/\(∀m∈ms,m∈ns)/\Q (.bl (!(decide (ms.length=ns.length)&&ms.all fun n=>decide (f n=g n)))) H))
end
end L2
set_option Elab.async false
set_option linter.all false
set_option maxRecDepth 100000
namespace Ev
open PySem L2
theorem h1_{X:Cx}(hu:X.A.units<cLine):OpR X (compareOp .NotEq) (rNeStd X.K):=by
 intro pins s σ H x y v u Q I rx ry h
 obtain⟨b,ns,g,rfl,hb,h⟩:=h
 cases ry
 obtain⟨zb,nb,vb,rb,db⟩:=bO_ I.hok (.inl hb)
 rcases h with⟨hx,q⟩|⟨a,ms,f,rfl,ha,sub,q⟩
 ·obtain⟨o,es,ep,o1,o2,o3,_⟩:=id db
  refine ja_ o1 o2.1 ?_ ⟨es,ep,o3⟩ hu ⟨.bl true,H,I,rfl,q⟩
  rcases hx with⟨z,rfl⟩|rfl|⟨l,xs,rfl,hl⟩
  ·obtain⟨t,rfl⟩:=rx
   exact .inl ⟨z,t,rfl⟩
  ·cases rx
   exact .inr (.inl rfl)
  ·cases rx
   obtain⟨z,its,n,r,e⟩:=I.hok l _ hl
   exact .inr (.inr ⟨l,_,_,_,_,rfl,e⟩)
 ·cases rx
  obtain⟨za,na,va,ra,da⟩:=bO_ I.hok (.inl ha)
  have la:=ra.length
  have lb:=rb.length
  rw[List.length_map] at la lb
  refine PySem.W.keq_ne na nb da db hu (r:=ms.all fun n=>decide (f n=g n)) (fun _=>gm_ rb ms va ra sub) ⟨.bl _,H,I,rfl,?_⟩
  rw[<- la,<- lb,show (ms.length == ns.length)=decide (ms.length=ns.length) by by_cases z:ms.length=ns.length<;>simp[z]]
  exact q
def NT(H G:Hp):Prop:=∀b o,H b=some o->(∀vs,o≠.tbl vs)->G b=some o
theorem NT.of{H G:Hp}(s:Same H G):NT H G:=fun b o e _=>s b o e
theorem NT.trans{H G J:Hp}(s:NT H G)(t:NT G J):NT H J:=fun b o e n=>t b o (s b o e n) n
theorem But.nt{T:Addr}{H G:Hp}{vs:Array Value}(b:But T H G)(hT:H T=some (.tbl vs)):NT H G:=fun c o e n=>b c o e (fun z=>by
 rw[z,hT] at e
 exact n _ (Option.some.inj e).symm)
theorem NT.tup{H G:Hp}(s:NT H G){a:Addr}{xs:List V}(h:H a=some (.tup xs)):G a=some (.tup xs):=s _ _ h (by intro vs z;cases z)
theorem NT.lst{H G:Hp}(s:NT H G){a:Addr}{xs:List V}(h:H a=some (.lst xs)):G a=some (.lst xs):=s _ _ h (by intro vs z;cases z)
theorem NT.dK{H G:Hp}(s:NT H G){a:Addr}{xs:List (Key × V)}(h:H a=some (.dK xs)):G a=some (.dK xs):=s _ _ h (by intro vs z;cases z)
section
variable{K:PySem.W.Frag}{H G:Hp}{v:V}
theorem TupsAt.nt{ys:List V}{ks:List (List Key)}(h:TupsAt K H ys ks)(s:NT H G):TupsAt K G ys ks:=Paired.mapP h fun y k ⟨a,z,q⟩=>⟨a,z,s.tup q⟩
theorem WebAt.nt{C p:Addr}{hs:List (Str × Int)}{ts:List (Str × Str)}{fp:List Addr}(W:WebAt K C H p hs ts fp)(s:NT H G):WebAt K C G p hs ts fp:=by
 obtain⟨dx,d1,l2,d3,zs,as,rfl,h1,h2,h3,h4,h5,h6,h7⟩:=W.ex
 exact⟨dx,d1,l2,d3,zs,as,rfl,s _ _ h1 (by intro vs z;cases z),s.dK h2,s.lst h3,TupsAt.nt h4 s,s.dK h5,h6,fun i n a e1 e2=>s.lst (h7 i n a e1 e2)⟩
theorem WyAt.nt{o:Option (List (Str × Str))}(h:WyAt K H v o)(s:NT H G):WyAt K G v o:=by
 cases o with
 |none=>exact h
 |some ws=>
  obtain⟨a,ys,e,ha,t⟩:=h
  exact⟨a,ys,e,s.lst ha,TupsAt.nt t s⟩
theorem GoodsAt.nt{CG CW g p:Addr}{hs:List (Str × Int)}{ts:List (Str × Str)}{qs:List Pc}{fp:List Addr}(h:GoodsAt K CG CW H g p hs ts qs fp)(s:NT H G):GoodsAt K CG CW G g p hs ts qs fp:=by
 obtain⟨dx,dw,dy,vs,fpw,h1,h2,h3,h4,h5,r⟩:=h.ex
 exact⟨dx,dw,dy,vs,fpw,s _ _ h1 (by intro vs z;cases z),h2.nt s,s.dK h3,s.dK h4,Paired.mapP h5 fun v q h=>h.nt s,r⟩
end
theorem Due.same{H H':Hp}{v:V}{bs:List Bool}(h:Due H v bs)(s:NT H H'):Due H' v bs:=h.imp id fun⟨t,i,a,b,c,d⟩=>⟨t,i,a,b,s.tup c,d⟩
theorem ej_{H:Hp}{v u:V}{bs:List Bool}{Q:VK}(h:Due H v bs)(h':Due H u bs)(q:Q (.bl false) H):rNeSame v u H Q:=by
 rcases h with⟨a,rfl⟩|⟨t,i,i4,rfl,ht,b,c⟩<;>rcases h' with⟨a',rfl⟩|⟨t',i',i4',rfl,ht',b',c'⟩
 ·exact⟨.inl ⟨_,rfl,rfl⟩,q⟩
 ·exact absurd (a true (List.mem_of_getElem? b')) (by decide)
 ·exact absurd (a' true (List.mem_of_getElem? b)) (by decide)
 ·have e:i=i':=by
   rcases Nat.lt_trichotomy i i' with z|z|z
   ·have:=c' i z
    rw[b] at this
    cases this
   ·exact z
   ·have:=c i' z
    rw[b'] at this
    cases this
  subst e
  exact⟨.inr ⟨t,t',i,rfl,rfl,ht,ht'⟩,q⟩
theorem keepU{cs:List (Addr × Obj)}{H1 H2 H3:Hp}(n:NoCs cs H1)(s:Same H1 H2)(s3:Same (lend cs H2) H3):Same H1 (unl cs H3):=fun b o e=>by
 have q:=cp_ n e
 rw[aH_ q]
 exact s3 _ _ (by rw[ao_ q];exact s _ _ e)
theorem lenU{cs:List (Addr × Obj)}{H2 H3:Hp}(s3:Same (lend cs H2) H3):Lent H3 cs:=fun c o e=>s3 _ _ (cq_ e)
theorem tupU{cs:List (Addr × Obj)}{H2 H3:Hp}{l:Addr}{xs:List V}(s3:Same (lend cs H2) H3)(e:H3 l=some (.tup xs)):unl cs H3 l=some (.tup xs):=by
 cases q:cs.lookup l with
 |none=>rw[aH_ q];exact e
 |some o=>
  rw[s3 _ _ (cq_ q)] at e
  cases e
theorem jC_{H:Hp}{T:Addr}{qual q':Str}{a a':Arguments}{b b':Expr}{sc sc':Scope}{ps:Pos}{cl:List (Str × Addr)}{σ:St}{Q:VK}(h:TabOk H T qual)(e1:q'=qual)(e2:a'=a)(e3:b'=b)(e4:sc'=sc)(q:∀f c' H1,But T H H1->TabOk H1 T qual->H1 f=some (lamH f qual a b sc cl c')->H1 c'=some (codeH c' qual)->Q (.ref f) H1):tLam T q' a' b' sc' ps cl σ H Q:=by
 subst e1 e2 e3 e4
 obtain⟨es,h,hes⟩:=h
 refine⟨_,h,eT_ es,?_⟩
 rcases cv_ ps es with e|⟨e,he,q1⟩
 ·refine .inl ⟨e,fun c' f n1 n2 n3=>?_⟩
  have nT1:T≠c':=a7_ h n1
  have nT2:T≠f:=a7_ h n2
  have B:But T H (upd (upd (upd H T (.tbl ((flatT es).toArray++#[rawInt ps.line,rawInt ps.col,.ref c']))) c' (codeH c' q')) f (lamH f q' a' b' sc' cl c')):=fun b o e n=>by
   rw[a5_ (a7_ e n2),a5_ (a7_ e n1),a5_ n]
   exact e
  refine q f c' _ B ⟨es++[(ps,c')],?_,fun x hx=>?_⟩ a1_ ?_
  ·rw[a5_ nT2,a5_ nT1,a1_,dL_]
   simp
  ·rcases List.mem_append.mp hx with hx|hx
   ·exact B _ _ (hes x hx) (fun z=>by have:=hes x hx;rw[z,h] at this;cases this)
   ·rw[List.mem_singleton.mp hx]
    show upd _ f _ c'=_
    rw[a5_ n3,a1_]
  ·rw[a5_ n3,a1_]
 ·refine .inr ⟨e.2,q1,fun f hf=>?_⟩
  have s:=Same.new (o:=lamH f q' a' b' sc' cl e.2) hf
  exact q f e.2 _ (But.of s) ⟨es,s _ _ h,fun x hx=>s _ _ (hes x hx)⟩ a1_ (s _ _ (hes e he))
theorem iA_{H:Hp}{T:Addr}{qual:Str}(h:TabOk H T qual):∃vs,H T=some (.tbl vs):=by
 obtain⟨es,e,_⟩:=h
 exact⟨_,e⟩
theorem callG{fvs:List Str}{cl:List (Str × Addr)}{is:List Nat}{sp:Sp}{tl:TE}{σ:St}{H:Hp}{Q:VK}(h:tl σ H (fun v H1=>∃gs:List V,is.map (fun i=>σ[i]?)=gs.map (fun v=>some (some v))/\∀cs,CellsOf fvs cl cs gs->(∀c o,cs.lookup c=some o->H1 c=none)->sp [v] (lend cs H1) (fun v H2=>Lent H2 cs/\Q v (unl cs H2)) E0)):tCallL fvs cl is sp (tCons tl tNil) σ H Q:=h
theorem gX_{CR CL CS CT T:Addr}{qual q':Str}{a a':Arguments}{b b':Expr}{sc sc':Scope}{pos:Pos}{cl:List (Str × Addr)}{fvs:List Str}{is:List Nat}{sp:SpL}{σ:St}{H:Hp}{Q:VK}{gs:List V}{bs:List Bool}(mo:MonoL sp)(e1:q'=qual)(e2:a'=a)(e3:b'=b)(e4:sc'=sc)(tab:TabOk H T qual)(hgs:is.map (fun i=>σ[i]?)=gs.map (fun v=>some (some v)))
  (hsp:∀H1,NT H H1->sp [] gs H1 (fun _ H2=>Same H1 H2/\∀b∈bs,b=false) (fun cls _ H2=>Same H1 H2/\∃(i:Nat) (Cx:Addr),[CR,CL,CS,CT][i]? = some Cx/\cls=.ref Cx/\bs[i]? = some true/\∀j,j<i->bs[j]? = some false)) (k:∀v H',NT H H'->TabOk H' T qual->Due H' v bs->Q v H') :
  tCallL fvs cl is (spSaid CR CL CS CT qual a b sc fvs sp) (tCons (tLam T q' a' b' sc' pos cl) tNil) σ H Q:=by
 refine callG (jC_ tab e1 e2 e3 e4 (fun f c' H1 bT tab1 hf hc=>?_))
 obtain⟨vs,hT⟩:=iA_ tab
 have nt:=bT.nt hT
 refine⟨gs,hgs,fun cs Cs ncs=>?_⟩
 refine⟨f,c',_,cs,_,rfl,by rw[ao_ (cp_ ncs hf)];exact hf,by rw[ao_ (cp_ ncs hc)];exact hc,fun c o e=>cq_ e,Cs,?_⟩
 rw[eU_ ncs]
 refine mo _ _ _ _ _ _ _ (hsp H1 nt) (fun _ H2 ⟨s2,z⟩ nc=>⟨fun c o e=>cq_ e,?_⟩) (fun cls d H2 ⟨s2,i,Cx,hC,ec,z1,z2⟩ nc=>⟨i,Cx,hC,ec,fun t H' s3 ht=>⟨lenU s3,?_⟩⟩)
 ·rw[eU_ nc]
  exact k _ _ (nt.trans (NT.of s2)) (tab1.same s2) (.inl ⟨z,rfl⟩)
 ·have s:=keepU ncs s2 s3
  have i4:i<4:=(List.getElem?_eq_some_iff.mp hC).1
  exact k _ _ (nt.trans (NT.of s)) (tab1.same s) (.inr ⟨t,i,i4,rfl,tupU s3 ht,z1,z2⟩)
end Ev
set_option Elab.async false
set_option linter.all false
set_option maxRecDepth 100000
namespace Ev
open PySem L2
def hsL:List (Str × Int):=[("one",2),("other",3)]
def tsL:List (Str × Str):=[("other","one")]
def psL:List Pc:=[("p",4,none),("q",1,some [])]
theorem goodL:Good hsL tsL:=⟨by unfold hsL goodH;decide +kernel,by decide +kernel,by decide,by decide,by unfold tsL goodT;decide +kernel,by decide +kernel,by decide,by unfold tsL hsL;decide +kernel⟩
theorem d2_:∀l:List Int,l≠[]->∃m∈l,∀a∈l,a<=m
 |[],h=>absurd rfl h
 |[x],_=>⟨x,List.mem_cons_self,fun a ha=>by rw[List.mem_singleton.mp ha];exact Int.le_refl _⟩
 |x::y::l,_=>by
  obtain⟨m,hm,h⟩:=d2_ (y::l) (by simp)
  by_cases c:x<=m
  ·exact⟨m,List.mem_cons_of_mem _ hm,fun a ha=>by
    rcases List.mem_cons.mp ha with e|ha
    ·rw[e];exact c
    ·exact h a ha⟩
  ·exact⟨x,List.mem_cons_self,fun a ha=>by
    rcases List.mem_cons.mp ha with e|ha
    ·rw[e];exact Int.le_refl _
    ·have:=h a ha;omega⟩
theorem mostL:∃m,isMost hsL tsL m:=by
 obtain⟨m,hm,h⟩:=d2_ (lens hsL tsL) (fun z=>by
  have e:=congrArg List.length z
  unfold lens at e
  rw[List.length_map,goodL.nlen] at e
  cases e)
 exact⟨m,hm,h⟩
theorem goodP:∀p∈psL,GoodP tsL p:=by
 intro p hp
 simp only[psL,List.mem_cons,List.not_mem_nil,or_false] at hp
 rcases hp with rfl|rfl
 ·exact⟨by decide +kernel,by decide,by decide,fun ws e=>by cases e⟩
 ·refine⟨by decide +kernel,by decide,by decide,fun ws e=>?_⟩
  have e:ws=[]:=(Option.some.inj e).symm
  subst e
  exact⟨by simp,by simp,by simp,by simp⟩
def forB:Stmt->List Stmt
 |.For _ _ b _ _=>b
 |_=>[]
def ifT:Stmt->Expr
 |.If t _ _ _=>t
 |_=>.Constant .none 0 ⟨0,0,0,0⟩
def lamIn:Expr->Expr
 |.Compare (.Call _ (e::_) _ _) _ _ _=>e
 |e=>e
def nthS(l:List Stmt)(i:Nat):Stmt:=l.getD i (.Pass ⟨0,0,0,0⟩)
def lawB:List Stmt:=forB (nthS (defBody sLaw) 2)
def lam1:Expr:=lamIn (ifT (nthS lawB 11))
def lam2:Expr:=lamIn (ifT (nthS lawB 13))
def lam3:Expr:=lamIn (ifT (nthS lawB 14))
def lamS:Expr->Scope
 |.Lambda _ _ s _=>s
 |_=>defScope sLaw
def lamB:Expr->Expr
 |.Lambda _ b _ _=>b
 |e=>e
def lamA:Expr->Arguments
 |.Lambda a _ _ _=>a
 |_=>defArgs sLaw
abbrev fv1:List Str:=["_law_goods","_law_stand","_law_rule"]
abbrev fv2:List Str:=["_law_goods","_law_weight","_law_rule"]
abbrev fv3:List Str:=["_law_weight","_law_rule"]
theorem free1:∀y∈(lamS lam1).names,y.2=.free->y.1∈fv1:=by decide +kernel
theorem free2:∀y∈(lamS lam2).names,y.2=.free->y.1∈fv2:=by decide +kernel
theorem free3:∀y∈(lamS lam3).names,y.2=.free->y.1∈fv3:=by decide +kernel
theorem scLam1:LamScope [] fv1 (lamS lam1):=⟨by decide +kernel,rfl,rfl,rfl,fun p h=>(by cases h),by decide +kernel,fun x h=>free1 (x,.free) (PySem.mem_of_lookup h) rfl,by decide +kernel⟩
theorem scLam2:LamScope [] fv2 (lamS lam2):=⟨by decide +kernel,rfl,rfl,rfl,fun p h=>(by cases h),by decide +kernel,fun x h=>free2 (x,.free) (PySem.mem_of_lookup h) rfl,by decide +kernel⟩
theorem scLam3:LamScope [] fv3 (lamS lam3):=⟨by decide +kernel,rfl,rfl,rfl,fun p h=>(by cases h),by decide +kernel,fun x h=>free3 (x,.free) (PySem.mem_of_lookup h) rfl,by decide +kernel⟩
def spRestG(K:PySem.W.Frag)(CG CW CR CL CS:Addr):Sp:=fun vs H Q E=>spRestBy K CG CW vs H Q E∨spRestN K CG CW CR CL CS vs H Q E
def spGapG(K:PySem.W.Frag)(CW CR CL CT:Addr):Sp:=fun vs H Q E=>spGap K CW vs H Q E∨spGapN K CR CL CT vs H Q E
def spWorstG(K:PySem.W.Frag)(CR CL CT:Addr):Sp:=fun vs H Q E=>spWorst vs H Q E∨spWorstN K CR CL CT vs H Q E
section
variable{K:PySem.W.Frag}{CG CW CR CL CS CT:Addr}{vs:List V}{H:Hp}{Q Q':VK}{E E':XK}
theorem spRestG.mono(h:spRestG K CG CW CR CL CS vs H Q E)(hQ:∀v H,Q v H->Q' v H)(hE:∀c d H,E c d H->E' c d H):spRestG K CG CW CR CL CS vs H Q' E':=by
 rcases h with⟨g,p,d,hs,ts,qs,fp,ns,f,r,hr,e,S,gu,k⟩|⟨g,p,v,vr,hs,ts,qs,fp,e,G,h⟩
 ·exact .inl ⟨g,p,d,hs,ts,qs,fp,ns,f,r,hr,e,S,gu,fun v H' s=>hQ _ _ (k v H' s)⟩
 ·refine .inr ⟨g,p,v,vr,hs,ts,qs,fp,e,G,?_⟩
  rcases h with⟨n,k⟩|⟨r,hr,e,gu,k⟩|⟨r,hr,e,gu,n,k⟩
  ·exact .inl ⟨n,fun H' s=>hE _ _ _ (k H' s)⟩
  ·exact .inr (.inl ⟨r,hr,e,gu,fun H' s=>hE _ _ _ (k H' s)⟩)
  ·exact .inr (.inr ⟨r,hr,e,gu,n,fun dd H' s=>hE _ _ _ (k dd H' s)⟩)
theorem BadWR.mono{vw vr:V}(h:BadWR K CR CL CT H vw vr E)(hE:∀c d H,E c d H->E' c d H):BadWR K CR CL CT H vw vr E':=by
 rcases h with⟨n,k⟩|⟨r,hr,e,gu,k⟩|⟨r,hr,e,gu,n,k⟩
 ·exact .inl ⟨n,fun H' s=>hE _ _ _ (k H' s)⟩
 ·exact .inr (.inl ⟨r,hr,e,gu,fun H' s=>hE _ _ _ (k H' s)⟩)
 ·exact .inr (.inr ⟨r,hr,e,gu,n,fun H' s=>hE _ _ _ (k H' s)⟩)
theorem spGapG.mono(h:spGapG K CW CR CL CT vs H Q E)(hQ:∀v H,Q v H->Q' v H)(hE:∀c d H,E c d H->E' c d H):spGapG K CW CR CL CT vs H Q' E':=by
 rcases h with⟨p,wt,m,hs,ts,fp,r,hr,e,gu,W,O,k⟩|⟨v,vw,vr,e,h⟩
 ·exact .inl ⟨p,wt,m,hs,ts,fp,r,hr,e,gu,W,O,fun a H' s n f=>hQ _ _ (k a H' s n f)⟩
 ·exact .inr ⟨v,vw,vr,e,h.mono hE⟩
theorem spWorstG.mono(h:spWorstG K CR CL CT vs H Q E)(hQ:∀v H,Q v H->Q' v H)(hE:∀c d H,E c d H->E' c d H):spWorstG K CR CL CT vs H Q' E':=by
 rcases h with⟨wt,r,hr,e,w1,w2,gu,k⟩|⟨vw,vr,e,h⟩
 ·exact .inl ⟨wt,r,hr,e,w1,w2,gu,fun v H' s=>hQ _ _ (k v H' s)⟩
 ·exact .inr ⟨vw,vr,e,h.mono hE⟩
end
def spL1(K:PySem.W.Frag)(CG CW CR CL CS:Addr):SpL:=fun vs gs H Q E=>∃(g v vr:V),vs=[]/\gs=[g,v,vr]/\spRestG K CG CW CR CL CS [g,v,vr] H Q E
def spL2(K:PySem.W.Frag)(CG CW CR CL CT:Addr):SpL:=fun vs gs H Q E=>∃(g p:Addr) (vw vr:V) (hs:List (Str × Int)) (ts:List (Str × Str)) (qs:List Pc) (fp:List Addr),vs=[]/\gs=[.ref g,vw,vr]/\GoodsAt K CG CW H g p hs ts qs fp/\spGapG K CW CR CL CT [.ref p,vw,vr] H Q E
def spL3(K:PySem.W.Frag)(CR CL CT:Addr):SpL:=fun vs gs H Q E=>∃(vw vr:V),vs=[]/\gs=[vw,vr]/\spWorstG K CR CL CT [vw,vr] H Q E
theorem mono1{K:PySem.W.Frag}{CG CW CR CL CS:Addr}:MonoL (spL1 K CG CW CR CL CS):=fun vs gs H Q Q' E E' ⟨g,v,vr,a,b,h⟩ hQ hE=>⟨g,v,vr,a,b,h.mono hQ hE⟩
theorem mono2{K:PySem.W.Frag}{CG CW CR CL CT:Addr}:MonoL (spL2 K CG CW CR CL CT):=fun vs gs H Q Q' E E' ⟨g,p,vw,vr,hs,ts,qs,fp,a,b,G,h⟩ hQ hE=>⟨g,p,vw,vr,hs,ts,qs,fp,a,b,G,h.mono hQ hE⟩
theorem mono3{K:PySem.W.Frag}{CR CL CT:Addr}:MonoL (spL3 K CR CL CT):=fun vs gs H Q Q' E E' ⟨vw,vr,a,b,h⟩ hQ hE=>⟨vw,vr,a,b,h.mono hQ hE⟩
section
variable{P:Program}{w:World}{K:PySem.W.Frag}{mg:Str->Option Value}{base:Heap}{CG CW CR CL CS CT:Addr}{qual:Str}
theorem iJ_(c:CalG P w K mg base 6 "rest_by" ["goods","stand","rule"] (spRestG K CG CW CR CL CS)):LamOk P w K mg base 7 qual (lamA lam1) (lamB lam1) (lamS lam1) [] fv1 (spL1 K CG CW CR CL CS):=by
 refine lamOk scLam1 (fun pm c' ctv cl us hl=>?_) (fun A outer s H f cd cl vs gs Q E hr h hp=>?_)
 ·cases us with
  |nil=>rfl
  |cons u us=>cases hl
 ·obtain⟨g,v,vr,rfl,rfl,h⟩:=h
  exact⟨_,cc_ c hr hp (a0_ (pv 0) (a0_ (pv 1) (a0_ (pv 2) a3_))),_,rfl,_,rfl,_,rfl,h⟩
theorem j2_(T:TxtG K CG)(c:CalG P w K mg base 6 "gap_of" ["web","weight","rule"] (spGapG K CW CR CL CT)):LamOk P w K mg base 7 qual (lamA lam2) (lamB lam2) (lamS lam2) [] fv2 (spL2 K CG CW CR CL CT):=by
 refine lamOk scLam2 (fun pm c' ctv cl us hl=>?_) (fun A outer s H f cd cl vs gs Q E hr h hp=>?_)
 ·cases us with
  |nil=>rfl
  |cons u us=>cases hl
 ·obtain⟨g,p,vw,vr,hs,ts,qs,fp,rfl,rfl,G,h⟩:=h
  obtain⟨dx,dw,dy,vs,fpw,h1,h2,_⟩:=id G.ex
  exact⟨_,cc_ c hr hp (a0_ (aM_ (pv 0) rfl) (a0_ (pv 1) (a0_ (pv 2) a3_))),_,rfl,g,CG,dx,_,_,rfl,h1,T.cl,T.nW,bs_ _ _ _,_,rfl,_,rfl,h⟩
theorem j5_(c:CalG P w K mg base 9 "worst_of" ["weight","rule"] (spWorstG K CR CL CT)):LamOk P w K mg base 10 qual (lamA lam3) (lamB lam3) (lamS lam3) [] fv3 (spL3 K CR CL CT):=by
 refine lamOk scLam3 (fun pm c' ctv cl us hl=>?_) (fun A outer s H f cd cl vs gs Q E hr h hp=>?_)
 ·cases us with
  |nil=>rfl
  |cons u us=>cases hl
 ·obtain⟨vw,vr,rfl,rfl,h⟩:=h
  exact⟨_,cc_ c hr hp (a0_ (pv 0) (a0_ (pv 1) a3_)),_,rfl,_,rfl,h⟩
end
end Ev
set_option Elab.async false
set_option linter.all false
set_option maxRecDepth 100000
namespace Ev
open PySem L2
theorem GoodsAt.slim2{K:PySem.W.Frag}{CG CW:Addr}{H:Hp}{g p:Addr}{hs:List (Str × Int)}{ts:List (Str × Str)}{qs:List Pc}{fp:List Addr}(G:GoodsAt K CG CW H g p hs ts qs fp):∃fp',GoodsAt K CG CW H g p hs ts qs fp'/\∀b∈fp',(∃o,H b=some o)/\b∈fp:=by
 obtain⟨dx,dw,dy,vs,fpw,h1,h2,h3,h4,h5,m1,m2,m3,m4,m5⟩:=G.ex
 refine⟨g::dw::dy::(fpw++vs.filterMap fun v=>match v with | .ref a=>some a|_=>none),⟨dx,dw,dy,vs,fpw,h1,h2,h3,h4,h5,by simp,by simp,by simp,fun b hb=>by simp[hb],fun v hv a z=>?_⟩,fun b hb=>?_⟩
 ·have:a∈vs.filterMap fun v=>match v with | .ref a=>some a|_=>none:=List.mem_filterMap.mpr ⟨v,hv,by rw[z]⟩
  simp only[List.mem_cons,List.mem_append]
  exact .inr (.inr (.inr (.inr this)))
 ·simp only[List.mem_cons,List.mem_append] at hb
  rcases hb with rfl|rfl|rfl|hb|hb
  ·exact⟨⟨_,h1⟩,m1⟩
  ·exact⟨⟨_,h3⟩,m2⟩
  ·exact⟨⟨_,h4⟩,m3⟩
  ·exact⟨h2.has hb,m4 _ hb⟩
  ·obtain⟨v,hv,e⟩:=List.mem_filterMap.mp hb
   obtain⟨i,hi,ev⟩:=List.getElem_of_mem hv
   have le:=Paired.length h5
   have w:=aS_ h5 i hi (by omega)
   rw[ev] at w
   cases o:(qs[i]'(by omega)).2.2 with
   |none=>
    rw[o] at w
    rw[show v=.non from w] at e
    cases e
   |some ws=>
    rw[o] at w
    obtain⟨a,ys,ea,ha,_⟩:=w
    rw[ea] at e
    cases e
    exact⟨⟨_,ha⟩,m5 v hv _ ea⟩
def fL(n:Str):Str:=if n="p" then "one" else "other"
def psN:List Str:=["p","q"]
theorem ii_:psN.Nodup:=by decide +kernel
section
variable{K:PySem.W.Frag}{H:Hp}{CG CW CR CL CS CT g p:Addr}{qs:List Pc}{fp:List Addr}{v vr vw:V}{bn bl sb wb:Bool}
theorem k8_(Q:Qs psL qs):(qs.map (·.1)).Nodup:=Q.nd ii_
theorem i0_(Q:Qs psL qs):qs.length=2:=Q.len
theorem jG_(Q:Qs psL qs){n:Str}:n∈qs.map (·.1) ↔ n∈psN:=by
 rw[Q.nms]
 exact (aF_ _).mem_iff
theorem qs_w(Q:Qs psL qs):∀q∈qs,0<=q.2.1/\q.2.1<=1000000000:=fun q hq=>by
 obtain⟨p,hp,rfl⟩:=Q.mem q hq
 have:=goodP p hp
 exact⟨Int.le_trans (by decide) this.w1,this.w2⟩
theorem standL(Q:Qs psL qs):StandOk hsL qs psN fL:=by
 refine⟨?_,by unfold psN hsL fL;decide +kernel⟩
 rw[Q.nms]
 exact (aF_ _).symm
def RuleV(K:PySem.W.Frag)(H:Hp)(vr:V)(bn bl:Bool):Prop:=(bn=true/\bl=false/\NoTx K H rnames vr)∨(bn=false/\∃r∈rl,vr=.str r.1/\bl=!guB ["fall","calm"] r)
def StdV(K:PySem.W.Frag)(H:Hp)(qs:List Pc)(fp:List Addr)(v:V)(sb:Bool):Prop:=(sb=true/\NoStd K H hsL qs fp v)∨(sb=false/\∃d,v=.ref d/\d∉fp/\H d=some (.dK (stF psN fL)))
def WtV(K:PySem.W.Frag)(H:Hp)(vw:V)(wb:Bool):Prop:=(wb=true/\NoWt K H vw)∨(wb=false/\∃x:Int,vw=.int x/\1<=x/\x<=1000000000)
theorem ask1(R:RuleV K H vr bn bl)(S:StdV K H qs fp v sb)(G:GoodsAt K CG CW H g p hsL tsL qs fp)(Q:Qs psL qs):spL1 K CG CW CR CL CS [] [.ref g,v,vr] H (fun _ H2=>Same H H2/\∀b∈[bn,bl,sb],b=false) (fun cls _ H2=>Same H H2/\∃(i:Nat) (Cx:Addr),[CR,CL,CS,CT][i]? = some Cx/\cls=.ref Cx/\[bn,bl,sb][i]? = some true/\∀j,j<i->[bn,bl,sb][j]? = some false):=by
 refine⟨.ref g,v,vr,rfl,rfl,?_⟩
 rcases R with⟨rfl,rfl,n⟩|⟨rfl,r,hr,rfl,eb⟩
 ·exact .inr ⟨g,p,v,vr,_,_,qs,fp,rfl,G,.inl ⟨n,fun H' s=>⟨s,0,CR,rfl,rfl,rfl,fun j hj=>absurd hj (Nat.not_lt_zero _)⟩⟩⟩
 ·cases gu:guB ["fall","calm"] r with
  |false=>
   rw[gu] at eb
   have eb:bl=true:=eb
   subst eb
   refine .inr ⟨g,p,v,_,_,_,qs,fp,rfl,G,.inr (.inl ⟨r,hr,rfl,gu,fun H' s=>⟨s,1,CL,rfl,rfl,rfl,fun j hj=>?_⟩⟩)⟩
   match j,hj with
   |0,_=>rfl
  |true=>
   rw[gu] at eb
   have eb:bl=false:=eb
   subst eb
   rcases S with⟨rfl,no⟩|⟨rfl,d,rfl,dfp,hd⟩
   ·refine .inr ⟨g,p,v,_,_,_,qs,fp,rfl,G,.inr (.inr ⟨r,hr,rfl,gu,no,fun dd H' s=>⟨s,2,CS,rfl,rfl,rfl,fun j hj=>?_⟩⟩)⟩
    match j,hj with
    |0,_=>rfl
    |1,_=>rfl
   ·obtain⟨fp',G',al⟩:=G.slim2
    refine .inl ⟨g,p,d,hsL,tsL,qs,fp',psN,fL,r,hr,rfl,⟨G',goodL,fun m=>dfp (al d m).2,hd,standL Q,k8_ Q,by rw[i0_ Q];decide,qs_w Q,fun b hb=>(al b hb).1,rfl⟩,gu,fun v H' s=>⟨s,by simp⟩⟩
theorem badWR(R:RuleV K H vr bn bl)(W:WtV K H vw wb)(gd:∀r∈rl,vr=.str r.1->guB ["fall","calm"] r=true->bn=false->bl=false->wb=false->False):BadWR K CR CL CT H vw vr (fun cls _ H2=>Same H H2/\∃(i:Nat) (Cx:Addr),[CR,CL,CS,CT][i]? = some Cx/\cls=.ref Cx/\[bn,bl,false,wb][i]? = some true/\∀j,j<i->[bn,bl,false,wb][j]? = some false):=by
 rcases R with⟨rfl,rfl,n⟩|⟨rfl,r,hr,rfl,eb⟩
 ·exact .inl ⟨n,fun H' s=>⟨s,0,CR,rfl,rfl,rfl,fun j hj=>absurd hj (Nat.not_lt_zero _)⟩⟩
 ·cases gu:guB ["fall","calm"] r with
  |false=>
   rw[gu] at eb
   have eb:bl=true:=eb
   subst eb
   refine .inr (.inl ⟨r,hr,rfl,gu,fun H' s=>⟨s,1,CL,rfl,rfl,rfl,fun j hj=>?_⟩⟩)
   match j,hj with
   |0,_=>rfl
  |true=>
   rw[gu] at eb
   have eb:bl=false:=eb
   subst eb
   rcases W with⟨rfl,no⟩|⟨rfl,_⟩
   ·refine .inr (.inr ⟨r,hr,rfl,gu,no,fun H' s=>⟨s,3,CT,rfl,rfl,rfl,fun j hj=>?_⟩⟩)
    match j,hj with
    |0,_=>rfl
    |1,_=>rfl
    |2,_=>rfl
   ·exact (gd r hr rfl gu rfl rfl rfl).elim
theorem ask2(R:RuleV K H vr bn bl)(W:WtV K H vw wb)(G:GoodsAt K CG CW H g p hsL tsL qs fp):spL2 K CG CW CR CL CT [] [.ref g,vw,vr] H (fun _ H2=>Same H H2/\∀b∈[bn,bl,false,wb],b=false) (fun cls _ H2=>Same H H2/\∃(i:Nat) (Cx:Addr),[CR,CL,CS,CT][i]? = some Cx/\cls=.ref Cx/\[bn,bl,false,wb][i]? = some true/\∀j,j<i->[bn,bl,false,wb][j]? = some false):=by
 refine⟨g,p,vw,vr,_,_,qs,fp,rfl,rfl,G,?_⟩
 by_cases c:∃r∈rl,vr=.str r.1/\guB ["fall","calm"] r=true/\bn=false/\bl=false/\wb=false
 ·obtain⟨r,hr,rfl,gu,rfl,rfl,rfl⟩:=c
  obtain⟨x,rfl,x1,x2⟩:∃x:Int,vw=.int x/\1<=x/\x<=1000000000:=by
   rcases W with⟨z,_⟩|⟨_,h⟩
   ·cases z
   ·exact h
  obtain⟨m,hm⟩:=mostL
  obtain⟨dx,dw,dy,vs,fpw,h1,h2,_⟩:=id G.ex
  exact .inl ⟨p,x,m,hsL,tsL,fpw,r,hr,rfl,gu,h2,⟨x1,x2,goodL,hm⟩,fun a H' s _ _=>⟨s,by simp⟩⟩
 ·exact .inr ⟨_,vw,vr,rfl,badWR (CS:=CS) R W fun r hr e gu a b d=>c ⟨r,hr,e,gu,a,b,d⟩⟩
theorem ask3(R:RuleV K H vr bn bl)(W:WtV K H vw wb):spL3 K CR CL CT [] [vw,vr] H (fun _ H2=>Same H H2/\∀b∈[bn,bl,false,wb],b=false) (fun cls _ H2=>Same H H2/\∃(i:Nat) (Cx:Addr),[CR,CL,CS,CT][i]? = some Cx/\cls=.ref Cx/\[bn,bl,false,wb][i]? = some true/\∀j,j<i->[bn,bl,false,wb][j]? = some false):=by
 refine⟨vw,vr,rfl,rfl,?_⟩
 by_cases c:∃r∈rl,vr=.str r.1/\guB ["fall","calm"] r=true/\bn=false/\bl=false/\wb=false
 ·obtain⟨r,hr,rfl,gu,rfl,rfl,rfl⟩:=c
  obtain⟨x,rfl,x1,x2⟩:∃x:Int,vw=.int x/\1<=x/\x<=1000000000:=by
   rcases W with⟨z,_⟩|⟨_,h⟩
   ·cases z
   ·exact h
  exact .inl ⟨x,r,hr,rfl,x1,x2,gu,fun v H' s=>⟨s,by simp⟩⟩
 ·exact .inr ⟨vw,vr,rfl,badWR (CS:=CS) R W fun r hr e gu a b d=>c ⟨r,hr,e,gu,a,b,d⟩⟩
end
end Ev
set_option Elab.async false
set_option linter.all false
set_option maxRecDepth 100000
namespace Ev
open PySem L2
def noneS:List Str:=["","calm","shares","turns","least one","below two fall"]
theorem h0_:∀x∈noneS,x∉rnames:=by decide +kernel
def RV(lx:Addr)(v:V):Prop:=(∃x∈lawRules,v=.str x)∨(∃x∈noneS,v=.str x)∨v=.non∨v=.ref lx
def noneL(lx:Addr):List V:=noneS.map V.str++[.non,.ref lx]
section
variable{K:PySem.W.Frag}{H H':Hp}{qs:List Pc}{fp:List Addr}{v vr vw:V}{l lx ld d0 d1 d2 le lw t1 l1:Addr}{r:Int}
theorem hM_{v:V}(h:∀x,v≠.str x)(ss:List Str):inV v (ss.map V.str)=false:=by
 unfold inV
 rw[List.any_eq_false]
 intro y hy
 obtain⟨x,hx,rfl⟩:=List.mem_map.mp hy
 cases v<;>first|exact absurd rfl (h _)|simp[eqV]
theorem jc_(o:RV lx vr):∃bn bl,(∀H:Hp,H lx=some (.lst [.str "shares",.str "one"])->RuleV K H vr bn bl)/\(∀(H:Hp) (p:Addr) (Q:VK),H lx=some (.lst [.str "shares",.str "one"])->H p=some (.lst (lawRules.map V.str))->Q (.bl bn) H->rInP K true vr (.ref p) H Q)/\(bn=true->bl=false)/\(bn=false->∃r∈rl,vr=.str r.1/\bl=!guB ["fall","calm"] r):=by
 rcases o with⟨x,hx,rfl⟩|⟨x,hx,rfl⟩|rfl|rfl
 ·obtain⟨r,hr,rfl⟩:=List.mem_map.mp (e4_ x hx)
  refine⟨false,!guB ["fall","calm"] r,fun H _=>.inr ⟨rfl,r,hr,rfl,rfl⟩,fun H p Q _ hp q=>.inl (.inl ⟨p,_,rfl,.inl (.of hp),rfl,bq_ _,?_⟩),fun z=>(by cases z),fun _=>⟨r,hr,rfl,rfl⟩⟩
  rw[if_pos rfl,dn_,decide_eq_true hx]
  exact q
 ·have nx:=h0_ x hx
  refine⟨true,false,fun H _=>.inl ⟨rfl,rfl,.inl ⟨x,rfl,nx⟩⟩,fun H p Q _ hp q=>.inl (.inl ⟨p,_,rfl,.inl (.of hp),rfl,bq_ _,?_⟩),fun _=>rfl,fun z=>(by cases z)⟩
  rw[if_pos rfl,dn_,decide_eq_false (fun z=>nx (e4_ _ z))]
  exact q
 ·refine⟨true,false,fun H _=>.inl ⟨rfl,rfl,.inr ⟨_,.non,rfl⟩⟩,fun H p Q _ hp q=>.inl (.inl ⟨p,_,rfl,.inl (.of hp),rfl,bq_ _,?_⟩),fun _=>rfl,fun z=>(by cases z)⟩
  rw[if_pos rfl,hM_ (by intro x z;cases z)]
  exact q
 ·exact⟨true,false,fun H h=>.inl ⟨rfl,rfl,.inr ⟨_,.lst h,rfl⟩⟩,fun H p Q h hp q=>.inr ⟨p,lx,lawRules,rfl,rfl,.of hp,.inl ⟨_,h⟩,q⟩,fun _=>rfl,fun z=>(by cases z)⟩
structure StA (H:Hp) (ld d0 d1 d2 le:Addr):Prop where
 ld:H ld=some (.lst [.ref d0,.ref d0,.ref d0,.ref d1,.ref d2,.non,.ref le,.str "one"])
 d0:H d0=some (.dK (stF psN fL))
 d1:H d1=some (.dK (stF ["p"] fun _=>"one"))
 d2:H d2=some (.dK (stF psN fun n=>if n="p" then "one" else "none"))
 le:H le=some (.lst [])
theorem StA.nt(A:StA H ld d0 d1 d2 le)(s:NT H H'):StA H' ld d0 d1 d2 le:=⟨s.lst A.ld,s.dK A.d0,s.dK A.d1,s.dK A.d2,s.lst A.le⟩
def StO(d0 d1 d2 le:Addr)(v:V):Prop:=v=.ref d0∨v=.ref d1∨v=.ref d2∨v=.non∨v=.ref le∨v=.str "one"
theorem jJ_(Q:Qs psL qs)(o:StO d0 d1 d2 le v)(n0:d0∉fp)(n1:d1∉fp)(n2:d2∉fp):∃sb,∀H,StA H ld d0 d1 d2 le->StdV K H qs fp v sb/\∀Q:VK,Q (.bl sb) H->rNeStd K v (.ref d0) H Q:=by
 have ql:=i0_ Q
 have sub:∀n∈psN,n∈qs.map (·.1):=fun n hn=>(jG_ Q).mpr hn
 rcases o with rfl|rfl|rfl|rfl|rfl|rfl
 ·exact⟨false,fun H A=>⟨.inr ⟨rfl,d0,rfl,n0,A.d0⟩,fun Q q=>⟨d0,psN,fL,rfl,A.d0,.inr ⟨d0,psN,fL,rfl,A.d0,fun _ h=>h,by rw[show (!(decide (psN.length=psN.length)&&psN.all fun n=>decide (fL n=fL n)))=false by simp];exact q⟩⟩⟩⟩
 ·refine⟨true,fun H A=>⟨.inl ⟨rfl,.inr ⟨d1,["p"],fun _=>"one",rfl,n1,A.d1,fun n hn=>sub n (by rw[List.mem_singleton.mp hn];decide),.inr (by rw[ql];decide)⟩⟩,fun Q q=>⟨d0,psN,fL,rfl,A.d0,.inr ⟨d1,["p"],fun _=>"one",rfl,A.d1,fun n hn=>by rw[List.mem_singleton.mp hn];decide,?_⟩⟩⟩⟩
  exact q
 ·refine⟨true,fun H A=>⟨.inl ⟨rfl,.inr ⟨d2,psN,fun n=>if n="p" then "one" else "none",rfl,n2,A.d2,sub,.inl ⟨"q",by decide,by decide +kernel⟩⟩⟩,fun Q q=>⟨d0,psN,fL,rfl,A.d0,.inr ⟨d2,psN,fun n=>if n="p" then "one" else "none",rfl,A.d2,fun _ h=>h,?_⟩⟩⟩⟩
  rw[show (!(decide (psN.length=psN.length)&&psN.all fun n=>decide ((if n="p" then "one" else "none":Str)=fL n)))=true by decide +kernel]
  exact q
 ·exact⟨true,fun H A=>⟨.inl ⟨rfl,.inl ⟨_,.non,rfl⟩⟩,fun Q q=>⟨d0,psN,fL,rfl,A.d0,.inl ⟨.inr (.inl rfl),q⟩⟩⟩⟩
 ·exact⟨true,fun H A=>⟨.inl ⟨rfl,.inl ⟨_,.lst A.le,rfl⟩⟩,fun Q q=>⟨d0,psN,fL,rfl,A.d0,.inl ⟨.inr (.inr ⟨le,_,rfl,A.le⟩),q⟩⟩⟩⟩
 ·exact⟨true,fun H A=>⟨.inl ⟨rfl,.inl ⟨_,.str _,rfl⟩⟩,fun Q q=>⟨d0,psN,fL,rfl,A.d0,.inl ⟨.inl ⟨_,rfl⟩,q⟩⟩⟩⟩
def wtL(r:Int)(t1 l1:Addr):List V:=[.int 1,.int (10 ^ 9),.int (1+r),.int 0,.int (-1),.int (10 ^ 9+1),.bl true,.bl false,.non,.str "1",.ref t1,.ref l1]
structure WtA (H:Hp) (r:Int) (lw t1 l1:Addr):Prop where
 lw:H lw=some (.lst (wtL r t1 l1))
 t1:H t1=some (.tup [.int 1])
 l1:H l1=some (.lst [.int 1])
theorem WtA.nt(A:WtA H r lw t1 l1)(s:NT H H'):WtA H' r lw t1 l1:=⟨s.lst A.lw,s.tup A.t1,s.lst A.l1⟩
theorem jx_:cutV (wtL r t1 l1) none (some 3)=([1,10 ^ 9,1+r]:List Int).map V.int:=by
 rw[show (some 3:Option Int)=some ((3:Nat):Int) from rfl,gx_]
 rfl
def WQ(K:PySem.W.Frag)(H:Hp)(v:V)(wb:Bool)(Q:VK):Prop:=∀c,((c=true/\wb=true)∨(c=false/\∃t,TyOf K H v t/\PySem.W.kitOne K t (.type "bool")=some wb))->Q (.bl c) H
theorem k5_(r0:0<=r)(r1:r<10 ^ 9)(o:v∈wtL r t1 l1):∃wb,∀H,WtA H r lw t1 l1->WtV K H v wb/\∀(p:Addr) (Q:VK),H p=some (.lst (([1,10 ^ 9,1+r]:List Int).map V.int))->WQ K H v wb Q->rInN K true v (.ref p) H Q:=by
 have e9:(10 ^ 9:Int)=1000000000:=by decide
 have fl:(([1,10 ^ 9,1+r]:List Int).map V.int).all flatV=true:=rfl
 have yes:∀x:Int,(x=1∨x=10 ^ 9∨x=1+r)->inV (.int x) (([1,10 ^ 9,1+r]:List Int).map V.int)=true:=fun x h=>by
  simp only[inV,List.map_cons,List.map_nil,List.any_cons,List.any_nil,eqV,Bool.or_false,Bool.or_eq_true,beq_iff_eq]
  rcases h with h|h|h
  ·exact .inl h.symm
  ·exact .inr (.inl h.symm)
  ·exact .inr (.inr h.symm)
 have no:∀x:Int,x≠1->x≠10 ^ 9->x≠1+r->inV (.int x) (([1,10 ^ 9,1+r]:List Int).map V.int)=false:=fun x a b c=>by
  simp only[inV,List.map_cons,List.map_nil,List.any_cons,List.any_nil,eqV,Bool.or_false,Bool.or_eq_false_iff,beq_eq_false_iff_ne]
  exact⟨a.symm,b.symm,c.symm⟩
 have good:∀x:Int,(x=1∨x=10 ^ 9∨x=1+r)->∃wb,∀H,WtA H r lw t1 l1->WtV K H (.int x) wb/\∀(p:Addr) (Q:VK),H p=some (.lst (([1,10 ^ 9,1+r]:List Int).map V.int))->WQ K H (.int x) wb Q->rInN K true (.int x) (.ref p) H Q:=fun x h=>by
  refine⟨false,fun H A=>⟨.inr ⟨rfl,x,rfl,by omega,by omega⟩,fun p Q hp q=>.inl ⟨p,_,rfl,.inl (.of hp),rfl,fl,?_⟩⟩⟩
  rw[if_pos rfl,yes x h]
  exact q false (.inr ⟨rfl,_,.int _,rfl⟩)
 have bad:∀x:Int,x≠1->x≠10 ^ 9->x≠1+r->¬(1<=x/\x<=1000000000)->∃wb,∀H,WtA H r lw t1 l1->WtV K H (.int x) wb/\∀(p:Addr) (Q:VK),H p=some (.lst (([1,10 ^ 9,1+r]:List Int).map V.int))->WQ K H (.int x) wb Q->rInN K true (.int x) (.ref p) H Q:=fun x a b c d=>by
  refine⟨true,fun H A=>⟨.inl ⟨rfl,.inl ⟨x,rfl,d⟩⟩,fun p Q hp q=>.inl ⟨p,_,rfl,.inl (.of hp),rfl,fl,?_⟩⟩⟩
  rw[if_pos rfl,no x a b c]
  exact q true (.inl ⟨rfl,rfl⟩)
 have flat:∀y:V,flatV y=true->inV y (([1,10 ^ 9,1+r]:List Int).map V.int)=false->(∀H,NoWt K H y)->∃wb,∀H,WtA H r lw t1 l1->WtV K H y wb/\∀(p:Addr) (Q:VK),H p=some (.lst (([1,10 ^ 9,1+r]:List Int).map V.int))->WQ K H y wb Q->rInN K true y (.ref p) H Q:=fun y f i n=>by
  refine⟨true,fun H A=>⟨.inl ⟨rfl,n H⟩,fun p Q hp q=>.inl ⟨p,_,rfl,.inl (.of hp),f,fl,?_⟩⟩⟩
  rw[if_pos rfl,i]
  exact q true (.inl ⟨rfl,rfl⟩)
 simp only[wtL,List.mem_cons,List.not_mem_nil,or_false] at o
 rcases o with rfl|rfl|rfl|rfl|rfl|rfl|rfl|rfl|rfl|rfl|rfl|rfl
 ·exact good _ (.inl rfl)
 ·exact good _ (.inr (.inl rfl))
 ·exact good _ (.inr (.inr rfl))
 ·exact bad _ (by omega) (by omega) (by omega) (by omega)
 ·exact bad _ (by omega) (by omega) (by omega) (by omega)
 ·exact bad _ (by omega) (by omega) (by omega) (by omega)
 ·refine⟨true,fun H A=>⟨.inl ⟨rfl,.inr (.inl ⟨_,rfl⟩)⟩,fun p Q hp q=>.inl ⟨p,_,rfl,.inl (.of hp),rfl,fl,?_⟩⟩⟩
  rw[if_pos rfl,show inV (.bl true) (([1,10 ^ 9,1+r]:List Int).map V.int)=true from rfl]
  exact q false (.inr ⟨rfl,_,.bl _,rfl⟩)
 ·refine flat _ rfl ?_ fun H=>.inr (.inl ⟨_,rfl⟩)
  simp only[inV,List.map_cons,List.map_nil,List.any_cons,List.any_nil,eqV,Bool.or_false,Bool.or_eq_false_iff,beq_eq_false_iff_ne]
  refine⟨by decide,by decide,?_⟩
  show (1+r≠0)
  omega
 ·exact flat _ rfl rfl fun H=>.inr (.inr ⟨_,.non,rfl⟩)
 ·exact flat _ rfl rfl fun H=>.inr (.inr ⟨_,.str _,rfl⟩)
 ·exact⟨true,fun H A=>⟨.inl ⟨rfl,.inr (.inr ⟨_,.tup A.t1,rfl⟩)⟩,fun p Q hp q=>.inr ⟨p,t1,_,rfl,rfl,.of hp,.inr ⟨_,A.t1⟩,q true (.inl ⟨rfl,rfl⟩)⟩⟩⟩
 ·exact⟨true,fun H A=>⟨.inl ⟨rfl,.inr (.inr ⟨_,.lst A.l1,rfl⟩)⟩,fun p Q hp q=>.inr ⟨p,l1,_,rfl,rfl,.of hp,.inl ⟨_,A.l1⟩,q true (.inl ⟨rfl,rfl⟩)⟩⟩⟩
theorem st0:stF psN fL=([(Sum.inr "p",.str "one"),(Sum.inr "q",.str "other")]:List (Key × V)):=by
 have h:fL "p"="one":=by decide +kernel
 have h2:fL "q"="other":=by decide +kernel
 show [((Sum.inr "p":Key),V.str (fL "p")),(Sum.inr "q",V.str (fL "q"))]=_
 rw[h,h2]
theorem st1:stF ["p"] (fun _=>"one")=([(Sum.inr "p",.str "one")]:List (Key × V)):=rfl
theorem st2:stF psN (fun n=>if n="p" then "one" else "none")=([(Sum.inr "p",.str "one"),(Sum.inr "q",.str "none")]:List (Key × V)):=by
 have h:(if ("p":Str)="p" then "one" else "none":Str)="one":=by decide +kernel
 have h2:(if ("q":Str)="p" then "one" else "none":Str)="none":=by decide +kernel
 show [((Sum.inr "p":Key),V.str (if ("p":Str)="p" then "one" else "none":Str)),(Sum.inr "q",V.str (if ("q":Str)="p" then "one" else "none":Str))]=_
 rw[h,h2]
theorem ifAsk{ta tb:TE}{t u:TS}{D:Ends}{σ:St}{H:Hp}(h:ta σ H (fun x H1=>tb σ H1 fun y H2=>rNeSame x y H2 fun z H3=>∃b,z=.bl b/\if b=true then t D σ H3 else u D σ H3)):tIfS (tTest (tOp rNeSame ta tb)) t u D σ H:=h
theorem mk1{p:Addr}{k u:Str}:upd (upd H p (.dK [])) p (.dK (mergeK [] [(Sum.inr k,.str u)]))=upd H p (.dK [(Sum.inr k,.str u)]):=e7_
theorem mk2{p:Addr}{k u k2 u2:Str}(ne:k≠k2):upd (upd H p (.dK [])) p (.dK (mergeK [] [(Sum.inr k,.str u),(Sum.inr k2,.str u2)]))=upd H p (.dK [(Sum.inr k,.str u),(Sum.inr k2,.str u2)]):=by rw[e7_,aU_ (by simp[ne])]
end
end Ev
set_option Elab.async false
set_option linter.all false
set_option maxRecDepth 100000
namespace L2
open PySem PySem.Spec PyProof.Rows
theorem okC{P:Program}{w:World}{K:PySem.W.Frag}{mg:Str->Option Value}{base:Heap}{k:Nat}{f:Addr}{name qual:Str}{params:Arguments}{body:List Stmt}{scope:Scope}{dV kV doc pm cdv ct oc:Value}{an od:Option Addr}
  {osl:Array (Option Value)} {N ps:List Str} {sp:Sp} (lk:K.lookup f=some ⟨oc,od,.func (PySem.W.fnOf name qual params body scope dV kV doc pm an cdv ct),osl⟩) (hcd:PySem.W.codeIn K cdv qual=true) (S:FnScope N ps scope)
  (len:∀vs H Q E,sp vs H Q E->vs.length=ps.length)
  (hbody:∀(A:Around) (outer:List Env) (s:Shared) (H:Hp) (vs:List V) (Q:VK) (E:XK),Room k (A.deeper (envOfC qual scope s.heap.objs.size f cdv))->sp vs H Q E->
   ∃t,PSs (cxOf CX0 P w K mg base N qual scope f cdv A outer s H E).nox body t/\t { nx:=fun _ H'=>Q .non H',rt:=Q } (start N vs) H) :
  FnOk P w K mg base CX0 (k+1) f (PySem.W.fnOf name qual params body scope dV kV doc pm an cdv ct) ps sp:=
 hr_ lk hcd S len fun A outer s H vs Q E hr hsp=>by
  obtain⟨t,h,q⟩:=hbody A outer s H vs Q E hr hsp
  exact⟨t,h.nox,q⟩
end L2
namespace Ev
open PySem L2
theorem gS_{X:Cx}{k:Nat}{x:Str}{sp:Sp}{p pos:Pos}(c:Cal X.prog X.w X.K X.mg X.base k x [] sp)(hr:Room k X.A)(hg:Gl X x:=by rfl)(hdb:(x == ("__debug__":Str))=false:=by decide):PE X (.Call (.Name x p) [] [] pos) (tCall sp [] E0 tNil):=by
 obtain⟨f,fd,F,m,kp,b⟩:=c.ex
 exact ha_ F hr hg m kp b .nil pass0 hdb
theorem gM_{X:Cx}{k:Nat}{x:Str}{ps:List Str}{sp:Sp}{p pos:Pos}{e:Expr}{es:List Expr}{ta:TA}{fvs:List Str}{cl:List (Str × Addr)}{is:List Nat}(c:Cal X.prog X.w X.K X.mg X.base k x ps sp)(hr:Room k X.A)(ha:PA X (e::es) ta)
  (hin:∀q∈cl,X.env.cells.lookup q.1=some q.2) (hfn:∀q∈cl,X.fn q.1=true) (hcl:∀x∈fvs,∃c,cl.lookup x=some c) (hkd:∀x∈fvs,X.env.scope.names.lookup x=some .cell) (hkl:∀x c,cl.lookup x=some c->x∈fvs) (hN:is.map (fun i=>X.N[i]?)=fvs.map some)
  (hg:Gl X x:=by rfl) (hdb:(x == ("__debug__":Str))=false:=by decide) (he:starEach (e::es) X.env=(false,eval e X.env)::starEach es X.env:=by rfl) (hpl:(backTo pos (starEach es X.env)).any (·.1)=false:=by rfl) :
  PE X (.Call (.Name x p) (e::es) [] pos) (tCallL fvs cl is sp ta):=by
 obtain⟨f,fd,F,m,kp,b⟩:=c.ex
 exact hZ_ F hr hg m kp b ha hin hfn hcl hkd hkl hN hdb he hpl
abbrev lN:List Str:=["_law_script","_law_none","_law_k","_law_state_here","_law_way","_law_some","_law_stands","_law_weights","_law_is_none","_law_reasons","_law_bad","_law_due","_law_goods","_law_rule","_law_stand","_law_weight"]
theorem scLaw:FnScope lN ["_law_script"] (defScope sLaw):=⟨rfl,rfl,rfl,by decide +kernel,rfl,by decide +kernel,by decide +kernel⟩
def cl1(L:Addr):List (Str × Addr):=[("_law_stand",L+4),("_law_rule",L+3),("_law_goods",L+2)]
def cl2(L:Addr):List (Str × Addr):=[("_law_weight",L+5),("_law_rule",L+3),("_law_goods",L+2)]
def cl3(L:Addr):List (Str × Addr):=[("_law_weight",L+5),("_law_rule",L+3)]
theorem clo1{L f:Addr}{cd:Value}:closureFor (lamS lam1) (PyProof.Rows.envOfC "law" (defScope sLaw) L f cd)=pure (cl1 L):=by rfl
theorem clo2{L f:Addr}{cd:Value}:closureFor (lamS lam2) (PyProof.Rows.envOfC "law" (defScope sLaw) L f cd)=pure (cl2 L):=by rfl
theorem clo3{L f:Addr}{cd:Value}:closureFor (lamS lam3) (PyProof.Rows.envOfC "law" (defScope sLaw) L f cd)=pure (cl3 L):=by rfl
theorem cel1{L f:Addr}{cd:Value}:∀q∈cl1 L,(PyProof.Rows.envOfC "law" (defScope sLaw) L f cd).cells.lookup q.1=some q.2:=by
 intro q hq
 simp only[cl1,List.mem_cons,List.not_mem_nil,or_false] at hq
 rcases hq with rfl|rfl|rfl<;>rfl
theorem cel2{L f:Addr}{cd:Value}:∀q∈cl2 L,(PyProof.Rows.envOfC "law" (defScope sLaw) L f cd).cells.lookup q.1=some q.2:=by
 intro q hq
 simp only[cl2,List.mem_cons,List.not_mem_nil,or_false] at hq
 rcases hq with rfl|rfl|rfl<;>rfl
theorem cel3{L f:Addr}{cd:Value}:∀q∈cl3 L,(PyProof.Rows.envOfC "law" (defScope sLaw) L f cd).cells.lookup q.1=some q.2:=by
 intro q hq
 simp only[cl3,List.mem_cons,List.not_mem_nil,or_false] at hq
 rcases hq with rfl|rfl<;>rfl
theorem lcl1{L:Addr}:∀x∈fv1,∃c,(cl1 L).lookup x=some c:=by
 intro x hx
 simp only[fv1,List.mem_cons,List.not_mem_nil,or_false] at hx
 rcases hx with rfl|rfl|rfl<;>exact⟨_,rfl⟩
theorem lcl2{L:Addr}:∀x∈fv2,∃c,(cl2 L).lookup x=some c:=by
 intro x hx
 simp only[fv2,List.mem_cons,List.not_mem_nil,or_false] at hx
 rcases hx with rfl|rfl|rfl<;>exact⟨_,rfl⟩
theorem lcl3{L:Addr}:∀x∈fv3,∃c,(cl3 L).lookup x=some c:=by
 intro x hx
 simp only[fv3,List.mem_cons,List.not_mem_nil,or_false] at hx
 rcases hx with rfl|rfl<;>exact⟨_,rfl⟩
theorem lkl1{L:Addr}:∀x c,(cl1 L).lookup x=some c->x∈fv1:=by
 intro x c h
 have m:=PySem.mem_of_lookup h
 simp only[cl1,List.mem_cons,List.not_mem_nil,or_false,Prod.mk.injEq] at m
 rcases m with⟨rfl,_⟩|⟨rfl,_⟩|⟨rfl,_⟩<;>simp[fv1]
theorem lkl2{L:Addr}:∀x c,(cl2 L).lookup x=some c->x∈fv2:=by
 intro x c h
 have m:=PySem.mem_of_lookup h
 simp only[cl2,List.mem_cons,List.not_mem_nil,or_false,Prod.mk.injEq] at m
 rcases m with⟨rfl,_⟩|⟨rfl,_⟩|⟨rfl,_⟩<;>simp[fv2]
theorem lkl3{L:Addr}:∀x c,(cl3 L).lookup x=some c->x∈fv3:=by
 intro x c h
 have m:=PySem.mem_of_lookup h
 simp only[cl3,List.mem_cons,List.not_mem_nil,or_false,Prod.mk.injEq] at m
 rcases m with⟨rfl,_⟩|⟨rfl,_⟩<;>simp[fv3]
theorem lkd1:∀x∈fv1,(defScope sLaw).names.lookup x=some .cell:=by decide +kernel
theorem lkd2:∀x∈fv2,(defScope sLaw).names.lookup x=some .cell:=by decide +kernel
theorem lkd3:∀x∈fv3,(defScope sLaw).names.lookup x=some .cell:=by decide +kernel
def lq:Str:=("law":Str)++".<locals>."++"<lambda>"
def spLaw(K:PySem.W.Frag)(T:Addr):Sp:=fun vs H Q _=>∃(a:Addr) (ns:List Int),vs=[.ref a]/\H T=some (.tbl #[])/\SqL K H a (ns.map V.int)/\ns.length<=63/\∀H',Q (.bl true) H'
theorem But.same{l:Addr}{H H1 H2:Hp}(b:But l H1 H2)(n:H l=none)(s:Same H H1):Same H H2:=fun c o e=>b c o (s c o e) (a7_ e n)
theorem i5_{K:PySem.W.Frag}{H H':Hp}{a:Addr}{xs:List V}(s:NT H H')(h:SqL K H a xs):SqL K H' a xs:=by
 rcases h with (h|⟨o,h⟩)|h
 ·exact .inl (.inl (s.lst h))
 ·exact .inl (.inr ⟨o,s _ _ h (by intro vs z;cases z)⟩)
 ·exact .inr h
theorem sure1:∀r∈rl,r.1="shares one"->guB ["fall","calm"] r=true:=by decide +kernel
theorem sure2:∀r∈rl,r.1="turns high"->guB ["fall","calm"] r=false:=by decide +kernel
theorem rule_at:lawRules[0]? = some ("shares one":Str)/\lawRules[2]? = some ("turns high":Str):=by decide +kernel
abbrev cN:List Str:=["_law_one","_law_way"]
section
variable{P:Program}{w:World}{K:PySem.W.Frag}{mg:Str->Option Value}{base:Heap}{CG CW CR CL CS CT:Addr}
set_option maxHeartbeats 6400000 in
theorem jR_{fl c T:Addr}{ocl kVl dcl pml ctl:Value}{odl anl:Option Addr}{sll:Array (Option Value)}(lk:K.lookup fl=some ⟨ocl,odl,.func (PySem.W.fnOf "law" "law" (defArgs sLaw) (defBody sLaw) (defScope sLaw) .none kVl dcl pml anl (.ref c) ctl),sll⟩)(hcd:PySem.W.codeIn K (.ref c) "law"=true)(hC:PySem.W.CodeHd base c T)(hbm:base.BuiltinsAt mg T)
  (B:Bi mg) (cC:Cal P w K mg base 1 "_law_cell_at" ["_law_script","_law_k"] (spCell K)) (cSt:Cal P w K mg base 1 "_law_state" ["_law_cell","_law_k"] spState) (cD:Cal P w K mg base 2 "_law_digit" ["_law_state_here","_law_base"] spDigit) (cRu:Cal P w K mg base 1 "_law_rules" [] spRules) (cSu:Cal P w K mg base 1 "_law_sure" ["_law_rule"] spSure) (cFi:Cal P w K mg base 1 "_law_first" ["_law_reasons"] spFirst)
  (cMk:CalC P w K mg base CW 5 "Web" ["self","hands","ties"] (spInit K CW)) (cGd:CalC P w K mg base CG 7 "Goods" ["self","web","pieces"] (spGInit K CG CW))
  (cA1:Cal P w K mg base 8 "_law_said" ["_law_ask"] (spSaid CR CL CS CT lq (lamA lam1) (lamB lam1) (lamS lam1) fv1 (spL1 K CG CW CR CL CS))) (cA2:Cal P w K mg base 8 "_law_said" ["_law_ask"] (spSaid CR CL CS CT lq (lamA lam2) (lamB lam2) (lamS lam2) fv2 (spL2 K CG CW CR CL CT))) (cA3:Cal P w K mg base 11 "_law_said" ["_law_ask"] (spSaid CR CL CS CT lq (lamA lam3) (lamB lam3) (lamS lam3) fv3 (spL3 K CR CL CT))) :
  FnOk P w K mg base CX0 12 fl (PySem.W.fnOf "law" "law" (defArgs sLaw) (defBody sLaw) (defScope sLaw) .none kVl dcl pml anl (.ref c) ctl) ["_law_script"] (spLaw K T):=by
 refine okC lk hcd scLaw (fun vs H Q E h=>?_) (fun A outer s H vs Q E hr h=>?_)
 ·obtain⟨a,ns,rfl,_⟩:=h
  rfl
 ·obtain⟨ls,ns,rfl,hT,hls,h63,k⟩:=h
  have sz:=sizeLine_eq
  have hu:=bk_ hr
  have hu0:=Nat.lt_of_succ_lt hu
  have hr1:Room 1 _:=hr.mono (by decide)
  have hr2:Room 2 _:=hr.mono (by decide)
  have hr6:Room 6 _:=hr.mono (by decide)
  have hr8:Room 8 _:=hr.mono (by decide)
  refine' ⟨_,?r0,?kk⟩
  case' r0=>refine' a2_ ?s1 ?r1
  case' r1=>refine' a2_ ?s2 ?r2
  case' r2=>refine' a2_ ?s3 (a4_ (aa_ bu_))
  case s1=>exact ab_ (i:=12) scLaw.nd rfl (Or.inr rfl) (hx_ cGd hr8 (a0_ (hx_ cMk hr6 (a0_ (az_ (a0_ (aC_ (a0_ a9_ (a0_ a6_ a3_))) (a0_ (aC_ (a0_ a9_ (a0_ a6_ a3_))) a3_))) (a0_ (az_ (a0_ (aC_ (a0_ a9_ (a0_ a9_ a3_))) a3_)) a3_))) (a0_ (az_ (a0_ (aC_ (a0_ a9_ (a0_ a6_ (a0_ ci_ a3_)))) (a0_ (aC_ (a0_ a9_ (a0_ a6_ (a0_ (az_ a3_) a3_)))) a3_))) a3_)))
  case' s2=>refine' ab_ (i:=1) scLaw.nd rfl (Or.inl rfl) (az_ ?l0)
  case' l0=>refine' a0_ a9_ ?l1
  case' l1=>refine' a0_ a9_ ?l2
  case' l2=>refine' a0_ a9_ ?l3
  case' l3=>refine' a0_ a9_ ?l4
  case' l4=>refine' a0_ a9_ ?l5
  case' l5=>refine' a0_ a9_ ?l6
  case l6=>exact a0_ ci_ (a0_ (az_ (a0_ a9_ (a0_ a9_ a3_))) a3_)
  case' s3=>refine' b1_ PassesOwn.never rfl ?i3 (ae_ (i:=2) scLaw.nd rfl (Or.inl rfl)) ?b0
  case i3=>exact fQ_ (by rfl) B.range (a0_ (ah_ ba_ a6_ (a8_ (fF_ rfl) (by rfl) B.min PyProof.Rows.Boot.«min» (a0_ (a8_ ai_ (by rfl) B.len PySem.boot_len (a0_ (pv 0) a3_)) (a0_ a6_ a3_)))) a3_)
  case' b0=>refine' a2_ ?q0 ?c1
  case' c1=>refine' a2_ ?q1 ?c2
  case' c2=>refine' a2_ ?q2 ?c3
  case' c3=>refine' a2_ ?q3 ?c4
  case' c4=>refine' a2_ ?q4 ?c5
  case' c5=>refine' a2_ ?q5 ?c6
  case' c6=>refine' a2_ ?q6 ?c7
  case' c7=>refine' a2_ ?q7 ?c8
  case' c8=>refine' a2_ ?q8 ?c9
  case' c9=>refine' a2_ ?q9 ?c10
  case' c10=>refine' a2_ ?q10 ?c11
  case' c11=>refine' a2_ ?q11 ?c12
  case' c12=>refine' a2_ ?q12 ?c13
  case' c13=>refine' a2_ ?q13 (a4_ ?q14)
  case q0=>exact ab_ (i:=3) scLaw.nd rfl (Or.inl rfl) (ag_ cSt hr1 (a0_ (ag_ cC hr1 (a0_ (pv 0) (a0_ (pv 2) a3_))) (a0_ (pv 2) a3_)))
  case q1=>exact ab_ (i:=4) scLaw.nd rfl (Or.inr rfl) (ag_ cD hr2 (a0_ (pv 3) (a0_ a6_ a3_)))
  case q2=>exact ab_ (i:=13) scLaw.nd rfl (Or.inr rfl) (as_ aI_ (ah_ cK_ (gS_ cRu hr1) (pv 1)) (ag_ cD hr2 (a0_ (pv 3) (a0_ a6_ a3_))) (fun _ _=>rfl))
  case' q3=>refine' ak_ (am_ jM_ (pv 4) a6_ (nomark _)) (a2_ ?x1 (a4_ ?x2)) ac_
  case' x1=>refine' fN_ (i:=5) cN 1 [4] scLaw.nd rfl (Or.inl rfl) (au_ (gS_ cRu hr1)) (fun fp s H=>ae_ (i:=0) (show cN.Nodup by decide +kernel) rfl (Or.inl rfl)) (fun fp s H=>?xc) (fun fp s H=>pv 0)
  case xc=>exact fS_ (am_ cd_ (ag_ cSu hr1 (a0_ (pv 0) a3_)) (aR_ cd_ (pv 1) a6_ (nomark _)) (nomark _))
  case x2=>exact ab_ (i:=13) scLaw.nd rfl (Or.inr rfl) (as_ aI_ (pv 5) (ag_ cD hr2 (a0_ (pv 3) (a0_ (a8_ ai_ (by rfl) B.len PySem.boot_len (a0_ (pv 5) a3_)) a3_))) (fun _ _=>rfl))
  case' q4=>refine' ab_ (i:=6) scLaw.nd rfl (Or.inl rfl) (ah_ cK_ (ah_ jW_ (az_ (a0_ (en_ (bU_ a9_ a9_ (bU_ a9_ a9_ ea_)) rfl rfl (by simp) (by simp)) a3_)) a6_) (az_ ?m0))
  case' m0=>refine' a0_ (en_ (bU_ a9_ a9_ ea_) rfl rfl (by simp) (by simp)) ?m1
  case' m1=>refine' a0_ (en_ (bU_ a9_ a9_ (bU_ a9_ a9_ ea_)) rfl rfl (by simp) (by simp)) ?m2
  case m2=>exact a0_ ci_ (a0_ (az_ a3_) (a0_ a9_ a3_))
  case q5=>exact ab_ (i:=14) scLaw.nd rfl (Or.inr rfl) (as_ aI_ (pv 6) (ag_ cD hr2 (a0_ (pv 3) (a0_ a6_ a3_))) (fun _ _=>rfl))
  case' q6=>refine' ab_ (i:=7) scLaw.nd rfl (Or.inl rfl) (az_ ?w0)
  case' w0=>refine' a0_ a6_ ?w1
  case' w1=>refine' a0_ (ah_ fE_ a6_ a6_) ?w2
  case' w2=>refine' a0_ (ah_ ba_ a6_ (ag_ cD hr2 (a0_ (pv 3) (a0_ (ah_ fE_ a6_ a6_) a3_)))) ?w3
  case' w3=>refine' a0_ a6_ ?w4
  case' w4=>refine' a0_ (jH_ ia_ a6_) ?w5
  case' w5=>refine' a0_ (ah_ ba_ (ah_ fE_ a6_ a6_) a6_) ?w6
  case' w6=>refine' a0_ bu_ ?w7
  case' w7=>refine' a0_ bu_ ?w8
  case' w8=>refine' a0_ ci_ ?w9
  case w9=>exact a0_ a9_ (a0_ (aC_ (a0_ a6_ a3_)) (a0_ (az_ (a0_ a6_ a3_)) a3_))
  case q7=>exact ab_ (i:=15) scLaw.nd rfl (Or.inr rfl) (as_ aI_ (pv 7) (ag_ cD hr2 (a0_ (pv 3) (a0_ a6_ a3_))) (fun _ _=>rfl))
  case q8=>exact ab_ (i:=8) scLaw.nd rfl (Or.inl rfl) (aR_ (gG_ hu) (pv 13) (gS_ cRu hr1) (by with_unfolding_all rfl))
  case q9=>exact ab_ (i:=9) scLaw.nd rfl (Or.inl rfl) (az_ (a0_ (pv 8) (a0_ (aX_ (eV_ (pv 8)) (aO_ (eV_ (ag_ cSu hr1 (a0_ (pv 13) a3_))))) a3_)))
  case q10=>exact ab_ (i:=10) scLaw.nd rfl (Or.inl rfl) (iL_ (aR_ (gn_ hu) (pv 15) (hV_ iN_ (pv 7) jl_ (iR_ a6_)) (by with_unfolding_all rfl)) (aO_ (a8_ ap_ (by rfl) B.isi PyProof.Rows.Boot.«isinstance» (a0_ (pv 15) (a0_ (aA_ (v:=.ty "bool") (by rfl) B.bool PyProof.Rows.Boot.«bool» rfl) a3_)))))
  case' q11=>refine' ak_ (am_ (cy_ hu0) ?y1 (ag_ cFi hr1 (a0_ (ah_ cK_ (pv 9) (az_ (a0_ (aR_ (h1_ hu0) (pv 14) (as_ aI_ (pv 6) a6_ (fun _ _=>rfl)) (nomark _)) a3_))) a3_)) (nomark _)) (a4_ (aa_ bu_)) ac_
  case y1=>exact gM_ (cl:=cl1 s.heap.objs.size) (is:=[12,14,13]) cA1 hr8 (a0_ (gz_ (P:=T) (c:=c) rfl clo1 rfl hC hbm) a3_) cel1 (fun _ _=>rfl) lcl1 lkd1 lkl1 rfl
  case q12=>exact ab_ (i:=11) scLaw.nd rfl (Or.inl rfl) (ag_ cFi hr1 (a0_ (ah_ cK_ (pv 9) (az_ (a0_ bu_ (a0_ (pv 10) a3_)))) a3_))
  case' q13=>refine' ak_ (am_ (cy_ hu0) ?y2 (pv 11) (nomark _)) (a4_ (aa_ bu_)) ac_
  case y2=>exact gM_ (cl:=cl2 s.heap.objs.size) (is:=[12,15,13]) cA2 hr8 (a0_ (gz_ (P:=T) (c:=c) rfl clo2 rfl hC hbm) a3_) cel2 (fun _ _=>rfl) lcl2 lkd2 lkl2 rfl
  case' q14=>refine' ak_ (am_ (cy_ hu0) ?y3 (pv 11) (nomark _)) (a4_ (aa_ bu_)) ac_
  case y3=>exact gM_ (cl:=cl3 s.heap.objs.size) (is:=[15,13]) cA3 hr (a0_ (gz_ (P:=T) (c:=c) rfl clo3 rfl hC hbm) a3_) cel3 (fun _ _=>rfl) lcl3 lkd3 lkl3 rfl
  case' kk=>skip
  have tab0:TabOk H T lq:=⟨[],hT,fun e he=>by cases he⟩
  refine seqG (fun σ H1=>∃(g p:Addr) (qs:List Pc) (fp:List Addr),Same H H1/\GoodsAt K CG CW H1 g p hsL tsL qs fp/\Qs psL qs/\σ=[some (.ref ls),none,none,none,none,none,none,none,none,none,none,none,some (.ref g),none,none,none]) ?a2 ?a1
  case a1=>
   intro N hN
   refine⟨by show 2<=sizeLine;decide,fun t1 m1=>?_⟩
   have a1:=Same.new (o:=.tup [.str "one",.int 2]) m1
   have c1:upd H t1 (.tup [.str "one",.int 2]) t1=some (.tup [.str "one",.int 2]):=a1_
   generalize upd H t1 (.tup [.str "one",.int 2])=G1 at a1 c1 ⊢
   refine⟨by show 2<=sizeLine;decide,fun t2 m2=>?_⟩
   have a2:=Same.new (o:=.tup [.str "other",.int 3]) m2
   have c2:upd G1 t2 (.tup [.str "other",.int 3]) t2=some (.tup [.str "other",.int 3]):=a1_
   generalize upd G1 t2 (.tup [.str "other",.int 3])=G2 at a2 c2 ⊢
   refine⟨by show 2<=sizeLine;decide,fun l1 m3=>?_⟩
   have a3:=Same.new (o:=.lst [.ref t1,.ref t2]) m3
   have c3:upd G2 l1 (.lst [.ref t1,.ref t2]) l1=some (.lst [.ref t1,.ref t2]):=a1_
   generalize upd G2 l1 (.lst [.ref t1,.ref t2])=G3 at a3 c3 ⊢
   refine⟨by show 2<=sizeLine;decide,fun t3 m4=>?_⟩
   have a4:=Same.new (o:=.tup [.str "other",.str "one"]) m4
   have c4:upd G3 t3 (.tup [.str "other",.str "one"]) t3=some (.tup [.str "other",.str "one"]):=a1_
   generalize upd G3 t3 (.tup [.str "other",.str "one"])=G4 at a4 c4 ⊢
   refine⟨by show 1<=sizeLine;decide,fun l2 m5=>?_⟩
   have a5:=Same.new (o:=.lst [.ref t3]) m5
   have c5:upd G4 l2 (.lst [.ref t3]) l2=some (.lst [.ref t3]):=a1_
   generalize upd G4 l2 (.lst [.ref t3])=G5 at a5 c5 ⊢
   intro pw dx hpw hdx ne
   have sa:Same G5 (upd G5 dx (.own pw)):=Same.new hdx
   have sb:Same (upd G5 dx (.own pw)) (upd (upd G5 dx (.own pw)) pw (.ins CW dx [])):=Same.new (by rw[a5_ (fun z=>ne z.symm)];exact hpw)
   have sx:=sa.trans sb
   have hpx:upd (upd G5 dx (.own pw)) pw (.ins CW dx []) pw=some (.ins CW dx []):=a1_
   generalize upd (upd G5 dx (.own pw)) pw (.ins CW dx [])=Gx at sx hpx ⊢
   have b5:=a5.trans sx
   have b4:=a4.trans b5
   have b3:=a3.trans b4
   have b2:=a2.trans b3
   have b1:=a1.trans b2
   have tuH:TupsAt K Gx [.ref t1,.ref t2] (hsL.map kH):=.cons ⟨t1,rfl,b2 _ _ c1⟩ (.cons ⟨t2,rfl,b3 _ _ c2⟩ .nil)
   have tuT:TupsAt K Gx [.ref t3] (tsL.map kT):=.cons ⟨t3,rfl,b5 _ _ c4⟩ .nil
   refine⟨pw,dx,l1,l2,_,_,hsL,tsL,rfl,hpx,b4 _ _ c3,tuH,sx _ _ c5,tuT,goodL,fun fp H6 keep WA fresh=>⟨rfl,?_⟩⟩
   have s6:Same H H6:=fun b o e=>keep b o (b1 b o e) (a7_ e (((((a1.trans a2).trans a3).trans a4).trans a5).free hpw))
   clear a1 a2 a3 a4 a5 b1 b2 b3 b4 b5 sa sb sx hpx keep fresh tuH tuT c1 c2 c3 c4 c5
   refine⟨by show 3<=sizeLine;decide,fun t4 n1=>?_⟩
   have d1:=Same.new (o:=.tup [.str "p",.int 4,.non]) n1
   have e1:upd H6 t4 (.tup [.str "p",.int 4,.non]) t4=some (.tup [.str "p",.int 4,.non]):=a1_
   generalize upd H6 t4 (.tup [.str "p",.int 4,.non])=J1 at d1 e1 ⊢
   refine⟨by show 0<=sizeLine;decide,fun l3 n2=>?_⟩
   have d2:=Same.new (o:=.lst []) n2
   have e2:upd J1 l3 (.lst []) l3=some (.lst []):=a1_
   generalize upd J1 l3 (.lst [])=J2 at d2 e2 ⊢
   refine⟨by show 3<=sizeLine;decide,fun t5 n3=>?_⟩
   have d3:=Same.new (o:=.tup [.str "q",.int 1,.ref l3]) n3
   have e3:upd J2 t5 (.tup [.str "q",.int 1,.ref l3]) t5=some (.tup [.str "q",.int 1,.ref l3]):=a1_
   generalize upd J2 t5 (.tup [.str "q",.int 1,.ref l3])=J3 at d3 e3 ⊢
   refine⟨by show 2<=sizeLine;decide,fun l4 n4=>?_⟩
   have d4:=Same.new (o:=.lst [.ref t4,.ref t5]) n4
   have e4:upd J3 l4 (.lst [.ref t4,.ref t5]) l4=some (.lst [.ref t4,.ref t5]):=a1_
   generalize upd J3 l4 (.lst [.ref t4,.ref t5])=J4 at d4 e4 ⊢
   intro g dg hg hdg neg
   have ga:Same J4 (upd J4 dg (.own g)):=Same.new hdg
   have gb:Same (upd J4 dg (.own g)) (upd (upd J4 dg (.own g)) g (.ins CG dg [])):=Same.new (by rw[a5_ (fun z=>neg z.symm)];exact hg)
   have gx:=ga.trans gb
   have hgx:upd (upd J4 dg (.own g)) g (.ins CG dg []) g=some (.ins CG dg []):=a1_
   generalize upd (upd J4 dg (.own g)) g (.ins CG dg [])=Hx at gx hgx ⊢
   have f4:=d4.trans gx
   have f3:=d3.trans f4
   have f2:=d2.trans f3
   have f1:=d1.trans f2
   have gfp:g∉fp:=fun m=>by
    obtain⟨o,e⟩:=WebAt.has WA m
    have:=(((d1.trans d2).trans d3).trans d4) _ _ e
    rw[hg] at this
    cases this
   have pcs:PcsAt K Hx [.ref t4,.ref t5] psL:=.cons ⟨t4,.non,rfl,f2 _ _ e1,rfl⟩ (.cons ⟨t5,.ref l3,rfl,f4 _ _ e3,l3,[],rfl,f3 _ _ e2,.nil⟩ .nil)
   refine⟨g,dg,pw,l4,_,psL,hsL,tsL,fp,rfl,hgx,WA.same f1,gfp,goodL,gx _ _ e4,pcs,goodP,ii_,by decide,fun qs fp' H7 keep7 GA Q7 fr7=>⟨rfl,?_⟩⟩
   have s7:Same H H7:=fun b o e=>keep7 b o (f1 _ _ (s6 _ _ e)) (a7_ e ((s6.trans (((d1.trans d2).trans d3).trans d4)).free hg))
   exact hN _ _ ⟨g,pw,qs,fp',s7,GA,Q7,rfl⟩
  rintro _ H1 ⟨g,p,qs,fp,s1,GA1,Qq,rfl⟩
  refine seqG (fun σ H2=>∃(ln lx:Addr),Same H1 H2/\H2 ln=some (.lst (noneL lx))/\H2 lx=some (.lst [.str "shares",.str "one"])/\σ=[some (.ref ls),some (.ref ln),none,none,none,none,none,none,none,none,none,none,some (.ref g),none,none,none]) ?b2 ?b1
  case b1=>
   intro N hN
   refine⟨by show 2<=sizeLine;decide,fun lx m1=>?_⟩
   have a1:=Same.new (o:=.lst [.str "shares",.str "one"]) m1
   have c1:upd H1 lx (.lst [.str "shares",.str "one"]) lx=some (.lst [.str "shares",.str "one"]):=a1_
   generalize upd H1 lx (.lst [.str "shares",.str "one"])=G1 at a1 c1 ⊢
   refine⟨by show 8<=sizeLine;decide,fun ln m2=>?_⟩
   have a2:=Same.new (o:=.lst (noneL lx)) m2
   exact hN _ _ ⟨ln,lx,a1.trans a2,a1_,a2 _ _ c1,rfl⟩
  rintro _ H2 ⟨ln,lx,s2,hln,hlx,rfl⟩
  have GA2:=GA1.same s2
  have tab2:=tab0.same (s1.trans s2)
  have hls2:SqL K H2 ls (ns.map V.int):=i5_ (NT.of (s1.trans s2)) hls
  clear GA1 s1 s2 tab0 hls hT
  have lnm:(ns.map V.int).length<=63:=by rw[List.length_map];exact h63
  refine seqG (fun _ _=>True) (fun σ H' _=>k H') (fun N hN=>?_)
  refine⟨_,rfl,ls,_,rfl,.inl hls2,_,_,rfl,_,_,rfl,rfl,_,rfl,?_,?_,?_⟩
  ·show (-(2 ^ 62):Int)<=1+(if (15:Int)<_ then _ else _)
   split<;>omega
  ·show 1+(if (15:Int)<_ then _ else _)<(2 ^ 62:Int)
   split<;>omega
  refine fv_ (fun i σ H'=>NT H2 H'/\TabOk H' T lq/\∃v2 v3 v4 v5 v6 v7 v8 v9 v10 v11 v13 v14 v15:Option V,σ=[some (.ref ls),some (.ref ln),v2,v3,v4,v5,v6,v7,v8,v9,v10,v11,some (.ref g),v13,v14,v15]) ⟨NT.of (Same.refl H2),tab2,none,none,none,none,none,none,none,none,none,none,none,none,none,rfl⟩ ?_ (fun σ H' _=>hN _ _ trivial)
  rintro i σ H0 hi ⟨nt,tab,v2,v3,v4,v5,v6,v7,v8,v9,v10,v11,v13,v14,v15,rfl⟩
  have hls0:=i5_ nt hls2
  have hln0:=nt.lst hln
  have hlx0:=nt.lst hlx
  have GA0:=GA2.nt nt
  have i100:i<100:=by
   have e:((1:Int)+(if (15:Int)<((ns.map V.int).length:Int) then 15 else ((ns.map V.int).length:Int))).toNat<=64:=by
    split<;>omega
   have hi:=Nat.lt_of_lt_of_le hi e
   omega
  refine setG ?_
  dsimp only
  refine seqG (fun σ H'=>∃l,Same H0 H'/\H0 l=none/\stt H' l/\σ=[some (.ref ls),some (.ref ln),some (.int i),some (.ref l),v4,v5,v6,v7,v8,v9,v10,v11,some (.ref g),v13,v14,v15]) ?z2 (fun N1 hN1=>?z1)
  case z1=>
   refine⟨_,rfl,_,rfl,ls,ns,_,rfl,by omega,hls0,fun c=>?_⟩
   refine⟨_,rfl,c,i,by rw[Int.zero_add];rfl,i100,fun l H1 s1 nl st=>hN1 _ _ ⟨l,s1,nl,st,?_⟩⟩
   show [some (.ref ls),some (.ref ln),some (V.int (0+(i:Int))),some (V.ref l),v4,v5,v6,v7,v8,v9,v10,v11,some (.ref g),v13,v14,v15]=_
   rw[Int.zero_add]
  rintro σ H3 ⟨l,s3,nl,st3,rfl⟩
  have lnl:ln≠l:=fun z=>by rw[z,nl] at hln0;cases hln0
  have up:∀{H'},But l H3 H'->Same H0 H':=fun b=>b.same nl s3
  refine seqG (fun σ H'=>∃way:Int,0<=way/\way<3/\But l H3 H'/\stt H' l/\σ=[some (.ref ls),some (.ref ln),some (.int i),some (.ref l),some (.int way),v5,v6,v7,v8,v9,v10,v11,some (.ref g),v13,v14,v15]) ?z4 (fun N1 hN1=>?z3)
  case z3=>exact⟨_,rfl,l,3,rfl,by decide,by decide,st3,fun r H4 r0 r1 b4 st4=>hN1 _ _ ⟨r,r0,r1,b4,st4,rfl⟩⟩
  rintro σ H4 ⟨way,w0,w3,b4,st4,rfl⟩
  have s04:=up b4
  refine seqG (fun σ H'=>∃v,RV lx v/\Same H0 H'/\stt H' l/\σ=[some (.ref ls),some (.ref ln),some (.int i),some (.ref l),some (.int way),v5,v6,v7,v8,v9,v10,v11,some (.ref g),some v,v14,v15]) ?z6 (fun N1 hN1=>?z5)
  case z5=>
   refine⟨rfl,fun lr H5 s5 nr hlr=>?_⟩
   have hln5:=s5 _ _ (s04 _ _ hln0)
   refine⟨_,rfl,lr,ln,_,_,rfl,rfl,hlr,hln5,by rw[List.length_map,eq_];show 17+8<=sizeLine;decide,fun lc nc=>?_⟩
   have s6:=Same.new (o:=.lst (lawRules.map V.str++noneL lx)) nc
   have k6:upd H5 lc (.lst (lawRules.map V.str++noneL lx)) lc=some (.lst (lawRules.map V.str++noneL lx)):=a1_
   generalize upd H5 lc (.lst (lawRules.map V.str++noneL lx))=H6 at s6 k6 ⊢
   have st6:=st4.same (s5.trans s6)
   have lcl:lc≠l:=st4.ne (s5.free nc)
   refine⟨_,rfl,l,25,rfl,by decide,by decide,st6,fun r H7 r0 r1 b7 st7=>?_⟩
   obtain⟨v,hv,rv⟩:=hitL (p:=RV lx) (xs:=lawRules.map V.str++noneL lx) (n:=25) (by rw[List.length_append,List.length_map,eq_];rfl) r0 r1 (fun v hv=>by
    rcases List.mem_append.mp hv with hv|hv
    ·obtain⟨x,hx,rfl⟩:=List.mem_map.mp hv
     exact .inl ⟨x,hx,rfl⟩
    ·rcases List.mem_append.mp hv with hv|hv
     ·obtain⟨x,hx,rfl⟩:=List.mem_map.mp hv
      exact .inr (.inl ⟨x,hx,rfl⟩)
     ·simp only[List.mem_cons,List.not_mem_nil,or_false] at hv
      exact .inr (.inr hv))
   have k7:=b7 _ _ k6 lcl
   have sB:Same H0 H7:=b7.same nl (fun b o e=>s6 _ _ (s5 _ _ (s04 b o e)))
   exact⟨lc,_,_,v,rfl,rfl,.of k7,hv,hN1 _ _ ⟨v,rv,sB,st7,rfl⟩⟩
  rintro σ H5 ⟨vr0,rv0,s05,st5,rfl⟩
  clear b4 st4 s04 up st3 s3
  refine seqG (fun σ H'=>∃(v:V) (u5:Option V),RV lx v/\Same H0 H'/\stt H' l/\σ=[some (.ref ls),some (.ref ln),some (.int i),some (.ref l),some (.int way),u5,v6,v7,v8,v9,v10,v11,some (.ref g),some v,v14,v15]) ?z8 (fun N1 hN1=>?z7)
  case z7=>
   refine⟨_,rfl,_,_,rfl,rfl,_,rfl,?_⟩
   refine ite2 (fun c=>?_) (fun c=>?_)
   rotate_left
   ·exact hN1 _ _ ⟨vr0,v5,rv0,s05,st5,rfl⟩
   refine⟨rfl,fun lr H6 s6 nr hlr=>?_⟩
   refine⟨lr,rfl,⟨_,.of hlr⟩,fun D hD=>?_⟩
   have l17:=eq_
   refine aE_ (own:=1) (fv:=[some (.int way)]) (xs:=lawRules.map V.str) rfl gok1 (fun j out H'=>Same H6 H'/\H' D=some (.lst out)/\∃ss:List Str,out=ss.map V.str/\ss.length<=j/\(∀x∈ss,x∈lawRules)/\(way=1->1<=j->ss≠[])/\(way≠1->3<=j->ss≠[])) ⟨Same.new hD,a1_,[],rfl,Nat.le_refl _,by simp,by omega,by omega⟩ (fun j out H' _ ⟨sm,_,_⟩=>.of (sm _ _ hlr)) (fun out H7 ⟨s7,hD7,ss,eo,sl,sin,ne1,ne2⟩=>?_) (fun j y out H' hy ⟨sm,hD',ss,eo,sl,sin,ne1,ne2⟩=>?_)
   ·rw[List.length_map,l17] at sl ne1 ne2
    have sne:ss≠[]:=by
     by_cases z:way=1
     ·exact ne1 z (by decide)
     ·exact ne2 z (by decide)
    have sp:0<ss.length:=by
     cases ss with
     |nil=>exact absurd rfl sne
     |cons x xs=>exact Nat.succ_pos _
    refine setG ?_
    dsimp only
    have st7:=(st5.same s6).same s7
    have ol:out.length=ss.length:=by rw[eo,List.length_map]
    have Dl:D≠l:=(st5.same s6).ne hD
    refine⟨_,rfl,_,rfl,_,rfl,D,_,rfl,.inl (.of hD7),l,_,rfl,by omega,by omega,st7,fun r H8 r0 r1 b8 st8=>?_⟩
    obtain⟨v,hv,rv⟩:=hitL (p:=RV lx) (xs:=out) rfl r0 r1 (fun v hv=>by
     rw[eo] at hv
     obtain⟨x,hx,rfl⟩:=List.mem_map.mp hv
     exact .inl ⟨x,sin x hx,rfl⟩)
    have k8:=b8 _ _ hD7 Dl
    exact⟨D,_,_,v,rfl,rfl,.of k8,hv,hN1 _ _ ⟨v,_,rv,b8.same nl (fun b o e=>s7 _ _ (s6 _ _ (s05 b o e))),st8,rfl⟩⟩
   ·obtain⟨x,hx,rfl⟩:=aw_ hy
    have hj:j<17:=by
     have:=(List.getElem?_eq_some_iff.mp hx).1
     omega
    obtain⟨r,hr',rfl⟩:=List.mem_map.mp (e4_ x (List.mem_of_getElem? hx))
    refine⟨_,rfl,rfl,fun Nx hNx=>?_⟩
    refine⟨_,rfl,r,hr',rfl,fun H7 s7=>?_⟩
    refine⟨_,rfl,rfl,rfl,_,rfl,?_⟩
    have hD7:=s7 _ _ hD'
    refine ite2 (fun c2=>?_) (fun c2=>?_)
    ·refine⟨_,rfl,out,hD7,by rw[eo,List.length_map];omega,hNx _ _ ⟨ay_ (sm.trans s7) hD,a1_,ss++[r.1],by rw[eo,List.map_append];rfl,by rw[List.length_append];show ss.length+1<=j+1;omega,fun x hx'=>?_,by simp,by simp⟩⟩
     rcases List.mem_append.mp hx' with hx'|hx'
     ·exact sin x hx'
     ·rw[List.mem_singleton.mp hx']
      exact List.mem_of_getElem? hx
    ·refine hNx _ _ ⟨sm.trans s7,hD7,ss,eo,by omega,sin,fun e1 j1=>?_,fun e1 j3=>?_⟩
     ·by_cases z:j=0
      ·subst z
       exfalso
       rw[rule_at.1] at hx
       have g1:=sure1 r hr' (Option.some.inj hx).symm
       rw[g1,e1] at c2
       exact c2 (by decide)
      ·exact ne1 e1 (by omega)
     ·by_cases z:j=2
      ·subst z
       exfalso
       rw[rule_at.2] at hx
       have g1:=sure2 r hr' (Option.some.inj hx).symm
       rw[g1] at c2
       refine c2 ?_
       have:decide (V.int way=V.int 1)=false:=decide_eq_false fun z=>e1 (V.int.inj z)
       rw[this]
       decide
      ·exact ne2 e1 (by omega)
  rintro σ H6 ⟨vr,u5,rv,s06,st6,rfl⟩
  clear rv0 s05 st5
  obtain⟨fpx,GAx,al⟩:=GA0.slim2
  have nfp:∀{a:Addr},H6 a=none->a∉fpx:=fun e m=>by
   obtain⟨⟨o,ho⟩,_⟩:=al _ m
   rw[s06.free e] at ho
   cases ho
  refine seqG (fun σ H'=>∃(ld d0 d1 d2 le:Addr),Same H6 H'/\StA H' ld d0 d1 d2 le/\H6 ld=none/\H6 d0=none/\H6 d1=none/\H6 d2=none/\H6 le=none/\σ=[some (.ref ls),some (.ref ln),some (.int i),some (.ref l),some (.int way),u5,some (.ref ld),v7,v8,v9,v10,v11,some (.ref g),some vr,v14,v15]) ?z10 (fun N1 hN1=>?z9)
  case z9=>
   intro d0 n0
   refine⟨a1_,[(Sum.inr "p",.str "one"),(Sum.inr "q",.str "other")],rfl,by show 2<=15;decide,?_⟩
   rw[mk2 (by decide)]
   have a0:=Same.new (o:=.dK [(Sum.inr "p",.str "one"),(Sum.inr "q",.str "other")]) n0
   have k0:upd H6 d0 (.dK [(Sum.inr "p",.str "one"),(Sum.inr "q",.str "other")]) d0=some (.dK [(Sum.inr "p",.str "one"),(Sum.inr "q",.str "other")]):=a1_
   generalize upd H6 d0 (.dK [(Sum.inr "p",.str "one"),(Sum.inr "q",.str "other")])=G0 at a0 k0 ⊢
   refine⟨by show 1<=sizeLine;decide,fun la na=>?_⟩
   have a1:=Same.new (o:=.lst [.ref d0]) na
   have k1:upd G0 la (.lst [.ref d0]) la=some (.lst [.ref d0]):=a1_
   generalize upd G0 la (.lst [.ref d0])=G1 at a1 k1 ⊢
   refine⟨la,3,_,rfl,rfl,k1,by decide,by decide,by show 1 * 3<=sizeLine;decide,fun lb nb=>?_⟩
   have a2:=Same.new (o:=.lst [.ref d0,.ref d0,.ref d0]) nb
   have k2:upd G1 lb (.lst [.ref d0,.ref d0,.ref d0]) lb=some (.lst [.ref d0,.ref d0,.ref d0]):=a1_
   change tLst _ _ (upd G1 lb (.lst [.ref d0,.ref d0,.ref d0])) _
   generalize upd G1 lb (.lst [.ref d0,.ref d0,.ref d0])=G2 at a2 k2 ⊢
   intro d1 n1
   refine⟨a1_,[(Sum.inr "p",.str "one")],rfl,by show 1<=15;decide,?_⟩
   rw[mk1]
   have a3:=Same.new (o:=.dK [(Sum.inr "p",.str "one")]) n1
   have k3:upd G2 d1 (.dK [(Sum.inr "p",.str "one")]) d1=some (.dK [(Sum.inr "p",.str "one")]):=a1_
   generalize upd G2 d1 (.dK [(Sum.inr "p",.str "one")])=G3 at a3 k3 ⊢
   intro d2 n2
   refine⟨a1_,[(Sum.inr "p",.str "one"),(Sum.inr "q",.str "none")],rfl,by show 2<=15;decide,?_⟩
   rw[mk2 (by decide)]
   have a4:=Same.new (o:=.dK [(Sum.inr "p",.str "one"),(Sum.inr "q",.str "none")]) n2
   have k4:upd G3 d2 (.dK [(Sum.inr "p",.str "one"),(Sum.inr "q",.str "none")]) d2=some (.dK [(Sum.inr "p",.str "one"),(Sum.inr "q",.str "none")]):=a1_
   generalize upd G3 d2 (.dK [(Sum.inr "p",.str "one"),(Sum.inr "q",.str "none")])=G4 at a4 k4 ⊢
   refine⟨by show 0<=sizeLine;decide,fun le n3=>?_⟩
   have a5:=Same.new (o:=.lst []) n3
   have k5:upd G4 le (.lst []) le=some (.lst []):=a1_
   generalize upd G4 le (.lst [])=G5 at a5 k5 ⊢
   refine⟨by show 5<=sizeLine;decide,fun lc nc=>?_⟩
   have a6:=Same.new (o:=.lst [.ref d1,.ref d2,.non,.ref le,.str "one"]) nc
   have k6:upd G5 lc (.lst [.ref d1,.ref d2,.non,.ref le,.str "one"]) lc=some (.lst [.ref d1,.ref d2,.non,.ref le,.str "one"]):=a1_
   generalize upd G5 lc (.lst [.ref d1,.ref d2,.non,.ref le,.str "one"])=G6 at a6 k6 ⊢
   have b5:=a5.trans a6
   have b4:=a4.trans b5
   have b3:=a3.trans b4
   have b2:=a2.trans b3
   have b1:=a1.trans b2
   refine⟨lb,lc,_,_,rfl,rfl,b3 _ _ k2,k6,by show 3+5<=sizeLine;decide,fun ld nd=>?_⟩
   have a7:=Same.new (o:=.lst [.ref d0,.ref d0,.ref d0,.ref d1,.ref d2,.non,.ref le,.str "one"]) nd
   have c1:=a0.trans a1
   have c2:=c1.trans a2
   have c3:=c2.trans a3
   have c4:=c3.trans a4
   exact hN1 _ _ ⟨ld,d0,d1,d2,le,(a0.trans b1).trans a7,⟨a1_,by rw[st0];exact a7 _ _ (b1 _ _ k0),by rw[st1];exact a7 _ _ (b4 _ _ k3),by rw[st2];exact a7 _ _ (b5 _ _ k4),a7 _ _ (a6 _ _ k5)⟩,(a0.trans b1).free nd,n0,c2.free n1,c3.free n2,c4.free n3,rfl⟩
  rintro σ H7 ⟨ld,d0,d1,d2,le,s7,A7,m0,m1,m2,m3,m4,rfl⟩
  have st7:=st6.same s7
  have s07:=s06.trans s7
  have f0:=nfp m1
  have f1:=nfp m2
  have f2:=nfp m3
  have hs:∀{H':Hp},But l H7 H'->StA H' ld d0 d1 d2 le:=fun b=>⟨b _ _ A7.ld (st6.ne m0),b _ _ A7.d0 (st6.ne m1),b _ _ A7.d1 (st6.ne m2),b _ _ A7.d2 (st6.ne m3),b _ _ A7.le (st6.ne m4)⟩
  refine seqG (fun σ H'=>∃v,StO d0 d1 d2 le v/\But l H7 H'/\stt H' l/\σ=[some (.ref ls),some (.ref ln),some (.int i),some (.ref l),some (.int way),u5,some (.ref ld),v7,v8,v9,v10,v11,some (.ref g),some vr,some v,v15]) ?z12 (fun N1 hN1=>?z11)
  case z11=>
   refine⟨_,rfl,_,rfl,l,8,rfl,by decide,by decide,st7,fun r H8 r0 r1 b8 st8=>?_⟩
   obtain⟨v,hv,so⟩:=hitL (p:=StO d0 d1 d2 le) (xs:=[.ref d0,.ref d0,.ref d0,.ref d1,.ref d2,.non,.ref le,.str "one"]) (n:=8) rfl r0 r1 (fun v hv=>by
    simp only[List.mem_cons,List.not_mem_nil,or_false] at hv
    unfold StO
    rcases hv with h|h|h|h|h|h|h|h<;>simp[h])
   exact⟨ld,_,_,v,rfl,rfl,.of (hs b8).ld,hv,hN1 _ _ ⟨v,so,b8,st8,rfl⟩⟩
  rintro σ H8 ⟨vs,so,b8,st8,rfl⟩
  have s08:=b8.same nl s07
  have A8:=hs b8
  refine seqG (fun σ H'=>∃(r:Int) (lw t1 l1:Addr),0<=r/\r<10 ^ 9/\But l H8 H'/\WtA H' r lw t1 l1/\lw≠l/\t1≠l/\l1≠l/\stt H' l/\σ=[some (.ref ls),some (.ref ln),some (.int i),some (.ref l),some (.int way),u5,some (.ref ld),some (.ref lw),v8,v9,v10,v11,some (.ref g),some vr,some vs,v15]) ?z14 (fun N1 hN1=>?z13)
  case z13=>
   refine⟨10,9,rfl,rfl,⟨by decide,by decide,by decide⟩,_,rfl,10,9,rfl,rfl,⟨by decide,by decide,by decide⟩,l,10 ^ 9,rfl,by decide,by decide,st8,fun r H9 r0 r1 b9 st9=>?_⟩
   refine⟨1,r,rfl,rfl,1,rfl,10,9,rfl,rfl,⟨by decide,by decide,by decide⟩,10 ^ 9,1,rfl,rfl,by show 1<=sizeLine;decide,fun t1 n1=>?_⟩
   have a1:=Same.new (o:=.tup [.int 1]) n1
   have k1:upd H9 t1 (.tup [.int 1]) t1=some (.tup [.int 1]):=a1_
   generalize upd H9 t1 (.tup [.int 1])=G1 at a1 k1 ⊢
   refine⟨by show 1<=sizeLine;decide,fun l1 n2=>?_⟩
   have a2:=Same.new (o:=.lst [.int 1]) n2
   have k2:upd G1 l1 (.lst [.int 1]) l1=some (.lst [.int 1]):=a1_
   generalize upd G1 l1 (.lst [.int 1])=G2 at a2 k2 ⊢
   refine⟨by show 12<=sizeLine;decide,fun lw n3=>?_⟩
   have a3:=Same.new (o:=.lst (wtL r t1 l1)) n3
   exact hN1 _ _ ⟨r,lw,t1,l1,r0,r1,fun b o e n=>a3 _ _ (a2 _ _ (a1 _ _ (b9 b o e n))),⟨a1_,a3 _ _ (a2 _ _ k1),a3 _ _ k2⟩,st9.ne (a1.free (a2.free n3)),st9.ne n1,st9.ne (a1.free n2),((st9.same a1).same a2).same a3,rfl⟩
  rintro σ H9 ⟨r,lw,t1,l1,r0,r1,b9,W9,g1,g2,g3,st9,rfl⟩
  have s09:=b9.same nl s08
  have b79:But l H7 H9:=fun b o e n=>b9 b o (b8 b o e n) n
  refine seqG (fun σ H'=>∃v,v∈wtL r t1 l1/\But l H9 H'/\σ=[some (.ref ls),some (.ref ln),some (.int i),some (.ref l),some (.int way),u5,some (.ref ld),some (.ref lw),v8,v9,v10,v11,some (.ref g),some vr,some vs,some v]) ?z16 (fun N1 hN1=>?z15)
  case z15=>
   refine⟨_,rfl,_,rfl,l,12,rfl,by decide,by decide,st9,fun j H8 j0 j1 b8 st8=>?_⟩
   obtain⟨v,hv,so⟩:=hitL (p:=fun v=>v∈wtL r t1 l1) (xs:=wtL r t1 l1) (n:=12) rfl j0 j1 (fun v hv=>hv)
   exact⟨lw,_,_,v,rfl,rfl,.of (b8 _ _ W9.lw g1),hv,hN1 _ _ ⟨v,so,b8,rfl⟩⟩
  rintro σ H10 ⟨vw,wo,b10,rfl⟩
  have s10:=b10.same nl s09
  have A10:=hs (fun b o e n=>b10 b o (b79 b o e n) n)
  have W10:WtA H10 r lw t1 l1:=⟨b10 _ _ W9.lw g1,b10 _ _ W9.t1 g2,b10 _ _ W9.l1 g3⟩
  clear b10 b79 b9 b8 hs st9 st8 st7 st6 s07 s08 s09 s06 A7 A8 W9
  obtain⟨bn,bl,R1,R2,R3,R4⟩:=jc_ (K:=K) rv
  obtain⟨sb,hsb⟩:=jJ_ (K:=K) (ld:=ld) Qq so f0 f1 f2
  obtain⟨wb,hwb⟩:=k5_ (K:=K) (lw:=lw) r0 r1 wo
  have nt10:=NT.of s10
  refine seqG (fun σ H'=>NT H0 H'/\TabOk H' T lq/\StA H' ld d0 d1 d2 le/\WtA H' r lw t1 l1/\σ=[some (.ref ls),some (.ref ln),some (.int i),some (.ref l),some (.int way),u5,some (.ref ld),some (.ref lw),some (.bl bn),v9,v10,v11,some (.ref g),some vr,some vs,some vw]) ?z18 (fun N1 hN1=>?z17)
  case z17=>
   refine⟨_,rfl,rfl,fun lr H11 s11 nr hlr=>R2 H11 lr _ (s11 _ _ (s10 _ _ hlx0)) hlr (hN1 _ _ ⟨nt10.trans (NT.of s11),(tab.same s10).same s11,A10.nt (NT.of s11),W10.nt (NT.of s11),rfl⟩)⟩
  rintro σ H11 ⟨nt11,tab11,A11,W11,rfl⟩
  clear A10 W10 nt10
  refine seqG (fun σ H'=>∃lr,NT H0 H'/\TabOk H' T lq/\StA H' ld d0 d1 d2 le/\WtA H' r lw t1 l1/\H' lr=some (.lst [.bl bn,.bl bl])/\σ=[some (.ref ls),some (.ref ln),some (.int i),some (.ref l),some (.int way),u5,some (.ref ld),some (.ref lw),some (.bl bn),some (.ref lr),v10,v11,some (.ref g),some vr,some vs,some vw]) ?z20 (fun N1 hN1=>?z19)
  case z19=>
   refine⟨_,rfl,_,rfl,bn,rfl,_,rfl,?_⟩
   cases bn with
   |true=>
    obtain rfl:=R3 rfl
    refine iteF ⟨by show 2<=sizeLine;decide,fun lr nr=>?_⟩
    have a1:=Same.new (o:=.lst [.bl true,.bl false]) nr
    exact hN1 _ _ ⟨lr,nt11.trans (NT.of a1),tab11.same a1,A11.nt (NT.of a1),W11.nt (NT.of a1),a1_,rfl⟩
   |false=>
    obtain⟨ru,hru,e1,rfl⟩:=R4 rfl
    subst e1
    refine iteT ⟨_,rfl,ru,hru,rfl,fun H12 s12=>⟨_,rfl,by show 2<=sizeLine;decide,fun lr nr=>?_⟩⟩
    have a1:=s12.trans (Same.new (o:=.lst [.bl false,.bl (!guB ["fall","calm"] ru)]) nr)
    exact hN1 _ _ ⟨lr,nt11.trans (NT.of a1),tab11.same a1,A11.nt (NT.of a1),W11.nt (NT.of a1),a1_,rfl⟩
  rintro σ H12 ⟨lr,nt12,tab12,A12,W12,hlr12,rfl⟩
  clear A11 W11 nt11 tab11
  refine seqG (fun σ H'=>NT H0 H'/\TabOk H' T lq/\StA H' ld d0 d1 d2 le/\WtA H' r lw t1 l1/\H' lr=some (.lst [.bl bn,.bl bl])/\σ=[some (.ref ls),some (.ref ln),some (.int i),some (.ref l),some (.int way),u5,some (.ref ld),some (.ref lw),some (.bl bn),some (.ref lr),some (.bl wb),v11,some (.ref g),some vr,some vs,some vw]) ?z22 (fun N1 hN1=>?z21)
  case z21=>
   refine⟨_,rfl,_,rfl,_,rfl,lw,_,rfl,.of W12.lw,fun p np=>?_⟩
   rw[jx_]
   have a1:=Same.new (o:=.lst (([1,10 ^ 9,1+r]:List Int).map V.int)) np
   have k1:upd H12 p (.lst (([1,10 ^ 9,1+r]:List Int).map V.int)) p=some (.lst (([1,10 ^ 9,1+r]:List Int).map V.int)):=a1_
   generalize upd H12 p (.lst (([1,10 ^ 9,1+r]:List Int).map V.int))=G at a1 k1 ⊢
   have fin:N1 ([some (.ref ls),some (.ref ln),some (.int i),some (.ref l),some (.int way),u5,some (.ref ld),some (.ref lw),some (.bl bn),some (.ref lr),some (.bl wb),v11,some (.ref g),some vr,some vs,some vw]) G:=hN1 _ _ ⟨nt12.trans (NT.of a1),tab12.same a1,A12.nt (NT.of a1),W12.nt (NT.of a1),a1 _ _ hlr12,rfl⟩
   refine (hwb G (W12.nt (NT.of a1))).2 p _ k1 fun c hc=>⟨c,rfl,?_⟩
   rcases hc with⟨rfl,rfl⟩|⟨rfl,ty,ht,hk⟩
   ·exact iteT fin
   ·exact iteF ⟨_,rfl,_,_,_,_,rfl,ht,hk,fin⟩
  rintro σ H13 ⟨nt13,tab13,A13,W13,hlr13,rfl⟩
  clear A12 W12 nt12 tab12 hlr12
  refine seqG (fun σ H'=>NT H0 H'/\TabOk H' T lq/\WtA H' r lw t1 l1/\H' lr=some (.lst [.bl bn,.bl bl])/\σ=[some (.ref ls),some (.ref ln),some (.int i),some (.ref l),some (.int way),u5,some (.ref ld),some (.ref lw),some (.bl bn),some (.ref lr),some (.bl wb),v11,some (.ref g),some vr,some vs,some vw]) ?z24 (fun N1 hN1=>?z23)
  case z23=>
   refine ifAsk (gX_ (gs:=[.ref g,vs,vr]) (bs:=[bn,bl,sb]) mono1 rfl rfl rfl rfl tab13 rfl (fun G nG=>ask1 (CT:=CT) (R1 G ((nt13.trans nG).lst hlx0)) (hsb G (A13.nt nG)).1 (GAx.nt (nt13.trans nG)) Qq) (fun v H14 nt14 tab14 due=>?_))
   have A14:=A13.nt nt14
   refine⟨_,rfl,_,rfl,_,rfl,ld,_,_,.ref d0,rfl,rfl,.of A14.ld,rfl,(hsb H14 A14).2 _ ⟨by show 1<=sizeLine;decide,fun l9 n9=>?_⟩⟩
   have a1:=Same.new (o:=.lst [.bl sb]) n9
   have k1:upd H14 l9 (.lst [.bl sb]) l9=some (.lst [.bl sb]):=a1_
   generalize upd H14 l9 (.lst [.bl sb])=G1 at a1 k1 ⊢
   refine⟨lr,l9,_,_,rfl,rfl,a1 _ _ (nt14.lst hlr13),k1,by show 2+1<=sizeLine;decide,fun lc nc=>?_⟩
   have a2:=a1.trans (Same.new (o:=.lst ([.bl bn,.bl bl]++[.bl sb])) nc)
   have k2:upd G1 lc (.lst ([.bl bn,.bl bl]++[.bl sb])) lc=some (.lst ([bn,bl,sb].map V.bl)):=a1_
   generalize upd G1 lc (.lst ([.bl bn,.bl bl]++[.bl sb]))=G2 at a2 k2 ⊢
   refine⟨lc,[bn,bl,sb],rfl,k2,by show 3<=4;decide,fun u H15 s15 du=>?_⟩
   have nt15:=nt14.trans (NT.of (a2.trans s15))
   exact ej_ (due.same (NT.of (a2.trans s15))) du ⟨false,rfl,iteF (hN1 _ _ ⟨nt13.trans nt15,(tab14.same a2).same s15,W13.nt nt15,nt15.lst hlr13,rfl⟩)⟩
  rintro σ H14 ⟨nt14,tab14,W14,hlr14,rfl⟩
  clear A13 W13 nt13 tab13 hlr13
  refine seqG (fun σ H'=>∃u,NT H0 H'/\TabOk H' T lq/\WtA H' r lw t1 l1/\Due H' u [bn,bl,false,wb]/\σ=[some (.ref ls),some (.ref ln),some (.int i),some (.ref l),some (.int way),u5,some (.ref ld),some (.ref lw),some (.bl bn),some (.ref lr),some (.bl wb),some u,some (.ref g),some vr,some vs,some vw]) ?z26 (fun N1 hN1=>?z25)
  case z25=>
   refine⟨_,rfl,_,rfl,by show 2<=sizeLine;decide,fun l9 n9=>?_⟩
   have a1:=Same.new (o:=.lst [.bl false,.bl wb]) n9
   have k1:upd H14 l9 (.lst [.bl false,.bl wb]) l9=some (.lst [.bl false,.bl wb]):=a1_
   generalize upd H14 l9 (.lst [.bl false,.bl wb])=G1 at a1 k1 ⊢
   refine⟨lr,l9,_,_,rfl,rfl,a1 _ _ hlr14,k1,by show 2+2<=sizeLine;decide,fun lc nc=>?_⟩
   have a2:=a1.trans (Same.new (o:=.lst ([.bl bn,.bl bl]++[.bl false,.bl wb])) nc)
   have k2:upd G1 lc (.lst ([.bl bn,.bl bl]++[.bl false,.bl wb])) lc=some (.lst ([bn,bl,false,wb].map V.bl)):=a1_
   generalize upd G1 lc (.lst ([.bl bn,.bl bl]++[.bl false,.bl wb]))=G2 at a2 k2 ⊢
   refine⟨lc,[bn,bl,false,wb],rfl,k2,by show 4<=4;decide,fun u H15 s15 du=>?_⟩
   have nt15:=NT.of (a2.trans s15)
   exact hN1 _ _ ⟨u,nt14.trans nt15,(tab14.same a2).same s15,W14.nt nt15,du,rfl⟩
  rintro σ H15 ⟨u,nt15,tab15,W15,du15,rfl⟩
  clear W14 nt14 tab14 hlr14
  refine seqG (fun σ H'=>NT H0 H'/\TabOk H' T lq/\WtA H' r lw t1 l1/\Due H' u [bn,bl,false,wb]/\σ=[some (.ref ls),some (.ref ln),some (.int i),some (.ref l),some (.int way),u5,some (.ref ld),some (.ref lw),some (.bl bn),some (.ref lr),some (.bl wb),some u,some (.ref g),some vr,some vs,some vw]) ?z28 (fun N1 hN1=>?z27)
  case z27=>
   exact ifAsk (gX_ (gs:=[.ref g,vw,vr]) (bs:=[bn,bl,false,wb]) mono2 rfl rfl rfl rfl tab15 rfl (fun G nG=>ask2 (CS:=CS) (R1 G ((nt15.trans nG).lst hlx0)) (hwb G (W15.nt nG)).1 (GAx.nt (nt15.trans nG))) (fun v H16 nt16 tab16 due=>⟨_,rfl,ej_ due (du15.same nt16) ⟨false,rfl,iteF (hN1 _ _ ⟨nt15.trans nt16,tab16,W15.nt nt16,du15.same nt16,rfl⟩)⟩⟩))
  rintro σ H16 ⟨nt16,tab16,W16,du16,rfl⟩
  exact ifAsk (gX_ (gs:=[vw,vr]) (bs:=[bn,bl,false,wb]) mono3 rfl rfl rfl rfl tab16 rfl (fun G nG=>ask3 (CS:=CS) (R1 G ((nt16.trans nG).lst hlx0)) (hwb G (W16.nt nG)).1) (fun v H17 nt17 tab17 due=>⟨_,rfl,ej_ due (du16.same nt17) ⟨false,rfl,iteF ⟨nt.trans (nt16.trans nt17),tab17,some (.int i),some (.ref l),some (.int way),u5,some (.ref ld),some (.ref lw),some (.bl bn),some (.ref lr),some (.bl wb),some u,some vr,some vs,some vw,rfl⟩⟩⟩))
end
end Ev
set_option Elab.async false
set_option linter.all false
set_option maxRecDepth 100000
namespace Ev
open PySem L2
structure Fd (K:PySem.W.Frag) (mg:Str->Option Value) (x:Str) (st:Stmt):Prop where
 ex:∃f fd,Fun K x x st f fd/\mg x=some (.ref f)/\PySem.W.keepIn K (.ref f)=true
theorem fd_mk{K:PySem.W.Frag}{h:Heap}{mg:Str->Option Value}{x:Str}{st:Stmt}(X:K.In h)(G:h.Ns mainGlobals mg){f:Addr}{oc:Value}{od an:Option Addr}{osl:Array (Option Value)}{kV doc pm cdv ct:Value}(a:PySem.W.nsIn K mainGlobals x=some (some (.ref f)))
  (l:K.lookup f=some ⟨oc,od,.func (PySem.W.fnOf x x (defArgs st) (defBody st) (defScope st) .none kV doc pm an cdv ct),osl⟩) (c:PySem.W.codeIn K cdv x=true) (k:PySem.W.keepIn K (.ref f)=true):Fd K mg x st:=⟨_,_,i6_ l c k,PySem.W.mg_of X G a,k⟩
structure Md (K:PySem.W.Frag) (C:Addr) (m qual:Str) (st:Stmt):Prop where
 ex:∃f fd,Fun K m qual st f fd/\Meth K C m f
theorem md_mk{K:PySem.W.Frag}{C:Addr}{m qual:Str}{st:Stmt}{f:Addr}{oc:Value}{od an:Option Addr}{osl:Array (Option Value)}{kV doc pm cdv ct:Value}(a:PySem.W.findIn K (.ref C) m=some (some (.ref f)))(i:PySem.W.isFn K (.ref f)=true)
  (l:K.lookup f=some ⟨oc,od,.func (PySem.W.fnOf m qual (defArgs st) (defBody st) (defScope st) .none kV doc pm an cdv ct),osl⟩) (c:PySem.W.codeIn K cdv qual=true) (k:PySem.W.keepIn K (.ref f)=true):Md K C m qual st:=⟨_,_,i6_ l c k,a,i,k⟩
theorem cal{P:Program}{w:World}{K:PySem.W.Frag}{mg:Str->Option Value}{base:Heap}{x:Str}{st:Stmt}{k:Nat}{ps:List Str}{sp:Sp}(d:Fd K mg x st)(ok:∀f fd,Fun K x x st f fd->FnOk P w K mg base CX0 k f fd ps sp)
  (h:∀(kV doc pm:Value) (an:Option Addr) (cdv ct:Value) (us:List Value),us.length=ps.length->bindArgs (PySem.W.fnOf x x (defArgs st) (defBody st) (defScope st) .none kV doc pm an cdv ct) ⟨us,[]⟩=pure (ps.zip us)):Cal P w K mg base k x ps sp:=by
 obtain⟨f,fd,F,m,kp⟩:=d.ex
 exact⟨f,fd,ok f fd F,m,kp,F.binds h⟩
theorem calM{P:Program}{w:World}{K:PySem.W.Frag}{mg:Str->Option Value}{base:Heap}{C:Addr}{m qual:Str}{st:Stmt}{k:Nat}{ps:List Str}{sp:Sp}(d:Md K C m qual st)(ok:∀f fd,Fun K m qual st f fd->FnOk P w K mg base CX0 k f fd ps sp)
  (h:∀(kV doc pm:Value) (an:Option Addr) (cdv ct:Value) (us:List Value),us.length=ps.length->bindArgs (PySem.W.fnOf m qual (defArgs st) (defBody st) (defScope st) .none kV doc pm an cdv ct) ⟨us,[]⟩=pure (ps.zip us)):CalM P w K mg base C k m ps sp:=by
 obtain⟨f,fd,F,m⟩:=d.ex
 exact⟨f,fd,ok f fd F,m,F.binds h⟩
theorem calX{P:Program}{w:World}{K:PySem.W.Frag}{mg:Str->Option Value}{base:Heap}{C:Addr}{m qual:Str}{st:Stmt}{k:Nat}{ps:List Str}{sp:Sp}(d:Md K C m qual st)(ok:∀f fd,Fun K m qual st f fd->FnOk P w K mg base (CX1 P w) k f fd ps sp)
  (h:∀(kV doc pm:Value) (an:Option Addr) (cdv ct:Value) (us:List Value),us.length=ps.length->bindArgs (PySem.W.fnOf m qual (defArgs st) (defBody st) (defScope st) .none kV doc pm an cdv ct) ⟨us,[]⟩=pure (ps.zip us)):CalX P w K mg base C k m ps sp:=by
 obtain⟨f,fd,F,m⟩:=d.ex
 exact⟨f,fd,ok f fd F,m,F.binds h⟩
theorem calC{P:Program}{w:World}{K:PySem.W.Frag}{mg:Str->Option Value}{base:Heap}{C:Addr}{x qual:Str}{st:Stmt}{k:Nat}{ps:List Str}{sp:Sp}(d:Md K C "__init__" qual st)(hx:mg x=some (.ref C))(mk:PySem.W.makesIn K C=true)(kc:PySem.W.keepIn K (.ref C)=true)(ok:∀f fd,Fun K "__init__" qual st f fd->FnOk P w K mg base CX0 k f fd ps sp)
  (h:∀(kV doc pm:Value) (an:Option Addr) (cdv ct:Value) (us:List Value),us.length=ps.length->bindArgs (PySem.W.fnOf "__init__" qual (defArgs st) (defBody st) (defScope st) .none kV doc pm an cdv ct) ⟨us,[]⟩=pure (ps.zip us)):CalC P w K mg base C k x ps sp:=by
 obtain⟨f,fd,F,m⟩:=d.ex
 exact⟨f,fd,ok f fd F,⟨mk,m.1,m.2,kc⟩,hx,F.binds h⟩
theorem calG{P:Program}{w:World}{K:PySem.W.Frag}{mg:Str->Option Value}{base:Heap}{x:Str}{st:Stmt}{k:Nat}{ps:List Str}{sp:Sp}(d:Fd K mg x st)(ok:∀f fd,Fun K x x st f fd->FnOk P w K mg base (CX2 P w) k f fd ps sp)
  (h:∀(kV doc pm:Value) (an:Option Addr) (cdv ct:Value) (us:List Value),us.length=ps.length->bindArgs (PySem.W.fnOf x x (defArgs st) (defBody st) (defScope st) .none kV doc pm an cdv ct) ⟨us,[]⟩=pure (ps.zip us))   : CalG P w K mg base k x ps sp:=by
 obtain⟨f,fd,F,m,kp⟩:=d.ex
 exact⟨f,fd,ok f fd F,m,kp,F.binds h⟩
theorem tup3{K:PySem.W.Frag}{a:Addr}{od:Option Addr}{p q:Str}{x y:Tok}{z:Value}{u:V}{n:Nat}{sl:Array (Option Value)}(h:K.lookup a=some ⟨.type "tuple",od,.seq #[.str p x,.str q y,z] n,sl⟩)(r:RelV u z):∀H,SqT K H a [.str p,.str q,u]:=fun H=>
 .inr ⟨_,_,_,h,rfl,rfl,(show 3<=sizeLine by decide),.cons ⟨x,rfl⟩ (.cons ⟨y,rfl⟩ (.cons r .nil))⟩
theorem rules_at{K:PySem.W.Frag}{w:World}{mg:Str->Option Value}{d:Addr}{es:Array DictEntry}{ep:Nat}{t0 t1 t2 t3 t4 t5 t6 t7 t8 t9 t10 t11 t12 t13 t14 t15 t16:Tok}{b0 b1 b2 b3 b4 b5 b6 b7 b8 b9 b10 b11 b12 b13 b14 b15 b16:Addr}
  {od0 od1 od2 od3 od4 od5 od6 od7 od8 od9 od10 od11 od12 od13 od14 od15 od16:Option Addr} {x0 y0 n0 v0 x1 y1 n1 v1 x2 y2 n2 v2 x3 y3 n3 v3 x4 y4 n4 v4 x5 y5 n5 v5 x6 y6 n6 v6 x7 y7 n7 v7 x8 y8 n8 v8 x9 y9 n9 v9 x10 y10 n10 v10 x11 y11 n11 v11 x12 y12 n12 x13 y13 n13 x14 y14 n14 v14 x15 y15 n15 v15 x16 y16 n16 v16:Nat} {sl0 sl1 sl2 sl3 sl4 sl5 sl6 sl7 sl8 sl9 sl10 sl11 sl12 sl13 sl14 sl15 sl16:Array (Option Value)}
  (m:mg "RULES"=some (.ref d)) (hs:(d == sysModules)=false) (hl:K.lookup d=some ⟨.type "dict",none,.dict es ep,#[]⟩) (he:es.toList=entsOf w [("least one high",t0,.ref b0),("least one fall",t1,.ref b1),("least one calm",t2,.ref b2),("least all high",t3,.ref b3),("least all fall",t4,.ref b4),("least all calm",t5,.ref b5),("below one high",t6,.ref b6),("below one fall",t7,.ref b7),("below one calm",t8,.ref b8),("below all high",t9,.ref b9),("below all fall",t10,.ref b10),("below all calm",t11,.ref b11),("shares one",t12,.ref b12),("shares all",t13,.ref b13),("turns high",t14,.ref b14),("turns fall",t15,.ref b15),("turns calm",t16,.ref b16)])
  (u0:K.lookup b0=some ⟨.type "tuple",od0,.seq #[.str "least" x0,.str "one" y0,.str "high" v0] n0,sl0⟩)
  (u1:K.lookup b1=some ⟨.type "tuple",od1,.seq #[.str "least" x1,.str "one" y1,.str "fall" v1] n1,sl1⟩)
  (u2:K.lookup b2=some ⟨.type "tuple",od2,.seq #[.str "least" x2,.str "one" y2,.str "calm" v2] n2,sl2⟩)
  (u3:K.lookup b3=some ⟨.type "tuple",od3,.seq #[.str "least" x3,.str "all" y3,.str "high" v3] n3,sl3⟩)
  (u4:K.lookup b4=some ⟨.type "tuple",od4,.seq #[.str "least" x4,.str "all" y4,.str "fall" v4] n4,sl4⟩)
  (u5:K.lookup b5=some ⟨.type "tuple",od5,.seq #[.str "least" x5,.str "all" y5,.str "calm" v5] n5,sl5⟩)
  (u6:K.lookup b6=some ⟨.type "tuple",od6,.seq #[.str "below" x6,.str "one" y6,.str "high" v6] n6,sl6⟩)
  (u7:K.lookup b7=some ⟨.type "tuple",od7,.seq #[.str "below" x7,.str "one" y7,.str "fall" v7] n7,sl7⟩)
  (u8:K.lookup b8=some ⟨.type "tuple",od8,.seq #[.str "below" x8,.str "one" y8,.str "calm" v8] n8,sl8⟩)
  (u9:K.lookup b9=some ⟨.type "tuple",od9,.seq #[.str "below" x9,.str "all" y9,.str "high" v9] n9,sl9⟩)
  (u10:K.lookup b10=some ⟨.type "tuple",od10,.seq #[.str "below" x10,.str "all" y10,.str "fall" v10] n10,sl10⟩)
  (u11:K.lookup b11=some ⟨.type "tuple",od11,.seq #[.str "below" x11,.str "all" y11,.str "calm" v11] n11,sl11⟩)
  (u12:K.lookup b12=some ⟨.type "tuple",od12,.seq #[.str "shares" x12,.str "one" y12,.none] n12,sl12⟩)
  (u13:K.lookup b13=some ⟨.type "tuple",od13,.seq #[.str "shares" x13,.str "all" y13,.none] n13,sl13⟩)
  (u14:K.lookup b14=some ⟨.type "tuple",od14,.seq #[.str "turns" x14,.str "all" y14,.str "high" v14] n14,sl14⟩)
  (u15:K.lookup b15=some ⟨.type "tuple",od15,.seq #[.str "turns" x15,.str "all" y15,.str "fall" v15] n15,sl15⟩)
  (u16:K.lookup b16=some ⟨.type "tuple",od16,.seq #[.str "turns" x16,.str "all" y16,.str "calm" v16] n16,sl16⟩) :
  RulesAt K w mg d [b0,b1,b2,b3,b4,b5,b6,b7,b8,b9,b10,b11,b12,b13,b14,b15,b16]:=by
 refine⟨m,rfl,⟨hs,?_,[("least one high",t0,.ref b0),("least one fall",t1,.ref b1),("least one calm",t2,.ref b2),("least all high",t3,.ref b3),("least all fall",t4,.ref b4),("least all calm",t5,.ref b5),("below one high",t6,.ref b6),("below one fall",t7,.ref b7),("below one calm",t8,.ref b8),("below all high",t9,.ref b9),("below all fall",t10,.ref b10),("below all calm",t11,.ref b11),("shares one",t12,.ref b12),("shares all",t13,.ref b13),("turns high",t14,.ref b14),("turns fall",t15,.ref b15),("turns calm",t16,.ref b16)],_,es,ep,hl,⟨rfl,rfl,rfl⟩,rfl,he,?_⟩,?_⟩
 ·rw[cr_ rfl]
  exact fx_
 ·exact .cons ⟨rfl,rfl⟩ (.cons ⟨rfl,rfl⟩ (.cons ⟨rfl,rfl⟩ (.cons ⟨rfl,rfl⟩ (.cons ⟨rfl,rfl⟩ (.cons ⟨rfl,rfl⟩ (.cons ⟨rfl,rfl⟩ (.cons ⟨rfl,rfl⟩ (.cons ⟨rfl,rfl⟩ (.cons ⟨rfl,rfl⟩ (.cons ⟨rfl,rfl⟩ (.cons ⟨rfl,rfl⟩ (.cons ⟨rfl,rfl⟩ (.cons ⟨rfl,rfl⟩ (.cons ⟨rfl,rfl⟩ (.cons ⟨rfl,rfl⟩ (.cons ⟨rfl,rfl⟩ (.nil)))))))))))))))))
 ·exact .cons (tup3 u0 ⟨_,rfl⟩) (.cons (tup3 u1 ⟨_,rfl⟩) (.cons (tup3 u2 ⟨_,rfl⟩) (.cons (tup3 u3 ⟨_,rfl⟩) (.cons (tup3 u4 ⟨_,rfl⟩) (.cons (tup3 u5 ⟨_,rfl⟩) (.cons (tup3 u6 ⟨_,rfl⟩) (.cons (tup3 u7 ⟨_,rfl⟩) (.cons (tup3 u8 ⟨_,rfl⟩) (.cons (tup3 u9 ⟨_,rfl⟩) (.cons (tup3 u10 ⟨_,rfl⟩) (.cons (tup3 u11 ⟨_,rfl⟩) (.cons (tup3 u12 rfl) (.cons (tup3 u13 rfl) (.cons (tup3 u14 ⟨_,rfl⟩) (.cons (tup3 u15 ⟨_,rfl⟩) (.cons (tup3 u16 ⟨_,rfl⟩) (.nil)))))))))))))))))
set_option maxHeartbeats 3200000 in
theorem all_mk{l:PySem.W.OpenLaw}{w:World}{K:PySem.W.Frag}{h:Heap}{mg:Str->Option Value}{fa CW CG d fl c T CE CR CL CS CT CP:Addr}{as:List Addr}(X:K.In h)(G:h.Ns mainGlobals mg)(hfa:mg "law"=some (.ref fa))
  (f0:Fd K mg "is_whole" sIsW)
  (f1:Fd K mg "is_whole_within" sWhole)
  (f2:Fd K mg "is_name" sName)
  (f3:Fd K mg "lesser_first" sLesser)
  (f4:Fd K mg "is_pair_of_names" sPair)
  (f5:Fd K mg "sorted_ties" sSorted)
  (f6:Fd K mg "ties_anew" sAnew)
  (f7:Fd K mg "greatest_divisor" sGd)
  (f8:Fd K mg "least_multiple" sLM)
  (f9:Fd K mg "fraction_of" sFrac)
  (f10:Fd K mg "is_less" sLess)
  (f11:Fd K mg "is_hand_with_strength" sHand)
  (f12:Fd K mg "checked_strengths" sStr)
  (f13:Fd K mg "checked_ties" sTies)
  (f14:Fd K mg "neighbours_of_all" sNear)
  (f15:Fd K mg "first_row_without" sFirstRow)
  (f16:Fd K mg "checked_ways" sCWays)
  (f17:Fd K mg "checked_piece" sCPiece)
  (f18:Fd K mg "checked_pieces" sCPieces)
  (f19:Fd K mg "checked_stand" sCStand)
  (f20:Fd K mg "loads_at" sLoadsAt)
  (f21:Fd K mg "multiple_of_strengths" sMult)
  (f22:Fd K mg "levels_at" sLevels)
  (f23:Fd K mg "sum_at" sSumAt)
  (f24:Fd K mg "is_rule" sIsRule)
  (f25:Fd K mg "checked_words" sWords)
  (f26:Fd K mg "is_shares_or_guarded_by" sGuard)
  (f27:Fd K mg "is_let_by" sLet)
  (f28:Fd K mg "rows_by" sRowsBy)
  (f29:Fd K mg "checked_guard" sCGuard)
  (f30:Fd K mg "check_weight" sCWeight)
  (f31:Fd K mg "least_sum" sLeastSum)
  (f32:Fd K mg "rest_by" sRestBy)
  (f33:Fd K mg "gap_along" sAlong)
  (f34:Fd K mg "gap_of" sGap)
  (f35:Fd K mg "heavy_pieces" sHeavy)
  (f36:Fd K mg "worst_of" sWorst)
  (f37:Fd K mg "_law_cell_at" sCell)
  (f38:Fd K mg "_law_mixed" sMixed)
  (f39:Fd K mg "_law_state" sState)
  (f40:Fd K mg "_law_digit" sDigit)
  (f41:Fd K mg "_law_rules" sLRules)
  (f42:Fd K mg "_law_sure" sSure)
  (f43:Fd K mg "_law_said" sSaid)
  (f44:Fd K mg "_law_first" sFirst)
  (m0:Md K CW "__init__" "Web.__init__" sInit)
  (m1:Md K CW "has_hand" "Web.has_hand" sHas)
  (m2:Md K CW "hands" "Web.hands" sHands)
  (m3:Md K CW "strength" "Web.strength" sStrength)
  (m4:Md K CW "ties" "Web.ties" sTiesM)
  (m5:Md K CW "most_neighbours" "Web.most_neighbours" sMost)
  (m6:Md K CW "are_tied" "Web.are_tied" sTied)
  (m7:Md K CW "turns" "Web.turns" sTurns)
  (m8:Md K CG "__init__" "Goods.__init__" sGInit)
  (m9:Md K CG "has_piece" "Goods.has_piece" sGHas)
  (m10:Md K CG "names" "Goods.names" sGNames)
  (m11:Md K CG "weight" "Goods.weight" sGWeight)
  {ocl kVl dcl pml ctl:Value} {odl anl:Option Addr} {sll:Array (Option Value)} {t8 t9 t10 t11:Tok}
  (al:PySem.W.nsIn K mainGlobals "law"=some (some (.ref fl))) (ll:K.lookup fl=some ⟨ocl,odl,.func (PySem.W.fnOf "law" "law" (defArgs sLaw) (defBody sLaw) (defScope sLaw) .none kVl dcl pml anl (.ref c) ctl),sll⟩) (cl:PySem.W.codeIn K (.ref c) "law"=true) (ch:PySem.W.codeHdIn K c T=true)
  (aW:PySem.W.nsIn K mainGlobals "Web"=some (some (.ref CW))) (aG:PySem.W.nsIn K mainGlobals "Goods"=some (some (.ref CG)))
  (c8:PySem.W.nsIn K mainGlobals "MOST_LETTERS"=some (some (.int 8 t8))) (c9:PySem.W.nsIn K mainGlobals "MOST_HANDS"=some (some (.int 8 t9))) (c10:PySem.W.nsIn K mainGlobals "MOST_STRENGTH"=some (some (.int 1000 t10))) (c11:PySem.W.nsIn K mainGlobals "MOST_WEIGHT"=some (some (.int 1000000000 t11)))
  (wpg:PySem.W.plainGet K CW Str.empty=true) (whd:PySem.W.hasDictIn K CW=true) (wpo:PySem.W.plainOver K CW=true) (wsa:PySem.W.findIn K (.ref CW) "__setattr__"=some (some (.builtin "object.__setattr__"))) (wmk:PySem.W.makesIn K CW=true) (wkc:PySem.W.keepIn K (.ref CW)=true)
  (gpg:PySem.W.plainGet K CG Str.empty=true) (ghd:PySem.W.hasDictIn K CG=true) (gpo:PySem.W.plainOver K CG=true) (gsa:PySem.W.findIn K (.ref CG) "__setattr__"=some (some (.builtin "object.__setattr__"))) (gmk:PySem.W.makesIn K CG=true) (gkc:PySem.W.keepIn K (.ref CG)=true)
  (nS:PySem.W.findIn K (.ref CW) "strength_by_hand"=some none) (nP:PySem.W.findIn K (.ref CW) "sorted_pairs"=some none) (nN:PySem.W.findIn K (.ref CW) "neighbours_by_hand"=some none)
  (nW:PySem.W.findIn K (.ref CG) "web"=some none) (nG:PySem.W.findIn K (.ref CG) "weight_by_name"=some none) (nY:PySem.W.findIn K (.ref CG) "ways_by_name"=some none)
  (iha:PySem.W.findIn K (.ref CW) "__class__"=some (some (.builtin "object.__class__"))) (ihn:PySem.W.specialIn K (.builtin "object.__class__") "__get__"=some (some (.builtin "getset_descriptor.__get__"))) (itk:PySem.W.takesIn K (.builtin "object.__class__")=some true) (imo:PySem.W.mroIn K CW (.type "object")=some true)
  (z0:PySem.W.nsIn K mainGlobals "isinstance"=some none) (z1:PySem.W.nsIn K mainGlobals "int"=some none) (z2:PySem.W.nsIn K mainGlobals "bool"=some none) (z3:PySem.W.nsIn K mainGlobals "str"=some none) (z4:PySem.W.nsIn K mainGlobals "tuple"=some none) (z5:PySem.W.nsIn K mainGlobals "list"=some none) (z6:PySem.W.nsIn K mainGlobals "dict"=some none) (z7:PySem.W.nsIn K mainGlobals "len"=some none) (z8:PySem.W.nsIn K mainGlobals "all"=some none) (z9:PySem.W.nsIn K mainGlobals "sorted"=some none) (z10:PySem.W.nsIn K mainGlobals "max"=some none) (z11:PySem.W.nsIn K mainGlobals "range"=some none) (z12:PySem.W.nsIn K mainGlobals "any"=some none) (z13:PySem.W.nsIn K mainGlobals "enumerate"=some none) (z14:PySem.W.nsIn K mainGlobals "min"=some none) (z15:PySem.W.nsIn K mainGlobals "abs"=some none) (z16:PySem.W.nsIn K mainGlobals "sum"=some none) (zV:PySem.W.nsIn K mainGlobals "ValueError"=some none)
  (eE:PySem.W.nsIn K mainGlobals "EvenError"=some (some (.ref CE))) (eR:PySem.W.nsIn K mainGlobals "NoRule"=some (some (.ref CR))) (xR:PySem.W.excIn K CR [.type "ValueError",.type "Exception",.type "BaseException",.type "object"] "ValueError.__new__"=true) (eL:PySem.W.nsIn K mainGlobals "NotLetBy"=some (some (.ref CL))) (xL:PySem.W.excIn K CL [.type "ValueError",.type "Exception",.type "BaseException",.type "object"] "ValueError.__new__"=true) (eS:PySem.W.nsIn K mainGlobals "NoStand"=some (some (.ref CS))) (xS:PySem.W.excIn K CS [.type "ValueError",.type "Exception",.type "BaseException",.type "object"] "ValueError.__new__"=true) (eT:PySem.W.nsIn K mainGlobals "NoWeight"=some (some (.ref CT))) (xT:PySem.W.excIn K CT [.type "ValueError",.type "Exception",.type "BaseException",.type "object"] "ValueError.__new__"=true) (eP:PySem.W.nsIn K mainGlobals "NoPiece"=some (some (.ref CP))) (xP:PySem.W.excIn K CP [.type "ValueError",.type "Exception",.type "BaseException",.type "object"] "ValueError.__new__"=true)
  (ra:refsIn K CE [CR,CL,CS,CT]=true) (rn:[CR,CL,CS,CT].Nodup) (R:RulesAt K w mg d as) :
  ∃fd:FuncData,(∀(s:Shared) (v:Value),BindsTo s fd ⟨[v],[]⟩ [("_law_script",v)])/\(∀T'∈[T],isCodeTable h T')/\∀base:Heap,K.In base->base.Ns mainGlobals mg->(∀T'∈[T],base.BuiltinsAt mg T')->FnOk l.prog w K mg base CX0 12 fa fd ["_law_script"] (spLaw K T):=by
 have e:=hfa.symm.trans (PySem.W.mg_of X G al)
 cases e
 have B:Bi mg:=⟨PySem.W.mg_none_of X G z0,PySem.W.mg_none_of X G z1,PySem.W.mg_none_of X G z2,PySem.W.mg_none_of X G z3,PySem.W.mg_none_of X G z4,PySem.W.mg_none_of X G z5,PySem.W.mg_none_of X G z6,PySem.W.mg_none_of X G z7,PySem.W.mg_none_of X G z8,PySem.W.mg_none_of X G z9,PySem.W.mg_none_of X G z10,PySem.W.mg_none_of X G z11,PySem.W.mg_none_of X G z12,PySem.W.mg_none_of X G z13,PySem.W.mg_none_of X G z14,PySem.W.mg_none_of X G z15⟩
 have mS:=PySem.W.mg_none_of X G z16
 have TW:Txt K mg CW:=⟨⟨wpg,whd,wpo,wsa⟩,nS,nP,nN⟩
 have TG:TxtG K CG:=⟨⟨gpg,ghd,gpo,gsa⟩,nW,nG,nY⟩
 have IW:InsK K CW:=⟨iha,ihn,itk,imo⟩
 have RP:Ref K mg "NoPiece" CP:=⟨PySem.W.mg_of X G eP,xP⟩
 have F4:Rf K mg CE CR CL CS CT:=⟨PySem.W.mg_of X G eE,⟨PySem.W.mg_of X G eR,xR⟩,⟨PySem.W.mg_of X G eL,xL⟩,⟨PySem.W.mg_of X G eS,xS⟩,⟨PySem.W.mg_of X G eT,xT⟩,ra,rn⟩
 refine⟨PySem.W.fnOf "law" "law" (defArgs sLaw) (defBody sLaw) (defScope sLaw) .none kVl dcl pml anl (.ref c) ctl,fun s v=>.of_eq rfl,fun T' hT'=>?_,fun base KB _ hbm=>?_⟩
 ·obtain rfl:T'=T:=by simpa using hT'
  obtain⟨o,vs',file,tf,flags,tg,inF,text,tt,h1,h2,h3,h4,_⟩:=PySem.W.codeHd_of_K X ch
  exact⟨c,o,vs',h1,h2,h3,h4⟩
 have cIsW:Cal l.prog w K mg base 1 "is_whole" ["thing"] spIsW:=cal f0 (fun _ _ F=>jv_ F B) (fun _ _ _ _ _ _ us hl=>match us,hl with | [_],_=>rfl)
 have cIsWN:Cal l.prog w K mg base 1 "is_whole" ["thing"] (spIsWN K):=cal f0 (fun _ _ F=>jn_ F B) (fun _ _ _ _ _ _ us hl=>match us,hl with | [_],_=>rfl)
 have cWhole:Cal l.prog w K mg base 2 "is_whole_within" ["thing","least","most"] spWhole:=cal f1 (fun _ _ F=>eK_ F cIsW) (fun _ _ _ _ _ _ us hl=>match us,hl with | [_,_,_],_=>rfl)
 have cWhG:Cal l.prog w K mg base 2 "is_whole_within" ["thing","least","most"] (spWhG K):=cal f1 (fun _ _ F=>(eK_ F cIsW).or (g5_ F cIsWN)) (fun _ _ _ _ _ _ us hl=>match us,hl with | [_,_,_],_=>rfl)
 have cName:Cal l.prog w K mg base 1 "is_name" ["thing"] spName:=cal f2 (fun _ _ F=>jd_ F B (PySem.W.mg_of X G c8)) (fun _ _ _ _ _ _ us hl=>match us,hl with | [_],_=>rfl)
 have cLsr:Cal l.prog w K mg base 1 "lesser_first" ["one","other"] spLesser:=cal f3 (fun _ _ F=>gY_ F) (fun _ _ _ _ _ _ us hl=>match us,hl with | [_,_],_=>rfl)
 have cPair:Cal l.prog w K mg base 2 "is_pair_of_names" ["thing"] spPair:=cal f4 (fun _ _ F=>is_ F B cName) (fun _ _ _ _ _ _ us hl=>match us,hl with | [_],_=>rfl)
 have cSort:Cal l.prog w K mg base 3 "sorted_ties" ["ties"] (spSorted K):=cal f5 (fun _ _ F=>gt_ F B cPair cLsr) (fun _ _ _ _ _ _ us hl=>match us,hl with | [_],_=>rfl)
 have cAnew:Cal l.prog w K mg base 1 "ties_anew" ["ties"] (spAnew K):=cal f6 (fun _ _ F=>iv_ F) (fun _ _ _ _ _ _ us hl=>match us,hl with | [_],_=>rfl)
 have cHand:Cal l.prog w K mg base 3 "is_hand_with_strength" ["thing"] spHand:=cal f11 (fun _ _ F=>jh_ F B cName cWhole (PySem.W.mg_of X G c10)) (fun _ _ _ _ _ _ us hl=>match us,hl with | [_],_=>rfl)
 have cStr:Cal l.prog w K mg base 4 "checked_strengths" ["hands"] (spStr K):=cal f12 (fun _ _ F=>jZ_ F B cHand (PySem.W.mg_of X G c9)) (fun _ _ _ _ _ _ us hl=>match us,hl with | [_],_=>rfl)
 have cTies:Cal l.prog w K mg base 4 "checked_ties" ["ties","strengths"] (spTies K):=cal f13 (fun _ _ F=>iW_ F B cSort) (fun _ _ _ _ _ _ us hl=>match us,hl with | [_,_],_=>rfl)
 have cNear:Cal l.prog w K mg base 2 "neighbours_of_all" ["names","ties"] (spNear K):=cal f14 (fun _ _ F=>iT_ F cLsr) (fun _ _ _ _ _ _ us hl=>match us,hl with | [_,_],_=>rfl)
 have cWeb:CalC l.prog w K mg base CW 5 "Web" ["self","hands","ties"] (spInit K CW):=calC m0 (PySem.W.mg_of X G aW) wmk wkc (fun _ _ F=>iM_ F TW B cStr cTies cNear) (fun _ _ _ _ _ _ us hl=>match us,hl with | [_,_,_],_=>rfl)
 have mHas:CalM l.prog w K mg base CW 1 "has_hand" ["self","thing"] (spHas K CW):=calM m1 (fun _ _ F=>jN_ F TW B) (fun _ _ _ _ _ _ us hl=>match us,hl with | [_,_],_=>rfl)
 have mHasA:CalM l.prog w K mg base CW 1 "has_hand" ["self","thing"] (spHasA K CW):=calM m1 (fun _ _ F=>j4_ F TW B) (fun _ _ _ _ _ _ us hl=>match us,hl with | [_,_],_=>rfl)
 have mHands:CalM l.prog w K mg base CW 1 "hands" ["self"] (spHands K CW):=calM m2 (fun _ _ F=>hL_ F TW B) (fun _ _ _ _ _ _ us hl=>match us,hl with | [_],_=>rfl)
 have mStr:CalM l.prog w K mg base CW 2 "strength" ["self","hand"] (spStrength K CW):=calM m3 (fun _ _ F=>ee_ F TW mHas) (fun _ _ _ _ _ _ us hl=>match us,hl with | [_,_],_=>rfl)
 have mTies:CalM l.prog w K mg base CW 2 "ties" ["self"] (spTiesM K CW):=calM m4 (fun _ _ F=>h9_ F TW cAnew) (fun _ _ _ _ _ _ us hl=>match us,hl with | [_],_=>rfl)
 have mMost:CalM l.prog w K mg base CW 1 "most_neighbours" ["self"] (spMost K CW):=calM m5 (fun _ _ F=>iG_ F TW B) (fun _ _ _ _ _ _ us hl=>match us,hl with | [_],_=>rfl)
 have mTied:CalM l.prog w K mg base CW 2 "are_tied" ["self","one","other"] (spTiedA K CW):=calM m6 (fun _ _ F=>hH_ F TW mHasA) (fun _ _ _ _ _ _ us hl=>match us,hl with | [_,_,_],_=>rfl)
 have cFR:Cal l.prog w K mg base 1 "first_row_without" ["rows","tie"] spFirstRow:=cal f15 (fun _ _ F=>e5_ F B) (fun _ _ _ _ _ _ us hl=>match us,hl with | [_,_],_=>rfl)
 have mTurns:CalM l.prog w K mg base CW 3 "turns" ["self"] (spTurns1 K CW):=calM m7 (fun _ _ F=>gK_ F B TW mTies cFR) (fun _ _ _ _ _ _ us hl=>match us,hl with | [_],_=>rfl)
 have cCWy:Cal l.prog w K mg base 4 "checked_ways" ["web","ways"] (spCWays K CW):=cal f16 (fun _ _ F=>ht_ F TW cSort mTied) (fun _ _ _ _ _ _ us hl=>match us,hl with | [_,_],_=>rfl)
 have cCP:Cal l.prog w K mg base 5 "checked_piece" ["web","piece"] (spCPiece K CW):=cal f17 (fun _ _ F=>fP_ F B cName cWhole cCWy (PySem.W.mg_of X G c11)) (fun _ _ _ _ _ _ us hl=>match us,hl with | [_,_],_=>rfl)
 have cCPs:Cal l.prog w K mg base 6 "checked_pieces" ["web","pieces"] (spCPieces K CW):=cal f18 (fun _ _ F=>f7_ F B cCP) (fun _ _ _ _ _ _ us hl=>match us,hl with | [_,_],_=>rfl)
 have cGoods:CalC l.prog w K mg base CG 7 "Goods" ["self","web","pieces"] (spGInit K CG CW):=calC m8 (PySem.W.mg_of X G aG) gmk gkc (fun _ _ F=>hS_ F TG TW IW B (PySem.W.mg_of X G aW) cCPs) (fun _ _ _ _ _ _ us hl=>match us,hl with | [_,_,_],_=>rfl)
 have gHas:CalM l.prog w K mg base CG 1 "has_piece" ["self","thing"] (spGHas K CG CW):=calM m9 (fun _ _ F=>iC_ F TG B) (fun _ _ _ _ _ _ us hl=>match us,hl with | [_,_],_=>rfl)
 have gNames:CalM l.prog w K mg base CG 1 "names" ["self"] (spGNames K CG CW):=calM m10 (fun _ _ F=>gg_ F TG B) (fun _ _ _ _ _ _ us hl=>match us,hl with | [_],_=>rfl)
 have gWeight:CalX l.prog w K mg base CG 2 "weight" ["self","piece"] (spGWeight K CG CW CP):=calX m11 (fun _ _ F=>fn_ F TG RP gHas) (fun _ _ _ _ _ _ us hl=>match us,hl with | [_,_],_=>rfl)
 have cGd:Cal l.prog w K mg base 1 "greatest_divisor" ["one","other"] spGd:=cal f7 (fun _ _ F=>k4_ F) (fun _ _ _ _ _ _ us hl=>match us,hl with | [_,_],_=>rfl)
 have cFr:Cal l.prog w K mg base 2 "fraction_of" ["top","below"] spFrac:=cal f9 (fun _ _ F=>jm_ F cGd) (fun _ _ _ _ _ _ us hl=>match us,hl with | [_,_],_=>rfl)
 have cLess:Cal l.prog w K mg base 1 "is_less" ["one","other"] spLess:=cal f10 (fun _ _ F=>in_ F) (fun _ _ _ _ _ _ us hl=>match us,hl with | [_,_],_=>rfl)
 have cCS:Cal l.prog w K mg base 2 "checked_stand" ["goods","stand"] (spCStand K CG CW):=cal f19 (fun _ _ F=>gh_ F B TG TW gHas mHas gNames) (fun _ _ _ _ _ _ us hl=>match us,hl with | [_,_],_=>rfl)
 have gCS:CalG l.prog w K mg base 2 "checked_stand" ["goods","stand"] (spCStandG K CG CW CS):=calG f19 (fun _ _ F=>(fb_ F B F4.s TG TW gHas mHas gNames).toX2) (fun _ _ _ _ _ _ us hl=>match us,hl with | [_,_],_=>rfl)
 have cLA:Cal l.prog w K mg base 3 "loads_at" ["goods","placed"] (spLoadsAt K CG CW):=cal f20 (fun _ _ F=>fj_ F B TG TW mHands gWeight) (fun _ _ _ _ _ _ us hl=>match us,hl with | [_,_],_=>rfl)
 have cLM:Cal l.prog w K mg base 2 "least_multiple" ["numbers"] (spLM K):=cal f8 (fun _ _ F=>k2_ F cGd) (fun _ _ _ _ _ _ us hl=>match us,hl with | [_],_=>rfl)
 have cMu:Cal l.prog w K mg base 3 "multiple_of_strengths" ["web"] (spMult K CW):=cal f21 (fun _ _ F=>jg_ F TW cLM mHands mStr) (fun _ _ _ _ _ _ us hl=>match us,hl with | [_],_=>rfl)
 have cLv:Cal l.prog w K mg base 4 "levels_at" ["goods","placed"] (spLevels K CG CW):=cal f22 (fun _ _ F=>gC_ F TG TW cLA cMu mStr) (fun _ _ _ _ _ _ us hl=>match us,hl with | [_,_],_=>rfl)
 have cSA:Cal l.prog w K mg base 5 "sum_at" ["goods","placed"] (spSumAt K CG CW):=cal f23 (fun _ _ F=>hA_ F mS cLA cLv) (fun _ _ _ _ _ _ us hl=>match us,hl with | [_,_],_=>rfl)
 have cLS:Cal l.prog w K mg base 4 "least_sum" ["goods","placed"] (spLeastSum K CG CW):=cal f31 (fun _ _ F=>er_ F mS TG TW cLA cMu mHands mStr) (fun _ _ _ _ _ _ us hl=>match us,hl with | [_,_],_=>rfl)
 have cIR:Cal l.prog w K mg base 1 "is_rule" ["thing"] spIsRule:=cal f24 (fun _ _ F=>gd_ F B R) (fun _ _ _ _ _ _ us hl=>match us,hl with | [_],_=>rfl)
 have cIRN:Cal l.prog w K mg base 1 "is_rule" ["thing"] (spIsRuleN K):=cal f24 (fun _ _ F=>eZ_ F B R) (fun _ _ _ _ _ _ us hl=>match us,hl with | [_],_=>rfl)
 have cWs:Cal l.prog w K mg base 2 "checked_words" ["rule"] (spWords K):=cal f25 (fun _ _ F=>hv_ F R cIR) (fun _ _ _ _ _ _ us hl=>match us,hl with | [_],_=>rfl)
 have gWs:CalG l.prog w K mg base 2 "checked_words" ["rule"] (spWordsN K CR):=calG f25 (fun _ _ F=>ga_ F F4.r cIRN) (fun _ _ _ _ _ _ us hl=>match us,hl with | [_],_=>rfl)
 have cGu:Cal l.prog w K mg base 3 "is_shares_or_guarded_by" ["rule","guards"] (spGuard K):=cal f26 (fun _ _ F=>h6_ F cWs) (fun _ _ _ _ _ _ us hl=>match us,hl with | [_,_],_=>rfl)
 have gGu:CalG l.prog w K mg base 3 "is_shares_or_guarded_by" ["rule","guards"] (spGuardN K CR):=calG f26 (fun _ _ F=>gO_ F gWs) (fun _ _ _ _ _ _ us hl=>match us,hl with | [_,_],_=>rfl)
 have cLet:Cal l.prog w K mg base 4 "is_let_by" ["rule"] spLet:=cal f27 (fun _ _ F=>if_ F cGu) (fun _ _ _ _ _ _ us hl=>match us,hl with | [_],_=>rfl)
 have gLet:CalG l.prog w K mg base 4 "is_let_by" ["rule"] (spLG K CR):=calG f27 (fun _ _ F=>(if_ F cGu).up.or (iS_ F gGu)) (fun _ _ _ _ _ _ us hl=>match us,hl with | [_],_=>rfl)
 have cRB:Cal l.prog w K mg base 4 "rows_by" ["web","rule"] (spRowsBy K CW):=cal f28 (fun _ _ F=>gc_ F B TW cWs mTurns) (fun _ _ _ _ _ _ us hl=>match us,hl with | [_,_],_=>rfl)
 have cCG:Cal l.prog w K mg base 5 "checked_guard" ["rule"] spCGuard:=cal f29 (fun _ _ F=>dO_ F cLet cWs) (fun _ _ _ _ _ _ us hl=>match us,hl with | [_],_=>rfl)
 have gCG:CalG l.prog w K mg base 5 "checked_guard" ["rule"] (spCG K CR CL):=calG f29 (fun _ _ F=>(dO_ F cLet cWs).up.or (f3_ F F4.l gLet)) (fun _ _ _ _ _ _ us hl=>match us,hl with | [_],_=>rfl)
 have cCW:Cal l.prog w K mg base 3 "check_weight" ["thing"] spCWeight:=cal f30 (fun _ _ F=>cO_ F (PySem.W.mg_of X G c11) cWhole) (fun _ _ _ _ _ _ us hl=>match us,hl with | [_],_=>rfl)
 have gCW:CalG l.prog w K mg base 3 "check_weight" ["thing"] (spCW K CT):=calG f30 (fun _ _ F=>(cO_ F (PySem.W.mg_of X G c11) cWhole).up.or (e8_ F F4.t (PySem.W.mg_of X G c11) cWhG)) (fun _ _ _ _ _ _ us hl=>match us,hl with | [_],_=>rfl)
 have gRe:CalG l.prog w K mg base 6 "rest_by" ["goods","stand","rule"] (spRestG K CG CW CR CL CS):=calG f32 (fun _ _ F=>(g1_ F TG cCG cCS cSA cLS cRB).up.or (hy_ F gCG gCS)) (fun _ _ _ _ _ _ us hl=>match us,hl with | [_,_,_],_=>rfl)
 have cAl:Cal l.prog w K mg base 3 "gap_along" ["web","weight","guard","tie"] (spAlong K CW):=cal f33 (fun _ _ F=>hs_ F TW mStr mMost cFr) (fun _ _ _ _ _ _ us hl=>match us,hl with | [_,_,_,_],_=>rfl)
 have gGa:CalG l.prog w K mg base 6 "gap_of" ["web","weight","rule"] (spGapG K CW CR CL CT):=calG f34 (fun _ _ F=>(jp_ F TW cCG cCW cFr mTies cAl cLess).up.or (ix_ F gCG gCW)) (fun _ _ _ _ _ _ us hl=>match us,hl with | [_,_,_],_=>rfl)
 have cHv:Cal l.prog w K mg base 1 "heavy_pieces" ["guard"] spHeavy:=cal f35 (fun _ _ F=>hG_ F) (fun _ _ _ _ _ _ us hl=>match us,hl with | [_],_=>rfl)
 have gWo:CalG l.prog w K mg base 9 "worst_of" ["weight","rule"] (spWorstG K CR CL CT):=calG f36 (fun _ _ F=>(hU_ F B cCG cCW cHv cWeb cGoods).up.or ((gy_ F gCG gCW).mono (by decide))) (fun _ _ _ _ _ _ us hl=>match us,hl with | [_,_],_=>rfl)
 have cCell:Cal l.prog w K mg base 1 "_law_cell_at" ["_law_script","_law_k"] (spCell K):=cal f37 (fun _ _ F=>j9_ F B) (fun _ _ _ _ _ _ us hl=>match us,hl with | [_,_],_=>rfl)
 have cMx:Cal l.prog w K mg base 1 "_law_mixed" ["_law_number"] spMixed:=cal f38 (fun _ _ F=>hQ_ F) (fun _ _ _ _ _ _ us hl=>match us,hl with | [_],_=>rfl)
 have cStt:Cal l.prog w K mg base 1 "_law_state" ["_law_cell","_law_k"] spState:=cal f39 (fun _ _ F=>he_ F) (fun _ _ _ _ _ _ us hl=>match us,hl with | [_,_],_=>rfl)
 have cDig:Cal l.prog w K mg base 2 "_law_digit" ["_law_state_here","_law_base"] spDigit:=cal f40 (fun _ _ F=>hJ_ F cMx) (fun _ _ _ _ _ _ us hl=>match us,hl with | [_,_],_=>rfl)
 have cRu:Cal l.prog w K mg base 1 "_law_rules" [] spRules:=cal f41 (fun _ _ F=>hl_ F) (fun _ _ _ _ _ _ us hl=>match us,hl with | [],_=>rfl)
 have cSu:Cal l.prog w K mg base 1 "_law_sure" ["_law_rule"] spSure:=cal f42 (fun _ _ F=>iD_ F) (fun _ _ _ _ _ _ us hl=>match us,hl with | [_],_=>rfl)
 have cFi:Cal l.prog w K mg base 1 "_law_first" ["_law_reasons"] spFirst:=cal f44 (fun _ _ F=>hE_ F) (fun _ _ _ _ _ _ us hl=>match us,hl with | [_],_=>rfl)
 have cA1:Cal l.prog w K mg base 8 "_law_said" ["_law_ask"] (spSaid CR CL CS CT lq (lamA lam1) (lamB lam1) (lamS lam1) fv1 (spL1 K CG CW CR CL CS)):=cal f43 (fun _ _ F=>em_ F B (PySem.W.mg_none_of X G zV) F4 mono1 (iJ_ gRe)) (fun _ _ _ _ _ _ us hl=>match us,hl with | [_],_=>rfl)
 have cA2:Cal l.prog w K mg base 8 "_law_said" ["_law_ask"] (spSaid CR CL CS CT lq (lamA lam2) (lamB lam2) (lamS lam2) fv2 (spL2 K CG CW CR CL CT)):=cal f43 (fun _ _ F=>em_ F B (PySem.W.mg_none_of X G zV) F4 mono2 (j2_ TG gGa)) (fun _ _ _ _ _ _ us hl=>match us,hl with | [_],_=>rfl)
 have cA3:Cal l.prog w K mg base 11 "_law_said" ["_law_ask"] (spSaid CR CL CS CT lq (lamA lam3) (lamB lam3) (lamS lam3) fv3 (spL3 K CR CL CT)):=cal f43 (fun _ _ F=>em_ F B (PySem.W.mg_none_of X G zV) F4 mono3 (j5_ gWo)) (fun _ _ _ _ _ _ us hl=>match us,hl with | [_],_=>rfl)
 exact jR_ ll cl (PySem.W.codeHd_of_K KB ch) (hbm T (by simp)) B cCell cStt cDig cRu cSu cFi cWeb cGoods cA1 cA2 cA3
theorem walk{l:PySem.W.OpenLaw}{q:Program}{loose:List Str}{XP:(Str->Option Value)->Heap->Prop}{d:DefRec}{K:Params->PySem.W.Frag}{as:List Addr}{T:Addr}{eas:∀P:Params,as=(K P).map (·.1)}(hn:l.most=some 63)(hdf:d.params.defaults=[])(hts:([T].all fun T=>!as.contains T)=true)
  (F:∀(w:World) (mg:Str->Option Value) (fa:Addr) (h:Heap),(K w.params).In h->h.Ns mainGlobals mg->mg d.name=some (.ref fa)->
   ∃fd:FuncData,(∀(s:Shared) (u:Value),BindsTo s fd ⟨[u],[]⟩ [("_law_script",u)])/\(∀T'∈[T],isCodeTable h T')/\∀base:Heap,(K w.params).In base->base.Ns mainGlobals mg->(∀T'∈[T],base.BuiltinsAt mg T')->FnOk l.prog w (K w.params) mg base CX0 12 fa fd ["_law_script"] (spLaw (K w.params) T)) :
  PySem.W.WalkO q loose XP (PySem.W.kmHook K as eas [T]).says l.row.toRowW d [] (fun f vs=>PySem.call f vs):=
 L2.walk_ofT (n:=63) (k:=12) (x:="_law_script") (CX:=fun _=>CX0) (sp:=fun w=>spLaw (K w.params) T) hn (by decide) hdf ⟨rfl,by decide,by decide⟩ hts F (fun _ _ a ns hl hT hS=>⟨a,ns,rfl,hT T (by simp),hS,hl,fun _=>rfl⟩) fun _ _ _ _ _ z=>z
end Ev
set_option Elab.async false
set_option linter.all false
namespace PySem.W.Fast
def tw21503995183401568:Unit:=()
def tw4641796823966261024:Unit:=()
def tw2109264616012809409:Unit:=()
def tw16742873776905577793:Unit:=()
def tw7524299047831673250:Unit:=()
def tw16147636602306478467:Unit:=()
def tw381618443420297091:Unit:=()
def tw8804342773731025859:Unit:=()
def tw2407511783561567748:Unit:=()
def tw12171795747291150884:Unit:=()
def tw5228828937515089445:Unit:=()
def tw13324984853457533222:Unit:=()
def tw5040228475404533190:Unit:=()
def tw7770041013212298151:Unit:=()
def tw295295744876982281:Unit:=()
def tw2047621907471690953:Unit:=()
def tw5532607132934802089:Unit:=()
def tw17372200918609885195:Unit:=()
def tw9069173667569080524:Unit:=()
def tw2106530898457011757:Unit:=()
def tw7765783428822041229:Unit:=()
def tw2415731912681765422:Unit:=()
def tw709790267792301871:Unit:=()
def tw6280421998172602736:Unit:=()
def tw12577156113226842867:Unit:=()
def tw12572634783813439251:Unit:=()
def tw6821530065563526995:Unit:=()
def tw1586636770556520596:Unit:=()
def tw3271221286168967604:Unit:=()
def tw14008256241884972565:Unit:=()
def tw5762330927276574232:Unit:=()
def tw17580677952065136344:Unit:=()
def tw16873480086240104025:Unit:=()
def tw14715973676726357913:Unit:=()
def tw942747525219828697:Unit:=()
def tw7186899184035180666:Unit:=()
def tw1867477311684469437:Unit:=()
def tw16455128330841778238:Unit:=()
def tw3298873822413837502:Unit:=()
def tw8715173216746745964:Unit:=()
def tw10615366499468039972:Unit:=()
def tw4588429068511313688:Unit:=()
def tw8045138711321366920:Unit:=()
def tw16264292510615119971:Unit:=()
def tw4857646130980643638:Unit:=()
def tw6196900473780502185:Unit:=()
def tw2840039469319620225:Unit:=()
def tw17851461456074555364:Unit:=()
def tw7272371714946716871:Unit:=()
def tw11044621932788776315:Unit:=()
def tw11981636443362409888:Unit:=()
def tw17168589086246706561:Unit:=()
def tw15682136292362399706:Unit:=()
def tw10378381243602714492:Unit:=()
def tw7676119348630242618:Unit:=()
def tw10486397141576853688:Unit:=()
def tw11321129009669376961:Unit:=()
def tw13540064289781054676:Unit:=()
def tw6027454555380916877:Unit:=()
def tw8756830475642569670:Unit:=()
def tw4466706564227152944:Unit:=()
def tw6604855625599542036:Unit:=()
def tw12515485796717624642:Unit:=()
def tw8516932540145804227:Unit:=()
def tw7715412500240990644:Unit:=()
def tw5455360828712748089:Unit:=()
def tw16537497430601180530:Unit:=()
def tw17617932597402077084:Unit:=()
def tw18120274136571667625:Unit:=()
def tw12557986632040106697:Unit:=()
def tw2728782416240562617:Unit:=()
def tw7567053963324434435:Unit:=()
def tw7723412147482704579:Unit:=()
def tw16508855400511458262:Unit:=()
def tw62949204002629421:Unit:=()
def tw18088923871234814203:Unit:=()
def tw3192626946190415996:Unit:=()
def tw12858656829276917867:Unit:=()
def tw18419935502840526845:Unit:=()
def tw11986321605689096313:Unit:=()
def tw1632367025321934464:Unit:=()
def tw15293761017531535342:Unit:=()
def tw15333352851422548437:Unit:=()
def tw13657228150431049763:Unit:=()
def tw17526184159779314060:Unit:=()
def tw7637517501530015260:Unit:=()
def tw14011804527982545776:Unit:=()
def tw13068749981944919480:Unit:=()
def tw9197929410311233149:Unit:=()
def tw8765193866245080180:Unit:=()
def tw1794790474148059062:Unit:=()
def tw232868510419183138:Unit:=()
def tw4246412218516884607:Unit:=()
def tw5751844074327705436:Unit:=()
def tw5620625274281361547:Unit:=()
def tw3473137191569230449:Unit:=()
def tw15253063344095147985:Unit:=()
def tw17775181947672503382:Unit:=()
def tw3917709607095288446:Unit:=()
def tw13662248723814319073:Unit:=()
def tw11156620306027699649:Unit:=()
def tw4047902242149008185:Unit:=()
def tw18011821265290243247:Unit:=()
def tw5132725846186875034:Unit:=()
def tw10054024185920022015:Unit:=()
def tw18371223759960802897:Unit:=()
def tw1669783772565469100:Unit:=()
def tw1585621093624902516:Unit:=()
def tw8413438734457756202:Unit:=()
def tw3607812762885945343:Unit:=()
def tw12784991164956750840:Unit:=()
def tw8599382243399439529:Unit:=()
def tw2729344712448940873:Unit:=()
def tw6789625814982193905:Unit:=()
def tw11406558724296894491:Unit:=()
def tw1420789911827672258:Unit:=()
def tw12263950681030945805:Unit:=()
def tw5589523583834937623:Unit:=()
def tw13270424015826828490:Unit:=()
def tw12944306137834436069:Unit:=()
def tw5682762075297681009:Unit:=()
def tw215566550933197257:Unit:=()
def tw190872796509354137:Unit:=()
def tw8028694042492096330:Unit:=()
def tw16780005134715914533:Unit:=()
def tw105072446588655265:Unit:=()
def tw3615093016371727328:Unit:=()
def tw863411672621990094:Unit:=()
def tw79897273789199285:Unit:=()
def tw12181834836802839380:Unit:=()
def tw14686039740198003178:Unit:=()
def tw18266455328086837018:Unit:=()
def tw6408456377338189384:Unit:=()
def tw5603690416801327347:Unit:=()
def tw17419454936334884821:Unit:=()
def tw18071015103191797777:Unit:=()
def tw13525601007965618103:Unit:=()
def tw5893296832079508953:Unit:=()
def tw5485104289035348215:Unit:=()
def tw10950098516326994313:Unit:=()
def tw16396398895872948650:Unit:=()
def tw10657064394459613300:Unit:=()
def tw5685050114624739858:Unit:=()
def tw14983637201061943091:Unit:=()
def tw7038670050806814402:Unit:=()
def tw14748031546963843972:Unit:=()
def tw7257288427297065629:Unit:=()
def tw2185255241247732625:Unit:=()
def tw13664311336389966140:Unit:=()
def tw9298201175989767208:Unit:=()
def tw4352545812212715807:Unit:=()
def tw14462293313086977389:Unit:=()
def tw10848098310549565384:Unit:=()
def tw13364788366727940153:Unit:=()
def tw2268929441924498134:Unit:=()
def tw8245837553080304965:Unit:=()
def tw14757429968729475685:Unit:=()
def tw5493958559215405066:Unit:=()
def tw740629075962210065:Unit:=()
def tw13280963052340264378:Unit:=()
def tw16833737686270696421:Unit:=()
def tw7771926287365694386:Unit:=()
def tw12216260193924819267:Unit:=()
def tw9538816824191574791:Unit:=()
def tw6951956698530307252:Unit:=()
def tw11979258327455201992:Unit:=()
def tw15391619900667702880:Unit:=()
def tw12679060974814416444:Unit:=()
def tw17418535235317553829:Unit:=()
def tw129022563508133257:Unit:=()
def tw12139979017622741010:Unit:=()
def tw15065309870405244469:Unit:=()
def tw8380226695933817233:Unit:=()
def tw5767882299804553039:Unit:=()
def tw12034004788121676244:Unit:=()
def tw13082460591974401135:Unit:=()
def tw2911310283929595921:Unit:=()
def tw231652130719014924:Unit:=()
def tw5307311233352161847:Unit:=()
def tw11945013470749067884:Unit:=()
def tw17454050507746431115:Unit:=()
def tw1284796498725614580:Unit:=()
def tw9715824392747131090:Unit:=()
def tw5917634126102455769:Unit:=()
def tw15898906423879823933:Unit:=()
def tw1925308797808486167:Unit:=()
def tw14472980499009794590:Unit:=()
def tw12082011370952952059:Unit:=()
def tw17712358570368133645:Unit:=()
def tw9761803149467684893:Unit:=()
def tw5378770596839947148:Unit:=()
def tw6935053022163190914:Unit:=()
def tw6284273605710115741:Unit:=()
def tw3384624787144314211:Unit:=()
def tw11567433929044010200:Unit:=()
def tw11081045933541351212:Unit:=()
def tw1475978469729788812:Unit:=()
def tw17294208973776842998:Unit:=()
def tw14896835366852205475:Unit:=()
def tw8982264262241668800:Unit:=()
def tw7518238003501346435:Unit:=()
def tw4374703330057097099:Unit:=()
def tw14729875401136722322:Unit:=()
def tw17401492641509749376:Unit:=()
def tw1403168555225906534:Unit:=()
def tw7073284825908512572:Unit:=()
def tw18369258753758797634:Unit:=()
def tw9954671759658207455:Unit:=()
def tw527538519459413577:Unit:=()
def tw1639789889057838910:Unit:=()
def tw11306332065214085773:Unit:=()
def tw12013991689911660768:Unit:=()
def tw8795429910524524169:Unit:=()
def tw450262644046751249:Unit:=()
def tw1257265163559756508:Unit:=()
def tw8455948954481038198:Unit:=()
def tw13848198320999294754:Unit:=()
def tw7876488018616788535:Unit:=()
def tw1824705234170980613:Unit:=()
def tw11249061711983457647:Unit:=()
def tw13985408366828103707:Unit:=()
def tw15409803726417547719:Unit:=()
def tw5380606043237822283:Unit:=()
def tw14880880445774433891:Unit:=()
def tw8171222066259172505:Unit:=()
def tw1845051653702020184:Unit:=()
def tw1961462697120721659:Unit:=()
def tw1077374071242608206:Unit:=()
def tw109849165951766468:Unit:=()
def tw1090035790697536965:Unit:=()
def tw1245562494685138378:Unit:=()
def tw12294413638470993886:Unit:=()
def tw7013111295241609114:Unit:=()
def tw11754374119489629945:Unit:=()
def tw5377548092468956334:Unit:=()
def tw18391660977743106164:Unit:=()
def tw5134502192849861600:Unit:=()
def tw15825834526996656476:Unit:=()
def tw211174724419362330:Unit:=()
def tw8694887322170343289:Unit:=()
def tw2221640809980055934:Unit:=()
def tw4641037672477989737:Unit:=()
def tw11569982861044195223:Unit:=()
def tw10934643217083087174:Unit:=()
def tw8169215893892000779:Unit:=()
def tw10125911755391783786:Unit:=()
def tw8856432821525941246:Unit:=()
def tw13454101514834487840:Unit:=()
def tw5140979948505817870:Unit:=()
def tw12505298500679129985:Unit:=()
def tw176142568223681012:Unit:=()
def tw5625308802680157826:Unit:=()
def tw1878493749818785615:Unit:=()
def tw5578588371027089354:Unit:=()
def tw13354076313125208887:Unit:=()
def tw2177307602706094137:Unit:=()
def tw17669305683333472352:Unit:=()
def tw12296515262021229672:Unit:=()
def tw8110055929342299193:Unit:=()
def tw10537836102844440277:Unit:=()
def tw6220404257799395306:Unit:=()
def tw3479673655362517674:Unit:=()
def tw12359415438812880808:Unit:=()
def tw3740935912698695770:Unit:=()
def tw14644329426162360775:Unit:=()
def tw2612765452000856762:Unit:=()
def tw17586585189565288509:Unit:=()
def tw17269515092079697602:Unit:=()
def tw10512689053251392587:Unit:=()
def tw330228188840442568:Unit:=()
def tw2022126388727758224:Unit:=()
def tw13254816241496833038:Unit:=()
def tw16402387388129026063:Unit:=()
def tw5386564241923872673:Unit:=()
def tw8507192904520442117:Unit:=()
def tw8839944814727960352:Unit:=()
def tw8943150175734686703:Unit:=()
def tw15537644548383504793:Unit:=()
def tw7370078256059366620:Unit:=()
def tw7791836544459564329:Unit:=()
def tw4554889704501784472:Unit:=()
def tw16496101178802319711:Unit:=()
def tw8931232536525393350:Unit:=()
def tw14945749432132936288:Unit:=()
def tw10737695361669665182:Unit:=()
def tw2867354103571065434:Unit:=()
def tw5417236627497346665:Unit:=()
def tw16917325521939103763:Unit:=()
def tw15241572959542513028:Unit:=()
def tw12777379327084012163:Unit:=()
def tw13523544580781510552:Unit:=()
def tw5502386222157946501:Unit:=()
def tw17309729271504426356:Unit:=()
def tw14827770566573578816:Unit:=()
def tw15106462682268092551:Unit:=()
def tw3428606688595586495:Unit:=()
def tw6760654025751627733:Unit:=()
def tw8916160772401993494:Unit:=()
def tw15902179458303498515:Unit:=()
def tw16536813363509771793:Unit:=()
def tw4554000341953413374:Unit:=()
def tw1238835729812549231:Unit:=()
def tw11085389998243885743:Unit:=()
def tw1552674308619136527:Unit:=()
def tw16547926269464571607:Unit:=()
def tw8740435156035477271:Unit:=()
def tw14136959529177569107:Unit:=()
def tw16824011674330491802:Unit:=()
def tw8762314264774356445:Unit:=()
def tw15716579876466539032:Unit:=()
def tw12862213218871227380:Unit:=()
def tw171922223065786632:Unit:=()
def tw17084541429102545911:Unit:=()
def tw14900558672965134256:Unit:=()
def tw879713926592344319:Unit:=()
def tw4637051093840022083:Unit:=()
def tw13974205047365218913:Unit:=()
def tw16219174223988356749:Unit:=()
def tw7150423220335811636:Unit:=()
def tw932650541331665382:Unit:=()
def tw14972216461544244587:Unit:=()
def tw839214187340807296:Unit:=()
def tw17237570151226163806:Unit:=()
def tw8896442654741109134:Unit:=()
def tw10206405995726844320:Unit:=()
def tw9476788034630723122:Unit:=()
def tw8421701363203712456:Unit:=()
def tw15761198012685316637:Unit:=()
def tw12451201306607969646:Unit:=()
def tw2628009311730500389:Unit:=()
def tw3972441264884219096:Unit:=()
def tw5061863055305573983:Unit:=()
def tw7505419709729946820:Unit:=()
def tw14573235339710299188:Unit:=()
def tw11626840499158986050:Unit:=()
def tw4015073146193813062:Unit:=()
def tw3604144540513799267:Unit:=()
def tw1802911155020301500:Unit:=()
def tw10294641603568732841:Unit:=()
def tw11733915985552326294:Unit:=()
def tw12629906292347181461:Unit:=()
def tw10999541916173302742:Unit:=()
def tw9687149086426250788:Unit:=()
def tw11744773736150801388:Unit:=()
def tw18124599547185521520:Unit:=()
def tw15456283210665120237:Unit:=()
def tw16084421737111258747:Unit:=()
def tw3289458084098798979:Unit:=()
def tw4689231397677439480:Unit:=()
def tw8752901987360250637:Unit:=()
def tw9260575960640131835:Unit:=()
def tw17941474414097725819:Unit:=()
def tw8995787639068581255:Unit:=()
def tw17033582223111146260:Unit:=()
def tw16303975048151481647:Unit:=()
def tw9119981441694393084:Unit:=()
def tw15632359371907963945:Unit:=()
def tw2878451643030529077:Unit:=()
def tw11590036409040832499:Unit:=()
def tw10784289915702845776:Unit:=()
def tw1450696820970580567:Unit:=()
def tw11137676080252889883:Unit:=()
def tw2280417337670535514:Unit:=()
def tw17194525887859591636:Unit:=()
def tw13552768453686100963:Unit:=()
def tw14018582853391209731:Unit:=()
def tw16288909952983890470:Unit:=()
def tw10093173092458376897:Unit:=()
def tw9488881113630806548:Unit:=()
def tw13288631048161802975:Unit:=()
def tw11652002187650673301:Unit:=()
def tw5235119131047110987:Unit:=()
def tw15103616879878481700:Unit:=()
def tw624494443379223307:Unit:=()
def tw12549289668394151709:Unit:=()
def tw1267008497589459417:Unit:=()
def tw17667459199220686006:Unit:=()
def tw3123903260664370266:Unit:=()
def tw14680930632209980760:Unit:=()
def tw5016784786830201250:Unit:=()
def tw7786690702821694079:Unit:=()
def tw9959210521789079226:Unit:=()
def tw1882439303097466344:Unit:=()
def tw18066766905807530816:Unit:=()
def tw14696771877788426389:Unit:=()
def tw9462873249426628048:Unit:=()
def tw1349701725960592487:Unit:=()
def tw4973124627794597058:Unit:=()
def tw13033657015333649582:Unit:=()
def tw7550904653102613830:Unit:=()
def tw13653482574080827495:Unit:=()
def tw79276925742570906:Unit:=()
def tw12623928950634941577:Unit:=()
def tw7585873120326482890:Unit:=()
def tw16405293797769576908:Unit:=()
def tw14703451424258467068:Unit:=()
def tw3020459187561838042:Unit:=()
def tw11025977081674167920:Unit:=()
def tw13984059432213606374:Unit:=()
def tw10659044691432008887:Unit:=()
def tw8618620232849333411:Unit:=()
def tw394423164886072023:Unit:=()
def tw2119204597257713919:Unit:=()
def tw6817291604845359629:Unit:=()
def tw3254375728326374998:Unit:=()
def tw7644390348898368119:Unit:=()
def tw3144639242666756011:Unit:=()
def tw396495970649174378:Unit:=()
def tw12516257091831484621:Unit:=()
def tw11746020886530101772:Unit:=()
def tw4554996346931698901:Unit:=()
def tw732641177257266035:Unit:=()
def tw9945801303610728434:Unit:=()
def tw15694598670746251562:Unit:=()
def tw3059910455624004431:Unit:=()
def tw4152233677814954428:Unit:=()
def tw3466969039190880748:Unit:=()
def tw2630556706077930659:Unit:=()
def tw13208370590756098521:Unit:=()
def tw14412216688100693375:Unit:=()
def tw9474561693990392665:Unit:=()
def tw16779177994743649910:Unit:=()
def tw10414661255789962884:Unit:=()
def tw2906434635459388540:Unit:=()
def tw13475926525031913447:Unit:=()
def tw4010060115481173364:Unit:=()
def tw4913435808972061096:Unit:=()
def tw16078005887565508780:Unit:=()
def tw2975981021684491795:Unit:=()
def tw16610690803733761833:Unit:=()
def tw83621732331195890:Unit:=()
def tw9113745800608559573:Unit:=()
def tw1317530428672109186:Unit:=()
def tw7893975191021389044:Unit:=()
def tw12989785324255265398:Unit:=()
def tw18336968604956841109:Unit:=()
def tw1559450080680224454:Unit:=()
def tw7782365528400160226:Unit:=()
def tw4484699580771443899:Unit:=()
def tw4008551714209594089:Unit:=()
def tw730871703441576670:Unit:=()
def tw8482975340346782837:Unit:=()
def tw9002147587311798306:Unit:=()
def tw2607734607382161682:Unit:=()
def tw6563825645729800069:Unit:=()
def tw8947314372195345620:Unit:=()
def tw9712962846843248379:Unit:=()
def tw15629385482459703664:Unit:=()
def tw4691388053609729174:Unit:=()
def tw5623746726058504731:Unit:=()
def tw5325382171161673690:Unit:=()
def tw679555225018153791:Unit:=()
def tw6222561673818570884:Unit:=()
def tw10540424097414241582:Unit:=()
def tw13899491973312789789:Unit:=()
def tw11919674961979434304:Unit:=()
def tw1468109382704562811:Unit:=()
def tw15387173144203324235:Unit:=()
def tw10586952065300830549:Unit:=()
def tw16373681205200242824:Unit:=()
def tw4149601056291255488:Unit:=()
def tw312263124052945327:Unit:=()
def tw7564734387207787855:Unit:=()
def tw8324617107827187766:Unit:=()
def tw7865030008343671642:Unit:=()
def tw4903578576101880852:Unit:=()
def tw13280965135132757783:Unit:=()
def tw14645785680019430499:Unit:=()
def tw4677072276788835473:Unit:=()
def tw3005644373497749420:Unit:=()
def tw3116907315414765173:Unit:=()
def tw3951292331386270396:Unit:=()
def tw15541069303740267986:Unit:=()
def tw16808775396087461725:Unit:=()
def tw5247604625273066129:Unit:=()
def tw17684545039982131721:Unit:=()
def tw13263848646356957350:Unit:=()
def tw10121699980085706161:Unit:=()
def tw14615773221804078411:Unit:=()
def tw4484378071513103157:Unit:=()
def tw14297021388036870112:Unit:=()
def tw13972962029972274203:Unit:=()
def tw4173044832957943634:Unit:=()
def tw9407980434869037701:Unit:=()
def tw7972133058861057418:Unit:=()
def tw15301259301396218149:Unit:=()
def tw10610393633106521166:Unit:=()
def tw15262870275597589225:Unit:=()
def tw14682019579065230415:Unit:=()
def tw17102860016244226269:Unit:=()
def tw18372428700357033989:Unit:=()
def tw2587946531439846943:Unit:=()
def tw15897352082467144171:Unit:=()
def tw1171373297025502685:Unit:=()
def tw5650139194723646857:Unit:=()
def tw13198835119771728090:Unit:=()
def tw11200336088491797997:Unit:=()
def tw5056702862206417989:Unit:=()
def tw6729310542777447775:Unit:=()
def tw18198169766196705165:Unit:=()
def tw2695922412674086938:Unit:=()
def tw1974252133652163797:Unit:=()
def tw8814914176029441226:Unit:=()
def tw7823348818179132937:Unit:=()
def tw10765207601649221788:Unit:=()
def tw3252017814452519791:Unit:=()
def tw17109256109743773687:Unit:=()
def tw7650201329030894715:Unit:=()
def tw11661986406801925463:Unit:=()
def tw5226607752888105101:Unit:=()
def tw7044470328237223981:Unit:=()
def tw7308609531152694426:Unit:=()
def tw5247900121552109613:Unit:=()
def tw18037199258469969814:Unit:=()
def tw9813026748599234924:Unit:=()
def tw11465982291650752135:Unit:=()
def tw354583456238749545:Unit:=()
def tw8124913785094513548:Unit:=()
def tw18147024617050567114:Unit:=()
def tw12185197680805536133:Unit:=()
def tw1306903943869942548:Unit:=()
def tw17214502392421508491:Unit:=()
def tw15061828204655988081:Unit:=()
def tw11636562592780020076:Unit:=()
def tw1002830308911065943:Unit:=()
def tw17766901471366689260:Unit:=()
def tw1926991212216660437:Unit:=()
def tw4383369399838426016:Unit:=()
def tw11310223173770902334:Unit:=()
def tw4026129790854216288:Unit:=()
def tw6575985396186443384:Unit:=()
def tw15034956847897086697:Unit:=()
def tw7245567655584523147:Unit:=()
def tw17505209318328190770:Unit:=()
def tw1918607343636116806:Unit:=()
def tw8977749796251787924:Unit:=()
def tw5751255717367655869:Unit:=()
def tw16037108776660034904:Unit:=()
def tw14077019450288258108:Unit:=()
def tw15146377400494281044:Unit:=()
def tw15949458892786886322:Unit:=()
def tw14735364818105901980:Unit:=()
def tw3233263171179289078:Unit:=()
def tw3089876916483827117:Unit:=()
def tw15875289079836529722:Unit:=()
def tw3677351126726928774:Unit:=()
def tw1760962919293812369:Unit:=()
def tw4917441326734041077:Unit:=()
def tw13992801281905707911:Unit:=()
def tw6939667500862650497:Unit:=()
def tw13237243757966473029:Unit:=()
def tw13273972605592518094:Unit:=()
def tw14839111782430666255:Unit:=()
def tw15854294020094327279:Unit:=()
def tw1202502437776625567:Unit:=()
def tw8550136292614572735:Unit:=()
def tw10806746661843868774:Unit:=()
def tw11670557447663981809:Unit:=()
def tw12154605149461626404:Unit:=()
def tw16459821042640134132:Unit:=()
def tw8167641655592433226:Unit:=()
def tw7194059010443049355:Unit:=()
def tw7617271742478212158:Unit:=()
def tw16091928690326341684:Unit:=()
end PySem.W.Fast
open PySem PySem.W PyProof.Rows
set_option maxRecDepth 100000 in
set_option maxHeartbeats 0 in
theorem PySem.Challenge.cw_evenpieces_k49_what_bounds_refuse_holds : PySem.Challenge.rw_evenpieces_k49_what_bounds_refuse.Holds := by
 w_on;o_law;k_head;(case hw=>w_witness2)
 k_fill
 refine Ev.walk (l:=PySem.Challenge.rw_evenpieces_k49_what_bounds_refuse) rfl rfl (by rfl) ?F
 case F=>
  intro w mg fa h KX G hmg
  refine' Ev.all_mk KX G hmg (Ev.fd_mk KX G ?f0a ?f0l ?f0c ?f0k) (Ev.fd_mk KX G ?f1a ?f1l ?f1c ?f1k) (Ev.fd_mk KX G ?f2a ?f2l ?f2c ?f2k) (Ev.fd_mk KX G ?f3a ?f3l ?f3c ?f3k) (Ev.fd_mk KX G ?f4a ?f4l ?f4c ?f4k) (Ev.fd_mk KX G ?f5a ?f5l ?f5c ?f5k) (Ev.fd_mk KX G ?f6a ?f6l ?f6c ?f6k) (Ev.fd_mk KX G ?f7a ?f7l ?f7c ?f7k) (Ev.fd_mk KX G ?f8a ?f8l ?f8c ?f8k) (Ev.fd_mk KX G ?f9a ?f9l ?f9c ?f9k) (Ev.fd_mk KX G ?f10a ?f10l ?f10c ?f10k) (Ev.fd_mk KX G ?f11a ?f11l ?f11c ?f11k) (Ev.fd_mk KX G ?f12a ?f12l ?f12c ?f12k) (Ev.fd_mk KX G ?f13a ?f13l ?f13c ?f13k) (Ev.fd_mk KX G ?f14a ?f14l ?f14c ?f14k) (Ev.fd_mk KX G ?f15a ?f15l ?f15c ?f15k) (Ev.fd_mk KX G ?f16a ?f16l ?f16c ?f16k) (Ev.fd_mk KX G ?f17a ?f17l ?f17c ?f17k) (Ev.fd_mk KX G ?f18a ?f18l ?f18c ?f18k) (Ev.fd_mk KX G ?f19a ?f19l ?f19c ?f19k) (Ev.fd_mk KX G ?f20a ?f20l ?f20c ?f20k) (Ev.fd_mk KX G ?f21a ?f21l ?f21c ?f21k) (Ev.fd_mk KX G ?f22a ?f22l ?f22c ?f22k) (Ev.fd_mk KX G ?f23a ?f23l ?f23c ?f23k) (Ev.fd_mk KX G ?f24a ?f24l ?f24c ?f24k) (Ev.fd_mk KX G ?f25a ?f25l ?f25c ?f25k) (Ev.fd_mk KX G ?f26a ?f26l ?f26c ?f26k) (Ev.fd_mk KX G ?f27a ?f27l ?f27c ?f27k) (Ev.fd_mk KX G ?f28a ?f28l ?f28c ?f28k) (Ev.fd_mk KX G ?f29a ?f29l ?f29c ?f29k) (Ev.fd_mk KX G ?f30a ?f30l ?f30c ?f30k) (Ev.fd_mk KX G ?f31a ?f31l ?f31c ?f31k) (Ev.fd_mk KX G ?f32a ?f32l ?f32c ?f32k) (Ev.fd_mk KX G ?f33a ?f33l ?f33c ?f33k) (Ev.fd_mk KX G ?f34a ?f34l ?f34c ?f34k) (Ev.fd_mk KX G ?f35a ?f35l ?f35c ?f35k) (Ev.fd_mk KX G ?f36a ?f36l ?f36c ?f36k) (Ev.fd_mk KX G ?f37a ?f37l ?f37c ?f37k) (Ev.fd_mk KX G ?f38a ?f38l ?f38c ?f38k) (Ev.fd_mk KX G ?f39a ?f39l ?f39c ?f39k) (Ev.fd_mk KX G ?f40a ?f40l ?f40c ?f40k) (Ev.fd_mk KX G ?f41a ?f41l ?f41c ?f41k) (Ev.fd_mk KX G ?f42a ?f42l ?f42c ?f42k) (Ev.fd_mk KX G ?f43a ?f43l ?f43c ?f43k) (Ev.fd_mk KX G ?f44a ?f44l ?f44c ?f44k) (Ev.md_mk ?m0a ?m0i ?m0l ?m0c ?m0k) (Ev.md_mk ?m1a ?m1i ?m1l ?m1c ?m1k) (Ev.md_mk ?m2a ?m2i ?m2l ?m2c ?m2k) (Ev.md_mk ?m3a ?m3i ?m3l ?m3c ?m3k) (Ev.md_mk ?m4a ?m4i ?m4l ?m4c ?m4k) (Ev.md_mk ?m5a ?m5i ?m5l ?m5c ?m5k) (Ev.md_mk ?m6a ?m6i ?m6l ?m6c ?m6k) (Ev.md_mk ?m7a ?m7i ?m7l ?m7c ?m7k) (Ev.md_mk ?m8a ?m8i ?m8l ?m8c ?m8k) (Ev.md_mk ?m9a ?m9i ?m9l ?m9c ?m9k) (Ev.md_mk ?m10a ?m10i ?m10l ?m10c ?m10k) (Ev.md_mk ?m11a ?m11i ?m11l ?m11c ?m11k) ?al ?ll ?cl ?ch ?aW ?aG ?c8 ?c9 ?c10 ?c11 ?wpg ?whd ?wpo ?wsa ?wmk ?wkc ?gpg ?ghd ?gpo ?gsa ?gmk ?gkc ?nS ?nP ?nN ?nW ?nG ?nY ?iha ?ihn ?itk ?imo ?z0 ?z1 ?z2 ?z3 ?z4 ?z5 ?z6 ?z7 ?z8 ?z9 ?z10 ?z11 ?z12 ?z13 ?z14 ?z15 ?z16 ?zV ?eE ?eR ?xR ?eL ?xL ?eS ?xS ?eT ?xT ?eP ?xP ?ra ?rn (Ev.rules_at ?rm ?rs ?rl ?re ?u0 ?u1 ?u2 ?u3 ?u4 ?u5 ?u6 ?u7 ?u8 ?u9 ?u10 ?u11 ?u12 ?u13 ?u14 ?u15 ?u16)
  (case aW=>k_is);(case aG=>k_is);(case eE=>k_is);(case eR=>k_is);(case eL=>k_is);(case eS=>k_is);(case eT=>k_is);(case eP=>k_is)
  (case f0a=>k_is);(case f0l=>k_is);(case f0c=>k_is);(case f0k=>k_is)
  (case f1a=>k_is);(case f1l=>k_is);(case f1c=>k_is);(case f1k=>k_is)
  (case f2a=>k_is);(case f2l=>k_is);(case f2c=>k_is);(case f2k=>k_is)
  (case f3a=>k_is);(case f3l=>k_is);(case f3c=>k_is);(case f3k=>k_is)
  (case f4a=>k_is);(case f4l=>k_is);(case f4c=>k_is);(case f4k=>k_is)
  (case f5a=>k_is);(case f5l=>k_is);(case f5c=>k_is);(case f5k=>k_is)
  (case f6a=>k_is);(case f6l=>k_is);(case f6c=>k_is);(case f6k=>k_is)
  (case f7a=>k_is);(case f7l=>k_is);(case f7c=>k_is);(case f7k=>k_is)
  (case f8a=>k_is);(case f8l=>k_is);(case f8c=>k_is);(case f8k=>k_is)
  (case f9a=>k_is);(case f9l=>k_is);(case f9c=>k_is);(case f9k=>k_is)
  (case f10a=>k_is);(case f10l=>k_is);(case f10c=>k_is);(case f10k=>k_is)
  (case f11a=>k_is);(case f11l=>k_is);(case f11c=>k_is);(case f11k=>k_is)
  (case f12a=>k_is);(case f12l=>k_is);(case f12c=>k_is);(case f12k=>k_is)
  (case f13a=>k_is);(case f13l=>k_is);(case f13c=>k_is);(case f13k=>k_is)
  (case f14a=>k_is);(case f14l=>k_is);(case f14c=>k_is);(case f14k=>k_is)
  (case f15a=>k_is);(case f15l=>k_is);(case f15c=>k_is);(case f15k=>k_is)
  (case f16a=>k_is);(case f16l=>k_is);(case f16c=>k_is);(case f16k=>k_is)
  (case f17a=>k_is);(case f17l=>k_is);(case f17c=>k_is);(case f17k=>k_is)
  (case f18a=>k_is);(case f18l=>k_is);(case f18c=>k_is);(case f18k=>k_is)
  (case f19a=>k_is);(case f19l=>k_is);(case f19c=>k_is);(case f19k=>k_is)
  (case f20a=>k_is);(case f20l=>k_is);(case f20c=>k_is);(case f20k=>k_is)
  (case f21a=>k_is);(case f21l=>k_is);(case f21c=>k_is);(case f21k=>k_is)
  (case f22a=>k_is);(case f22l=>k_is);(case f22c=>k_is);(case f22k=>k_is)
  (case f23a=>k_is);(case f23l=>k_is);(case f23c=>k_is);(case f23k=>k_is)
  (case f24a=>k_is);(case f24l=>k_is);(case f24c=>k_is);(case f24k=>k_is)
  (case f25a=>k_is);(case f25l=>k_is);(case f25c=>k_is);(case f25k=>k_is)
  (case f26a=>k_is);(case f26l=>k_is);(case f26c=>k_is);(case f26k=>k_is)
  (case f27a=>k_is);(case f27l=>k_is);(case f27c=>k_is);(case f27k=>k_is)
  (case f28a=>k_is);(case f28l=>k_is);(case f28c=>k_is);(case f28k=>k_is)
  (case f29a=>k_is);(case f29l=>k_is);(case f29c=>k_is);(case f29k=>k_is)
  (case f30a=>k_is);(case f30l=>k_is);(case f30c=>k_is);(case f30k=>k_is)
  (case f31a=>k_is);(case f31l=>k_is);(case f31c=>k_is);(case f31k=>k_is)
  (case f32a=>k_is);(case f32l=>k_is);(case f32c=>k_is);(case f32k=>k_is)
  (case f33a=>k_is);(case f33l=>k_is);(case f33c=>k_is);(case f33k=>k_is)
  (case f34a=>k_is);(case f34l=>k_is);(case f34c=>k_is);(case f34k=>k_is)
  (case f35a=>k_is);(case f35l=>k_is);(case f35c=>k_is);(case f35k=>k_is)
  (case f36a=>k_is);(case f36l=>k_is);(case f36c=>k_is);(case f36k=>k_is)
  (case f37a=>k_is);(case f37l=>k_is);(case f37c=>k_is);(case f37k=>k_is)
  (case f38a=>k_is);(case f38l=>k_is);(case f38c=>k_is);(case f38k=>k_is)
  (case f39a=>k_is);(case f39l=>k_is);(case f39c=>k_is);(case f39k=>k_is)
  (case f40a=>k_is);(case f40l=>k_is);(case f40c=>k_is);(case f40k=>k_is)
  (case f41a=>k_is);(case f41l=>k_is);(case f41c=>k_is);(case f41k=>k_is)
  (case f42a=>k_is);(case f42l=>k_is);(case f42c=>k_is);(case f42k=>k_is)
  (case f43a=>k_is);(case f43l=>k_is);(case f43c=>k_is);(case f43k=>k_is)
  (case f44a=>k_is);(case f44l=>k_is);(case f44c=>k_is);(case f44k=>k_is)
  (case m0a=>k_is);(case m0i=>k_is);(case m0l=>k_is);(case m0c=>k_is);(case m0k=>k_is)
  (case m1a=>k_is);(case m1i=>k_is);(case m1l=>k_is);(case m1c=>k_is);(case m1k=>k_is)
  (case m2a=>k_is);(case m2i=>k_is);(case m2l=>k_is);(case m2c=>k_is);(case m2k=>k_is)
  (case m3a=>k_is);(case m3i=>k_is);(case m3l=>k_is);(case m3c=>k_is);(case m3k=>k_is)
  (case m4a=>k_is);(case m4i=>k_is);(case m4l=>k_is);(case m4c=>k_is);(case m4k=>k_is)
  (case m5a=>k_is);(case m5i=>k_is);(case m5l=>k_is);(case m5c=>k_is);(case m5k=>k_is)
  (case m6a=>k_is);(case m6i=>k_is);(case m6l=>k_is);(case m6c=>k_is);(case m6k=>k_is)
  (case m7a=>k_is);(case m7i=>k_is);(case m7l=>k_is);(case m7c=>k_is);(case m7k=>k_is)
  (case m8a=>k_is);(case m8i=>k_is);(case m8l=>k_is);(case m8c=>k_is);(case m8k=>k_is)
  (case m9a=>k_is);(case m9i=>k_is);(case m9l=>k_is);(case m9c=>k_is);(case m9k=>k_is)
  (case m10a=>k_is);(case m10i=>k_is);(case m10l=>k_is);(case m10c=>k_is);(case m10k=>k_is)
  (case m11a=>k_is);(case m11i=>k_is);(case m11l=>k_is);(case m11c=>k_is);(case m11k=>k_is)
  (case al=>k_is);(case ll=>k_is);(case cl=>k_is);(case ch=>kernel_rfl);(case c8=>k_is);(case c9=>k_is);(case c10=>k_is);(case c11=>k_is);(case wpg=>k_is);(case whd=>k_is);(case wpo=>k_is);(case wsa=>k_is);(case wmk=>k_is);(case wkc=>k_is);(case gpg=>k_is);(case ghd=>k_is);(case gpo=>k_is);(case gsa=>k_is);(case gmk=>k_is);(case gkc=>k_is);(case nS=>k_is);(case nP=>k_is);(case nN=>k_is);(case nW=>k_is);(case nG=>k_is);(case nY=>k_is);(case iha=>k_is);(case ihn=>k_is);(case itk=>k_is);(case imo=>k_is);(case z0=>k_is);(case z1=>k_is);(case z2=>k_is);(case z3=>k_is);(case z4=>k_is);(case z5=>k_is);(case z6=>k_is);(case z7=>k_is);(case z8=>k_is);(case z9=>k_is);(case z10=>k_is);(case z11=>k_is);(case z12=>k_is);(case z13=>k_is);(case z14=>k_is);(case z15=>k_is);(case z16=>k_is);(case zV=>k_is);(case xR=>k_exc);(case xL=>k_exc);(case xS=>k_exc);(case xT=>k_exc);(case xP=>k_exc);(case ra=>kernel_rfl)
  (case rn=>decide)
  case' rm=>refine' PySem.W.mg_of KX G ?rmn
  (first|(case rmn=>k_is)|(case rm=>k_is))
  (case rl=>k_is)
  (case rs=>rfl)
  (case re=>rfl)
  (case u0=>k_is);(case u1=>k_is);(case u2=>k_is);(case u3=>k_is);(case u4=>k_is);(case u5=>k_is);(case u6=>k_is);(case u7=>k_is);(case u8=>k_is);(case u9=>k_is);(case u10=>k_is);(case u11=>k_is);(case u12=>k_is);(case u13=>k_is);(case u14=>k_is);(case u15=>k_is);(case u16=>k_is)
